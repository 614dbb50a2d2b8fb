/- GainPlays holds: for every case (a matrix, a number, a Boolean and a row) the call returns true and leaves its arguments alone. Condition: the table of places holds what the program's text lays (the card ties it; over the packages that the law's code loads). -/
import Derived.Test.YtccpcabhcfpbfaaDoorArgs
import Derived.Test.YtccpcabhcfpbfaaDoorVecArgs
import Derived.Test.YtccpcabhcfpbfaaDoorGaiArgs
import Derived.Test.YtccpcabhcfpbfaaDoorGaiG
import Derived.Test.YtccpcabhcfpbfaaDoorTie
import Derived.Test.YtccpcabhcfpbfaaDoorCards
import Derived.SevenTiedAt
namespace Go.Proofs.YtccpcabhcfpbfaaDoor
open Go.ChangeShapes Go.WideShapes Go.ChangeAt Go.RowKit Go.Joins

set_option maxRecDepth 100000 in
theorem gainPlays_lifted (os : Os) (started : os.Started) (H : Type) (enc : TypeId × Value → H) :
    ReturnsInHanded {} Tryd.checked os 3 .any (fun w args => (Rows.gainPlaysSpec.pre enc Tryd.prog Tryd.f3 [] false w args ∧ laidMetH Tryd.prog tabs w) ∧ sizedMet enc Tryd.prog Tryd.f3 (OpenSpec.ofChange Rows.gainPlaysSpec) false w args)
      (Rows.gainPlaysSpec.post enc Tryd.prog Tryd.f3 false true false false) := by
  refine returnsInHanded_of_change_and (C := Tryd.checked) (X := fun w _ => laidMetH Tryd.prog tabs w) (fun _ _ _ hh h => h.of_heap hh) Tryd.own started (by kernel_rfl) Tryd.func3
    (ChangeSpec.witness_shaped (enc := enc) (C := Tryd.checked) (os := os) (X := fun w _ => laidMetH Tryd.prog tabs w) false (World.doorLaid Tryd.prog 400 os) #[.agg #[.int .i64 0, .int .i64 0, .int .i64 0, .int .i64 0, .int .i64 0, .int .i64 0, .int .i64 0, .bool false, .int .i64 0, .int .i64 0, .int .i64 0]] 8 rfl (World.shaped_of_RefB (by kernel_rfl) (by kernel_rfl)) (by kernel_rfl) (by kernel_rfl) (by kernel_rfl) (door_met os _)) ?_
  intro W base args ds gs before hval0 hW _ _ hL _
  have hval : ∀ (j : Nat) t v, Tryd.f3.params[j]? = some t → args[j]? = some v → Value.okWide Tryd.prog W .any base t v := hval0
  have hW' := hW
  obtain ⟨p, q, hA0, hV, rfl, hfz, hnd⟩ := hW
  have hA : DataW.TrodAll enc Tryd.prog W 0 (fun _ => true) true Tryd.f3.params.toList args.toList ds p := hA0
  rw [Tryd.params3] at hA hval
  obtain ⟨v0, d0, rfl, rfl, q0⟩ := trodAll_one hA
  obtain ⟨rfl, rfl⟩ := trodVars_none hV
  obtain ⟨x00, x01, x02, x03, x04, x05, s0, b0, y00, y01, y02, rfl, rfl, rfl, k00, k01, k02, k03, k04, k05, k06, k07, k08, k09⟩ := open_case (hval 0 27 v0 rfl rfl) q0
  have hp := of_laid hL
  clear hA0 hval0
  simp only [List.append_nil] at hW'
  refine (gainPlays_any (mof x00 x01 x02 x03 x04 x05) s0 b0 y00 y01 y02 (i6_of k00 k01 k02 k03 k04 k05) (wf_i64 k06) (wf_i64 k07) (wf_i64 k08) (wf_i64 k09) W hp).mono fun e W' ⟨he, hb⟩ => ?_
  subst he
  exact ⟨_, rfl, post_flat hW' (fun _ _ _ => trodAll_mk1 (shut_bool Tryd.underlying4 _)) (fun sp => trodAll_mk1 (shut_case k00 k01 k02 k03 k04 k05 k06 k07 k08 k09)) (fun _ => rfl) hb (ok_one (by kernel_rfl) rfl (okWide_bool_mk Tryd.underlying4 _))⟩

theorem gainPlays_holds : Rows.GainPlaysSaid :=
  OpenClaim.holds_of_wide 3 Tryd.f3 rfl rfl rfl rfl rfl rfl rfl ⟨rfl, rfl, rfl, rfl, rfl⟩ rfl rfl rfl rfl rfl (by kernel_rfl) Tryd.func3 (by kernel_rfl)
    (of_decide_eq_true (by kernel_rfl)) (by unfold Func.isWrapper; first | (rw [if_pos (by decide +kernel)]; kernel_rfl) | (rw [if_neg (by decide +kernel)]; exact ⟨rfl, rfl⟩))
    (fun os started H enc _ => gainPlays_lifted os started H enc)

theorem gainPlays_card : Rows.GainPlaysCardSaid :=
  Claim7.holds_tied_plain_at .later [] [.data] true _ false
    gainPlays_holds (fun _ h => by cases h) (by kernel_rfl) (fun _ h => by cases h) gainPlays_row_tie rfl ⟨rfl, rfl⟩ (by kernel_rfl) rfl
    (fun f fn hf hfn => by
      obtain rfl : f = 3 := Option.some.inj ((show Tryd.prog.funcNamed "aneroid/aneroidlaw11.GainPlays" = some 3 by kernel_rfl).symm.trans hf) |>.symm
      obtain rfl : fn = Tryd.f3 := (Option.some.inj (Tryd.func3.symm.trans hfn)).symm
      exact ⟨by kernel_rfl, fun j t ht => by
        rw [Tryd.params3] at ht
        have hm : t ∈ [27] := by simpa using Array.mem_of_getElem? ht
        have hall : ([27].all fun u => !Tryd.prog.wantsStandIn u) = true := by kernel_rfl
        exact (show Tryd.prog.wantsStandIn t = false by simpa using List.all_eq_true.1 hall t hm)⟩)
    (by kernel_rfl)
#print axioms gainPlays_card

end Go.Proofs.YtccpcabhcfpbfaaDoor
