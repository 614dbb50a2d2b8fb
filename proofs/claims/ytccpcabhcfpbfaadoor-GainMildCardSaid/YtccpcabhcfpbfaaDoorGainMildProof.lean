/- GainMild holds: for every matrix and every number the call returns true and leaves its arguments alone. Condition: the table of places holds what the program's text lays (the card ties it; over the packages that the law's code loads). -/
import Derived.Test.YtccpcabhcfpbfaaDoorArgs
import Derived.Test.YtccpcabhcfpbfaaDoorVecArgs
import Derived.Test.YtccpcabhcfpbfaaDoorSymArgs
import Derived.Test.YtccpcabhcfpbfaaDoorGaiF
import Derived.Test.YtccpcabhcfpbfaaDoorTie
import Derived.Test.YtccpcabhcfpbfaaDoorCards
import Derived.SevenTiedAt
namespace Go.Proofs.YtccpcabhcfpbfaaDoor
open Go.ChangeShapes Go.WideShapes Go.ChangeAt Go.RowKit Go.Joins

set_option maxRecDepth 100000 in
theorem gainMild_lifted (os : Os) (started : os.Started) (H : Type) (enc : TypeId × Value → H) :
    ReturnsInHanded {} Tryd.checked os 4 .any (fun w args => (Rows.gainMildSpec.pre enc Tryd.prog Tryd.f4 [] false w args ∧ laidMetH Tryd.prog tabs w) ∧ sizedMet enc Tryd.prog Tryd.f4 (OpenSpec.ofChange Rows.gainMildSpec) false w args)
      (Rows.gainMildSpec.post enc Tryd.prog Tryd.f4 false true false false) := by
  refine returnsInHanded_of_change_and (C := Tryd.checked) (X := fun w _ => laidMetH Tryd.prog tabs w) (fun _ _ _ hh h => h.of_heap hh) Tryd.own started (by kernel_rfl) Tryd.func4
    (ChangeSpec.witness_shaped (enc := enc) (C := Tryd.checked) (os := os) (X := fun w _ => laidMetH Tryd.prog tabs w) false (World.doorLaid Tryd.prog 400 os) #[.agg #[.int .i64 0, .int .i64 0, .int .i64 0, .int .i64 0, .int .i64 0, .int .i64 0], .int .i64 0] 8 rfl (World.shaped_of_RefB (by kernel_rfl) (by kernel_rfl)) (by kernel_rfl) (by kernel_rfl) (by kernel_rfl) (door_met os _)) ?_
  intro W base args ds gs before hval0 hW _ _ hL _
  have hval : ∀ (j : Nat) t v, Tryd.f4.params[j]? = some t → args[j]? = some v → Value.okWide Tryd.prog W .any base t v := hval0
  have hW' := hW
  obtain ⟨p, q, hA0, hV, rfl, hfz, hnd⟩ := hW
  have hA : DataW.TrodAll enc Tryd.prog W 0 (fun _ => true) true Tryd.f4.params.toList args.toList ds p := hA0
  rw [Tryd.params4] at hA hval
  obtain ⟨v0, v1, d0, d1, p0, p1, rfl, rfl, rfl, q0, q1⟩ := trodAll_two hA
  obtain ⟨rfl, rfl⟩ := trodVars_none hV
  obtain ⟨x00, x01, x02, x03, x04, x05, rfl, rfl, rfl, k00, k01, k02, k03, k04, k05⟩ := open_sym (hval 0 23 v0 rfl rfl) q0
  obtain ⟨x1, rfl, rfl, rfl, k1⟩ := open_int Tryd.underlying2 (hval 1 2 v1 rfl rfl) q1
  have hp := of_laid hL
  clear hA0 hval0
  simp only [List.append_nil] at hW'
  refine (gainMild_any (mof x00 x01 x02 x03 x04 x05) x1 (i6_of k00 k01 k02 k03 k04 k05) (wf_i64 k1) W hp).mono fun e W' ⟨he, hb⟩ => ?_
  subst he
  exact ⟨_, rfl, post_flat hW' (fun _ _ _ => trodAll_mk1 (shut_bool Tryd.underlying4 _)) (fun sp => trodAll_mk2 (shut_sym k00 k01 k02 k03 k04 k05) (shut_int Tryd.underlying2 k1)) (fun _ => rfl) hb (ok_one (by kernel_rfl) rfl (okWide_bool_mk Tryd.underlying4 _))⟩

theorem gainMild_holds : Rows.GainMildSaid :=
  OpenClaim.holds_of_wide 4 Tryd.f4 rfl rfl rfl rfl rfl rfl rfl ⟨rfl, rfl, rfl, rfl, rfl⟩ rfl rfl rfl rfl rfl (by kernel_rfl) Tryd.func4 (by kernel_rfl)
    (of_decide_eq_true (by kernel_rfl)) (by unfold Func.isWrapper; first | (rw [if_pos (by decide +kernel)]; kernel_rfl) | (rw [if_neg (by decide +kernel)]; exact ⟨rfl, rfl⟩))
    (fun os started H enc _ => gainMild_lifted os started H enc)

theorem gainMild_card : Rows.GainMildCardSaid :=
  Claim7.holds_tied_plain_at .later [] [.data] true _ false
    gainMild_holds (fun _ h => by cases h) (by kernel_rfl) (fun _ h => by cases h) gainMild_row_tie rfl ⟨rfl, rfl⟩ (by kernel_rfl) rfl
    (fun f fn hf hfn => by
      obtain rfl : f = 4 := Option.some.inj ((show Tryd.prog.funcNamed "aneroid/aneroidlaw11.GainMild" = some 4 by kernel_rfl).symm.trans hf) |>.symm
      obtain rfl : fn = Tryd.f4 := (Option.some.inj (Tryd.func4.symm.trans hfn)).symm
      exact ⟨by kernel_rfl, fun j t ht => by
        rw [Tryd.params4] at ht
        have hm : t ∈ [23, 2] := by simpa using Array.mem_of_getElem? ht
        have hall : ([23, 2].all fun u => !Tryd.prog.wantsStandIn u) = true := by kernel_rfl
        exact (show Tryd.prog.wantsStandIn t = false by simpa using List.all_eq_true.1 hall t hm)⟩)
    (by kernel_rfl)
#print axioms gainMild_card

end Go.Proofs.YtccpcabhcfpbfaaDoor
