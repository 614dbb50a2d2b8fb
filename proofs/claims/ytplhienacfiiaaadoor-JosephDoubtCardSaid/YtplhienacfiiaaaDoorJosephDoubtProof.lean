/- JosephDoubt holds: for every matrix, every row and every number the call returns true and leaves its arguments alone. Condition: the table of places holds what the program's text lays (the card ties it; over the packages that the law's code loads). -/
import Derived.Test.YtplhienacfiiaaaDoorArgs
import Derived.Test.YtplhienacfiiaaaDoorVecArgs
import Derived.Test.YtplhienacfiiaaaDoorSymArgs
import Derived.Test.YtplhienacfiiaaaDoorJosS
import Derived.Test.YtplhienacfiiaaaDoorTie
import Derived.Test.YtplhienacfiiaaaDoorCards
import Derived.SevenTiedAt
namespace Go.Proofs.YtplhienacfiiaaaDoor
open Go.ChangeShapes Go.WideShapes Go.ChangeAt Go.RowKit Go.Joins

set_option maxRecDepth 100000 in
theorem josephDoubt_lifted (os : Os) (started : os.Started) (H : Type) (enc : TypeId × Value → H) :
    ReturnsInHanded {} Tryd.checked os 4 .any (fun w args => (Rows.josephDoubtSpec.pre enc Tryd.prog Tryd.f4 [] false w args ∧ laidMetH Tryd.prog tabs w) ∧ sizedMet enc Tryd.prog Tryd.f4 (OpenSpec.ofChange Rows.josephDoubtSpec) false w args)
      (Rows.josephDoubtSpec.post enc Tryd.prog Tryd.f4 false true false false) := by
  refine returnsInHanded_of_change_and (C := Tryd.checked) (X := fun w _ => laidMetH Tryd.prog tabs w) (fun _ _ _ hh h => h.of_heap hh) Tryd.own started (by kernel_rfl) Tryd.func4
    (ChangeSpec.witness_shaped (enc := enc) (C := Tryd.checked) (os := os) (X := fun w _ => laidMetH Tryd.prog tabs w) false (World.doorLaid Tryd.prog 400 os) #[.agg #[.int .i64 0, .int .i64 0, .int .i64 0, .int .i64 0, .int .i64 0, .int .i64 0], .agg #[.int .i64 0, .int .i64 0, .int .i64 0], .int .i64 0] 8 rfl (World.shaped_of_RefB (by kernel_rfl) (by kernel_rfl)) (by kernel_rfl) (by kernel_rfl) (by kernel_rfl) (door_met os _)) ?_
  intro W base args ds gs before hval0 hW _ _ hL _
  have hval : ∀ (j : Nat) t v, Tryd.f4.params[j]? = some t → args[j]? = some v → Value.okWide Tryd.prog W .any base t v := hval0
  have hW' := hW
  obtain ⟨p, q, hA0, hV, rfl, hfz, hnd⟩ := hW
  have hA : DataW.TrodAll enc Tryd.prog W 0 (fun _ => true) true Tryd.f4.params.toList args.toList ds p := hA0
  rw [Tryd.params4] at hA hval
  obtain ⟨v0, v1, v2, d0, d1, d2, p0, p1, p2, rfl, rfl, rfl, q0, q1, q2⟩ := trodAll_three hA
  obtain ⟨rfl, rfl⟩ := trodVars_none hV
  obtain ⟨x00, x01, x02, x03, x04, x05, rfl, rfl, rfl, k00, k01, k02, k03, k04, k05⟩ := open_sym (hval 0 32 v0 rfl rfl) q0
  obtain ⟨x1, y1, z1, rfl, rfl, rfl, k1, m1, n1⟩ := open_vec (hval 1 23 v1 rfl rfl) q1
  obtain ⟨x2, rfl, rfl, rfl, k2⟩ := open_int Tryd.underlying2 (hval 2 2 v2 rfl rfl) q2
  have hp := of_laid hL
  clear hA0 hval0
  simp only [List.append_nil] at hW'
  refine (josephDoubt_any (mof x00 x01 x02 x03 x04 x05) x1 y1 z1 x2 (i6_of k00 k01 k02 k03 k04 k05) (wf_i64 k1) (wf_i64 m1) (wf_i64 n1) (wf_i64 k2) W hp).mono fun e W' ⟨he, hb⟩ => ?_
  subst he
  exact ⟨_, rfl, post_flat hW' (fun _ _ _ => trodAll_mk1 (shut_bool Tryd.underlying4 _)) (fun sp => trodAll_mk3 (shut_sym k00 k01 k02 k03 k04 k05) (shut_vec k1 m1 n1) (shut_int Tryd.underlying2 k2)) (fun _ => rfl) hb (ok_one (by kernel_rfl) rfl (okWide_bool_mk Tryd.underlying4 _))⟩

theorem josephDoubt_holds : Rows.JosephDoubtSaid :=
  OpenClaim.holds_of_wide 4 Tryd.f4 rfl rfl rfl rfl rfl rfl rfl ⟨rfl, rfl, rfl, rfl, rfl⟩ rfl rfl rfl rfl rfl (by kernel_rfl) Tryd.func4 (by kernel_rfl)
    (of_decide_eq_true (by kernel_rfl)) (by unfold Func.isWrapper; first | (rw [if_pos (by decide +kernel)]; kernel_rfl) | (rw [if_neg (by decide +kernel)]; exact ⟨rfl, rfl⟩))
    (fun os started H enc _ => josephDoubt_lifted os started H enc)

theorem josephDoubt_card : Rows.JosephDoubtCardSaid :=
  Claim7.holds_tied_plain_at .later [] [.data] true _ false
    josephDoubt_holds (fun _ h => by cases h) (by kernel_rfl) (fun _ h => by cases h) josephDoubt_row_tie rfl ⟨rfl, rfl⟩ (by kernel_rfl) rfl
    (fun f fn hf hfn => by
      obtain rfl : f = 4 := Option.some.inj ((show Tryd.prog.funcNamed "aneroid/aneroidlaw12.JosephDoubt" = some 4 by kernel_rfl).symm.trans hf) |>.symm
      obtain rfl : fn = Tryd.f4 := (Option.some.inj (Tryd.func4.symm.trans hfn)).symm
      exact ⟨by kernel_rfl, fun j t ht => by
        rw [Tryd.params4] at ht
        have hm : t ∈ [32, 23, 2] := by simpa using Array.mem_of_getElem? ht
        have hall : ([32, 23, 2].all fun u => !Tryd.prog.wantsStandIn u) = true := by kernel_rfl
        exact (show Tryd.prog.wantsStandIn t = false by simpa using List.all_eq_true.1 hall t hm)⟩)
    (by kernel_rfl)
#print axioms josephDoubt_card

end Go.Proofs.YtplhienacfiiaaaDoor
