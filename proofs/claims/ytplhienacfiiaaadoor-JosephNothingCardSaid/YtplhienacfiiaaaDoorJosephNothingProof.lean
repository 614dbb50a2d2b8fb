/- JosephNothing holds: for every two rows and every matrix the call returns true and leaves its arguments alone. Condition: the table of places holds what the program's text lays (the card ties it; over the packages that the law's code loads). -/
import Derived.Test.YtplhienacfiiaaaDoorArgs
import Derived.Test.YtplhienacfiiaaaDoorVecArgs
import Derived.Test.YtplhienacfiiaaaDoorSymArgs
import Derived.Test.YtplhienacfiiaaaDoorJosJ
import Derived.Test.YtplhienacfiiaaaDoorTie
import Derived.Test.YtplhienacfiiaaaDoorCards
import Derived.SevenTiedAt
namespace Go.Proofs.YtplhienacfiiaaaDoor
open Go.ChangeShapes Go.WideShapes Go.ChangeAt Go.RowKit Go.Joins

set_option maxRecDepth 100000 in
theorem josephNothing_lifted (os : Os) (started : os.Started) (H : Type) (enc : TypeId × Value → H) :
    ReturnsInHanded {} Tryd.checked os 5 .any (fun w args => (Rows.josephNothingSpec.pre enc Tryd.prog Tryd.f5 [] false w args ∧ laidMetH Tryd.prog tabs w) ∧ sizedMet enc Tryd.prog Tryd.f5 (OpenSpec.ofChange Rows.josephNothingSpec) false w args)
      (Rows.josephNothingSpec.post enc Tryd.prog Tryd.f5 false true false false) := by
  refine returnsInHanded_of_change_and (C := Tryd.checked) (X := fun w _ => laidMetH Tryd.prog tabs w) (fun _ _ _ hh h => h.of_heap hh) Tryd.own started (by kernel_rfl) Tryd.func5
    (ChangeSpec.witness_shaped (enc := enc) (C := Tryd.checked) (os := os) (X := fun w _ => laidMetH Tryd.prog tabs w) false (World.doorLaid Tryd.prog 400 os) #[.agg #[.int .i64 0, .int .i64 0, .int .i64 0], .agg #[.int .i64 0, .int .i64 0, .int .i64 0], .agg #[.int .i64 0, .int .i64 0, .int .i64 0, .int .i64 0, .int .i64 0, .int .i64 0]] 8 rfl (World.shaped_of_RefB (by kernel_rfl) (by kernel_rfl)) (by kernel_rfl) (by kernel_rfl) (by kernel_rfl) (door_met os _)) ?_
  intro W base args ds gs before hval0 hW _ _ hL _
  have hval : ∀ (j : Nat) t v, Tryd.f5.params[j]? = some t → args[j]? = some v → Value.okWide Tryd.prog W .any base t v := hval0
  have hW' := hW
  obtain ⟨p, q, hA0, hV, rfl, hfz, hnd⟩ := hW
  have hA : DataW.TrodAll enc Tryd.prog W 0 (fun _ => true) true Tryd.f5.params.toList args.toList ds p := hA0
  rw [Tryd.params5] at hA hval
  obtain ⟨v0, v1, v2, d0, d1, d2, p0, p1, p2, rfl, rfl, rfl, q0, q1, q2⟩ := trodAll_three hA
  obtain ⟨rfl, rfl⟩ := trodVars_none hV
  obtain ⟨x0, y0, z0, rfl, rfl, rfl, k0, m0, n0⟩ := open_vec (hval 0 23 v0 rfl rfl) q0
  obtain ⟨x1, y1, z1, rfl, rfl, rfl, k1, m1, n1⟩ := open_vec (hval 1 23 v1 rfl rfl) q1
  obtain ⟨x20, x21, x22, x23, x24, x25, rfl, rfl, rfl, k20, k21, k22, k23, k24, k25⟩ := open_sym (hval 2 32 v2 rfl rfl) q2
  have hp := of_laid hL
  clear hA0 hval0
  simp only [List.append_nil] at hW'
  refine (josephNothing_any x0 y0 z0 x1 y1 z1 (mof x20 x21 x22 x23 x24 x25) (wf_i64 k0) (wf_i64 m0) (wf_i64 n0) (wf_i64 k1) (wf_i64 m1) (wf_i64 n1) (i6_of k20 k21 k22 k23 k24 k25) W hp).mono fun e W' ⟨he, hb⟩ => ?_
  subst he
  exact ⟨_, rfl, post_flat hW' (fun _ _ _ => trodAll_mk1 (shut_bool Tryd.underlying4 _)) (fun sp => trodAll_mk3 (shut_vec k0 m0 n0) (shut_vec k1 m1 n1) (shut_sym k20 k21 k22 k23 k24 k25)) (fun _ => rfl) hb (ok_one (by kernel_rfl) rfl (okWide_bool_mk Tryd.underlying4 _))⟩

theorem josephNothing_holds : Rows.JosephNothingSaid :=
  OpenClaim.holds_of_wide 5 Tryd.f5 rfl rfl rfl rfl rfl rfl rfl ⟨rfl, rfl, rfl, rfl, rfl⟩ rfl rfl rfl rfl rfl (by kernel_rfl) Tryd.func5 (by kernel_rfl)
    (of_decide_eq_true (by kernel_rfl)) (by unfold Func.isWrapper; first | (rw [if_pos (by decide +kernel)]; kernel_rfl) | (rw [if_neg (by decide +kernel)]; exact ⟨rfl, rfl⟩))
    (fun os started H enc _ => josephNothing_lifted os started H enc)

theorem josephNothing_card : Rows.JosephNothingCardSaid :=
  Claim7.holds_tied_plain_at .later [] [.data] true _ false
    josephNothing_holds (fun _ h => by cases h) (by kernel_rfl) (fun _ h => by cases h) josephNothing_row_tie rfl ⟨rfl, rfl⟩ (by kernel_rfl) rfl
    (fun f fn hf hfn => by
      obtain rfl : f = 5 := Option.some.inj ((show Tryd.prog.funcNamed "aneroid/aneroidlaw12.JosephNothing" = some 5 by kernel_rfl).symm.trans hf) |>.symm
      obtain rfl : fn = Tryd.f5 := (Option.some.inj (Tryd.func5.symm.trans hfn)).symm
      exact ⟨by kernel_rfl, fun j t ht => by
        rw [Tryd.params5] at ht
        have hm : t ∈ [23, 23, 32] := by simpa using Array.mem_of_getElem? ht
        have hall : ([23, 23, 32].all fun u => !Tryd.prog.wantsStandIn u) = true := by kernel_rfl
        exact (show Tryd.prog.wantsStandIn t = false by simpa using List.all_eq_true.1 hall t hm)⟩)
    (by kernel_rfl)
#print axioms josephNothing_card

end Go.Proofs.YtplhienacfiiaaaDoor
