/- ModeRuns holds: for every slice of events and every two numbers the call returns true and leaves its arguments alone. No condition. -/
import Derived.Test.YtohbneijfibhhaaArgs
import Derived.Test.YtohbneijfibhhaaModArgs
import Derived.Test.YtohbneijfibhhaaModG
namespace Go.Proofs.Ytohbneijfibhhaa
open Go.ChangeShapes Go.WideShapes Go.ChangeAt Go.RowKit Go.Joins

set_option maxRecDepth 100000 in
theorem modeRuns_lifted (os : Os) (started : os.Started) (H : Type) (enc : TypeId × Value → H) :
    ReturnsInHanded {} Try.checked os 4 .any (Rows.modeRunsSpec.pre6 enc Try.prog Try.f4 Rows.modeRunsRow.domain false) (Rows.modeRunsSpec.post enc Try.prog Try.f4 false true false false) := by
  refine returnsInHanded_of_change (C := Try.checked) Try.own started (by kernel_rfl) Try.func4
    (ChangeSpec.witness6 (enc := enc) (C := Try.checked) false ⟨#[], #[.slice none 0 0, .int .i64 0, .int .i64 0], []⟩ 8 (by kernel_rfl) (by kernel_rfl) (by kernel_rfl) (by kernel_rfl)) ?_
  intro W base args ds gs before hval0 hW hcnd _
  have hval : ∀ (j : Nat) t v, Try.f4.params[j]? = some t → args[j]? = some v → Value.okWide Try.prog W .any base t v := hval0
  have hW' := hW
  obtain ⟨p, q, hA0, hV, rfl, hfz, hnd⟩ := hW
  have hA : DataW.TrodAll enc Try.prog W 0 (fun _ => true) true Try.f4.params.toList args.toList ds p := hA0
  rw [Try.params4] at hA hval
  obtain ⟨v0, v1, v2, d0, d1, d2, p0, p1, p2, rfl, rfl, rfl, q0, q1, q2⟩ := trodAll_three hA
  obtain ⟨rfl, rfl⟩ := trodVars_none hV
  obtain ⟨s0, l0, c0, z0, rfl, hm0, hz0, hw0, hc0, hag0⟩ := open_inlist (hval 0 30 v0 rfl rfl) q0
  obtain ⟨x1, rfl, rfl, rfl, k1⟩ := open_int Try.underlying2 (hval 1 2 v1 rfl rfl) q1
  obtain ⟨x2, rfl, rfl, rfl, k2⟩ := open_int Try.underlying2 (hval 2 2 v2 rfl rfl) q2
  clear hA0 hval0
  simp only [List.append_nil] at hW'
  refine (modeRuns_any s0 l0 c0 (fun k => z0.getD k 0) x1 x2 (wf_i64 k2).2 W hc0).mono fun e W' ⟨he, hb⟩ => ?_
  subst he
  exact ⟨_, rfl, post_kept hW' (fun _ _ _ => trodAll_mk1 (shut_bool Try.underlying4 _)) (fun sp hsp => trodAll_mk3 (hag0 _ hb sp hsp) (shut_int Try.underlying2 k1) (shut_int Try.underlying2 k2)) (fun _ _ => rfl) (by simp) hb (ok_one (by kernel_rfl) rfl (okWide_bool_mk Try.underlying4 _))⟩

theorem modeRuns_holds : Rows.ModeRunsSaid :=
  OpenClaim.holds_of_wide 4 Try.f4 rfl rfl rfl rfl rfl rfl rfl ⟨rfl, rfl, rfl, rfl, rfl⟩ rfl rfl rfl rfl rfl (by kernel_rfl) Try.func4 (by kernel_rfl)
    (of_decide_eq_true (by kernel_rfl)) (by unfold Func.isWrapper; first | (rw [if_pos (by decide +kernel)]; kernel_rfl) | (rw [if_neg (by decide +kernel)]; exact ⟨rfl, rfl⟩))
    (fun os started H enc _ => modeRuns_lifted os started H enc)
#print axioms modeRuns_holds

end Go.Proofs.Ytohbneijfibhhaa
