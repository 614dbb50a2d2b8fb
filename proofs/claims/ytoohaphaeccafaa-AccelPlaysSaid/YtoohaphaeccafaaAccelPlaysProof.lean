/- AccelPlays holds: for every configuration, every slice of counts and every place of the copy the call returns true and leaves its arguments alone. No condition. -/
import Derived.Test.YtoohaphaeccafaaArgs
import Derived.Test.YtoohaphaeccafaaConArgs
import Derived.Test.YtoohaphaeccafaaListArgs
import Derived.Test.YtoohaphaeccafaaAccD
namespace Go.Proofs.Ytoohaphaeccafaa
open Go.ChangeShapes Go.WideShapes Go.ChangeAt Go.RowKit Go.Joins

set_option maxRecDepth 100000 in
theorem accelPlays_lifted (os : Os) (started : os.Started) (H : Type) (enc : TypeId × Value → H) :
    ReturnsInHanded {} Try.checked os 3 .any (Rows.accelPlaysSpec.pre6 enc Try.prog Try.f3 Rows.accelPlaysRow.domain false) (Rows.accelPlaysSpec.post enc Try.prog Try.f3 false true false false) := by
  refine returnsInHanded_of_change (C := Try.checked) Try.own started (by kernel_rfl) Try.func3
    (ChangeSpec.witness6 (enc := enc) (C := Try.checked) false ⟨#[], #[.agg #[.int .i64 0, .int .i64 0, .int .i64 0, .int .i64 0, .int .i64 0, .int .i64 0, .int .i64 0, .int .i64 0, .int .i64 0, .int .i64 0, .int .i64 0, .int .i64 0, .int .i64 0, .int .i64 0, .int .i64 0, .int .i64 0, .int .i64 0, .int .i64 0, .int .i64 0, .int .i64 0, .int .i64 0, .int .i64 0, .int .i64 0, .int .i64 0, .int .i64 0, .int .i64 0, .int .i64 0, .int .i64 0, .int .i64 0, .int .i64 0, .int .i64 0], .slice none 0 0, .int .u8 0], []⟩ 8 (by kernel_rfl) (by kernel_rfl) (by kernel_rfl) (by kernel_rfl)) ?_
  intro W base args ds gs before hval0 hW hcnd _
  have hval : ∀ (j : Nat) t v, Try.f3.params[j]? = some t → args[j]? = some v → Value.okWide Try.prog W .any base t v := hval0
  have hW' := hW
  obtain ⟨p, q, hA0, hV, rfl, hfz, hnd⟩ := hW
  have hA : DataW.TrodAll enc Try.prog W 0 (fun _ => true) true Try.f3.params.toList args.toList ds p := hA0
  rw [Try.params3] at hA hval
  obtain ⟨v0, v1, v2, d0, d1, d2, p0, p1, p2, rfl, rfl, rfl, q0, q1, q2⟩ := trodAll_three hA
  obtain ⟨rfl, rfl⟩ := trodVars_none hV
  obtain ⟨x0, rfl, rfl, rfl, k0⟩ := open_conf (hval 0 25 v0 rfl rfl) q0
  obtain ⟨s1, l1, c1, z1, rfl, hm1, hz1, hw1, hc1, hag1⟩ := open_list (hval 1 26 v1 rfl rfl) q1
  obtain ⟨x2, rfl, rfl, rfl, k2⟩ := open_int Try.underlying5 (hval 2 5 v2 rfl rfl) q2
  clear hA0 hval0
  simp only [List.append_nil, List.nil_append] at hW'
  refine (accelPlays_any x0 (fun i h => wf_i64 (k0 i h)) s1 l1 c1 z1 x2 (wf_u8 k2).1 (wf_u8 k2).2 hm1 W hc1).mono fun e W' ⟨he, hb⟩ => ?_
  subst he
  exact ⟨_, rfl, post_kept hW' (fun _ _ _ => trodAll_mk1 (shut_bool Try.underlying4 _)) (fun sp hsp => trodAll_mk3 (shut_conf k0) (hag1 _ hb sp hsp) (shut_int Try.underlying5 k2)) (fun _ _ => rfl) (by simp) hb (ok_one (by kernel_rfl) rfl (okWide_bool_mk Try.underlying4 _))⟩

theorem accelPlays_holds : Rows.AccelPlaysSaid :=
  OpenClaim.holds_of_wide 3 Try.f3 rfl rfl rfl rfl rfl rfl rfl ⟨rfl, rfl, rfl, rfl, rfl⟩ rfl rfl rfl rfl rfl (by kernel_rfl) Try.func3 (by kernel_rfl)
    (of_decide_eq_true (by kernel_rfl)) (by unfold Func.isWrapper; first | (rw [if_pos (by decide +kernel)]; kernel_rfl) | (rw [if_neg (by decide +kernel)]; exact ⟨rfl, rfl⟩))
    (fun os started H enc _ => accelPlays_lifted os started H enc)
#print axioms accelPlays_holds

end Go.Proofs.Ytoohaphaeccafaa
