/- TapeTold holds: for every slice of what was told and every slice of bytes the call returns true and leaves its arguments alone. No condition. -/
import Derived.Test.YtfenmkcniiiglaaArgs
import Derived.Test.YtfenmkcniiiglaaTapArgs
import Derived.Test.YtfenmkcniiiglaaTolArgs
import Derived.Test.YtfenmkcniiiglaaTapS
namespace Go.Proofs.Ytfenmkcniiiglaa
open Go.ChangeShapes Go.WideShapes Go.ChangeAt Go.RowKit Go.Joins

set_option maxRecDepth 100000 in
theorem tapeTold_lifted (os : Os) (started : os.Started) (H : Type) (enc : TypeId × Value → H) :
    ReturnsInHanded {} Try.checked os 5 .any (Rows.tapeToldSpec.pre6 enc Try.prog Try.f5 Rows.tapeToldRow.domain false) (Rows.tapeToldSpec.post enc Try.prog Try.f5 false true false false) := by
  refine returnsInHanded_of_change (C := Try.checked) Try.own started (by kernel_rfl) Try.func5
    (ChangeSpec.witness6 (enc := enc) (C := Try.checked) false ⟨#[], #[.slice none 0 0, .slice none 0 0], []⟩ 8 (by kernel_rfl) (by kernel_rfl) (by kernel_rfl) (by kernel_rfl)) ?_
  intro W base args ds gs before hval0 hW hcnd _
  have hval : ∀ (j : Nat) t v, Try.f5.params[j]? = some t → args[j]? = some v → Value.okWide Try.prog W .any base t v := hval0
  have hW' := hW
  obtain ⟨p, q, hA0, hV, rfl, hfz, hnd⟩ := hW
  have hA : DataW.TrodAll enc Try.prog W 0 (fun _ => true) true Try.f5.params.toList args.toList ds p := hA0
  rw [Try.params5] at hA hval
  obtain ⟨v0, v1, d0, d1, p0, p1, rfl, rfl, rfl, q0, q1⟩ := trodAll_two hA
  obtain ⟨rfl, rfl⟩ := trodVars_none hV
  obtain ⟨s0, c0, l0, rfl, hc0, hag0⟩ := open_tolds (hval 0 37 v0 rfl rfl) q0
  obtain ⟨s1, l1, c1, z1, rfl, hm1, hk1, hw1, hz1, hc1, hag1⟩ := open_u8s (hval 1 24 v1 rfl rfl) q1
  clear hA0 hval0
  simp only [List.append_nil, List.nil_append] at hW'
  refine (tapeTold_any l0 _ rfl s0 c0 (z1.take l1) (by_take l1 hz1) l1 (by rw [List.length_take]; omega) s1 c1 W hc0 (us_take hw1 hc1)).mono fun e W' ⟨he, hb⟩ => ?_
  subst he
  exact ⟨_, rfl, post_kept hW' (fun _ _ _ => trodAll_mk1 (shut_bool Try.underlying4 _)) (fun sp hsp => trodAll_mk2 (hag0 _ hb sp (fun x hx => hsp x (List.mem_append_left _ hx))) (hag1 _ hb sp (fun x hx => hsp x (List.mem_append_right _ hx)))) (fun _ _ => rfl) (by simp) hb (ok_one (by kernel_rfl) rfl (okWide_bool_mk Try.underlying4 _))⟩

theorem tapeTold_holds : Rows.TapeToldSaid :=
  OpenClaim.holds_of_wide 5 Try.f5 rfl rfl rfl rfl rfl rfl rfl ⟨rfl, rfl, rfl, rfl, rfl⟩ rfl rfl rfl rfl rfl (by kernel_rfl) Try.func5 (by kernel_rfl)
    (of_decide_eq_true (by kernel_rfl)) (by unfold Func.isWrapper; first | (rw [if_pos (by decide +kernel)]; kernel_rfl) | (rw [if_neg (by decide +kernel)]; exact ⟨rfl, rfl⟩))
    (fun os started H enc _ => tapeTold_lifted os started H enc)
#print axioms tapeTold_holds

end Go.Proofs.Ytfenmkcniiiglaa
