/- TapeParts holds: for every two slices of ticks and every place the call returns true and leaves its arguments alone. No condition. -/
import Derived.Test.YtfenmkcniiiglaaArgs
import Derived.Test.YtfenmkcniiiglaaTapArgs
import Derived.Test.YtfenmkcniiiglaaTapU
namespace Go.Proofs.Ytfenmkcniiiglaa
open Go.ChangeShapes Go.WideShapes Go.ChangeAt Go.RowKit Go.Joins

set_option maxRecDepth 100000 in
theorem tapeParts_lifted (os : Os) (started : os.Started) (H : Type) (enc : TypeId × Value → H) :
    ReturnsInHanded {} Try.checked os 6 .any (Rows.tapePartsSpec.pre6 enc Try.prog Try.f6 Rows.tapePartsRow.domain false) (Rows.tapePartsSpec.post enc Try.prog Try.f6 false true false false) := by
  refine returnsInHanded_of_change (C := Try.checked) Try.own started (by kernel_rfl) Try.func6
    (ChangeSpec.witness6 (enc := enc) (C := Try.checked) false ⟨#[], #[.slice none 0 0, .slice none 0 0, .int .u16 0], []⟩ 8 (by kernel_rfl) (by kernel_rfl) (by kernel_rfl) (by kernel_rfl)) ?_
  intro W base args ds gs before hval0 hW hcnd _
  have hval : ∀ (j : Nat) t v, Try.f6.params[j]? = some t → args[j]? = some v → Value.okWide Try.prog W .any base t v := hval0
  have hW' := hW
  obtain ⟨p, q, hA0, hV, rfl, hfz, hnd⟩ := hW
  have hA : DataW.TrodAll enc Try.prog W 0 (fun _ => true) true Try.f6.params.toList args.toList ds p := hA0
  rw [Try.params6] at hA hval
  obtain ⟨v0, v1, v2, d0, d1, d2, p0, p1, p2, rfl, rfl, rfl, q0, q1, q2⟩ := trodAll_three hA
  obtain ⟨rfl, rfl⟩ := trodVars_none hV
  obtain ⟨s0, l0, c0, a0, h0, p0, b0, rfl, hm0, hl0, ha0, hp0, hc0, hag0⟩ := open_ticks (hval 0 22 v0 rfl rfl) q0
  obtain ⟨s1, l1, c1, a1, h1, p1, b1, rfl, hm1, hl1, ha1, hp1, hc1, hag1⟩ := open_ticks (hval 1 22 v1 rfl rfl) q1
  obtain ⟨x2, rfl, rfl, rfl, k2⟩ := open_int Try.underlying44 (hval 2 44 v2 rfl rfl) q2
  clear hA0 hval0
  simp only [List.append_nil, List.nil_append] at hW'
  refine (tapeParts_any (tl a0 h0 p0 b0 l0) (tl a1 h1 p1 b1 l1) (tl_in ha0 hp0) (tl_in ha1 hp1) l0 l1 (tl_len _ _ _ _ _) (tl_len _ _ _ _ _) s0 s1 c0 c1 x2 (wf_u16 k2).1 (wf_u16 k2).2 W (tl_ts hc0) (tl_ts hc1)).mono fun e W' ⟨he, hb⟩ => ?_
  subst he
  exact ⟨_, rfl, post_kept hW' (fun _ _ _ => trodAll_mk1 (shut_bool Try.underlying4 _)) (fun sp hsp => trodAll_mk3 (hag0 _ hb sp (fun x hx => hsp x (List.mem_append_left _ hx))) (hag1 _ hb sp (fun x hx => hsp x (List.mem_append_right _ hx))) (shut_int Try.underlying44 k2)) (fun _ _ => rfl) (by simp) hb (ok_one (by kernel_rfl) rfl (okWide_bool_mk Try.underlying4 _))⟩

theorem tapeParts_holds : Rows.TapePartsSaid :=
  OpenClaim.holds_of_wide 6 Try.f6 rfl rfl rfl rfl rfl rfl rfl ⟨rfl, rfl, rfl, rfl, rfl⟩ rfl rfl rfl rfl rfl (by kernel_rfl) Try.func6 (by kernel_rfl)
    (of_decide_eq_true (by kernel_rfl)) (by unfold Func.isWrapper; first | (rw [if_pos (by decide +kernel)]; kernel_rfl) | (rw [if_neg (by decide +kernel)]; exact ⟨rfl, rfl⟩))
    (fun os started H enc _ => tapeParts_lifted os started H enc)
#print axioms tapeParts_holds

end Go.Proofs.Ytfenmkcniiiglaa
