/- Layer 21: the document's number of eight bytes. -/
import Derived.Test.YtfenmkcniiiglaaTapJ
import Derived.Lib.SmallJoins
namespace Go.Proofs.Ytfenmkcniiiglaa
open Go.RowKit Go.Shelf Go.Joins

/-- A string's bytes are these. -/
structure SB (S : ByteArray) (l : List Int) : Prop where
  size : S.size = l.length
  at' : ∀ k (h : k < S.size), (S[k].toNat : Int) = at0 l k
theorem sb_bs {l : List Int} (h : By l) : SB (bs l) l := by
  refine ⟨bs_size l, fun k hk => ?_⟩
  have hk' : k < l.length := by rw [bs_size] at hk; exact hk
  have hb := h _ (List.getElem_mem hk')
  have e : (bs l)[k] = UInt8.ofNat (l[k]).toNat := by
    show (bs l).data[k] = _
    simp [bs]
  rw [e, at0, List.getD_eq_getElem?_getD, List.getElem?_eq_getElem hk']
  simp
  omega

set_option maxHeartbeats 4000000 in
set_option maxRecDepth 10000 in
theorem read_any (S : ByteArray) (l : List Int) (hS : SB S l) (hb : By l) (hl : l.length ≤ 100000) (q : Nat) (hq : q + 8 ≤ l.length) (w : World) :
    Calls Try.prog 22 #[.string S, .int .i64 q] w (RetV (.int .i64 (rd fun k => at0 l (q + k))) w) := by
  have hsz := hS.size
  go_enter Try.func22, Try.ntmps22
  go_wp2
  go_loopw [5, 6] (fun nv iv wr => ∃ m : Nat, m ≤ 8 ∧ iv = .int .i64 (7 - m) ∧ nv = .int .u64 (hn (fun k => at0 l (q + k)) m) ∧ Below w.heap.size w wr) (fun _ iv _ => (intOf iv + 1).toNat)
  case atStart => exact ⟨0, Nat.zero_le _, rfl, rfl, Below.refl _ _⟩
  case round =>
    obtain ⟨m, hm, rfl, rfl, E⟩ := hrel
    by_cases hlt : m < 8
    · obtain ⟨j, hj⟩ : ∃ j : Int, (7 : Int) - m = j := ⟨_, rfl⟩
      have hjn : (7 : Int) - (m + 1 : Nat) = j - 1 := by omega
      obtain ⟨p, hp⟩ : ∃ p : Nat, p = q + (7 - m) := ⟨_, rfl⟩
      have hps : p < S.size := by omega
      have hv := hS.at' p hps
      have h0 := hn_in (z := fun k => at0 l (q + k)) (fun k _ => by_at hb (q + k)) m (by omega)
      have h1 := hn_in (z := fun k => at0 l (q + k)) (fun k _ => by_at hb (q + k)) (m + 1) (by omega)
      have e0 : hn (fun k => at0 l (q + k)) (m + 1) = 256 * hn (fun k => at0 l (q + k)) m + at0 l p := by rw [hn, hp]
      have h2 : (256 : Int) ^ (m + 1) ≤ 18446744073709551616 := by
        have h9 : ((256 ^ (m + 1) : Nat) : Int) ≤ ((18446744073709551616 : Nat) : Int) := Int.ofNat_le.2 (Nat.le_trans (Nat.pow_le_pow_right (by decide) (by omega : m + 1 ≤ 8)) (by decide))
        rw [Int.natCast_pow] at h9
        exact h9
      have hpi : (q : Int) + j = p := by omega
      have wp : IntKind.i64.wrap ((q : Int) + j) = p := by rw [hpi, IntKind.wrap_i64]; omega
      have wj : IntKind.i64.wrap (j - 1) = j - 1 := by rw [IntKind.wrap_i64]; omega
      have hj0 : (0 : Int) ≤ j := by omega
      have bv := by_at hb p
      rw [hj]
      generalize at0 l p = c at *
      have hx : (256 * hn (fun k => at0 l (q + k)) m + c) % 18446744073709551616 = 256 * hn (fun k => at0 l (q + k)) m + c := by omega
      have hy : IntKind.u64.wrap (256 * hn (fun k => at0 l (q + k)) m) = 256 * hn (fun k => at0 l (q + k)) m := by rw [IntKind.wrap_u64]; omega
      have hz : IntKind.u64.wrap (256 * hn (fun k => at0 l (q + k)) m + c) = 256 * hn (fun k => at0 l (q + k)) m + c := by rw [IntKind.wrap_u64]; omega
      have hw : IntKind.u64.wrap c = c := by rw [IntKind.wrap_u64]; omega
      have E0 := Lib.hid e0
      have HJ := Lib.hid hj
      have HN := Lib.hid hjn
      clear h1 h2 hx e0 hj hjn hp hm hlt
      generalize hn (fun k => at0 l (q + k)) m = x at *
      go_wp2
      refine ⟨⟨m + 1, by have := HJ.out; omega, by rw [HN.out], by rw [E0.out], E⟩, ?_⟩
      simp only [intOf]
      omega
    · have e : m = 8 := by omega
      subst e
      have hr : w64 (hn (fun k => at0 l (q + k)) 8) = rd (fun k => at0 l (q + k)) := by rw [hn_le]; rfl
      generalize hn (fun k => at0 l (q + k)) 8 = x at *
      have HR : Hid (wrap64 x = rd (fun k => at0 l (q + k))) := Lib.hid (by rw [← hr]; unfold w64 wrap64; rfl)
      clear hlt hm hr
      go_wp2
      exact bodyPost_ret (v := .int .i64 (wrap64 x)) (by simp [results, Try.results22, go_sem]) rfl ⟨by rw [HR.out], E⟩
end Go.Proofs.Ytfenmkcniiiglaa
