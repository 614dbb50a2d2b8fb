/- What 'same' answers: true, if the wide number and the error's number are those of the whole number. -/
import Derived.Test.YtlgnenogieehnaaBigH
import Derived.Test.YtlgnenogieehnaaFixed
import Derived.Test.YtlgnenogieehnaaWideC
namespace Go.Proofs.Ytlgnenogieehnaa
open Go.RowKit Go.Shelf

set_option maxHeartbeats 1000000 in
theorem same_true (h l z e' : Int) (x : IsW h l (fz z)) (he : fe z = e') (v : Value) (w : World) (hz : BG w v z) (tz : Tiny z) :
    Calls Try.prog 16 #[wv h l, .int .i64 e', v] w (RetV (.bool true) w) := by
  obtain ⟨n1, aa, ka, ca, rfl⟩ := bg_form hz
  have cW := fun w h => (wide_big (.agg #[.bool n1, .slice aa ka ca]) z w h tz).mono fun _ _ r => retWE_det x r
  rw [he] at cW
  clear he x
  go_enter Try.func16, Try.ntmps16
  go_wp2_with fail
  refine (cW _ (bg_keep hz (b_alloc (b_alloc (Below.refl _ _))))).mono ?_
  rintro e w1 ⟨rfl, hb1⟩
  have k1 : WC w1 w.heap.size h l := wc_keep hb1 (by simp [WC, go_sem, World.cell?_alloc_past])
  have B1 : Below w.heap.size w w1 := b_trans (b_alloc (b_alloc (Below.refl _ _))) hb1
  have k2 := wc_alloc (o := Obj.cells #[.int .i64 h, .int .u64 l] 24) k1
  clear hb1 k1
  go_wp2
  go_ret
  exact ⟨rfl, b_alloc B1⟩
end Go.Proofs.Ytlgnenogieehnaa
