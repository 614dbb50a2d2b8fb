/- The chapter's examples, as the statements ask them: the call answers true. -/
import Derived.Test.YtplhienacfiiaaaDoorWideI
namespace Go.Proofs.YtplhienacfiiaaaDoor
open Go.RowKit Go.Shelf

theorem of_is (h l x : Int) (h0 : -9223372036854775808 ≤ x) (h1 : x ≤ 9223372036854775807) (e : -9223372036854775808 ≤ h ∧ h ≤ 9223372036854775807 ∧ 0 ≤ l ∧ l ≤ 18446744073709551615 ∧ h * 18446744073709551616 + l = x) (w : World) :
    Calls Tryd.prog 85 #[.int .i64 x] w (RetV (wv h l) w) :=
  (of_any x h0 h1 w).mono fun _ _ => retW_det ⟨e.1, e.2.1, e.2.2.1, e.2.2.2.1, e.2.2.2.2⟩

theorem retWE_det {z c h l : Int} (x : IsW h l z) {w : World} {e : Ending} {w' : World} (r : RetWE z c w e w') : RetV (.tuple #[wv h l, .int .i64 c]) w e w' := by
  obtain ⟨h', l', he, y, hb⟩ := r
  obtain ⟨rfl, rfl⟩ := (x.inj y).2 rfl
  exact ⟨he, hb⟩

end Go.Proofs.YtplhienacfiiaaaDoor
