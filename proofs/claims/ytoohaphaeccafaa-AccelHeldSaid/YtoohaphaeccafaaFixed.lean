/- The chapter's examples, as the statements ask them: the call answers true. -/
import Derived.Test.YtoohaphaeccafaaWideI
namespace Go.Proofs.Ytoohaphaeccafaa
open Go.RowKit Go.Shelf

theorem retWE_det {z c h l : Int} (x : IsW h l z) {w : World} {e : Ending} {w' : World} (r : RetWE z c w e w') : RetV (.tuple #[wv h l, .int .i64 c]) w e w' := by
  obtain ⟨h', l', he, y, hb⟩ := r
  obtain ⟨rfl, rfl⟩ := (x.inj y).2 rfl
  exact ⟨he, hb⟩

end Go.Proofs.Ytoohaphaeccafaa
