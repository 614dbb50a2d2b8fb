/- Layer 14: the document's Get, by whose text it is. -/
import Derived.Test.YtjaccedpkkcjnaaGreatDoorParH
namespace Go.Proofs.YtjaccedpkkcjnaaGreatDoor
open Go.RowKit Go.Shelf Go.Lib Go.Maps

theorem getD_of {l : List Int} (h : l.length = 31) : l = (List.range 31).map (fun j => l.getD j 0) := by
  apply List.ext_getElem
  · simp [h]
  · intro i h1 h2
    simp [List.getD_eq_getElem?_getD, List.getElem?_eq_getElem h1]
theorem nml_64 {ls : List (List UInt8)} {v : Int} (h : v ∈ nml ls) : R64 v := by
  obtain ⟨l, _, e⟩ := List.mem_filterMap.1 h
  exact (numL_is e).1
/-- The document's Get at a configuration's text. -/
theorem rget_yes (s : ByteArray) (hs : s.size ≤ 3000) (x : Nat → Int) (h : Reads s.data.toList x) (w : World) : Calls Tryz.prog 6 #[.string s] w (RetV (.tuple #[cv x, .int .i64 0]) w) := by
  have hn : nml (wds [] s.data.toList) = (List.range 31).map x := by rw [← h.2]; exact nml_txt x h.1
  refine rget_is s hs x hn h.1 ?_ h.2 w
  have := nml_len (wds [] s.data.toList)
  rw [hn] at this
  simp at this
  omega
/-- The document's Get at a text that is none's. -/
theorem rget_no (s : ByteArray) (hs : s.size ≤ 3000) (h : NoConf s.data.toList) (w : World) : Calls Tryz.prog 6 #[.string s] w (RetV (.tuple #[zv, .int .i64 6]) w) := by
  rcases Nat.eq_zero_or_pos (wds [] s.data.toList).length with h0 | h0
  · exact rget_empty s hs h0 w
  · by_cases hl : (nml (wds [] s.data.toList)).length = 31
    · refine rget_not s hs (fun j => (nml (wds [] s.data.toList)).getD j 0) (getD_of hl) (fun j hj => ?_) h0 (h _ (fun j hj => ?_)) w
      · show I64 ((nml (wds [] s.data.toList)).getD j 0)
        rw [List.getD_eq_getElem?_getD, List.getElem?_eq_getElem (by omega)]
        exact nml_64 (List.getElem_mem _)
      · show I64 ((nml (wds [] s.data.toList)).getD j 0)
        rw [List.getD_eq_getElem?_getD, List.getElem?_eq_getElem (by omega)]
        exact nml_64 (List.getElem_mem _)
    · exact rget_len s hs hl h0 w
end Go.Proofs.YtjaccedpkkcjnaaGreatDoor
