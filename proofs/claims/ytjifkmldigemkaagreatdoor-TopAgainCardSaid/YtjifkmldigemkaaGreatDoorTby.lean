import Derived.Lib.SmallJoins
import Derived.StillTactics
import Derived.Laws.Pointers
import Derived.Deep.RegionHeld3
import Derived.Deep.QuietTactic
import Derived.BigQuiet
import Derived.RowKit3
import Derived.Lib.Hide
import Derived.Lib.QuietBelow
import Derived.Laws.Bits64b
import Derived.Test.YtjifkmldigemkaaGreatDoorProg
import Derived.Shelf.Spec.BitsCarry
import Derived.Shelf.Bits.Mul64
import Derived.WalkKit
import Derived.WalkSpells
import Derived.Maps.AppendAt
import Derived.Laws.OwnMore
import Derived.Deep.AppendLies
import Derived.Deep.WholeRow
import Derived.Test.YtjifkmldigemkaaGreatDoorTag
import Derived.Test.YtjifkmldigemkaaGreatDoorTab
import Derived.Test.YtjifkmldigemkaaGreatDoorTaa
import Derived.Test.YtjifkmldigemkaaGreatDoorTae
import Derived.Test.YtjifkmldigemkaaGreatDoorTah
namespace Go.Proofs.YtjifkmldigemkaaGreatDoor
open Go.RowKit Go.Shelf Go.Joins
theorem lt_le {z:Nat→Int}:∀ {n k:Nat},k<n→lt z n≤z k
 | 0,_,h=>absurd h (Nat.not_lt_zero _)
 | n+1,k,h=>by
  rw [lt]
  by_cases c:k=n
  ·subst c
   split <;> omega
  ·have:=lt_le (z:=z) (n:=n) (k:=k) (by omega)
   split <;> omega
theorem lt_one {z:Nat→Int}:∀ (n:Nat),lt z n=z 0∨∃ k,k<n∧lt z n=z k
 | 0=>Or.inl rfl
 | n+1=>by
  rw [lt]
  by_cases c:z n<lt z n
  ·rw [if_pos c]
   exact Or.inr ⟨n,by omega,rfl⟩
  ·rw [if_neg c]
   rcases lt_one (z:=z) n with h | ⟨k,hk,h⟩
   ·exact Or.inl h
   ·exact Or.inr ⟨k,by omega,h⟩
theorem lt_good {z:Nat→Int} {n:Nat} (h:0<n) (a:ag z n=true):90528≤lt z n∧lt z n≤430515:=by
 rcases lt_one (z:=z) n with e | ⟨k,hk,e⟩
 ·rw [e]; exact gd_range (ag_at a h)
 ·rw [e]; exact gd_range (ag_at a hk)
theorem m_none (z:Nat→Int):mv z 0=0∧me z 0=4:=⟨rfl,rfl⟩
theorem quot {m n r s:Int} (h:m*n+r=s) (r0:0≤r) (r1:r<n):s / n=m:=by
 have hn:n≠0:=by omega
 rw [← h,Int.add_comm,Int.add_mul_ediv_right _ _ hn,Int.ediv_eq_zero_of_lt r0 r1,Int.zero_add]
end Go.Proofs.YtjifkmldigemkaaGreatDoor
