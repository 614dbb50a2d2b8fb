/-
  DERIVED: THE SHELF's CONTRACTS AT THIS DUMP, IN PLAIN WORDS (tools/lay-plain.mjs out of 'YtobmjlnficdmlaaShelf.lean', which tools/lay-shelf.mjs wrote): THE SAME DECLARATIONS UNDER THE SAME NAMES: 'import', 'namespace', 'open', 'def', 'theorem' AND NOTHING ELSE: no command of the shelf's: FOR A HAND-IN. Each laying: the table of numbers ('.._ren') and one theorem, a field a fact of the dump's own or the kernel's comparison; each contract: ONE APPLICATION.
-/
import Derived.Ground.SlgmProg
import Derived.Shelf.SortM.Plain
import Derived.Test.YtobmjlnficdmlaaProg
namespace Go.Proofs
open Go.Shelf
def Try.laysSlM5_f8_ren : Go.Shelf.Ren := ⟨fun | 5 => 8 | 8 => 10 | 7 => 9 | 19 => 20 | 20 => 21 | 10 => 11 | 11 => 12 | 12 => 13 | 13 => 14 | 14 => 15 | 15 => 16 | 16 => 17 | 17 => 18 | 18 => 19 | 30 => 22 | 31 => 23 | 32 => 24 | 33 => 25 | 34 => 26 | 35 => 27 | 40 => 28 | n => n, fun | 23 => 30 | 25 => 2 | 3 => 3 | 32 => 34 | 22 => 30 | 0 => 0 | 44 => 45 | 46 => 47 | 4 => 4 | 36 => 37 | 35 => 36 | 41 => 42 | 5 => 5 | 9 => 9 | 53 => 48 | 57 => 52 | 63 => 55 | 64 => 56 | n => n, fun | n => n⟩
theorem Try.laysSlM5_f8 : Go.Proofs.SlLaysM.n5 Try.prog Try.laysSlM5_f8_ren := {
  mixed := by kernel_rfl
  f5 := ⟨Try.f8.name, by decide, Try.func8.trans (congrArg some (by kernel_rfl))⟩
  f7 := ⟨Try.f9.name, by decide, Try.func9.trans (congrArg some (by kernel_rfl))⟩
  f8 := Try.func10.trans (congrArg some (by kernel_rfl))
  f10 := ⟨Try.f11.name, by decide, Try.func11.trans (congrArg some (by kernel_rfl))⟩
  f11 := ⟨Try.f12.name, by decide, Try.func12.trans (congrArg some (by kernel_rfl))⟩
  f12 := ⟨Try.f13.name, by decide, Try.func13.trans (congrArg some (by kernel_rfl))⟩
  f13 := ⟨Try.f14.name, by decide, Try.func14.trans (congrArg some (by kernel_rfl))⟩
  f14 := ⟨Try.f15.name, by decide, Try.func15.trans (congrArg some (by kernel_rfl))⟩
  f15 := ⟨Try.f16.name, by decide, Try.func16.trans (congrArg some (by kernel_rfl))⟩
  f16 := ⟨Try.f17.name, by decide, Try.func17.trans (congrArg some (by kernel_rfl))⟩
  f17 := ⟨Try.f18.name, by decide, Try.func18.trans (congrArg some (by kernel_rfl))⟩
  f18 := ⟨Try.f19.name, by decide, Try.func19.trans (congrArg some (by kernel_rfl))⟩
  f19 := Try.func20.trans (congrArg some (by kernel_rfl))
  f20 := Try.func21.trans (congrArg some (by kernel_rfl))
  f30 := ⟨Try.f22.name, by decide, Try.func22.trans (congrArg some (by kernel_rfl))⟩
  f31 := Try.func23.trans (congrArg some (by kernel_rfl))
  f32 := Try.func24.trans (congrArg some (by kernel_rfl))
  f33 := ⟨Try.f25.name, by decide, Try.func25.trans (congrArg some (by kernel_rfl))⟩
  f34 := ⟨Try.f26.name, by decide, Try.func26.trans (congrArg some (by kernel_rfl))⟩
  f35 := ⟨Try.f27.name, by decide, Try.func27.trans (congrArg some (by kernel_rfl))⟩
  f40 := ⟨Try.f28.name, by decide, Try.func28.trans (congrArg some (by kernel_rfl))⟩
  t0 := Try.underlying0
  a0 := Try.isAgg0
  z0 := Try.sizeOf0
  v0 := Try.zeroValue0
  t3 := Try.underlying3
  a3 := Try.isAgg3
  z3 := Try.sizeOf3
  v3 := Try.zeroValue3
  t4 := Try.underlying4
  a4 := Try.isAgg4
  z4 := Try.sizeOf4
  v4 := Try.zeroValue4
  t5 := Try.underlying5
  a5 := Try.isAgg5
  z5 := Try.sizeOf5
  v5 := Try.zeroValue5
  t9 := Try.underlying9
  a9 := Try.isAgg9
  z9 := Try.sizeOf9
  v9 := Try.zeroValue9
  t22 := Try.underlying30
  a22 := Try.isAgg30
  z22 := Try.sizeOf30
  v22 := Try.zeroValue30
  t23 := Try.underlying30
  a23 := Try.isAgg30
  z23 := Try.sizeOf30
  v23 := Try.zeroValue30
  t25 := Try.underlying2
  a25 := Try.isAgg2
  z25 := Try.sizeOf2
  v25 := Try.zeroValue2
  t32 := Try.underlying34
  a32 := Try.isAgg34
  z32 := Try.sizeOf34
  v32 := Try.zeroValue34
  t35 := Try.underlying36
  a35 := Try.isAgg36
  z35 := Try.sizeOf36
  v35 := Try.zeroValue36
  t36 := Try.underlying37
  a36 := Try.isAgg37
  z36 := Try.sizeOf37
  v36 := Try.zeroValue37
  t41 := Try.underlying42
  a41 := Try.isAgg42
  z41 := Try.sizeOf42
  v41 := Try.zeroValue42
  t44 := Try.underlying45
  a44 := Try.isAgg45
  z44 := Try.sizeOf45
  v44 := Try.zeroValue45
  t46 := Try.underlying47
  a46 := Try.isAgg47
  z46 := Try.sizeOf47
  v46 := Try.zeroValue47
  t53 := Try.underlying48
  a53 := Try.isAgg48
  z53 := Try.sizeOf48
  v53 := Try.zeroValue48
  t57 := Try.underlying52
  a57 := Try.isAgg52
  z57 := Try.sizeOf52
  v57 := Try.zeroValue52
  t63 := Try.underlying55
  a63 := Try.isAgg55
  z63 := Try.sizeOf55
  v63 := Try.zeroValue55
  t64 := Try.underlying56
  a64 := Try.isAgg56
  z64 := Try.sizeOf56
  v64 := Try.zeroValue56 }
open Go.Sort Go.RowKit in
theorem Try.slices_Sort_int (blk off cap : Nat) (zs : List Int) (w : World) (hH : Holds (Value.int .i64) w blk off zs.toArray) (hblk : blk < w.heap.size) (hsz : zs.length < 4611686018427387904) :
    Calls Try.prog 8 #[.slice (some ⟨blk, off, none⟩) zs.length cap] w fun e w' =>
      e = .returned (.tuple #[]) ∧ ∃ n os, w' = grow (putRow (Value.int .i64) (Sort.ahead w n) blk off (zs.mergeSort fun x y => decide (x ≤ y)).toArray) os := AnyM.slices_Sort_int Try.laysSlM5_f8 blk off cap zs w hH hblk hsz
end Go.Proofs
