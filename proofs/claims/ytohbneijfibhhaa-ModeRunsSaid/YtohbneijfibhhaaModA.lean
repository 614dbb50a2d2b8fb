/- Layer 19: a clock: Valid, Seeks, and behind an event: the program's On and the document's. -/
import Derived.Test.YtohbneijfibhhaaBut
namespace Go.Proofs.Ytohbneijfibhhaa
open Go.RowKit Go.Shelf Go.Joins

/-- A clock as a value. -/
abbrev ckv (c : Int × Int) : Value := .agg #[.int .i64 c.1, .int .i64 c.2]
/-- Is it valid? Does it seek? -/
def vld (m : Int) : Bool := decide (m = 1) || decide (m = 2)
def sks (m : Int) : Bool := decide (m = 0) || decide (m = 3)
/-- The clock behind a miss, of a valid one. -/
def msd (s co ou : Int) : Int × Int := if ou ≤ s then (3, 0) else if co ≤ s + 1 then (2, s + 1) else (1, s + 1)
/-- The clock behind an event. -/
def nxt (c : Int × Int) (e co ou : Int) : Int × Int :=
  if vld c.1 = false ∧ sks c.1 = false then c
  else if e = 0 ∨ (e = 1 ∧ vld c.1 = true) then (1, 0)
  else if e = 3 then (3, 0)
  else if e = 2 ∧ vld c.1 = true then msd c.2 co ou
  else c
/-- Block b is a clock's variable. -/
abbrev KR (w : World) (b : Nat) (t : TypeId) (m s : Int) : Prop := w.heap[b]? = some (.cells #[.int .i64 m, .int .i64 s] t (0, 0))
theorem lay_old (w : World) (o p : Obj) : ((w.alloc o).alloc p).heap[w.heap.size]? = some o := (heap_alloc_old _ _ (by simp)).trans (heap_alloc_last w _)
theorem lay_new (w : World) (o p : Obj) : ((w.alloc o).alloc p).heap[w.heap.size + 1]? = some p := by
  have := heap_alloc_last (w.alloc o) p
  rwa [World.size_alloc] at this
theorem kr_set {w : World} {b : Nat} {t : TypeId} {m s m' s' : Int} (h : KR w b t m s) : KR ((w.setCell ⟨b, 0, none⟩ (.int .i64 m')).setCell ⟨b, 1, none⟩ (.int .i64 s')) b t m' s' := by
  have h0 : KR (w.setCell ⟨b, 0, none⟩ (.int .i64 m')) b t m' s := (heap_setCell_same w b 0 _ _ _ h).trans rfl
  exact (heap_setCell_same _ b 1 _ _ _ h0).trans rfl

set_option maxHeartbeats 4000000 in
set_option maxRecDepth 10000 in
theorem valid_any (m s : Int) (w : World) : Calls Try.prog 9 #[ckv (m, s)] w (RetV (.bool (vld m)) w) := by
  by_cases c : m = 1
  · subst c
    rw [show vld 1 = true from rfl]
    go_enter Try.func9, Try.ntmps9
    go_wp2
    go_ret
    exact ⟨rfl, b_alloc (Below.refl _ _)⟩
  · have d : (m == 2) = vld m := by simp [vld, c, Bool.beq_eq_decide_eq]
    have c' : (m == 1) = false := by simpa using c
    generalize vld m = b at *
    clear c
    go_enter Try.func9, Try.ntmps9
    go_wp2
    go_ret
    exact ⟨rfl, b_alloc (Below.refl _ _)⟩

set_option maxHeartbeats 4000000 in
set_option maxRecDepth 10000 in
theorem seeks_any (m s : Int) (w : World) : Calls Try.prog 10 #[ckv (m, s)] w (RetV (.bool (sks m)) w) := by
  by_cases c : m = 0
  · subst c
    rw [show sks 0 = true from rfl]
    go_enter Try.func10, Try.ntmps10
    go_wp2
    go_ret
    exact ⟨rfl, b_alloc (Below.refl _ _)⟩
  · have d : (m == 3) = sks m := by simp [sks, c, Bool.beq_eq_decide_eq]
    have c' : (m == 0) = false := by simpa using c
    generalize sks m = b at *
    clear c
    go_enter Try.func10, Try.ntmps10
    go_wp2
    go_ret
    exact ⟨rfl, b_alloc (Below.refl _ _)⟩

set_option maxHeartbeats 4000000 in
set_option maxRecDepth 10000 in
theorem missed_any (m s co ou : Int) (hs : -9223372036854775808 ≤ s) (ho : ou ≤ 9223372036854775807) (w : World) : Calls Try.prog 12 #[ckv (m, s), .int .i64 co, .int .i64 ou] w (RetV (ckv (msd s co ou)) w) := by
  by_cases c : ou ≤ s
  · have c' : decide (ou ≤ s) = true := by simpa using c
    rw [show msd s co ou = (3, 0) by simp [msd, c]]
    clear c
    go_enter Try.func12, Try.ntmps12
    go_wp2
    exact bodyPost_ret (v := ckv (3, 0)) (by simp [results, Try.results12, go_sem]) rfl ⟨rfl, b_alloc (b_alloc (Below.refl _ _))⟩
  · obtain ⟨t, ht⟩ : ∃ t, t = s + 1 := ⟨_, rfl⟩
    have e : IntKind.i64.wrap (s + 1) = t := by rw [IntKind.wrap_i64]; omega
    have c' : ¬ ou ≤ s := c
    by_cases d : co ≤ t
    · rw [show msd s co ou = (2, t) by rw [ht] at d; simp [msd, c, d, ht]]
      clear ht
      go_enter Try.func12, Try.ntmps12
      go_wp2
      exact bodyPost_ret (v := ckv (2, t)) (by simp [results, Try.results12, go_sem]) rfl ⟨rfl, b_alloc (b_alloc (Below.refl _ _))⟩
    · rw [show msd s co ou = (1, t) by rw [ht] at d; simp [msd, c, d, ht]]
      clear ht
      go_enter Try.func12, Try.ntmps12
      go_wp2
      exact bodyPost_ret (v := ckv (1, t)) (by simp [results, Try.results12, go_sem]) rfl ⟨rfl, b_alloc (b_alloc (Below.refl _ _))⟩

set_option maxHeartbeats 4000000 in
set_option maxRecDepth 10000 in
theorem on_clock (m s e co ou : Int) (hs : -9223372036854775808 ≤ s) (ho : ou ≤ 9223372036854775807) (w : World) : Calls Try.prog 7 #[ckv (m, s), .int .i64 e, .int .i64 co, .int .i64 ou] w (RetV (ckv (nxt (m, s) e co ou)) w) := by
  have cS := seeks_any m s
  have cV := valid_any m s
  have cM : ∀ w, Calls Try.prog 12 #[ckv (m, s), .int .i64 co, .int .i64 ou] w (RetV (ckv ((msd s co ou).1, (msd s co ou).2)) w) := missed_any m s co ou hs ho
  obtain ⟨c, hc⟩ : ∃ c, nxt (m, s) e co ou = c := ⟨_, rfl⟩
  rw [hc]
  cases k : sks m
  · rw [k] at cS
    cases v : vld m
    · rw [v] at cV
      obtain rfl : (m, s) = c := by rw [← hc]; simp [nxt, k, v]
      clear k v hc cM
      go_enter Try.func7, Try.ntmps7
      go_wp2_with fail
      refine (cS _).mono ?_
      rintro e y0 ⟨rfl, hb⟩
      have r0 : KR y0 w.heap.size 23 m s := row_keep hb (lay_old _ _ _)
      have r1 : KR y0 (w.heap.size + 1) 23 0 0 := row_keep hb (lay_new _ _ _)
      have E := b_trans (b_alloc (b_alloc (Below.refl _ _))) hb
      clear hb
      have g0 : y0.cell? ⟨w.heap.size, 0, none⟩ = some (.int .i64 m) := (cell_of_row _ _ 0 _ _ _ r0).trans rfl
      have g1 : y0.cell? ⟨w.heap.size, 1, none⟩ = some (.int .i64 s) := (cell_of_row _ _ 1 _ _ _ r0).trans rfl
      have h0 : y0.cell? ⟨w.heap.size + 1, 0, none⟩ = some (.int .i64 0) := (cell_of_row _ _ 0 _ _ _ r1).trans rfl
      have h1 : y0.cell? ⟨w.heap.size + 1, 1, none⟩ = some (.int .i64 0) := (cell_of_row _ _ 1 _ _ _ r1).trans rfl
      have z0 := frozen_of_row y0 (w.heap.size + 1) 0 _ _ r1
      have z1 := frozen_of_row y0 (w.heap.size + 1) 1 _ _ r1
      go_wp2_with fail
      refine (cV _).mono ?_
      rintro e y1 ⟨rfl, hb⟩
      replace r0 := row_keep hb r0
      replace r1 := row_keep hb r1
      replace E := b_trans E hb
      clear g0 g1 h0 h1 z0 z1
      clear hb
      have g0 : y1.cell? ⟨w.heap.size, 0, none⟩ = some (.int .i64 m) := (cell_of_row _ _ 0 _ _ _ r0).trans rfl
      have g1 : y1.cell? ⟨w.heap.size, 1, none⟩ = some (.int .i64 s) := (cell_of_row _ _ 1 _ _ _ r0).trans rfl
      have h0 : y1.cell? ⟨w.heap.size + 1, 0, none⟩ = some (.int .i64 0) := (cell_of_row _ _ 0 _ _ _ r1).trans rfl
      have h1 : y1.cell? ⟨w.heap.size + 1, 1, none⟩ = some (.int .i64 0) := (cell_of_row _ _ 1 _ _ _ r1).trans rfl
      have z0 := frozen_of_row y1 (w.heap.size + 1) 0 _ _ r1
      have z1 := frozen_of_row y1 (w.heap.size + 1) 1 _ _ r1
      have R0 := Lib.hid r0
      have R1 := Lib.hid r1
      clear r0 r1
      go_wp2
      exact bodyPost_ret (v := ckv (m, s)) (results_cell_row Try.results7 _ _ (w.heap.size + 1) 23 _ (0, 0) _ rfl (kr_set R1.out) Try.underlying23 rfl (by kernel_rfl)) rfl ⟨rfl, b_set (b_set E (Nat.le_succ _)) (Nat.le_succ _)⟩
    · rw [v] at cV
      by_cases e0 : e = 0
      · subst e0
        obtain rfl : (1, 0) = c := by rw [← hc]; simp [nxt, k, v]
        clear k v hc cM
        go_enter Try.func7, Try.ntmps7
        go_wp2_with fail
        refine (cS _).mono ?_
        rintro e y0 ⟨rfl, hb⟩
        have r0 : KR y0 w.heap.size 23 m s := row_keep hb (lay_old _ _ _)
        have r1 : KR y0 (w.heap.size + 1) 23 0 0 := row_keep hb (lay_new _ _ _)
        have E := b_trans (b_alloc (b_alloc (Below.refl _ _))) hb
        clear hb
        have g0 : y0.cell? ⟨w.heap.size, 0, none⟩ = some (.int .i64 m) := (cell_of_row _ _ 0 _ _ _ r0).trans rfl
        have g1 : y0.cell? ⟨w.heap.size, 1, none⟩ = some (.int .i64 s) := (cell_of_row _ _ 1 _ _ _ r0).trans rfl
        have h0 : y0.cell? ⟨w.heap.size + 1, 0, none⟩ = some (.int .i64 0) := (cell_of_row _ _ 0 _ _ _ r1).trans rfl
        have h1 : y0.cell? ⟨w.heap.size + 1, 1, none⟩ = some (.int .i64 0) := (cell_of_row _ _ 1 _ _ _ r1).trans rfl
        have z0 := frozen_of_row y0 (w.heap.size + 1) 0 _ _ r1
        have z1 := frozen_of_row y0 (w.heap.size + 1) 1 _ _ r1
        go_wp2_with fail
        refine (cV _).mono ?_
        rintro e y1 ⟨rfl, hb⟩
        replace r0 := row_keep hb r0
        replace r1 := row_keep hb r1
        replace E := b_trans E hb
        clear g0 g1 h0 h1 z0 z1
        clear hb
        have g0 : y1.cell? ⟨w.heap.size, 0, none⟩ = some (.int .i64 m) := (cell_of_row _ _ 0 _ _ _ r0).trans rfl
        have g1 : y1.cell? ⟨w.heap.size, 1, none⟩ = some (.int .i64 s) := (cell_of_row _ _ 1 _ _ _ r0).trans rfl
        have h0 : y1.cell? ⟨w.heap.size + 1, 0, none⟩ = some (.int .i64 0) := (cell_of_row _ _ 0 _ _ _ r1).trans rfl
        have h1 : y1.cell? ⟨w.heap.size + 1, 1, none⟩ = some (.int .i64 0) := (cell_of_row _ _ 1 _ _ _ r1).trans rfl
        have z0 := frozen_of_row y1 (w.heap.size + 1) 0 _ _ r1
        have z1 := frozen_of_row y1 (w.heap.size + 1) 1 _ _ r1
        have R0 := Lib.hid r0
        have R1 := Lib.hid r1
        clear r0 r1
        go_wp2
        exact bodyPost_ret (v := ckv (1, 0)) (results_cell_row Try.results7 _ _ (w.heap.size + 1) 23 _ (0, 0) _ rfl (kr_set R1.out) Try.underlying23 rfl (by kernel_rfl)) rfl ⟨rfl, b_set (b_set E (Nat.le_succ _)) (Nat.le_succ _)⟩
      · have q0 : (e == 0) = false := by simpa using e0
        by_cases e1 : e = 1
        · subst e1
          obtain rfl : (1, 0) = c := by rw [← hc]; simp [nxt, k, v]
          clear k v hc cM q0 e0
          go_enter Try.func7, Try.ntmps7
          go_wp2_with fail
          refine (cS _).mono ?_
          rintro e y0 ⟨rfl, hb⟩
          have r0 : KR y0 w.heap.size 23 m s := row_keep hb (lay_old _ _ _)
          have r1 : KR y0 (w.heap.size + 1) 23 0 0 := row_keep hb (lay_new _ _ _)
          have E := b_trans (b_alloc (b_alloc (Below.refl _ _))) hb
          clear hb
          have g0 : y0.cell? ⟨w.heap.size, 0, none⟩ = some (.int .i64 m) := (cell_of_row _ _ 0 _ _ _ r0).trans rfl
          have g1 : y0.cell? ⟨w.heap.size, 1, none⟩ = some (.int .i64 s) := (cell_of_row _ _ 1 _ _ _ r0).trans rfl
          have h0 : y0.cell? ⟨w.heap.size + 1, 0, none⟩ = some (.int .i64 0) := (cell_of_row _ _ 0 _ _ _ r1).trans rfl
          have h1 : y0.cell? ⟨w.heap.size + 1, 1, none⟩ = some (.int .i64 0) := (cell_of_row _ _ 1 _ _ _ r1).trans rfl
          have z0 := frozen_of_row y0 (w.heap.size + 1) 0 _ _ r1
          have z1 := frozen_of_row y0 (w.heap.size + 1) 1 _ _ r1
          go_wp2_with fail
          refine (cV _).mono ?_
          rintro e y1 ⟨rfl, hb⟩
          replace r0 := row_keep hb r0
          replace r1 := row_keep hb r1
          replace E := b_trans E hb
          clear g0 g1 h0 h1 z0 z1
          clear hb
          have g0 : y1.cell? ⟨w.heap.size, 0, none⟩ = some (.int .i64 m) := (cell_of_row _ _ 0 _ _ _ r0).trans rfl
          have g1 : y1.cell? ⟨w.heap.size, 1, none⟩ = some (.int .i64 s) := (cell_of_row _ _ 1 _ _ _ r0).trans rfl
          have h0 : y1.cell? ⟨w.heap.size + 1, 0, none⟩ = some (.int .i64 0) := (cell_of_row _ _ 0 _ _ _ r1).trans rfl
          have h1 : y1.cell? ⟨w.heap.size + 1, 1, none⟩ = some (.int .i64 0) := (cell_of_row _ _ 1 _ _ _ r1).trans rfl
          have z0 := frozen_of_row y1 (w.heap.size + 1) 0 _ _ r1
          have z1 := frozen_of_row y1 (w.heap.size + 1) 1 _ _ r1
          go_wp2_with fail
          refine (cV _).mono ?_
          rintro e y2 ⟨rfl, hb⟩
          replace r0 := row_keep hb r0
          replace r1 := row_keep hb r1
          replace E := b_trans E hb
          clear g0 g1 h0 h1 z0 z1
          clear hb
          have g0 : y2.cell? ⟨w.heap.size, 0, none⟩ = some (.int .i64 m) := (cell_of_row _ _ 0 _ _ _ r0).trans rfl
          have g1 : y2.cell? ⟨w.heap.size, 1, none⟩ = some (.int .i64 s) := (cell_of_row _ _ 1 _ _ _ r0).trans rfl
          have h0 : y2.cell? ⟨w.heap.size + 1, 0, none⟩ = some (.int .i64 0) := (cell_of_row _ _ 0 _ _ _ r1).trans rfl
          have h1 : y2.cell? ⟨w.heap.size + 1, 1, none⟩ = some (.int .i64 0) := (cell_of_row _ _ 1 _ _ _ r1).trans rfl
          have z0 := frozen_of_row y2 (w.heap.size + 1) 0 _ _ r1
          have z1 := frozen_of_row y2 (w.heap.size + 1) 1 _ _ r1
          have R0 := Lib.hid r0
          have R1 := Lib.hid r1
          clear r0 r1
          go_wp2
          exact bodyPost_ret (v := ckv (1, 0)) (results_cell_row Try.results7 _ _ (w.heap.size + 1) 23 _ (0, 0) _ rfl (kr_set R1.out) Try.underlying23 rfl (by kernel_rfl)) rfl ⟨rfl, b_set (b_set E (Nat.le_succ _)) (Nat.le_succ _)⟩
        · have q1 : (e == 1) = false := by simpa using e1
          by_cases e3 : e = 3
          · subst e3
            obtain rfl : (3, 0) = c := by rw [← hc]; simp [nxt, k, v]
            clear k v hc cM q0 q1 e0 e1
            go_enter Try.func7, Try.ntmps7
            go_wp2_with fail
            refine (cS _).mono ?_
            rintro e y0 ⟨rfl, hb⟩
            have r0 : KR y0 w.heap.size 23 m s := row_keep hb (lay_old _ _ _)
            have r1 : KR y0 (w.heap.size + 1) 23 0 0 := row_keep hb (lay_new _ _ _)
            have E := b_trans (b_alloc (b_alloc (Below.refl _ _))) hb
            clear hb
            have g0 : y0.cell? ⟨w.heap.size, 0, none⟩ = some (.int .i64 m) := (cell_of_row _ _ 0 _ _ _ r0).trans rfl
            have g1 : y0.cell? ⟨w.heap.size, 1, none⟩ = some (.int .i64 s) := (cell_of_row _ _ 1 _ _ _ r0).trans rfl
            have h0 : y0.cell? ⟨w.heap.size + 1, 0, none⟩ = some (.int .i64 0) := (cell_of_row _ _ 0 _ _ _ r1).trans rfl
            have h1 : y0.cell? ⟨w.heap.size + 1, 1, none⟩ = some (.int .i64 0) := (cell_of_row _ _ 1 _ _ _ r1).trans rfl
            have z0 := frozen_of_row y0 (w.heap.size + 1) 0 _ _ r1
            have z1 := frozen_of_row y0 (w.heap.size + 1) 1 _ _ r1
            go_wp2_with fail
            refine (cV _).mono ?_
            rintro e y1 ⟨rfl, hb⟩
            replace r0 := row_keep hb r0
            replace r1 := row_keep hb r1
            replace E := b_trans E hb
            clear g0 g1 h0 h1 z0 z1
            clear hb
            have g0 : y1.cell? ⟨w.heap.size, 0, none⟩ = some (.int .i64 m) := (cell_of_row _ _ 0 _ _ _ r0).trans rfl
            have g1 : y1.cell? ⟨w.heap.size, 1, none⟩ = some (.int .i64 s) := (cell_of_row _ _ 1 _ _ _ r0).trans rfl
            have h0 : y1.cell? ⟨w.heap.size + 1, 0, none⟩ = some (.int .i64 0) := (cell_of_row _ _ 0 _ _ _ r1).trans rfl
            have h1 : y1.cell? ⟨w.heap.size + 1, 1, none⟩ = some (.int .i64 0) := (cell_of_row _ _ 1 _ _ _ r1).trans rfl
            have z0 := frozen_of_row y1 (w.heap.size + 1) 0 _ _ r1
            have z1 := frozen_of_row y1 (w.heap.size + 1) 1 _ _ r1
            have R0 := Lib.hid r0
            have R1 := Lib.hid r1
            clear r0 r1
            go_wp2
            exact bodyPost_ret (v := ckv (3, 0)) (results_cell_row Try.results7 _ _ (w.heap.size + 1) 23 _ (0, 0) _ rfl (kr_set R1.out) Try.underlying23 rfl (by kernel_rfl)) rfl ⟨rfl, b_set (b_set E (Nat.le_succ _)) (Nat.le_succ _)⟩
          · have q3 : (e == 3) = false := by simpa using e3
            by_cases e2 : e = 2
            · subst e2
              obtain rfl : msd s co ou = c := by rw [← hc]; simp [nxt, k, v]
              clear k v hc q0 q1 q3 e0 e1 e3
              obtain ⟨⟨m2, s2⟩, h2⟩ : ∃ p, msd s co ou = p := ⟨_, rfl⟩
              rw [h2] at cM ⊢
              clear h2
              go_enter Try.func7, Try.ntmps7
              go_wp2_with fail
              refine (cS _).mono ?_
              rintro e y0 ⟨rfl, hb⟩
              have r0 : KR y0 w.heap.size 23 m s := row_keep hb (lay_old _ _ _)
              have r1 : KR y0 (w.heap.size + 1) 23 0 0 := row_keep hb (lay_new _ _ _)
              have E := b_trans (b_alloc (b_alloc (Below.refl _ _))) hb
              clear hb
              have g0 : y0.cell? ⟨w.heap.size, 0, none⟩ = some (.int .i64 m) := (cell_of_row _ _ 0 _ _ _ r0).trans rfl
              have g1 : y0.cell? ⟨w.heap.size, 1, none⟩ = some (.int .i64 s) := (cell_of_row _ _ 1 _ _ _ r0).trans rfl
              have h0 : y0.cell? ⟨w.heap.size + 1, 0, none⟩ = some (.int .i64 0) := (cell_of_row _ _ 0 _ _ _ r1).trans rfl
              have h1 : y0.cell? ⟨w.heap.size + 1, 1, none⟩ = some (.int .i64 0) := (cell_of_row _ _ 1 _ _ _ r1).trans rfl
              have z0 := frozen_of_row y0 (w.heap.size + 1) 0 _ _ r1
              have z1 := frozen_of_row y0 (w.heap.size + 1) 1 _ _ r1
              go_wp2_with fail
              refine (cV _).mono ?_
              rintro e y1 ⟨rfl, hb⟩
              replace r0 := row_keep hb r0
              replace r1 := row_keep hb r1
              replace E := b_trans E hb
              clear g0 g1 h0 h1 z0 z1
              clear hb
              have g0 : y1.cell? ⟨w.heap.size, 0, none⟩ = some (.int .i64 m) := (cell_of_row _ _ 0 _ _ _ r0).trans rfl
              have g1 : y1.cell? ⟨w.heap.size, 1, none⟩ = some (.int .i64 s) := (cell_of_row _ _ 1 _ _ _ r0).trans rfl
              have h0 : y1.cell? ⟨w.heap.size + 1, 0, none⟩ = some (.int .i64 0) := (cell_of_row _ _ 0 _ _ _ r1).trans rfl
              have h1 : y1.cell? ⟨w.heap.size + 1, 1, none⟩ = some (.int .i64 0) := (cell_of_row _ _ 1 _ _ _ r1).trans rfl
              have z0 := frozen_of_row y1 (w.heap.size + 1) 0 _ _ r1
              have z1 := frozen_of_row y1 (w.heap.size + 1) 1 _ _ r1
              go_wp2_with fail
              refine (cV _).mono ?_
              rintro e y2 ⟨rfl, hb⟩
              replace r0 := row_keep hb r0
              replace r1 := row_keep hb r1
              replace E := b_trans E hb
              clear g0 g1 h0 h1 z0 z1
              clear hb
              have g0 : y2.cell? ⟨w.heap.size, 0, none⟩ = some (.int .i64 m) := (cell_of_row _ _ 0 _ _ _ r0).trans rfl
              have g1 : y2.cell? ⟨w.heap.size, 1, none⟩ = some (.int .i64 s) := (cell_of_row _ _ 1 _ _ _ r0).trans rfl
              have h0 : y2.cell? ⟨w.heap.size + 1, 0, none⟩ = some (.int .i64 0) := (cell_of_row _ _ 0 _ _ _ r1).trans rfl
              have h1 : y2.cell? ⟨w.heap.size + 1, 1, none⟩ = some (.int .i64 0) := (cell_of_row _ _ 1 _ _ _ r1).trans rfl
              have z0 := frozen_of_row y2 (w.heap.size + 1) 0 _ _ r1
              have z1 := frozen_of_row y2 (w.heap.size + 1) 1 _ _ r1
              go_wp2_with fail
              refine (cM _).mono ?_
              rintro e y3 ⟨rfl, hb⟩
              replace r0 := row_keep hb r0
              replace r1 := row_keep hb r1
              replace E := b_trans E hb
              clear g0 g1 h0 h1 z0 z1
              clear hb
              have g0 : y3.cell? ⟨w.heap.size, 0, none⟩ = some (.int .i64 m) := (cell_of_row _ _ 0 _ _ _ r0).trans rfl
              have g1 : y3.cell? ⟨w.heap.size, 1, none⟩ = some (.int .i64 s) := (cell_of_row _ _ 1 _ _ _ r0).trans rfl
              have h0 : y3.cell? ⟨w.heap.size + 1, 0, none⟩ = some (.int .i64 0) := (cell_of_row _ _ 0 _ _ _ r1).trans rfl
              have h1 : y3.cell? ⟨w.heap.size + 1, 1, none⟩ = some (.int .i64 0) := (cell_of_row _ _ 1 _ _ _ r1).trans rfl
              have z0 := frozen_of_row y3 (w.heap.size + 1) 0 _ _ r1
              have z1 := frozen_of_row y3 (w.heap.size + 1) 1 _ _ r1
              have R0 := Lib.hid r0
              have R1 := Lib.hid r1
              clear r0 r1
              go_wp2
              exact bodyPost_ret (v := ckv (m2, s2)) (results_cell_row Try.results7 _ _ (w.heap.size + 1) 23 _ (0, 0) _ rfl (kr_set R1.out) Try.underlying23 rfl (by kernel_rfl)) rfl ⟨rfl, b_set (b_set E (Nat.le_succ _)) (Nat.le_succ _)⟩
            · have q2 : (e == 2) = false := by simpa using e2
              obtain rfl : (m, s) = c := by rw [← hc]; simp [nxt, k, v, e0, e1, e2, e3]
              clear k v hc cM e0 e1 e2 e3
              go_enter Try.func7, Try.ntmps7
              go_wp2_with fail
              refine (cS _).mono ?_
              rintro e y0 ⟨rfl, hb⟩
              have r0 : KR y0 w.heap.size 23 m s := row_keep hb (lay_old _ _ _)
              have r1 : KR y0 (w.heap.size + 1) 23 0 0 := row_keep hb (lay_new _ _ _)
              have E := b_trans (b_alloc (b_alloc (Below.refl _ _))) hb
              clear hb
              have g0 : y0.cell? ⟨w.heap.size, 0, none⟩ = some (.int .i64 m) := (cell_of_row _ _ 0 _ _ _ r0).trans rfl
              have g1 : y0.cell? ⟨w.heap.size, 1, none⟩ = some (.int .i64 s) := (cell_of_row _ _ 1 _ _ _ r0).trans rfl
              have h0 : y0.cell? ⟨w.heap.size + 1, 0, none⟩ = some (.int .i64 0) := (cell_of_row _ _ 0 _ _ _ r1).trans rfl
              have h1 : y0.cell? ⟨w.heap.size + 1, 1, none⟩ = some (.int .i64 0) := (cell_of_row _ _ 1 _ _ _ r1).trans rfl
              have z0 := frozen_of_row y0 (w.heap.size + 1) 0 _ _ r1
              have z1 := frozen_of_row y0 (w.heap.size + 1) 1 _ _ r1
              go_wp2_with fail
              refine (cV _).mono ?_
              rintro e y1 ⟨rfl, hb⟩
              replace r0 := row_keep hb r0
              replace r1 := row_keep hb r1
              replace E := b_trans E hb
              clear g0 g1 h0 h1 z0 z1
              clear hb
              have g0 : y1.cell? ⟨w.heap.size, 0, none⟩ = some (.int .i64 m) := (cell_of_row _ _ 0 _ _ _ r0).trans rfl
              have g1 : y1.cell? ⟨w.heap.size, 1, none⟩ = some (.int .i64 s) := (cell_of_row _ _ 1 _ _ _ r0).trans rfl
              have h0 : y1.cell? ⟨w.heap.size + 1, 0, none⟩ = some (.int .i64 0) := (cell_of_row _ _ 0 _ _ _ r1).trans rfl
              have h1 : y1.cell? ⟨w.heap.size + 1, 1, none⟩ = some (.int .i64 0) := (cell_of_row _ _ 1 _ _ _ r1).trans rfl
              have z0 := frozen_of_row y1 (w.heap.size + 1) 0 _ _ r1
              have z1 := frozen_of_row y1 (w.heap.size + 1) 1 _ _ r1
              have R0 := Lib.hid r0
              have R1 := Lib.hid r1
              clear r0 r1
              go_wp2
              exact bodyPost_ret (v := ckv (m, s)) (results_cell_row Try.results7 _ _ (w.heap.size + 1) 23 _ (0, 0) _ rfl (kr_set R1.out) Try.underlying23 rfl (by kernel_rfl)) rfl ⟨rfl, b_set (b_set E (Nat.le_succ _)) (Nat.le_succ _)⟩
  · rw [k] at cS
    have v : vld m = false := by
      simp [sks] at k
      rcases k with h | h <;> rw [h] <;> rfl
    rw [v] at cV
    by_cases e0 : e = 0
    · subst e0
      obtain rfl : (1, 0) = c := by rw [← hc]; simp [nxt, k, v]
      clear k v hc cM
      go_enter Try.func7, Try.ntmps7
      go_wp2_with fail
      refine (cS _).mono ?_
      rintro e y0 ⟨rfl, hb⟩
      have r0 : KR y0 w.heap.size 23 m s := row_keep hb (lay_old _ _ _)
      have r1 : KR y0 (w.heap.size + 1) 23 0 0 := row_keep hb (lay_new _ _ _)
      have E := b_trans (b_alloc (b_alloc (Below.refl _ _))) hb
      clear hb
      have g0 : y0.cell? ⟨w.heap.size, 0, none⟩ = some (.int .i64 m) := (cell_of_row _ _ 0 _ _ _ r0).trans rfl
      have g1 : y0.cell? ⟨w.heap.size, 1, none⟩ = some (.int .i64 s) := (cell_of_row _ _ 1 _ _ _ r0).trans rfl
      have h0 : y0.cell? ⟨w.heap.size + 1, 0, none⟩ = some (.int .i64 0) := (cell_of_row _ _ 0 _ _ _ r1).trans rfl
      have h1 : y0.cell? ⟨w.heap.size + 1, 1, none⟩ = some (.int .i64 0) := (cell_of_row _ _ 1 _ _ _ r1).trans rfl
      have z0 := frozen_of_row y0 (w.heap.size + 1) 0 _ _ r1
      have z1 := frozen_of_row y0 (w.heap.size + 1) 1 _ _ r1
      have R0 := Lib.hid r0
      have R1 := Lib.hid r1
      clear r0 r1
      go_wp2
      exact bodyPost_ret (v := ckv (1, 0)) (results_cell_row Try.results7 _ _ (w.heap.size + 1) 23 _ (0, 0) _ rfl (kr_set R1.out) Try.underlying23 rfl (by kernel_rfl)) rfl ⟨rfl, b_set (b_set E (Nat.le_succ _)) (Nat.le_succ _)⟩
    · have q0 : (e == 0) = false := by simpa using e0
      by_cases e1 : e = 1
      · subst e1
        obtain rfl : (m, s) = c := by rw [← hc]; simp [nxt, k, v]
        clear k v hc cM q0 e0
        go_enter Try.func7, Try.ntmps7
        go_wp2_with fail
        refine (cS _).mono ?_
        rintro e y0 ⟨rfl, hb⟩
        have r0 : KR y0 w.heap.size 23 m s := row_keep hb (lay_old _ _ _)
        have r1 : KR y0 (w.heap.size + 1) 23 0 0 := row_keep hb (lay_new _ _ _)
        have E := b_trans (b_alloc (b_alloc (Below.refl _ _))) hb
        clear hb
        have g0 : y0.cell? ⟨w.heap.size, 0, none⟩ = some (.int .i64 m) := (cell_of_row _ _ 0 _ _ _ r0).trans rfl
        have g1 : y0.cell? ⟨w.heap.size, 1, none⟩ = some (.int .i64 s) := (cell_of_row _ _ 1 _ _ _ r0).trans rfl
        have h0 : y0.cell? ⟨w.heap.size + 1, 0, none⟩ = some (.int .i64 0) := (cell_of_row _ _ 0 _ _ _ r1).trans rfl
        have h1 : y0.cell? ⟨w.heap.size + 1, 1, none⟩ = some (.int .i64 0) := (cell_of_row _ _ 1 _ _ _ r1).trans rfl
        have z0 := frozen_of_row y0 (w.heap.size + 1) 0 _ _ r1
        have z1 := frozen_of_row y0 (w.heap.size + 1) 1 _ _ r1
        go_wp2_with fail
        refine (cV _).mono ?_
        rintro e y1 ⟨rfl, hb⟩
        replace r0 := row_keep hb r0
        replace r1 := row_keep hb r1
        replace E := b_trans E hb
        clear g0 g1 h0 h1 z0 z1
        clear hb
        have g0 : y1.cell? ⟨w.heap.size, 0, none⟩ = some (.int .i64 m) := (cell_of_row _ _ 0 _ _ _ r0).trans rfl
        have g1 : y1.cell? ⟨w.heap.size, 1, none⟩ = some (.int .i64 s) := (cell_of_row _ _ 1 _ _ _ r0).trans rfl
        have h0 : y1.cell? ⟨w.heap.size + 1, 0, none⟩ = some (.int .i64 0) := (cell_of_row _ _ 0 _ _ _ r1).trans rfl
        have h1 : y1.cell? ⟨w.heap.size + 1, 1, none⟩ = some (.int .i64 0) := (cell_of_row _ _ 1 _ _ _ r1).trans rfl
        have z0 := frozen_of_row y1 (w.heap.size + 1) 0 _ _ r1
        have z1 := frozen_of_row y1 (w.heap.size + 1) 1 _ _ r1
        have R0 := Lib.hid r0
        have R1 := Lib.hid r1
        clear r0 r1
        go_wp2
        exact bodyPost_ret (v := ckv (m, s)) (results_cell_row Try.results7 _ _ (w.heap.size + 1) 23 _ (0, 0) _ rfl (kr_set R1.out) Try.underlying23 rfl (by kernel_rfl)) rfl ⟨rfl, b_set (b_set E (Nat.le_succ _)) (Nat.le_succ _)⟩
      · have q1 : (e == 1) = false := by simpa using e1
        by_cases e3 : e = 3
        · subst e3
          obtain rfl : (3, 0) = c := by rw [← hc]; simp [nxt, k, v]
          clear k v hc cM q0 q1 e0 e1
          go_enter Try.func7, Try.ntmps7
          go_wp2_with fail
          refine (cS _).mono ?_
          rintro e y0 ⟨rfl, hb⟩
          have r0 : KR y0 w.heap.size 23 m s := row_keep hb (lay_old _ _ _)
          have r1 : KR y0 (w.heap.size + 1) 23 0 0 := row_keep hb (lay_new _ _ _)
          have E := b_trans (b_alloc (b_alloc (Below.refl _ _))) hb
          clear hb
          have g0 : y0.cell? ⟨w.heap.size, 0, none⟩ = some (.int .i64 m) := (cell_of_row _ _ 0 _ _ _ r0).trans rfl
          have g1 : y0.cell? ⟨w.heap.size, 1, none⟩ = some (.int .i64 s) := (cell_of_row _ _ 1 _ _ _ r0).trans rfl
          have h0 : y0.cell? ⟨w.heap.size + 1, 0, none⟩ = some (.int .i64 0) := (cell_of_row _ _ 0 _ _ _ r1).trans rfl
          have h1 : y0.cell? ⟨w.heap.size + 1, 1, none⟩ = some (.int .i64 0) := (cell_of_row _ _ 1 _ _ _ r1).trans rfl
          have z0 := frozen_of_row y0 (w.heap.size + 1) 0 _ _ r1
          have z1 := frozen_of_row y0 (w.heap.size + 1) 1 _ _ r1
          have R0 := Lib.hid r0
          have R1 := Lib.hid r1
          clear r0 r1
          go_wp2
          exact bodyPost_ret (v := ckv (3, 0)) (results_cell_row Try.results7 _ _ (w.heap.size + 1) 23 _ (0, 0) _ rfl (kr_set R1.out) Try.underlying23 rfl (by kernel_rfl)) rfl ⟨rfl, b_set (b_set E (Nat.le_succ _)) (Nat.le_succ _)⟩
        · have q3 : (e == 3) = false := by simpa using e3
          by_cases e2 : e = 2
          · subst e2
            obtain rfl : (m, s) = c := by rw [← hc]; simp [nxt, k, v]
            clear k v hc cM q0 q1 q3 e0 e1 e3
            go_enter Try.func7, Try.ntmps7
            go_wp2_with fail
            refine (cS _).mono ?_
            rintro e y0 ⟨rfl, hb⟩
            have r0 : KR y0 w.heap.size 23 m s := row_keep hb (lay_old _ _ _)
            have r1 : KR y0 (w.heap.size + 1) 23 0 0 := row_keep hb (lay_new _ _ _)
            have E := b_trans (b_alloc (b_alloc (Below.refl _ _))) hb
            clear hb
            have g0 : y0.cell? ⟨w.heap.size, 0, none⟩ = some (.int .i64 m) := (cell_of_row _ _ 0 _ _ _ r0).trans rfl
            have g1 : y0.cell? ⟨w.heap.size, 1, none⟩ = some (.int .i64 s) := (cell_of_row _ _ 1 _ _ _ r0).trans rfl
            have h0 : y0.cell? ⟨w.heap.size + 1, 0, none⟩ = some (.int .i64 0) := (cell_of_row _ _ 0 _ _ _ r1).trans rfl
            have h1 : y0.cell? ⟨w.heap.size + 1, 1, none⟩ = some (.int .i64 0) := (cell_of_row _ _ 1 _ _ _ r1).trans rfl
            have z0 := frozen_of_row y0 (w.heap.size + 1) 0 _ _ r1
            have z1 := frozen_of_row y0 (w.heap.size + 1) 1 _ _ r1
            go_wp2_with fail
            refine (cV _).mono ?_
            rintro e y1 ⟨rfl, hb⟩
            replace r0 := row_keep hb r0
            replace r1 := row_keep hb r1
            replace E := b_trans E hb
            clear g0 g1 h0 h1 z0 z1
            clear hb
            have g0 : y1.cell? ⟨w.heap.size, 0, none⟩ = some (.int .i64 m) := (cell_of_row _ _ 0 _ _ _ r0).trans rfl
            have g1 : y1.cell? ⟨w.heap.size, 1, none⟩ = some (.int .i64 s) := (cell_of_row _ _ 1 _ _ _ r0).trans rfl
            have h0 : y1.cell? ⟨w.heap.size + 1, 0, none⟩ = some (.int .i64 0) := (cell_of_row _ _ 0 _ _ _ r1).trans rfl
            have h1 : y1.cell? ⟨w.heap.size + 1, 1, none⟩ = some (.int .i64 0) := (cell_of_row _ _ 1 _ _ _ r1).trans rfl
            have z0 := frozen_of_row y1 (w.heap.size + 1) 0 _ _ r1
            have z1 := frozen_of_row y1 (w.heap.size + 1) 1 _ _ r1
            have R0 := Lib.hid r0
            have R1 := Lib.hid r1
            clear r0 r1
            go_wp2
            exact bodyPost_ret (v := ckv (m, s)) (results_cell_row Try.results7 _ _ (w.heap.size + 1) 23 _ (0, 0) _ rfl (kr_set R1.out) Try.underlying23 rfl (by kernel_rfl)) rfl ⟨rfl, b_set (b_set E (Nat.le_succ _)) (Nat.le_succ _)⟩
          · have q2 : (e == 2) = false := by simpa using e2
            obtain rfl : (m, s) = c := by rw [← hc]; simp [nxt, k, v, e0, e1, e2, e3]
            clear k v hc cM e0 e1 e2 e3
            go_enter Try.func7, Try.ntmps7
            go_wp2_with fail
            refine (cS _).mono ?_
            rintro e y0 ⟨rfl, hb⟩
            have r0 : KR y0 w.heap.size 23 m s := row_keep hb (lay_old _ _ _)
            have r1 : KR y0 (w.heap.size + 1) 23 0 0 := row_keep hb (lay_new _ _ _)
            have E := b_trans (b_alloc (b_alloc (Below.refl _ _))) hb
            clear hb
            have g0 : y0.cell? ⟨w.heap.size, 0, none⟩ = some (.int .i64 m) := (cell_of_row _ _ 0 _ _ _ r0).trans rfl
            have g1 : y0.cell? ⟨w.heap.size, 1, none⟩ = some (.int .i64 s) := (cell_of_row _ _ 1 _ _ _ r0).trans rfl
            have h0 : y0.cell? ⟨w.heap.size + 1, 0, none⟩ = some (.int .i64 0) := (cell_of_row _ _ 0 _ _ _ r1).trans rfl
            have h1 : y0.cell? ⟨w.heap.size + 1, 1, none⟩ = some (.int .i64 0) := (cell_of_row _ _ 1 _ _ _ r1).trans rfl
            have z0 := frozen_of_row y0 (w.heap.size + 1) 0 _ _ r1
            have z1 := frozen_of_row y0 (w.heap.size + 1) 1 _ _ r1
            have R0 := Lib.hid r0
            have R1 := Lib.hid r1
            clear r0 r1
            go_wp2
            exact bodyPost_ret (v := ckv (m, s)) (results_cell_row Try.results7 _ _ (w.heap.size + 1) 23 _ (0, 0) _ rfl (kr_set R1.out) Try.underlying23 rfl (by kernel_rfl)) rfl ⟨rfl, b_set (b_set E (Nat.le_succ _)) (Nat.le_succ _)⟩
end Go.Proofs.Ytohbneijfibhhaa
