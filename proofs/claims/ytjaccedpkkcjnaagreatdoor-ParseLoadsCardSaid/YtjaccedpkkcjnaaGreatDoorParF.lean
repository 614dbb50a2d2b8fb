/- Layer 14: the document's Put: the text of a configuration. -/
import Derived.Test.YtjaccedpkkcjnaaGreatDoorParE
import Derived.Test.YtjaccedpkkcjnaaGreatDoorConD
namespace Go.Proofs.YtjaccedpkkcjnaaGreatDoor
open Go.RowKit Go.Shelf Go.Lib

theorem three_at (x : Nat → Int) (hx : C64 x) (o p q : Nat) (hp : p = o + 1) (hq : q = o + 2) (ho : q < 31) : ∃ S : ByteArray, IsB S (nums o 3 x ++ [10]) 67 ∧ ∀ w, Calls Tryz.prog 30 #[.agg #[.int .i64 (x o), .int .i64 (x p), .int .i64 (x q)]] w (RetV (.string S) w) := by
  subst hp hq
  have e : (32 :: (itoa (x o) ++ 32 :: (itoa (x (o + 1)) ++ 32 :: (itoa (x (o + 2)) ++ [10])))) = nums o 3 x ++ [10] := by simp [nums]
  refine ⟨⟨(nums o 3 x ++ [10]).toArray⟩, ⟨by simp, ?_⟩, fun w => ?_⟩
  · have h0 := itoa_len (x o) (hx o (by omega))
    have h1 := itoa_len (x (o + 1)) (hx (o + 1) (by omega))
    have h2 := itoa_len (x (o + 2)) (hx (o + 2) (by omega))
    rw [← e]
    simp
    omega
  · rw [← e]
    exact rthree_any _ _ _ (hx o (by omega)) (hx (o + 1) (by omega)) (hx (o + 2) (by omega)) w
theorem one_at (x : Nat → Int) (hx : C64 x) (o : Nat) (ho : o < 31) : ∃ S : ByteArray, IsB S (nums o 1 x ++ [10]) 23 ∧ ∀ w, Calls Tryz.prog 31 #[.int .i64 (x o)] w (RetV (.string S) w) := by
  have e : (32 :: (itoa (x o) ++ [10])) = nums o 1 x ++ [10] := by simp [nums]
  refine ⟨⟨(nums o 1 x ++ [10]).toArray⟩, ⟨by simp, ?_⟩, fun w => ?_⟩
  · have h0 := itoa_len (x o) (hx o (by omega))
    rw [← e]
    simp
    omega
  · rw [← e]
    refine (rone_any _ (hx o ho) w).mono fun e w' ⟨he, hw⟩ => ⟨he, ?_⟩
    rw [hw]
    exact Below.refl _ _
theorem txt_lit (x : Nat → Int) : txt x = [113] ++ (nums 0 3 x ++ [10]) ++ [108, 111, 111, 115, 101] ++ (nums 3 3 x ++ [10]) ++ [114] ++ (nums 6 1 x ++ [10]) ++ [114, 103, 114, 111, 117, 110, 100] ++ (nums 7 1 x ++ [10]) ++ [115, 116, 97, 114, 116] ++ (nums 8 3 x ++ [10]) ++ [102, 108, 111, 111, 114] ++ (nums 11 3 x ++ [10]) ++ [99, 101, 105, 108] ++ (nums 14 3 x ++ [10]) ++ [98, 111, 117, 110, 100] ++ (nums 17 3 x ++ [10]) ++ [103, 97, 116, 101] ++ (nums 20 1 x ++ [10]) ++ [116, 97, 98, 108, 101] ++ (nums 21 3 x ++ [10]) ++ [115, 99, 97, 108, 101] ++ (nums 24 1 x ++ [10]) ++ [114, 101, 115, 116] ++ (nums 25 1 x ++ [10]) ++ [99, 108, 105, 112] ++ (nums 26 1 x ++ [10]) ++ [104, 111, 108, 100] ++ (nums 27 1 x ++ [10]) ++ [99, 111, 97, 115, 116] ++ (nums 28 1 x ++ [10]) ++ [111, 117, 116] ++ (nums 29 1 x ++ [10]) ++ [98, 97, 110, 100] ++ (nums 30 1 x ++ [10]) ++ [101, 110, 100, 10] := by
  simp only [txt, suf, lnL, nmL, cntL, offL, Nat.zero_add, Nat.reduceAdd]
  simp [nums]

set_option maxHeartbeats 8000000 in
set_option maxRecDepth 20000 in
theorem rput_any (x : Nat → Int) (hx : C64 x) (w : World) : Calls Tryz.prog 17 #[cv x] w (RetV (.string ⟨(txt x).toArray⟩) w) := by
  have E : Below w.heap.size w (w.alloc (Obj.cells #[.int .i64 (x 0), .int .i64 (x 1), .int .i64 (x 2), .int .i64 (x 3), .int .i64 (x 4), .int .i64 (x 5), .int .i64 (x 6), .int .i64 (x 7), .int .i64 (x 8), .int .i64 (x 9), .int .i64 (x 10), .int .i64 (x 11), .int .i64 (x 12), .int .i64 (x 13), .int .i64 (x 14), .int .i64 (x 15), .int .i64 (x 16), .int .i64 (x 17), .int .i64 (x 18), .int .i64 (x 19), .int .i64 (x 20), .int .i64 (x 21), .int .i64 (x 22), .int .i64 (x 23), .int .i64 (x 24), .int .i64 (x 25), .int .i64 (x 26), .int .i64 (x 27), .int .i64 (x 28), .int .i64 (x 29), .int .i64 (x 30)] 26)) := b_alloc (Below.refl _ _)
  have K : CF (w.alloc (Obj.cells #[.int .i64 (x 0), .int .i64 (x 1), .int .i64 (x 2), .int .i64 (x 3), .int .i64 (x 4), .int .i64 (x 5), .int .i64 (x 6), .int .i64 (x 7), .int .i64 (x 8), .int .i64 (x 9), .int .i64 (x 10), .int .i64 (x 11), .int .i64 (x 12), .int .i64 (x 13), .int .i64 (x 14), .int .i64 (x 15), .int .i64 (x 16), .int .i64 (x 17), .int .i64 (x 18), .int .i64 (x 19), .int .i64 (x 20), .int .i64 (x 21), .int .i64 (x 22), .int .i64 (x 23), .int .i64 (x 24), .int .i64 (x 25), .int .i64 (x 26), .int .i64 (x 27), .int .i64 (x 28), .int .i64 (x 29), .int .i64 (x 30)] 26)) w.heap.size x := cf_new rfl
  have I0 := isb_lit [113]
  go_enter Tryz.func17, Tryz.ntmps17
  go_wp2
  generalize (w.alloc (Obj.cells #[.int .i64 (x 0), .int .i64 (x 1), .int .i64 (x 2), .int .i64 (x 3), .int .i64 (x 4), .int .i64 (x 5), .int .i64 (x 6), .int .i64 (x 7), .int .i64 (x 8), .int .i64 (x 9), .int .i64 (x 10), .int .i64 (x 11), .int .i64 (x 12), .int .i64 (x 13), .int .i64 (x 14), .int .i64 (x 15), .int .i64 (x 16), .int .i64 (x 17), .int .i64 (x 18), .int .i64 (x 19), .int .i64 (x 20), .int .i64 (x 21), .int .i64 (x 22), .int .i64 (x 23), .int .i64 (x 24), .int .i64 (x 25), .int .i64 (x 26), .int .i64 (x 27), .int .i64 (x 28), .int .i64 (x 29), .int .i64 (x 30)] 26)) = y0 at *
  obtain ⟨S0, B0, c0⟩ := three_at x hx 0 1 2 rfl rfl (by decide)
  obtain ⟨a1, I1, e1, r1⟩ := cat_ok I0 B0 (by simp)
  replace c0 := retV_regrown (w := y0) c0
  obtain ⟨S1, B1, c1⟩ := three_at x hx 3 4 5 rfl rfl (by decide)
  obtain ⟨a2, I2, e2, r2⟩ := cat_ok I1 (isb_lit [108, 111, 111, 115, 101]) (by simp)
  obtain ⟨a3, I3, e3, r3⟩ := cat_ok I2 B1 (by simp)
  replace c1 := retV_regrown (w := y0) c1
  obtain ⟨S2, B2, c2⟩ := one_at x hx 6 (by decide)
  obtain ⟨a4, I4, e4, r4⟩ := cat_ok I3 (isb_lit [114]) (by simp)
  obtain ⟨a5, I5, e5, r5⟩ := cat_ok I4 B2 (by simp)
  replace c2 := retV_regrown (w := y0) c2
  obtain ⟨S3, B3, c3⟩ := one_at x hx 7 (by decide)
  obtain ⟨a6, I6, e6, r6⟩ := cat_ok I5 (isb_lit [114, 103, 114, 111, 117, 110, 100]) (by simp)
  obtain ⟨a7, I7, e7, r7⟩ := cat_ok I6 B3 (by simp)
  replace c3 := retV_regrown (w := y0) c3
  clear e1 e2 e3 e4 e5 e6 e7 I0 B0 I1 I2 B1 I3 I4 B2 I5 I6 B3
  have h0 := cell_regrown (K 0 (by decide))
  have h1 := cell_regrown (K 1 (by decide))
  have h2 := cell_regrown (K 2 (by decide))
  have h3 := cell_regrown (K 3 (by decide))
  have h4 := cell_regrown (K 4 (by decide))
  have h5 := cell_regrown (K 5 (by decide))
  have h6 := cell_regrown (K 6 (by decide))
  have h7 := cell_regrown (K 7 (by decide))
  have HI := Lib.hid I7
  clear I7
  refine wp_region_quiet_below (by kernel_rfl) (by kernel_rfl) ?_
  repeat (with_reducible refine wpQuiet_step (fun KQ hKQ => ?_); go_simp; first | (with_reducible refine hKQ _ ?_; clear hKQ KQ) | (apply Exists.intro; with_reducible refine ⟨fun _ => ?_, hKQ _ ?_⟩; (with_reducible first | exact c0 _ _ | exact c1 _ _ | exact c2 _ _ | exact c3 _ _); clear hKQ KQ))
  refine wpQuiet_nil ?_
  intro _ hw'
  obtain ⟨⟨dq, osq⟩, hw''⟩ := hw'
  subst hw''
  replace E := b_trans E (below_regrown _ dq osq)
  replace K := cf_keep (below_regrown _ dq osq) K
  clear h0 h1 h2 h3 h4 h5 h6 h7 c0 c1 c2 c3 r1 r2 r3 r4 r5 r6 r7
  generalize Sort.grow (redrawn y0 dq) osq = y1 at *
  have I7 := HI.out
  clear HI
  go_wp2
  obtain ⟨S4, B4, c4⟩ := three_at x hx 8 9 10 rfl rfl (by decide)
  obtain ⟨a8, I8, e8, r8⟩ := cat_ok I7 (isb_lit [115, 116, 97, 114, 116]) (by simp)
  obtain ⟨a9, I9, e9, r9⟩ := cat_ok I8 B4 (by simp)
  replace c4 := retV_regrown (w := y1) c4
  obtain ⟨S5, B5, c5⟩ := three_at x hx 11 12 13 rfl rfl (by decide)
  obtain ⟨a10, I10, e10, r10⟩ := cat_ok I9 (isb_lit [102, 108, 111, 111, 114]) (by simp)
  obtain ⟨a11, I11, e11, r11⟩ := cat_ok I10 B5 (by simp)
  replace c5 := retV_regrown (w := y1) c5
  obtain ⟨S6, B6, c6⟩ := three_at x hx 14 15 16 rfl rfl (by decide)
  obtain ⟨a12, I12, e12, r12⟩ := cat_ok I11 (isb_lit [99, 101, 105, 108]) (by simp)
  obtain ⟨a13, I13, e13, r13⟩ := cat_ok I12 B6 (by simp)
  replace c6 := retV_regrown (w := y1) c6
  obtain ⟨S7, B7, c7⟩ := three_at x hx 17 18 19 rfl rfl (by decide)
  obtain ⟨a14, I14, e14, r14⟩ := cat_ok I13 (isb_lit [98, 111, 117, 110, 100]) (by simp)
  obtain ⟨a15, I15, e15, r15⟩ := cat_ok I14 B7 (by simp)
  replace c7 := retV_regrown (w := y1) c7
  clear e8 e9 e10 e11 e12 e13 e14 e15 I7 I8 B4 I9 I10 B5 I11 I12 B6 I13 I14 B7
  have h8 := cell_regrown (K 8 (by decide))
  have h9 := cell_regrown (K 9 (by decide))
  have h10 := cell_regrown (K 10 (by decide))
  have h11 := cell_regrown (K 11 (by decide))
  have h12 := cell_regrown (K 12 (by decide))
  have h13 := cell_regrown (K 13 (by decide))
  have h14 := cell_regrown (K 14 (by decide))
  have h15 := cell_regrown (K 15 (by decide))
  have h16 := cell_regrown (K 16 (by decide))
  have h17 := cell_regrown (K 17 (by decide))
  have h18 := cell_regrown (K 18 (by decide))
  have h19 := cell_regrown (K 19 (by decide))
  have HI := Lib.hid I15
  clear I15
  refine wp_region_quiet_below (by kernel_rfl) (by kernel_rfl) ?_
  repeat (with_reducible refine wpQuiet_step (fun KQ hKQ => ?_); go_simp; first | (with_reducible refine hKQ _ ?_; clear hKQ KQ) | (apply Exists.intro; with_reducible refine ⟨fun _ => ?_, hKQ _ ?_⟩; (with_reducible first | exact c4 _ _ | exact c5 _ _ | exact c6 _ _ | exact c7 _ _); clear hKQ KQ))
  refine wpQuiet_nil ?_
  intro _ hw'
  obtain ⟨⟨dq, osq⟩, hw''⟩ := hw'
  subst hw''
  replace E := b_trans E (below_regrown _ dq osq)
  replace K := cf_keep (below_regrown _ dq osq) K
  clear h8 h9 h10 h11 h12 h13 h14 h15 h16 h17 h18 h19 c4 c5 c6 c7 r8 r9 r10 r11 r12 r13 r14 r15
  generalize Sort.grow (redrawn y1 dq) osq = y2 at *
  have I15 := HI.out
  clear HI
  go_wp2
  obtain ⟨S8, B8, c8⟩ := one_at x hx 20 (by decide)
  obtain ⟨a16, I16, e16, r16⟩ := cat_ok I15 (isb_lit [103, 97, 116, 101]) (by simp)
  obtain ⟨a17, I17, e17, r17⟩ := cat_ok I16 B8 (by simp)
  replace c8 := retV_regrown (w := y2) c8
  obtain ⟨S9, B9, c9⟩ := three_at x hx 21 22 23 rfl rfl (by decide)
  obtain ⟨a18, I18, e18, r18⟩ := cat_ok I17 (isb_lit [116, 97, 98, 108, 101]) (by simp)
  obtain ⟨a19, I19, e19, r19⟩ := cat_ok I18 B9 (by simp)
  replace c9 := retV_regrown (w := y2) c9
  obtain ⟨S10, B10, c10⟩ := one_at x hx 24 (by decide)
  obtain ⟨a20, I20, e20, r20⟩ := cat_ok I19 (isb_lit [115, 99, 97, 108, 101]) (by simp)
  obtain ⟨a21, I21, e21, r21⟩ := cat_ok I20 B10 (by simp)
  replace c10 := retV_regrown (w := y2) c10
  obtain ⟨S11, B11, c11⟩ := one_at x hx 25 (by decide)
  obtain ⟨a22, I22, e22, r22⟩ := cat_ok I21 (isb_lit [114, 101, 115, 116]) (by simp)
  obtain ⟨a23, I23, e23, r23⟩ := cat_ok I22 B11 (by simp)
  replace c11 := retV_regrown (w := y2) c11
  obtain ⟨S12, B12, c12⟩ := one_at x hx 26 (by decide)
  obtain ⟨a24, I24, e24, r24⟩ := cat_ok I23 (isb_lit [99, 108, 105, 112]) (by simp)
  obtain ⟨a25, I25, e25, r25⟩ := cat_ok I24 B12 (by simp)
  replace c12 := retV_regrown (w := y2) c12
  clear e16 e17 e18 e19 e20 e21 e22 e23 e24 e25 I15 I16 B8 I17 I18 B9 I19 I20 B10 I21 I22 B11 I23 I24 B12
  have h20 := cell_regrown (K 20 (by decide))
  have h21 := cell_regrown (K 21 (by decide))
  have h22 := cell_regrown (K 22 (by decide))
  have h23 := cell_regrown (K 23 (by decide))
  have h24 := cell_regrown (K 24 (by decide))
  have h25 := cell_regrown (K 25 (by decide))
  have h26 := cell_regrown (K 26 (by decide))
  have HI := Lib.hid I25
  clear I25
  refine wp_region_quiet_below (by kernel_rfl) (by kernel_rfl) ?_
  repeat (with_reducible refine wpQuiet_step (fun KQ hKQ => ?_); go_simp; first | (with_reducible refine hKQ _ ?_; clear hKQ KQ) | (apply Exists.intro; with_reducible refine ⟨fun _ => ?_, hKQ _ ?_⟩; (with_reducible first | exact c8 _ _ | exact c9 _ _ | exact c10 _ _ | exact c11 _ _ | exact c12 _ _); clear hKQ KQ))
  refine wpQuiet_nil ?_
  intro _ hw'
  obtain ⟨⟨dq, osq⟩, hw''⟩ := hw'
  subst hw''
  replace E := b_trans E (below_regrown _ dq osq)
  replace K := cf_keep (below_regrown _ dq osq) K
  clear h20 h21 h22 h23 h24 h25 h26 c8 c9 c10 c11 c12 r16 r17 r18 r19 r20 r21 r22 r23 r24 r25
  generalize Sort.grow (redrawn y2 dq) osq = y3 at *
  have I25 := HI.out
  clear HI
  go_wp2
  obtain ⟨S13, B13, c13⟩ := one_at x hx 27 (by decide)
  obtain ⟨a26, I26, e26, r26⟩ := cat_ok I25 (isb_lit [104, 111, 108, 100]) (by simp)
  obtain ⟨a27, I27, e27, r27⟩ := cat_ok I26 B13 (by simp)
  replace c13 := retV_regrown (w := y3) c13
  obtain ⟨S14, B14, c14⟩ := one_at x hx 28 (by decide)
  obtain ⟨a28, I28, e28, r28⟩ := cat_ok I27 (isb_lit [99, 111, 97, 115, 116]) (by simp)
  obtain ⟨a29, I29, e29, r29⟩ := cat_ok I28 B14 (by simp)
  replace c14 := retV_regrown (w := y3) c14
  obtain ⟨S15, B15, c15⟩ := one_at x hx 29 (by decide)
  obtain ⟨a30, I30, e30, r30⟩ := cat_ok I29 (isb_lit [111, 117, 116]) (by simp)
  obtain ⟨a31, I31, e31, r31⟩ := cat_ok I30 B15 (by simp)
  replace c15 := retV_regrown (w := y3) c15
  obtain ⟨S16, B16, c16⟩ := one_at x hx 30 (by decide)
  obtain ⟨a32, I32, e32, r32⟩ := cat_ok I31 (isb_lit [98, 97, 110, 100]) (by simp)
  obtain ⟨a33, I33, e33, r33⟩ := cat_ok I32 B16 (by simp)
  replace c16 := retV_regrown (w := y3) c16
  obtain ⟨a34, I34, e34, r34⟩ := cat_ok I33 (isb_lit [101, 110, 100, 10]) (by simp)
  have hf : a34 = ⟨(txt x).toArray⟩ := by
    have hq := isb_eq I34
    rw [hq, txt_lit]
    try simp only [List.append_assoc]
  have HF := Lib.hid hf
  clear e26 e27 e28 e29 e30 e31 e32 e33 e34 I25 I26 B13 I27 I28 B14 I29 I30 B15 I31 I32 B16 I33 hf I34
  have h27 := cell_regrown (K 27 (by decide))
  have h28 := cell_regrown (K 28 (by decide))
  have h29 := cell_regrown (K 29 (by decide))
  have h30 := cell_regrown (K 30 (by decide))
  refine wp_region_quiet_below (by kernel_rfl) (by kernel_rfl) ?_
  repeat (with_reducible refine wpQuiet_step (fun KQ hKQ => ?_); go_simp; first | (with_reducible refine hKQ _ ?_; clear hKQ KQ) | (apply Exists.intro; with_reducible refine ⟨fun _ => ?_, hKQ _ ?_⟩; (with_reducible first | exact c13 _ _ | exact c14 _ _ | exact c15 _ _ | exact c16 _ _); clear hKQ KQ))
  refine wpQuiet_nil ?_
  intro _ hw'
  obtain ⟨⟨dq, osq⟩, hw''⟩ := hw'
  subst hw''
  replace E := b_trans E (below_regrown _ dq osq)
  replace K := cf_keep (below_regrown _ dq osq) K
  clear h27 h28 h29 h30 c13 c14 c15 c16 r26 r27 r28 r29 r30 r31 r32 r33 r34
  generalize Sort.grow (redrawn y3 dq) osq = y4 at *
  go_wp2
  go_ret
  exact ⟨by rw [← HF.out]; rfl, E⟩
end Go.Proofs.YtjaccedpkkcjnaaGreatDoor
