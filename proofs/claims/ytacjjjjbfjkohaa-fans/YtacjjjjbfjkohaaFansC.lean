/-
  atlaskeep.Fans.
-/
import Derived.Test.YtacjjjjbfjkohaaFansB
import Derived.Test.YtacjjjjbfjkohaaBoxesA
namespace Go.Proofs.Ytacjjjjbfjkohaa
open Go.RowKit

theorem sgn_or (n : Int) : sgn n = 1 ∨ sgn n = -1 ∨ sgn n = 0 := by have := sgn_cases n; omega
theorem inner_any (vx vy : Value) (X Y : Nat → Int) (x y : Int) (w : World) (hx : IsAt w vx 3 X) (hy : IsAt w vy 3 Y) (wX : ∀ i, i < 3 → W30 (X i)) (wY : ∀ i, i < 3 → W30 (Y i)) (wx : W30 x) (wy : W30 y) :
    Calls Try.prog 30 #[vx, vy, .int .i64 x, .int .i64 y] w fun e w' => e = .returned (.int .i64 (inr (X 0) (Y 0) (X 1) (Y 1) (X 2) (Y 2) x y)) ∧ Below w.heap.size w w' := by
  obtain ⟨bx, ox, cx, rfl, _, hcx⟩ := hx
  obtain ⟨b_, oy, cy, rfl, _, hcy⟩ := hy
  have X0 := wX 0 (by omega)
  have X1 := wX 1 (by omega)
  have X2 := wX 2 (by omega)
  have Y0 := wY 0 (by omega)
  have Y1 := wY 1 (by omega)
  have Y2 := wY 2 (by omega)
  exact inner_core bx ox cx b_ oy cy (X 0) (X 1) (X 2) (Y 0) (Y 1) (Y 2) x y _ _ _ _ w (hcx 0 (by omega)) (hcx 1 (by omega)) (hcx 2 (by omega)) (hcy 0 (by omega)) (hcy 1 (by omega)) (hcy 2 (by omega))
    (fun W => side_any _ _ _ _ _ _ W X0 Y0 X1 Y1 X2 Y2) (fun W => side_any _ _ _ _ _ _ W X0 Y0 X1 Y1 wx wy) (fun W => side_any _ _ _ _ _ _ W X1 Y1 X2 Y2 wx wy) (fun W => side_any _ _ _ _ _ _ W X2 Y2 X0 Y0 wx wy)
    (sgn_or _) (sgn_or _) (sgn_or _) (sgn_or _)

def t3 (a b c : Int) (i : Nat) : Int := if i = 0 then a else if i = 1 then b else c
theorem t3_at (w : World) (a b c : Int) : IsAt (w.alloc (.cells #[.int .i64 a, .int .i64 b, .int .i64 c] 3 (0, 0))).drew (.slice (some ⟨w.heap.size, 0, none⟩) 3 3) 3 (t3 a b c) := by
  refine ⟨w.heap.size, 0, 3, rfl, ?_, fun i hi => ?_⟩
  · show w.heap.size < (w.alloc _).heap.size
    simp
  · have h : (w.alloc (.cells #[.int .i64 a, .int .i64 b, .int .i64 c] 3 (0, 0))).drew.heap[w.heap.size]? = some (.cells #[.int .i64 a, .int .i64 b, .int .i64 c] 3 (0, 0)) := heap_alloc_new w _
    rw [Nat.zero_add, blk_cells h]
    have : i = 0 ∨ i = 1 ∨ i = 2 := by omega
    rcases this with rfl | rfl | rfl <;> rfl
theorem t3_blk {w : World} {b : Nat} {o : Obj} (h : w.heap[b]? = some o) (o' : Obj) : (w.alloc o').drew.heap[b]? = some o := (Below.heap_alloc w o' b (Array.getElem?_eq_some_iff.1 h).1).trans h
theorem t3_W {a b c : Int} (ha : W30 a) (hb : W30 b) (hc : W30 c) : ∀ i, i < 3 → W30 (t3 a b c i) := fun i hi => by
  have : i = 0 ∨ i = 1 ∨ i = 2 := by omega
  rcases this with rfl | rfl | rfl
  · exact ha
  · exact hb
  · exact hc

theorem inr_or (ax ay bx yb cx cy x y : Int) : inr ax ay bx yb cx cy x y = 1 ∨ inr ax ay bx yb cx cy x y = 0 ∨ inr ax ay bx yb cx cy x y = -1 := by
  unfold inr
  split
  · exact Or.inr (Or.inl rfl)
  · split
    · exact Or.inr (Or.inl rfl)
    · split
      · exact Or.inr (Or.inr rfl)
      · exact Or.inl rfl
/-- What a round of Fans meets. -/
theorem round_out (ax ay bx yb cx cy x y : Int) : (inr ax ay bx yb cx cy x y = 1 ∧ tri ax ay bx yb cx cy x y = true) ∨ (inr ax ay bx yb cx cy x y = 0 ∧ tri ax ay bx yb cx cy x y = false) ∨ (inr ax ay bx yb cx cy x y = -1 ∧ tri ax ay bx yb cx cy x y = true) ∨ (inr ax ay bx yb cx cy x y = -1 ∧ tri ax ay bx yb cx cy x y = false) := by
  rcases inr_or ax ay bx yb cx cy x y with h | h | h
  · exact Or.inl ⟨h, inr_one _ _ _ _ _ _ _ _ h⟩
  · exact Or.inr (Or.inl ⟨h, inr_zero _ _ _ _ _ _ _ _ h⟩)
  · cases g : tri ax ay bx yb cx cy x y
    · exact Or.inr (Or.inr (Or.inr ⟨h, rfl⟩))
    · exact Or.inr (Or.inr (Or.inl ⟨h, rfl⟩))
theorem fan_next (F : Nat → Int) (x y : Int) (j : Nat) (h : 1 ≤ j) : fan F x y (j + 1 - 1) = (fan F x y (j - 1) != tri (t3 (F 8) (F (8 + j)) (F (8 + (j + 1))) 0) (t3 (F 16) (F (16 + j)) (F (16 + (j + 1))) 0) (t3 (F 8) (F (8 + j)) (F (8 + (j + 1))) 1) (t3 (F 16) (F (16 + j)) (F (16 + (j + 1))) 1) (t3 (F 8) (F (8 + j)) (F (8 + (j + 1))) 2) (t3 (F 16) (F (16 + j)) (F (16 + (j + 1))) 2) x y) := by
  obtain ⟨m, rfl⟩ : ∃ m, j = m + 1 := ⟨j - 1, by omega⟩
  rfl

set_option maxRecDepth 10000 in
set_option maxHeartbeats 3200000 in
theorem fans_walk (raw : Nat → Int) (zoom px py : Int) (w : World) (hF : F64 raw) (r1 : I64 zoom) (r2 : I64 px) (r3 : I64 py) :
    Calls Try.prog 9 #[.agg (fc raw), .int .i64 zoom, .int .i64 px, .int .i64 py] w fun e w' => e = .returned (.bool true) ∧ Below w.heap.size w w' := by
  unfold I64 at r1 r2 r3
  have PZ := fun W => pick_any zoom 23 W r1 (by omega)
  have PX := fun W => pick_any px 1073741825 W r2 (by omega)
  have PY := fun W => pick_any py 1073741825 W r3 (by omega)
  have bz := pk_in zoom (n := 23) (by omega)
  have wx := W30_pk px
  have wy := W30_pk py
  generalize pk px 1073741825 = x at PX wx
  generalize pk py 1073741825 = y at PY wy
  generalize pk zoom 23 = z at PZ bz
  have z1 : 0 ≤ z := by omega
  have z2 : z ≤ 22 := by omega
  have e1 := fc_set raw 2 0 (by omega)
  have c2 := fc_at raw 2 (by decide)
  have hF1 := F64_upd hF 2 0 (by omega)
  have hM := mk_rt (upd raw 2 0)
  have k2 : mk (upd raw 2 0) 2 = 0 := by rw [mk_lo _ 2 (by omega)]; simp [base, upd, pk]
  have hR := fun W => right_any (upd raw 2 0) W hF1
  have hA := fun vx vy X Y W => area_any (upd raw 2 0) vx vy 3 X Y W hF1
  generalize upd raw 2 0 = R at e1 hM k2 hR hA
  generalize mk R = F at hM k2 hR
  have t1 := heap_alloc_new w (.cells (fc R) 26 (0, 0))
  have HR := hide hR
  have HA := hide hA
  have HM := hide hM
  have HK2 := hide k2
  clear hR hA hM k2 hF hF1 bz
  go_enter Try.func9, Try.ntmps9
  go_wp2_with fail
  refine (PZ _).mono ?_
  rintro e w9 ⟨rfl, rfl⟩
  go_wp2_with fail
  refine (PX _).mono ?_
  rintro e w9 ⟨rfl, rfl⟩
  go_wp2_with fail
  refine (PY _).mono ?_
  rintro e w9 ⟨rfl, rfl⟩
  go_wp2_with (refine ld26 rfl _ rfl _ rfl R t1 ?_)
  refine (unhide HR _).mono ?_
  rintro e w2 ⟨rfl, hb2⟩
  have hz2 := blk_on t1 hb2
  have hB2 := (below_one w (.cells (fc R) 26 (0, 0))).trans (hb2.mono (by simp))
  have hN := heap_alloc_new w2 (.cells (fc zf) 26 (0, 0))
  have hN1 := setRow_heap _ _ _ (fc F) _ _ hN
  have hl2 : w.heap.size < w2.heap.size := (Array.getElem?_eq_some_iff.1 hz2).1
  have SZ := (setRow_other (show w2.heap.size ≠ w.heap.size by omega) (fc F)).trans ((Below.heap_alloc w2 (.cells (fc zf) 26 (0, 0)) _ hl2).trans hz2)
  have SB := below_setRow (below_alloc hB2 (Nat.le_refl _) (.cells (fc zf) 26)) (show w.heap.size ≤ w2.heap.size by omega) (fc F)
  have HN1 := hide hN1
  have HSZ := hide SZ
  have HSB := hide SB
  clear hb2 hz2 hB2 hN1 SZ SB
  go_wp2_with (first | refine al26 rfl rfl w2.heap.size rfl ?_ | refine st26 rfl _ _ rfl w2.heap.size F rfl rfl zf hN ?_)
  obtain ⟨n, hn, hn3, hn8⟩ : ∃ n : Nat, F 7 = (n : Int) + 2 ∧ 1 ≤ n ∧ n ≤ 6 := by
    rcases (unhide HM).kind with ⟨a, b⟩ | ⟨a, b⟩
    · exact ⟨(F 7).toNat - 2, by omega, by omega, by omega⟩
    · have := unhide HK2; omega
  go_loopw [13, 14] (fun o i wr => ∃ j : Nat, 1 ≤ j ∧ j ≤ n + 1 ∧ i = .int .i64 j ∧ o = .bool (fan F x y (j - 1)) ∧ wr.heap[w.heap.size]? = some (.cells (fc R) 26 (0, 0)) ∧ wr.heap[w2.heap.size]? = some (.cells (fc F) 26 (0, 0)) ∧ Below w.heap.size w wr) (fun _ i _ => 8 - (intOf i).toNat)
  case atStart => exact ⟨1, by omega, by omega, rfl, rfl, unhide HSZ, unhide HN1, unhide HSB⟩
  case round =>
    obtain ⟨j, hj1, hj, rfl, rfl, hz, hg, hb⟩ := hrel
    clear hN e1 c2 t1
    have c7 := fc_at F 7 (by decide)
    rw [hn] at c7
    have p := blk_cells hg
    by_cases hlt : j ≤ n
    · have hlt' : (j : Int) + 1 < (n : Int) + 2 := by omega
      have c8 := fc_at F 8 (by decide)
      have c16 := fc_at F 16 (by decide)
      have c8j := fc_at F (8 + j) (by omega)
      have c16j := fc_at F (16 + j) (by omega)
      have c8k := fc_at F (8 + (j + 1)) (by omega)
      have c16k := fc_at F (16 + (j + 1)) (by omega)
      have tn : ((j : Int) + 1).toNat = j + 1 := by omega
      have b1 : (j : Int) < 8 := by omega
      have b2 : (j : Int) + 1 < 8 := by omega
      have b3 : (0 : Int) ≤ (j : Int) + 1 := by omega
      have wr1 : IntKind.i64.wrap ((j : Int) + 1) = (j : Int) + 1 := i64_in _ (by omega)
      have T1 := hide (t3_at wr (F 8) (F (8 + j)) (F (8 + (j + 1))))
      have Z1 := hide (t3_blk hz (.cells #[.int .i64 (F 8), .int .i64 (F (8 + j)), .int .i64 (F (8 + (j + 1)))] 3 (0, 0)))
      have G1 := t3_blk hg (.cells #[.int .i64 (F 8), .int .i64 (F (8 + j)), .int .i64 (F (8 + (j + 1)))] 3 (0, 0))
      have B1 := hide ((below_alloc hb (Nat.le_refl _) (.cells #[.int .i64 (F 8), .int .i64 (F (8 + j)), .int .i64 (F (8 + (j + 1)))] 3 (0, 0))).drew)
      have HG1 := hide G1
      clear G1 hz hb
      go_wp2_with fail
      go_region
      go_wp2_with fail
      generalize (wr.alloc (.cells #[.int .i64 (F 8), .int .i64 (F (8 + j)), .int .i64 (F (8 + (j + 1)))] 3)).drew = w3 at T1 Z1 HG1 B1 ⊢
      clear p hg
      have hg := unhide HG1
      have p := blk_cells hg
      have T2 := hide (t3_at w3 (F 16) (F (16 + j)) (F (16 + (j + 1))))
      have Z2 := t3_blk (unhide Z1) (.cells #[.int .i64 (F 16), .int .i64 (F (16 + j)), .int .i64 (F (16 + (j + 1)))] 3 (0, 0))
      have HG2 := hide (t3_blk hg (.cells #[.int .i64 (F 16), .int .i64 (F (16 + j)), .int .i64 (F (16 + (j + 1)))] 3 (0, 0)))
      have Bx : Below w3.heap.size w3 (w3.alloc (.cells #[.int .i64 (F 16), .int .i64 (F (16 + j)), .int .i64 (F (16 + (j + 1)))] 3 (0, 0))).drew := (below_one w3 _).drew
      have B2 := hide ((unhide B1).trans (Bx.mono (unhide B1).size))
      have T1' := hide ((unhide T1).on Bx)
      have HZ2 := hide Z2
      clear Z2 Bx T1 Z1 HG1 B1
      go_region
      generalize (w3.alloc (.cells #[.int .i64 (F 16), .int .i64 (F (16 + j)), .int .i64 (F (16 + (j + 1)))] 3)).drew = w4 at T1' T2 HZ2 HG2 B2 ⊢
      clear p hg
      have hz4 := unhide HZ2
      go_wp2_with (refine ld26 rfl _ rfl _ rfl R hz4 ?_)
      refine (unhide HA _ _ _ _ _ (unhide T1') (unhide T2)).mono ?_
      rintro e w5 ⟨⟨G, hAr, rfl⟩, hb5⟩
      have hz5 := blk_on hz4 hb5
      have hg5 := blk_on (unhide HG2) hb5
      have B5 := (unhide B2).trans (hb5.mono (unhide B2).size)
      have X5 := (unhide T1').on hb5
      have Y5 := (unhide T2).on hb5
      have WX := t3_W ((unhide HM).px 0 (by omega)) ((unhide HM).px j (by omega)) ((unhide HM).px (j + 1) (by omega))
      have WY := t3_W ((unhide HM).py 0 (by omega)) ((unhide HM).py j (by omega)) ((unhide HM).py (j + 1) (by omega))
      have C5 := tri_cov (x := x) (y := y) hAr WX WY z1 z2 wx wy
      have hN5 := heap_alloc_new w5 (.cells (fc zf) 26 (0, 0))
      have hN6 := setRow_heap _ _ _ (fc G) _ _ hN5
      have lz : w.heap.size < w5.heap.size := (Array.getElem?_eq_some_iff.1 hz5).1
      have lg : w2.heap.size < w5.heap.size := (Array.getElem?_eq_some_iff.1 hg5).1
      have BB : Below w5.heap.size w5 ((w5.alloc (.cells (fc zf) 26)).setRow w5.heap.size (fc G)) := below_setRow (below_one w5 (.cells (fc zf) 26)) (Nat.le_refl _) (fc G)
      have HZ6 := hide (blk_on hz5 BB)
      have HG6 := hide (blk_on hg5 BB)
      have HX6 := hide (X5.on BB)
      have HY6 := hide (Y5.on BB)
      have HB6 := hide (B5.trans (BB.mono B5.size))
      have HN6 := hide hN6
      have HC := hide C5
      have HWX := hide WX
      have HWY := hide WY
      clear hz5 hg5 B5 X5 Y5 WX WY C5 hN6 BB hb5 HZ2 HG2 B2 T1' T2 hz4 lz lg hAr HA c8 c16 c8j c16j c8k c16k
      go_wp2_with (first | refine al26 rfl rfl w5.heap.size rfl ?_ | refine st26 rfl _ _ rfl w5.heap.size G rfl rfl zf hN5 ?_ | refine ld26 rfl _ rfl _ rfl G (unhide HN6) ?_)
      generalize (w5.alloc (.cells (fc zf) 26)).setRow w5.heap.size (fc G) = w6 at HZ6 HG6 HX6 HY6 HB6 HN6 ⊢
      clear hN5
      refine (Covers_any _ _ _ _ _).mono ?_
      rintro e w7 ⟨rfl, hb7⟩
      rw [unhide HC]
      have X7 := (unhide HX6).on hb7
      have Y7 := (unhide HY6).on hb7
      have HZ7 := hide (blk_on (unhide HZ6) hb7)
      have HG7 := hide (blk_on (unhide HG6) hb7)
      have HB7 := hide ((unhide HB6).trans (hb7.mono (unhide HB6).size))
      have HI := hide (inner_any _ _ _ _ x y w7 X7 Y7 (unhide HWX) (unhide HWY) wx wy)
      clear X7 Y7 hb7 HZ6 HG6 HX6 HY6 HB6 HN6 HC HWX HWY
      go_wp2_with fail
      refine (unhide HI).mono ?_
      rintro e w8 ⟨rfl, hb8⟩
      have HZ8 := hide (blk_on (unhide HZ7) hb8)
      have HG8 := hide (blk_on (unhide HG7) hb8)
      have HB8 := hide ((unhide HB7).trans (hb8.mono (unhide HB7).size))
      clear hb8 HZ7 HG7 HB7 HI
      have HO := round_out (t3 (F 8) (F (8 + j)) (F (8 + (j + 1))) 0) (t3 (F 16) (F (16 + j)) (F (16 + (j + 1))) 0) (t3 (F 8) (F (8 + j)) (F (8 + (j + 1))) 1) (t3 (F 16) (F (16 + j)) (F (16 + (j + 1))) 1) (t3 (F 8) (F (8 + j)) (F (8 + (j + 1))) 2) (t3 (F 16) (F (16 + j)) (F (16 + (j + 1))) 2) x y
      have HN := fan_next F x y j hj1
      generalize inr (t3 (F 8) (F (8 + j)) (F (8 + (j + 1))) 0) (t3 (F 16) (F (16 + j)) (F (16 + (j + 1))) 0) (t3 (F 8) (F (8 + j)) (F (8 + (j + 1))) 1) (t3 (F 16) (F (16 + j)) (F (16 + (j + 1))) 1) (t3 (F 8) (F (8 + j)) (F (8 + (j + 1))) 2) (t3 (F 16) (F (16 + j)) (F (16 + (j + 1))) 2) x y = I at HO ⊢
      generalize tri (t3 (F 8) (F (8 + j)) (F (8 + (j + 1))) 0) (t3 (F 16) (F (16 + j)) (F (16 + (j + 1))) 0) (t3 (F 8) (F (8 + j)) (F (8 + (j + 1))) 1) (t3 (F 16) (F (16 + j)) (F (16 + (j + 1))) 1) (t3 (F 8) (F (8 + j)) (F (8 + (j + 1))) 2) (t3 (F 16) (F (16 + j)) (F (16 + (j + 1))) 2) x y = T at HO HN ⊢
      generalize fan F x y (j - 1) = O at HN ⊢
      have HN' := hide HN
      clear HN
      rcases HO with ⟨rfl, rfl⟩ | ⟨rfl, rfl⟩ | ⟨rfl, rfl⟩ | ⟨rfl, rfl⟩
      all_goals
        go_wp2_with fail
        go_roundw
        case rel => exact ⟨j + 1, by omega, by omega, by go_num, by rw [unhide HN']; cases O <;> rfl, unhide HZ8, unhide HG8, unhide HB8⟩
        case measure => simp [intOf]; omega
    · have hje : j = n + 1 := by omega
      subst hje
      have hlt' : ¬ ((n + 1 : Nat) : Int) + 1 < (n : Int) + 2 := by omega
      have HC := hide (fan_cov (unhide HM) (unhide HK2) n hn z1 z2 wx wy)
      have HB := hide hb
      clear hb hz
      go_wp2_with (refine ld26 rfl _ rfl _ rfl F hg ?_)
      refine (Covers_any _ _ _ _ _).mono ?_
      rintro e w7 ⟨rfl, hb7⟩
      rw [unhide HC]
      have HB7 := hide ((unhide HB).trans (hb7.mono (unhide HB).size))
      clear hb7 hg p
      generalize fan F x y n = O
      go_wp2
      go_ret
      exact ⟨ret_bool (by cases O <;> rfl), unhide HB7⟩
end Go.Proofs.Ytacjjjjbfjkohaa
