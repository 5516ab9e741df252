/-
  atlasref.ink.
-/
import Derived.Test.YtppcpbhnpdjfpaaInkC
namespace Go.Proofs.Ytppcpbhnpdjfpaa
open Go.RowKit

theorem Paint_any (v : Value) (n : Nat) (fs : Nat → Nat → Int) (l z x y : Int) (w : World) (hv : FsAt w v n fs) :
    Calls Try.prog 19 #[v, .agg #[.int .i64 l, .int .i64 z, .int .i64 x, .int .i64 y]] w fun e w' => e = .returned (.tuple #[.string ⟨(pPic fs n l z x y).toArray⟩, .int .i64 (pErr fs n l z x y)]) ∧ Below w.heap.size w w' := by
  by_cases he : keyErr l z x y = 0
  · by_cases hn : n ≤ 40
    · exact Paint_in v n fs l z x y w hv he hn
    · exact Paint_key v n fs l z x y w hv (Or.inr (by omega))
  · exact Paint_key v n fs l z x y w hv (Or.inl he)

theorem Cov_eq {f : Nat → Int} {z x y : Int} (hr : right f = true) (h1 : 0 ≤ z) (h2 : z ≤ 22) (hx : W30 x) (hy : W30 y) : Cov f z x y = cov f (un z) x y := by
  simp [Cov, hr, inR_t h1 h2, inR_t hx.1 hx.2, inR_t hy.1 hy.2]
theorem isAb_zf {f : Nat → Int} (hr : right f = true) : isAb zf f = false := by
  have h := right_out hr
  have h0 := h.id
  have h4 := h.rk
  unfold isAb zf
  split
  · simp; omega
  · simp; omega
theorem ht_on {fs : Nat → Nat → Int} {T : Nat → Int} {t : Int} {k : Nat} (h : (t = -1 ∧ T = zf) ∨ ∃ m : Nat, t = m ∧ m < k ∧ T = fs m) : (t = -1 ∧ T = zf) ∨ ∃ m : Nat, t = m ∧ m < k + 1 ∧ T = fs m := by
  rcases h with h | ⟨m, a, b, c⟩
  · exact Or.inl h
  · exact Or.inr ⟨m, a, by omega, c⟩

set_option maxHeartbeats 3200000 in
theorem refInk_any (v : Value) (n : Nat) (fs : Nat → Nat → Int) (l z x y : Int) (p : Nat) (w : World) (hv : FsAt w v n fs) (he : keyErr l z x y = 0) (hp : p < 64) (hn40 : n ≤ 40) (hr : ∀ i, i < n → right (fs i) = true) :
    Calls Try.prog 73 #[v, .agg #[.int .i64 l, .int .i64 z, .int .i64 x, .int .i64 y], .int .i64 p] w fun e w' => e = .returned (.int .i64 (ink fs n l z x y p)) ∧ Below w.heap.size w w' := by
  obtain ⟨_, ⟨z1, z2⟩, ⟨x1, x2⟩, ⟨y1, y2⟩⟩ := keyErr_zero he
  have U := fun W => refUnit_yes z W z1 z2
  obtain ⟨p1, p2, p3, p4⟩ := mod8 p hp
  obtain ⟨⟨kx1, kx2⟩, _, bX, ax, cx, ex, _⟩ := cen_in z1 z2 x1 x2 p1 p2
  obtain ⟨⟨ky1, ky2⟩, _, bY, ay, cy, ey, _⟩ := cen_in z1 z2 y1 y2 p3 p4
  obtain ⟨u1, u2⟩ := un_in z z1 z2
  unfold ink
  rw [ex] at bX
  rw [ey] at bY
  rw [ex, ey]
  have CC := fun k (hk : k < n) => Cov_eq (hr k hk) z1 z2 bX bY
  obtain ⟨u, hu⟩ : ∃ u, un z = u := ⟨_, rfl⟩
  rw [hu] at U bX bY u1 u2 ax ay cx cy CC
  rw [hu]
  obtain ⟨A, hA⟩ : ∃ A, 8 * x * u = A := ⟨_, rfl⟩
  obtain ⟨C, hC⟩ : ∃ A, (p : Int) % 8 * u = A := ⟨_, rfl⟩
  obtain ⟨D, hD⟩ : ∃ A, 8 * y * u = A := ⟨_, rfl⟩
  obtain ⟨E, hE⟩ : ∃ A, (p : Int) / 8 * u = A := ⟨_, rfl⟩
  rw [hA, hC] at bX CC
  rw [hD, hE] at bY CC
  rw [hA, hC, hD, hE]
  rw [hA] at ax
  rw [hD] at ay
  rw [hC] at cx
  rw [hE] at cy
  have q1 : wrap64 (8 * x * u) = A := by rw [hA]; exact IntWalk.wrap64_in _ ⟨by omega, by omega⟩
  have q2 : wrap64 ((p : Int) % 8 * u) = C := by rw [hC]; exact IntWalk.wrap64_in _ ⟨by omega, by omega⟩
  have q3 : wrap64 (8 * y * u) = D := by rw [hD]; exact IntWalk.wrap64_in _ ⟨by omega, by omega⟩
  have q4 : wrap64 ((p : Int) / 8 * u) = E := by rw [hE]; exact IntWalk.wrap64_in _ ⟨by omega, by omega⟩
  have HC := hide CC
  have HP := hide (And.intro bX bY)
  clear hu hA hC hD hE he x2 y2 p1 p2 p3 p4 ex ey CC bX bY
  have hg0 := heap_alloc_new w (.cells #[.int .i64 l, .int .i64 z, .int .i64 x, .int .i64 y] 28 (0, 0))
  have HV := hide hv
  obtain ⟨oa, cap, rfl, hm, hn⟩ := hv
  have HN := hide hn
  clear hn
  go_enter Try.func73, Try.ntmps73
  go_wp2_with (go_at_call 45; refine (U _).mono ?_; rintro e w9 ⟨rfl, rfl⟩)
  go_loopw [10, 11, 12, 13, 14] (fun tt i _ _ _ wr => ∃ (k : Nat) (T : Nat → Int) (t : Int), k ≤ n ∧ i = .int .i64 k ∧ tt = .int .i64 t ∧ Hid ((t = -1 ∧ T = zf) ∨ ∃ m : Nat, t = m ∧ m < k ∧ T = fs m) ∧ Hid (T = top fs l z u (A + C + u / 2) (D + E + u / 2) k) ∧ wr.heap[w.heap.size]? = some (.cells #[.int .i64 l, .int .i64 z, .int .i64 x, .int .i64 y] 28 (0, 0)) ∧ Below w.heap.size w wr) (fun _ i _ _ _ _ => n - (intOf i).toNat)
  case atStart => exact ⟨0, zf, -1, by omega, rfl, rfl, hide (Or.inl ⟨rfl, rfl⟩), hide rfl, hg0, below_one _ _⟩
  case round =>
    obtain ⟨k, T, t, hk, rfl, rfl, htt, hT, hk1, hb0⟩ := hrel
    clear q1 q2 q3 q4
    by_cases hlt : k < n
    · obtain ⟨b, off, rfl, hbl, hc0⟩ := unhide HN (by omega)
      have hcs : ∀ i, i < n → ∀ j, j < 24 → wr.cell? ⟨b, off + i * 24 + j, none⟩ = some (.int .i64 (fs i j)) := fun i hi j hj => (hb0.cell (p := ⟨b, off + i * 24 + j, none⟩) hbl).trans (hc0 i hi j hj)
      have hbw : b < wr.heap.size := Nat.lt_of_lt_of_le hbl hb0.size
      have hb := hide hb0
      clear hc0 hb0
      have hk := hlt
      have hkn : (k : Int) < n := by omega
      have S1 := fun W => shows53_any (fs k) l z x y W
      have C1 := fun W => refCovers_any (fs k) z (A + C + u / 2) (D + E + u / 2) W
      rw [unhide HC k hlt] at C1
      clear hlt
      cases hs : shw (fs k) l z with
      | false =>
        rw [hs] at S1
        go_wp2
        refine region_bq (by kernel_rfl) (by kernel_rfl) ?_
        refine q_move rfl _ rfl (.slice (some ⟨b, off, none⟩) n cap) rfl ?_
        simp only [Act.put, List.setIfInBounds_toArray, List.set_cons_succ, List.set_cons_zero]
        refine q_move rfl _ rfl (.int .i64 k) rfl ?_
        simp only [Act.put, List.setIfInBounds_toArray, List.set_cons_succ, List.set_cons_zero]
        refine q_val rfl (.pointer (some ⟨b, off + k * 24, none⟩)) (fun _ _ => by simp [go_sem, hkn]) ?_
        simp only [Act.put, List.setIfInBounds_toArray, List.set_cons_succ, List.set_cons_zero]
        refine q_load rfl 26 _ rfl b (off + k * 24) rfl (fc (fs k)) _ Try.underlying26 rfl (szf _) (fun w' h => fs_rng (fun i hi j hj => (h.cell (p := ⟨b, off + i * 24 + j, none⟩) hbw).trans (hcs i hi j hj)) hk) ?_
        simp only [Act.put, List.setIfInBounds_toArray, List.set_cons_succ, List.set_cons_zero]
        refine q_load rfl 28 _ rfl w.heap.size 0 rfl #[.int .i64 l, .int .i64 z, .int .i64 x, .int .i64 y] _ Try.underlying28 rfl (sz28 l z x y) (fun w' h => rng_on hk1 h) ?_
        simp only [Act.put, List.setIfInBounds_toArray, List.set_cons_succ, List.set_cons_zero]
        refine q_call rfl 53 #[.agg (fc (fs k)), .agg #[.int .i64 l, .int .i64 z, .int .i64 x, .int .i64 y]] (fun _ => by simp [go_sem]) _ S1 ?_
        simp only [Act.put, List.setIfInBounds_toArray, List.set_cons_succ, List.set_cons_zero]
        refine q_assign rfl _ rfl (.bool false) rfl ?_
        simp only [Act.put, List.setIfInBounds_toArray, List.set_cons_succ, List.set_cons_zero]
        refine wpQuiet_nil ?_
        intro w2 hw'
        have hk2 := blk_on hk1 hw'
        have hcs2 : ∀ i, i < n → ∀ j, j < 24 → w2.cell? ⟨b, off + i * 24 + j, none⟩ = some (.int .i64 (fs i j)) := fun i hi j hj => (hw'.cell (p := ⟨b, off + i * 24 + j, none⟩) hbw).trans (hcs i hi j hj)
        have hb2 := hide ((unhide hb).trans (hw'.mono (unhide hb).size))
        have hbw2 : b < w2.heap.size := Nat.lt_of_lt_of_le hbw hw'.size
        clear hk1 hcs hb hbw hw'
        have hk1 := hk2
        have hcs := hcs2
        have hb := hb2
        have hbw := hbw2
        clear hk2 hcs2 hb2 hbw2
        go_wp2_with fail
        go_roundw
        case rel => exact ⟨k + 1, T, t, by omega, by go_num, rfl, hide (ht_on (unhide htt)), hide ((unhide hT).trans (top_no (by rw [hs]; rfl))), hk1, unhide hb⟩
        case measure => simp [intOf]; omega
      | true =>
      rw [hs] at S1
      cases hcv : cov (fs k) u (A + C + u / 2) (D + E + u / 2) with
      | false =>
        rw [hcv] at C1
        go_wp2
        refine region_bq (by kernel_rfl) (by kernel_rfl) ?_
        refine q_move rfl _ rfl (.slice (some ⟨b, off, none⟩) n cap) rfl ?_
        simp only [Act.put, List.setIfInBounds_toArray, List.set_cons_succ, List.set_cons_zero]
        refine q_move rfl _ rfl (.int .i64 k) rfl ?_
        simp only [Act.put, List.setIfInBounds_toArray, List.set_cons_succ, List.set_cons_zero]
        refine q_val rfl (.pointer (some ⟨b, off + k * 24, none⟩)) (fun _ _ => by simp [go_sem, hkn]) ?_
        simp only [Act.put, List.setIfInBounds_toArray, List.set_cons_succ, List.set_cons_zero]
        refine q_load rfl 26 _ rfl b (off + k * 24) rfl (fc (fs k)) _ Try.underlying26 rfl (szf _) (fun w' h => fs_rng (fun i hi j hj => (h.cell (p := ⟨b, off + i * 24 + j, none⟩) hbw).trans (hcs i hi j hj)) hk) ?_
        simp only [Act.put, List.setIfInBounds_toArray, List.set_cons_succ, List.set_cons_zero]
        refine q_load rfl 28 _ rfl w.heap.size 0 rfl #[.int .i64 l, .int .i64 z, .int .i64 x, .int .i64 y] _ Try.underlying28 rfl (sz28 l z x y) (fun w' h => rng_on hk1 h) ?_
        simp only [Act.put, List.setIfInBounds_toArray, List.set_cons_succ, List.set_cons_zero]
        refine q_call rfl 53 #[.agg (fc (fs k)), .agg #[.int .i64 l, .int .i64 z, .int .i64 x, .int .i64 y]] (fun _ => by simp [go_sem]) _ S1 ?_
        simp only [Act.put, List.setIfInBounds_toArray, List.set_cons_succ, List.set_cons_zero]
        refine q_assign rfl _ rfl (.bool true) rfl ?_
        simp only [Act.put, List.setIfInBounds_toArray, List.set_cons_succ, List.set_cons_zero]
        refine wpQuiet_nil ?_
        intro w2 hw'
        have hk2 := blk_on hk1 hw'
        have hcs2 : ∀ i, i < n → ∀ j, j < 24 → w2.cell? ⟨b, off + i * 24 + j, none⟩ = some (.int .i64 (fs i j)) := fun i hi j hj => (hw'.cell (p := ⟨b, off + i * 24 + j, none⟩) hbw).trans (hcs i hi j hj)
        have hb2 := hide ((unhide hb).trans (hw'.mono (unhide hb).size))
        have hbw2 : b < w2.heap.size := Nat.lt_of_lt_of_le hbw hw'.size
        clear hk1 hcs hb hbw hw'
        have hk1 := hk2
        have hcs := hcs2
        have hb := hb2
        have hbw := hbw2
        clear hk2 hcs2 hb2 hbw2
        go_wp2_with fail
        refine region_bq (by kernel_rfl) (by kernel_rfl) ?_
        refine q_move rfl _ rfl (.slice (some ⟨b, off, none⟩) n cap) rfl ?_
        simp only [Act.put, List.setIfInBounds_toArray, List.set_cons_succ, List.set_cons_zero]
        refine q_move rfl _ rfl (.int .i64 k) rfl ?_
        simp only [Act.put, List.setIfInBounds_toArray, List.set_cons_succ, List.set_cons_zero]
        refine q_val rfl (.pointer (some ⟨b, off + k * 24, none⟩)) (fun _ _ => by simp [go_sem, hkn]) ?_
        simp only [Act.put, List.setIfInBounds_toArray, List.set_cons_succ, List.set_cons_zero]
        refine q_load rfl 26 _ rfl b (off + k * 24) rfl (fc (fs k)) _ Try.underlying26 rfl (szf _) (fun w' h => fs_rng (fun i hi j hj => (h.cell (p := ⟨b, off + i * 24 + j, none⟩) hbw).trans (hcs i hi j hj)) hk) ?_
        simp only [Act.put, List.setIfInBounds_toArray, List.set_cons_succ, List.set_cons_zero]
        refine q_val rfl (.pointer (some ⟨w.heap.size, 1, none⟩)) (fun _ _ => by simp [go_sem]) ?_
        simp only [Act.put, List.setIfInBounds_toArray, List.set_cons_succ, List.set_cons_zero]
        refine q_val rfl (.int .i64 z) (fun w' h => by simp [go_sem, blk_cells (blk_on hk1 h)]) ?_
        simp only [Act.put, List.setIfInBounds_toArray, List.set_cons_succ, List.set_cons_zero]
        refine q_move rfl _ rfl (.int .i64 (A + C + u / 2)) rfl ?_
        simp only [Act.put, List.setIfInBounds_toArray, List.set_cons_succ, List.set_cons_zero]
        refine q_move rfl _ rfl (.int .i64 (D + E + u / 2)) rfl ?_
        simp only [Act.put, List.setIfInBounds_toArray, List.set_cons_succ, List.set_cons_zero]
        refine q_call rfl 16 #[.agg (fc (fs k)), .int .i64 z, .int .i64 (A + C + u / 2), .int .i64 (D + E + u / 2)] (fun _ => by simp [go_sem]) _ C1 ?_
        simp only [Act.put, List.setIfInBounds_toArray, List.set_cons_succ, List.set_cons_zero]
        refine q_assign rfl _ rfl (.bool false) rfl ?_
        simp only [Act.put, List.setIfInBounds_toArray, List.set_cons_succ, List.set_cons_zero]
        refine wpQuiet_nil ?_
        intro w3 hw'
        have hk2 := blk_on hk1 hw'
        have hcs2 : ∀ i, i < n → ∀ j, j < 24 → w3.cell? ⟨b, off + i * 24 + j, none⟩ = some (.int .i64 (fs i j)) := fun i hi j hj => (hw'.cell (p := ⟨b, off + i * 24 + j, none⟩) hbw).trans (hcs i hi j hj)
        have hb2 := hide ((unhide hb).trans (hw'.mono (unhide hb).size))
        have hbw2 : b < w3.heap.size := Nat.lt_of_lt_of_le hbw hw'.size
        clear hk1 hcs hb hbw hw'
        have hk1 := hk2
        have hcs := hcs2
        have hb := hb2
        have hbw := hbw2
        clear hk2 hcs2 hb2 hbw2
        go_wp2_with fail
        go_roundw
        case rel => exact ⟨k + 1, T, t, by omega, by go_num, rfl, hide (ht_on (unhide htt)), hide ((unhide hT).trans (top_no (by rw [hcv]; simp))), hk1, unhide hb⟩
        case measure => simp [intOf]; omega
      | true =>
        rw [hcv] at C1
        rcases unhide htt with ⟨rfl, rfl⟩ | ⟨m, rfl, hmk, rfl⟩
        · have ha := isAb_zf (hr k hk)
          go_wp2
          refine region_bq (by kernel_rfl) (by kernel_rfl) ?_
          refine q_move rfl _ rfl (.slice (some ⟨b, off, none⟩) n cap) rfl ?_
          simp only [Act.put, List.setIfInBounds_toArray, List.set_cons_succ, List.set_cons_zero]
          refine q_move rfl _ rfl (.int .i64 k) rfl ?_
          simp only [Act.put, List.setIfInBounds_toArray, List.set_cons_succ, List.set_cons_zero]
          refine q_val rfl (.pointer (some ⟨b, off + k * 24, none⟩)) (fun _ _ => by simp [go_sem, hkn]) ?_
          simp only [Act.put, List.setIfInBounds_toArray, List.set_cons_succ, List.set_cons_zero]
          refine q_load rfl 26 _ rfl b (off + k * 24) rfl (fc (fs k)) _ Try.underlying26 rfl (szf _) (fun w' h => fs_rng (fun i hi j hj => (h.cell (p := ⟨b, off + i * 24 + j, none⟩) hbw).trans (hcs i hi j hj)) hk) ?_
          simp only [Act.put, List.setIfInBounds_toArray, List.set_cons_succ, List.set_cons_zero]
          refine q_load rfl 28 _ rfl w.heap.size 0 rfl #[.int .i64 l, .int .i64 z, .int .i64 x, .int .i64 y] _ Try.underlying28 rfl (sz28 l z x y) (fun w' h => rng_on hk1 h) ?_
          simp only [Act.put, List.setIfInBounds_toArray, List.set_cons_succ, List.set_cons_zero]
          refine q_call rfl 53 #[.agg (fc (fs k)), .agg #[.int .i64 l, .int .i64 z, .int .i64 x, .int .i64 y]] (fun _ => by simp [go_sem]) _ S1 ?_
          simp only [Act.put, List.setIfInBounds_toArray, List.set_cons_succ, List.set_cons_zero]
          refine q_assign rfl _ rfl (.bool true) rfl ?_
          simp only [Act.put, List.setIfInBounds_toArray, List.set_cons_succ, List.set_cons_zero]
          refine wpQuiet_nil ?_
          intro w2 hw'
          have hk2 := blk_on hk1 hw'
          have hcs2 : ∀ i, i < n → ∀ j, j < 24 → w2.cell? ⟨b, off + i * 24 + j, none⟩ = some (.int .i64 (fs i j)) := fun i hi j hj => (hw'.cell (p := ⟨b, off + i * 24 + j, none⟩) hbw).trans (hcs i hi j hj)
          have hb2 := hide ((unhide hb).trans (hw'.mono (unhide hb).size))
          have hbw2 : b < w2.heap.size := Nat.lt_of_lt_of_le hbw hw'.size
          clear hk1 hcs hb hbw hw'
          have hk1 := hk2
          have hcs := hcs2
          have hb := hb2
          have hbw := hbw2
          clear hk2 hcs2 hb2 hbw2
          go_wp2_with fail
          refine region_bq (by kernel_rfl) (by kernel_rfl) ?_
          refine q_move rfl _ rfl (.slice (some ⟨b, off, none⟩) n cap) rfl ?_
          simp only [Act.put, List.setIfInBounds_toArray, List.set_cons_succ, List.set_cons_zero]
          refine q_move rfl _ rfl (.int .i64 k) rfl ?_
          simp only [Act.put, List.setIfInBounds_toArray, List.set_cons_succ, List.set_cons_zero]
          refine q_val rfl (.pointer (some ⟨b, off + k * 24, none⟩)) (fun _ _ => by simp [go_sem, hkn]) ?_
          simp only [Act.put, List.setIfInBounds_toArray, List.set_cons_succ, List.set_cons_zero]
          refine q_load rfl 26 _ rfl b (off + k * 24) rfl (fc (fs k)) _ Try.underlying26 rfl (szf _) (fun w' h => fs_rng (fun i hi j hj => (h.cell (p := ⟨b, off + i * 24 + j, none⟩) hbw).trans (hcs i hi j hj)) hk) ?_
          simp only [Act.put, List.setIfInBounds_toArray, List.set_cons_succ, List.set_cons_zero]
          refine q_val rfl (.pointer (some ⟨w.heap.size, 1, none⟩)) (fun _ _ => by simp [go_sem]) ?_
          simp only [Act.put, List.setIfInBounds_toArray, List.set_cons_succ, List.set_cons_zero]
          refine q_val rfl (.int .i64 z) (fun w' h => by simp [go_sem, blk_cells (blk_on hk1 h)]) ?_
          simp only [Act.put, List.setIfInBounds_toArray, List.set_cons_succ, List.set_cons_zero]
          refine q_move rfl _ rfl (.int .i64 (A + C + u / 2)) rfl ?_
          simp only [Act.put, List.setIfInBounds_toArray, List.set_cons_succ, List.set_cons_zero]
          refine q_move rfl _ rfl (.int .i64 (D + E + u / 2)) rfl ?_
          simp only [Act.put, List.setIfInBounds_toArray, List.set_cons_succ, List.set_cons_zero]
          refine q_call rfl 16 #[.agg (fc (fs k)), .int .i64 z, .int .i64 (A + C + u / 2), .int .i64 (D + E + u / 2)] (fun _ => by simp [go_sem]) _ C1 ?_
          simp only [Act.put, List.setIfInBounds_toArray, List.set_cons_succ, List.set_cons_zero]
          refine q_assign rfl _ rfl (.bool true) rfl ?_
          simp only [Act.put, List.setIfInBounds_toArray, List.set_cons_succ, List.set_cons_zero]
          refine wpQuiet_nil ?_
          intro w3 hw'
          have hk2 := blk_on hk1 hw'
          have hcs2 : ∀ i, i < n → ∀ j, j < 24 → w3.cell? ⟨b, off + i * 24 + j, none⟩ = some (.int .i64 (fs i j)) := fun i hi j hj => (hw'.cell (p := ⟨b, off + i * 24 + j, none⟩) hbw).trans (hcs i hi j hj)
          have hb2 := hide ((unhide hb).trans (hw'.mono (unhide hb).size))
          have hbw2 : b < w3.heap.size := Nat.lt_of_lt_of_le hbw hw'.size
          clear hk1 hcs hb hbw hw'
          have hk1 := hk2
          have hcs := hcs2
          have hb := hb2
          have hbw := hbw2
          clear hk2 hcs2 hb2 hbw2
          go_wp2_with fail
          go_roundw
          case rel => first | exact ⟨k + 1, fs k, (k : Int), by omega, by go_num, rfl, hide (Or.inr ⟨k, rfl, by omega, rfl⟩), hide (top_yes (by rw [← unhide hT, hs, ha, hcv]; rfl)), hk1, unhide hb⟩ | ((repeat apply Exists.intro); exact ⟨⟨k + 1, fs k, (k : Int), by omega, rfl, rfl, hide (Or.inr ⟨k, rfl, by omega, rfl⟩), hide (top_yes (by rw [← unhide hT, hs, ha, hcv]; rfl)), hk1, unhide hb⟩, rfl⟩)
          case measure => simp [intOf]; omega
        · have hm : m < n := by omega
          have hmn : (m : Int) < n := by omega
          have A1 := fun W => above_any (fs k) (fs m) W
          cases ha : isAb (fs m) (fs k) with
          | true =>
            rw [ha] at A1
            go_wp2
            refine region_bq (by kernel_rfl) (by kernel_rfl) ?_
            refine q_move rfl _ rfl (.slice (some ⟨b, off, none⟩) n cap) rfl ?_
            simp only [Act.put, List.setIfInBounds_toArray, List.set_cons_succ, List.set_cons_zero]
            refine q_move rfl _ rfl (.int .i64 k) rfl ?_
            simp only [Act.put, List.setIfInBounds_toArray, List.set_cons_succ, List.set_cons_zero]
            refine q_val rfl (.pointer (some ⟨b, off + k * 24, none⟩)) (fun _ _ => by simp [go_sem, hkn]) ?_
            simp only [Act.put, List.setIfInBounds_toArray, List.set_cons_succ, List.set_cons_zero]
            refine q_load rfl 26 _ rfl b (off + k * 24) rfl (fc (fs k)) _ Try.underlying26 rfl (szf _) (fun w' h => fs_rng (fun i hi j hj => (h.cell (p := ⟨b, off + i * 24 + j, none⟩) hbw).trans (hcs i hi j hj)) hk) ?_
            simp only [Act.put, List.setIfInBounds_toArray, List.set_cons_succ, List.set_cons_zero]
            refine q_load rfl 28 _ rfl w.heap.size 0 rfl #[.int .i64 l, .int .i64 z, .int .i64 x, .int .i64 y] _ Try.underlying28 rfl (sz28 l z x y) (fun w' h => rng_on hk1 h) ?_
            simp only [Act.put, List.setIfInBounds_toArray, List.set_cons_succ, List.set_cons_zero]
            refine q_call rfl 53 #[.agg (fc (fs k)), .agg #[.int .i64 l, .int .i64 z, .int .i64 x, .int .i64 y]] (fun _ => by simp [go_sem]) _ S1 ?_
            simp only [Act.put, List.setIfInBounds_toArray, List.set_cons_succ, List.set_cons_zero]
            refine q_assign rfl _ rfl (.bool true) rfl ?_
            simp only [Act.put, List.setIfInBounds_toArray, List.set_cons_succ, List.set_cons_zero]
            refine wpQuiet_nil ?_
            intro w2 hw'
            have hk2 := blk_on hk1 hw'
            have hcs2 : ∀ i, i < n → ∀ j, j < 24 → w2.cell? ⟨b, off + i * 24 + j, none⟩ = some (.int .i64 (fs i j)) := fun i hi j hj => (hw'.cell (p := ⟨b, off + i * 24 + j, none⟩) hbw).trans (hcs i hi j hj)
            have hb2 := hide ((unhide hb).trans (hw'.mono (unhide hb).size))
            have hbw2 : b < w2.heap.size := Nat.lt_of_lt_of_le hbw hw'.size
            clear hk1 hcs hb hbw hw'
            have hk1 := hk2
            have hcs := hcs2
            have hb := hb2
            have hbw := hbw2
            clear hk2 hcs2 hb2 hbw2
            go_wp2_with fail
            refine region_bq (by kernel_rfl) (by kernel_rfl) ?_
            refine q_move rfl _ rfl (.slice (some ⟨b, off, none⟩) n cap) rfl ?_
            simp only [Act.put, List.setIfInBounds_toArray, List.set_cons_succ, List.set_cons_zero]
            refine q_move rfl _ rfl (.int .i64 k) rfl ?_
            simp only [Act.put, List.setIfInBounds_toArray, List.set_cons_succ, List.set_cons_zero]
            refine q_val rfl (.pointer (some ⟨b, off + k * 24, none⟩)) (fun _ _ => by simp [go_sem, hkn]) ?_
            simp only [Act.put, List.setIfInBounds_toArray, List.set_cons_succ, List.set_cons_zero]
            refine q_load rfl 26 _ rfl b (off + k * 24) rfl (fc (fs k)) _ Try.underlying26 rfl (szf _) (fun w' h => fs_rng (fun i hi j hj => (h.cell (p := ⟨b, off + i * 24 + j, none⟩) hbw).trans (hcs i hi j hj)) hk) ?_
            simp only [Act.put, List.setIfInBounds_toArray, List.set_cons_succ, List.set_cons_zero]
            refine q_val rfl (.pointer (some ⟨w.heap.size, 1, none⟩)) (fun _ _ => by simp [go_sem]) ?_
            simp only [Act.put, List.setIfInBounds_toArray, List.set_cons_succ, List.set_cons_zero]
            refine q_val rfl (.int .i64 z) (fun w' h => by simp [go_sem, blk_cells (blk_on hk1 h)]) ?_
            simp only [Act.put, List.setIfInBounds_toArray, List.set_cons_succ, List.set_cons_zero]
            refine q_move rfl _ rfl (.int .i64 (A + C + u / 2)) rfl ?_
            simp only [Act.put, List.setIfInBounds_toArray, List.set_cons_succ, List.set_cons_zero]
            refine q_move rfl _ rfl (.int .i64 (D + E + u / 2)) rfl ?_
            simp only [Act.put, List.setIfInBounds_toArray, List.set_cons_succ, List.set_cons_zero]
            refine q_call rfl 16 #[.agg (fc (fs k)), .int .i64 z, .int .i64 (A + C + u / 2), .int .i64 (D + E + u / 2)] (fun _ => by simp [go_sem]) _ C1 ?_
            simp only [Act.put, List.setIfInBounds_toArray, List.set_cons_succ, List.set_cons_zero]
            refine q_assign rfl _ rfl (.bool true) rfl ?_
            simp only [Act.put, List.setIfInBounds_toArray, List.set_cons_succ, List.set_cons_zero]
            refine wpQuiet_nil ?_
            intro w3 hw'
            have hk2 := blk_on hk1 hw'
            have hcs2 : ∀ i, i < n → ∀ j, j < 24 → w3.cell? ⟨b, off + i * 24 + j, none⟩ = some (.int .i64 (fs i j)) := fun i hi j hj => (hw'.cell (p := ⟨b, off + i * 24 + j, none⟩) hbw).trans (hcs i hi j hj)
            have hb2 := hide ((unhide hb).trans (hw'.mono (unhide hb).size))
            have hbw2 : b < w3.heap.size := Nat.lt_of_lt_of_le hbw hw'.size
            clear hk1 hcs hb hbw hw'
            have hk1 := hk2
            have hcs := hcs2
            have hb := hb2
            have hbw := hbw2
            clear hk2 hcs2 hb2 hbw2
            go_wp2_with fail
            refine region_bq (by kernel_rfl) (by kernel_rfl) ?_
            refine q_move rfl _ rfl (.slice (some ⟨b, off, none⟩) n cap) rfl ?_
            simp only [Act.put, List.setIfInBounds_toArray, List.set_cons_succ, List.set_cons_zero]
            refine q_move rfl _ rfl (.int .i64 k) rfl ?_
            simp only [Act.put, List.setIfInBounds_toArray, List.set_cons_succ, List.set_cons_zero]
            refine q_val rfl (.pointer (some ⟨b, off + k * 24, none⟩)) (fun _ _ => by simp [go_sem, hkn]) ?_
            simp only [Act.put, List.setIfInBounds_toArray, List.set_cons_succ, List.set_cons_zero]
            refine q_load rfl 26 _ rfl b (off + k * 24) rfl (fc (fs k)) _ Try.underlying26 rfl (szf _) (fun w' h => fs_rng (fun i hi j hj => (h.cell (p := ⟨b, off + i * 24 + j, none⟩) hbw).trans (hcs i hi j hj)) hk) ?_
            simp only [Act.put, List.setIfInBounds_toArray, List.set_cons_succ, List.set_cons_zero]
            refine q_move rfl _ rfl (.slice (some ⟨b, off, none⟩) n cap) rfl ?_
            simp only [Act.put, List.setIfInBounds_toArray, List.set_cons_succ, List.set_cons_zero]
            refine q_move rfl _ rfl (.int .i64 m) rfl ?_
            simp only [Act.put, List.setIfInBounds_toArray, List.set_cons_succ, List.set_cons_zero]
            refine q_val rfl (.pointer (some ⟨b, off + m * 24, none⟩)) (fun _ _ => by simp [go_sem, hmn]) ?_
            simp only [Act.put, List.setIfInBounds_toArray, List.set_cons_succ, List.set_cons_zero]
            refine q_load rfl 26 _ rfl b (off + m * 24) rfl (fc (fs m)) _ Try.underlying26 rfl (szf _) (fun w' h => fs_rng (fun i hi j hj => (h.cell (p := ⟨b, off + i * 24 + j, none⟩) hbw).trans (hcs i hi j hj)) hm) ?_
            simp only [Act.put, List.setIfInBounds_toArray, List.set_cons_succ, List.set_cons_zero]
            refine q_call rfl 76 #[.agg (fc (fs k)), .agg (fc (fs m))] (fun _ => by simp [go_sem]) _ A1 ?_
            simp only [Act.put, List.setIfInBounds_toArray, List.set_cons_succ, List.set_cons_zero]
            refine q_assign rfl _ rfl (.bool false) rfl ?_
            simp only [Act.put, List.setIfInBounds_toArray, List.set_cons_succ, List.set_cons_zero]
            refine wpQuiet_nil ?_
            intro w4 hw'
            have hk2 := blk_on hk1 hw'
            have hcs2 : ∀ i, i < n → ∀ j, j < 24 → w4.cell? ⟨b, off + i * 24 + j, none⟩ = some (.int .i64 (fs i j)) := fun i hi j hj => (hw'.cell (p := ⟨b, off + i * 24 + j, none⟩) hbw).trans (hcs i hi j hj)
            have hb2 := hide ((unhide hb).trans (hw'.mono (unhide hb).size))
            have hbw2 : b < w4.heap.size := Nat.lt_of_lt_of_le hbw hw'.size
            clear hk1 hcs hb hbw hw'
            have hk1 := hk2
            have hcs := hcs2
            have hb := hb2
            have hbw := hbw2
            clear hk2 hcs2 hb2 hbw2
            go_wp2_with fail
            go_roundw
            case rel => exact ⟨k + 1, fs m, (m : Int), by omega, by go_num, rfl, hide (Or.inr ⟨m, rfl, by omega, rfl⟩), hide ((unhide hT).trans (top_no (by rw [← unhide hT, ha]; simp))), hk1, unhide hb⟩
            case measure => simp [intOf]; omega
          | false =>
            rw [ha] at A1
            go_wp2
            refine region_bq (by kernel_rfl) (by kernel_rfl) ?_
            refine q_move rfl _ rfl (.slice (some ⟨b, off, none⟩) n cap) rfl ?_
            simp only [Act.put, List.setIfInBounds_toArray, List.set_cons_succ, List.set_cons_zero]
            refine q_move rfl _ rfl (.int .i64 k) rfl ?_
            simp only [Act.put, List.setIfInBounds_toArray, List.set_cons_succ, List.set_cons_zero]
            refine q_val rfl (.pointer (some ⟨b, off + k * 24, none⟩)) (fun _ _ => by simp [go_sem, hkn]) ?_
            simp only [Act.put, List.setIfInBounds_toArray, List.set_cons_succ, List.set_cons_zero]
            refine q_load rfl 26 _ rfl b (off + k * 24) rfl (fc (fs k)) _ Try.underlying26 rfl (szf _) (fun w' h => fs_rng (fun i hi j hj => (h.cell (p := ⟨b, off + i * 24 + j, none⟩) hbw).trans (hcs i hi j hj)) hk) ?_
            simp only [Act.put, List.setIfInBounds_toArray, List.set_cons_succ, List.set_cons_zero]
            refine q_load rfl 28 _ rfl w.heap.size 0 rfl #[.int .i64 l, .int .i64 z, .int .i64 x, .int .i64 y] _ Try.underlying28 rfl (sz28 l z x y) (fun w' h => rng_on hk1 h) ?_
            simp only [Act.put, List.setIfInBounds_toArray, List.set_cons_succ, List.set_cons_zero]
            refine q_call rfl 53 #[.agg (fc (fs k)), .agg #[.int .i64 l, .int .i64 z, .int .i64 x, .int .i64 y]] (fun _ => by simp [go_sem]) _ S1 ?_
            simp only [Act.put, List.setIfInBounds_toArray, List.set_cons_succ, List.set_cons_zero]
            refine q_assign rfl _ rfl (.bool true) rfl ?_
            simp only [Act.put, List.setIfInBounds_toArray, List.set_cons_succ, List.set_cons_zero]
            refine wpQuiet_nil ?_
            intro w2 hw'
            have hk2 := blk_on hk1 hw'
            have hcs2 : ∀ i, i < n → ∀ j, j < 24 → w2.cell? ⟨b, off + i * 24 + j, none⟩ = some (.int .i64 (fs i j)) := fun i hi j hj => (hw'.cell (p := ⟨b, off + i * 24 + j, none⟩) hbw).trans (hcs i hi j hj)
            have hb2 := hide ((unhide hb).trans (hw'.mono (unhide hb).size))
            have hbw2 : b < w2.heap.size := Nat.lt_of_lt_of_le hbw hw'.size
            clear hk1 hcs hb hbw hw'
            have hk1 := hk2
            have hcs := hcs2
            have hb := hb2
            have hbw := hbw2
            clear hk2 hcs2 hb2 hbw2
            go_wp2_with fail
            refine region_bq (by kernel_rfl) (by kernel_rfl) ?_
            refine q_move rfl _ rfl (.slice (some ⟨b, off, none⟩) n cap) rfl ?_
            simp only [Act.put, List.setIfInBounds_toArray, List.set_cons_succ, List.set_cons_zero]
            refine q_move rfl _ rfl (.int .i64 k) rfl ?_
            simp only [Act.put, List.setIfInBounds_toArray, List.set_cons_succ, List.set_cons_zero]
            refine q_val rfl (.pointer (some ⟨b, off + k * 24, none⟩)) (fun _ _ => by simp [go_sem, hkn]) ?_
            simp only [Act.put, List.setIfInBounds_toArray, List.set_cons_succ, List.set_cons_zero]
            refine q_load rfl 26 _ rfl b (off + k * 24) rfl (fc (fs k)) _ Try.underlying26 rfl (szf _) (fun w' h => fs_rng (fun i hi j hj => (h.cell (p := ⟨b, off + i * 24 + j, none⟩) hbw).trans (hcs i hi j hj)) hk) ?_
            simp only [Act.put, List.setIfInBounds_toArray, List.set_cons_succ, List.set_cons_zero]
            refine q_val rfl (.pointer (some ⟨w.heap.size, 1, none⟩)) (fun _ _ => by simp [go_sem]) ?_
            simp only [Act.put, List.setIfInBounds_toArray, List.set_cons_succ, List.set_cons_zero]
            refine q_val rfl (.int .i64 z) (fun w' h => by simp [go_sem, blk_cells (blk_on hk1 h)]) ?_
            simp only [Act.put, List.setIfInBounds_toArray, List.set_cons_succ, List.set_cons_zero]
            refine q_move rfl _ rfl (.int .i64 (A + C + u / 2)) rfl ?_
            simp only [Act.put, List.setIfInBounds_toArray, List.set_cons_succ, List.set_cons_zero]
            refine q_move rfl _ rfl (.int .i64 (D + E + u / 2)) rfl ?_
            simp only [Act.put, List.setIfInBounds_toArray, List.set_cons_succ, List.set_cons_zero]
            refine q_call rfl 16 #[.agg (fc (fs k)), .int .i64 z, .int .i64 (A + C + u / 2), .int .i64 (D + E + u / 2)] (fun _ => by simp [go_sem]) _ C1 ?_
            simp only [Act.put, List.setIfInBounds_toArray, List.set_cons_succ, List.set_cons_zero]
            refine q_assign rfl _ rfl (.bool true) rfl ?_
            simp only [Act.put, List.setIfInBounds_toArray, List.set_cons_succ, List.set_cons_zero]
            refine wpQuiet_nil ?_
            intro w3 hw'
            have hk2 := blk_on hk1 hw'
            have hcs2 : ∀ i, i < n → ∀ j, j < 24 → w3.cell? ⟨b, off + i * 24 + j, none⟩ = some (.int .i64 (fs i j)) := fun i hi j hj => (hw'.cell (p := ⟨b, off + i * 24 + j, none⟩) hbw).trans (hcs i hi j hj)
            have hb2 := hide ((unhide hb).trans (hw'.mono (unhide hb).size))
            have hbw2 : b < w3.heap.size := Nat.lt_of_lt_of_le hbw hw'.size
            clear hk1 hcs hb hbw hw'
            have hk1 := hk2
            have hcs := hcs2
            have hb := hb2
            have hbw := hbw2
            clear hk2 hcs2 hb2 hbw2
            go_wp2_with fail
            refine region_bq (by kernel_rfl) (by kernel_rfl) ?_
            refine q_move rfl _ rfl (.slice (some ⟨b, off, none⟩) n cap) rfl ?_
            simp only [Act.put, List.setIfInBounds_toArray, List.set_cons_succ, List.set_cons_zero]
            refine q_move rfl _ rfl (.int .i64 k) rfl ?_
            simp only [Act.put, List.setIfInBounds_toArray, List.set_cons_succ, List.set_cons_zero]
            refine q_val rfl (.pointer (some ⟨b, off + k * 24, none⟩)) (fun _ _ => by simp [go_sem, hkn]) ?_
            simp only [Act.put, List.setIfInBounds_toArray, List.set_cons_succ, List.set_cons_zero]
            refine q_load rfl 26 _ rfl b (off + k * 24) rfl (fc (fs k)) _ Try.underlying26 rfl (szf _) (fun w' h => fs_rng (fun i hi j hj => (h.cell (p := ⟨b, off + i * 24 + j, none⟩) hbw).trans (hcs i hi j hj)) hk) ?_
            simp only [Act.put, List.setIfInBounds_toArray, List.set_cons_succ, List.set_cons_zero]
            refine q_move rfl _ rfl (.slice (some ⟨b, off, none⟩) n cap) rfl ?_
            simp only [Act.put, List.setIfInBounds_toArray, List.set_cons_succ, List.set_cons_zero]
            refine q_move rfl _ rfl (.int .i64 m) rfl ?_
            simp only [Act.put, List.setIfInBounds_toArray, List.set_cons_succ, List.set_cons_zero]
            refine q_val rfl (.pointer (some ⟨b, off + m * 24, none⟩)) (fun _ _ => by simp [go_sem, hmn]) ?_
            simp only [Act.put, List.setIfInBounds_toArray, List.set_cons_succ, List.set_cons_zero]
            refine q_load rfl 26 _ rfl b (off + m * 24) rfl (fc (fs m)) _ Try.underlying26 rfl (szf _) (fun w' h => fs_rng (fun i hi j hj => (h.cell (p := ⟨b, off + i * 24 + j, none⟩) hbw).trans (hcs i hi j hj)) hm) ?_
            simp only [Act.put, List.setIfInBounds_toArray, List.set_cons_succ, List.set_cons_zero]
            refine q_call rfl 76 #[.agg (fc (fs k)), .agg (fc (fs m))] (fun _ => by simp [go_sem]) _ A1 ?_
            simp only [Act.put, List.setIfInBounds_toArray, List.set_cons_succ, List.set_cons_zero]
            refine q_assign rfl _ rfl (.bool true) rfl ?_
            simp only [Act.put, List.setIfInBounds_toArray, List.set_cons_succ, List.set_cons_zero]
            refine wpQuiet_nil ?_
            intro w4 hw'
            have hk2 := blk_on hk1 hw'
            have hcs2 : ∀ i, i < n → ∀ j, j < 24 → w4.cell? ⟨b, off + i * 24 + j, none⟩ = some (.int .i64 (fs i j)) := fun i hi j hj => (hw'.cell (p := ⟨b, off + i * 24 + j, none⟩) hbw).trans (hcs i hi j hj)
            have hb2 := hide ((unhide hb).trans (hw'.mono (unhide hb).size))
            have hbw2 : b < w4.heap.size := Nat.lt_of_lt_of_le hbw hw'.size
            clear hk1 hcs hb hbw hw'
            have hk1 := hk2
            have hcs := hcs2
            have hb := hb2
            have hbw := hbw2
            clear hk2 hcs2 hb2 hbw2
            go_wp2_with fail
            go_roundw
            case rel => exact ⟨k + 1, fs k, (k : Int), by omega, by go_num, rfl, hide (Or.inr ⟨k, rfl, by omega, rfl⟩), hide (top_yes (by rw [← unhide hT, hs, ha, hcv]; rfl)), hk1, unhide hb⟩
            case measure => simp [intOf]; omega
    · have hkn : k = n := by omega
      subst hkn
      have HBr := hide hb0
      rcases unhide htt with ⟨rfl, rfl⟩ | ⟨m, rfl, hmk, rfl⟩
      · have H : Hid ((0 : Int) = top fs l z u (A + C + u / 2) (D + E + u / 2) k 3) := by show (0 : Int) = _; rw [← unhide hT]; rfl
        clear hb0
        go_wp2
        go_ret
        exact ⟨ret_int (unhide H), unhide HBr⟩
      · have H : Hid (fs m 3 = top fs l z u (A + C + u / 2) (D + E + u / 2) k 3) := by show fs m 3 = _; rw [← unhide hT]
        obtain ⟨b, off, rfl, hbl, hc0⟩ := unhide HN (by omega)
        have hcm := (hb0.cell (p := ⟨b, off + m * 24 + 3, none⟩) hbl).trans (hc0 m hmk 3 (by omega))
        have hmn : (m : Int) < k := by omega
        clear hb0 hc0
        go_wp2
        go_ret
        exact ⟨ret_int (unhide H), unhide HBr⟩
end Go.Proofs.Ytppcpbhnpdjfpaa
