/-
  A list of features in memory; shape.inkOf.
-/
import Derived.Test.YtppcpbhnpdjfpabInkA
namespace Go.Proofs.Ytppcpbhnpdjfpab
open Go.RowKit

/-- The slice v holds the features fs 0 .. fs (n - 1). -/
def FsAt (W : World) (v : Value) (n : Nat) (fs : Nat → Nat → Int) : Prop :=
  ∃ (oa : Option Addr) (cap : Nat), v = .slice oa n cap ∧ n ≤ maxLen ∧ (0 < n → ∃ b off, oa = some ⟨b, off, none⟩ ∧ b < W.heap.size ∧ ∀ i, i < n → ∀ j, j < 24 → W.cell? ⟨b, off + i * 24 + j, none⟩ = some (.int .i64 (fs i j)))
theorem FsAt.on {W W' : World} {v : Value} {n : Nat} {fs : Nat → Nat → Int} (h : FsAt W v n fs) (hb : Below W.heap.size W W') : FsAt W' v n fs := by
  obtain ⟨oa, cap, e, hm, h⟩ := h
  refine ⟨oa, cap, e, hm, fun hn => ?_⟩
  obtain ⟨b, off, e', hlt, hc⟩ := h hn
  exact ⟨b, off, e', Nat.lt_of_lt_of_le hlt hb.size, fun i hi j hj => (hb.cell (p := ⟨b, off + i * 24 + j, none⟩) hlt).trans (hc i hi j hj)⟩

/-- The feature on top, of those up to k. -/
def top (fs : Nat → Nat → Int) (l z u px py : Int) : Nat → Nat → Int
  | 0 => fun _ => 0
  | k + 1 => bif shw (fs k) l z && !isAb (top fs l z u px py k) (fs k) && cov (fs k) u px py then fs k else top fs l z u px py k

def zf : Nat → Int := fun _ => 0
theorem built26 : Try.prog.built 54 [] = some (fc zf) := by kernel_rfl
theorem run_alloc26 (ev : Operand → Value) (o : Oper) (ho : o.op = .alloc 54) (w : World) : (execOp ev o).run Try.prog w = .ok (.value (.pointer (some ⟨w.heap.size, 0, none⟩))) (w.alloc (.cells (fc zf) 54)) := by
  unfold execOp
  simp only [ho]
  kernel_rfl
theorem fc_one (f : Nat → Int) : (fc f).all (·.oneCell') = true := by
  rw [Array.all_eq_true_iff_forall_mem]
  intro v hv
  simp only [fc, Array.mem_map] at hv
  obtain ⟨i, _, rfl⟩ := hv
  rfl
section
variable {ops : Array Oper} {rest : List Oper} {o : Oper} {a : Act} {w : World} {Q : Exit → Act → World → Prop}
theorem bld26 (hgd : o.guard = none) (ho : o.op = .build 54 #[]) (h : wpList Try.prog ops Q rest (a.put o.dst (.agg (fc zf))) w) : wpList Try.prog ops Q (o :: rest) a w := by
  refine wpList_build hgd 54 #[] ho (by simp [built26]) ?_
  simpa [built26] using h
theorem al26 (hgd : o.guard = none) (ho : o.op = .alloc 54) (n : Nat) (hn : w.heap.size = n) (h : wpList Try.prog ops Q rest (a.put o.dst (.pointer (some ⟨n, 0, none⟩))) (w.alloc (.cells (fc zf) 54))) : wpList Try.prog ops Q (o :: rest) a w :=
  wpList_plain hgd fun _ hK => by
    unfold Oper.wp
    rw [run_alloc26 _ _ ho, hn]
    exact hK _ _ h
theorem st26 (hgd : o.guard = none) (x y : Operand) (ho : o.op = .store 54 x y) (g : Nat) (T : Nat → Int) (hx : a.eval x = .pointer (some ⟨g, 0, none⟩)) (hy : a.eval y = .agg (fc T)) (S : Nat → Int) (hg : w.heap[g]? = some (.cells (fc S) 54 (0, 0)))
    (h : wpList Try.prog ops Q rest (a.put o.dst undef) (w.setRow g (fc T))) : wpList Try.prog ops Q (o :: rest) a w :=
  wpList_store_row hgd 54 x y ho g (fc T) hx hy 54 (fc S) hg (szf T) (by rw [fc_size, fc_size]) (fc_one T) h
theorem ldm26 (hw : Region.wanted o (yielded ops a.tmps) = true) (x : Operand) (ho : o.op = .load 54 x)
    (b off : Nat) (hx : a.eval x = .pointer (some ⟨b, off, none⟩)) (f : Nat → Int) (hc : w.rangeAt b off (fc f).toList)
    (h : wpList Try.prog ops Q rest (a.put o.dst (.agg (fc f))) w) : wpList Try.prog ops Q (o :: rest) a w := by
  unfold wpList
  rw [if_pos hw]
  exact Or.inl (wp_load_mid 54 x ho b off hx (fc f).toList _ hc Try.underlying54 rfl (by rw [Array.length_toList]; exact szf f) h)
end
theorem below_setRow {B : Nat} {a w : World} (h : Below B a w) {g : Nat} (hg : B ≤ g) (cs : Array Value) : Below B a (w.setRow g cs) := by
  refine h.trans ⟨rfl, rfl, rfl, by simp [World.setRow], fun k hk => ?_⟩
  show (w.heap.modify g _)[k]? = _
  rw [Array.getElem?_modify, if_neg (by omega)]
theorem setRow_other {w : World} {g k : Nat} (h : g ≠ k) (cs : Array Value) : (w.setRow g cs).heap[k]? = w.heap[k]? := by
  show (w.heap.modify g _)[k]? = _
  rw [Array.getElem?_modify, if_neg h]
theorem fs_rng {W : World} {b off n : Nat} {fs : Nat → Nat → Int} (hc : ∀ i, i < n → ∀ j, j < 24 → W.cell? ⟨b, off + i * 24 + j, none⟩ = some (.int .i64 (fs i j))) {k : Nat} (hk : k < n) : W.rangeAt b (off + k * 24) (fc (fs k)).toList := by
  intro j v hv
  have hj : j < 24 := by
    have := (List.getElem?_eq_some_iff.1 hv).1
    simpa [fc_size] using this
  have e : (fc (fs k))[j]? = some v := by simpa using hv
  rw [fc_at _ j hj] at e
  rw [hc k hk j hj, e]

theorem sz28 (l z x y : Int) : (Try.prog.info? 41).map (·.size) = some (#[Value.int .i64 l, Value.int .i64 z, Value.int .i64 x, Value.int .i64 y] : Array Value).size := by kernel_rfl
theorem top_no {fs : Nat → Nat → Int} {l z u px py : Int} {k : Nat} (h : (shw (fs k) l z && !isAb (top fs l z u px py k) (fs k) && cov (fs k) u px py) = false) : top fs l z u px py k = top fs l z u px py (k + 1) := by
  rw [top, h]; rfl
theorem top_yes {fs : Nat → Nat → Int} {l z u px py : Int} {k : Nat} (h : (shw (fs k) l z && !isAb (top fs l z u px py k) (fs k) && cov (fs k) u px py) = true) : fs k = top fs l z u px py (k + 1) := by
  rw [top, h]; rfl
theorem top_or (fs : Nat → Nat → Int) (l z u px py : Int) : ∀ k, top fs l z u px py k = zf ∨ ∃ i, i < k ∧ top fs l z u px py k = fs i
  | 0 => Or.inl rfl
  | k + 1 => by
    rw [top]
    cases (shw (fs k) l z && !isAb (top fs l z u px py k) (fs k) && cov (fs k) u px py) with
    | true => exact Or.inr ⟨k, by omega, rfl⟩
    | false =>
      rcases top_or fs l z u px py k with h | ⟨i, hi, h⟩
      · exact Or.inl h
      · exact Or.inr ⟨i, by omega, h⟩
theorem top_ink {fs : Nat → Nat → Int} {n : Nat} (hr : ∀ i, i < n → right (fs i) = true) (l z u px py : Int) : 0 ≤ top fs l z u px py n 3 ∧ top fs l z u px py n 3 ≤ 15 := by
  rcases top_or fs l z u px py n with h | ⟨i, hi, h⟩
  · rw [h]; simp [zf]
  · rw [h]; have := (right_out (hr i hi)).ink; omega
theorem top_small {fs : Nat → Nat → Int} {n : Nat} {l z u px py : Int} (T : Nat → Int) (_ : True) (h : T 3 = top fs l z u px py n 3) (hr : ∀ i, i < n → right (fs i) = true) : IntKind.u8.wrap (T 3) = T 3 := by
  have := top_ink hr l z u px py
  rw [h]
  generalize top fs l z u px py n 3 = v at *
  have e : v = 0 ∨ v = 1 ∨ v = 2 ∨ v = 3 ∨ v = 4 ∨ v = 5 ∨ v = 6 ∨ v = 7 ∨ v = 8 ∨ v = 9 ∨ v = 10 ∨ v = 11 ∨ v = 12 ∨ v = 13 ∨ v = 14 ∨ v = 15 := by omega
  rcases e with rfl | rfl | rfl | rfl | rfl | rfl | rfl | rfl | rfl | rfl | rfl | rfl | rfl | rfl | rfl | rfl <;> rfl

set_option maxHeartbeats 3200000 in
theorem inkOf_any (v : Value) (n : Nat) (fs : Nat → Nat → Int) (l z x y : Int) (p : Nat) (w : World) (hv : FsAt w v n fs) (he : keyErr l z x y = 0) (hp : p < 64) (hn40 : n ≤ 40) (hr : ∀ i, i < n → right (fs i) = true) :
    Calls Try.prog 29 #[v, .agg #[.int .i64 l, .int .i64 z, .int .i64 x, .int .i64 y], .int .i64 p] w fun e w' => e = .returned (.int .u8 (top fs l z (un z) (cen x (un z) ((p : Int) % 8)) (cen y (un z) ((p : Int) / 8)) n 3)) ∧ Below w.heap.size w w' := by
  obtain ⟨_, ⟨z1, z2⟩, ⟨x1, x2⟩, ⟨y1, y2⟩⟩ := keyErr_zero he
  have U := fun W => unit_yes z W z1 z2
  have CE := fun W => centre_any l z x y p W he hp
  obtain ⟨p1, p2, p3, p4⟩ := mod8 p hp
  have bX := (cen_in z1 z2 x1 x2 p1 p2).2.2.1
  have bY := (cen_in z1 z2 y1 y2 p3 p4).2.2.1
  obtain ⟨u1, u2⟩ := un_in z z1 z2
  obtain ⟨u, hu⟩ : ∃ u, un z = u := ⟨_, rfl⟩
  rw [hu] at U CE bX bY u1 u2
  rw [hu]
  obtain ⟨X, hX⟩ : ∃ X, cen x u ((p : Int) % 8) = X := ⟨_, rfl⟩
  obtain ⟨Y, hY⟩ : ∃ X, cen y u ((p : Int) / 8) = X := ⟨_, rfl⟩
  rw [hX] at CE bX
  rw [hY] at CE bY
  rw [hX, hY]
  clear hu hX hY he x2 y2 p1 p2 p3 p4
  have HV := hide hv
  obtain ⟨oa, cap, rfl, hm, hn⟩ := hv
  have HN := hide hn
  clear hn
  go_enter Try.func29, Try.ntmps29
  go_wp2_with (go_at_call 42; refine (U _).mono ?_; rintro e w9 ⟨rfl, rfl⟩)
  refine (CE _).mono ?_
  rintro e w1 ⟨rfl, hb1⟩
  have hk1 := blk_on (heap_alloc_new w (.cells #[.int .i64 l, .int .i64 z, .int .i64 x, .int .i64 y] 41 (0, 0))) hb1
  have HB := hide ((below_one _ _).trans (hb1.mono (by simp)))
  clear hb1
  have hz0 : ((w1.alloc (.cells #[.int .i64 X, .int .i64 Y] 88)).alloc (.cells (fc zf) 54)).heap[w1.heap.size + 1]? = some (.cells (fc zf) 54 (0, 0)) := by
    simpa using heap_alloc_new (w1.alloc (.cells #[.int .i64 X, .int .i64 Y] 88 (0, 0))) (.cells (fc zf) 54 (0, 0))
  have hsz : (w1.alloc (.cells #[.int .i64 X, .int .i64 Y] 88)).heap.size = w1.heap.size + 1 := by simp
  go_wp2_with (first | refine bld26 rfl rfl ?_ | refine al26 rfl rfl (w1.heap.size + 1) hsz ?_ | (refine st26 rfl _ _ rfl (w1.heap.size + 1) zf rfl rfl zf hz0 ?_))
  clear hz0 hsz
  have hlw : w.heap.size < w1.heap.size := (Array.getElem?_eq_some_iff.1 hk1).1
  go_loopw [10] (fun i wr => ∃ (k : Nat) (T : Nat → Int), k ≤ n ∧ i = .int .i64 k ∧ Hid (T = top fs l z u X Y k) ∧ wr.heap[w.heap.size]? = some (.cells #[.int .i64 l, .int .i64 z, .int .i64 x, .int .i64 y] 41 (0, 0)) ∧ wr.heap[w1.heap.size]? = some (.cells #[.int .i64 X, .int .i64 Y] 88 (0, 0)) ∧ wr.heap[w1.heap.size + 1]? = some (.cells (fc T) 54 (0, 0)) ∧ Below w.heap.size w wr) (fun i _ => n - (intOf i).toNat)
  case atStart =>
    have hA := heap_alloc_new (w1.alloc (.cells #[.int .i64 X, .int .i64 Y] 88 (0, 0))) (.cells (fc zf) 54 (0, 0))
    refine ⟨0, zf, by omega, rfl, hide rfl, ?_, ?_, ?_, ?_⟩
    · rw [setRow_other (by omega), Below.heap_alloc _ _ _ (by simp; omega), Below.heap_alloc _ _ _ hlw]; exact hk1
    · rw [setRow_other (by omega), Below.heap_alloc _ _ _ (by simp)]; exact heap_alloc_new _ _
    · exact setRow_heap _ _ (fc zf) _ 54 (0, 0) (by simpa using hA)
    · refine below_setRow (below_alloc (below_alloc (unhide HB) (Nat.le_refl _) _) (Nat.le_refl _) _) (by omega) _
  case round =>
    obtain ⟨k, T, hk, rfl, hT, hk1, hp1, ht, hb⟩ := hrel
    by_cases hlt : k < n
    · obtain ⟨b, off, rfl, hbl, hc0⟩ := unhide HN (by omega)
      have hcs : ∀ i, i < n → ∀ j, j < 24 → wr.cell? ⟨b, off + i * 24 + j, none⟩ = some (.int .i64 (fs i j)) := fun i hi j hj => (hb.cell (p := ⟨b, off + i * 24 + j, none⟩) hbl).trans (hc0 i hi j hj)
      have hbw : b < wr.heap.size := Nat.lt_of_lt_of_le hbl hb.size
      clear hc0
      have hk := hlt
      have hkn : (k : Int) < n := by omega
      have S1 := fun W => shows48_any (fs k) l z x y W
      have A1 := fun W => isAbove_any T (fs k) W
      have C1 := fun W => covers_any (fs k) u X Y W (right_out (hr k hlt)) bX bY ⟨by omega, by omega⟩
      cases hs : shw (fs k) l z with
      | false =>
        rw [hs] at S1
        clear hlt
        go_wp2
        refine region_bq (by kernel_rfl) (by kernel_rfl) ?_
        refine q_move rfl _ rfl (.slice (some ⟨b, off, none⟩) n cap) rfl ?_
        simp only [Act.put, List.setIfInBounds_toArray, List.set_cons_succ, List.set_cons_zero]
        refine q_move rfl _ rfl (.int .i64 k) rfl ?_
        simp only [Act.put, List.setIfInBounds_toArray, List.set_cons_succ, List.set_cons_zero]
        refine q_val rfl (.pointer (some ⟨b, off + k * 24, none⟩)) (fun _ _ => by simp [go_sem, hkn]) ?_
        simp only [Act.put, List.setIfInBounds_toArray, List.set_cons_succ, List.set_cons_zero]
        refine q_load rfl 54 _ rfl b (off + k * 24) rfl (fc (fs k)) _ Try.underlying54 rfl (szf _) (fun w' h => fs_rng (fun i hi j hj => (h.cell (p := ⟨b, off + i * 24 + j, none⟩) hbw).trans (hcs i hi j hj)) hk) ?_
        simp only [Act.put, List.setIfInBounds_toArray, List.set_cons_succ, List.set_cons_zero]
        refine q_load rfl 41 _ rfl w.heap.size 0 rfl #[.int .i64 l, .int .i64 z, .int .i64 x, .int .i64 y] _ Try.underlying41 rfl (sz28 l z x y) (fun w' h => rng_on hk1 h) ?_
        simp only [Act.put, List.setIfInBounds_toArray, List.set_cons_succ, List.set_cons_zero]
        refine q_call rfl 44 #[.agg (fc (fs k)), .agg #[.int .i64 l, .int .i64 z, .int .i64 x, .int .i64 y]] (fun _ => by simp [go_sem]) _ S1 ?_
        simp only [Act.put, List.setIfInBounds_toArray, List.set_cons_succ, List.set_cons_zero]
        refine q_move rfl _ rfl (.bool false) rfl ?_
        simp only [Act.put, List.setIfInBounds_toArray, List.set_cons_succ, List.set_cons_zero]
        go_big_quiet_skip
        go_big_quiet_skip
        go_big_quiet_skip
        go_big_quiet_skip
        go_big_quiet_skip
        go_big_quiet_skip
        go_big_quiet_skip
        refine q_val rfl (.bool false) (fun _ _ => by simp [go_sem]) ?_
        simp only [Act.put, List.setIfInBounds_toArray, List.set_cons_succ, List.set_cons_zero]
        refine q_move rfl _ rfl (.bool false) rfl ?_
        simp only [Act.put, List.setIfInBounds_toArray, List.set_cons_succ, List.set_cons_zero]
        go_big_quiet_skip
        go_big_quiet_skip
        go_big_quiet_skip
        go_big_quiet_skip
        go_big_quiet_skip
        go_big_quiet_skip
        go_big_quiet_skip
        refine q_val rfl (.bool false) (fun _ _ => by simp [go_sem]) ?_
        simp only [Act.put, List.setIfInBounds_toArray, List.set_cons_succ, List.set_cons_zero]
        refine wpQuiet_nil ?_
        intro w' hw'
        have hg2 := blk_on hk1 hw'
        have hp2 := blk_on hp1 hw'
        have ht2 := blk_on ht hw'
        have hb2 := hb.trans (hw'.mono hb.size)
        have hs2 := hw'.size
        clear hk1 hp1 ht hb hcs
        go_wp2
        go_roundw
        case rel => exact ⟨k + 1, T, by omega, by go_num, hide ((unhide hT).trans (top_no (by rw [hs]; rfl))), hg2, hp2, ht2, hb2⟩
        case measure => simp [intOf]; omega
      | true =>
      rw [hs] at S1
      cases ha : isAb T (fs k) with
      | true =>
        rw [ha] at A1
        clear hlt
        go_wp2
        refine region_bq (by kernel_rfl) (by kernel_rfl) ?_
        refine q_move rfl _ rfl (.slice (some ⟨b, off, none⟩) n cap) rfl ?_
        simp only [Act.put, List.setIfInBounds_toArray, List.set_cons_succ, List.set_cons_zero]
        refine q_move rfl _ rfl (.int .i64 k) rfl ?_
        simp only [Act.put, List.setIfInBounds_toArray, List.set_cons_succ, List.set_cons_zero]
        refine q_val rfl (.pointer (some ⟨b, off + k * 24, none⟩)) (fun _ _ => by simp [go_sem, hkn]) ?_
        simp only [Act.put, List.setIfInBounds_toArray, List.set_cons_succ, List.set_cons_zero]
        refine q_load rfl 54 _ rfl b (off + k * 24) rfl (fc (fs k)) _ Try.underlying54 rfl (szf _) (fun w' h => fs_rng (fun i hi j hj => (h.cell (p := ⟨b, off + i * 24 + j, none⟩) hbw).trans (hcs i hi j hj)) hk) ?_
        simp only [Act.put, List.setIfInBounds_toArray, List.set_cons_succ, List.set_cons_zero]
        refine q_load rfl 41 _ rfl w.heap.size 0 rfl #[.int .i64 l, .int .i64 z, .int .i64 x, .int .i64 y] _ Try.underlying41 rfl (sz28 l z x y) (fun w' h => rng_on hk1 h) ?_
        simp only [Act.put, List.setIfInBounds_toArray, List.set_cons_succ, List.set_cons_zero]
        refine q_call rfl 44 #[.agg (fc (fs k)), .agg #[.int .i64 l, .int .i64 z, .int .i64 x, .int .i64 y]] (fun _ => by simp [go_sem]) _ S1 ?_
        simp only [Act.put, List.setIfInBounds_toArray, List.set_cons_succ, List.set_cons_zero]
        refine q_move rfl _ rfl (.bool true) rfl ?_
        simp only [Act.put, List.setIfInBounds_toArray, List.set_cons_succ, List.set_cons_zero]
        refine q_load (by kernel_rfl) 54 _ rfl (w1.heap.size + 1) 0 rfl (fc T) _ Try.underlying54 rfl (szf _) (fun w' h => rng_on ht h) ?_
        simp only [Act.put, List.setIfInBounds_toArray, List.set_cons_succ, List.set_cons_zero]
        refine q_move (by kernel_rfl) _ rfl (.slice (some ⟨b, off, none⟩) n cap) rfl ?_
        simp only [Act.put, List.setIfInBounds_toArray, List.set_cons_succ, List.set_cons_zero]
        refine q_move (by kernel_rfl) _ rfl (.int .i64 k) rfl ?_
        simp only [Act.put, List.setIfInBounds_toArray, List.set_cons_succ, List.set_cons_zero]
        refine q_val (by kernel_rfl) (.pointer (some ⟨b, off + k * 24, none⟩)) (fun _ _ => by simp [go_sem, hkn]) ?_
        simp only [Act.put, List.setIfInBounds_toArray, List.set_cons_succ, List.set_cons_zero]
        refine q_load (by kernel_rfl) 54 _ rfl b (off + k * 24) rfl (fc (fs k)) _ Try.underlying54 rfl (szf _) (fun w' h => fs_rng (fun i hi j hj => (h.cell (p := ⟨b, off + i * 24 + j, none⟩) hbw).trans (hcs i hi j hj)) hk) ?_
        simp only [Act.put, List.setIfInBounds_toArray, List.set_cons_succ, List.set_cons_zero]
        refine q_call (by kernel_rfl) 45 #[.agg (fc T), .agg (fc (fs k))] (fun _ => by simp [go_sem]) _ A1 ?_
        simp only [Act.put, List.setIfInBounds_toArray, List.set_cons_succ, List.set_cons_zero]
        refine q_val (by kernel_rfl) (.bool false) (fun _ _ => by simp [go_sem]) ?_
        simp only [Act.put, List.setIfInBounds_toArray, List.set_cons_succ, List.set_cons_zero]
        refine q_val (by kernel_rfl) (.bool false) (fun _ _ => by simp [go_sem]) ?_
        simp only [Act.put, List.setIfInBounds_toArray, List.set_cons_succ, List.set_cons_zero]
        refine q_move (by kernel_rfl) _ rfl (.bool false) rfl ?_
        simp only [Act.put, List.setIfInBounds_toArray, List.set_cons_succ, List.set_cons_zero]
        go_big_quiet_skip
        go_big_quiet_skip
        go_big_quiet_skip
        go_big_quiet_skip
        go_big_quiet_skip
        go_big_quiet_skip
        go_big_quiet_skip
        refine q_val (by kernel_rfl) (.bool false) (fun _ _ => by simp [go_sem]) ?_
        simp only [Act.put, List.setIfInBounds_toArray, List.set_cons_succ, List.set_cons_zero]
        refine wpQuiet_nil ?_
        intro w' hw'
        have hg2 := blk_on hk1 hw'
        have hp2 := blk_on hp1 hw'
        have ht2 := blk_on ht hw'
        have hb2 := hb.trans (hw'.mono hb.size)
        have hs2 := hw'.size
        clear hk1 hp1 ht hb hcs
        go_wp2
        go_roundw
        case rel => exact ⟨k + 1, T, by omega, by go_num, hide ((unhide hT).trans (top_no (by rw [← unhide hT, ha]; simp))), hg2, hp2, ht2, hb2⟩
        case measure => simp [intOf]; omega
      | false =>
      rw [ha] at A1
      cases hcv : cov (fs k) u X Y with
      | false =>
        rw [hcv] at C1
        clear hlt
        go_wp2
        refine region_bq (by kernel_rfl) (by kernel_rfl) ?_
        refine q_move rfl _ rfl (.slice (some ⟨b, off, none⟩) n cap) rfl ?_
        simp only [Act.put, List.setIfInBounds_toArray, List.set_cons_succ, List.set_cons_zero]
        refine q_move rfl _ rfl (.int .i64 k) rfl ?_
        simp only [Act.put, List.setIfInBounds_toArray, List.set_cons_succ, List.set_cons_zero]
        refine q_val rfl (.pointer (some ⟨b, off + k * 24, none⟩)) (fun _ _ => by simp [go_sem, hkn]) ?_
        simp only [Act.put, List.setIfInBounds_toArray, List.set_cons_succ, List.set_cons_zero]
        refine q_load rfl 54 _ rfl b (off + k * 24) rfl (fc (fs k)) _ Try.underlying54 rfl (szf _) (fun w' h => fs_rng (fun i hi j hj => (h.cell (p := ⟨b, off + i * 24 + j, none⟩) hbw).trans (hcs i hi j hj)) hk) ?_
        simp only [Act.put, List.setIfInBounds_toArray, List.set_cons_succ, List.set_cons_zero]
        refine q_load rfl 41 _ rfl w.heap.size 0 rfl #[.int .i64 l, .int .i64 z, .int .i64 x, .int .i64 y] _ Try.underlying41 rfl (sz28 l z x y) (fun w' h => rng_on hk1 h) ?_
        simp only [Act.put, List.setIfInBounds_toArray, List.set_cons_succ, List.set_cons_zero]
        refine q_call rfl 44 #[.agg (fc (fs k)), .agg #[.int .i64 l, .int .i64 z, .int .i64 x, .int .i64 y]] (fun _ => by simp [go_sem]) _ S1 ?_
        simp only [Act.put, List.setIfInBounds_toArray, List.set_cons_succ, List.set_cons_zero]
        refine q_move rfl _ rfl (.bool true) rfl ?_
        simp only [Act.put, List.setIfInBounds_toArray, List.set_cons_succ, List.set_cons_zero]
        refine q_load (by kernel_rfl) 54 _ rfl (w1.heap.size + 1) 0 rfl (fc T) _ Try.underlying54 rfl (szf _) (fun w' h => rng_on ht h) ?_
        simp only [Act.put, List.setIfInBounds_toArray, List.set_cons_succ, List.set_cons_zero]
        refine q_move (by kernel_rfl) _ rfl (.slice (some ⟨b, off, none⟩) n cap) rfl ?_
        simp only [Act.put, List.setIfInBounds_toArray, List.set_cons_succ, List.set_cons_zero]
        refine q_move (by kernel_rfl) _ rfl (.int .i64 k) rfl ?_
        simp only [Act.put, List.setIfInBounds_toArray, List.set_cons_succ, List.set_cons_zero]
        refine q_val (by kernel_rfl) (.pointer (some ⟨b, off + k * 24, none⟩)) (fun _ _ => by simp [go_sem, hkn]) ?_
        simp only [Act.put, List.setIfInBounds_toArray, List.set_cons_succ, List.set_cons_zero]
        refine q_load (by kernel_rfl) 54 _ rfl b (off + k * 24) rfl (fc (fs k)) _ Try.underlying54 rfl (szf _) (fun w' h => fs_rng (fun i hi j hj => (h.cell (p := ⟨b, off + i * 24 + j, none⟩) hbw).trans (hcs i hi j hj)) hk) ?_
        simp only [Act.put, List.setIfInBounds_toArray, List.set_cons_succ, List.set_cons_zero]
        refine q_call (by kernel_rfl) 45 #[.agg (fc T), .agg (fc (fs k))] (fun _ => by simp [go_sem]) _ A1 ?_
        simp only [Act.put, List.setIfInBounds_toArray, List.set_cons_succ, List.set_cons_zero]
        refine q_val (by kernel_rfl) (.bool true) (fun _ _ => by simp [go_sem]) ?_
        simp only [Act.put, List.setIfInBounds_toArray, List.set_cons_succ, List.set_cons_zero]
        refine q_val (by kernel_rfl) (.bool true) (fun _ _ => by simp [go_sem]) ?_
        simp only [Act.put, List.setIfInBounds_toArray, List.set_cons_succ, List.set_cons_zero]
        refine q_move (by kernel_rfl) _ rfl (.bool true) rfl ?_
        simp only [Act.put, List.setIfInBounds_toArray, List.set_cons_succ, List.set_cons_zero]
        refine q_move (by kernel_rfl) _ rfl (.slice (some ⟨b, off, none⟩) n cap) rfl ?_
        simp only [Act.put, List.setIfInBounds_toArray, List.set_cons_succ, List.set_cons_zero]
        refine q_move (by kernel_rfl) _ rfl (.int .i64 k) rfl ?_
        simp only [Act.put, List.setIfInBounds_toArray, List.set_cons_succ, List.set_cons_zero]
        refine q_val (by kernel_rfl) (.pointer (some ⟨b, off + k * 24, none⟩)) (fun _ _ => by simp [go_sem, hkn]) ?_
        simp only [Act.put, List.setIfInBounds_toArray, List.set_cons_succ, List.set_cons_zero]
        refine q_load (by kernel_rfl) 54 _ rfl b (off + k * 24) rfl (fc (fs k)) _ Try.underlying54 rfl (szf _) (fun w' h => fs_rng (fun i hi j hj => (h.cell (p := ⟨b, off + i * 24 + j, none⟩) hbw).trans (hcs i hi j hj)) hk) ?_
        simp only [Act.put, List.setIfInBounds_toArray, List.set_cons_succ, List.set_cons_zero]
        refine q_move (by kernel_rfl) _ rfl (.int .i64 u) rfl ?_
        simp only [Act.put, List.setIfInBounds_toArray, List.set_cons_succ, List.set_cons_zero]
        refine q_load (by kernel_rfl) 88 _ rfl w1.heap.size 0 rfl #[.int .i64 X, .int .i64 Y] _ Try.underlying88 rfl (sz59 X Y) (fun w' h => rng_on hp1 h) ?_
        simp only [Act.put, List.setIfInBounds_toArray, List.set_cons_succ, List.set_cons_zero]
        refine q_call (by kernel_rfl) 46 #[.agg (fc (fs k)), .int .i64 u, .agg #[.int .i64 X, .int .i64 Y]] (fun _ => by simp [go_sem]) _ C1 ?_
        simp only [Act.put, List.setIfInBounds_toArray, List.set_cons_succ, List.set_cons_zero]
        refine q_val (by kernel_rfl) (.bool false) (fun _ _ => by simp [go_sem]) ?_
        simp only [Act.put, List.setIfInBounds_toArray, List.set_cons_succ, List.set_cons_zero]
        refine wpQuiet_nil ?_
        intro w' hw'
        have hg2 := blk_on hk1 hw'
        have hp2 := blk_on hp1 hw'
        have ht2 := blk_on ht hw'
        have hb2 := hb.trans (hw'.mono hb.size)
        have hs2 := hw'.size
        clear hk1 hp1 ht hb hcs
        go_wp2
        go_roundw
        case rel => exact ⟨k + 1, T, by omega, by go_num, hide ((unhide hT).trans (top_no (by rw [hcv]; simp))), hg2, hp2, ht2, hb2⟩
        case measure => simp [intOf]; omega
      | true =>
        rw [hcv] at C1
        clear hlt
        go_wp2
        refine region_bq (by kernel_rfl) (by kernel_rfl) ?_
        refine q_move rfl _ rfl (.slice (some ⟨b, off, none⟩) n cap) rfl ?_
        simp only [Act.put, List.setIfInBounds_toArray, List.set_cons_succ, List.set_cons_zero]
        refine q_move rfl _ rfl (.int .i64 k) rfl ?_
        simp only [Act.put, List.setIfInBounds_toArray, List.set_cons_succ, List.set_cons_zero]
        refine q_val rfl (.pointer (some ⟨b, off + k * 24, none⟩)) (fun _ _ => by simp [go_sem, hkn]) ?_
        simp only [Act.put, List.setIfInBounds_toArray, List.set_cons_succ, List.set_cons_zero]
        refine q_load rfl 54 _ rfl b (off + k * 24) rfl (fc (fs k)) _ Try.underlying54 rfl (szf _) (fun w' h => fs_rng (fun i hi j hj => (h.cell (p := ⟨b, off + i * 24 + j, none⟩) hbw).trans (hcs i hi j hj)) hk) ?_
        simp only [Act.put, List.setIfInBounds_toArray, List.set_cons_succ, List.set_cons_zero]
        refine q_load rfl 41 _ rfl w.heap.size 0 rfl #[.int .i64 l, .int .i64 z, .int .i64 x, .int .i64 y] _ Try.underlying41 rfl (sz28 l z x y) (fun w' h => rng_on hk1 h) ?_
        simp only [Act.put, List.setIfInBounds_toArray, List.set_cons_succ, List.set_cons_zero]
        refine q_call rfl 44 #[.agg (fc (fs k)), .agg #[.int .i64 l, .int .i64 z, .int .i64 x, .int .i64 y]] (fun _ => by simp [go_sem]) _ S1 ?_
        simp only [Act.put, List.setIfInBounds_toArray, List.set_cons_succ, List.set_cons_zero]
        refine q_move rfl _ rfl (.bool true) rfl ?_
        simp only [Act.put, List.setIfInBounds_toArray, List.set_cons_succ, List.set_cons_zero]
        refine q_load (by kernel_rfl) 54 _ rfl (w1.heap.size + 1) 0 rfl (fc T) _ Try.underlying54 rfl (szf _) (fun w' h => rng_on ht h) ?_
        simp only [Act.put, List.setIfInBounds_toArray, List.set_cons_succ, List.set_cons_zero]
        refine q_move (by kernel_rfl) _ rfl (.slice (some ⟨b, off, none⟩) n cap) rfl ?_
        simp only [Act.put, List.setIfInBounds_toArray, List.set_cons_succ, List.set_cons_zero]
        refine q_move (by kernel_rfl) _ rfl (.int .i64 k) rfl ?_
        simp only [Act.put, List.setIfInBounds_toArray, List.set_cons_succ, List.set_cons_zero]
        refine q_val (by kernel_rfl) (.pointer (some ⟨b, off + k * 24, none⟩)) (fun _ _ => by simp [go_sem, hkn]) ?_
        simp only [Act.put, List.setIfInBounds_toArray, List.set_cons_succ, List.set_cons_zero]
        refine q_load (by kernel_rfl) 54 _ rfl b (off + k * 24) rfl (fc (fs k)) _ Try.underlying54 rfl (szf _) (fun w' h => fs_rng (fun i hi j hj => (h.cell (p := ⟨b, off + i * 24 + j, none⟩) hbw).trans (hcs i hi j hj)) hk) ?_
        simp only [Act.put, List.setIfInBounds_toArray, List.set_cons_succ, List.set_cons_zero]
        refine q_call (by kernel_rfl) 45 #[.agg (fc T), .agg (fc (fs k))] (fun _ => by simp [go_sem]) _ A1 ?_
        simp only [Act.put, List.setIfInBounds_toArray, List.set_cons_succ, List.set_cons_zero]
        refine q_val (by kernel_rfl) (.bool true) (fun _ _ => by simp [go_sem]) ?_
        simp only [Act.put, List.setIfInBounds_toArray, List.set_cons_succ, List.set_cons_zero]
        refine q_val (by kernel_rfl) (.bool true) (fun _ _ => by simp [go_sem]) ?_
        simp only [Act.put, List.setIfInBounds_toArray, List.set_cons_succ, List.set_cons_zero]
        refine q_move (by kernel_rfl) _ rfl (.bool true) rfl ?_
        simp only [Act.put, List.setIfInBounds_toArray, List.set_cons_succ, List.set_cons_zero]
        refine q_move (by kernel_rfl) _ rfl (.slice (some ⟨b, off, none⟩) n cap) rfl ?_
        simp only [Act.put, List.setIfInBounds_toArray, List.set_cons_succ, List.set_cons_zero]
        refine q_move (by kernel_rfl) _ rfl (.int .i64 k) rfl ?_
        simp only [Act.put, List.setIfInBounds_toArray, List.set_cons_succ, List.set_cons_zero]
        refine q_val (by kernel_rfl) (.pointer (some ⟨b, off + k * 24, none⟩)) (fun _ _ => by simp [go_sem, hkn]) ?_
        simp only [Act.put, List.setIfInBounds_toArray, List.set_cons_succ, List.set_cons_zero]
        refine q_load (by kernel_rfl) 54 _ rfl b (off + k * 24) rfl (fc (fs k)) _ Try.underlying54 rfl (szf _) (fun w' h => fs_rng (fun i hi j hj => (h.cell (p := ⟨b, off + i * 24 + j, none⟩) hbw).trans (hcs i hi j hj)) hk) ?_
        simp only [Act.put, List.setIfInBounds_toArray, List.set_cons_succ, List.set_cons_zero]
        refine q_move (by kernel_rfl) _ rfl (.int .i64 u) rfl ?_
        simp only [Act.put, List.setIfInBounds_toArray, List.set_cons_succ, List.set_cons_zero]
        refine q_load (by kernel_rfl) 88 _ rfl w1.heap.size 0 rfl #[.int .i64 X, .int .i64 Y] _ Try.underlying88 rfl (sz59 X Y) (fun w' h => rng_on hp1 h) ?_
        simp only [Act.put, List.setIfInBounds_toArray, List.set_cons_succ, List.set_cons_zero]
        refine q_call (by kernel_rfl) 46 #[.agg (fc (fs k)), .int .i64 u, .agg #[.int .i64 X, .int .i64 Y]] (fun _ => by simp [go_sem]) _ C1 ?_
        simp only [Act.put, List.setIfInBounds_toArray, List.set_cons_succ, List.set_cons_zero]
        refine q_val (by kernel_rfl) (.bool true) (fun _ _ => by simp [go_sem]) ?_
        simp only [Act.put, List.setIfInBounds_toArray, List.set_cons_succ, List.set_cons_zero]
        refine wpQuiet_nil ?_
        intro w' hw'
        have hg2 := blk_on hk1 hw'
        have hp2 := blk_on hp1 hw'
        have ht2 := blk_on ht hw'
        have hb2 := hb.trans (hw'.mono hb.size)
        have hcs2 : ∀ i, i < n → ∀ j, j < 24 → w'.cell? ⟨b, off + i * 24 + j, none⟩ = some (.int .i64 (fs i j)) := fun i hi j hj => (hw'.cell (p := ⟨b, off + i * 24 + j, none⟩) hbw).trans (hcs i hi j hj)
        have hrg := fs_rng hcs2 hk
        have HW := hide hw'.size
        clear hk1 hp1 ht hb hcs hcs2 hw'
        go_wp2_with (first | refine ldm26 rfl _ rfl b (off + k * 24) rfl (fs k) hrg ?_ | refine st26 rfl _ _ rfl (w1.heap.size + 1) (fs k) rfl rfl T ht2 ?_)
        go_roundw
        case rel => exact ⟨k + 1, fs k, by omega, by go_num, hide (top_yes (by rw [← unhide hT, hs, ha, hcv]; rfl)), (setRow_other (by omega) _).trans hg2, (setRow_other (by omega) _).trans hp2, setRow_heap _ _ _ _ _ _ ht2, below_setRow hb2 (by omega) _⟩
        case measure => simp [intOf]; omega
    · have hkn : k = n := by omega
      subst hkn
      have hct := blk_cells ht
      have ct3 := fc_at T 3 (by decide)
      have HT3 : Hid (T 3 = top fs l z u X Y k 3) := by show T 3 = _; rw [unhide hT]
      have hw3 : IntKind.u8.wrap (T 3) = T 3 := top_small _ trivial (unhide HT3) hr
      go_wp2
      go_ret
      exact ⟨ret_int (unhide HT3), hb⟩
end Go.Proofs.Ytppcpbhnpdjfpab
