/-
  store.New, life.lastChange, Store.Stamp; atlaskeep.touched, stampsAre.
-/
import Derived.Test.YtppcpbhnpdjfpabStG
namespace Go.Proofs.Ytppcpbhnpdjfpab
open Go.RowKit

theorem New_any (k : Int) (w : World) (h : 0 ≤ k ∧ k ≤ 4) :
    Calls Try.prog 6 #[.int .i64 k] w fun e w' => e = .returned (.tuple #[.pointer (some ⟨w.heap.size, 0, none⟩), .int .i64 0]) ∧ w' = w.alloc (.cells #[.int .i64 k, .int .i64 0, .slice none 0 0, .slice none 0 0] 62) := by
  go_enter Try.func6, Try.ntmps6
  go_wp2
  go_ret2
  exact ⟨rfl, rfl⟩

/-- The last version up to v at which a life changed. -/
def lc (v : Int) (g : Nat → Int) : Int := if g 25 ≠ 0 ∧ g 25 ≤ v then g 25 else if g 24 ≤ v then g 24 else 0
set_option maxHeartbeats 1600000 in
theorem lastChange_any (g : Nat → Int) (v : Int) (w : World) :
    Calls Try.prog 33 #[.agg (cc 26 g), .int .i64 v] w fun e w' => e = .returned (.int .i64 (lc v g)) ∧ Below w.heap.size w w' := by
  have c25 := cc_at 26 g 25 (by decide)
  have c24 := cc_at 26 g 24 (by decide)
  have HB := hide (below_one w (.cells (cc 26 g) 80))
  obtain ⟨G, hG⟩ : ∃ G, g 25 = G := ⟨_, rfl⟩
  obtain ⟨C, hC⟩ : ∃ G, g 24 = G := ⟨_, rfl⟩
  have HL : Hid (lc v g = if G ≠ 0 ∧ G ≤ v then G else if C ≤ v then C else 0) := by show lc v g = _; rw [lc, hG, hC]
  rw [hG] at c25
  rw [hC] at c24
  clear hG hC
  by_cases h1 : G = 0
  · by_cases h3 : C ≤ v
    · go_enter Try.func33, Try.ntmps33
      go_wp2
      go_ret
      exact ⟨ret_int (by rw [unhide HL, if_neg (by omega), if_pos h3]), unhide HB⟩
    · go_enter Try.func33, Try.ntmps33
      go_wp2
      go_ret
      exact ⟨ret_int (by rw [unhide HL, if_neg (by omega), if_neg (by omega)]), unhide HB⟩
  · by_cases h2 : G ≤ v
    · go_enter Try.func33, Try.ntmps33
      go_wp2
      go_ret
      exact ⟨ret_int (by rw [unhide HL, if_pos ⟨h1, h2⟩]), unhide HB⟩
    · by_cases h3 : C ≤ v
      · go_enter Try.func33, Try.ntmps33
        go_wp2
        go_ret
        exact ⟨ret_int (by rw [unhide HL, if_neg (by omega), if_pos h3]), unhide HB⟩
      · go_enter Try.func33, Try.ntmps33
        go_wp2
        go_ret
        exact ⟨ret_int (by rw [unhide HL, if_neg (by omega), if_neg (by omega)]), unhide HB⟩

/-- The stamp, out of the first k lives. -/
def stp (v : Int) (l z x y : Int) (LS : List (Nat → Int)) : Nat → Int
  | 0 => 0
  | k + 1 => bif decide (stp v l z x y LS k < lc v (gf LS k)) && Tch (gf LS k) l z x y then lc v (gf LS k) else stp v l z x y LS k
theorem stp_no {v l z x y : Int} {LS : List (Nat → Int)} {k : Nat} (h : (decide (stp v l z x y LS k < lc v (gf LS k)) && Tch (gf LS k) l z x y) = false) : stp v l z x y LS (k + 1) = stp v l z x y LS k := by rw [stp, h]; rfl
theorem stp_yes {v l z x y : Int} {LS : List (Nat → Int)} {k : Nat} (h : (decide (stp v l z x y LS k < lc v (gf LS k)) && Tch (gf LS k) l z x y) = true) : stp v l z x y LS (k + 1) = lc v (gf LS k) := by rw [stp, h]; rfl
theorem sz80 (f : Nat → Int) : (Try.prog.info? 80).map (·.size) = some (cc 26 f).size := by rw [cc_size]; kernel_rfl
theorem ldm80 {ops : Array Oper} {rest : List Oper} {o : Oper} {a : Act} {w : World} {Q : Exit → Act → World → Prop} (hw : Region.wanted o (yielded ops a.tmps) = true) (x : Operand) (ho : o.op = .load 80 x)
    (b off : Nat) (hx : a.eval x = .pointer (some ⟨b, off, none⟩)) (f : Nat → Int) (hc : w.rangeAt b off (cc 26 f).toList)
    (h : wpList Try.prog ops Q rest (a.put o.dst (.agg (cc 26 f))) w) : wpList Try.prog ops Q (o :: rest) a w := by
  unfold wpList
  rw [if_pos hw]
  exact Or.inl (wp_load_mid 80 x ho b off hx (cc 26 f).toList _ hc Try.underlying80 rfl (by rw [Array.length_toList]; exact sz80 f) h)
theorem life_F {W : World} {b off : Nat} {g : Nat → Int} (h : W.rangeAt b off (cc 26 g).toList) : W.rangeAt b off (fc g).toList := by
  intro j v hv
  have hj : j < 24 := by
    have := (List.getElem?_eq_some_iff.1 hv).1
    simpa [fc_size] using this
  have e : (fc g)[j]? = some v := by simpa using hv
  rw [fc_at _ j hj] at e
  refine h j v ?_
  rw [Array.getElem?_toList, cc_at 26 g j (by omega)]
  exact e

/-- What a store has. -/
structure Sto (w : World) (sb : Nat) (keep ver : Int) (sl pv : Value) (LS : List (Nat → Int)) : Prop where
  blk : w.heap[sb]? = some (.cells #[.int .i64 keep, .int .i64 ver, sl, pv] 62 (0, 0))
  own : OwnC 80 26 w (sb + 1) sl LS
theorem Sto.lt {w : World} {sb : Nat} {keep ver : Int} {sl pv : Value} {LS : List (Nat → Int)} (h : Sto w sb keep ver sl pv LS) : sb < w.heap.size := (Array.getElem?_eq_some_iff.1 h.blk).1
theorem Sto.on {w w' : World} {sb : Nat} {keep ver : Int} {sl pv : Value} {LS : List (Nat → Int)} (h : Sto w sb keep ver sl pv LS) (hb : Below w.heap.size w w') : Sto w' sb keep ver sl pv LS := ⟨blk_on h.blk hb, h.own.on hb⟩
theorem Sto.cells {w : World} {sb : Nat} {keep ver : Int} {sl pv : Value} {LS : List (Nat → Int)} (h : Sto w sb keep ver sl pv LS) : w.cell? ⟨sb, 1, none⟩ = some (.int .i64 ver) ∧ w.cell? ⟨sb, 2, none⟩ = some sl := ⟨(blk_cells h.blk 1).trans rfl, (blk_cells h.blk 2).trans rfl⟩

set_option maxHeartbeats 3200000 in
theorem Stamp_no (sb : Nat) (keep ver : Int) (sl pv : Value) (LS : List (Nat → Int)) (v l z x y : Int) (w : World) (hs : Sto w sb keep ver sl pv LS) (he : keyErr l z x y = 0) (hv : ver < v) (h0 : 0 ≤ ver) :
    Calls Try.prog 17 #[.pointer (some ⟨sb, 0, none⟩), .int .i64 v, .agg #[.int .i64 l, .int .i64 z, .int .i64 x, .int .i64 y]] w fun e w' => e = .returned (.tuple #[.int .i64 0, .int .i64 12]) ∧ Below w.heap.size w w' := by
  have hg0 := heap_alloc_new w (.cells #[.int .i64 l, .int .i64 z, .int .i64 x, .int .i64 y] 41 (0, 0))
  have K := fun W => keyError_any l z x y W
  rw [he] at K
  have HS := hide (hs.on (below_one w (.cells #[.int .i64 l, .int .i64 z, .int .i64 x, .int .i64 y] 41)))
  clear hs he
  go_enter Try.func17, Try.ntmps17
  go_wp2_with fail
  refine (K _).mono ?_
  rintro e w1 ⟨rfl, hb1⟩
  obtain ⟨s1, s2⟩ := ((unhide HS).on hb1).cells
  have HB := hide ((below_one _ _).trans (hb1.mono (by simp)))
  have hv0 : ¬ v < 0 := by omega
  clear hb1 hg0 s2
  go_wp2_with fail
  go_ret2
  exact ⟨rfl, unhide HB⟩

set_option maxHeartbeats 6400000 in
theorem Stamp_any (sb : Nat) (keep ver : Int) (sl pv : Value) (LS : List (Nat → Int)) (v l z x y : Int) (w : World) (hs : Sto w sb keep ver sl pv LS) (hl : LS.length ≤ 1000) (he : keyErr l z x y = 0) (hv : 0 ≤ v ∧ v ≤ ver) :
    Calls Try.prog 17 #[.pointer (some ⟨sb, 0, none⟩), .int .i64 v, .agg #[.int .i64 l, .int .i64 z, .int .i64 x, .int .i64 y]] w fun e w' => e = .returned (.tuple #[.int .i64 (stp v l z x y LS LS.length), .int .i64 0]) ∧ Below w.heap.size w w' := by
  have hg0 := heap_alloc_new w (.cells #[.int .i64 l, .int .i64 z, .int .i64 x, .int .i64 y] 41 (0, 0))
  have K := fun W => keyError_any l z x y W
  rw [he] at K
  have HS := hide (hs.on (below_one w (.cells #[.int .i64 l, .int .i64 z, .int .i64 x, .int .i64 y] 41)))
  clear hs he
  go_enter Try.func17, Try.ntmps17
  go_wp2_with fail
  refine (K _).mono ?_
  rintro e w1 ⟨rfl, hb1⟩
  have hs1 := (unhide HS).on hb1
  have hg1 := blk_on hg0 hb1
  obtain ⟨s1, s2⟩ := hs1.cells
  obtain ⟨oa, cap, rfl, _, hc⟩ := hs1.own.at (by unfold maxLen; omega)
  have HC := hide hc
  have HB := hide ((below_one _ _).trans (hb1.mono (by simp)))
  have hlt := hs1.lt
  have h1 : ¬ v < 0 := by omega
  have h2 : ¬ ver < v := by omega
  clear hb1 hg0 hs1 hc HS
  go_wp2_with fail
  go_loopw [9, 10, 11] (fun st i _ wr => ∃ (k : Nat) (s : Int), k ≤ LS.length ∧ i = .int .i64 k ∧ st = .int .i64 s ∧ Hid (s = stp v l z x y LS k) ∧ Below w1.heap.size w1 wr) (fun _ i _ _ => LS.length - (intOf i).toNat)
  case atStart => exact ⟨0, 0, by omega, rfl, rfl, hide rfl, Below.refl _ _⟩
  case round =>
    obtain ⟨k, s, hk, rfl, rfl, hst, hb⟩ := hrel
    have r2 := (hb.cell (p := ⟨sb, 2, none⟩) hlt).trans s2
    have hgr := blk_on hg1 hb
    have HBr := hide hb
    clear s1 s2
    by_cases hlk : k < LS.length
    · have hkn : (k : Int) < LS.length := by omega
      obtain ⟨b, off, rfl, hbl, hc0⟩ := unhide HC (by omega)
      have hrgW : ∀ W, Below w1.heap.size w1 W → W.rangeAt b (off + k * 26) (cc 26 (gf LS k)).toList := fun W h => cs_rng (fun i hi j hj => (h.cell (p := ⟨b, off + i * 26 + j, none⟩) hbl).trans (hc0 i hi j hj)) hlk
      have hrg := hrgW wr hb
      have HRG := hide hrgW
      clear hc0 hb hrgW
      go_wp2_with (refine ldm80 rfl _ rfl b (off + k * 26) rfl (gf LS k) hrg ?_)
      refine (lastChange_any (gf LS k) v _).mono ?_
      rintro e w3 ⟨rfl, hb3⟩
      obtain ⟨C, hC⟩ : ∃ C, lc v (gf LS k) = C := ⟨_, rfl⟩
      rw [hC]
      have hb4 := (unhide HBr).trans (hb3.mono (unhide HBr).size)
      have r3 := (hb4.cell (p := ⟨sb, 2, none⟩) hlt).trans (show w1.cell? ⟨sb, 2, none⟩ = _ from ((unhide HBr).cell (p := ⟨sb, 2, none⟩) hlt).symm.trans r2)
      have hg3 := blk_on hgr hb3
      have HB4 := hide hb4
      have hl3 : sb < w3.heap.size := Nat.lt_of_lt_of_le hlt hb4.size
      clear hb3 hgr r2 hrg
      by_cases hlt2 : s < C
      · have TT := fun W => Touches_any (gf LS k) l z x y W
        cases ht : Tch (gf LS k) l z x y with
        | false =>
          rw [ht] at TT
          clear hb4
          go_wp2
          refine region_bq (by kernel_rfl) (by kernel_rfl) ?_
          refine q_move rfl _ rfl (.int .i64 C) rfl ?_
          simp only [Act.put, List.setIfInBounds_toArray, List.set_cons_succ, List.set_cons_zero]
          refine q_move rfl _ rfl (.int .i64 s) rfl ?_
          simp only [Act.put, List.setIfInBounds_toArray, List.set_cons_succ, List.set_cons_zero]
          refine q_val rfl (.bool true) (fun _ _ => by simp [go_sem, hlt2]) ?_
          simp only [Act.put, List.setIfInBounds_toArray, List.set_cons_succ, List.set_cons_zero]
          refine q_move rfl _ rfl (.bool true) rfl ?_
          simp only [Act.put, List.setIfInBounds_toArray, List.set_cons_succ, List.set_cons_zero]
          refine q_move (by kernel_rfl) _ rfl (.pointer (some ⟨sb, 0, none⟩)) rfl ?_
          simp only [Act.put, List.setIfInBounds_toArray, List.set_cons_succ, List.set_cons_zero]
          refine q_val (by kernel_rfl) (.pointer (some ⟨sb, 0, none⟩)) (fun _ _ => by simp [go_sem]) ?_
          simp only [Act.put, List.setIfInBounds_toArray, List.set_cons_succ, List.set_cons_zero]
          refine q_val (by kernel_rfl) (.pointer (some ⟨sb, 2, none⟩)) (fun _ _ => by simp [go_sem]) ?_
          simp only [Act.put, List.setIfInBounds_toArray, List.set_cons_succ, List.set_cons_zero]
          refine q_val (by kernel_rfl) (.slice (some ⟨b, off, none⟩) LS.length cap) (fun w' h => by simp [go_sem, (h.cell (p := ⟨sb, 2, none⟩) hl3).trans r3]) ?_
          simp only [Act.put, List.setIfInBounds_toArray, List.set_cons_succ, List.set_cons_zero]
          refine q_move (by kernel_rfl) _ rfl (.int .i64 k) rfl ?_
          simp only [Act.put, List.setIfInBounds_toArray, List.set_cons_succ, List.set_cons_zero]
          refine q_val (by kernel_rfl) (.pointer (some ⟨b, off + k * 26, none⟩)) (fun _ _ => by simp [go_sem, hkn]) ?_
          simp only [Act.put, List.setIfInBounds_toArray, List.set_cons_succ, List.set_cons_zero]
          refine q_val (by kernel_rfl) (.pointer (some ⟨b, off + k * 26, none⟩)) (fun _ _ => by simp [go_sem]) ?_
          simp only [Act.put, List.setIfInBounds_toArray, List.set_cons_succ, List.set_cons_zero]
          refine q_load (by kernel_rfl) 54 _ rfl b (off + k * 26) rfl (fc (gf LS k)) _ Try.underlying54 rfl (szf _) (fun w' h => life_F (unhide HRG w' ((unhide HB4).trans (h.mono (unhide HB4).size)))) ?_
          simp only [Act.put, List.setIfInBounds_toArray, List.set_cons_succ, List.set_cons_zero]
          refine q_load (by kernel_rfl) 41 _ rfl w.heap.size 0 rfl #[.int .i64 l, .int .i64 z, .int .i64 x, .int .i64 y] _ Try.underlying41 rfl (sz28 l z x y) (fun w' h => rng_on hg3 h) ?_
          simp only [Act.put, List.setIfInBounds_toArray, List.set_cons_succ, List.set_cons_zero]
          refine q_call (by kernel_rfl) 32 #[.agg (fc (gf LS k)), .agg #[.int .i64 l, .int .i64 z, .int .i64 x, .int .i64 y]] (fun _ => by simp [go_sem]) _ TT ?_
          simp only [Act.put, List.setIfInBounds_toArray, List.set_cons_succ, List.set_cons_zero]
          refine q_val rfl (.bool false) (fun _ _ => by simp [go_sem]) ?_
          simp only [Act.put, List.setIfInBounds_toArray, List.set_cons_succ, List.set_cons_zero]
          refine wpQuiet_nil ?_
          intro w6 hw6
          have HB6 := hide ((unhide HB4).trans (hw6.mono (unhide HB4).size))
          clear hw6 TT r3 hg3
          have hst' : Hid (s = stp v l z x y LS (k + 1)) := by show s = _; rw [stp_no (by rw [ht, Bool.and_false])]; exact unhide hst
          go_wp2_with fail
          go_roundw
          case rel => exact ⟨k + 1, s, by omega, by go_num, rfl, hst', unhide HB6⟩
          case measure => simp [intOf]; omega
        | true =>
          rw [ht] at TT
          clear hb4
          go_wp2
          refine region_bq (by kernel_rfl) (by kernel_rfl) ?_
          refine q_move rfl _ rfl (.int .i64 C) rfl ?_
          simp only [Act.put, List.setIfInBounds_toArray, List.set_cons_succ, List.set_cons_zero]
          refine q_move rfl _ rfl (.int .i64 s) rfl ?_
          simp only [Act.put, List.setIfInBounds_toArray, List.set_cons_succ, List.set_cons_zero]
          refine q_val rfl (.bool true) (fun _ _ => by simp [go_sem, hlt2]) ?_
          simp only [Act.put, List.setIfInBounds_toArray, List.set_cons_succ, List.set_cons_zero]
          refine q_move rfl _ rfl (.bool true) rfl ?_
          simp only [Act.put, List.setIfInBounds_toArray, List.set_cons_succ, List.set_cons_zero]
          refine q_move (by kernel_rfl) _ rfl (.pointer (some ⟨sb, 0, none⟩)) rfl ?_
          simp only [Act.put, List.setIfInBounds_toArray, List.set_cons_succ, List.set_cons_zero]
          refine q_val (by kernel_rfl) (.pointer (some ⟨sb, 0, none⟩)) (fun _ _ => by simp [go_sem]) ?_
          simp only [Act.put, List.setIfInBounds_toArray, List.set_cons_succ, List.set_cons_zero]
          refine q_val (by kernel_rfl) (.pointer (some ⟨sb, 2, none⟩)) (fun _ _ => by simp [go_sem]) ?_
          simp only [Act.put, List.setIfInBounds_toArray, List.set_cons_succ, List.set_cons_zero]
          refine q_val (by kernel_rfl) (.slice (some ⟨b, off, none⟩) LS.length cap) (fun w' h => by simp [go_sem, (h.cell (p := ⟨sb, 2, none⟩) hl3).trans r3]) ?_
          simp only [Act.put, List.setIfInBounds_toArray, List.set_cons_succ, List.set_cons_zero]
          refine q_move (by kernel_rfl) _ rfl (.int .i64 k) rfl ?_
          simp only [Act.put, List.setIfInBounds_toArray, List.set_cons_succ, List.set_cons_zero]
          refine q_val (by kernel_rfl) (.pointer (some ⟨b, off + k * 26, none⟩)) (fun _ _ => by simp [go_sem, hkn]) ?_
          simp only [Act.put, List.setIfInBounds_toArray, List.set_cons_succ, List.set_cons_zero]
          refine q_val (by kernel_rfl) (.pointer (some ⟨b, off + k * 26, none⟩)) (fun _ _ => by simp [go_sem]) ?_
          simp only [Act.put, List.setIfInBounds_toArray, List.set_cons_succ, List.set_cons_zero]
          refine q_load (by kernel_rfl) 54 _ rfl b (off + k * 26) rfl (fc (gf LS k)) _ Try.underlying54 rfl (szf _) (fun w' h => life_F (unhide HRG w' ((unhide HB4).trans (h.mono (unhide HB4).size)))) ?_
          simp only [Act.put, List.setIfInBounds_toArray, List.set_cons_succ, List.set_cons_zero]
          refine q_load (by kernel_rfl) 41 _ rfl w.heap.size 0 rfl #[.int .i64 l, .int .i64 z, .int .i64 x, .int .i64 y] _ Try.underlying41 rfl (sz28 l z x y) (fun w' h => rng_on hg3 h) ?_
          simp only [Act.put, List.setIfInBounds_toArray, List.set_cons_succ, List.set_cons_zero]
          refine q_call (by kernel_rfl) 32 #[.agg (fc (gf LS k)), .agg #[.int .i64 l, .int .i64 z, .int .i64 x, .int .i64 y]] (fun _ => by simp [go_sem]) _ TT ?_
          simp only [Act.put, List.setIfInBounds_toArray, List.set_cons_succ, List.set_cons_zero]
          refine q_val rfl (.bool true) (fun _ _ => by simp [go_sem]) ?_
          simp only [Act.put, List.setIfInBounds_toArray, List.set_cons_succ, List.set_cons_zero]
          refine wpQuiet_nil ?_
          intro w6 hw6
          have HB6 := hide ((unhide HB4).trans (hw6.mono (unhide HB4).size))
          clear hw6 TT r3 hg3
          have hst' : Hid (C = stp v l z x y LS (k + 1)) := by show C = _; rw [stp_yes (by rw [ht, Bool.and_true, ← unhide hst, hC]; exact decide_eq_true hlt2), hC]
          go_wp2_with fail
          go_roundw
          case rel => exact ⟨k + 1, C, by omega, by go_num, rfl, hst', unhide HB6⟩
          case measure => simp [intOf]; omega
      · clear hb4
        go_wp2
        refine region_bq (by kernel_rfl) (by kernel_rfl) ?_
        refine q_move rfl _ rfl (.int .i64 C) rfl ?_
        simp only [Act.put, List.setIfInBounds_toArray, List.set_cons_succ, List.set_cons_zero]
        refine q_move rfl _ rfl (.int .i64 s) rfl ?_
        simp only [Act.put, List.setIfInBounds_toArray, List.set_cons_succ, List.set_cons_zero]
        refine q_val rfl (.bool false) (fun _ _ => by simp [go_sem]; omega) ?_
        simp only [Act.put, List.setIfInBounds_toArray, List.set_cons_succ, List.set_cons_zero]
        refine q_move rfl _ rfl (.bool false) rfl ?_
        simp only [Act.put, List.setIfInBounds_toArray, List.set_cons_succ, List.set_cons_zero]
        go_big_quiet_skip
        go_big_quiet_skip
        go_big_quiet_skip
        go_big_quiet_skip
        go_big_quiet_skip
        go_big_quiet_skip
        go_big_quiet_skip
        go_big_quiet_skip
        go_big_quiet_skip
        go_big_quiet_skip
        refine q_val rfl (.bool false) (fun _ _ => by simp [go_sem]) ?_
        simp only [Act.put, List.setIfInBounds_toArray, List.set_cons_succ, List.set_cons_zero]
        refine wpQuiet_nil ?_
        intro w6 hw6
        have HB6 := hide ((unhide HB4).trans (hw6.mono (unhide HB4).size))
        clear hw6 r3 hg3
        have hst' : Hid (s = stp v l z x y LS (k + 1)) := by show s = _; rw [stp_no (by rw [← unhide hst, hC, decide_eq_false (by omega), Bool.false_and])]; exact unhide hst
        go_wp2_with fail
        go_roundw
        case rel => exact ⟨k + 1, s, by omega, by go_num, rfl, hst', unhide HB6⟩
        case measure => simp [intOf]; omega
    · have hkn : k = LS.length := by omega
      subst hkn
      have HF := hide ((unhide HB).trans (hb.mono (unhide HB).size))
      clear hb
      go_wp2_with fail
      go_ret2
      exact ⟨by rw [unhide hst]; rfl, unhide HF⟩
end Go.Proofs.Ytppcpbhnpdjfpab
