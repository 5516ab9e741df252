/-
  The texts StF, StG, StH, StJ, StK, StL, StM, KpA, KpB, KpC, KpE, KpF, SaA, SaB, SbA, SbB, SbC, SbD, SbE, SbF, SbG, SbH, SbI.
-/
import Derived.Test.YtpabpniaekldeaaGreatDoorSkse00
namespace Go.Proofs.YtpabpniaekldeaaGreatDoor
open Go.RowKit
set_option maxRecDepth 20000
def setR (xs : List Value) : Nat -> List Value -> List Value
  | _, [] => xs
  | o, v :: r => setR (xs.set o v) (o + 1) r
theorem setR_len : ∀ (vs xs : List Value) (o : Nat), (setR xs o vs).length = xs.length
  | [], _, _ => rfl
  | v :: r, xs, o => by rw [setR, setR_len r]; simp
theorem setR_at : ∀ (vs xs : List Value) (o k : Nat), o + vs.length <= xs.length -> (setR xs o vs)[k]? = if o <= k /\ k < o + vs.length then vs[k - o]? else xs[k]?
  | [], xs, o, k, _ => by rw [setR, if_neg (by simp only [List.length_nil]; omega)]
  | v :: r, xs, o, k, h => by
    simp only [List.length_cons] at h
    rw [setR, setR_at r (xs.set o v) (o + 1) k (by simp; omega)]
    by_cases h1 : o + 1 <= k /\ k < o + 1 + r.length
    . rw [if_pos h1, if_pos (by simp only [List.length_cons]; omega), show k - o = (k - (o + 1)) + 1 by omega, List.getElem?_cons_succ]
    . rw [if_neg h1, List.getElem?_set]
      by_cases h2 : o = k
      . subst h2; rw [if_pos rfl, if_pos (by omega), if_pos (by simp only [List.length_cons]; omega)]; simp
      . rw [if_neg h2, if_neg (by simp only [List.length_cons]; omega)]
theorem OwnC.there {T : TypeId} {m : Nat} {w : World} {B g cap : Nat} {l : List (Nat -> Int)} (h : OwnC T m w B (.slice (some ⟨g, 0, none⟩) l.length cap) l) (i : Nat) (hi : i < l.length) : w.there g (i * m) m := by
  intro j hj
  have hlt : i * m + j < l.length * m := by
    have : (i + 1) * m <= l.length * m := Nat.mul_le_mul_right _ hi
    rw [Nat.succ_mul] at this
    omega
  refine ⟨?_, World.ownsRow.frozenAt h _⟩
  rw [World.ownsRow.cellAt h _ hlt, fl_at m l i j hi hj]
  rfl
theorem Tryz.info66 : (Tryz.prog.info? 66).map (fun i => (i.zero, i.size, i.bytes)) = some (some (.agg (fc zf)), 24, 192) := by kernel_rfl
theorem run_apF (w : World) (B : Nat) (v : Value) (l news : List (Nat -> Int)) (hown : OwnC 66 24 w B v l) (b off c : Nat) (hnews : ∀ i, i < news.length -> ∀ j, j < 24 -> w.cell? ⟨b, off + i * 24 + j, none⟩ = some (.int .i64 (gf news i j)))
    (hlen : l.length + news.length <= 10000) (hB : B <= w.heap.size) :
    ∃ v' w', (Builtin.append_ #[62, 62] 62 #[v, .slice (some ⟨b, off, none⟩) news.length c]).run Tryz.prog w = .ok v' w' /\ OwnC 66 24 w' B v' (l ++ news) /\ w.grownBy w' v.ownBlock := by
  obtain ⟨i0, hi, hz0, hz1, hz2⟩ := info_parts Tryz.info66
  obtain ⟨v', w', hrun, r1, r2, _⟩ := run_append_own (P := Tryz.prog) w B 62 62 66 i0 (.agg (fc zf)) 24 192 Tryz.underlying62 hi hz0 hz1 hz2 (fc_size zf) (by decide) v l.length (fl 24 l) hown ⟨b, off, none⟩ news.length c (fl 24 news) (fl_len 24 news)
    (fun j u hj => by
      have hlt : j < news.length * 24 := by
        have := (List.getElem?_eq_some_iff.1 hj).1
        rwa [fl_len] at this
      have h1 : j / 24 < news.length := by omega
      have e : j / 24 * 24 + j % 24 = j := by omega
      rw [<- e, fl_at 24 news _ _ h1 (by omega)] at hj
      rw [Addr.add_mid, <- Option.some.inj hj, show off + j = off + j / 24 * 24 + j % 24 by omega]
      exact hnews _ h1 _ (by omega))
    (fl_one 24 news) (by unfold maxLen; omega) (by omega) hB
  refine ⟨v', w', hrun, ?_, r2⟩
  unfold OwnC
  rw [fl_app]
  simpa using r1
theorem ex_apF {w w' : World} {v x' v' : Value} (hr : (Builtin.append_ #[62, 62] 62 #[v, x']).run Tryz.prog w = .ok v' w') (a : Act) (o : Oper) (s x : Operand) (ho : o.op = .call { callee := .builtin .append, args := #[s, x], argTypes := #[62, 62] }) (ht : o.type = 62) (hs : a.eval s = v) (hx : a.eval x = x') : (execOp a.eval o).run Tryz.prog w = .ok (.value v') w' := by
  unfold execOp
  simp only [ho, resolve, invoke, builtin]
  simp [hs, hx, ht, hr, Result.andThen]
theorem wl_apF {ops : Array Oper} {rest : List Oper} {o : Oper} {a : Act} {Q : Exit -> Act -> World -> Prop} {W w' : World} {v x' v' : Value} (hr : (Builtin.append_ #[62, 62] 62 #[v, x']).run Tryz.prog W = .ok v' w') (hgd : o.guard = none) (s x : Operand) (ho : o.op = .call { callee := .builtin .append, args := #[s, x], argTypes := #[62, 62] }) (ht : o.type = 62) (hs : a.eval s = v) (hx : a.eval x = x')
    (h : wpList Tryz.prog ops Q rest (a.put o.dst v') w') : wpList Tryz.prog ops Q (o :: rest) a W :=
  wpList_plain hgd fun _ hK => by
    unfold Oper.wp
    rw [ex_apF hr a o s x ho ht hs hx]
    exact hK _ _ h
def No (FL : List (Nat -> Int)) (id : Int) : Prop := ∀ i, i < FL.length -> gf FL i 0 ≠ id
theorem New_any (k : Int) (w : World) (h : 0 <= k /\ k <= 4) :
    Calls Tryz.prog 21 #[.int .i64 k] w fun e w' => e = .returned (.tuple #[.pointer (some ⟨w.heap.size, 0, none⟩), .int .i64 0]) /\ w' = w.alloc (.cells #[.int .i64 k, .int .i64 0, .slice none 0 0, .slice none 0 0] 119) := by
  go_enter Tryz.func21, Tryz.ntmps21
  go_wp2
  go_ret2
  exact ⟨rfl, rfl⟩
def lc (v : Int) (g : Nat -> Int) : Int := if g 25 ≠ 0 /\ g 25 <= v then g 25 else if g 24 <= v then g 24 else 0
set_option maxHeartbeats 1600000 in
theorem lastChange_any (g : Nat -> Int) (v : Int) (w : World) :
    Calls Tryz.prog 76 #[.agg (cc 26 g), .int .i64 v] w fun e w' => e = .returned (.int .i64 (lc v g)) /\ Below w.heap.size w w' := by
  have c25 := cc_at 26 g 25 (by decide)
  have c24 := cc_at 26 g 24 (by decide)
  have HB := hide (below_one w (.cells (cc 26 g) 147))
  obtain ⟨G, hG⟩ : ∃ G, g 25 = G := ⟨_, rfl⟩
  obtain ⟨C, hC⟩ : ∃ G, g 24 = G := ⟨_, rfl⟩
  have HL : Hid (lc v g = if G ≠ 0 /\ G <= v then G else if C <= v then C else 0) := by show lc v g = _; rw [lc, hG, hC]
  rw [hG] at c25
  rw [hC] at c24
  clear hG hC
  by_cases h1 : G = 0
  . by_cases h3 : C <= v
    . go_enter Tryz.func76, Tryz.ntmps76
      go_wp2
      go_ret
      exact ⟨ret_int (by rw [unhide HL, if_neg (by omega), if_pos h3]), unhide HB⟩
    . go_enter Tryz.func76, Tryz.ntmps76
      go_wp2
      go_ret
      exact ⟨ret_int (by rw [unhide HL, if_neg (by omega), if_neg (by omega)]), unhide HB⟩
  . by_cases h2 : G <= v
    . go_enter Tryz.func76, Tryz.ntmps76
      go_wp2
      go_ret
      exact ⟨ret_int (by rw [unhide HL, if_pos ⟨h1, h2⟩]), unhide HB⟩
    . by_cases h3 : C <= v
      . go_enter Tryz.func76, Tryz.ntmps76
        go_wp2
        go_ret
        exact ⟨ret_int (by rw [unhide HL, if_neg (by omega), if_pos h3]), unhide HB⟩
      . go_enter Tryz.func76, Tryz.ntmps76
        go_wp2
        go_ret
        exact ⟨ret_int (by rw [unhide HL, if_neg (by omega), if_neg (by omega)]), unhide HB⟩
def stp (v : Int) (l z x y : Int) (LS : List (Nat -> Int)) : Nat -> Int
  | 0 => 0
  | k + 1 => bif decide (stp v l z x y LS k < lc v (gf LS k)) && Tch (gf LS k) l z x y then lc v (gf LS k) else stp v l z x y LS k
theorem stp_no {v l z x y : Int} {LS : List (Nat -> Int)} {k : Nat} (h : (decide (stp v l z x y LS k < lc v (gf LS k)) && Tch (gf LS k) l z x y) = false) : stp v l z x y LS (k + 1) = stp v l z x y LS k := by rw [stp, h]; rfl
theorem stp_yes {v l z x y : Int} {LS : List (Nat -> Int)} {k : Nat} (h : (decide (stp v l z x y LS k < lc v (gf LS k)) && Tch (gf LS k) l z x y) = true) : stp v l z x y LS (k + 1) = lc v (gf LS k) := by rw [stp, h]; rfl
theorem sz80 (f : Nat -> Int) : (Tryz.prog.info? 147).map (·.size) = some (cc 26 f).size := by rw [cc_size]; kernel_rfl
theorem ldm80 {ops : Array Oper} {rest : List Oper} {o : Oper} {a : Act} {w : World} {Q : Exit -> Act -> World -> Prop} (hw : Region.wanted o (yielded ops a.tmps) = true) (x : Operand) (ho : o.op = .load 147 x)
    (b off : Nat) (hx : a.eval x = .pointer (some ⟨b, off, none⟩)) (f : Nat -> Int) (hc : w.rangeAt b off (cc 26 f).toList)
    (h : wpList Tryz.prog ops Q rest (a.put o.dst (.agg (cc 26 f))) w) : wpList Tryz.prog ops Q (o :: rest) a w := by
  unfold wpList
  rw [if_pos hw]
  exact Or.inl (wp_load_mid 147 x ho b off hx (cc 26 f).toList _ hc Tryz.underlying147 rfl (by rw [Array.length_toList]; exact sz80 f) h)
theorem life_F {W : World} {b off : Nat} {g : Nat -> Int} (h : W.rangeAt b off (cc 26 g).toList) : W.rangeAt b off (fc g).toList := by
  intro j v hv
  have hj : j < 24 := by
    have := (List.getElem?_eq_some_iff.1 hv).1
    simpa [fc_size] using this
  have e : (fc g)[j]? = some v := by simpa using hv
  rw [fc_at _ j hj] at e
  refine h j v ?_
  rw [Array.getElem?_toList, cc_at 26 g j (by omega)]
  exact e
structure Sto (w : World) (sb : Nat) (keep ver : Int) (sl pv : Value) (LS : List (Nat -> Int)) : Prop where
  blk : w.heap[sb]? = some (.cells #[.int .i64 keep, .int .i64 ver, sl, pv] 119 (0, 0))
  own : OwnC 147 26 w (sb + 1) sl LS
theorem Sto.lt {w : World} {sb : Nat} {keep ver : Int} {sl pv : Value} {LS : List (Nat -> Int)} (h : Sto w sb keep ver sl pv LS) : sb < w.heap.size := (Array.getElem?_eq_some_iff.1 h.blk).1
theorem Sto.on {w w' : World} {sb : Nat} {keep ver : Int} {sl pv : Value} {LS : List (Nat -> Int)} (h : Sto w sb keep ver sl pv LS) (hb : Below w.heap.size w w') : Sto w' sb keep ver sl pv LS := ⟨blk_on h.blk hb, h.own.on hb⟩
theorem Sto.cells {w : World} {sb : Nat} {keep ver : Int} {sl pv : Value} {LS : List (Nat -> Int)} (h : Sto w sb keep ver sl pv LS) : w.cell? ⟨sb, 1, none⟩ = some (.int .i64 ver) /\ w.cell? ⟨sb, 2, none⟩ = some sl := ⟨(blk_cells h.blk 1).trans rfl, (blk_cells h.blk 2).trans rfl⟩
set_option maxHeartbeats 3200000 in
theorem Stamp_no (sb : Nat) (keep ver : Int) (sl pv : Value) (LS : List (Nat -> Int)) (v l z x y : Int) (w : World) (hs : Sto w sb keep ver sl pv LS) (he : keyErr l z x y = 0) (hv : ver < v) (h0 : 0 <= ver) :
    Calls Tryz.prog 38 #[.pointer (some ⟨sb, 0, none⟩), .int .i64 v, .agg #[.int .i64 l, .int .i64 z, .int .i64 x, .int .i64 y]] w fun e w' => e = .returned (.tuple #[.int .i64 0, .int .i64 12]) /\ Below w.heap.size w w' := by
  have hg0 := heap_alloc_new w (.cells #[.int .i64 l, .int .i64 z, .int .i64 x, .int .i64 y] 39 (0, 0))
  have K := fun W => keyError_any l z x y W
  rw [he] at K
  have HS := hide (hs.on (below_one w (.cells #[.int .i64 l, .int .i64 z, .int .i64 x, .int .i64 y] 39)))
  clear hs he
  go_enter Tryz.func38, Tryz.ntmps38
  go_wp2_with fail
  refine (K _).mono ?_
  rintro e w1 ⟨rfl, hb1⟩
  obtain ⟨s1, s2⟩ := ((unhide HS).on hb1).cells
  have HB := hide ((below_one _ _).trans (hb1.mono (by simp)))
  have hv0 : ¬ v < 0 := by omega
  clear hb1 hg0 s2
  go_wp2_with fail
  go_ret2
  exact ⟨rfl, unhide HB⟩
set_option maxHeartbeats 6400000 in
theorem Stamp_any (sb : Nat) (keep ver : Int) (sl pv : Value) (LS : List (Nat -> Int)) (v l z x y : Int) (w : World) (hs : Sto w sb keep ver sl pv LS) (hl : LS.length <= 1000) (he : keyErr l z x y = 0) (hv : 0 <= v /\ v <= ver) :
    Calls Tryz.prog 38 #[.pointer (some ⟨sb, 0, none⟩), .int .i64 v, .agg #[.int .i64 l, .int .i64 z, .int .i64 x, .int .i64 y]] w fun e w' => e = .returned (.tuple #[.int .i64 (stp v l z x y LS LS.length), .int .i64 0]) /\ Below w.heap.size w w' := by
  have hg0 := heap_alloc_new w (.cells #[.int .i64 l, .int .i64 z, .int .i64 x, .int .i64 y] 39 (0, 0))
  have K := fun W => keyError_any l z x y W
  rw [he] at K
  have HS := hide (hs.on (below_one w (.cells #[.int .i64 l, .int .i64 z, .int .i64 x, .int .i64 y] 39)))
  clear hs he
  go_enter Tryz.func38, Tryz.ntmps38
  go_wp2_with fail
  refine (K _).mono ?_
  rintro e w1 ⟨rfl, hb1⟩
  have hs1 := (unhide HS).on hb1
  have hg1 := blk_on hg0 hb1
  obtain ⟨s1, s2⟩ := hs1.cells
  obtain ⟨oa, cap, rfl, _, hc⟩ := hs1.own.at (by unfold maxLen; omega)
  have HC := hide hc
  have HB := hide ((below_one _ _).trans (hb1.mono (by simp)))
  have hlt := hs1.lt
  have h1 : ¬ v < 0 := by omega
  have h2 : ¬ ver < v := by omega
  clear hb1 hg0 hs1 hc HS
  go_wp2_with fail
  go_loopw [9, 10, 11] (fun st i _ wr => ∃ (k : Nat) (s : Int), k <= LS.length /\ i = .int .i64 k /\ st = .int .i64 s /\ Hid (s = stp v l z x y LS k) /\ Below w1.heap.size w1 wr) (fun _ i _ _ => LS.length - (intOf i).toNat)
  case atStart => exact ⟨0, 0, by omega, rfl, rfl, hide rfl, Below.refl _ _⟩
  case round =>
    obtain ⟨k, s, hk, rfl, rfl, hst, hb⟩ := hrel
    have r2 := (hb.cell (p := ⟨sb, 2, none⟩) hlt).trans s2
    have hgr := blk_on hg1 hb
    have HBr := hide hb
    clear s1 s2
    by_cases hlk : k < LS.length
    . have hkn : (k : Int) < LS.length := by omega
      obtain ⟨b, off, rfl, hbl, hc0⟩ := unhide HC (by omega)
      have hrgW : ∀ W, Below w1.heap.size w1 W -> W.rangeAt b (off + k * 26) (cc 26 (gf LS k)).toList := fun W h => cs_rng (fun i hi j hj => (h.cell (p := ⟨b, off + i * 26 + j, none⟩) hbl).trans (hc0 i hi j hj)) hlk
      have hrg := hrgW wr hb
      have HRG := hide hrgW
      clear hc0 hb hrgW
      go_wp2_with (refine ldm80 rfl _ rfl b (off + k * 26) rfl (gf LS k) hrg ?_)
      refine (lastChange_any (gf LS k) v _).mono ?_
      rintro e w3 ⟨rfl, hb3⟩
      obtain ⟨C, hC⟩ : ∃ C, lc v (gf LS k) = C := ⟨_, rfl⟩
      rw [hC]
      have hb4 := (unhide HBr).trans (hb3.mono (unhide HBr).size)
      have r3 := (hb4.cell (p := ⟨sb, 2, none⟩) hlt).trans (show w1.cell? ⟨sb, 2, none⟩ = _ from ((unhide HBr).cell (p := ⟨sb, 2, none⟩) hlt).symm.trans r2)
      have hg3 := blk_on hgr hb3
      have HB4 := hide hb4
      have hl3 : sb < w3.heap.size := Nat.lt_of_lt_of_le hlt hb4.size
      clear hb3 hgr r2 hrg
      by_cases hlt2 : s < C
      . have TT := fun W => Touches_any (gf LS k) l z x y W
        cases ht : Tch (gf LS k) l z x y with
        | false =>
          rw [ht] at TT
          clear hb4
          go_wp2
          refine region_bq (by kernel_rfl) (by kernel_rfl) ?_
          refine q_move rfl _ rfl (.int .i64 C) rfl ?_
          simp only [Act.put, qA, qB, qC]
          refine q_move rfl _ rfl (.int .i64 s) rfl ?_
          simp only [Act.put, qA, qB, qC]
          refine q_val rfl (.bool true) (fun _ _ => by simp [go_sem, hlt2]) ?_
          simp only [Act.put, qA, qB, qC]
          refine q_move rfl _ rfl (.bool true) rfl ?_
          simp only [Act.put, qA, qB, qC]
          refine q_move (by kernel_rfl) _ rfl (.pointer (some ⟨sb, 0, none⟩)) rfl ?_
          simp only [Act.put, qA, qB, qC]
          refine q_val (by kernel_rfl) (.pointer (some ⟨sb, 0, none⟩)) (fun _ _ => by simp [go_sem]) ?_
          simp only [Act.put, qA, qB, qC]
          refine q_val (by kernel_rfl) (.pointer (some ⟨sb, 2, none⟩)) (fun _ _ => by simp [go_sem]) ?_
          simp only [Act.put, qA, qB, qC]
          refine q_val (by kernel_rfl) (.slice (some ⟨b, off, none⟩) LS.length cap) (fun w' h => by simp [go_sem, (h.cell (p := ⟨sb, 2, none⟩) hl3).trans r3]) ?_
          simp only [Act.put, qA, qB, qC]
          refine q_move (by kernel_rfl) _ rfl (.int .i64 k) rfl ?_
          simp only [Act.put, qA, qB, qC]
          refine q_val (by kernel_rfl) (.pointer (some ⟨b, off + k * 26, none⟩)) (fun _ _ => by simp [go_sem, hkn]) ?_
          simp only [Act.put, qA, qB, qC]
          refine q_val (by kernel_rfl) (.pointer (some ⟨b, off + k * 26, none⟩)) (fun _ _ => by simp [go_sem]) ?_
          simp only [Act.put, qA, qB, qC]
          refine q_load (by kernel_rfl) 66 _ rfl b (off + k * 26) rfl (fc (gf LS k)) _ Tryz.underlying66 rfl (szf _) (fun w' h => life_F (unhide HRG w' ((unhide HB4).trans (h.mono (unhide HB4).size)))) ?_
          simp only [Act.put, qA, qB, qC]
          refine q_load (by kernel_rfl) 39 _ rfl w.heap.size 0 rfl #[.int .i64 l, .int .i64 z, .int .i64 x, .int .i64 y] _ Tryz.underlying39 rfl (sz28 l z x y) (fun w' h => rng_on hg3 h) ?_
          simp only [Act.put, qA, qB, qC]
          refine q_call (by kernel_rfl) 77 #[.agg (fc (gf LS k)), .agg #[.int .i64 l, .int .i64 z, .int .i64 x, .int .i64 y]] (fun _ => by simp [go_sem]) _ TT ?_
          simp only [Act.put, qA, qB, qC]
          refine q_val rfl (.bool false) (fun _ _ => by simp [go_sem]) ?_
          simp only [Act.put, qA, qB, qC]
          refine wpQuiet_nil ?_
          intro w6 hw6
          have HB6 := hide ((unhide HB4).trans (hw6.mono (unhide HB4).size))
          clear hw6 TT r3 hg3
          have hst' : Hid (s = stp v l z x y LS (k + 1)) := by show s = _; rw [stp_no (by rw [ht, Bool.and_false])]; exact unhide hst
          go_wp2_with fail
          go_roundw
          case rel => exact ⟨k + 1, s, by omega, by go_num, rfl, hst', unhide HB6⟩
          case measure => simp [intOf]; omega
        | true =>
          rw [ht] at TT
          clear hb4
          go_wp2
          refine region_bq (by kernel_rfl) (by kernel_rfl) ?_
          refine q_move rfl _ rfl (.int .i64 C) rfl ?_
          simp only [Act.put, qA, qB, qC]
          refine q_move rfl _ rfl (.int .i64 s) rfl ?_
          simp only [Act.put, qA, qB, qC]
          refine q_val rfl (.bool true) (fun _ _ => by simp [go_sem, hlt2]) ?_
          simp only [Act.put, qA, qB, qC]
          refine q_move rfl _ rfl (.bool true) rfl ?_
          simp only [Act.put, qA, qB, qC]
          refine q_move (by kernel_rfl) _ rfl (.pointer (some ⟨sb, 0, none⟩)) rfl ?_
          simp only [Act.put, qA, qB, qC]
          refine q_val (by kernel_rfl) (.pointer (some ⟨sb, 0, none⟩)) (fun _ _ => by simp [go_sem]) ?_
          simp only [Act.put, qA, qB, qC]
          refine q_val (by kernel_rfl) (.pointer (some ⟨sb, 2, none⟩)) (fun _ _ => by simp [go_sem]) ?_
          simp only [Act.put, qA, qB, qC]
          refine q_val (by kernel_rfl) (.slice (some ⟨b, off, none⟩) LS.length cap) (fun w' h => by simp [go_sem, (h.cell (p := ⟨sb, 2, none⟩) hl3).trans r3]) ?_
          simp only [Act.put, qA, qB, qC]
          refine q_move (by kernel_rfl) _ rfl (.int .i64 k) rfl ?_
          simp only [Act.put, qA, qB, qC]
          refine q_val (by kernel_rfl) (.pointer (some ⟨b, off + k * 26, none⟩)) (fun _ _ => by simp [go_sem, hkn]) ?_
          simp only [Act.put, qA, qB, qC]
          refine q_val (by kernel_rfl) (.pointer (some ⟨b, off + k * 26, none⟩)) (fun _ _ => by simp [go_sem]) ?_
          simp only [Act.put, qA, qB, qC]
          refine q_load (by kernel_rfl) 66 _ rfl b (off + k * 26) rfl (fc (gf LS k)) _ Tryz.underlying66 rfl (szf _) (fun w' h => life_F (unhide HRG w' ((unhide HB4).trans (h.mono (unhide HB4).size)))) ?_
          simp only [Act.put, qA, qB, qC]
          refine q_load (by kernel_rfl) 39 _ rfl w.heap.size 0 rfl #[.int .i64 l, .int .i64 z, .int .i64 x, .int .i64 y] _ Tryz.underlying39 rfl (sz28 l z x y) (fun w' h => rng_on hg3 h) ?_
          simp only [Act.put, qA, qB, qC]
          refine q_call (by kernel_rfl) 77 #[.agg (fc (gf LS k)), .agg #[.int .i64 l, .int .i64 z, .int .i64 x, .int .i64 y]] (fun _ => by simp [go_sem]) _ TT ?_
          simp only [Act.put, qA, qB, qC]
          refine q_val rfl (.bool true) (fun _ _ => by simp [go_sem]) ?_
          simp only [Act.put, qA, qB, qC]
          refine wpQuiet_nil ?_
          intro w6 hw6
          have HB6 := hide ((unhide HB4).trans (hw6.mono (unhide HB4).size))
          clear hw6 TT r3 hg3
          have hst' : Hid (C = stp v l z x y LS (k + 1)) := by show C = _; rw [stp_yes (by rw [ht, Bool.and_true, <- unhide hst, hC]; exact decide_eq_true hlt2), hC]
          go_wp2_with fail
          go_roundw
          case rel => exact ⟨k + 1, C, by omega, by go_num, rfl, hst', unhide HB6⟩
          case measure => simp [intOf]; omega
      . clear hb4
        go_wp2
        refine region_bq (by kernel_rfl) (by kernel_rfl) ?_
        refine q_move rfl _ rfl (.int .i64 C) rfl ?_
        simp only [Act.put, qA, qB, qC]
        refine q_move rfl _ rfl (.int .i64 s) rfl ?_
        simp only [Act.put, qA, qB, qC]
        refine q_val rfl (.bool false) (fun _ _ => by simp [go_sem]; omega) ?_
        simp only [Act.put, qA, qB, qC]
        refine q_move rfl _ rfl (.bool false) rfl ?_
        simp only [Act.put, qA, qB, qC]
        go_big_quiet_skip
        go_big_quiet_skip
        go_big_quiet_skip
        go_big_quiet_skip
        go_big_quiet_skip
        go_big_quiet_skip
        go_big_quiet_skip
        go_big_quiet_skip
        go_big_quiet_skip
        go_big_quiet_skip
        refine q_val rfl (.bool false) (fun _ _ => by simp [go_sem]) ?_
        simp only [Act.put, qA, qB, qC]
        refine wpQuiet_nil ?_
        intro w6 hw6
        have HB6 := hide ((unhide HB4).trans (hw6.mono (unhide HB4).size))
        clear hw6 r3 hg3
        have hst' : Hid (s = stp v l z x y LS (k + 1)) := by show s = _; rw [stp_no (by rw [<- unhide hst, hC, decide_eq_false (by omega), Bool.false_and])]; exact unhide hst
        go_wp2_with fail
        go_roundw
        case rel => exact ⟨k + 1, s, by omega, by go_num, rfl, hst', unhide HB6⟩
        case measure => simp [intOf]; omega
    . have hkn : k = LS.length := by omega
      subst hkn
      have HF := hide ((unhide HB).trans (hb.mono (unhide HB).size))
      clear hb
      go_wp2_with fail
      go_ret2
      exact ⟨by rw [unhide hst]; rfl, unhide HF⟩
def SF (a b : Nat -> Int) : Prop := ∀ k, k < 24 -> a k = b k
theorem SF.symm {a b : Nat -> Int} (h : SF a b) : SF b a := fun k hk => (h k hk).symm
theorem SF.trans {a b c : Nat -> Int} (h : SF a b) (h' : SF b c) : SF a c := fun k hk => (h k hk).trans (h' k hk)
theorem sf_upd (g : Nat -> Int) (x : Int) : SF (upd g 25 x) g := fun k hk => by simp only [upd]; rw [if_neg (by omega)]
theorem sf_life (f : Nat -> Int) (ver : Int) : SF (lifeOf f ver) f := fun k hk => by simp only [lifeOf]; rw [if_pos hk]
theorem right_ext {f g : Nat -> Int} (h : SF f g) : right f = right g := by
  have hp : ∀ i, i < 8 -> pt f i = pt g i := fun i hi => by simp only [pt, h (8 + i) (by omega), h (16 + i) (by omega), h 7 (by omega)]
  have hps : pts f 8 = pts g 8 := by
    rw [Bool.eq_iff_iff]
    simp only [pts, List.all_eq_true, List.mem_range]
    exact ⟨fun H i hi => by rw [<- hp i hi]; exact H i hi, fun H i hi => by rw [hp i hi]; exact H i hi⟩
  simp only [right, traits, form, hps, h 0 (by omega), h 1 (by omega), h 2 (by omega), h 3 (by omega), h 4 (by omega), h 5 (by omega), h 6 (by omega), h 7 (by omega)]
theorem axT_ext {a b : Nat -> Int} {n : Nat} {r lo hi : Int} (h : ∀ i, i < n -> a i = b i) : axT a n r lo hi = axT b n r lo hi := by
  have h1 : apB a r lo n = apB b r lo n := by
    rw [Bool.eq_iff_iff]
    simp only [apB, List.all_eq_true, List.mem_range]
    exact ⟨fun H i hi => by rw [<- h i hi]; exact H i hi, fun H i hi => by rw [h i hi]; exact H i hi⟩
  have h2 : apA a r hi n = apA b r hi n := by
    rw [Bool.eq_iff_iff]
    simp only [apA, List.all_eq_true, List.mem_range]
    exact ⟨fun H i hi => by rw [<- h i hi]; exact H i hi, fun H i hi => by rw [h i hi]; exact H i hi⟩
  rw [axT, axT, h1, h2]
theorem Tch_ext {f g : Nat -> Int} (h : SF f g) (l z x y : Int) : Tch f l z x y = Tch g l z x y := by
  unfold Tch
  rw [right_ext h]
  cases hr : right g with
  | false => rfl
  | true =>
    have h7 := n_in (right_out hr)
    have hs : shw f l z = shw g l z := by simp only [shw, h 1 (by omega), h 5 (by omega)]
    rw [hs, h 7 (by omega), h 6 (by omega), axT_ext (a := fun i => f (8 + i)) (b := fun i => g (8 + i)) (fun i hi => h (8 + i) (by omega)), axT_ext (a := fun i => f (16 + i)) (b := fun i => g (16 + i)) (fun i hi => h (16 + i) (by omega))]
theorem cntL_congr {A B : List (Nat -> Int)} : ∀ k, (∀ i, i < k -> (gf A i 25 = 0 ↔ gf B i 25 = 0)) -> cntL A k = cntL B k
  | 0, _ => rfl
  | k + 1, h => by
    rw [cntL, cntL, cntL_congr k fun i hi => h i (by omega)]
    by_cases c : gf A k 25 = 0
    . rw [if_pos c, if_pos ((h k (by omega)).1 c)]
    . rw [if_neg c, if_neg (fun h' => c ((h k (by omega)).2 h'))]
theorem cntL_less {A B : List (Nat -> Int)} (j : Nat) (hj : gf A j 25 = 0) (hj' : gf B j 25 ≠ 0) : ∀ k, j < k -> (∀ i, i < k -> i ≠ j -> (gf A i 25 = 0 ↔ gf B i 25 = 0)) -> cntL A k = cntL B k + 1
  | 0, h, _ => by omega
  | k + 1, h, hi => by
    by_cases e : j = k
    . subst e
      rw [cntL, cntL, if_pos hj, if_neg hj', cntL_congr j fun i h' => hi i (by omega) (by omega)]
    . rw [cntL, cntL, cntL_less j hj hj' k (by omega) fun i h' => hi i (by omega)]
      by_cases c : gf A k 25 = 0
      . rw [if_pos c, if_pos ((hi k (by omega) (fun q => e q.symm)).1 c)]
      . rw [if_neg c, if_neg (fun h' => c ((hi k (by omega) (fun q => e q.symm)).2 h'))]
theorem cnt_end {LS : List (Nat -> Int)} {i : Nat} (hi : i < LS.length) (h : gf LS i 25 = 0) {ver : Int} (hv : ver ≠ 0) : cntL LS LS.length = cntL (setL LS i 25 ver) (setL LS i 25 ver).length + 1 := by
  rw [setL_len]
  refine cntL_less i h ?_ _ hi fun k hk hne => ?_
  . rw [setL_gf _ _ _ _ _ hi, if_pos rfl]; simpa [upd] using hv
  . rw [setL_gf _ _ _ _ _ hk, if_neg hne]
theorem cnt_new (LS : List (Nat -> Int)) (f : Nat -> Int) (ver : Int) : cntL (LS ++ [lifeOf f ver]) (LS ++ [lifeOf f ver]).length = cntL LS LS.length + 1 := by
  rw [List.length_append, List.length_singleton, cntL, gf_last, if_pos (by simp [lifeOf])]
  have := cntL_congr (A := LS ++ [lifeOf f ver]) (B := LS) LS.length fun i hi => by rw [gf_left hi]
  omega
structure Rel (LS FL : List (Nat -> Int)) : Prop where
  cnt : cntL LS LS.length = FL.length
  fwd : ∀ i, i < LS.length -> gf LS i 25 = 0 -> ∃ j, j < FL.length /\ SF (gf LS i) (gf FL j)
  fro : ∀ j, j < FL.length -> ∃ i, i < LS.length /\ gf LS i 25 = 0 /\ SF (gf LS i) (gf FL j)
  rt : ∀ j, j < FL.length -> Rt (gf FL j)
  dis : ∀ j j', j < FL.length -> j' < FL.length -> gf FL j 0 = gf FL j' 0 -> j = j'
  one : ∀ i i', i < LS.length -> i' < LS.length -> gf LS i 25 = 0 -> gf LS i' 25 = 0 -> gf LS i 0 = gf LS i' 0 -> i = i'
theorem rel_nil : Rel [] [] := ⟨rfl, fun i hi => by simp at hi, fun i hi => by simp at hi, fun i hi => by simp at hi, fun i j hi => by simp at hi, fun i j hi => by simp at hi⟩
theorem Rel.fst {LS FL : List (Nat -> Int)} (h : Rel LS FL) {id : Int} {i : Nat} (hf : Fst LS id i) : ∃ j, j < FL.length /\ gf FL j 0 = id /\ SF (gf LS i) (gf FL j) := by
  obtain ⟨j, hj, hs⟩ := h.fwd i hf.1 hf.2.1.1
  exact ⟨j, hj, (hs 0 (by omega)).symm.trans hf.2.1.2, hs⟩
theorem Rel.non {LS FL : List (Nat -> Int)} (h : Rel LS FL) {id : Int} (hf : Non LS id) : No FL id := fun j hj e => by
  obtain ⟨i, hi, h25, hs⟩ := h.fro j hj
  exact hf i hi ⟨h25, (hs 0 (by omega)).trans e⟩
structure Gone (FL : List (Nat -> Int)) (id : Int) (FL' : List (Nat -> Int)) : Prop where
  len : FL.length = FL'.length + 1
  sub : ∀ j, j < FL'.length -> ∃ a, a < FL.length /\ gf FL a = gf FL' j /\ gf FL a 0 ≠ id
  sup : ∀ a, a < FL.length -> gf FL a 0 ≠ id -> ∃ j, j < FL'.length /\ gf FL' j = gf FL a
  dis : ∀ j j', j < FL'.length -> j' < FL'.length -> gf FL' j 0 = gf FL' j' 0 -> j = j'
theorem Rel.gone {LS FL FL' : List (Nat -> Int)} (h : Rel LS FL) {id : Int} {i : Nat} (hf : Fst LS id i) {ver : Int} (hv : ver ≠ 0) (hg : Gone FL id FL') : Rel (setL LS i 25 ver) FL' := by
  have hc := cnt_end hf.1 hf.2.1.1 hv
  have gs : ∀ k, k < LS.length -> gf (setL LS i 25 ver) k 25 = 0 -> k ≠ i /\ gf (setL LS i 25 ver) k = gf LS k /\ gf LS k 25 = 0 := by
    intro k hk h0
    rw [setL_gf _ _ _ _ _ hk] at h0
    by_cases e : k = i
    . rw [if_pos e] at h0; simp [upd] at h0; exact absurd h0 hv
    . rw [if_neg e] at h0
      exact ⟨e, by rw [setL_gf _ _ _ _ _ hk, if_neg e], h0⟩
  refine ⟨?_, ?_, ?_, ?_, hg.dis, ?_⟩
  . have := h.cnt; have := hg.len; omega
  . intro k hk h0
    rw [setL_len] at hk
    obtain ⟨e1, e2, e3⟩ := gs k hk h0
    obtain ⟨a, ha, hs⟩ := h.fwd k hk e3
    obtain ⟨j, hj, e⟩ := hg.sup a ha (fun e => e1 (h.one k i hk hf.1 e3 hf.2.1.1 (((hs 0 (by omega)).trans e).trans hf.2.1.2.symm)))
    exact ⟨j, hj, by rw [e2, e]; exact hs⟩
  . intro j hj
    obtain ⟨a, ha, e, hne⟩ := hg.sub j hj
    obtain ⟨k, hk, h25, hs⟩ := h.fro a ha
    have hki : k ≠ i := fun q => hne (by rw [<- hf.2.1.2, <- q]; exact (hs 0 (by omega)).symm)
    refine ⟨k, by rw [setL_len]; exact hk, ?_, ?_⟩
    . rw [setL_gf _ _ _ _ _ hk, if_neg hki]; exact h25
    . rw [setL_gf _ _ _ _ _ hk, if_neg hki, <- e]; exact hs
  . intro j hj
    obtain ⟨a, ha, e, _⟩ := hg.sub j hj
    rw [<- e]; exact h.rt a ha
  . intro k k' hk hk' h0 h0' e
    rw [setL_len] at hk hk'
    obtain ⟨_, e2, e3⟩ := gs k hk h0
    obtain ⟨_, e2', e3'⟩ := gs k' hk' h0'
    rw [e2, e2'] at e
    exact h.one k k' hk hk' e3 e3' e
theorem Rel.join {LS FL : List (Nat -> Int)} (h : Rel LS FL) {f : Nat -> Int} (hR : Rt f) (hn : No FL (f 0)) {ver : Int} : Rel (LS ++ [lifeOf f ver]) (FL ++ [f]) := by
  have hx : ∀ i, i < (LS ++ [lifeOf f ver]).length -> (i < LS.length /\ gf (LS ++ [lifeOf f ver]) i = gf LS i) \/ (i = LS.length /\ gf (LS ++ [lifeOf f ver]) i = lifeOf f ver) := by
    intro i hi
    by_cases c : i < LS.length
    . exact Or.inl ⟨c, gf_left c⟩
    . have : i = LS.length := by simp at hi; omega
      subst this; exact Or.inr ⟨rfl, gf_last _ _⟩
  have hy : ∀ i, i < (FL ++ [f]).length -> (i < FL.length /\ gf (FL ++ [f]) i = gf FL i) \/ (i = FL.length /\ gf (FL ++ [f]) i = f) := by
    intro i hi
    by_cases c : i < FL.length
    . exact Or.inl ⟨c, gf_left c⟩
    . have : i = FL.length := by simp at hi; omega
      subst this; exact Or.inr ⟨rfl, gf_last _ _⟩
  have hid : ∀ i, i < LS.length -> gf LS i 25 = 0 -> gf LS i 0 ≠ f 0 := fun i hi h0 e => by
    obtain ⟨j, hj, hs⟩ := h.fwd i hi h0
    exact hn j hj ((hs 0 (by omega)).symm.trans e)
  refine ⟨?_, ?_, ?_, ?_, ?_, ?_⟩
  . rw [cnt_new, h.cnt]; simp
  . intro i hi h0
    rcases hx i hi with ⟨c, e⟩ | ⟨c, e⟩
    . rw [e] at h0
      obtain ⟨j, hj, hs⟩ := h.fwd i c h0
      exact ⟨j, by simp; omega, by rw [e, gf_left hj]; exact hs⟩
    . exact ⟨FL.length, by simp, by rw [e, gf_last]; exact sf_life f ver⟩
  . intro j hj
    rcases hy j hj with ⟨c, e⟩ | ⟨c, e⟩
    . obtain ⟨i, hi, h25, hs⟩ := h.fro j c
      exact ⟨i, by simp; omega, by rw [gf_left hi]; exact h25, by rw [gf_left hi, e]; exact hs⟩
    . exact ⟨LS.length, by simp, by rw [gf_last]; simp [lifeOf], by rw [gf_last, e]; exact sf_life f ver⟩
  . intro j hj
    rcases hy j hj with ⟨c, e⟩ | ⟨c, e⟩
    . rw [e]; exact h.rt j c
    . rw [e]; exact hR
  . intro j j' hj hj' e
    rcases hy j hj with ⟨c, e1⟩ | ⟨c, e1⟩ <;> rcases hy j' hj' with ⟨c', e1'⟩ | ⟨c', e1'⟩ <;> rw [e1, e1'] at e
    . exact h.dis j j' c c' e
    . exact absurd e (hn j c)
    . exact absurd e.symm (hn j' c')
    . omega
  . intro i i' hi hi' h0 h0' e
    rcases hx i hi with ⟨c, e1⟩ | ⟨c, e1⟩ <;> rcases hx i' hi' with ⟨c', e1'⟩ | ⟨c', e1'⟩ <;> rw [e1, e1'] at e <;> (rw [e1] at h0) <;> (rw [e1'] at h0')
    . exact h.one i i' c c' h0 h0' e
    . exact absurd (e.trans (sf_life f ver 0 (by omega))) (hid i c h0)
    . exact absurd (e.symm.trans (sf_life f ver 0 (by omega))) (hid i' c' h0')
    . omega
section
variable {v l z x y : Int} {LS : List (Nat -> Int)}
theorem stp_nn (v l z x y : Int) (LS : List (Nat -> Int)) : ∀ k, 0 <= stp v l z x y LS k
  | 0 => Int.le_refl _
  | k + 1 => by
    have ih := stp_nn v l z x y LS k
    cases h : (decide (stp v l z x y LS k < lc v (gf LS k)) && Tch (gf LS k) l z x y) with
    | false => rw [stp_no h]; exact ih
    | true => rw [stp_yes h]; rw [Bool.and_eq_true, decide_eq_true_eq] at h; omega
theorem stp_le {M : Int} (hM : 0 <= M) : ∀ k, (∀ i, i < k -> lc v (gf LS i) <= M) -> stp v l z x y LS k <= M
  | 0, _ => hM
  | k + 1, hk => by
    have ih := stp_le hM k fun i hi => hk i (by omega)
    have := hk k (by omega)
    cases h : (decide (stp v l z x y LS k < lc v (gf LS k)) && Tch (gf LS k) l z x y) with
    | false => rw [stp_no h]; exact ih
    | true => rw [stp_yes h]; exact this
theorem stp_ge : ∀ k i, i < k -> Tch (gf LS i) l z x y = true -> lc v (gf LS i) <= stp v l z x y LS k
  | 0, i, h, _ => by omega
  | k + 1, i, hi, ht => by
    cases h : (decide (stp v l z x y LS k < lc v (gf LS k)) && Tch (gf LS k) l z x y) with
    | false =>
      rw [stp_no h]
      by_cases e : i = k
      . subst e
        rw [ht, Bool.and_true, decide_eq_false_iff_not] at h
        omega
      . exact stp_ge k i (by omega) ht
    | true =>
      rw [stp_yes h]
      by_cases e : i = k
      . subst e; exact Int.le_refl _
      . have := stp_ge k i (by omega) ht
        rw [Bool.and_eq_true, decide_eq_true_eq] at h
        omega
theorem stp_congr {v' : Int} {LS' : List (Nat -> Int)} : ∀ k, (∀ i, i < k -> Tch (gf LS' i) l z x y = Tch (gf LS i) l z x y /\ (Tch (gf LS i) l z x y = true -> lc v' (gf LS' i) = lc v (gf LS i))) -> stp v' l z x y LS' k = stp v l z x y LS k
  | 0, _ => rfl
  | k + 1, h => by
    have ih := stp_congr k fun i hi => h i (by omega)
    obtain ⟨h1, h2⟩ := h k (by omega)
    rw [stp, stp, ih, h1]
    cases ht : Tch (gf LS k) l z x y with
    | false => rw [Bool.and_false, Bool.and_false]; rfl
    | true => rw [h2 ht]
end
def Bnd (LS : List (Nat -> Int)) (n : Int) : Prop := ∀ i, i < LS.length -> gf LS i 24 <= n /\ gf LS i 25 <= n
theorem lc_le {v : Int} {g : Nat -> Int} (h : 0 <= v) : lc v g <= v := by unfold lc; split <;> (try split) <;> omega
theorem lc_up {n : Int} {g : Nat -> Int} (h : g 24 <= n /\ g 25 <= n) : lc (n + 1) g = lc n g := by
  unfold lc
  by_cases c : g 25 = 0
  . rw [if_neg (c := g 25 ≠ 0 /\ g 25 <= n + 1) (fun hh => hh.1 c), if_neg (c := g 25 ≠ 0 /\ g 25 <= n) (fun hh => hh.1 c), if_pos (c := g 24 <= n + 1) (by omega), if_pos (c := g 24 <= n) (by omega)]
  . rw [if_pos ⟨c, by omega⟩, if_pos ⟨c, by omega⟩]
theorem lc_life_old {v n : Int} {f : Nat -> Int} (h : v <= n) : lc v (lifeOf f (n + 1)) = 0 := by
  unfold lc lifeOf
  simp only [show ¬ (25 : Nat) < 24 by omega, show ¬ (24 : Nat) < 24 by omega, if_false, if_true, show ¬ (25 : Nat) = 24 by omega]
  rw [if_neg (by omega), if_neg (by omega)]
theorem lc_life_new {n : Int} {f : Nat -> Int} : lc (n + 1) (lifeOf f (n + 1)) = n + 1 := by
  unfold lc lifeOf
  simp only [show ¬ (25 : Nat) < 24 by omega, show ¬ (24 : Nat) < 24 by omega, if_false, if_true, show ¬ (25 : Nat) = 24 by omega]
  rw [if_neg (by omega), if_pos (by omega)]
theorem lc_end_old {v n : Int} {g : Nat -> Int} (h : v <= n) (h0 : g 25 = 0) : lc v (upd g 25 (n + 1)) = lc v g := by
  unfold lc upd
  simp only [if_true, show ¬ (24 : Nat) = 25 by omega, if_false]
  rw [if_neg (by omega), if_neg (c := g 25 ≠ 0 /\ g 25 <= v) (by omega)]
theorem lc_end_new {n : Int} {g : Nat -> Int} (hn : 0 <= n) : lc (n + 1) (upd g 25 (n + 1)) = n + 1 := by
  unfold lc upd
  simp only [if_true]
  rw [if_pos (by omega)]
section
variable {n l z x y : Int} {LS : List (Nat -> Int)}
theorem stp_end_old {v : Int} {i : Nat} (hi : i < LS.length) (h0 : gf LS i 25 = 0) (hv : v <= n) : stp v l z x y (setL LS i 25 (n + 1)) (setL LS i 25 (n + 1)).length = stp v l z x y LS LS.length := by
  rw [setL_len]
  refine stp_congr _ fun k hk => ?_
  rw [setL_gf _ _ _ _ _ hk]
  by_cases e : k = i
  . subst e; rw [if_pos rfl]; exact ⟨Tch_ext (sf_upd _ _) _ _ _ _, fun _ => lc_end_old hv h0⟩
  . rw [if_neg e]; exact ⟨rfl, fun _ => rfl⟩
theorem stp_end_new {i : Nat} (hi : i < LS.length) (hn : 0 <= n) : stp (n + 1) l z x y (setL LS i 25 (n + 1)) (setL LS i 25 (n + 1)).length = bif Tch (gf LS i) l z x y then n + 1 else stp (n + 1) l z x y LS LS.length := by
  cases ht : Tch (gf LS i) l z x y with
  | true =>
    have hg : gf (setL LS i 25 (n + 1)) i = upd (gf LS i) 25 (n + 1) := by rw [setL_gf _ _ _ _ _ hi, if_pos rfl]
    have h1 := stp_ge (v := n + 1) (LS := setL LS i 25 (n + 1)) (l := l) (z := z) (x := x) (y := y) (setL LS i 25 (n + 1)).length i (by rw [setL_len]; exact hi) (by rw [hg, Tch_ext (sf_upd _ _)]; exact ht)
    rw [hg, lc_end_new hn] at h1
    have h2 := stp_le (v := n + 1) (LS := setL LS i 25 (n + 1)) (l := l) (z := z) (x := x) (y := y) (M := n + 1) (by omega) (setL LS i 25 (n + 1)).length fun k _ => lc_le (by omega)
    exact Int.le_antisymm h2 h1
  | false =>
    rw [setL_len]
    refine stp_congr _ fun k hk => ?_
    rw [setL_gf _ _ _ _ _ hk]
    by_cases e : k = i
    . subst e; rw [if_pos rfl]; exact ⟨Tch_ext (sf_upd _ _) _ _ _ _, fun q => by rw [ht] at q; cases q⟩
    . rw [if_neg e]; exact ⟨rfl, fun _ => rfl⟩
theorem stp_app {v : Int} (f : Nat -> Int) (ver : Int) : stp v l z x y (LS ++ [lifeOf f ver]) LS.length = stp v l z x y LS LS.length :=
  stp_congr _ fun k hk => by rw [gf_left hk]; exact ⟨rfl, fun _ => rfl⟩
theorem stp_join_old {v : Int} (f : Nat -> Int) (hv : v <= n) : stp v l z x y (LS ++ [lifeOf f (n + 1)]) (LS ++ [lifeOf f (n + 1)]).length = stp v l z x y LS LS.length := by
  have := stp_nn v l z x y LS LS.length
  rw [List.length_append, List.length_singleton, stp_no, stp_app]
  rw [stp_app, gf_last, lc_life_old hv, decide_eq_false (by omega), Bool.false_and]
theorem stp_join_new (f : Nat -> Int) (hn : 0 <= n) : stp (n + 1) l z x y (LS ++ [lifeOf f (n + 1)]) (LS ++ [lifeOf f (n + 1)]).length = bif Tch f l z x y then n + 1 else stp (n + 1) l z x y LS LS.length := by
  have hle := stp_le (v := n + 1) (LS := LS) (l := l) (z := z) (x := x) (y := y) (M := n + 1) (by omega) LS.length fun k _ => lc_le (by omega)
  rw [List.length_append, List.length_singleton]
  cases ht : Tch f l z x y with
  | false => rw [stp_no, stp_app]; · rfl
             rw [gf_last, Tch_ext (sf_life f (n + 1)), ht, Bool.and_false]
  | true =>
    by_cases c : stp (n + 1) l z x y LS LS.length < n + 1
    . rw [stp_yes, gf_last, lc_life_new]; · rfl
      rw [stp_app, gf_last, Tch_ext (sf_life f (n + 1)), ht, Bool.and_true, lc_life_new]
      exact decide_eq_true c
    . rw [stp_no, stp_app]
      . show _ = n + 1; omega
      . rw [stp_app, gf_last, Tch_ext (sf_life f (n + 1)), ht, Bool.and_true, lc_life_new]
        exact decide_eq_false c
theorem stp_up (hB : Bnd LS n) : stp (n + 1) l z x y LS LS.length = stp n l z x y LS LS.length :=
  stp_congr _ fun k hk => ⟨rfl, fun _ => lc_up (hB k hk)⟩
end
theorem bnd_join {LS : List (Nat -> Int)} {n m : Int} (hB : Bnd LS n) (hm : 0 <= m) (hnm : n <= m) (f : Nat -> Int) : Bnd (LS ++ [lifeOf f m]) m := by
  intro k hk
  by_cases c : k < LS.length
  . have := hB k c; rw [gf_left c]; omega
  . have : k = LS.length := by simp at hk; omega
    subst this; rw [gf_last]; simp [lifeOf]; exact hm
theorem q_callC {ops : Array Oper} {w : World} {Q : Act -> Prop} {a : Act} {o : Oper} {rest : List Oper} (hw : Region.wanted o (yielded ops a.tmps) = true) (f : FuncId) (args : Array Value) (h0 : ∀ w', (execOp a.eval o).run Tryz.prog w' = .ok (.enter f args) w') (v : Value)
    (hc : ∀ w', Below w.heap.size w w' -> Calls Tryz.prog f args w' fun e w'' => e = .returned v /\ Below w'.heap.size w' w'') (hk : wpQuiet Tryz.prog ops (Cq w) Q rest (a.put o.dst v)) :
    wpQuiet Tryz.prog ops (Cq w) Q (o :: rest) a :=
  BigFrame.wpQuiet_want hw fun _ hK => ⟨v, fun w' hw' => by
    unfold Oper.quietAt; rw [h0 w']
    exact ⟨rfl, (hc w' hw').mono fun e w'' h => ⟨h.1, Below.trans hw' (h.2.mono hw'.size)⟩⟩, hK _ hk⟩
theorem Tryz.info3 : (Tryz.prog.info? 3).map (fun i => (i.zero, i.size, i.bytes)) = some (some (.int .i64 0), 1, 8) := by kernel_rfl
theorem ap_int {ops : Array Oper} {rest : List Oper} {o : Oper} {a : Act} {Q : Exit -> Act -> World -> Prop} (hgd : o.guard = none) (s x : Operand)
    (ho : o.op = .call { callee := .builtin .append, args := #[s, x], argTypes := #[60, 60] })
    (W : World) (B : Nat) (v : Value) (l : List (Nat -> Int)) (b : Int) (hs : a.eval s = v) (hown : OwnC 3 1 W B v l) (hx : a.eval x = .slice (some ⟨W.heap.size, 0, none⟩) 1 1)
    (hlen : l.length <= 1000) (hB : B <= W.heap.size)
    (h : ∀ v' w', OwnC 3 1 w' B v' (l ++ [fun _ => b]) -> (W.alloc (.cells #[.int .i64 b] 3)).grownBy w' v.ownBlock -> (v'.ownBlock = v.ownBlock \/ ∀ g, v'.ownBlock = some g -> W.heap.size < g) -> wpList Tryz.prog ops Q rest (a.put o.dst v') w') :
    wpList Tryz.prog ops Q (o :: rest) a (W.alloc (.cells #[.int .i64 b] 3)) := by
  obtain ⟨i0, hi, hz0, hz1, hz2⟩ := info_parts Tryz.info3
  refine ap_own _ hgd s x 60 ho B 3 i0 (.int .i64 0) 1 8 Tryz.underlying60 hi hz0 hz1 hz2 rfl (by decide) v l.length (fl 1 l) hs (World.ownsRow.alloc hown _) ⟨W.heap.size, 0, none⟩ 1 [.int .i64 b] hx rfl ?_ ?_ ?_ ?_ ?_ ?_
  . intro j u hj
    rw [Addr.add_mid, Nat.zero_add, blk_cells (heap_alloc_new W (.cells #[.int .i64 b] 3 (0, 0)))]
    simpa using hj
  . intro u hu; simp at hu; subst hu; rfl
  . omega
  . omega
  . simp; omega
  . intro v' w' r1 r2 r3
    refine h v' w' ?_ r2 ?_
    . unfold OwnC
      rw [fl_snoc]
      simpa [cc] using r1
    . rcases r3 with r3 | r3
      . exact Or.inl r3
      . right
        intro g hg
        have := r3 g hg
        simp at this
        omega
def inV (v : Int) (g : Nat -> Int) : Bool := decide (g 24 <= v) && (decide (g 25 = 0) || decide (v < g 25))
set_option maxHeartbeats 1600000 in
theorem isIn_any (g : Nat -> Int) (v : Int) (w : World) :
    Calls Tryz.prog 119 #[.agg (cc 26 g), .int .i64 v] w fun e w' => e = .returned (.bool (inV v g)) /\ Below w.heap.size w w' := by
  have c25 := cc_at 26 g 25 (by decide)
  have c24 := cc_at 26 g 24 (by decide)
  have HB := hide (below_one w (.cells (cc 26 g) 147))
  obtain ⟨G, hG⟩ : ∃ G, g 25 = G := ⟨_, rfl⟩
  obtain ⟨C, hC⟩ : ∃ G, g 24 = G := ⟨_, rfl⟩
  have HL : Hid (inV v g = (decide (C <= v) && (decide (G = 0) || decide (v < G)))) := by show inV v g = _; rw [inV, hG, hC]
  rw [hG] at c25
  rw [hC] at c24
  clear hG hC
  by_cases h1 : C <= v
  . by_cases h2 : G = 0
    . subst h2
      go_enter Tryz.func119, Tryz.ntmps119
      go_wp2
      go_ret
      exact ⟨ret_bool (by rw [unhide HL, decide_eq_true h1]; rfl), unhide HB⟩
    . by_cases h3 : v < G
      . go_enter Tryz.func119, Tryz.ntmps119
        go_wp2
        go_ret
        exact ⟨ret_bool (by rw [unhide HL, decide_eq_true h1, decide_eq_true h3, Bool.or_true]; rfl), unhide HB⟩
      . go_enter Tryz.func119, Tryz.ntmps119
        go_wp2
        go_ret
        exact ⟨ret_bool (by rw [unhide HL, decide_eq_true h1, decide_eq_false h2, decide_eq_false (by omega)]; simp [h2]), unhide HB⟩
  . go_enter Tryz.func119, Tryz.ntmps119
    go_wp2
    go_ret
    exact ⟨ret_bool (by rw [unhide HL, decide_eq_false (by omega)]; rfl), unhide HB⟩
structure StP (w : World) (sb : Nat) (keep ver : Int) (sl pv : Value) (LS PL : List (Nat -> Int)) : Prop where
  blk : w.heap[sb]? = some (.cells #[.int .i64 keep, .int .i64 ver, sl, pv] 119 (0, 0))
  own : OwnC 147 26 w (sb + 1) sl LS
  pins : OwnC 3 1 w (sb + 1) pv PL
theorem StP.lt {w : World} {sb : Nat} {keep ver : Int} {sl pv : Value} {LS PL : List (Nat -> Int)} (h : StP w sb keep ver sl pv LS PL) : sb < w.heap.size := (Array.getElem?_eq_some_iff.1 h.blk).1
theorem StP.on {w w' : World} {sb : Nat} {keep ver : Int} {sl pv : Value} {LS PL : List (Nat -> Int)} (h : StP w sb keep ver sl pv LS PL) (hb : Below w.heap.size w w') : StP w' sb keep ver sl pv LS PL := ⟨blk_on h.blk hb, h.own.on hb, h.pins.on hb⟩
theorem StP.cells {w : World} {sb : Nat} {keep ver : Int} {sl pv : Value} {LS PL : List (Nat -> Int)} (h : StP w sb keep ver sl pv LS PL) : w.cell? ⟨sb, 0, none⟩ = some (.int .i64 keep) /\ w.cell? ⟨sb, 1, none⟩ = some (.int .i64 ver) /\ w.cell? ⟨sb, 2, none⟩ = some sl /\ w.cell? ⟨sb, 3, none⟩ = some pv :=
  ⟨(blk_cells h.blk 0).trans rfl, (blk_cells h.blk 1).trans rfl, (blk_cells h.blk 2).trans rfl, (blk_cells h.blk 3).trans rfl⟩
def hasP (PL : List (Nat -> Int)) (v : Int) : Bool := (List.range PL.length).any fun i => decide (gf PL i 0 = v)
theorem hasP_yes {PL : List (Nat -> Int)} {v : Int} {i : Nat} (hi : i < PL.length) (h : gf PL i 0 = v) : hasP PL v = true := by
  simp only [hasP, List.any_eq_true, List.mem_range, decide_eq_true_eq]; exact ⟨i, hi, h⟩
theorem hasP_no {PL : List (Nat -> Int)} {v : Int} (h : ∀ i, i < PL.length -> gf PL i 0 ≠ v) : hasP PL v = false := by
  rw [Bool.eq_false_iff]; intro ht
  simp only [hasP, List.any_eq_true, List.mem_range, decide_eq_true_eq] at ht
  obtain ⟨i, hi, e⟩ := ht
  exact h i hi e
theorem OwnC.ints {w : World} {B : Nat} {v : Value} {l : List (Nat -> Int)} (h : OwnC 3 1 w B v l) (hl : l.length <= 1000) : ∃ oa cap, v = .slice oa l.length cap /\ (0 < l.length -> ∃ b off, oa = some ⟨b, off, none⟩ /\ b < w.heap.size /\ ∀ i, i < l.length -> w.cell? ⟨b, off + i, none⟩ = some (.int .i64 (gf l i 0))) := by
  obtain ⟨oa, cap, e, _, hc⟩ := h.at (by unfold maxLen; omega)
  refine ⟨oa, cap, e, fun h0 => ?_⟩
  obtain ⟨b, off, e', hb, hc⟩ := hc h0
  exact ⟨b, off, e', hb, fun i hi => by have := hc i hi 0 (by omega); rwa [Nat.mul_one, Nat.add_zero] at this⟩
set_option maxHeartbeats 1600000 in
theorem hasPin_any (sb : Nat) (keep ver : Int) (sl pv : Value) (LS PL : List (Nat -> Int)) (v : Int) (w : World) (hs : StP w sb keep ver sl pv LS PL) (hl : PL.length <= 100) :
    Calls Tryz.prog 117 #[.pointer (some ⟨sb, 0, none⟩), .int .i64 v] w fun e w' => e = .returned (.bool (hasP PL v)) /\ w = w' := by
  obtain ⟨_, _, _, s3⟩ := hs.cells
  obtain ⟨oa, cap, rfl, hc⟩ := hs.pins.ints (by omega)
  have HC := hide hc
  clear hs hc
  go_enter Tryz.func117, Tryz.ntmps117
  go_wp2_with fail
  go_loop [5] (fun i => ∃ k : Nat, k <= PL.length /\ i = .int .i64 k /\ Hid (∀ i, i < k -> gf PL i 0 ≠ v)) (fun i => PL.length - (intOf i).toNat)
  case atStart => exact ⟨0, by omega, rfl, hide (fun i hi => absurd hi (by omega))⟩
  case round =>
    obtain ⟨k, hk, rfl, hno⟩ := hrel
    by_cases hlt : k < PL.length
    . have hkn : (k : Int) < PL.length := by omega
      obtain ⟨b, off, rfl, _, hc0⟩ := unhide HC (by omega)
      have ck := hc0 k hlt
      clear hc0
      obtain ⟨G, hG⟩ : ∃ I, gf PL k 0 = I := ⟨_, rfl⟩
      rw [hG] at ck
      by_cases h0 : G = v
      . have H := hide (hasP_yes hlt (hG.trans h0))
        subst h0
        go_wp2_with fail
        go_ret
        exact ⟨ret_bool (unhide H).symm, rfl⟩
      . go_wp2_with fail
        go_round
        case rel => exact ⟨k + 1, by omega, by go_num, hide (fun i hi => by
          by_cases e : i = k
          . subst e; rw [hG]; exact h0
          . exact unhide hno i (by omega))⟩
        case measure => simp [intOf]; omega
    . have hkn : k = PL.length := by omega
      have H := hide (hasP_no (v := v) (by rw [<- hkn]; exact unhide hno))
      subst hkn
      go_wp2_with fail
      go_ret
      exact ⟨ret_bool (unhide H).symm, rfl⟩
def heldB (keep ver : Int) (PL : List (Nat -> Int)) (v : Int) : Bool := decide (0 <= v) && decide (v <= ver) && (decide (ver - keep <= v) || hasP PL v)
set_option maxHeartbeats 1600000 in
theorem isHeld_any (sb : Nat) (keep ver : Int) (sl pv : Value) (LS PL : List (Nat -> Int)) (v : Int) (w : World) (hs : StP w sb keep ver sl pv LS PL) (hl : PL.length <= 100) (hk : 0 <= keep /\ keep <= 4) (hv : 0 <= ver /\ ver <= 100) :
    Calls Tryz.prog 71 #[.pointer (some ⟨sb, 0, none⟩), .int .i64 v] w fun e w' => e = .returned (.bool (heldB keep ver PL v)) /\ Below w.heap.size w w' := by
  obtain ⟨s0, s1, _, _⟩ := hs.cells
  have HS := hide hs
  clear hs
  by_cases h1 : v < 0
  . have H : Hid (heldB keep ver PL v = false) := by show heldB keep ver PL v = false; unfold heldB; rw [decide_eq_false (by omega)]; rfl
    go_enter Tryz.func71, Tryz.ntmps71
    go_wp2_with fail
    go_ret
    exact ⟨ret_bool (unhide H).symm, Below.refl _ _⟩
  . by_cases h2 : ver < v
    . have H : Hid (heldB keep ver PL v = false) := by show heldB keep ver PL v = false; unfold heldB; rw [decide_eq_false (show ¬ v <= ver by omega), Bool.and_false]; rfl
      go_enter Tryz.func71, Tryz.ntmps71
      go_wp2_with fail
      go_ret
      exact ⟨ret_bool (unhide H).symm, Below.refl _ _⟩
    . have e1 : IntKind.i64.wrap (ver - keep) = ver - keep := i64_in _ (by omega)
      have HP := fun W h => hasPin_any sb keep ver sl pv LS PL v W h hl
      have H : Hid (heldB keep ver PL v = (decide (ver - keep <= v) || hasP PL v)) := by show heldB keep ver PL v = _; unfold heldB; rw [decide_eq_true (show 0 <= v by omega), decide_eq_true (show v <= ver by omega)]; rfl
      by_cases h3 : ver - keep <= v
      . have hd : decide (ver - keep <= v) = true := decide_eq_true h3
        go_enter Tryz.func71, Tryz.ntmps71
        go_wp2_with fail
        go_quiet (fail)
        go_wp2_with fail
        go_ret
        refine ⟨ret_bool (by rw [unhide H, hd]; rfl), ?_⟩
        repeat first | exact Below.refl _ _ | refine below_drewN ?_ _ | refine Below.drew ?_
      . have hd : decide (ver - keep <= v) = false := decide_eq_false h3
        obtain ⟨P, hP⟩ : ∃ P, hasP PL v = P := ⟨_, rfl⟩
        rw [hP] at HP
        have HQ : Hid (∀ W, Below w.heap.size w W -> Calls Tryz.prog 117 #[.pointer (some ⟨sb, 0, none⟩), .int .i64 v] W fun e w' => e = .returned (.bool P) /\ Below W.heap.size W w') := fun W hW => (HP W ((unhide HS).on hW)).mono fun e w' h => ⟨h.1, by rw [<- h.2]; exact Below.refl _ _⟩
        have hl3 := (unhide HS).lt
        clear HP
        go_enter Tryz.func71, Tryz.ntmps71
        go_wp2
        refine region_bq (by kernel_rfl) (by kernel_rfl) ?_
        refine q_move rfl _ rfl (.int .i64 v) rfl ?_
        simp only [Act.put, qA, qB, qC]
        refine q_move rfl _ rfl (.pointer (some ⟨sb, 0, none⟩)) rfl ?_
        simp only [Act.put, qA, qB, qC]
        refine q_val rfl (.pointer (some ⟨sb, 0, none⟩)) (fun _ _ => by simp [go_sem]) ?_
        simp only [Act.put, qA, qB, qC]
        refine q_val rfl (.pointer (some ⟨sb, 1, none⟩)) (fun _ _ => by simp [go_sem]) ?_
        simp only [Act.put, qA, qB, qC]
        refine q_val rfl (.int .i64 ver) (fun w' h => by simp [go_sem, (h.cell (p := ⟨sb, 1, none⟩) hl3).trans s1]) ?_
        simp only [Act.put, qA, qB, qC]
        refine q_move rfl _ rfl (.pointer (some ⟨sb, 0, none⟩)) rfl ?_
        simp only [Act.put, qA, qB, qC]
        refine q_val rfl (.pointer (some ⟨sb, 0, none⟩)) (fun _ _ => by simp [go_sem]) ?_
        simp only [Act.put, qA, qB, qC]
        refine q_val rfl (.pointer (some ⟨sb, 0, none⟩)) (fun _ _ => by simp [go_sem]) ?_
        simp only [Act.put, qA, qB, qC]
        refine q_val rfl (.int .i64 keep) (fun w' h => by simp [go_sem, (h.cell (p := ⟨sb, 0, none⟩) hl3).trans s0]) ?_
        simp only [Act.put, qA, qB, qC]
        refine q_val rfl (.int .i64 (ver - keep)) (fun _ _ => by simp [go_sem, e1]) ?_
        simp only [Act.put, qA, qB, qC]
        refine q_val rfl (.bool false) (fun _ _ => by simp [go_sem]; omega) ?_
        simp only [Act.put, qA, qB, qC]
        refine q_move rfl _ rfl (.bool false) rfl ?_
        simp only [Act.put, qA, qB, qC]
        refine q_move (by kernel_rfl) _ rfl (.pointer (some ⟨sb, 0, none⟩)) rfl ?_
        simp only [Act.put, qA, qB, qC]
        refine q_move (by kernel_rfl) _ rfl (.int .i64 v) rfl ?_
        simp only [Act.put, qA, qB, qC]
        refine q_callC (by kernel_rfl) 117 #[.pointer (some ⟨sb, 0, none⟩), .int .i64 v] (fun _ => by simp [go_sem]) _ (unhide HQ) ?_
        simp only [Act.put, qA, qB, qC]
        refine q_val rfl (.bool P) (fun _ _ => by simp [go_sem]) ?_
        simp only [Act.put, qA, qB, qC]
        refine q_assign rfl _ rfl (.bool P) rfl ?_
        simp only [Act.put, qA, qB, qC]
        refine wpQuiet_nil ?_
        intro w6 hw6
        have HB6 := hide hw6
        clear hw6 s0 s1
        go_wp2_with fail
        go_ret
        exact ⟨ret_bool (by rw [unhide H, hd, hP]; rfl), unhide HB6⟩
theorem Version_any (sb : Nat) (keep ver : Int) (sl pv : Value) (LS PL : List (Nat -> Int)) (w : World) (hs : StP w sb keep ver sl pv LS PL) :
    Calls Tryz.prog 55 #[.pointer (some ⟨sb, 0, none⟩)] w fun e w' => e = .returned (.int .i64 ver) /\ w = w' := by
  obtain ⟨_, s1, _, _⟩ := hs.cells
  go_enter Tryz.func55, Tryz.ntmps55
  go_wp2_with fail
  go_ret
  exact ⟨rfl, rfl⟩
def Cand (LS : List (Nat -> Int)) (v a : Int) (i : Nat) : Prop := inV v (gf LS i) = true /\ a < gf LS i 0
def Nx (LS : List (Nat -> Int)) (v a : Int) (k : Nat) (fnd : Bool) (T : Nat -> Int) : Prop :=
  (fnd = false /\ ∀ i, i < k -> ¬ Cand LS v a i) \/ (fnd = true /\ ∃ i, i < k /\ Cand LS v a i /\ T = gf LS i /\ ∀ j, j < k -> Cand LS v a j -> gf LS i 0 <= gf LS j 0)
theorem Nx.skip {LS : List (Nat -> Int)} {v a : Int} {k : Nat} {fnd : Bool} {T : Nat -> Int} (h : Nx LS v a k fnd T) (hc : ¬ Cand LS v a k) : Nx LS v a (k + 1) fnd T := by
  rcases h with ⟨e, h⟩ | ⟨e, i, hi, h1, h2, h3⟩
  . refine Or.inl ⟨e, fun i hi => ?_⟩
    by_cases q : i = k
    . subst q; exact hc
    . exact h i (by omega)
  . refine Or.inr ⟨e, i, by omega, h1, h2, fun j hj hcj => ?_⟩
    by_cases q : j = k
    . subst q; exact absurd hcj hc
    . exact h3 j (by omega) hcj
theorem Nx.leave {LS : List (Nat -> Int)} {v a : Int} {k : Nat} {T : Nat -> Int} (h : Nx LS v a k true T) (hle : ¬ gf LS k 0 < T 0) : Nx LS v a (k + 1) true T := by
  rcases h with ⟨e, _⟩ | ⟨e, i, hi, h1, h2, h3⟩
  . cases e
  . refine Or.inr ⟨e, i, by omega, h1, h2, fun j hj hcj => ?_⟩
    by_cases q : j = k
    . subst q; rw [h2] at hle; omega
    . exact h3 j (by omega) hcj
theorem Nx.take {LS : List (Nat -> Int)} {v a : Int} {k : Nat} {fnd : Bool} {T : Nat -> Int} (h : Nx LS v a k fnd T) (hc : Cand LS v a k) (hlt : fnd = true -> gf LS k 0 < T 0) : Nx LS v a (k + 1) true (gf LS k) := by
  refine Or.inr ⟨rfl, k, by omega, hc, rfl, fun j hj hcj => ?_⟩
  by_cases q : j = k
  . subst q; exact Int.le_refl _
  . rcases h with ⟨_, h⟩ | ⟨e, i, hi, h1, h2, h3⟩
    . exact absurd hcj (h j (by omega))
    . have := h3 j (by omega) hcj
      have := hlt e
      rw [h2] at this
      omega
theorem res_cell_tmp {P : Program} {fn : Func} {p q : Tmp} {ty : TypeId} (h : fn.results = #[.cell p ty, .tmp q]) (tmps : Array Value) (w : World) (g : Nat) (t : TypeId) (cs : Array Value) (fr : Nat × Nat) (d : TypeDesc) (b : Value)
    (hp : tmps.getD p undef = .pointer (some ⟨g, 0, none⟩)) (hq : tmps.getD q undef = b) (hg : w.heap[g]? = some (.cells cs t fr))
    (hu : P.underlying ty = some d) (hd : (match d with | .struct _ | .array _ _ => true | _ => false) = true) (hi : (P.info? ty).map (·.size) = some cs.size) :
    (results fn tmps).run P w = .ok (.tuple #[.agg cs, b]) w := by
  have hp' : tmps[p]?.getD undef = .pointer (some ⟨g, 0, none⟩) := by simpa using hp
  have hq' : tmps[q]?.getD undef = b := by simpa using hq
  simp [results, h, hp', hq', asAddr, run_loadVar_row w g t ty cs fr d hg hu hd hi]
set_option maxHeartbeats 6400000 in
theorem next_any (sb : Nat) (keep ver : Int) (sl pv : Value) (LS PL : List (Nat -> Int)) (v a : Int) (w : World) (hs : StP w sb keep ver sl pv LS PL) (hl : LS.length <= 1000) :
    Calls Tryz.prog 73 #[.pointer (some ⟨sb, 0, none⟩), .int .i64 v, .int .i64 a] w fun e w' => (∃ fnd T, e = .returned (.tuple #[.agg (fc T), .bool fnd]) /\ Nx LS v a LS.length fnd T) /\ Below w.heap.size w w' := by
  obtain ⟨t1, t2, t3⟩ := two_blocks w (.cells (fc zf) 66 (0, 0)) (.cells (fc zf) 66 (0, 0))
  have hlt := hs.lt
  obtain ⟨_, _, s2, _⟩ := hs.cells
  obtain ⟨oa, cap, rfl, _, hc⟩ := hs.own.at (by unfold maxLen; omega)
  have HC := hide hc
  have hz1 : (w.alloc (.cells (fc zf) 66)).heap.size = w.heap.size + 1 := by simp
  have HT1 := hide t1
  have HT3 := hide t3
  have hT2 := setRow_heap _ _ _ (fc zf) _ _ t2
  have HT2 := hide hT2
  have HT1' := hide ((setRow_other (show w.heap.size + 1 ≠ w.heap.size by omega) (fc zf)).trans t1)
  have HT3' := hide (below_setRow t3 (show w.heap.size <= w.heap.size + 1 by omega) (fc zf))
  clear hs hc t1 t3 hT2
  go_enter Tryz.func73, Tryz.ntmps73
  go_wp2_with (first | refine al26 rfl rfl w.heap.size rfl ?_ | refine al26 rfl rfl (w.heap.size + 1) hz1 ?_ | refine bld26 rfl rfl ?_ | refine st26 rfl _ _ rfl (w.heap.size + 1) zf rfl rfl zf t2 ?_)
  go_loopw [9, 10, 11] (fun fd i _ wr => ∃ (k : Nat) (fnd : Bool) (T : Nat -> Int), k <= LS.length /\ i = .int .i64 k /\ fd = .bool fnd /\ wr.heap[w.heap.size]? = some (.cells (fc zf) 66 (0, 0)) /\ wr.heap[w.heap.size + 1]? = some (.cells (fc T) 66 (0, 0)) /\ Hid (Nx LS v a k fnd T) /\ Below w.heap.size w wr) (fun _ i _ _ => LS.length - (intOf i).toNat)
  case atStart => exact ⟨0, false, zf, by omega, rfl, rfl, unhide HT1', unhide HT2, hide (Or.inl ⟨rfl, fun i hi => absurd hi (by omega)⟩), unhide HT3'⟩
  case round =>
    obtain ⟨k, fnd, T, hk, rfl, rfl, hg0, hg1, hNx, hb⟩ := hrel
    have r2 := (hb.cell (p := ⟨sb, 2, none⟩) hlt).trans s2
    clear t2 s2
    by_cases hlk : k < LS.length
    . have hkn : (k : Int) < LS.length := by omega
      obtain ⟨b, off, rfl, hbl, hc0⟩ := unhide HC (by omega)
      have hrgW : ∀ W, Below w.heap.size w W -> W.rangeAt b (off + k * 26) (cc 26 (gf LS k)).toList := fun W h => cs_rng (fun i hi j hj => (h.cell (p := ⟨b, off + i * 26 + j, none⟩) hbl).trans (hc0 i hi j hj)) hlk
      have hrF := life_F (hrgW wr hb)
      have hA := heap_alloc_new wr (.cells (fc zf) 66 (0, 0))
      have hA1 := setRow_heap _ _ _ (fc (gf LS k)) _ _ hA
      have hl0 : w.heap.size < wr.heap.size := (Array.getElem?_eq_some_iff.1 hg0).1
      have hl1 : w.heap.size + 1 < wr.heap.size := (Array.getElem?_eq_some_iff.1 hg1).1
      have q0 := (setRow_other (show wr.heap.size ≠ w.heap.size by omega) (fc (gf LS k))).trans ((Below.heap_alloc wr (.cells (fc zf) 66) w.heap.size hl0).trans hg0)
      have q1 := (setRow_other (show wr.heap.size ≠ w.heap.size + 1 by omega) (fc (gf LS k))).trans ((Below.heap_alloc wr (.cells (fc zf) 66) (w.heap.size + 1) hl1).trans hg1)
      have hb2 := below_setRow (below_alloc hb (Nat.le_refl _) (.cells (fc zf) 66)) (show w.heap.size <= wr.heap.size by omega) (fc (gf LS k))
      have hzr : (w.heap.size : Nat) <= wr.heap.size := by omega
      have s2' := (hb2.cell (p := ⟨sb, 2, none⟩) hlt).trans ((hb.cell (p := ⟨sb, 2, none⟩) hlt).symm.trans r2)
      have hrg2 := hrgW _ hb2
      have hA1c := blk_cells hA1
      have f0 := fc_at (gf LS k) 0 (by decide)
      obtain ⟨Id, hId⟩ : ∃ I, gf LS k 0 = I := ⟨_, rfl⟩
      rw [hId] at f0
      have HA1 := hide hA1
      have HQ0 := hide q0
      have HQ1 := hide q1
      have HB2 := hide hb2
      clear hrgW hc0 hb hb2 q0 q1
      by_cases hia : Id <= a
      . have HN := hide ((unhide hNx).skip (fun hc => by have := hc.2; omega))
        go_wp2_with (first | refine ldm26 rfl _ rfl b (off + k * 26) rfl (gf LS k) hrF ?_ | refine al26 rfl rfl wr.heap.size rfl ?_ | refine st26 rfl _ _ rfl wr.heap.size (gf LS k) rfl rfl zf hA ?_)
        go_roundw
        case rel => exact ⟨k + 1, fnd, T, by omega, by go_num, rfl, unhide HQ0, unhide HQ1, HN, unhide HB2⟩
        case measure => simp [intOf]; omega
      . go_wp2_with (first | refine ldm26 rfl _ rfl b (off + k * 26) rfl (gf LS k) hrF ?_ | refine al26 rfl rfl wr.heap.size rfl ?_ | refine st26 rfl _ _ rfl wr.heap.size (gf LS k) rfl rfl zf hA ?_ | refine ldm80 (by kernel_rfl) _ rfl b (off + k * 26) rfl (gf LS k) hrg2 ?_)
        refine (isIn_any (gf LS k) v _).mono ?_
        rintro e w3 ⟨rfl, hb3⟩
        have p0 := blk_on (unhide HQ0) hb3
        have p1 := blk_on (unhide HQ1) hb3
        have pA := blk_on (unhide HA1) hb3
        have pAc := blk_cells pA
        have p1c := blk_cells p1
        have hb4 := (unhide HB2).trans (hb3.mono (unhide HB2).size)
        have HB4 := hide hb4
        clear hb3 hb4 hrF hA hA1 hA1c s2' hrg2 hg0 hg1
        cases hin : inV v (gf LS k) with
        | false =>
          have HN := hide ((unhide hNx).skip (fun hc => by rw [hc.1] at hin; cases hin))
          go_wp2_with fail
          go_roundw
          case rel => exact ⟨k + 1, fnd, T, by omega, by go_num, rfl, p0, p1, HN, unhide HB4⟩
          case measure => simp [intOf]; omega
        | true =>
          have hcand : Cand LS v a k := ⟨hin, by rw [hId]; omega⟩
          have HCD := hide hcand
          clear hcand
          have hs1 := setRow_heap _ _ _ (fc (gf LS k)) _ _ p1
          have hs0 := (setRow_other (show w.heap.size + 1 ≠ w.heap.size by omega) (fc (gf LS k))).trans p0
          have HS1 := hide hs1
          have HS0 := hide hs0
          have HB5 := hide (below_setRow (unhide HB4) (show w.heap.size <= w.heap.size + 1 by omega) (fc (gf LS k)))
          clear hs1 hs0
          cases fnd with
          | false =>
            have HN := hide ((unhide hNx).take (unhide HCD) (fun h => by cases h))
            go_wp2_with (first | refine ld26 rfl _ rfl _ rfl (gf LS k) pA ?_ | refine st26 rfl _ _ rfl (w.heap.size + 1) (gf LS k) rfl rfl T p1 ?_)
            go_roundw
            case rel => exact ⟨k + 1, true, gf LS k, by omega, by go_num, rfl, unhide HS0, unhide HS1, HN, unhide HB5⟩
            case measure => simp [intOf]; omega
          | true =>
            have t0 := fc_at T 0 (by decide)
            obtain ⟨T0, hT0⟩ : ∃ I, T 0 = I := ⟨_, rfl⟩
            rw [hT0] at t0
            by_cases hless : Id < T0
            . have HN := hide ((unhide hNx).take (unhide HCD) (fun _ => by rw [hId, hT0]; exact hless))
              go_wp2_with (first | refine ld26 rfl _ rfl _ rfl (gf LS k) pA ?_ | refine st26 rfl _ _ rfl (w.heap.size + 1) (gf LS k) rfl rfl T p1 ?_)
              go_roundw
              case rel => exact ⟨k + 1, true, gf LS k, by omega, by go_num, rfl, unhide HS0, unhide HS1, HN, unhide HB5⟩
              case measure => simp [intOf]; omega
            . have HN := hide ((unhide hNx).leave (by rw [hId, hT0]; exact hless))
              go_wp2_with fail
              go_roundw
              case rel => exact ⟨k + 1, true, T, by omega, by go_num, rfl, p0, p1, HN, unhide HB4⟩
              case measure => simp [intOf]; omega
    . have hkn : k = LS.length := by omega
      subst hkn
      have HZ2 := setRow_heap _ _ _ (fc T) _ _ hg0
      have HBe := hide (below_setRow hb (Nat.le_refl _) (fc T))
      clear hb
      go_wp2_with (first | refine ld26 rfl _ rfl _ rfl T hg1 ?_ | refine st26 rfl _ _ rfl w.heap.size T rfl rfl zf hg0 ?_)
      refine bodyPost_ret (v := .tuple #[.agg (fc T), .bool fnd]) (res_cell_tmp Tryz.results73 _ _ w.heap.size 66 (fc T) (0, 0) _ (.bool fnd) rfl rfl HZ2 Tryz.underlying66 rfl (szf _)) rfl ⟨⟨fnd, T, rfl, unhide hNx⟩, unhide HBe⟩
def cle (FL : List (Nat -> Int)) (a : Int) : Nat -> Nat
  | 0 => 0
  | k + 1 => if gf FL k 0 <= a then cle FL a k + 1 else cle FL a k
theorem cle_le (FL : List (Nat -> Int)) (a : Int) : ∀ k, cle FL a k <= k
  | 0 => Nat.le_refl _
  | k + 1 => by rw [cle]; have := cle_le FL a k; split <;> omega
theorem cle_all {FL : List (Nat -> Int)} {a : Int} : ∀ k, (∀ j, j < k -> gf FL j 0 <= a) -> cle FL a k = k
  | 0, _ => rfl
  | k + 1, h => by rw [cle, if_pos (h k (by omega)), cle_all k fun j hj => h j (by omega)]
theorem cle_none {FL : List (Nat -> Int)} {a : Int} : ∀ k, (∀ j, j < k -> a < gf FL j 0) -> cle FL a k = 0
  | 0, _ => rfl
  | k + 1, h => by rw [cle, if_neg (by have := h k (by omega); omega), cle_none k fun j hj => h j (by omega)]
theorem cle_congr {FL : List (Nat -> Int)} {a b : Int} : ∀ k, (∀ j, j < k -> (gf FL j 0 <= a ↔ gf FL j 0 <= b)) -> cle FL a k = cle FL b k
  | 0, _ => rfl
  | k + 1, h => by
    rw [cle, cle, cle_congr k fun j hj => h j (by omega)]
    by_cases c : gf FL k 0 <= a
    . rw [if_pos c, if_pos ((h k (by omega)).1 c)]
    . rw [if_neg c, if_neg (fun q => c ((h k (by omega)).2 q))]
theorem cle_more {FL : List (Nat -> Int)} {a b : Int} (j0 : Nat) (h1 : ¬ gf FL j0 0 <= a) (h2 : gf FL j0 0 <= b) : ∀ k, j0 < k -> (∀ j, j < k -> j ≠ j0 -> (gf FL j 0 <= a ↔ gf FL j 0 <= b)) -> cle FL b k = cle FL a k + 1
  | 0, h, _ => by omega
  | k + 1, h, hi => by
    by_cases e : j0 = k
    . subst e
      rw [cle, cle, if_pos h2, if_neg h1, cle_congr j0 fun j hj => hi j (by omega) (by omega)]
    . rw [cle, cle, cle_more j0 h1 h2 k (by omega) fun j hj => hi j (by omega)]
      by_cases c : gf FL k 0 <= a
      . rw [if_pos c, if_pos ((hi k (by omega) (fun q => e q.symm)).1 c)]
      . rw [if_neg c, if_neg (fun q => c ((hi k (by omega) (fun q => e q.symm)).2 q))]
structure RelV (v : Int) (LS FL : List (Nat -> Int)) : Prop where
  fwd : ∀ i, i < LS.length -> inV v (gf LS i) = true -> ∃ j, j < FL.length /\ SF (gf LS i) (gf FL j)
  fro : ∀ j, j < FL.length -> ∃ i, i < LS.length /\ inV v (gf LS i) = true /\ SF (gf LS i) (gf FL j)
  rt : ∀ j, j < FL.length -> Rt (gf FL j)
  dis : ∀ j j', j < FL.length -> j' < FL.length -> gf FL j 0 = gf FL j' 0 -> j = j'
  le40 : FL.length <= 40
theorem RelV.found {v a : Int} {LS FL : List (Nat -> Int)} {T : Nat -> Int} (h : RelV v LS FL) (hN : Nx LS v a LS.length true T) : ∃ j, j < FL.length /\ SF T (gf FL j) /\ a < T 0 /\ cle FL (T 0) FL.length = cle FL a FL.length + 1 := by
  rcases hN with ⟨e, _⟩ | ⟨_, i, hi, hc, rfl, hm⟩
  . cases e
  . obtain ⟨j, hj, hs⟩ := h.fwd i hi hc.1
    have e0 := hs 0 (by omega)
    refine ⟨j, hj, hs, hc.2, ?_⟩
    have ha := hc.2
    refine cle_more j (by rw [<- e0]; omega) (by rw [<- e0]; exact Int.le_refl _) _ hj fun q hq hne => ⟨fun hh => by omega, fun hh => ?_⟩
    by_cases c : gf FL q 0 <= a
    . exact c
    . exfalso
      obtain ⟨i', hi', hin', hs'⟩ := h.fro q hq
      have e1 := hs' 0 (by omega)
      have := hm i' hi' ⟨hin', by omega⟩
      exact hne (h.dis q j hq hj (by omega))
theorem RelV.ended {v a : Int} {LS FL : List (Nat -> Int)} {T : Nat -> Int} (h : RelV v LS FL) (hN : Nx LS v a LS.length false T) : cle FL a FL.length = FL.length := by
  rcases hN with ⟨_, hno⟩ | ⟨e, _⟩
  . refine cle_all _ fun j hj => ?_
    obtain ⟨i, hi, hin, hs⟩ := h.fro j hj
    have e0 := hs 0 (by omega)
    by_cases c : gf FL j 0 <= a
    . exact c
    . exact absurd ⟨hin, by omega⟩ (hno i hi)
  . cases e
def pid (a : Int) (R : List (Nat -> Int)) : Nat -> Int
  | 0 => a
  | i + 1 => gf R i 0
structure RdP (FL : List (Nat -> Int)) (a : Int) (R : List (Nat -> Int)) : Prop where
  mem : ∀ i, i < R.length -> ∃ j, j < FL.length /\ SF (gf R i) (gf FL j)
  ris : ∀ i, i < R.length -> pid a R i < gf R i 0
  cnt : cle FL (pid a R R.length) FL.length = cle FL a FL.length + R.length
theorem pid_left {a : Int} {R : List (Nat -> Int)} {f : Nat -> Int} {i : Nat} (h : i <= R.length) : pid a (R ++ [f]) i = pid a R i := by
  cases i with
  | zero => rfl
  | succ i => show gf (R ++ [f]) i 0 = gf R i 0; rw [gf_left (by omega)]
theorem rdP_nil (FL : List (Nat -> Int)) (a : Int) : RdP FL a [] := ⟨fun i hi => by simp at hi, fun i hi => by simp at hi, by simp [pid]⟩
theorem RdP.add {FL R : List (Nat -> Int)} {a : Int} {T : Nat -> Int} (h : RdP FL a R) (hT : ∃ j, j < FL.length /\ SF T (gf FL j) /\ pid a R R.length < T 0 /\ cle FL (T 0) FL.length = cle FL (pid a R R.length) FL.length + 1) : RdP FL a (R ++ [T]) := by
  obtain ⟨j, hj, hs, hlt, hc⟩ := hT
  refine ⟨fun i hi => ?_, fun i hi => ?_, ?_⟩
  . by_cases c : i < R.length
    . rw [gf_left c]; exact h.mem i c
    . have : i = R.length := by simp at hi; omega
      subst this; rw [gf_last]; exact ⟨j, hj, hs⟩
  . by_cases c : i < R.length
    . rw [gf_left c, pid_left (by omega)]; exact h.ris i c
    . have : i = R.length := by simp at hi; omega
      subst this; rw [gf_last, pid_left (Nat.le_refl _)]; exact hlt
  . rw [List.length_append, List.length_singleton]
    show cle FL (gf (R ++ [T]) R.length 0) FL.length = _
    rw [gf_last, hc, h.cnt]; omega
theorem ownC_empty (T : TypeId) (m : Nat) (w : World) (B : Nat) (hB : B <= w.heap.size) : OwnC T m (w.alloc (.cells #[] T)) B (.slice (some ⟨w.heap.size, 0, none⟩) 0 0) [] :=
  ⟨by simp [fl], Or.inr ⟨w.heap.size, 0, #[], rfl, hB, heap_alloc_new w (.cells #[] T (0, 0)), Nat.le_refl _, by unfold maxLen; omega, by simp, by simp [fl]⟩⟩
set_option maxHeartbeats 1600000 in
theorem Read_no (sb : Nat) (keep ver : Int) (sl pv : Value) (LS PL : List (Nat -> Int)) (v a n : Int) (w : World) (hs : StP w sb keep ver sl pv LS PL) (hp : PL.length <= 100) (hk : 0 <= keep /\ keep <= 4) (hv : 0 <= ver /\ ver <= 100) (hh : heldB keep ver PL v = false) :
    Calls Tryz.prog 34 #[.pointer (some ⟨sb, 0, none⟩), .int .i64 v, .int .i64 a, .int .i64 n] w fun e w' => e = .returned (.tuple #[.slice none 0 0, .int .i64 12]) /\ Below w.heap.size w w' := by
  have H := isHeld_any sb keep ver sl pv LS PL v w hs hp hk hv
  rw [hh] at H
  clear hs
  go_enter Tryz.func34, Tryz.ntmps34
  go_wp2_with fail
  refine H.mono ?_
  rintro e w1 ⟨rfl, hb1⟩
  have HB := hide hb1
  clear hb1
  go_wp2_with fail
  go_ret2
  exact ⟨rfl, unhide HB⟩
set_option maxHeartbeats 6400000 in
theorem Read_any (sb : Nat) (keep ver : Int) (sl pv : Value) (LS PL FL : List (Nat -> Int)) (v a : Int) (n : Nat) (w : World) (hs : StP w sb keep ver sl pv LS PL) (hl : LS.length <= 1000) (hp : PL.length <= 100) (hk : 0 <= keep /\ keep <= 4) (hv : 0 <= ver /\ ver <= 100) (hh : heldB keep ver PL v = true)
    (hR : RelV v LS FL) (hn : 1 <= n /\ n <= 8) :
    Calls Tryz.prog 34 #[.pointer (some ⟨sb, 0, none⟩), .int .i64 v, .int .i64 a, .int .i64 n] w fun e w' => (∃ R rv, e = .returned (.tuple #[rv, .int .i64 0]) /\ OwnC 66 24 w' w.heap.size rv R /\ RdP FL a R /\ R.length <= n /\ (R.length = n \/ cle FL (pid a R R.length) FL.length = FL.length)) /\ Below w.heap.size w w' := by
  have H := isHeld_any sb keep ver sl pv LS PL v w hs hp hk hv
  rw [hh] at H
  have HS := hide hs
  have HR := hide hR
  have n1 : ¬ (n : Int) < 1 := by omega
  have n2 : ¬ (8 : Int) < n := by omega
  clear hs hR
  go_enter Tryz.func34, Tryz.ntmps34
  go_wp2_with fail
  refine H.mono ?_
  rintro e w1 ⟨rfl, hb1⟩
  have HO1 := hide (ownC_empty 66 24 w1 w.heap.size hb1.size)
  have hz1 : w.heap.size <= w1.heap.size := hb1.size
  have HB1 := hide (hb1.alloc hb1.size (.cells #[] 66))
  clear hb1 H
  go_wp2_with fail
  go_loopw [2, 10, 11, 12, 13] (fun av cv i _ _ wr => ∃ R : List (Nat -> Int), R.length <= n /\ i = .int .i64 R.length /\ Hid (av = .int .i64 (pid a R R.length)) /\ OwnC 66 24 wr w.heap.size cv R /\ Hid (RdP FL a R) /\ Below w.heap.size w wr) (fun _ _ i _ _ _ => n - (intOf i).toNat)
  case atStart => exact ⟨[], by simp, rfl, hide rfl, unhide HO1, hide (rdP_nil FL a), unhide HB1⟩
  case round =>
    obtain ⟨R, hRn, rfl, hav, ho, hRd, hb⟩ := hrel
    obtain ⟨A, hA⟩ : ∃ A, pid a R R.length = A := ⟨_, rfl⟩
    have hav' := unhide hav
    rw [hA] at hav'
    subst hav'
    clear hav
    by_cases hlt : R.length < n
    . have hkn : (R.length : Int) < n := by omega
      have HNX := hide (next_any sb keep ver sl pv LS PL v A wr ((unhide HS).on (hb.mono (Nat.le_refl _))) hl)
      have HO := hide ho
      have HBr := hide hb
      clear ho hb
      go_wp2_with fail
      refine (unhide HNX).mono ?_
      rintro e w2 ⟨⟨fnd, T, rfl, hNx⟩, hb2⟩
      have hAl := heap_alloc_new w2 (.cells (fc zf) 66 (0, 0))
      have hA1 := setRow_heap _ _ _ (fc T) _ _ hAl
      have hbw := (unhide HBr).trans (hb2.mono (unhide HBr).size)
      have hsz : w.heap.size <= w2.heap.size := hbw.size
      have hb3 := below_setRow (below_alloc hbw (Nat.le_refl _) (.cells (fc zf) 66)) hsz (fc T)
      have ho2 := (unhide HO).on hb2
      have ho3 : OwnC 66 24 ((w2.alloc (.cells (fc zf) 66)).setRow w2.heap.size (fc T)) w.heap.size u10 R := (ho2.alloc (.cells (fc zf) 66)).same (fun g hg => setRow_other (by have := (ho2.lt g hg).2; omega) _)
      have hz3 : w.heap.size <= ((w2.alloc (.cells (fc zf) 66)).setRow w2.heap.size (fc T)).heap.size := hb3.size
      have hz2 : wr.heap.size <= w2.heap.size := hb2.size
      have HNx := hide hNx
      have HB3 := hide hb3
      have HO3 := hide ho3
      clear hb2 hbw hb3 ho2 hNx HNX
      cases fnd with
      | false =>
        have HE := hide ((unhide HR).ended (unhide HNx))
        go_wp2_with (first | refine al26 rfl rfl w2.heap.size rfl ?_ | refine st26 rfl _ _ rfl w2.heap.size T rfl rfl zf hAl ?_)
        go_ret2
        exact ⟨⟨R, _, rfl, unhide HO3, unhide hRd, by omega, Or.inr (by rw [hA]; exact unhide HE)⟩, unhide HB3⟩
      | true =>
        have HE := hide ((unhide HR).found (unhide HNx))
        have hA1c := blk_cells hA1
        have f0 := fc_at T 0 (by decide)
        obtain ⟨I, hI⟩ : ∃ I, T 0 = I := ⟨_, rfl⟩
        rw [hI] at f0
        have hA4 := heap_alloc_new ((w2.alloc (.cells (fc zf) 66)).setRow w2.heap.size (fc T)) (.cells (fc T) 66 (0, 0))
        obtain ⟨v7, w7, hr7, ho7, hg7⟩ := run_apF (((w2.alloc (.cells (fc zf) 66)).setRow w2.heap.size (fc T)).alloc (.cells (fc T) 66)) w.heap.size u10 R [T] (ho3.alloc _) ((w2.alloc (.cells (fc zf) 66)).setRow w2.heap.size (fc T)).heap.size 0 1 (fun i hi j hj => by
          obtain rfl : i = 0 := by simp at hi; omega
          rw [blk_cells hA4]
          simpa [gf] using fc_at T j hj) (by simp; omega) (by simp; omega)
        have hb7 := ((unhide HB3).alloc hz3 (.cells (fc T) 66)).grown hg7 (by simp; omega) (fun q hq => (ho3.lt q hq).1)
        have hc7 : w7.cell? ⟨w2.heap.size, 0, none⟩ = some (.int .i64 I) := by
          have hl2 : w2.heap.size < ((w2.alloc (.cells (fc zf) 66)).setRow w2.heap.size (fc T)).heap.size := (Array.getElem?_eq_some_iff.1 hA1).1
          rw [World.cell?_of_block (a := ⟨w2.heap.size, 0, none⟩) ((hg7.block w2.heap.size (by simp; omega) (fun e => by have := ((unhide HO).lt w2.heap.size e.symm).2; omega)).trans (Below.heap_alloc _ _ _ hl2)), hA1c 0]
          exact f0
        have HB7 := hide hb7
        have HO7 := hide ho7
        clear hb7 ho7 hg7 hA4 ho3 hA1c
        go_wp2_with (first | refine al26 rfl rfl w2.heap.size rfl ?_ | refine st26 rfl _ _ rfl w2.heap.size T rfl rfl zf hAl ?_ | refine ld26 rfl _ rfl _ rfl T hA1 ?_ | refine bs34 rfl _ rfl T rfl _ rfl ?_ | (at_builtin; refine wl_apF hr7 rfl (.tmp 40) (.tmp 42) rfl rfl rfl rfl ?_))
        go_roundw
        case rel => exact ⟨R ++ [T], by simp; omega, by simp, hide (by rw [List.length_append, List.length_singleton]; show _ = Value.int .i64 (gf (R ++ [T]) R.length 0); rw [gf_last, hI]), unhide HO7, hide ((unhide hRd).add (by rw [hA]; exact unhide HE)), unhide HB7⟩
        case measure => simp [intOf]; omega
    . have hkn : R.length = n := by omega
      have hkn' : ¬ (R.length : Int) < n := by omega
      go_wp2_with fail
      go_ret2
      exact ⟨⟨R, _, rfl, ho, unhide hRd, by omega, Or.inl hkn⟩, hb⟩
def ri (PI : List Int) : List (Nat -> Int) := PI.map fun x _ => x
theorem ri_len (PI : List Int) : (ri PI).length = PI.length := by simp [ri]
theorem ri_gf {PI : List Int} {i : Nat} (h : i < PI.length) : gf (ri PI) i 0 = PI[i] := by
  unfold gf ri; rw [List.getElem?_map, List.getElem?_eq_getElem h]; rfl
theorem ri_app (A : List Int) (x : Int) : ri (A ++ [x]) = ri A ++ [fun _ => x] := by simp [ri]
theorem hasP_ri (PI : List Int) (v : Int) : hasP (ri PI) v = decide (v ∈ PI) := by
  by_cases h : v ∈ PI
  . obtain ⟨i, hi, e⟩ := List.mem_iff_getElem.1 h
    rw [decide_eq_true h]
    exact hasP_yes (by rw [ri_len]; exact hi) (by rw [ri_gf hi]; exact e)
  . rw [decide_eq_false h]
    exact hasP_no fun i hi e => h (by rw [ri_len] at hi; rw [ri_gf hi] at e; rw [<- e]; exact List.getElem_mem hi)
structure Fr (S : Nat -> Prop) (w w' : World) : Prop where
  os : w'.os = w.os
  tape : w'.tape = w.tape
  output : w'.output = w.output
  size : w.heap.size <= w'.heap.size
  block : ∀ k, k < w.heap.size -> ¬ S k -> w'.heap[k]? = w.heap[k]?
def PinR (sb : Nat) (keep ver : Int) (sl pv : Value) (LS : List (Nat -> Int)) (PI : List Int) (v : Int) (w : World) (e : Ending) (w' : World) : Prop :=
  (heldB keep ver (ri PI) v = false /\ e = .returned (.int .i64 12) /\ Below w.heap.size w w') \/ (heldB keep ver (ri PI) v = true /\ 6 <= PI.length /\ e = .returned (.int .i64 13) /\ Below w.heap.size w w') \/
  (heldB keep ver (ri PI) v = true /\ PI.length < 6 /\ e = .returned (.int .i64 0) /\ Fr (fun k => k = sb \/ pv.ownBlock = some k) w w' /\ ∃ pv', StP w' sb keep ver sl pv' LS (ri (PI ++ [v])) /\ (pv'.ownBlock = pv.ownBlock \/ ∀ g, pv'.ownBlock = some g -> w.heap.size <= g))
set_option maxHeartbeats 3200000 in
theorem Pin_any (sb : Nat) (keep ver : Int) (sl pv : Value) (LS : List (Nat -> Int)) (PI : List Int) (v : Int) (w : World) (hs : StP w sb keep ver sl pv LS (ri PI)) (hdj : ∀ g, pv.ownBlock = some g -> sl.ownBlock ≠ some g) (hl : PI.length <= 6) (hk : 0 <= keep /\ keep <= 4) (hv : 0 <= ver /\ ver <= 100) :
    Calls Tryz.prog 30 #[.pointer (some ⟨sb, 0, none⟩), .int .i64 v] w fun e w' => PinR sb keep ver sl pv LS PI v w e w' := by
  have H := isHeld_any sb keep ver sl pv LS (ri PI) v w hs (by rw [ri_len]; omega) hk hv
  have HS := hide hs
  have HDJ := hide hdj
  clear hs hdj
  cases hh : heldB keep ver (ri PI) v with
  | false =>
    rw [hh] at H
    go_enter Tryz.func30, Tryz.ntmps30
    go_wp2_with fail
    refine H.mono ?_
    rintro e w1 ⟨rfl, hb1⟩
    have HH : Hid (PinR sb keep ver sl pv LS PI v w (.returned (.int .i64 12)) w1) := Or.inl ⟨hh, rfl, hb1⟩
    clear hb1 H
    go_wp2_with fail
    go_ret
    exact unhide HH
  | true =>
    rw [hh] at H
    go_enter Tryz.func30, Tryz.ntmps30
    go_wp2_with fail
    refine H.mono ?_
    rintro e w1 ⟨rfl, hb1⟩
    have hs1 := (unhide HS).on hb1
    obtain ⟨_, _, _, s3⟩ := hs1.cells
    have hlen : (ri PI).length = PI.length := ri_len PI
    have hlt := (unhide HS).lt
    have HS1 := hide hs1
    have HB1 := hide hb1
    obtain ⟨oa, cap, hpv⟩ : ∃ oa cap, pv = .slice oa (ri PI).length cap := by
      rcases hs1.pins.2 with ⟨h, h0⟩ | ⟨g, c, cur, h, _⟩
      . exact ⟨none, 0, by rw [h0]; exact h⟩
      . exact ⟨_, _, h⟩
    subst hpv
    clear hs1 hb1 H
    by_cases h6 : 6 <= PI.length
    . have h6' : (6 : Int) <= (ri PI).length := by omega
      have HH : Hid (PinR sb keep ver sl (.slice oa (ri PI).length cap) LS PI v w (.returned (.int .i64 13)) w1) := Or.inr (Or.inl ⟨hh, h6, rfl, unhide HB1⟩)
      clear hlen
      go_wp2_with fail
      go_ret
      exact unhide HH
    . have h6' : ¬ (6 : Int) <= (ri PI).length := by omega
      have hL : (ri PI).length <= 1000 := by omega
      have hB : sb + 1 <= w1.heap.size := by have := (unhide HS1).lt; omega
      have hown := (unhide HS1).pins
      clear hlen
      go_wp2_with (at_builtin; refine ap_int rfl (.tmp 19) (.tmp 21) rfl _ (sb + 1) _ (ri PI) v rfl hown rfl hL hB ?_)
      intro v5 w5 ho5 hg5 hd5
      have hz5 : w1.heap.size + 1 <= w5.heap.size := by have := hg5.size; simpa using this
      have bk : ∀ q, q < w1.heap.size -> (Value.slice oa (ri PI).length cap).ownBlock ≠ some q -> w5.heap[q]? = w1.heap[q]? := fun q hq hne => (hg5.block q (by simp; omega) (fun e => hne e.symm)).trans (Below.heap_alloc _ _ _ hq)
      have hs5 : w5.heap[sb]? = some (.cells #[.int .i64 keep, .int .i64 ver, sl, .slice oa (ri PI).length cap] 119 (0, 0)) := (bk sb (by omega) (fun e => by have := (hown.lt sb e).1; omega)).trans (unhide HS1).blk
      have c5 := (blk_cells hs5 3).trans (show _ = some (Value.slice oa (ri PI).length cap) from rfl)
      have fz5 := frz_blk hs5 3
      obtain ⟨o5, n5, k5, hv5⟩ : ∃ oa n cap, v5 = .slice oa n cap := by
        rcases ho5.2 with ⟨h, _⟩ | ⟨g, c, cur, h, _⟩
        . exact ⟨_, _, _, h⟩
        . exact ⟨_, _, _, h⟩
      subst hv5
      have hsl := (unhide HS1).own
      have HH : Hid (PinR sb keep ver sl (.slice oa (ri PI).length cap) LS PI v w (.returned (.int .i64 0)) (w5.setCell ⟨sb, 3, none⟩ (.slice o5 n5 k5))) := by
        have b1 := unhide HB1
        refine Or.inr (Or.inr ⟨hh, by omega, rfl, ⟨hg5.os.trans b1.os, hg5.tape.trans b1.tape, hg5.output.trans b1.output, ?_, ?_⟩, _, ⟨blk_set hs5 _, ?_, ?_⟩, ?_⟩)
        . have := b1.size; simp only [World.setCell, Array.size_modify]; omega
        . intro q hq hn
          rw [Below.heap_setCell _ _ _ _ (fun e => hn (Or.inl e)), bk q (by have := b1.size; omega) (fun e => hn (Or.inr e)), b1.block q hq]
        . refine hsl.same fun g hg => (Below.heap_setCell _ _ _ _ (by have := (hsl.lt g hg).1; simp; omega)).trans (bk g (hsl.lt g hg).2 (fun e => unhide HDJ g e hg))
        . rw [ri_app]
          exact OwnC.same ho5 fun g hg => Below.heap_setCell _ _ _ _ (by have := (OwnC.lt ho5 g hg).1; simp; omega)
        . rcases hd5 with d | d
          . exact Or.inl d
          . exact Or.inr fun g hg => by have := d g hg; have := b1.size; omega
      clear hs5 hsl bk ho5 hg5 hd5 hown s3
      go_wp2_with fail
      go_ret
      exact unhide HH
def UnpR (sb : Nat) (keep ver : Int) (sl : Value) (LS : List (Nat -> Int)) (PI : List Int) (v : Int) (w : World) (e : Ending) (w' : World) : Prop :=
  (v ∉ PI /\ e = .returned (.int .i64 12) /\ Below w.heap.size w w') \/ (v ∈ PI /\ e = .returned (.int .i64 0) /\ Fr (fun k => k = sb) w w' /\ ∃ pv', StP w' sb keep ver sl pv' LS (ri (PI.erase v)) /\ ∀ g, pv'.ownBlock = some g -> w.heap.size <= g)
theorem take_erase {PI : List Int} {v : Int} {k : Nat} (hk : k < PI.length) : (PI.take (k + 1)).erase v = if v ∈ PI.take k then (PI.take k).erase v ++ [PI[k]] else if PI[k] = v then PI.take k else PI.take k ++ [PI[k]] := by
  have e : PI.take (k + 1) = PI.take k ++ [PI[k]] := by rw [List.take_add_one, List.getElem?_eq_getElem hk]; rfl
  rw [e, List.erase_append]
  by_cases c : v ∈ PI.take k
  . rw [if_pos c, if_pos c]
  . rw [if_neg c, if_neg c]
    by_cases d : PI[k] = v
    . rw [if_pos d, d]; simp
    . rw [if_neg d, List.erase_of_not_mem (by simp [Ne.symm d])]
theorem mem_take_succ {PI : List Int} {v : Int} {k : Nat} (hk : k < PI.length) : v ∈ PI.take (k + 1) ↔ v ∈ PI.take k \/ v = PI[k] := by
  have e : PI.take (k + 1) = PI.take k ++ [PI[k]] := by rw [List.take_add_one, List.getElem?_eq_getElem hk]; rfl
  rw [e, List.mem_append, List.mem_singleton]
set_option maxHeartbeats 6400000 in
theorem Unpin_any (sb : Nat) (keep ver : Int) (sl pv : Value) (LS : List (Nat -> Int)) (PI : List Int) (v : Int) (w : World) (hs : StP w sb keep ver sl pv LS (ri PI)) (hl : PI.length <= 6) :
    Calls Tryz.prog 32 #[.pointer (some ⟨sb, 0, none⟩), .int .i64 v] w fun e w' => UnpR sb keep ver sl LS PI v w e w' := by
  obtain ⟨_, _, _, s3⟩ := hs.cells
  have hlt := hs.lt
  obtain ⟨oa, cap, rfl, hc⟩ := hs.pins.ints (by rw [ri_len]; omega)
  have HC := hide hc
  have HS := hide hs
  have HO0 := hide (ownC_empty 3 1 w w.heap.size (Nat.le_refl _))
  have hlen := ri_len PI
  obtain ⟨n, hn⟩ : ∃ n, PI.length = n := ⟨_, rfl⟩
  have HN := hide hn
  have hrn : (ri PI).length = n := by omega
  rw [hrn] at s3 HC HS
  clear hc hs hlen
  go_enter Tryz.func32, Tryz.ntmps32
  go_wp2_with fail
  go_loopw [5, 6, 7] (fun lv fv i wr => ∃ (k : Nat), k <= n /\ i = .int .i64 k /\ Hid (fv = .bool (decide (v ∈ PI.take k))) /\ OwnC 3 1 wr w.heap.size lv (ri ((PI.take k).erase v)) /\ Below w.heap.size w wr) (fun _ _ i _ => n - (intOf i).toNat)
  case atStart => exact ⟨0, by omega, rfl, hide (by simp), unhide HO0, below_one _ _⟩
  case round =>
    obtain ⟨k, hk, rfl, hfv, ho, hb⟩ := hrel
    have hfv' := unhide hfv
    clear hfv
    have r3 := (hb.cell (p := ⟨sb, 3, none⟩) hlt).trans s3
    by_cases hlk : k < n
    . have hkn : (k : Int) < n := by omega
      have hkP : k < PI.length := by rw [unhide HN]; exact hlk
      obtain ⟨b, off, rfl, hbl, hc0⟩ := unhide HC (by omega)
      have ck := (hb.cell (p := ⟨b, off + k, none⟩) hbl).trans (hc0 k hlk)
      rw [ri_gf hkP] at ck
      have HTE := hide (take_erase (v := v) hkP)
      have HMT := hide (mem_take_succ (v := v) hkP)
      obtain ⟨X, hX⟩ : ∃ X, PI[k] = X := ⟨_, rfl⟩
      rw [hX] at ck HTE HMT
      have hsz : w.heap.size <= wr.heap.size := hb.size
      have hL : (ri ((PI.take k).erase v)).length <= 1000 := by
        rw [ri_len]
        have := List.length_erase_le (a := v) (l := PI.take k)
        have h2 : (PI.take k).length <= k := by simp; omega
        omega
      have HBr := hide hb
      clear hc0 hb
      by_cases hin : v ∈ PI.take k
      . rw [decide_eq_true hin] at hfv'
        subst hfv'
        have HD : Hid (decide (v ∈ PI.take (k + 1)) = true) := decide_eq_true ((unhide HMT).2 (Or.inl hin))
        have HL : Hid ((PI.take (k + 1)).erase v = (PI.take k).erase v ++ [X]) := by show (PI.take (k + 1)).erase v = _; rw [unhide HTE, if_pos hin]
        by_cases hx : X = v
        . subst hx
          go_wp2_with (at_builtin; refine ap_int rfl (.tmp 31) (.tmp 39) rfl _ w.heap.size _ (ri ((PI.take k).erase X)) X rfl ho rfl hL hsz ?_)
          intro v5 w5 ho5 hg5 hd5
          have hb5 := ((unhide HBr).alloc hsz (.cells #[.int .i64 X] 3)).grown hg5 (by simp; omega) (fun q hq => (ho.lt q hq).1)
          have HO5 := hide ho5
          clear ho5 hg5 hd5 ck r3 ho
          go_wp2_with fail
          go_roundw
          case rel => exact ⟨k + 1, by omega, by go_num, hide (by rw [unhide HD]), by rw [unhide HL, ri_app]; exact unhide HO5, hb5⟩
          case measure => simp [intOf]; omega
        . go_wp2_with (at_builtin; refine ap_int rfl (.tmp 31) (.tmp 39) rfl _ w.heap.size _ (ri ((PI.take k).erase v)) X rfl ho rfl hL hsz ?_)
          intro v5 w5 ho5 hg5 hd5
          have hb5 := ((unhide HBr).alloc hsz (.cells #[.int .i64 X] 3)).grown hg5 (by simp; omega) (fun q hq => (ho.lt q hq).1)
          have HO5 := hide ho5
          clear ho5 hg5 hd5 ck r3 ho
          go_wp2_with fail
          go_roundw
          case rel => exact ⟨k + 1, by omega, by go_num, hide (by rw [unhide HD]), by rw [unhide HL, ri_app]; exact unhide HO5, hb5⟩
          case measure => simp [intOf]; omega
      . rw [decide_eq_false hin] at hfv'
        subst hfv'
        have her : (PI.take k).erase v = PI.take k := List.erase_of_not_mem hin
        by_cases hx : X = v
        . have HD : Hid (decide (v ∈ PI.take (k + 1)) = true) := decide_eq_true ((unhide HMT).2 (Or.inr hx.symm))
          have HL : Hid ((PI.take (k + 1)).erase v = (PI.take k).erase v) := by show (PI.take (k + 1)).erase v = _; rw [unhide HTE, if_neg hin, if_pos hx, her]
          have HO5 := hide ho
          subst hx
          clear ho her
          go_wp2_with fail
          go_roundw
          case rel => exact ⟨k + 1, by omega, by go_num, hide (by rw [unhide HD]), by rw [unhide HL]; exact unhide HO5, unhide HBr⟩
          case measure => simp [intOf]; omega
        . have HD : Hid (decide (v ∈ PI.take (k + 1)) = false) := decide_eq_false (fun h => by rcases (unhide HMT).1 h with h | h; exact hin h; exact hx h.symm)
          have HL : Hid ((PI.take (k + 1)).erase v = (PI.take k).erase v ++ [X]) := by show (PI.take (k + 1)).erase v = _; rw [unhide HTE, if_neg hin, if_neg hx, her]
          clear her
          go_wp2_with (at_builtin; refine ap_int rfl (.tmp 31) (.tmp 39) rfl _ w.heap.size _ (ri ((PI.take k).erase v)) X rfl ho rfl hL hsz ?_)
          intro v5 w5 ho5 hg5 hd5
          have hb5 := ((unhide HBr).alloc hsz (.cells #[.int .i64 X] 3)).grown hg5 (by simp; omega) (fun q hq => (ho.lt q hq).1)
          have HO5 := hide ho5
          clear ho5 hg5 hd5 ck r3 ho
          go_wp2_with fail
          go_roundw
          case rel => exact ⟨k + 1, by omega, by go_num, hide (by rw [unhide HD]), by rw [unhide HL, ri_app]; exact unhide HO5, hb5⟩
          case measure => simp [intOf]; omega
    . have hkn : k = n := by omega
      subst hkn
      have htk : PI.take k = PI := List.take_of_length_le (by rw [unhide HN]; omega)
      rw [htk] at hfv' ho
      by_cases hin : v ∈ PI
      . rw [decide_eq_true hin] at hfv'
        subst hfv'
        have hsr := (hb.block sb hlt).trans (unhide HS).blk
        have fz := frz_blk hsr 3
        obtain ⟨o5, n5, k5, hv5⟩ : ∃ oa n cap, u5 = .slice oa n cap := by
          rcases ho.2 with ⟨h, _⟩ | ⟨g, c, cur, h, _⟩
          . exact ⟨_, _, _, h⟩
          . exact ⟨_, _, _, h⟩
        subst hv5
        have hsl := (unhide HS).own
        have HH : Hid (UnpR sb keep ver sl LS PI v w (.returned (.int .i64 0)) (wr.setCell ⟨sb, 3, none⟩ (.slice o5 n5 k5))) := by
          refine Or.inr ⟨hin, rfl, ⟨hb.os, hb.tape, hb.output, by have := hb.size; simpa [World.setCell] using this, fun q hq hn => ?_⟩, _, ⟨blk_set hsr _, ?_, ?_⟩, fun g hg => (ho.lt g hg).1⟩
          . rw [Below.heap_setCell _ _ _ _ (fun e => hn e), hb.block q hq]
          . exact hsl.same fun g hg => (Below.heap_setCell _ _ _ _ (by have := (hsl.lt g hg).1; simp; omega)).trans (hb.block g (hsl.lt g hg).2)
          . exact (ho.same fun g hg => Below.heap_setCell _ _ _ _ (by have := (ho.lt g hg).1; simp; omega)).mono (by omega)
        clear hb ho hsr hsl s3
        go_wp2_with fail
        go_ret
        exact unhide HH
      . rw [decide_eq_false hin] at hfv'
        subst hfv'
        have HH : Hid (UnpR sb keep ver sl LS PI v w (.returned (.int .i64 12)) wr) := Or.inl ⟨hin, rfl, hb⟩
        clear hb ho
        go_wp2_with fail
        go_ret
        exact unhide HH
theorem inV_end {v n : Int} {g : Nat -> Int} (hv : v <= n) (hn : 0 <= n) (h0 : g 25 = 0) : inV v (upd g 25 (n + 1)) = inV v g := by
  unfold inV upd
  simp only [if_true, show ¬ (24 : Nat) = 25 by omega, if_false, h0]
  rw [decide_eq_true (show v < n + 1 by omega), decide_eq_false (show ¬ n + 1 = 0 by omega)]
  simp
theorem inV_new {v n : Int} {f : Nat -> Int} (hv : v <= n) : inV v (lifeOf f (n + 1)) = false := by
  unfold inV lifeOf
  simp only [show ¬ (24 : Nat) < 24 by omega, if_false, if_true]
  rw [decide_eq_false (by omega)]; rfl
theorem inV_now {n : Int} {g : Nat -> Int} (h : g 24 <= n /\ g 25 <= n) : inV n g = decide (g 25 = 0) := by
  unfold inV
  rw [decide_eq_true h.1, decide_eq_false (show ¬ n < g 25 by omega)]
  simp
theorem RelV.end_ {v n : Int} {LS G : List (Nat -> Int)} (h : RelV v LS G) (hv : v <= n) (hn : 0 <= n) {i : Nat} (hi : gf LS i 25 = 0) : RelV v (setL LS i 25 (n + 1)) G := by
  have key : ∀ k, k < LS.length -> inV v (gf (setL LS i 25 (n + 1)) k) = inV v (gf LS k) /\ SF (gf (setL LS i 25 (n + 1)) k) (gf LS k) := by
    intro k hk
    rw [setL_gf _ _ _ _ _ hk]
    by_cases e : k = i
    . subst e; rw [if_pos rfl]; exact ⟨inV_end hv hn hi, sf_upd _ _⟩
    . rw [if_neg e]; exact ⟨rfl, fun _ _ => rfl⟩
  refine ⟨fun k hk hin => ?_, fun j hj => ?_, h.rt, h.dis, h.le40⟩
  . rw [setL_len] at hk
    rw [(key k hk).1] at hin
    obtain ⟨j, hj, hs⟩ := h.fwd k hk hin
    exact ⟨j, hj, (key k hk).2.trans hs⟩
  . obtain ⟨k, hk, hin, hs⟩ := h.fro j hj
    exact ⟨k, by rw [setL_len]; exact hk, by rw [(key k hk).1]; exact hin, (key k hk).2.trans hs⟩
theorem RelV.join {v n : Int} {LS G : List (Nat -> Int)} (h : RelV v LS G) (hv : v <= n) (f : Nat -> Int) : RelV v (LS ++ [lifeOf f (n + 1)]) G := by
  refine ⟨fun k hk hin => ?_, fun j hj => ?_, h.rt, h.dis, h.le40⟩
  . by_cases c : k < LS.length
    . rw [gf_left c] at hin ⊢; exact h.fwd k c hin
    . have : k = LS.length := by simp at hk; omega
      subst this; rw [gf_last, inV_new hv] at hin; cases hin
  . obtain ⟨k, hk, hin, hs⟩ := h.fro j hj
    exact ⟨k, by simp; omega, by rw [gf_left hk]; exact hin, by rw [gf_left hk]; exact hs⟩
theorem bnd_end' {LS : List (Nat -> Int)} {m : Int} (hB : Bnd LS m) (i : Nat) : Bnd (setL LS i 25 m) m := by
  intro k hk
  rw [setL_len] at hk
  have := hB k hk
  rw [setL_gf _ _ _ _ _ hk]
  by_cases e : k = i
  . subst e; rw [if_pos rfl]; simp only [upd]; simp; omega
  . rw [if_neg e]; exact this
theorem EditR.keeps {n : Int} {e : Nat -> Int} {LS LS' : List (Nat -> Int)} (h : EditR (n + 1) e LS 0 LS') (hn : 0 <= n) (hB : Bnd LS (n + 1)) : Bnd LS' (n + 1) /\ ∀ v, v <= n -> ∀ G, RelV v LS G -> RelV v LS' G := by
  rcases h with ⟨_, hP⟩ | ⟨_, hD⟩ | ⟨_, _, q, _⟩
  . rcases hP with ⟨_, q, _⟩ | ⟨_, ⟨i, hF, _, rfl⟩ | ⟨_, _, q, _⟩ | ⟨_, _, _, rfl⟩⟩
    . omega
    . exact ⟨bnd_join (bnd_end' hB i) (by omega) (Int.le_refl _) _, fun v hv G hR => (hR.end_ hv hn hF.2.1.1).join hv _⟩
    . omega
    . exact ⟨bnd_join hB (by omega) (Int.le_refl _) _, fun v hv G hR => hR.join hv _⟩
  . rcases hD with ⟨i, hF, _, rfl⟩ | ⟨_, q, _⟩
    . exact ⟨bnd_end' hB i, fun v hv G hR => hR.end_ hv hn hF.2.1.1⟩
    . omega
  . omega
theorem relV_now {n : Int} {LS FL : List (Nat -> Int)} (h : Rel LS FL) (hB : Bnd LS n) (h40 : FL.length <= 40) : RelV n LS FL := by
  refine ⟨fun i hi hin => ?_, fun j hj => ?_, h.rt, h.dis, h40⟩
  . rw [inV_now (hB i hi), decide_eq_true_eq] at hin
    exact h.fwd i hi hin
  . obtain ⟨i, hi, h25, hs⟩ := h.fro j hj
    exact ⟨i, hi, by rw [inV_now (hB i hi)]; exact decide_eq_true h25, hs⟩
theorem relV_nil : RelV 0 [] [] := relV_now rel_nil (fun i hi => by simp at hi) (by simp)
theorem OwnC.ty {T : TypeId} {m : Nat} {w : World} {B : Nat} {v : Value} {l : List (Nat -> Int)} (h : OwnC T m w B v l) {g : Nat} (hg : v.ownBlock = some g) : ∃ cur, w.heap[g]? = some (.cells cur T (0, 0)) := by
  rcases h.2 with ⟨rfl, _⟩ | ⟨g', cap, cur, rfl, _, hh, _⟩
  . simp [Value.ownBlock] at hg
  . simp only [Value.ownBlock, Option.some.injEq] at hg
    subst hg; exact ⟨cur, hh⟩
theorem blk_ne {w : World} {g g' : Nat} {c c' : Array Value} {T T' : TypeId} {f f' : Nat × Nat} (h : w.heap[g]? = some (.cells c T f)) (h' : w.heap[g']? = some (.cells c' T' f')) (hT : T ≠ T') : g ≠ g' := by
  intro e; subst e; rw [h] at h'; simp only [Option.some.injEq, Obj.cells.injEq] at h'; exact hT h'.2.1
def wo (fs : List (Nat -> Int)) (id : Int) : List (Nat -> Int) := fs.filter fun f => !decide (f 0 = id)
def gn (fs : List (Nat -> Int)) (id : Int) : List (Nat -> Int) := fs.filter fun f => decide (f 0 = id)
def edX (fs : List (Nat -> Int)) (e : Nat -> Int) : Int :=
  if e 0 = 0 then (if right (eF e) = true then (if (wo fs (e 1)).length + 1 <= 40 then 0 else 11) else 7) else if e 0 = 1 then (if gn fs (e 1) = [] then 10 else 0) else 9
def edN (fs : List (Nat -> Int)) (e : Nat -> Int) : List (Nat -> Int) := if edX fs e = 0 then (if e 0 = 0 then wo fs (e 1) ++ [eF e] else wo fs (e 1)) else []
def edM (fs : List (Nat -> Int)) (e : Nat -> Int) : List (Nat -> Int) := if edX fs e = 0 then (if e 0 = 0 then gn fs (e 1) ++ [eF e] else gn fs (e 1)) else []
def edT (fs : List (Nat -> Int)) (es : Nat -> Nat -> Int) : Nat -> List (Nat -> Int)
  | 0 => fs
  | k + 1 => edN (edT fs es k) (es k)
def mvT (fs : List (Nat -> Int)) (es : Nat -> Nat -> Int) : Nat -> List (Nat -> Int)
  | 0 => []
  | k + 1 => mvT fs es k ++ edM (edT fs es k) (es k)
abbrev Bat := List (Nat -> Int)
def btc (bs : List Bat) (v : Nat) : Bat := bs.getD v []
def atV (bs : List Bat) : Nat -> List (Nat -> Int)
  | 0 => []
  | v + 1 => edT (atV bs v) (gf (btc bs v)) (btc bs v).length
def lsV (bs : List Bat) (l z x y : Int) : Nat -> Nat
  | 0 => 0
  | v + 1 => bif (mvT (atV bs v) (gf (btc bs v)) (btc bs v).length).any (fun f => Tch f l z x y) then v + 1 else lsV bs l z x y v
theorem edN_len {fs : List (Nat -> Int)} {e : Nat -> Int} (h : fs.length <= 40) : (edN fs e).length <= 40 := by
  have hw : (wo fs (e 1)).length <= fs.length := List.length_filter_le _ _
  unfold edN
  split
  . rename_i h0
    split
    . rename_i h1
      unfold edX at h0
      rw [if_pos h1] at h0
      split at h0
      . split at h0
        . rw [List.length_append, List.length_singleton]; assumption
        . cases h0
      . cases h0
    . omega
  . simp
theorem edT_len {fs : List (Nat -> Int)} {es : Nat -> Nat -> Int} (h : fs.length <= 40) : ∀ k, (edT fs es k).length <= 40
  | 0 => h
  | k + 1 => edN_len (edT_len h k)
theorem edM_len {fs : List (Nat -> Int)} {e : Nat -> Int} : (edM fs e).length <= fs.length + 1 := by
  have hw : (gn fs (e 1)).length <= fs.length := List.length_filter_le _ _
  unfold edM
  split
  . split
    . rw [List.length_append, List.length_singleton]; omega
    . omega
  . simp
theorem atV_len (bs : List Bat) : ∀ v, (atV bs v).length <= 40
  | 0 => by simp [atV]
  | v + 1 => edT_len (atV_len bs v) _
theorem btc_old {bs : List Bat} {b : Bat} {v : Nat} (h : v < bs.length) : btc (bs ++ [b]) v = btc bs v := by
  unfold btc; simp [List.getD, List.getElem?_append_left h]
theorem btc_new (bs : List Bat) (b : Bat) : btc (bs ++ [b]) bs.length = b := by
  unfold btc; simp [List.getD]
theorem atV_old {bs : List Bat} {b : Bat} : ∀ {v : Nat}, v <= bs.length -> atV (bs ++ [b]) v = atV bs v
  | 0, _ => rfl
  | v + 1, h => by rw [atV, atV, atV_old (by omega), btc_old (by omega)]
theorem lsV_old {bs : List Bat} {b : Bat} {l z x y : Int} : ∀ {v : Nat}, v <= bs.length -> lsV (bs ++ [b]) l z x y v = lsV bs l z x y v
  | 0, _ => rfl
  | v + 1, h => by rw [lsV, lsV, lsV_old (by omega), btc_old (by omega), atV_old (by omega)]
theorem atV_new (bs : List Bat) (b : Bat) : atV (bs ++ [b]) (bs.length + 1) = edT (atV bs bs.length) (gf b) b.length := by rw [atV, btc_new, atV_old (Nat.le_refl _)]
theorem lsV_new (bs : List Bat) (b : Bat) (l z x y : Int) : lsV (bs ++ [b]) l z x y (bs.length + 1) = bif (mvT (atV bs bs.length) (gf b) b.length).any (fun f => Tch f l z x y) then bs.length + 1 else lsV bs l z x y bs.length := by rw [lsV, btc_new, atV_old (Nat.le_refl _), lsV_old (Nat.le_refl _)]
theorem gf_memL {l : List (Nat -> Int)} {j : Nat} (h : j < l.length) : gf l j ∈ l := by
  unfold gf; rw [List.getElem?_eq_getElem h]; exact List.getElem_mem h
theorem mem_gfL {l : List (Nat -> Int)} {a : Nat -> Int} (h : a ∈ l) : ∃ j, j < l.length /\ gf l j = a := by
  obtain ⟨j, hj, e⟩ := List.getElem_of_mem h
  exact ⟨j, hj, by unfold gf; rw [List.getElem?_eq_getElem hj]; exact e⟩
theorem gf_get {l : List (Nat -> Int)} {j : Nat} (h : j < l.length) : gf l j = l[j] := by unfold gf; rw [List.getElem?_eq_getElem h]; rfl
def Dis (l : List (Nat -> Int)) : Prop := l.Pairwise fun a b => a 0 ≠ b 0
theorem dis_in {l : List (Nat -> Int)} (h : ∀ j j', j < l.length -> j' < l.length -> gf l j 0 = gf l j' 0 -> j = j') : Dis l := by
  unfold Dis
  rw [List.pairwise_iff_getElem]
  intro i j hi hj hij e
  have := h i j hi hj (by rw [gf_get hi, gf_get hj]; exact e)
  omega
theorem dis_out {l : List (Nat -> Int)} (h : Dis l) : ∀ j j', j < l.length -> j' < l.length -> gf l j 0 = gf l j' 0 -> j = j' := by
  intro i j hi hj e
  unfold Dis at h
  rw [List.pairwise_iff_getElem] at h
  rw [gf_get hi, gf_get hj] at e
  rcases Nat.lt_trichotomy i j with c | c | c
  . exact absurd e (h i j hi hj c)
  . exact c
  . exact absurd e.symm (h j i hj hi c)
theorem wo_none {l : List (Nat -> Int)} {id : Int} (h : ∀ a ∈ l, a 0 ≠ id) : wo l id = l := by
  unfold wo; rw [List.filter_eq_self]; intro a ha; simp [h a ha]
theorem gn_none {l : List (Nat -> Int)} {id : Int} (h : ∀ a ∈ l, a 0 ≠ id) : gn l id = [] := by
  unfold gn; rw [List.filter_eq_nil_iff]; intro a ha; simp [h a ha]
theorem gn_one {id : Int} {a : Nat -> Int} : ∀ {l : List (Nat -> Int)}, Dis l -> a ∈ l -> a 0 = id -> gn l id = [a] /\ l.length = (wo l id).length + 1
  | [], _, h, _ => by simp at h
  | b :: l, hd, h, e => by
    unfold Dis at hd
    rw [List.pairwise_cons] at hd
    rcases List.mem_cons.1 h with rfl | h
    . have hn : ∀ c ∈ l, c 0 ≠ id := fun c hc q => hd.1 c hc (e.trans q.symm)
      have h1 := gn_none hn
      have h2 := wo_none hn
      unfold gn at h1 ⊢
      unfold wo at h2 ⊢
      rw [List.filter_cons, List.filter_cons, h1, h2]
      simp [e]
    . obtain ⟨h1, h2⟩ := gn_one hd.2 h e
      have hb : b 0 ≠ id := fun q => hd.1 a h (q.trans e.symm)
      unfold gn at h1 ⊢
      unfold wo at h2 ⊢
      rw [List.filter_cons, List.filter_cons, h1]
      simp [hb]
      simpa using h2
theorem gone_wo {FL : List (Nat -> Int)} {id : Int} {j : Nat} (hd : Dis FL) (hj : j < FL.length) (e : gf FL j 0 = id) : Gone FL id (wo FL id) := by
  refine ⟨(gn_one hd (gf_memL hj) e).2, fun i hi => ?_, fun a ha hne => ?_, dis_out (List.Pairwise.filter _ hd)⟩
  . have hm := gf_memL hi
    unfold wo at hm
    rw [List.mem_filter] at hm
    obtain ⟨a, ha, q⟩ := mem_gfL hm.1
    refine ⟨a, ha, q, fun c => ?_⟩
    rw [q] at c
    have := hm.2
    simp [c] at this
  . have : gf FL a ∈ wo FL id := by
      unfold wo; rw [List.mem_filter]; exact ⟨gf_memL ha, by simp [hne]⟩
    obtain ⟨j, hj, q⟩ := mem_gfL this
    exact ⟨j, hj, q⟩
theorem Rel.edit {LS FL LS' : List (Nat -> Int)} {e : Nat -> Int} {r ver : Int} (h : Rel LS FL) (h40 : FL.length <= 40) (hv : ver ≠ 0) (hA : EditR ver e LS r LS') : r = edX FL e /\ (r = 0 -> Rel LS' (edN FL e)) := by
  have hd := dis_in h.dis
  have fst : ∀ {id : Int} {i : Nat}, Fst LS id i -> ∃ j, j < FL.length /\ gf FL j 0 = id /\ (wo FL id).length + 1 = FL.length /\ gn FL id = [gf FL j] := fun hF => by
    obtain ⟨j, hj, hid, _⟩ := h.fst hF
    have := gn_one hd (gf_memL hj) hid
    exact ⟨j, hj, hid, this.2.symm, this.1⟩
  have non : ∀ {id : Int}, Non LS id -> wo FL id = FL /\ gn FL id = [] := fun hN => by
    have hNo := h.non hN
    have hm : ∀ a ∈ FL, a 0 ≠ _ := fun a ha q => by
      obtain ⟨j, hj, e⟩ := mem_gfL ha
      exact hNo j hj (by rw [e]; exact q)
    exact ⟨wo_none hm, gn_none hm⟩
  have hn0 : ∀ {id : Int}, Non LS id -> No FL id := fun hN => h.non hN
  have hno : ∀ id, No (wo FL id) id := fun id j hj q => by
    have hm := gf_memL hj
    unfold wo at hm q
    rw [List.mem_filter] at hm
    simp [q] at hm
  rcases hA with ⟨h0, hP⟩ | ⟨h1, hD⟩ | ⟨n0, n1, rfl, _⟩
  . rcases hP with ⟨hr, rfl, _⟩ | ⟨hr, ⟨i, hF, rfl, rfl⟩ | ⟨hN, hc, rfl, _⟩ | ⟨hN, hc, rfl, rfl⟩⟩
    . have hr' : right (eF e) = false := hr
      refine ⟨by unfold edX; rw [if_pos h0, hr']; rfl, fun q => by omega⟩
    . have hr' : right (eF e) = true := hr
      obtain ⟨j, hj, hid, hl, _⟩ := fst hF
      have hx : edX FL e = 0 := by unfold edX; rw [if_pos h0, if_pos hr', if_pos (show (wo FL (e 1)).length + 1 <= 40 from by have hl' : (wo FL (e 1)).length + 1 = FL.length := hl; omega)]
      refine ⟨hx.symm, fun _ => ?_⟩
      unfold edN
      rw [if_pos hx, if_pos h0]
      exact (h.gone hF hv (gone_wo hd hj hid)).join (right_out hr') (hno _)
    . have hr' : right (eF e) = true := hr
      have hw : wo FL (e 1) = FL := (non hN).1
      have := h.cnt
      refine ⟨by unfold edX; rw [if_pos h0, if_pos hr', hw, if_neg (by omega)], fun q => by omega⟩
    . have hr' : right (eF e) = true := hr
      have hw : wo FL (e 1) = FL := (non hN).1
      have := h.cnt
      have hx : edX FL e = 0 := by unfold edX; rw [if_pos h0, if_pos hr', hw, if_pos (by omega)]
      refine ⟨hx.symm, fun _ => ?_⟩
      unfold edN
      rw [if_pos hx, if_pos h0, hw]
      exact h.join (right_out hr') (hn0 hN)
  . have h0 : ¬ e 0 = 0 := by omega
    rcases hD with ⟨i, hF, rfl, rfl⟩ | ⟨hN, rfl, _⟩
    . obtain ⟨j, hj, hid, hl, hg⟩ := fst hF
      have hx : edX FL e = 0 := by unfold edX; rw [if_neg h0, if_pos h1, if_neg (by rw [hg]; simp)]
      refine ⟨hx.symm, fun _ => ?_⟩
      unfold edN
      rw [if_pos hx, if_neg h0]
      exact h.gone hF hv (gone_wo hd hj hid)
    . have hg : gn FL (e 1) = [] := (non hN).2
      refine ⟨by unfold edX; rw [if_neg h0, if_pos h1, if_pos hg], fun q => by omega⟩
  . refine ⟨by unfold edX; rw [if_neg n0, if_neg n1], fun q => by omega⟩
theorem Rel.stamps {LS FL LS' : List (Nat -> Int)} {e : Nat -> Int} {n : Int} (h : Rel LS FL) (h40 : FL.length <= 40) (hn : 0 <= n) (hA : EditR (n + 1) e LS 0 LS') (l z x y : Int) :
    stp (n + 1) l z x y LS' LS'.length = (bif (edM FL e).any (fun f => Tch f l z x y) then n + 1 else stp (n + 1) l z x y LS LS.length) /\ ∀ v, v <= n -> stp v l z x y LS' LS'.length = stp v l z x y LS LS.length := by
  have hx := (h.edit h40 (by omega) hA).1.symm
  have hd := dis_in h.dis
  have fst : ∀ {id : Int} {i : Nat}, Fst LS id i -> ∃ a, gn FL id = [a] /\ Tch (gf LS i) l z x y = Tch a l z x y := fun hF => by
    obtain ⟨j, hj, hid, hs⟩ := h.fst hF
    exact ⟨_, (gn_one hd (gf_memL hj) hid).1, Tch_ext hs _ _ _ _⟩
  have non : ∀ {id : Int}, Non LS id -> gn FL id = [] := fun hN => gn_none fun a ha q => by
    obtain ⟨j, hj, e⟩ := mem_gfL ha
    exact h.non hN j hj (by rw [e]; exact q)
  rcases hA with ⟨h0, hP⟩ | ⟨h1, hD⟩ | ⟨_, _, q, _⟩
  . have hM : edM FL e = gn FL (e 1) ++ [eF e] := by unfold edM; rw [if_pos hx, if_pos h0]
    rw [hM]
    rcases hP with ⟨_, q, _⟩ | ⟨hr, ⟨i, hF, _, rfl⟩ | ⟨_, _, q, _⟩ | ⟨hN, _, _, rfl⟩⟩
    . omega
    . obtain ⟨a, hg, ht⟩ := fst hF
      have hg' : gn FL (e 1) = [a] := hg
      rw [hg']
      refine ⟨?_, fun v hv => (stp_join_old _ hv).trans (stp_end_old hF.1 hF.2.1.1 hv)⟩
      rw [stp_join_new _ hn, stp_end_new hF.1 hn, ht]
      show _ = bif (Tch a l z x y || (Tch (eF e) l z x y || false)) then n + 1 else _
      cases Tch a l z x y <;> cases q : Tch (eF e) l z x y <;> rw [show Tch (fun j => e (1 + j)) l z x y = _ from q] <;> rfl
    . omega
    . have hg' : gn FL (e 1) = [] := non hN
      rw [hg']
      refine ⟨?_, fun v hv => stp_join_old _ hv⟩
      rw [stp_join_new _ hn]
      show _ = bif (Tch (eF e) l z x y || false) then n + 1 else _
      cases q : Tch (eF e) l z x y <;> rw [show Tch (fun j => e (1 + j)) l z x y = _ from q] <;> rfl
  . have hM : edM FL e = gn FL (e 1) := by unfold edM; rw [if_pos hx, if_neg (by omega)]
    rw [hM]
    rcases hD with ⟨i, hF, _, rfl⟩ | ⟨_, q, _⟩
    . obtain ⟨a, hg, ht⟩ := fst hF
      rw [hg]
      refine ⟨?_, fun v hv => stp_end_old hF.1 hF.2.1.1 hv⟩
      rw [stp_end_new hF.1 hn, ht]
      show _ = bif (Tch a l z x y || false) then n + 1 else _
      cases Tch a l z x y <;> rfl
    . omega
  . omega
theorem batch_ref {n : Int} {es : Nat -> Nat -> Int} {LS FL : List (Nat -> Int)} (hn : 0 <= n) (hR : Rel LS FL) (h40 : FL.length <= 40) (hB : Bnd LS (n + 1)) : ∀ {k : Nat} {LSk : List (Nat -> Int)}, AppK (n + 1) es LS k LSk ->
    (∀ j, j < k -> edX (edT FL es j) (es j) = 0) /\ Rel LSk (edT FL es k) /\ Bnd LSk (n + 1) /\ (∀ v, v <= n -> ∀ G, RelV v LS G -> RelV v LSk G) /\
    ∀ l z x y, stp (n + 1) l z x y LSk LSk.length = (bif (mvT FL es k).any (fun f => Tch f l z x y) then n + 1 else stp (n + 1) l z x y LS LS.length) /\ ∀ v, v <= n -> stp v l z x y LSk LSk.length = stp v l z x y LS LS.length
  | 0, _, h1 => by
    rw [show _ = LS from h1]
    exact ⟨fun j hj => by omega, hR, hB, fun _ _ _ h => h, fun l z x y => ⟨rfl, fun _ _ => rfl⟩⟩
  | k + 1, _, ⟨LSm, a1, a2⟩ => by
    obtain ⟨q0, q1, q2, q3, q4⟩ := batch_ref hn hR h40 hB a1
    have h40' := edT_len (es := es) h40 k
    obtain ⟨e1, e2⟩ := q1.edit h40' (by omega) a2
    obtain ⟨q5, q6⟩ := a2.keeps hn q2
    refine ⟨fun j hj => ?_, e2 rfl, q5, fun v hv G h => q6 v hv G (q3 v hv G h), fun l z x y => ?_⟩
    . by_cases c : j = k
      . subst c; exact e1.symm
      . exact q0 j (by omega)
    . obtain ⟨s1, s2⟩ := q1.stamps h40' hn a2 l z x y
      obtain ⟨t1, t2⟩ := q4 l z x y
      refine ⟨?_, fun v hv => (s2 v hv).trans (t2 v hv)⟩
      rw [s1, t1, mvT, List.any_append]
      cases (mvT FL es k).any (fun f => Tch f l z x y) <;> cases (edM (edT FL es k) (es k)).any (fun f => Tch f l z x y) <;> rfl
structure PR (LS : List (Nat -> Int)) (bs : List Bat) : Prop where
  rel : ∀ v : Nat, v <= bs.length -> RelV v LS (atV bs v)
  now : Rel LS (atV bs bs.length)
  bnd : Bnd LS bs.length
  stm : ∀ v : Nat, v <= bs.length -> ∀ l z x y, stp v l z x y LS LS.length = (lsV bs l z x y v : Nat)
  le : LS.length <= 8 * bs.length
  max : bs.length <= 100
theorem pr_nil : PR [] [] :=
  ⟨fun v hv => by cases (Nat.le_zero.1 hv); exact relV_nil, rel_nil, fun i hi => by simp at hi, fun v hv l z x y => by cases (Nat.le_zero.1 hv); rfl, by simp, by simp⟩
theorem PR.yes {LS LSk : List (Nat -> Int)} {bs : List Bat} {b : Bat} (h : PR LS bs) (hb : b.length <= 8) (hm : bs.length < 100) (hA : AppK ((bs.length : Nat) + 1) (gf b) LS b.length LSk) : (∀ j, j < b.length -> edX (edT (atV bs bs.length) (gf b) j) (gf b j) = 0) /\ PR LSk (bs ++ [b]) := by
  have hB : Bnd LS (bs.length + 1) := fun i hi => by have := h.bnd i hi; omega
  obtain ⟨q0, q1, q2, q3, q4⟩ := batch_ref (n := bs.length) (by omega) h.now (atV_len bs _) hB hA
  refine ⟨q0, fun v hv => ?_, ?_, ?_, fun v hv l z x y => ?_, ?_, ?_⟩
  . rw [List.length_append, List.length_singleton] at hv
    by_cases c : v <= bs.length
    . rw [atV_old c]; exact q3 v (by omega) _ (h.rel v c)
    . obtain rfl : v = bs.length + 1 := by omega
      rw [atV_new]
      exact relV_now q1 (by simpa using q2) (edT_len (atV_len bs _) _)
  . rw [List.length_append, List.length_singleton, atV_new]; exact q1
  . rw [List.length_append, List.length_singleton]; simpa using q2
  . rw [List.length_append, List.length_singleton] at hv
    obtain ⟨s1, s2⟩ := q4 l z x y
    by_cases c : v <= bs.length
    . rw [lsV_old c, s2 v (by omega)]; exact h.stm v c l z x y
    . obtain rfl : v = bs.length + 1 := by omega
      rw [lsV_new]
      have e : ((bs.length + 1 : Nat) : Int) = (bs.length : Int) + 1 := by omega
      rw [e, s1, stp_up h.bnd, h.stm _ (Nat.le_refl _)]
      cases (mvT (atV bs bs.length) (gf b) b.length).any (fun f => Tch f l z x y) <;> simp
  . have := hA.len; have := h.le; simp; omega
  . simp; omega
theorem PR.no {LS LSk LS' : List (Nat -> Int)} {bs : List Bat} {es : Nat -> Nat -> Int} {k : Nat} {r : Int} (h : PR LS bs) (hA : AppK ((bs.length : Nat) + 1) es LS k LSk) (hE : EditR ((bs.length : Nat) + 1) (es k) LSk r LS') : (∀ j, j < k -> edX (edT (atV bs bs.length) es j) (es j) = 0) /\ edX (edT (atV bs bs.length) es k) (es k) = r := by
  have hB : Bnd LS (bs.length + 1) := fun i hi => by have := h.bnd i hi; omega
  obtain ⟨q0, q1, q2, q3, q4⟩ := batch_ref (n := bs.length) (by omega) h.now (atV_len bs _) hB hA
  exact ⟨q0, (q1.edit (edT_len (atV_len bs _) _) (by omega) hE).1.symm⟩
theorem cle_mono {FL : List (Nat -> Int)} {a b : Int} (h : a <= b) : ∀ k, cle FL a k <= cle FL b k
  | 0 => Nat.le_refl _
  | k + 1 => by
    have := cle_mono (FL := FL) h k
    rw [cle, cle]
    by_cases c : gf FL k 0 <= a
    . rw [if_pos c, if_pos (by omega)]; omega
    . rw [if_neg c]; split <;> omega
theorem cle_less {FL : List (Nat -> Int)} {a b : Int} {j : Nat} (h1 : ¬ gf FL j 0 <= a) (h2 : gf FL j 0 <= b) : ∀ k, j < k -> cle FL a k + 1 <= cle FL b k
  | 0, h => by omega
  | k + 1, h => by
    rw [cle, cle]
    by_cases e : j = k
    . subst e
      rw [if_neg h1, if_pos h2]
      have := cle_mono (FL := FL) (a := a) (b := b) (by omega) j
      omega
    . have := cle_less h1 h2 k (by omega)
      by_cases c : gf FL k 0 <= a
      . rw [if_pos c, if_pos (by omega)]; omega
      . rw [if_neg c]; split <;> omega
theorem RdP.lower {FL R : List (Nat -> Int)} {a : Int} (h : RdP FL a R) : ∀ i, i <= R.length -> cle FL a FL.length + i <= cle FL (pid a R i) FL.length
  | 0, _ => Nat.le_refl _
  | i + 1, hi => by
    have ih := h.lower i (by omega)
    obtain ⟨j, hj, hs⟩ := h.mem i (by omega)
    have hr := h.ris i (by omega)
    have e0 := hs 0 (by omega)
    have := cle_less (FL := FL) (a := pid a R i) (b := gf R i 0) (j := j) (by omega) (by omega) FL.length hj
    show _ <= cle FL (gf R i 0) FL.length
    omega
theorem RdP.upper {FL R : List (Nat -> Int)} {a : Int} (h : RdP FL a R) : ∀ d i, i + d = R.length -> cle FL (pid a R i) FL.length + d <= cle FL (pid a R R.length) FL.length
  | 0, i, hi => by rw [show i = R.length by omega]; omega
  | d + 1, i, hi => by
    have ih := h.upper d (i + 1) (by omega)
    obtain ⟨j, hj, hs⟩ := h.mem i (by omega)
    have hr := h.ris i (by omega)
    have e0 := hs 0 (by omega)
    have := cle_less (FL := FL) (a := pid a R i) (b := gf R i 0) (j := j) (by omega) (by omega) FL.length hj
    have e : pid a R (i + 1) = gf R i 0 := rfl
    rw [e] at ih
    omega
theorem RdP.pre {FL R : List (Nat -> Int)} {a : Int} (h : RdP FL a R) {i : Nat} (hi : i <= R.length) : cle FL (pid a R i) FL.length = cle FL a FL.length + i := by
  have h1 := h.lower i hi
  have h2 := h.upper (R.length - i) i (by omega)
  have h3 := h.cnt
  omega
theorem RdP.same {FL R R' : List (Nat -> Int)} {a a' : Int} (hd : Dis FL) (h : RdP FL a R) (h' : RdP FL a' R') {i i' : Nat} (hi : i < R.length) (hi' : i' < R'.length) (he : cle FL a FL.length + i = cle FL a' FL.length + i') : SF (gf R i) (gf R' i') := by
  have h1 := h.pre (i := i + 1) (by omega)
  have h2 := h'.pre (i := i' + 1) (by omega)
  have e1 : pid a R (i + 1) = gf R i 0 := rfl
  have e2 : pid a' R' (i' + 1) = gf R' i' 0 := rfl
  rw [e1] at h1
  rw [e2] at h2
  obtain ⟨j, hj, hs⟩ := h.mem i hi
  obtain ⟨j', hj', hs'⟩ := h'.mem i' hi'
  have g1 := hs 0 (by omega)
  have g2 := hs' 0 (by omega)
  have : gf R i 0 = gf R' i' 0 := by
    rcases Int.lt_trichotomy (gf R i 0) (gf R' i' 0) with c | c | c
    . have := cle_less (FL := FL) (a := gf R i 0) (b := gf R' i' 0) (j := j') (by omega) (by omega) FL.length hj'
      omega
    . exact c
    . have := cle_less (FL := FL) (a := gf R' i' 0) (b := gf R i 0) (j := j) (by omega) (by omega) FL.length hj
      omega
  have := dis_out hd j j' hj hj' (by omega)
  subst this
  exact hs.trans hs'.symm
theorem filter_drop {α : Type} {p : α -> Bool} : ∀ (l : List α) (m : Nat), (∀ i (h : i < l.length), p l[i] = decide (m <= i)) -> l.filter p = l.drop m
  | [], m, _ => by simp
  | a :: l, 0, h => by
    have h0 := h 0 (by simp)
    have := filter_drop l 0 fun i hi => by
      have := h (i + 1) (by simpa using hi)
      simpa using this
    rw [List.filter_cons, this]
    simp at h0
    simp [h0]
  | a :: l, m + 1, h => by
    have h0 := h 0 (by simp)
    have := filter_drop l m fun i hi => by
      have := h (i + 1) (by simpa using hi)
      simpa using this
    rw [List.filter_cons, this]
    simp at h0
    simp [h0]
theorem rdP_next {FL B : List (Nat -> Int)} {a : Int} (hd : Dis FL) (h : RdP FL a B) {j : Nat} (hj : j < FL.length) (hlt : pid a B B.length < gf FL j 0) (hm : ∀ q, q < FL.length -> pid a B B.length < gf FL q 0 -> gf FL j 0 <= gf FL q 0) : RdP FL a (B ++ [gf FL j]) := by
  refine h.add ⟨j, hj, fun _ _ => rfl, hlt, ?_⟩
  refine cle_more j (by omega) (Int.le_refl _) _ hj fun q hq hne => ⟨fun hh => by omega, fun hh => ?_⟩
  by_cases c : gf FL q 0 <= pid a B B.length
  . exact c
  . have := hm q hq (by omega)
    exact absurd (dis_out hd q j hq hj (by omega)) hne
structure Srt (FL B : List (Nat -> Int)) : Prop where
  rd : RdP FL 0 B
  len : B.length = FL.length
def rdL (B : List (Nat -> Int)) (a : Int) (n : Nat) : List (Nat -> Int) := (B.filter fun f => decide (a < f 0)).take n
theorem Srt.filter {FL B : List (Nat -> Int)} (h : Srt FL B) (hp : ∀ j, j < FL.length -> 0 < gf FL j 0) (a : Int) : (B.filter fun f => decide (a < f 0)) = B.drop (cle FL a FL.length) := by
  have h0 : cle FL 0 FL.length = 0 := cle_none _ fun j hj => hp j hj
  refine filter_drop B _ fun i hi => ?_
  have e := h.rd.pre (i := i + 1) (by omega)
  have e1 : pid 0 B (i + 1) = gf B i 0 := rfl
  rw [e1, h0] at e
  obtain ⟨j, hj, hs⟩ := h.rd.mem i hi
  have g1 := hs 0 (by omega)
  rw [gf_get hi] at e g1
  by_cases c : a < B[i] 0
  . rw [decide_eq_true c]
    have := cle_less (FL := FL) (a := a) (b := B[i] 0) (j := j) (by omega) (by omega) FL.length hj
    exact (decide_eq_true (by omega)).symm
  . rw [decide_eq_false c]
    have := cle_mono (FL := FL) (a := B[i] 0) (b := a) (by omega) FL.length
    exact (decide_eq_false (by omega)).symm
theorem read_same {FL B R : List (Nat -> Int)} {a : Int} {n : Nat} (hd : Dis FL) (hp : ∀ j, j < FL.length -> 0 < gf FL j 0) (hB : Srt FL B) (hR : RdP FL a R) (hl : R.length <= n) (he : R.length = n \/ cle FL (pid a R R.length) FL.length = FL.length) :
    R.length = (rdL B a n).length /\ ∀ i, i < R.length -> SF (gf R i) (gf (rdL B a n) i) := by
  have h0 : cle FL 0 FL.length = 0 := cle_none _ fun j hj => hp j hj
  have hm := cle_le FL a FL.length
  have hc := hR.cnt
  have hc' := cle_le FL (pid a R R.length) FL.length
  have hBl := hB.len
  unfold rdL
  rw [hB.filter hp]
  have hlen : R.length = ((B.drop (cle FL a FL.length)).take n).length := by
    rw [List.length_take, List.length_drop]
    rcases he with e | e <;> omega
  refine ⟨hlen, fun i hi => ?_⟩
  have hi' : i < n /\ cle FL a FL.length + i < B.length := by
    rw [List.length_take, List.length_drop] at hlen
    omega
  have : gf ((B.drop (cle FL a FL.length)).take n) i = gf B (cle FL a FL.length + i) := by
    unfold gf
    rw [List.getElem?_take_of_lt hi'.1, List.getElem?_drop]
  rw [this]
  exact hR.same hd hB.rd hi hi'.2 (by omega)
def rN (m : Nat) (hm : 0 < m) : Row (Nat -> Int) := ⟨m, fun f => (cc m f).toList, fun f => ccl_len m f, fun f v hv => by
  have := cc_one m f
  rw [Array.all_eq_true_iff_forall_mem] at this
  exact this v (by simpa using hv), hm⟩
def rF : Row (Nat -> Int) := rN 24 (by decide)
def rE : Row (Nat -> Int) := rN 25 (by decide)
def rI : Row Int := ⟨1, fun i => [.int .i64 i], fun _ => rfl, fun o v hv => by simp at hv; subst hv; rfl, by decide⟩
structure Two where
  a : Nat
  b : Nat
def rTwo : Row Two := ⟨2, fun d => [.pointer (some ⟨d.a, 0, none⟩), .pointer (some ⟨d.b, 0, none⟩)], fun _ => rfl, fun o v hv => by simp at hv; rcases hv with rfl | rfl <;> rfl, by decide⟩
theorem OwnC.toF {w : World} {B : Nat} {v : Value} {l : List (Nat -> Int)} (h : OwnC 66 24 w B v l) : OwnR rF 66 w v l := by
  obtain ⟨h1, h2⟩ := h
  rcases h2 with ⟨rfl, hn⟩ | ⟨g, cap, cur, rfl, _, hh, r1, r2, r3, r4⟩
  . exact Or.inl ⟨rfl, List.eq_nil_of_length_eq_zero hn⟩
  . exact Or.inr ⟨g, 0, cap, cur, rfl, hh, r1, r2, by rw [r3]; show 0 + cap * 24 <= cap * 24; omega, by rw [List.drop_zero]; exact r4⟩
theorem gf_some {l : List (Nat -> Int)} {i : Nat} (h : i < l.length) : l[i]? = some (gf l i) := by rw [gf_get h]; exact List.getElem?_eq_getElem h
theorem AtR.cs {m : Nat} {hm : 0 < m} {w : World} {v : Value} {l : List (Nat -> Int)} (h : AtR (rN m hm) w v l) : CsAt m w v l.length (gf l) := by
  obtain ⟨oa, cap, e, h1, h2, h3⟩ := h
  refine ⟨oa, cap, e, h2, fun h0 => ?_⟩
  obtain ⟨b, off, e', hb, hc⟩ := h3 h0
  refine ⟨b, off, e', hb, fun i hi j hj => ?_⟩
  exact hc i (gf l i) (gf_some hi) j _ (by show (cc m (gf l i)).toList[j]? = _; rw [Array.getElem?_toList, cc_at m _ j hj])
theorem AtR.csF {w : World} {v : Value} {l : List (Nat -> Int)} (h : AtR rF w v l) : CsAt 24 w v l.length (gf l) := AtR.cs h
theorem rngF {W : World} {b off : Nat} {l : List (Nat -> Int)} {k : Nat} (h : ∀ i a, l[i]? = some a -> W.rangeAt b (off + i * rF.wid) (rF.enc a)) (hk : k < l.length) : W.rangeAt b (off + k * 24) (fc (gf l k)).toList := h k (gf l k) (gf_some hk)
theorem rngE {W : World} {b off : Nat} {l : List (Nat -> Int)} {k : Nat} (h : ∀ i a, l[i]? = some a -> W.rangeAt b (off + i * rE.wid) (rE.enc a)) (hk : k < l.length) : W.rangeAt b (off + k * 25) (cc 25 (gf l k)).toList := h k (gf l k) (gf_some hk)
theorem rngI {W : World} {b off : Nat} {l : List Int} {k : Nat} {x : Int} (h : ∀ i a, l[i]? = some a -> W.rangeAt b (off + i * rI.wid) (rI.enc a)) (hk : l[k]? = some x) : W.cell? ⟨b, off + k, none⟩ = some (.int .i64 x) := by
  have := h k x hk 0 (.int .i64 x) rfl
  simpa [rI] using this
theorem rngS {W : World} {b off : Nat} {l : List Sli} {k : Nat} {x : Sli} (h : ∀ i a, l[i]? = some a -> W.rangeAt b (off + i * rSli.wid) (rSli.enc a)) (hk : l[k]? = some x) : W.cell? ⟨b, off + k, none⟩ = some x.v := by
  have := h k x hk 0 x.v rfl
  simpa [rSli] using this
theorem fc_rng {W : World} {b off : Nat} {f : Nat -> Int} (h : W.rangeAt b off (fc f).toList) (j : Nat) (hj : j < 24) : W.cell? ⟨b, off + j, none⟩ = some (.int .i64 (f j)) := h j _ (by rw [cc_fc, Array.getElem?_toList, cc_at 24 f j hj])
theorem cc_rng {W : World} {b off m : Nat} {f : Nat -> Int} (h : W.rangeAt b off (cc m f).toList) (j : Nat) (hj : j < m) : W.cell? ⟨b, off + j, none⟩ = some (.int .i64 (f j)) := h j _ (by rw [Array.getElem?_toList, cc_at m f j hj])
theorem inf66 : (Tryz.prog.info? 66).map (fun i => (i.zero, i.size, i.bytes)) = some (some (.agg (cc 24 zf)), 24, 192) := by kernel_rfl
theorem apF {w : World} {v x : Value} {l news : List (Nat -> Int)} (ho : OwnR rF 66 w v l) (hx : AtR rF w x news) (hl : l.length + news.length <= 100000000) :
    ∃ v' w', (Builtin.append_ #[62, 62] 62 #[v, x]).run Tryz.prog w = .ok v' w' /\ OwnR rF 66 w' v' (l ++ news) /\ w.grownBy w' v.ownBlock /\ (v'.ownBlock = v.ownBlock \/ ∀ g, v'.ownBlock = some g -> w.heap.size <= g) := by
  obtain ⟨i, h1, h2, h3, h4⟩ := infoP inf66
  exact OwnR.append (R := rF) (P := Tryz.prog) 62 62 i _ 192 Tryz.underlying62 h1 h2 h3 h4 (show (cc 24 zf).size = 24 from cc_size 24 zf) ho news x hx (by unfold maxLen; omega) (by omega)
theorem inf3 : (Tryz.prog.info? 3).map (fun i => (i.zero, i.size, i.bytes)) = some (some (.int .i64 0), 1, 8) := by kernel_rfl
theorem apI {w : World} {v x : Value} {l news : List Int} (ho : OwnR rI 3 w v l) (hx : AtR rI w x news) (hl : l.length + news.length <= 100000000) :
    ∃ v' w', (Builtin.append_ #[60, 60] 60 #[v, x]).run Tryz.prog w = .ok v' w' /\ OwnR rI 3 w' v' (l ++ news) /\ w.grownBy w' v.ownBlock /\ (v'.ownBlock = v.ownBlock \/ ∀ g, v'.ownBlock = some g -> w.heap.size <= g) := by
  obtain ⟨i, h1, h2, h3, h4⟩ := infoP inf3
  exact OwnR.append (R := rI) (P := Tryz.prog) 60 60 i _ 8 Tryz.underlying60 h1 h2 h3 h4 rfl ho news x hx (by unfold maxLen; omega) (by omega)
theorem inf40 : (Tryz.prog.info? 40).map (fun i => (i.zero, i.size, i.bytes)) = some (some (.slice none 0 0), 1, 24) := by kernel_rfl
theorem ap31 {w : World} {v x : Value} {l news : List Sli} (ho : OwnR rSli 40 w v l) (hx : AtR rSli w x news) (hl : l.length + news.length <= 2000000000000) :
    ∃ v' w', (Builtin.append_ #[31, 31] 31 #[v, x]).run Tryz.prog w = .ok v' w' /\ OwnR rSli 40 w' v' (l ++ news) /\ w.grownBy w' v.ownBlock /\ (v'.ownBlock = v.ownBlock \/ ∀ g, v'.ownBlock = some g -> w.heap.size <= g) := by
  obtain ⟨i, h1, h2, h3, h4⟩ := infoP inf40
  exact OwnR.append (R := rSli) (P := Tryz.prog) 31 31 i _ 24 Tryz.underlying31 h1 h2 h3 h4 rfl ho news x hx (by unfold maxLen; omega) (by omega)
theorem inf60 : (Tryz.prog.info? 60).map (fun i => (i.zero, i.size, i.bytes)) = some (some (.slice none 0 0), 1, 24) := by kernel_rfl
theorem ap27 {w : World} {v x : Value} {l news : List Sli} (ho : OwnR rSli 60 w v l) (hx : AtR rSli w x news) (hl : l.length + news.length <= 2000000000000) :
    ∃ v' w', (Builtin.append_ #[27, 27] 27 #[v, x]).run Tryz.prog w = .ok v' w' /\ OwnR rSli 60 w' v' (l ++ news) /\ w.grownBy w' v.ownBlock /\ (v'.ownBlock = v.ownBlock \/ ∀ g, v'.ownBlock = some g -> w.heap.size <= g) := by
  obtain ⟨i, h1, h2, h3, h4⟩ := infoP inf60
  exact OwnR.append (R := rSli) (P := Tryz.prog) 27 27 i _ 24 Tryz.underlying27 h1 h2 h3 h4 rfl ho news x hx (by unfold maxLen; omega) (by omega)
theorem inf62 : (Tryz.prog.info? 62).map (fun i => (i.zero, i.size, i.bytes)) = some (some (.slice none 0 0), 1, 24) := by kernel_rfl
theorem ap28 {w : World} {v x : Value} {l news : List Sli} (ho : OwnR rSli 62 w v l) (hx : AtR rSli w x news) (hl : l.length + news.length <= 2000000000000) :
    ∃ v' w', (Builtin.append_ #[28, 28] 28 #[v, x]).run Tryz.prog w = .ok v' w' /\ OwnR rSli 62 w' v' (l ++ news) /\ w.grownBy w' v.ownBlock /\ (v'.ownBlock = v.ownBlock \/ ∀ g, v'.ownBlock = some g -> w.heap.size <= g) := by
  obtain ⟨i, h1, h2, h3, h4⟩ := infoP inf62
  exact OwnR.append (R := rSli) (P := Tryz.prog) 28 28 i _ 24 Tryz.underlying28 h1 h2 h3 h4 rfl ho news x hx (by unfold maxLen; omega) (by omega)
theorem inf53 : (Tryz.prog.info? 53).map (fun i => (i.zero, i.size, i.bytes)) = some (some (.agg #[.pointer none, .pointer none]), 2, 16) := by kernel_rfl
theorem ap34 {w : World} {v x : Value} {l news : List Two} (ho : OwnR rTwo 53 w v l) (hx : AtR rTwo w x news) (hl : l.length + news.length <= 2000000000000) :
    ∃ v' w', (Builtin.append_ #[34, 34] 34 #[v, x]).run Tryz.prog w = .ok v' w' /\ OwnR rTwo 53 w' v' (l ++ news) /\ w.grownBy w' v.ownBlock /\ (v'.ownBlock = v.ownBlock \/ ∀ g, v'.ownBlock = some g -> w.heap.size <= g) := by
  obtain ⟨i, h1, h2, h3, h4⟩ := infoP inf53
  exact OwnR.append (R := rTwo) (P := Tryz.prog) 34 34 i _ 16 Tryz.underlying34 h1 h2 h3 h4 rfl ho news x hx (by unfold maxLen; omega) (by omega)
theorem bsI (n : Int) (ev : Operand -> Value) (o : Oper) (x : Operand) (ho : o.op = .buildSlice 60 1 #[(0, x)]) (hx : ev x = .int .i64 n) (w : World) : (execOp ev o).run Tryz.prog w = .ok (.value (.slice (some ⟨w.heap.size, 0, none⟩) 1 1)) (w.alloc (.cells #[.int .i64 n] 3)) := by
  unfold execOp
  simp only [ho]
  simp only [List.map_toArray, List.map_cons, List.map_nil, hx]
  kernel_rfl
theorem bsS31 (a : Option Addr) (n c : Nat) (ev : Operand -> Value) (o : Oper) (x : Operand) (ho : o.op = .buildSlice 31 1 #[(0, x)]) (hx : ev x = .slice a n c) (w : World) : (execOp ev o).run Tryz.prog w = .ok (.value (.slice (some ⟨w.heap.size, 0, none⟩) 1 1)) (w.alloc (.cells #[.slice a n c] 40)) := by
  unfold execOp
  simp only [ho]
  simp only [List.map_toArray, List.map_cons, List.map_nil, hx]
  kernel_rfl
theorem bsS27 (a : Option Addr) (n c : Nat) (ev : Operand -> Value) (o : Oper) (x : Operand) (ho : o.op = .buildSlice 27 1 #[(0, x)]) (hx : ev x = .slice a n c) (w : World) : (execOp ev o).run Tryz.prog w = .ok (.value (.slice (some ⟨w.heap.size, 0, none⟩) 1 1)) (w.alloc (.cells #[.slice a n c] 60)) := by
  unfold execOp
  simp only [ho]
  simp only [List.map_toArray, List.map_cons, List.map_nil, hx]
  kernel_rfl
theorem bsS28 (a : Option Addr) (n c : Nat) (ev : Operand -> Value) (o : Oper) (x : Operand) (ho : o.op = .buildSlice 28 1 #[(0, x)]) (hx : ev x = .slice a n c) (w : World) : (execOp ev o).run Tryz.prog w = .ok (.value (.slice (some ⟨w.heap.size, 0, none⟩) 1 1)) (w.alloc (.cells #[.slice a n c] 62)) := by
  unfold execOp
  simp only [ho]
  simp only [List.map_toArray, List.map_cons, List.map_nil, hx]
  kernel_rfl
theorem bsTwo (p q : Nat) (ev : Operand -> Value) (o : Oper) (x : Operand) (ho : o.op = .buildSlice 34 1 #[(0, x)]) (hx : ev x = .agg #[.pointer (some ⟨p, 0, none⟩), .pointer (some ⟨q, 0, none⟩)]) (w : World) : (execOp ev o).run Tryz.prog w = .ok (.value (.slice (some ⟨w.heap.size, 0, none⟩) 1 1)) (w.alloc (.cells #[.pointer (some ⟨p, 0, none⟩), .pointer (some ⟨q, 0, none⟩)] 53)) := by
  unfold execOp
  simp only [ho]
  simp only [List.map_toArray, List.map_cons, List.map_nil, hx]
  kernel_rfl
theorem wo_take {FL : List (Nat -> Int)} {k : Nat} (h : k < FL.length) (id : Int) : wo (FL.take (k + 1)) id = wo (FL.take k) id ++ (if gf FL k 0 = id then [] else [gf FL k]) := by
  rw [List.take_add_one, gf_some h]
  unfold wo
  rw [List.filter_append]
  congr 1
  by_cases c : gf FL k 0 = id <;> simp [c]
theorem gn_take {FL : List (Nat -> Int)} {k : Nat} (h : k < FL.length) (id : Int) : gn (FL.take (k + 1)) id = gn (FL.take k) id ++ (if gf FL k 0 = id then [gf FL k] else []) := by
  rw [List.take_add_one, gf_some h]
  unfold gn
  rw [List.filter_append]
  congr 1
  by_cases c : gf FL k 0 = id <;> simp [c]
theorem wo_len (FL : List (Nat -> Int)) (id : Int) : (wo FL id).length <= FL.length := List.length_filter_le _ _
theorem gn_len (FL : List (Nat -> Int)) (id : Int) : (gn FL id).length <= FL.length := List.length_filter_le _ _
structure TwoF (w0 w : World) (lv ov : Value) (L O : List (Nat -> Int)) : Prop where
  l : OwnR rF 66 w lv L
  o : OwnR rF 66 w ov O
  fl : ∀ g, lv.ownBlock = some g -> w0.heap.size <= g
  fo : ∀ g, ov.ownBlock = some g -> w0.heap.size <= g
  dj : ∀ g, lv.ownBlock = some g -> ov.ownBlock ≠ some g
  b : Below w0.heap.size w0 w
theorem TwoF.left {w0 w w' : World} {lv ov v' : Value} {L O L' : List (Nat -> Int)} (h : TwoF w0 w lv ov L O) (f : Nat -> Int) (r2 : OwnR rF 66 w' v' L') (r3 : (w.alloc (.cells (fc f) 66)).grownBy w' lv.ownBlock) (r4 : v'.ownBlock = lv.ownBlock \/ ∀ g, v'.ownBlock = some g -> (w.alloc (.cells (fc f) 66)).heap.size <= g) : TwoF w0 w' v' ov L' O := by
  have hsz := h.b.size
  have ho : ∀ g, ov.ownBlock = some g -> g < w.heap.size := fun g hg => h.o.lt hg
  refine ⟨r2, h.o.same fun g hg => ?_, fun g hg => ?_, h.fo, fun g hg q => ?_, (h.b.alloc hsz _).grown r3 (by simp; omega) h.fl⟩
  . rw [r3.block g (by have := ho g hg; simp; omega) (fun q => h.dj g q.symm hg), heap_alloc_old w _ (ho g hg)]
  . rcases r4 with r4 | r4
    . exact h.fl g (r4 ▸ hg)
    . have := r4 g hg; simp at this; omega
  . rcases r4 with r4 | r4
    . exact h.dj g (r4 ▸ hg) q
    . have := r4 g hg; have := ho g q; simp at *; omega
theorem TwoF.right {w0 w w' : World} {lv ov v' : Value} {L O O' : List (Nat -> Int)} (h : TwoF w0 w lv ov L O) (f : Nat -> Int) (r2 : OwnR rF 66 w' v' O') (r3 : (w.alloc (.cells (fc f) 66)).grownBy w' ov.ownBlock) (r4 : v'.ownBlock = ov.ownBlock \/ ∀ g, v'.ownBlock = some g -> (w.alloc (.cells (fc f) 66)).heap.size <= g) : TwoF w0 w' lv v' L O' := by
  have hs : TwoF w0 w ov lv O L := ⟨h.o, h.l, h.fo, h.fl, fun g hg q => h.dj g q hg, h.b⟩
  have := hs.left f r2 r3 r4
  exact ⟨this.o, this.l, this.fo, this.fl, fun g hg q => this.dj g q hg, this.b⟩
theorem OwnR.allocF {w : World} {v : Value} {l : List (Nat -> Int)} (h : OwnR rF 66 w v l) (o : Obj) : OwnR rF 66 (w.alloc o) v l := h.on ((Below.refl _ _).alloc (Nat.le_refl _) _)
set_option maxHeartbeats 6400000 in
theorem without_any (v : Value) (FL : List (Nat -> Int)) (id : Int) (w : World) (hv : AtR rF w v FL) (hl : FL.length <= 100) :
    Calls Tryz.prog 115 #[v, .int .i64 id] w fun e w' => ∃ lv ov, e = .returned (.tuple #[lv, ov]) /\ TwoF w w' lv ov (wo FL id) (gn FL id) := by
  obtain ⟨oa, cap, rfl, hcap, hm, hc⟩ := hv
  have HC := hide hc
  clear hc hm
  go_enter Tryz.func115, Tryz.ntmps115
  go_wp2_with fail
  go_loopw [6, 7, 8] (fun lv ov i wr => ∃ k : Nat, k <= FL.length /\ i = .int .i64 k /\ Hid (TwoF w wr lv ov (wo (FL.take k) id) (gn (FL.take k) id))) (fun _ _ i _ => FL.length - (intOf i).toNat)
  case atStart => exact ⟨0, by omega, rfl, hide ⟨ownR_nil, ownR_nil, fun g hg => by simp [Value.ownBlock] at hg, fun g hg => by simp [Value.ownBlock] at hg, fun g hg => by simp [Value.ownBlock] at hg, Below.refl _ _⟩⟩
  case round =>
    obtain ⟨k, hk, rfl, hT⟩ := hrel
    by_cases hlt : k < FL.length
    . have hkn : (k : Int) < FL.length := by omega
      obtain ⟨b, off, rfl, hbl, hc0⟩ := unhide HC (by omega)
      have hrg0 := rngF hc0 hlt
      have hrg : wr.rangeAt b (off + k * 24) (fc (gf FL k)).toList := fun j u hu => ((unhide hT).b.cell (p := ⟨b, off + k * 24 + j, none⟩) hbl).trans (hrg0 j u hu)
      have c0 : wr.cell? ⟨b, off + k * 24, none⟩ = some (.int .i64 (gf FL k 0)) := fc_rng hrg 0 (by omega)
      have hat := at_new rF 66 wr (gf FL k) (fc (gf FL k)) rfl
      have hwl := wo_len (FL.take k) id
      have hgl := gn_len (FL.take k) id
      rw [List.length_take] at hwl hgl
      by_cases he : gf FL k 0 = id
      . obtain ⟨v3, w3, r1, r2, r3, r4⟩ := apF ((unhide hT).o.allocF _) hat (by simp; omega)
        have HT3 : Hid (TwoF w w3 u6 v3 (wo (FL.take (k + 1)) id) (gn (FL.take (k + 1)) id)) := by
          rw [wo_take hlt, gn_take hlt, if_pos he, if_pos he, List.append_nil]
          exact (unhide hT).right _ r2 r3 r4
        rw [he] at c0
        clear hat r2 r3 r4 hc0 hrg0 hT he
        go_wp2_with (first | refine ldG 66 (fc (gf FL k)) Tryz.underlying66 rfl (szf _) b (off + k * 24) hrg rfl _ rfl rfl ?_ | refine wlV _ _ (run_bs34 _ _ _ rfl (gf FL k) rfl _) rfl ?_ | (at_builtin; refine wlR 62 r1 rfl _ _ rfl rfl rfl rfl ?_))
        go_roundw
        case rel => exact ⟨k + 1, by omega, by go_num, HT3⟩
        case measure => simp [intOf]; omega
      . obtain ⟨v3, w3, r1, r2, r3, r4⟩ := apF ((unhide hT).l.allocF _) hat (by simp; omega)
        have HT3 : Hid (TwoF w w3 v3 u7 (wo (FL.take (k + 1)) id) (gn (FL.take (k + 1)) id)) := by
          rw [wo_take hlt, gn_take hlt, if_neg he, if_neg he, List.append_nil]
          exact (unhide hT).left _ r2 r3 r4
        clear hat r2 r3 r4 hc0 hrg0 hT
        go_wp2_with (first | refine ldG 66 (fc (gf FL k)) Tryz.underlying66 rfl (szf _) b (off + k * 24) hrg rfl _ rfl rfl ?_ | refine wlV _ _ (run_bs34 _ _ _ rfl (gf FL k) rfl _) rfl ?_ | (at_builtin; refine wlR 62 r1 rfl _ _ rfl rfl rfl rfl ?_))
        go_roundw
        case rel => exact ⟨k + 1, by omega, by go_num, HT3⟩
        case measure => simp [intOf]; omega
    . have hkn : k = FL.length := by omega
      subst hkn
      rw [List.take_length] at hT
      go_wp2_with fail
      go_ret2
      exact ⟨_, _, rfl, unhide hT⟩
theorem edN_err {fs : List (Nat -> Int)} {e : Nat -> Int} {r : Int} (h : edX fs e = r) (hr : r ≠ 0) : edN fs e = [] /\ edM fs e = [] := by
  unfold edN edM; rw [h, if_neg hr, if_neg hr]; exact ⟨rfl, rfl⟩
theorem nilF (w : World) : AtR rF w (.slice none 0 0) [] := (ownR_nil (T := 66)).at
set_option maxHeartbeats 6400000 in
theorem Edited_any (v : Value) (FL : List (Nat -> Int)) (e : Nat -> Int) (w : World) (hv : AtR rF w v FL) (hl : FL.length <= 40) :
    Calls Tryz.prog 70 #[v, .agg (cc 25 e)] w fun en w' => ∃ nv mv, en = .returned (.tuple #[nv, mv, .int .i64 (edX FL e)]) /\ AtR rF w' nv (edN FL e) /\ AtR rF w' mv (edM FL e) /\ Below w.heap.size w w' := by
  have hA := heap_alloc_new w (.cells (cc 25 e) 100 (0, 0))
  have hb0 := below_one w (.cells (cc 25 e) 100)
  have HV := hide (hv.on hb0)
  have c1 : (w.alloc (.cells (cc 25 e) 100)).cell? ⟨w.heap.size, 1, none⟩ = some (.int .i64 (e 1)) := (blk_cells hA 1).trans (cc_at 25 e 1 (by omega))
  have HA := hide hA
  have HB0 := hide hb0
  clear hA hv hb0
  have hwl := wo_len FL (e 1)
  have hgl := gn_len FL (e 1)
  by_cases h0 : e 0 = 0
  . cases hr : right (eF e) with
    | false =>
      have hx : edX FL e = 7 := by unfold edX; rw [if_pos h0, hr]; rfl
      obtain ⟨e1, e2⟩ := edN_err hx (by decide)
      rw [hx, e1, e2]
      clear hx e1 e2
      go_enter Tryz.func70, Tryz.ntmps70
      go_wp2_with fail
      refine (without_any v FL (e 1) _ (unhide HV) (by omega)).mono ?_
      rintro en w2 ⟨lv, ov, rfl, hT⟩
      have hA2 := blk_on (unhide HA) hT.b
      have c0 := (blk_cells hA2 0).trans (cc_at 25 e 0 (by omega))
      rw [h0] at c0
      have hrg : w2.rangeAt w.heap.size 1 (fc (eF e)).toList := ec_F e hA2
      have HB2 := hide ((unhide HB0).trans (hT.b.mono (by simp)))
      clear hT hA2 c1 h0
      go_wp2_with (refine ldG 66 (fc (eF e)) Tryz.underlying66 rfl (szf _) w.heap.size 1 hrg rfl _ rfl rfl ?_)
      refine (refRight_f hr _).mono ?_
      rintro en w3 ⟨rfl, hb3⟩
      have HB3 := hide ((unhide HB2).trans (hb3.mono (unhide HB2).size))
      clear hb3 hrg c0
      go_wp2_with fail
      go_ret3
      exact ⟨_, _, rfl, nilF _, nilF _, unhide HB3⟩
    | true =>
      go_enter Tryz.func70, Tryz.ntmps70
      go_wp2_with fail
      refine (without_any v FL (e 1) _ (unhide HV) (by omega)).mono ?_
      rintro en w2 ⟨lv, ov, rfl, hT⟩
      have hA2 := blk_on (unhide HA) hT.b
      have c0 := (blk_cells hA2 0).trans (cc_at 25 e 0 (by omega))
      rw [h0] at c0
      have hrg : w2.rangeAt w.heap.size 1 (fc (eF e)).toList := ec_F e hA2
      have HA2 := hide hA2
      have HB2 := hide ((unhide HB0).trans (hT.b.mono (by simp)))
      have HT := hide hT
      clear hT hA2 c1
      go_wp2_with (refine ldG 66 (fc (eF e)) Tryz.underlying66 rfl (szf _) w.heap.size 1 hrg rfl _ rfl rfl ?_)
      refine (refRight_t hr _).mono ?_
      rintro en w3 ⟨rfl, hb3⟩
      have hT3 : TwoF (w.alloc (.cells (cc 25 e) 100)) w3 lv ov (wo FL (e 1)) (gn FL (e 1)) := ⟨(unhide HT).l.on hb3, (unhide HT).o.on hb3, (unhide HT).fl, (unhide HT).fo, (unhide HT).dj, (unhide HT).b.trans (hb3.mono (unhide HT).b.size)⟩
      have hA3 := blk_on (unhide HA2) hb3
      have hrg3 : w3.rangeAt w.heap.size 1 (fc (eF e)).toList := ec_F e hA3
      have hat := at_new rF 66 w3 (eF e) (fc (eF e)) rfl
      obtain ⟨v4, w4, r1, r2, r3, r4⟩ := apF (hT3.l.allocF _) hat (by simp; omega)
      have hT4 := hT3.left _ r2 r3 r4
      have hsl : ∃ oa n c, v4 = .slice oa n c /\ n = (wo FL (e 1)).length + 1 := by
        have := r2.at
        obtain ⟨oa, cap, e, _⟩ := this
        exact ⟨oa, _, cap, e, by simp⟩
      obtain ⟨oa4, n4, c4, rfl, hn4⟩ := hsl
      have hA4 := blk_on (unhide HA) hT4.b
      have hrg4 : w4.rangeAt w.heap.size 1 (fc (eF e)).toList := ec_F e hA4
      have HT4 := hide hT4
      have HB4 := hide ((unhide HB0).trans (hT4.b.mono (by simp)))
      clear hT3 hT4 hA3 hA4 hat r2 r3 r4 hb3 hrg c0
      by_cases h40 : n4 <= 40
      . have hx : edX FL e = 0 := by unfold edX; rw [if_pos h0, if_pos hr, if_pos (by omega)]
        have e1 : edN FL e = wo FL (e 1) ++ [eF e] := by unfold edN; rw [if_pos hx, if_pos h0]
        have e2 : edM FL e = gn FL (e 1) ++ [eF e] := by unfold edM; rw [if_pos hx, if_pos h0]
        have hat := at_new rF 66 w4 (eF e) (fc (eF e)) rfl
        obtain ⟨v5, w5, s1, s2, s3, s4⟩ := apF ((unhide HT4).o.allocF _) hat (by simp; omega)
        have hT5 := (unhide HT4).right _ s2 s3 s4
        have HX := hide hx
        have HE1 := hide e1
        have HE2 := hide e2
        have HB5 := hide ((unhide HB0).trans (hT5.b.mono (by simp)))
        have HT5 := hide hT5
        have hng : ¬ (40 : Int) < (n4 : Int) := by omega
        clear hx e1 e2 hat s2 s3 s4 hT5 h40 hn4 h0
        go_wp2_with (first | refine ldG 66 (fc (eF e)) Tryz.underlying66 rfl (szf _) w.heap.size 1 hrg3 rfl _ rfl rfl ?_ | refine ldG 66 (fc (eF e)) Tryz.underlying66 rfl (szf _) w.heap.size 1 hrg4 rfl _ rfl rfl ?_ | refine wlV _ _ (run_bs34 _ _ _ rfl (eF e) rfl _) rfl ?_ | (at_builtin; refine wlR 62 r1 rfl _ _ rfl rfl rfl rfl ?_) | (at_builtin; refine wlR 62 s1 rfl _ _ rfl rfl rfl rfl ?_))
        go_ret3
        exact ⟨_, _, by rw [unhide HX]; rfl, by rw [unhide HE1]; exact (unhide HT5).l.at, by rw [unhide HE2]; exact (unhide HT5).o.at, unhide HB5⟩
      . have hx : edX FL e = 11 := by unfold edX; rw [if_pos h0, if_pos hr, if_neg (by omega)]
        obtain ⟨e1, e2⟩ := edN_err hx (by decide)
        have HX := hide hx
        have HE1 := hide e1
        have HE2 := hide e2
        have hng : (40 : Int) < (n4 : Int) := by omega
        clear hx e1 e2 h40 hn4 h0
        go_wp2_with (first | refine ldG 66 (fc (eF e)) Tryz.underlying66 rfl (szf _) w.heap.size 1 hrg3 rfl _ rfl rfl ?_ | refine wlV _ _ (run_bs34 _ _ _ rfl (eF e) rfl _) rfl ?_ | (at_builtin; refine wlR 62 r1 rfl _ _ rfl rfl rfl rfl ?_))
        go_ret3
        exact ⟨_, _, by rw [unhide HX]; rfl, by rw [unhide HE1]; exact nilF _, by rw [unhide HE2]; exact nilF _, unhide HB4⟩
  . by_cases h1 : e 0 = 1
    . go_enter Tryz.func70, Tryz.ntmps70
      go_wp2_with fail
      refine (without_any v FL (e 1) _ (unhide HV) (by omega)).mono ?_
      rintro en w2 ⟨lv, ov, rfl, hT⟩
      have hA2 := blk_on (unhide HA) hT.b
      have c0 := (blk_cells hA2 0).trans (cc_at 25 e 0 (by omega))
      rw [h1] at c0
      have HB2 := hide ((unhide HB0).trans (hT.b.mono (by simp)))
      have HL := hide hT.l.at
      have HO := hide hT.o.at
      obtain ⟨oa, cap, rfl, _⟩ := hT.o.at
      clear hT hA2 c1
      by_cases hg : gn FL (e 1) = []
      . have hx : edX FL e = 10 := by unfold edX; rw [if_neg h0, if_pos h1, if_pos hg]
        obtain ⟨e1, e2⟩ := edN_err hx (by decide)
        have HX := hide hx
        have HE1 := hide e1
        have HE2 := hide e2
        have hz : (gn FL (e 1)).length = 0 := by rw [hg]; rfl
        rw [hz]
        clear hx e1 e2 hg hz h0 h1 HO
        go_wp2_with fail
        go_ret3
        exact ⟨_, _, by rw [unhide HX]; rfl, by rw [unhide HE1]; exact nilF _, by rw [unhide HE2]; exact nilF _, unhide HB2⟩
      . have hx : edX FL e = 0 := by unfold edX; rw [if_neg h0, if_pos h1, if_neg hg]
        have e1 : edN FL e = wo FL (e 1) := by unfold edN; rw [if_pos hx, if_neg h0]
        have e2 : edM FL e = gn FL (e 1) := by unfold edM; rw [if_pos hx, if_neg h0]
        have hpos : 0 < (gn FL (e 1)).length := List.length_pos_iff.2 hg
        have hz : ¬ ((gn FL (e 1)).length : Int) = 0 := by omega
        have HX := hide hx
        have HE1 := hide e1
        have HE2 := hide e2
        clear hx e1 e2 hg h0 h1 hpos
        go_wp2_with fail
        go_ret3
        exact ⟨_, _, by rw [unhide HX]; rfl, by rw [unhide HE1]; exact unhide HL, by rw [unhide HE2]; exact unhide HO, unhide HB2⟩
    . have hx : edX FL e = 9 := by unfold edX; rw [if_neg h0, if_neg h1]
      obtain ⟨e1, e2⟩ := edN_err hx (by decide)
      rw [hx, e1, e2]
      clear hx e1 e2
      go_enter Tryz.func70, Tryz.ntmps70
      go_wp2_with fail
      refine (without_any v FL (e 1) _ (unhide HV) (by omega)).mono ?_
      rintro en w2 ⟨lv, ov, rfl, hT⟩
      have hA2 := blk_on (unhide HA) hT.b
      have c0 := (blk_cells hA2 0).trans (cc_at 25 e 0 (by omega))
      have HB2 := hide ((unhide HB0).trans (hT.b.mono (by simp)))
      clear hT hA2 c1
      go_wp2_with fail
      go_ret3
      exact ⟨_, _, rfl, nilF _, nilF _, unhide HB2⟩
structure RSt (w : World) (rb : Nat) (keep : Int) (bv pv : Value) (SL : List Sli) (bs : List Bat) (PI : List Int) : Prop where
  blk : w.heap[rb]? = some (.cells #[.int .i64 keep, bv, pv] 121 (0, 0))
  bat : OwnR rSli 40 w bv SL
  len : SL.length = bs.length
  bts : ∀ (i : Nat) (s : Sli) (b : Bat), SL[i]? = some s -> bs[i]? = some b -> OwnR rE 100 w s.v b
  pin : OwnR rI 3 w pv PI
theorem RSt.lt {w : World} {rb : Nat} {keep : Int} {bv pv : Value} {SL : List Sli} {bs : List Bat} {PI : List Int} (h : RSt w rb keep bv pv SL bs PI) : rb < w.heap.size := blk_lt h.blk
theorem RSt.on {w w' : World} {rb : Nat} {keep : Int} {bv pv : Value} {SL : List Sli} {bs : List Bat} {PI : List Int} (h : RSt w rb keep bv pv SL bs PI) (hb : Below w.heap.size w w') : RSt w' rb keep bv pv SL bs PI :=
  ⟨blk_on h.blk hb, h.bat.on hb, h.len, fun i s b hs hb' => (h.bts i s b hs hb').on hb, h.pin.on hb⟩
theorem RSt.c0 {w : World} {rb : Nat} {keep : Int} {bv pv : Value} {SL : List Sli} {bs : List Bat} {PI : List Int} (h : RSt w rb keep bv pv SL bs PI) : w.cell? ⟨rb, 0, none⟩ = some (.int .i64 keep) := (blk_cells h.blk 0).trans rfl
theorem RSt.c1 {w : World} {rb : Nat} {keep : Int} {bv pv : Value} {SL : List Sli} {bs : List Bat} {PI : List Int} (h : RSt w rb keep bv pv SL bs PI) : w.cell? ⟨rb, 1, none⟩ = some bv := (blk_cells h.blk 1).trans rfl
theorem RSt.c2 {w : World} {rb : Nat} {keep : Int} {bv pv : Value} {SL : List Sli} {bs : List Bat} {PI : List Int} (h : RSt w rb keep bv pv SL bs PI) : w.cell? ⟨rb, 2, none⟩ = some pv := (blk_cells h.blk 2).trans rfl
theorem btc_some {bs : List Bat} {k : Nat} (h : k < bs.length) : bs[k]? = some (btc bs k) := by unfold btc; rw [List.getD_eq_getElem?_getD, List.getElem?_eq_getElem h]; rfl
theorem RSt.batch {w : World} {rb : Nat} {keep : Int} {bv pv : Value} {SL : List Sli} {bs : List Bat} {PI : List Int} (h : RSt w rb keep bv pv SL bs PI) {k : Nat} (hk : k < bs.length) :
    ∃ b off cap oa c, bv = .slice (some ⟨b, off, none⟩) bs.length cap /\ w.cell? ⟨b, off + k, none⟩ = some (.slice oa (btc bs k).length c) /\ AtR rE w (.slice oa (btc bs k).length c) (btc bs k) := by
  have hk' : k < SL.length := by rw [h.len]; exact hk
  obtain ⟨oa, cap, e, _, _, hc⟩ := h.bat.at
  obtain ⟨b, off, rfl, _, hr⟩ := hc (by omega)
  have hs : SL[k]? = some SL[k] := List.getElem?_eq_getElem hk'
  have ho := h.bts k _ _ hs (btc_some hk)
  have hcell := rngS hr hs
  obtain ⟨oa, c, e', _⟩ := ho.at
  rw [e'] at hcell ho
  exact ⟨b, off, cap, oa, c, by rw [e, h.len], hcell, ho.at⟩
theorem at_step (bs : List Bat) (k : Nat) : atV bs (k + 1) = edT (atV bs k) (gf (btc bs k)) (btc bs k).length := rfl
set_option maxHeartbeats 6400000 in
theorem At_any (rb : Nat) (keep : Int) (bv pv : Value) (SL : List Sli) (bs : List Bat) (PI : List Int) (v : Nat) (w : World) (hR : RSt w rb keep bv pv SL bs PI) (hv : v <= bs.length) (hl : bs.length <= 100) (h8 : ∀ k, k < bs.length -> (btc bs k).length <= 8) :
    Calls Tryz.prog 69 #[.pointer (some ⟨rb, 0, none⟩), .int .i64 v] w fun en w' => ∃ rv, en = .returned rv /\ AtR rF w' rv (atV bs v) /\ Below w.heap.size w w' := by
  have HR := hide hR
  clear hR
  go_enter Tryz.func69, Tryz.ntmps69
  go_wp2_with fail
  go_loopw [5, 6, 7, 8, 9, 10] (fun fv i _ _ _ _ wr => ∃ k : Nat, k <= v /\ i = .int .i64 k /\ Hid (AtR rF wr fv (atV bs k)) /\ Hid (Below w.heap.size w wr)) (fun _ i _ _ _ _ _ => v - (intOf i).toNat)
  case atStart => exact ⟨0, by omega, rfl, hide (nilF _), hide (Below.refl _ _)⟩
  case round =>
    obtain ⟨k, hk, rfl, hF, hb⟩ := hrel
    by_cases hlt : k < v
    . have hkv : (k : Int) < v := by omega
      have hkb : (k : Int) < bs.length := by omega
      obtain ⟨b, off, cap, oa, c, e, hc, hE⟩ := ((unhide HR).on (unhide hb)).batch (k := k) (by omega)
      have r1 := ((unhide HR).on (unhide hb)).c1
      have hlb : b < wr.heap.size := by
        rcases Nat.lt_or_ge b wr.heap.size with q | q
        . exact q
        . simp [World.cell?, Array.getElem?_eq_none q] at hc
      have hlr : rb < wr.heap.size := ((unhide HR).on (unhide hb)).lt
      rw [e] at r1
      obtain ⟨N, hN⟩ : ∃ N, (btc bs k).length = N := ⟨_, rfl⟩
      have hN8 := h8 k (by omega)
      rw [hN] at hc hE hN8
      have HN := hide hN
      have HE := hide hE
      have HC := hide hc
      have HR1 := hide r1
      clear hE e hN
      go_wp2_with fail
      go_loopw [5, 7, 8, 9, 10] (fun fv i _ _ _ w2 => ∃ j : Nat, j <= N /\ i = .int .i64 j /\ Hid (AtR rF w2 fv (edT (atV bs k) (gf (btc bs k)) j)) /\ Hid (Below wr.heap.size wr w2)) (fun _ i _ _ _ _ => N - (intOf i).toNat)
      case atStart => exact ⟨0, by omega, rfl, hF, hide (Below.refl _ _)⟩
      case round =>
        obtain ⟨j, hj, rfl, hF2, hb2⟩ := hrel
        have q1 := ((unhide hb2).cell (p := ⟨rb, 1, none⟩) hlr).trans (unhide HR1)
        have qc := ((unhide hb2).cell (p := ⟨b, off + k, none⟩) hlb).trans (unhide HC)
        clear r1 hc
        by_cases hjn : j < N
        . have hjN : (j : Int) < N := by omega
          obtain ⟨oa', cap', e', _, _, hr⟩ := unhide HE
          have hEl : (btc bs k).length = N := unhide HN
          cases e'
          obtain ⟨b', off', rfl, hb', hr0⟩ := hr (by rw [hEl]; omega)
          have hrg0 := rngE hr0 (k := j) (by rw [hEl]; omega)
          have hrg : wr.rangeAt b' (off' + j * 25) (cc 25 (gf (btc bs k) j)).toList := fun q u hu => ((unhide hb2).cell (p := ⟨b', off' + j * 25 + q, none⟩) hb').trans (hrg0 q u hu)
          clear hr hr0 hrg0 hEl
          go_wp2_with (refine ldG 100 (cc 25 (gf (btc bs k) j)) Tryz.underlying100 rfl (sz56 _) b' (off' + j * 25) hrg rfl _ rfl rfl ?_)
          refine (Edited_any _ _ (gf (btc bs k) j) _ (unhide hF2) (edT_len (atV_len bs k) j)).mono ?_
          rintro en w3 ⟨nv, mv, rfl, hN3, hM3, hb3⟩
          have HN3 := hide hN3
          have HB3 := hide ((unhide hb2).trans (hb3.mono (unhide hb2).size))
          clear hN3 hM3 hb3 q1 qc hrg
          go_wp2_with fail
          go_roundw
          case rel => exact ⟨j + 1, by omega, by go_num, HN3, HB3⟩
          case measure => simp [intOf]; omega
        . have hjN : j = N := by omega
          subst hjN
          have HF3 : Hid (AtR rF wr u5 (atV bs (k + 1))) := by rw [at_step, unhide HN]; exact hF2
          have HB3 := hide ((unhide hb).trans ((unhide hb2).mono (unhide hb).size))
          clear hF2
          go_wp2_with fail
          go_roundw
          case rel => exact ⟨k + 1, by omega, by go_num, HF3, HB3⟩
          case measure => simp [intOf]; omega
    . have hkn : k = v := by omega
      subst hkn
      have hkv : ¬ (k : Int) < k := by omega
      go_wp2_with fail
      go_ret
      exact ⟨_, rfl, unhide hF, unhide hb⟩
def lsB (c : Bool) (n L : Nat) : Nat := bif c then n else L
theorem lsB_more (a b : Bool) (n L : Nat) : lsB b n (lsB a n L) = lsB (a || b) n L := by cases a <;> cases b <;> rfl
theorem any_take {M : List (Nat -> Int)} {p : (Nat -> Int) -> Bool} {j : Nat} (h : j < M.length) : (M.take (j + 1)).any p = ((M.take j).any p || p (gf M j)) := by
  rw [List.take_add_one, gf_some h]; simp
theorem ls_step (bs : List Bat) (l z x y : Int) (k : Nat) : lsV bs l z x y (k + 1) = lsB ((mvT (atV bs k) (gf (btc bs k)) (btc bs k).length).any (fun f => Tch f l z x y)) (k + 1) (lsV bs l z x y k) := rfl
theorem mv_step {fs : List (Nat -> Int)} {es : Nat -> Nat -> Int} {j : Nat} {p : (Nat -> Int) -> Bool} (n L : Nat) : lsB ((mvT fs es (j + 1)).any p) n L = lsB ((edM (edT fs es j) (es j)).any p) n (lsB ((mvT fs es j).any p) n L) := by
  rw [lsB_more, mvT, List.any_append]
theorem edM_le {fs : List (Nat -> Int)} {e : Nat -> Int} (h : fs.length <= 40) : (edM fs e).length <= 41 := by have := edM_len (fs := fs) (e := e); omega
set_option maxHeartbeats 12800000 in
theorem Last_any (rb : Nat) (keep : Int) (bv pv : Value) (SL : List Sli) (bs : List Bat) (PI : List Int) (v : Nat) (l z x y : Int) (w : World) (hR : RSt w rb keep bv pv SL bs PI) (hv : v <= bs.length) (hl : bs.length <= 100) (h8 : ∀ k, k < bs.length -> (btc bs k).length <= 8) :
    Calls Tryz.prog 79 #[.pointer (some ⟨rb, 0, none⟩), .int .i64 v, .agg #[.int .i64 l, .int .i64 z, .int .i64 x, .int .i64 y]] w fun en w' => en = .returned (.int .i64 (lsV bs l z x y v : Nat)) /\ Below w.heap.size w w' := by
  have HA := hide (heap_alloc_new w (.cells #[.int .i64 l, .int .i64 z, .int .i64 x, .int .i64 y] 39 (0, 0)))
  have HB0 := hide (below_one w (.cells #[.int .i64 l, .int .i64 z, .int .i64 x, .int .i64 y] 39))
  have HR := hide (hR.on (unhide HB0))
  have hs0 : (w.alloc (.cells #[.int .i64 l, .int .i64 z, .int .i64 x, .int .i64 y] 39)).heap.size = w.heap.size + 1 := by simp
  clear hR
  go_enter Tryz.func79, Tryz.ntmps79
  go_wp2_with fail
  obtain ⟨w1, hw1⟩ : ∃ w1, (w.alloc (.cells #[.int .i64 l, .int .i64 z, .int .i64 x, .int .i64 y] 39)) = w1 := ⟨_, rfl⟩
  rw [hw1] at HA HB0 HR hs0 ⊢
  clear hw1
  go_loopw [7, 8, 9, 10, 11, 12, 13, 14, 15] (fun fv la i _ _ _ _ _ _ wr => ∃ k : Nat, k <= v /\ i = .int .i64 k /\ la = .int .i64 (lsV bs l z x y k : Nat) /\ Hid (AtR rF wr fv (atV bs k)) /\ Hid (Below w1.heap.size w1 wr)) (fun _ _ i _ _ _ _ _ _ _ => v - (intOf i).toNat)
  case atStart => exact ⟨0, by omega, rfl, rfl, hide (nilF _), hide (Below.refl _ _)⟩
  case round =>
    obtain ⟨k, hk, rfl, rfl, hF, hb⟩ := hrel
    by_cases hlt : k < v
    . have hkv : (k : Int) < v := by omega
      have hkb : (k : Int) < bs.length := by omega
      obtain ⟨b, off, cap, oa, c, e, hc, hE⟩ := ((unhide HR).on (unhide hb)).batch (k := k) (by omega)
      have r1 := ((unhide HR).on (unhide hb)).c1
      have hlb : b < wr.heap.size := by
        rcases Nat.lt_or_ge b wr.heap.size with q | q
        . exact q
        . simp [World.cell?, Array.getElem?_eq_none q] at hc
      have hlr : rb < wr.heap.size := ((unhide HR).on (unhide hb)).lt
      rw [e] at r1
      obtain ⟨N, hN⟩ : ∃ N, (btc bs k).length = N := ⟨_, rfl⟩
      have hN8 := h8 k (by omega)
      rw [hN] at hc hE hN8
      have HN := hide hN
      have HE := hide hE
      have HC := hide hc
      have HR1 := hide r1
      have HA1 := hide (blk_on (unhide HA) (unhide hb))
      obtain ⟨L, hL⟩ : ∃ L, lsV bs l z x y k = L := ⟨_, rfl⟩
      rw [hL]
      have HL := hide hL
      clear hE e hN hL
      go_wp2_with fail
      go_loopw [7, 8, 10, 11, 12, 13, 14, 15] (fun fv la i _ _ _ _ _ w2 => ∃ j : Nat, j <= N /\ i = .int .i64 j /\ la = .int .i64 (lsB ((mvT (atV bs k) (gf (btc bs k)) j).any (fun f => Tch f l z x y)) (k + 1) L : Nat) /\ Hid (AtR rF w2 fv (edT (atV bs k) (gf (btc bs k)) j)) /\ Hid (Below wr.heap.size wr w2)) (fun _ _ i _ _ _ _ _ _ => N - (intOf i).toNat)
      case atStart => exact ⟨0, by omega, rfl, rfl, hF, hide (Below.refl _ _)⟩
      case round =>
        obtain ⟨j, hj, rfl, rfl, hF2, hb2⟩ := hrel
        have q1 := ((unhide hb2).cell (p := ⟨rb, 1, none⟩) hlr).trans (unhide HR1)
        have qc := ((unhide hb2).cell (p := ⟨b, off + k, none⟩) hlb).trans (unhide HC)
        clear r1 hc
        by_cases hjn : j < N
        . have hjN : (j : Int) < N := by omega
          obtain ⟨oa', cap', e', _, _, hr⟩ := unhide HE
          have hEl : (btc bs k).length = N := unhide HN
          cases e'
          obtain ⟨b', off', rfl, hb', hr0⟩ := hr (by rw [hEl]; omega)
          have hrg0 := rngE hr0 (k := j) (by rw [hEl]; omega)
          have hrg : wr.rangeAt b' (off' + j * 25) (cc 25 (gf (btc bs k) j)).toList := fun q u hu => ((unhide hb2).cell (p := ⟨b', off' + j * 25 + q, none⟩) hb').trans (hrg0 q u hu)
          obtain ⟨C, hC⟩ : ∃ C, lsB ((mvT (atV bs k) (gf (btc bs k)) j).any (fun f => Tch f l z x y)) (k + 1) L = C := ⟨_, rfl⟩
          rw [hC]
          have HCE := hide hC
          clear hr hr0 hrg0 hEl hC
          go_wp2_with (refine ldG 100 (cc 25 (gf (btc bs k) j)) Tryz.underlying100 rfl (sz56 _) b' (off' + j * 25) hrg rfl _ rfl rfl ?_)
          refine (Edited_any _ _ (gf (btc bs k) j) _ (unhide hF2) (edT_len (atV_len bs k) j)).mono ?_
          rintro en w3 ⟨nv, mv, rfl, hN3, hM3, hb3⟩
          have HN3 := hide hN3
          have hb3' := (unhide hb2).trans (hb3.mono (unhide hb2).size)
          have HB3 := hide hb3'
          have HA3 := hide (blk_on (unhide HA1) hb3')
          have hMl : (edM (edT (atV bs k) (gf (btc bs k)) j) (gf (btc bs k) j)).length <= 41 := edM_le (edT_len (atV_len bs k) j)
          obtain ⟨M, hM⟩ : ∃ M, edM (edT (atV bs k) (gf (btc bs k)) j) (gf (btc bs k) j) = M := ⟨_, rfl⟩
          rw [hM] at hM3 hMl
          have HME := hide hM
          obtain ⟨ma, mc, rfl, _, _, hmr⟩ := hM3
          have HMR := hide hmr
          clear hN3 hb3 hb3' q1 qc hrg hmr hM
          go_wp2_with fail
          go_loopw [8, 14, 15] (fun la i _ w4 => ∃ m : Nat, m <= M.length /\ i = .int .i64 m /\ la = .int .i64 (lsB ((M.take m).any (fun f => Tch f l z x y)) (k + 1) C : Nat) /\ Hid (Below w3.heap.size w3 w4)) (fun _ i _ _ => M.length - (intOf i).toNat)
          case atStart => exact ⟨0, by omega, rfl, rfl, hide (Below.refl _ _)⟩
          case round =>
            obtain ⟨m, hm, rfl, rfl, hb4⟩ := hrel
            by_cases hmn : m < M.length
            . have hmN : (m : Int) < M.length := by omega
              obtain ⟨b5, off5, rfl, hb5, hr5⟩ := unhide HMR (by omega)
              have hrg5 : ∀ W, Below wr.heap.size wr W -> W.rangeAt b5 (off5 + m * 24) (fc (gf M m)).toList := fun W hW q u hu => (((unhide hb4).trans (hW.mono (unhide hb4).size)).cell (p := ⟨b5, off5 + m * 24 + q, none⟩) hb5).trans (rngF hr5 hmn q u hu)
              have hKY : ∀ W, Below wr.heap.size wr W -> W.rangeAt w.heap.size 0 #[Value.int .i64 l, .int .i64 z, .int .i64 x, .int .i64 y].toList := fun W hW => rng_blk (blk_on (unhide HA3) ((unhide hb4).trans (hW.mono (unhide hb4).size)))
              have TT := fun W => refTouches_any (gf M m) l z x y W
              obtain ⟨T, hT⟩ : ∃ T, Tch (gf M m) l z x y = T := ⟨_, rfl⟩
              have hnx : lsB ((M.take (m + 1)).any (fun f => Tch f l z x y)) (k + 1) C = bif T then k + 1 else lsB ((M.take m).any (fun f => Tch f l z x y)) (k + 1) C := by
                rw [any_take hmn, hT, <- lsB_more]; rfl
              rw [hT] at TT
              have HNX := hide hnx
              clear hnx hr5 hT
              go_wp2_with fail
              refine region_bq (by kernel_rfl) (by kernel_rfl) ?_
              refine q_move rfl _ rfl (.slice (some ⟨b5, off5, none⟩) M.length mc) rfl ?_
              simp only [Act.put, qA, qB, qC]
              refine q_move rfl _ rfl (.int .i64 m) rfl ?_
              simp only [Act.put, qA, qB, qC]
              refine q_val rfl (.pointer (some ⟨b5, off5 + m * 24, none⟩)) (fun _ _ => by simp [go_sem, hmN]) ?_
              simp only [Act.put, qA, qB, qC]
              refine q_load rfl 66 _ rfl b5 (off5 + m * 24) rfl (fc (gf M m)) _ Tryz.underlying66 rfl (szf _) hrg5 ?_
              simp only [Act.put, qA, qB, qC]
              refine q_load rfl 39 _ rfl w.heap.size 0 rfl #[.int .i64 l, .int .i64 z, .int .i64 x, .int .i64 y] _ Tryz.underlying39 rfl (sz28 l z x y) hKY ?_
              simp only [Act.put, qA, qB, qC]
              refine q_call rfl 106 #[.agg (fc (gf M m)), .agg #[.int .i64 l, .int .i64 z, .int .i64 x, .int .i64 y]] (fun _ => by simp [go_sem]) _ TT ?_
              simp only [Act.put, qA, qB, qC]
              refine q_val rfl (.bool T) (fun _ _ => by simp [go_sem]) ?_
              simp only [Act.put, qA, qB, qC]
              refine wpQuiet_nil ?_
              intro w6 hw6
              have HB6 := hide ((unhide hb4).trans (hw6.mono (unhide hb4).size))
              clear hw6 TT hrg5 hKY
              cases T with
              | false =>
                go_wp2_with fail
                go_roundw
                case rel => exact ⟨m + 1, by omega, by go_num, by rw [unhide HNX]; rfl, HB6⟩
                case measure => simp [intOf]; omega
              | true =>
                have hwr : IntKind.i64.wrap ((k : Int) + 1) = ((k + 1 : Nat) : Int) := by rw [i64_of _ (by omega)]; omega
                go_wp2_with fail
                go_roundw
                case rel => exact ⟨m + 1, by omega, by go_num, by rw [unhide HNX]; rfl, HB6⟩
                case measure => simp [intOf]; omega
            . have hmN : m = M.length := by omega
              subst hmN
              rw [List.take_length]
              have HNE : Hid (lsB (M.any fun f => Tch f l z x y) (k + 1) C = lsB ((mvT (atV bs k) (gf (btc bs k)) (j + 1)).any (fun f => Tch f l z x y)) (k + 1) L) := by
                show _ = _
                rw [mv_step, unhide HME, unhide HCE]
              have HB7 := hide ((unhide HB3).trans ((unhide hb4).mono (unhide HB3).size))
              have HN7 := hide ((unhide HN3).on (unhide hb4))
              go_wp2_with fail
              go_roundw
              case rel => exact ⟨j + 1, by omega, by go_num, by rw [unhide HNE], HN7, HB7⟩
              case measure => simp [intOf]; omega
        . have hjN : j = N := by omega
          subst hjN
          have HF3 : Hid (AtR rF wr u7 (atV bs (k + 1))) := by rw [at_step, unhide HN]; exact hF2
          have HNE : Hid (lsB ((mvT (atV bs k) (gf (btc bs k)) j).any (fun f => Tch f l z x y)) (k + 1) L = lsV bs l z x y (k + 1)) := by
            show _ = _
            rw [ls_step, unhide HN, unhide HL]
          have HB3 := hide ((unhide hb).trans ((unhide hb2).mono (unhide hb).size))
          clear hF2
          go_wp2_with fail
          go_roundw
          case rel => exact ⟨k + 1, by omega, by go_num, by rw [unhide HNE], HF3, HB3⟩
          case measure => simp [intOf]; omega
    . have hkn : k = v := by omega
      subst hkn
      have hkv : ¬ (k : Int) < k := by omega
      have HB9 := hide ((unhide HB0).trans ((unhide hb).mono (by omega)))
      go_wp2_with fail
      go_ret
      exact ⟨rfl, unhide HB9⟩
section
variable {w : World} {rb : Nat} {keep : Int} {bv pv : Value} {SL : List Sli} {bs : List Bat} {PI : List Int}
theorem count_take {v : Int} {k : Nat} (h : k < PI.length) : (PI.take (k + 1)).count v = (PI.take k).count v + (if PI[k] = v then 1 else 0) := by
  rw [List.take_add_one, List.getElem?_eq_getElem h, List.count_append]
  by_cases c : PI[k] = v
  . simp [c]
  . simp [c]
theorem count_pos (PI : List Int) (v : Int) : decide (0 < PI.count v) = decide (v ∈ PI) := by
  by_cases c : v ∈ PI
  . rw [decide_eq_true c, decide_eq_true (List.count_pos_iff.2 c)]
  . rw [decide_eq_false c, decide_eq_false (fun q => c (List.count_pos_iff.1 q))]
theorem held_eq (keep : Int) (n : Nat) (PI : List Int) (v : Int) : heldB keep n (ri PI) v = (decide (0 <= v) && decide (v <= n) && (decide (0 < PI.count v) || decide ((n : Int) - v <= keep))) := by
  unfold heldB
  rw [hasP_ri, count_pos, Bool.or_comm (decide (v ∈ PI))]
  congr 2
  by_cases c : (n : Int) - keep <= v
  . rw [decide_eq_true c, decide_eq_true (by omega)]
  . rw [decide_eq_false c, decide_eq_false (by omega)]
set_option maxHeartbeats 1600000 in
theorem pins_any (v : Int) (hR : RSt w rb keep bv pv SL bs PI) (hl : PI.length <= 100) :
    Calls Tryz.prog 118 #[.pointer (some ⟨rb, 0, none⟩), .int .i64 v] w fun en w' => en = .returned (.int .i64 (PI.count v : Nat)) /\ w = w' := by
  have c2 := hR.c2
  obtain ⟨oa, cap, e, _, _, hc⟩ := hR.pin.at
  rw [e] at c2
  have HC := hide hc
  clear hc hR e
  go_enter Tryz.func118, Tryz.ntmps118
  go_wp2_with fail
  go_loop [5, 6] (fun s i => ∃ k : Nat, k <= PI.length /\ i = .int .i64 k /\ s = .int .i64 ((PI.take k).count v : Nat)) (fun _ i => PI.length - (intOf i).toNat)
  case atStart => exact ⟨0, by omega, rfl, by simp⟩
  case round =>
    obtain ⟨k, hk, rfl, rfl⟩ := hrel
    by_cases hlt : k < PI.length
    . have hkn : (k : Int) < PI.length := by omega
      obtain ⟨b, off, rfl, hbl, hc0⟩ := unhide HC (by omega)
      have hi : PI[k]? = some PI[k] := List.getElem?_eq_getElem hlt
      have ck := rngI hc0 hi
      have HS := hide (count_take (PI := PI) (v := v) hlt)
      have hcl : (PI.take k).count v <= k := by have := List.count_le_length (a := v) (l := PI.take k); rw [List.length_take] at this; omega
      obtain ⟨x, hx⟩ : ∃ x, PI[k] = x := ⟨_, rfl⟩
      rw [hx] at ck HS
      clear hc0 hi hx
      by_cases he : x = v
      . subst he
        have hw : IntKind.i64.wrap (((PI.take k).count x : Nat) + 1 : Int) = (((PI.take k).count x + 1 : Nat) : Int) := by rw [i64_of _ (by omega)]; omega
        go_wp2_with fail
        go_round
        case rel => exact ⟨k + 1, by omega, by go_num, by rw [unhide HS, if_pos rfl, Int.natCast_add]; rfl⟩
        case measure => simp [intOf]; omega
      . go_wp2_with fail
        go_round
        case rel => exact ⟨k + 1, by omega, by go_num, by rw [unhide HS, if_neg he]; rfl⟩
        case measure => simp [intOf]; omega
    . have hkn : k = PI.length := by omega
      subst hkn
      rw [List.take_length]
      go_wp2_with fail
      go_ret
      exact ⟨rfl, rfl⟩
set_option maxHeartbeats 1600000 in
theorem IsHeld_any (v : Int) (hR : RSt w rb keep bv pv SL bs PI) (hl : PI.length <= 100) (hn : bs.length <= 100) :
    Calls Tryz.prog 72 #[.pointer (some ⟨rb, 0, none⟩), .int .i64 v] w fun en w' => en = .returned (.bool (heldB keep (bs.length : Nat) (ri PI) v)) /\ Below w.heap.size w w' := by
  have c0 := hR.c0
  have c1 := hR.c1
  obtain ⟨oa, cap, e, _, _, hc⟩ := hR.bat.at
  rw [e, hR.len] at c1
  have HR := hide hR
  clear hR hc e
  by_cases h1 : v < 0
  . have H : Hid (heldB keep (bs.length : Nat) (ri PI) v = false) := by show _ = _; rw [held_eq, decide_eq_false (by omega)]; rfl
    go_enter Tryz.func72, Tryz.ntmps72
    go_wp2_with fail
    go_ret
    exact ⟨ret_bool (unhide H).symm, Below.refl _ _⟩
  . by_cases h2 : (bs.length : Int) < v
    . have H : Hid (heldB keep (bs.length : Nat) (ri PI) v = false) := by show _ = _; rw [held_eq, decide_eq_false (show ¬ v <= (bs.length : Nat) by omega), Bool.and_false]; rfl
      go_enter Tryz.func72, Tryz.ntmps72
      go_wp2_with fail
      go_ret
      exact ⟨ret_bool (unhide H).symm, Below.refl _ _⟩
    . have H : Hid (heldB keep (bs.length : Nat) (ri PI) v = (decide (0 < PI.count v) || decide ((bs.length : Int) - v <= keep))) := by show _ = _; rw [held_eq, decide_eq_true (show 0 <= v by omega), decide_eq_true (show v <= (bs.length : Nat) by omega)]; rfl
      have e1 : IntKind.i64.wrap ((bs.length : Int) - v) = (bs.length : Int) - v := i64_of _ (by omega)
      obtain ⟨P, hP⟩ : ∃ P, PI.count v = P := ⟨_, rfl⟩
      have HP := hide hP
      have HC := hide (pins_any v (unhide HR) hl)
      rw [hP] at HC
      rw [hP] at H
      clear hP
      go_enter Tryz.func72, Tryz.ntmps72
      go_wp2_with fail
      refine (unhide HC).mono ?_
      rintro en w2 ⟨rfl, rfl⟩
      by_cases h3 : 0 < P
      . have h3' : (0 : Int) < P := by omega
        have hd : decide (0 < P) = true := decide_eq_true h3
        go_wp2_with fail
        go_quiet (fail)
        go_wp2_with fail
        go_ret
        refine ⟨ret_bool (by rw [unhide H, hd]; rfl), ?_⟩
        repeat first | exact Below.refl _ _ | refine below_drewN ?_ _ | refine Below.drew ?_
      . have h3' : ¬ (0 : Int) < P := by omega
        have hd : decide (0 < P) = false := decide_eq_false h3
        by_cases h4 : (bs.length : Int) - v <= keep
        . have hd4 : decide ((bs.length : Int) - v <= keep) = true := decide_eq_true h4
          go_wp2_with fail
          go_quiet (fail)
          go_wp2_with fail
          go_ret
          refine ⟨ret_bool (by rw [unhide H, hd, hd4]; rfl), ?_⟩
          repeat first | exact Below.refl _ _ | refine below_drewN ?_ _ | refine Below.drew ?_
        . have hd4 : decide ((bs.length : Int) - v <= keep) = false := decide_eq_false h4
          go_wp2_with fail
          go_quiet (fail)
          go_wp2_with fail
          go_ret
          refine ⟨ret_bool (by rw [unhide H, hd, hd4]; rfl), ?_⟩
          repeat first | exact Below.refl _ _ | refine below_drewN ?_ _ | refine Below.drew ?_
end
def hldL (keep : Int) (n : Nat) (PI : List Int) (k : Nat) : List Int := ((List.range k).filter fun v => heldB keep n (ri PI) (v : Nat)).map fun v => ((v : Nat) : Int)
theorem hldL_succ (keep : Int) (n : Nat) (PI : List Int) (k : Nat) : hldL keep n PI (k + 1) = hldL keep n PI k ++ (bif heldB keep n (ri PI) (k : Nat) then [(k : Int)] else []) := by
  unfold hldL
  rw [List.range_succ, List.filter_append, List.map_append]
  congr 1
  cases h : heldB keep n (ri PI) (k : Nat) <;> simp [h]
theorem hldL_len (keep : Int) (n : Nat) (PI : List Int) (k : Nat) : (hldL keep n PI k).length <= k := by
  unfold hldL
  rw [List.length_map]
  exact Nat.le_trans (List.length_filter_le _ _) (by simp)
theorem OwnR.slice {α : Type} {R : Row α} {T : TypeId} {w : World} {v : Value} {l : List α} (h : OwnR R T w v l) : ∃ oa c, v = .slice oa l.length c := by
  obtain ⟨oa, c, e, _⟩ := h.at
  exact ⟨oa, c, e⟩
section
variable {w : World} {rb : Nat} {keep : Int} {bv pv : Value} {SL : List Sli} {bs : List Bat} {PI : List Int}
set_option maxHeartbeats 3200000 in
theorem rHeld_any (hR : RSt w rb keep bv pv SL bs PI) (hl : PI.length <= 100) (hn : bs.length <= 100) :
    Calls Tryz.prog 58 #[.pointer (some ⟨rb, 0, none⟩)] w fun en w' => ∃ rv, en = .returned rv /\ OwnR rI 3 w' rv (hldL keep bs.length PI (bs.length + 1)) /\ (∀ g, rv.ownBlock = some g -> w.heap.size <= g) /\ Below w.heap.size w w' := by
  have c1 := hR.c1
  have hlr := hR.lt
  obtain ⟨oa, cap, e, _, _, hc⟩ := hR.bat.at
  rw [e, hR.len] at c1
  have HR := hide hR
  have HC1 := hide c1
  clear hR hc e c1
  go_enter Tryz.func58, Tryz.ntmps58
  go_wp2_with fail
  go_loopw [3, 4, 5] (fun lv i _ wr => ∃ k : Nat, k <= bs.length + 1 /\ i = .int .i64 k /\ Hid (OwnR rI 3 wr lv (hldL keep bs.length PI k)) /\ Hid (∀ g, lv.ownBlock = some g -> w.heap.size <= g) /\ Hid (Below w.heap.size w wr)) (fun _ i _ _ => bs.length + 1 - (intOf i).toNat)
  case atStart => exact ⟨0, by omega, rfl, hide (ownR_nil), hide (fun g hg => by simp [Value.ownBlock] at hg), hide (Below.refl _ _)⟩
  case round =>
    obtain ⟨k, hk', rfl, ho, hf, hb⟩ := hrel
    have r1 := ((unhide hb).cell (p := ⟨rb, 1, none⟩) hlr).trans (unhide HC1)
    by_cases hlt : k <= bs.length
    . have hkn : (k : Int) <= bs.length := by omega
      have HI := hide (IsHeld_any (v := (k : Nat)) ((unhide HR).on (unhide hb)) hl hn)
      obtain ⟨B, hB⟩ : ∃ B, heldB keep (bs.length : Nat) (ri PI) (k : Nat) = B := ⟨_, rfl⟩
      have HS := hide (hldL_succ keep bs.length PI k)
      rw [hB] at HI HS
      clear hB
      go_wp2_with fail
      refine (unhide HI).mono ?_
      rintro en w2 ⟨rfl, hb2⟩
      have HO2 := hide ((unhide ho).on hb2)
      have HB2 := hide ((unhide hb).trans (hb2.mono (unhide hb).size))
      clear hb2 r1
      cases B with
      | false =>
        go_wp2_with fail
        go_roundw
        case rel => exact ⟨k + 1, by omega, by go_num, by rw [unhide HS, cond_false, List.append_nil]; exact HO2, hf, HB2⟩
        case measure => simp [intOf]; omega
      | true =>
        have hll := hldL_len keep bs.length PI k
        obtain ⟨v3, w3, r1, r2, r3, r4⟩ := apI ((unhide HO2).on ((Below.refl _ _).alloc (Nat.le_refl _) (.cells #[.int .i64 (k : Int)] 3))) (at_new rI 3 w2 (k : Int) #[.int .i64 (k : Int)] rfl) (by simp; omega)
        have HO3 : Hid (OwnR rI 3 w3 v3 (hldL keep bs.length PI (k + 1))) := by rw [unhide HS]; exact r2
        have HF3 : Hid (∀ g, v3.ownBlock = some g -> w.heap.size <= g) := fun g hg => by
          rcases r4 with r4 | r4
          . exact unhide hf g (r4 ▸ hg)
          . have q1 := r4 g hg; have := (unhide HB2).size; simp at q1; omega
        have HB3 := hide (((unhide HB2).alloc (unhide HB2).size _).grown r3 (by have := (unhide HB2).size; simp; omega) (fun g hg => unhide hf g hg))
        clear r2 r3 r4
        go_wp2_with (first | refine wlV _ _ (bsI (k : Int) _ _ _ rfl rfl _) rfl ?_ | (at_builtin; refine wlR 60 r1 rfl _ _ rfl rfl rfl rfl ?_))
        go_roundw
        case rel => exact ⟨k + 1, by omega, by go_num, HO3, HF3, HB3⟩
        case measure => simp [intOf]; omega
    . have hkn : k = bs.length + 1 := by omega
      subst hkn
      have hkv : ¬ ((bs.length + 1 : Nat) : Int) <= bs.length := by omega
      go_wp2_with fail
      go_ret
      exact ⟨_, rfl, unhide ho, unhide hf, unhide hb⟩
def RPinR (w : World) (rb : Nat) (keep : Int) (bv pv : Value) (SL : List Sli) (bs : List Bat) (PI : List Int) (v : Int) (e : Ending) (w' : World) : Prop :=
  (heldB keep (bs.length : Nat) (ri PI) v = false /\ e = .returned (.int .i64 12) /\ Below w.heap.size w w') \/ (heldB keep (bs.length : Nat) (ri PI) v = true /\ 6 <= PI.length /\ e = .returned (.int .i64 13) /\ Below w.heap.size w w') \/
  (heldB keep (bs.length : Nat) (ri PI) v = true /\ PI.length < 6 /\ e = .returned (.int .i64 0) /\ Frm (fun k => k = rb \/ pv.ownBlock = some k) w w' /\ ∃ pv', RSt w' rb keep bv pv' SL bs (PI ++ [v]) /\ (pv'.ownBlock = pv.ownBlock \/ ∀ g, pv'.ownBlock = some g -> w.heap.size <= g))
theorem RSt.pinned {w' w'' : World} {pv' : Value} {PI' : List Int} (h : RSt w rb keep bv pv SL bs PI) (hF : Frm (fun k => pv.ownBlock = some k) w w') (hp : OwnR rI 3 w' pv' PI') (he : w'' = w'.setCell ⟨rb, 2, none⟩ pv') : RSt w'' rb keep bv pv' SL bs PI' := by
  subst he
  have hb : w'.heap[rb]? = some (.cells #[.int .i64 keep, bv, pv] 121 (0, 0)) := blk_frm h.blk hF fun q => (by obtain ⟨c1, e1⟩ := h.pin.ty q; exact blk_ne e1 h.blk (by decide) rfl)
  refine ⟨?_, ?_, h.len, fun i s b hs hb' => ?_, ?_⟩
  . show (w'.setCell ⟨rb, 2, none⟩ pv').heap[rb]? = _
    simp [World.setCell, Array.getElem?_modify, hb]
  . refine (h.bat.frm hF fun g hg q => ?_).same fun g hg => Below.heap_setCell _ _ _ _ ?_
    . obtain ⟨c1, e1⟩ := h.bat.ty hg
      obtain ⟨c2, e2⟩ := h.pin.ty q
      exact blk_ne e1 e2 (by decide) rfl
    . obtain ⟨c1, e1⟩ := h.bat.ty hg
      exact blk_ne e1 h.blk (by decide)
  . have ho := h.bts i s b hs hb'
    refine (ho.frm hF fun g hg q => ?_).same fun g hg => Below.heap_setCell _ _ _ _ ?_
    . obtain ⟨c1, e1⟩ := ho.ty hg
      obtain ⟨c2, e2⟩ := h.pin.ty q
      exact blk_ne e1 e2 (by decide) rfl
    . obtain ⟨c1, e1⟩ := ho.ty hg
      exact blk_ne e1 h.blk (by decide)
  . exact hp.same fun g hg => Below.heap_setCell _ _ _ _ (by obtain ⟨c1, e1⟩ := hp.ty hg; exact blk_ne e1 hb (by decide))
end
theorem grown_frm {w w1 w' : World} {o : Obj} {row : Option Nat} (hb : Below w.heap.size w w1) (hg : (w1.alloc o).grownBy w' row) : Frm (fun k => row = some k) w w' :=
  (Frm.of_below (S := fun k => row = some k) (hb.alloc hb.size o)).grown hg fun _ q _ => q
theorem OwnR.slc {α : Type} {R : Row α} {T : TypeId} {w : World} {v : Value} {l : List α} (h : OwnR R T w v l) : ∃ oa n c, v = .slice oa n c := by
  obtain ⟨oa, c, e, _⟩ := h.at
  exact ⟨oa, _, c, e⟩
section
variable {w : World} {rb : Nat} {keep : Int} {bv pv : Value} {SL : List Sli} {bs : List Bat} {PI : List Int}
set_option maxHeartbeats 3200000 in
theorem rPin_any (v : Int) (hR : RSt w rb keep bv pv SL bs PI) (hl : PI.length <= 6) (hn : bs.length <= 100) :
    Calls Tryz.prog 31 #[.pointer (some ⟨rb, 0, none⟩), .int .i64 v] w fun e w' => RPinR w rb keep bv pv SL bs PI v e w' := by
  have HI := hide (IsHeld_any (v := v) hR (by omega) hn)
  have HR := hide hR
  clear hR
  cases hh : heldB keep (bs.length : Nat) (ri PI) v with
  | false =>
    rw [hh] at HI
    go_enter Tryz.func31, Tryz.ntmps31
    go_wp2_with fail
    refine (unhide HI).mono ?_
    rintro e w1 ⟨rfl, hb1⟩
    have HH : Hid (RPinR w rb keep bv pv SL bs PI v (.returned (.int .i64 12)) w1) := Or.inl ⟨hh, rfl, hb1⟩
    clear hb1
    go_wp2_with fail
    go_ret
    exact unhide HH
  | true =>
    rw [hh] at HI
    go_enter Tryz.func31, Tryz.ntmps31
    go_wp2_with fail
    refine (unhide HI).mono ?_
    rintro e w1 ⟨rfl, hb1⟩
    have hR1 := (unhide HR).on hb1
    have c2 := hR1.c2
    have HR1 := hide hR1
    have HB1 := hide hb1
    obtain ⟨oa, cap, hpv⟩ := hR1.pin.slice
    subst hpv
    clear hR1 hb1
    by_cases h6 : 6 <= PI.length
    . have h6' : (5 : Int) < PI.length := by omega
      have HH : Hid (RPinR w rb keep bv (.slice oa PI.length cap) SL bs PI v (.returned (.int .i64 13)) w1) := Or.inr (Or.inl ⟨hh, h6, rfl, unhide HB1⟩)
      go_wp2_with fail
      go_ret
      exact unhide HH
    . have h6' : ¬ (5 : Int) < PI.length := by omega
      obtain ⟨v3, w3, r1, r2, r3, r4⟩ := apI ((unhide HR1).pin.on ((Below.refl _ _).alloc (Nat.le_refl _) (.cells #[.int .i64 v] 3))) (at_new rI 3 w1 v #[.int .i64 v] rfl) (by simp; omega)
      obtain ⟨o3, n3, k3, hv3⟩ := r2.slc
      subst hv3
      have hF := grown_frm (unhide HB1) r3
      have hF1 := grown_frm (Below.refl w1.heap.size w1) r3
      have hb3 : w3.heap[rb]? = some (.cells #[.int .i64 keep, bv, .slice oa PI.length cap] 121 (0, 0)) := blk_frm (unhide HR1).blk hF1 (fun q => by obtain ⟨c1, e1⟩ := (unhide HR1).pin.ty q; exact blk_ne e1 (unhide HR1).blk (by decide) rfl)
      have c3 := (blk_cells hb3 2).trans (show _ = some (Value.slice oa PI.length cap) from rfl)
      have fz := frz_blk hb3 2
      have HH : Hid (RPinR w rb keep bv (.slice oa PI.length cap) SL bs PI v (.returned (.int .i64 0)) (w3.setCell ⟨rb, 2, none⟩ (.slice o3 n3 k3))) := by
        refine Or.inr (Or.inr ⟨hh, by omega, rfl, (hF.mono fun _ _ q => Or.inr q).setCell _ (fun _ => Or.inl rfl), _, (unhide HR1).pinned hF1 r2 rfl, ?_⟩)
        rcases r4 with r4 | r4
        . exact Or.inl r4
        . exact Or.inr fun g hg => by have q1 := r4 g hg; have := (unhide HB1).size; simp at q1; omega
      clear r2 r3 r4 hF hF1 hb3
      go_wp2_with (first | refine wlV _ _ (bsI v _ _ _ rfl rfl _) rfl ?_ | (at_builtin; refine wlR 60 r1 rfl _ _ rfl rfl rfl rfl ?_))
      go_ret
      exact unhide HH
def RUnpR (w : World) (rb : Nat) (keep : Int) (bv : Value) (SL : List Sli) (bs : List Bat) (PI : List Int) (v : Int) (e : Ending) (w' : World) : Prop :=
  (v ∉ PI /\ e = .returned (.int .i64 12) /\ Below w.heap.size w w') \/ (v ∈ PI /\ e = .returned (.int .i64 0) /\ Frm (fun k => k = rb) w w' /\ ∃ pv', RSt w' rb keep bv pv' SL bs (PI.erase v) /\ ∀ g, pv'.ownBlock = some g -> w.heap.size <= g)
set_option maxHeartbeats 6400000 in
theorem rUnpin_any (v : Int) (hR : RSt w rb keep bv pv SL bs PI) (hl : PI.length <= 6) :
    Calls Tryz.prog 33 #[.pointer (some ⟨rb, 0, none⟩), .int .i64 v] w fun e w' => RUnpR w rb keep bv SL bs PI v e w' := by
  have c2 := hR.c2
  have hlt := hR.lt
  obtain ⟨oa, cap, e, _, _, hc⟩ := hR.pin.at
  rw [e] at c2
  have HC := hide hc
  have HR := hide hR
  have HC2 := hide c2
  clear hc hR c2 e
  go_enter Tryz.func33, Tryz.ntmps33
  go_wp2_with fail
  go_loopw [5, 6, 7] (fun lv fv i wr => ∃ (k : Nat), k <= PI.length /\ i = .int .i64 k /\ Hid (fv = .bool (decide (v ∈ PI.take k))) /\ Hid (OwnR rI 3 wr lv ((PI.take k).erase v)) /\ Hid (∀ g, lv.ownBlock = some g -> w.heap.size <= g) /\ Hid (Below w.heap.size w wr)) (fun _ _ i _ => PI.length - (intOf i).toNat)
  case atStart => exact ⟨0, by omega, rfl, hide (by simp), hide (by simpa using (ownR_nil (R := rI) (T := 3) (w := w))), hide (fun g hg => by simp [Value.ownBlock] at hg), hide (Below.refl _ _)⟩
  case round =>
    obtain ⟨k, hk, rfl, hfv, ho, hf, hb⟩ := hrel
    have hfv' := unhide hfv
    clear hfv
    have r3 := ((unhide hb).cell (p := ⟨rb, 2, none⟩) hlt).trans (unhide HC2)
    by_cases hlk : k < PI.length
    . have hkn : (k : Int) < PI.length := by omega
      obtain ⟨b, off, rfl, hbl, hc0⟩ := unhide HC (by omega)
      have hi : PI[k]? = some PI[k] := List.getElem?_eq_getElem hlk
      have ck := ((unhide hb).cell (p := ⟨b, off + k, none⟩) hbl).trans (rngI hc0 hi)
      have HTE := hide (take_erase (v := v) hlk)
      have HMT := hide (mem_take_succ (v := v) hlk)
      obtain ⟨X, hX⟩ : ∃ X, PI[k] = X := ⟨_, rfl⟩
      rw [hX] at ck HTE HMT
      clear hc0 hi hX
      have hL : ((PI.take k).erase v).length <= 6 := by
        have := List.length_erase_le (a := v) (l := PI.take k)
        have h2 : (PI.take k).length <= k := by simp; omega
        omega
      obtain ⟨v5, w5, a1, a2, a3, a4⟩ := apI ((unhide ho).on ((Below.refl _ _).alloc (Nat.le_refl _) (.cells #[.int .i64 X] 3))) (at_new rI 3 wr X #[.int .i64 X] rfl) (by simp; omega)
      have HO5 := hide a2
      have HF5 : Hid (∀ g, v5.ownBlock = some g -> w.heap.size <= g) := fun g hg => by
        rcases a4 with a4 | a4
        . exact unhide hf g (a4 ▸ hg)
        . have q1 := a4 g hg; have := (unhide hb).size; simp at q1; omega
      have HB5 := hide (((unhide hb).alloc (unhide hb).size _).grown a3 (by have := (unhide hb).size; simp; omega) (fun g hg => unhide hf g hg))
      clear a2 a3 a4 hL
      by_cases hin : v ∈ PI.take k
      . rw [decide_eq_true hin] at hfv'
        subst hfv'
        have HD : Hid (decide (v ∈ PI.take (k + 1)) = true) := decide_eq_true ((unhide HMT).2 (Or.inl hin))
        have HL : Hid ((PI.take (k + 1)).erase v = (PI.take k).erase v ++ [X]) := by show (PI.take (k + 1)).erase v = _; rw [unhide HTE, if_pos hin]
        clear hin
        by_cases hx : X = v
        . subst hx
          go_wp2_with (first | refine wlV _ _ (bsI X _ _ _ rfl rfl _) rfl ?_ | (at_builtin; refine wlR 60 a1 rfl _ _ rfl rfl rfl rfl ?_))
          go_roundw
          case rel => exact ⟨k + 1, by omega, by go_num, hide (by rw [unhide HD]), by rw [unhide HL]; exact HO5, HF5, HB5⟩
          case measure => simp [intOf]; omega
        . go_wp2_with (first | refine wlV _ _ (bsI X _ _ _ rfl rfl _) rfl ?_ | (at_builtin; refine wlR 60 a1 rfl _ _ rfl rfl rfl rfl ?_))
          go_roundw
          case rel => exact ⟨k + 1, by omega, by go_num, hide (by rw [unhide HD]), by rw [unhide HL]; exact HO5, HF5, HB5⟩
          case measure => simp [intOf]; omega
      . rw [decide_eq_false hin] at hfv'
        subst hfv'
        have her : (PI.take k).erase v = PI.take k := List.erase_of_not_mem hin
        by_cases hx : X = v
        . have HD : Hid (decide (v ∈ PI.take (k + 1)) = true) := decide_eq_true ((unhide HMT).2 (Or.inr hx.symm))
          have HL : Hid ((PI.take (k + 1)).erase v = (PI.take k).erase v) := by show (PI.take (k + 1)).erase v = _; rw [unhide HTE, if_neg hin, if_pos hx, her]
          subst hx
          clear her a1 HO5 HF5 HB5 hin
          go_wp2_with fail
          go_roundw
          case rel => exact ⟨k + 1, by omega, by go_num, hide (by rw [unhide HD]), by rw [unhide HL]; exact ho, hf, hb⟩
          case measure => simp [intOf]; omega
        . have HD : Hid (decide (v ∈ PI.take (k + 1)) = false) := decide_eq_false (fun h => by rcases (unhide HMT).1 h with h | h; exact hin h; exact hx h.symm)
          have HL : Hid ((PI.take (k + 1)).erase v = (PI.take k).erase v ++ [X]) := by show (PI.take (k + 1)).erase v = _; rw [unhide HTE, if_neg hin, if_neg hx, her]
          clear her hin
          go_wp2_with (first | refine wlV _ _ (bsI X _ _ _ rfl rfl _) rfl ?_ | (at_builtin; refine wlR 60 a1 rfl _ _ rfl rfl rfl rfl ?_))
          go_roundw
          case rel => exact ⟨k + 1, by omega, by go_num, hide (by rw [unhide HD]), by rw [unhide HL]; exact HO5, HF5, HB5⟩
          case measure => simp [intOf]; omega
    . have hkn : k = PI.length := by omega
      subst hkn
      rw [List.take_length] at hfv' ho
      by_cases hin : v ∈ PI
      . rw [decide_eq_true hin] at hfv'
        subst hfv'
        have hR1 := (unhide HR).on (unhide hb)
        have fz := frz_blk hR1.blk 2
        obtain ⟨o5, n5, k5, hv5⟩ := (unhide ho).slc
        subst hv5
        have HH : Hid (RUnpR w rb keep bv SL bs PI v (.returned (.int .i64 0)) (wr.setCell ⟨rb, 2, none⟩ (.slice o5 n5 k5))) := by
          refine Or.inr ⟨hin, rfl, (Frm.of_below (unhide hb)).setCell _ (fun _ => rfl), _, hR1.pinned (Frm.rfl' _ _) (unhide ho) rfl, unhide hf⟩
        clear hR1 hin
        go_wp2_with fail
        go_ret
        exact unhide HH
      . rw [decide_eq_false hin] at hfv'
        subst hfv'
        have HH : Hid (RUnpR w rb keep bv SL bs PI v (.returned (.int .i64 12)) wr) := Or.inl ⟨hin, rfl, unhide hb⟩
        clear hin
        go_wp2_with fail
        go_ret
        exact unhide HH
end
def Bst (FL : List (Nat -> Int)) (L : Int) (i : Nat) (m : Int) : Prop :=
  (m = -1 /\ ∀ j, j < i -> ¬ L < gf FL j 0) \/ ∃ q : Nat, q < i /\ m = q /\ L < gf FL q 0 /\ ∀ j, j < i -> L < gf FL j 0 -> gf FL q 0 <= gf FL j 0
theorem Bst.skip {FL : List (Nat -> Int)} {L : Int} {i : Nat} {m : Int} (h : Bst FL L i m) (hn : ¬ L < gf FL i 0) : Bst FL L (i + 1) m := by
  rcases h with ⟨e, h⟩ | ⟨q, hq, e, h1, h2⟩
  . refine Or.inl ⟨e, fun j hj => ?_⟩
    by_cases c : j = i
    . subst c; exact hn
    . exact h j (by omega)
  . refine Or.inr ⟨q, by omega, e, h1, fun j hj hl => ?_⟩
    by_cases c : j = i
    . subst c; exact absurd hl hn
    . exact h2 j (by omega) hl
theorem Bst.first {FL : List (Nat -> Int)} {L : Int} {i : Nat} (h : Bst FL L i (-1)) (hn : L < gf FL i 0) : Bst FL L (i + 1) i := by
  refine Or.inr ⟨i, by omega, rfl, hn, fun j hj hl => ?_⟩
  by_cases c : j = i
  . subst c; exact Int.le_refl _
  . rcases h with ⟨_, h⟩ | ⟨q, hq, e, _⟩
    . exact absurd hl (h j (by omega))
    . omega
theorem Bst.stay {FL : List (Nat -> Int)} {L : Int} {i q : Nat} (h : Bst FL L i q) (hn : ¬ gf FL i 0 < gf FL q 0) : Bst FL L (i + 1) q := by
  rcases h with ⟨e, _⟩ | ⟨q', hq, e, h1, h2⟩
  . omega
  . obtain rfl : q' = q := by omega
    refine Or.inr ⟨q', by omega, rfl, h1, fun j hj hl => ?_⟩
    by_cases c : j = i
    . subst c; omega
    . exact h2 j (by omega) hl
theorem Bst.take {FL : List (Nat -> Int)} {L : Int} {i q : Nat} (h : Bst FL L i q) (h0 : L < gf FL i 0) (hn : gf FL i 0 < gf FL q 0) : Bst FL L (i + 1) i := by
  rcases h with ⟨e, _⟩ | ⟨q', hq, e, h1, h2⟩
  . omega
  . obtain rfl : q' = q := by omega
    refine Or.inr ⟨i, by omega, rfl, h0, fun j hj hl => ?_⟩
    by_cases c : j = i
    . subst c; exact Int.le_refl _
    . have := h2 j (by omega) hl; omega
theorem Bst.lt {FL : List (Nat -> Int)} {L : Int} {i : Nat} {m : Int} (h : Bst FL L i m) : m = -1 \/ ∃ q : Nat, q < i /\ m = q := by
  rcases h with ⟨e, _⟩ | ⟨q, hq, e, _⟩
  . exact Or.inl e
  . exact Or.inr ⟨q, hq, e⟩
set_option maxHeartbeats 6400000 in
theorem ByIds_any (v : Value) (FL : List (Nat -> Int)) (w : World) (hv : AtR rF w v FL) (hl : FL.length <= 40) (hd : Dis FL) (hp : ∀ j, j < FL.length -> 0 < gf FL j 0) :
    Calls Tryz.prog 74 #[v] w fun e w' => ∃ rv B, e = .returned rv /\ OwnR rF 66 w' rv B /\ Srt FL B /\ Below w.heap.size w w' := by
  obtain ⟨oa, cap, rfl, hcap, hm, hc⟩ := hv
  have HC := hide hc
  have HD := hide hd
  have HP := hide hp
  clear hc hm hd hp
  go_enter Tryz.func74, Tryz.ntmps74
  go_wp2_with fail
  go_loopw [3, 4, 5, 6, 7] (fun ov la i _ _ wr => ∃ (k : Nat) (B : List (Nat -> Int)), k <= FL.length /\ i = .int .i64 k /\ la = .int .i64 (pid 0 B k) /\ Hid (OwnR rF 66 wr ov B) /\ Hid (∀ g, ov.ownBlock = some g -> w.heap.size <= g) /\ Hid (RdP FL 0 B /\ B.length = k) /\ Hid (Below w.heap.size w wr)) (fun _ _ i _ _ _ => FL.length - (intOf i).toNat)
  case atStart => exact ⟨0, [], by omega, rfl, rfl, hide ownR_nil, hide (fun g hg => by simp [Value.ownBlock] at hg), hide ⟨rdP_nil _ _, rfl⟩, hide (Below.refl _ _)⟩
  case round =>
    obtain ⟨k, B, hk, rfl, rfl, ho, hf, hB, hb⟩ := hrel
    by_cases hlt : k < FL.length
    . have hkn : (k : Int) < FL.length := by omega
      obtain ⟨L, hL⟩ : ∃ L, pid 0 B k = L := ⟨_, rfl⟩
      rw [hL]
      have HL := hide hL
      clear hL
      obtain ⟨b, off, rfl, hbl, hc0⟩ := unhide HC (by omega)
      have HC0 := hide hc0
      clear hc0
      go_wp2_with fail
      go_loopw [6, 7] (fun be i w2 => ∃ (j : Nat) (m : Int), j <= FL.length /\ i = .int .i64 j /\ be = .int .i64 m /\ Hid (Bst FL L j m) /\ Hid (Below wr.heap.size wr w2)) (fun _ i _ => FL.length - (intOf i).toNat)
      case atStart => exact ⟨0, -1, by omega, rfl, rfl, hide (Or.inl ⟨rfl, fun j hj => by omega⟩), hide (Below.refl _ _)⟩
      case round =>
        obtain ⟨j, m, hj, rfl, rfl, hM, hb2⟩ := hrel
        have hb3 := (unhide hb).trans ((unhide hb2).mono (unhide hb).size)
        by_cases hjl : j < FL.length
        . have hjn : (j : Int) < FL.length := by omega
          have cx : wr.cell? ⟨b, off + j * 24, none⟩ = some (.int .i64 (gf FL j 0)) := (hb3.cell (p := ⟨b, off + j * 24, none⟩) hbl).trans (fc_rng (rngF (unhide HC0) hjl) 0 (by omega))
          obtain ⟨X, hX⟩ : ∃ X, gf FL j 0 = X := ⟨_, rfl⟩
          rw [hX] at cx
          by_cases h1 : L < X
          . rcases (unhide hM).lt with rfl | ⟨q, hq, rfl⟩
            . have HM2 : Hid (Bst FL L (j + 1) j) := (unhide hM).first (by rw [hX]; exact h1)
              clear hX hb3
              go_wp2_with fail
              go_quiet (fail)
              go_wp2_with fail
              go_roundw
              case rel => exact ⟨j + 1, _, by omega, by go_num, rfl, HM2, hide (by repeat first | exact unhide hb2 | refine below_drewN ?_ _ | refine Below.drew ?_)⟩
              case measure => simp [intOf]; omega
            . have hqn : (q : Int) < FL.length := by omega
              have hq0 : ¬ (q : Int) < 0 := by omega
              have cy : wr.cell? ⟨b, off + q * 24, none⟩ = some (.int .i64 (gf FL q 0)) := (hb3.cell (p := ⟨b, off + q * 24, none⟩) hbl).trans (fc_rng (rngF (unhide HC0) (show q < FL.length by omega)) 0 (by omega))
              obtain ⟨Y, hY⟩ : ∃ Y, gf FL q 0 = Y := ⟨_, rfl⟩
              rw [hY] at cy
              by_cases h2 : X < Y
              . have HM2 : Hid (Bst FL L (j + 1) j) := (unhide hM).take (by rw [hX]; exact h1) (by rw [hX, hY]; exact h2)
                clear hX hY hb3
                go_wp2_with fail
                go_quiet (fail)
                go_wp2_with fail
                go_roundw
                case rel => exact ⟨j + 1, _, by omega, by go_num, rfl, HM2, hide (by repeat first | exact unhide hb2 | refine below_drewN ?_ _ | refine Below.drew ?_)⟩
                case measure => simp [intOf]; omega
              . have HM2 : Hid (Bst FL L (j + 1) q) := (unhide hM).stay (by rw [hX, hY]; exact h2)
                clear hX hY hb3
                go_wp2_with fail
                go_quiet (fail)
                go_wp2_with fail
                go_roundw
                case rel => exact ⟨j + 1, _, by omega, by go_num, rfl, HM2, hide (by repeat first | exact unhide hb2 | refine below_drewN ?_ _ | refine Below.drew ?_)⟩
                case measure => simp [intOf]; omega
          . have HM2 : Hid (Bst FL L (j + 1) m) := (unhide hM).skip (by rw [hX]; exact h1)
            have hblr : b < wr.heap.size := Nat.lt_of_lt_of_le hbl hb3.size
            clear hX hb3
            go_wp2_with fail
            refine region_bq (by kernel_rfl) (by kernel_rfl) ?_
            refine q_move rfl _ rfl (.slice (some ⟨b, off, none⟩) FL.length cap) rfl ?_
            simp only [Act.put, qA, qB, qC]
            refine q_move rfl _ rfl (.int .i64 j) rfl ?_
            simp only [Act.put, qA, qB, qC]
            refine q_val rfl (.pointer (some ⟨b, off + j * 24, none⟩)) (fun _ _ => by simp [go_sem, hjn]) ?_
            simp only [Act.put, qA, qB, qC]
            refine q_val rfl (.pointer (some ⟨b, off + j * 24, none⟩)) (fun _ _ => by simp [go_sem]) ?_
            simp only [Act.put, qA, qB, qC]
            refine q_val rfl (.int .i64 X) (fun w' h => by simp [go_sem, (h.cell (p := ⟨b, off + j * 24, none⟩) hblr).trans cx]) ?_
            simp only [Act.put, qA, qB, qC]
            refine q_move rfl _ rfl (.int .i64 L) rfl ?_
            simp only [Act.put, qA, qB, qC]
            refine q_val rfl (.bool false) (fun _ _ => by simp [go_sem]; omega) ?_
            simp only [Act.put, qA, qB, qC]
            refine q_move rfl _ rfl (.bool false) rfl ?_
            simp only [Act.put, qA, qB, qC]
            go_big_quiet_skip
            go_big_quiet_skip
            go_big_quiet_skip
            go_big_quiet_skip
            go_big_quiet_skip
            go_big_quiet_skip
            go_big_quiet_skip
            go_big_quiet_skip
            go_big_quiet_skip
            go_big_quiet_skip
            go_big_quiet_skip
            go_big_quiet_skip
            go_big_quiet_skip
            go_big_quiet_skip
            go_big_quiet_skip
            refine q_val rfl (.bool false) (fun _ _ => by simp [go_sem]) ?_
            simp only [Act.put, qA, qB, qC]
            refine wpQuiet_nil ?_
            intro w6 hw6
            have HB6 := hide ((unhide hb2).trans (hw6.mono (unhide hb2).size))
            clear hw6 cx
            go_wp2_with fail
            go_roundw
            case rel => exact ⟨j + 1, _, by omega, by go_num, rfl, HM2, HB6⟩
            case measure => simp [intOf]; omega
        . have hjn : j = FL.length := by omega
          subst hjn
          have hq : ∃ q : Nat, q < FL.length /\ m = q /\ L < gf FL q 0 /\ ∀ j, j < FL.length -> L < gf FL j 0 -> gf FL q 0 <= gf FL j 0 := by
            rcases unhide hM with ⟨_, h⟩ | h
            . exfalso
              have h1 := cle_all (FL := FL) (a := L) FL.length fun j hj => by have := h j hj; omega
              have h2 := (unhide hB).1.cnt
              have h3 : cle FL 0 FL.length = 0 := cle_none _ fun j hj => unhide HP j hj
              rw [(unhide hB).2, unhide HL] at h2
              omega
            . exact h
          obtain ⟨q, hql, rfl, hq1, hq2⟩ := hq
          have hqn : (q : Int) < FL.length := by omega
          have hq0 : (0 : Int) <= q := by omega
          have hrg : wr.rangeAt b (off + q * 24) (fc (gf FL q)).toList := fun t u hu => (hb3.cell (p := ⟨b, off + q * 24 + t, none⟩) hbl).trans (rngF (unhide HC0) hql t u hu)
          have HB4 : Hid (RdP FL 0 (B ++ [gf FL q]) /\ (B ++ [gf FL q]).length = k + 1) := by
            refine ⟨rdP_next (unhide HD) (unhide hB).1 hql ?_ ?_, by simp [(unhide hB).2]⟩
            . rw [(unhide hB).2, unhide HL]; exact hq1
            . rw [(unhide hB).2, unhide HL]; exact hq2
          have HPD : Hid (gf FL q 0 = pid 0 (B ++ [gf FL q]) (k + 1)) := by
            show _ = gf (B ++ [gf FL q]) k 0
            rw [<- (unhide hB).2, gf_last]
          have hBl := (unhide hB).2
          obtain ⟨v5, w5, a1, a2, a3, a4⟩ := apF ((unhide ho).on (unhide hb2) |>.allocF _) (at_new rF 66 wr (gf FL q) (fc (gf FL q)) rfl) (by simp; omega)
          have HO5 := hide a2
          have HF5 : Hid (∀ g, v5.ownBlock = some g -> w.heap.size <= g) := fun g hg => by
            rcases a4 with a4 | a4
            . exact unhide hf g (a4 ▸ hg)
            . have q1 := a4 g hg; have := hb3.size; simp at q1; omega
          have hb5 := ((hb3.alloc hb3.size (.cells (fc (gf FL q)) 66)).grown a3 (by have := hb3.size; simp; omega) (fun g hg => unhide hf g hg))
          have HB5 := hide hb5
          have c5 : w5.cell? ⟨b, off + q * 24, none⟩ = some (.int .i64 (gf FL q 0)) := (hb5.cell (p := ⟨b, off + q * 24, none⟩) hbl).trans (fc_rng (rngF (unhide HC0) hql) 0 (by omega))
          clear a2 a3 a4 hb5 hb3 hBl hq1 hq2
          go_wp2_with (first | refine ldG 66 (fc (gf FL q)) Tryz.underlying66 rfl (szf _) b (off + q * 24) hrg rfl _ rfl rfl ?_ | refine wlV _ _ (run_bs34 _ _ _ rfl (gf FL q) rfl _) rfl ?_ | (at_builtin; refine wlR 62 a1 rfl _ _ rfl rfl rfl rfl ?_))
          go_roundw
          case rel => exact ⟨k + 1, B ++ [gf FL q], by omega, by go_num, by rw [unhide HPD], HO5, HF5, HB4, HB5⟩
          case measure => simp [intOf]; omega
    . have hkn : k = FL.length := by omega
      subst hkn
      go_wp2_with fail
      go_ret
      exact ⟨_, _, rfl, unhide ho, ⟨(unhide hB).1, (unhide hB).2⟩, unhide hb⟩
end Go.Proofs.YtpabpniaekldeaaGreatDoor
