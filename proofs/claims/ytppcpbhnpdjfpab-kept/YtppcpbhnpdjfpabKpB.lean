/-
  past.pinned, Store.next.
-/
import Derived.Test.YtppcpbhnpdjfpabKpA
namespace Go.Proofs.Ytppcpbhnpdjfpab
open Go.RowKit

/-- How many pins has a version? -/
def cP (PL : List (Nat → Int)) (v : Int) : Nat → Nat
  | 0 => 0
  | k + 1 => if gf PL k 0 = v then cP PL v k + 1 else cP PL v k
theorem cP_le (PL : List (Nat → Int)) (v : Int) : ∀ k, cP PL v k ≤ k
  | 0 => Nat.le_refl _
  | k + 1 => by rw [cP]; have := cP_le PL v k; split <;> omega
theorem cP_pos (PL : List (Nat → Int)) (v : Int) : ∀ k, 0 < cP PL v k ↔ ∃ i, i < k ∧ gf PL i 0 = v
  | 0 => ⟨fun h => by simp [cP] at h, fun ⟨i, hi, _⟩ => by omega⟩
  | k + 1 => by
    rw [cP]
    by_cases c : gf PL k 0 = v
    · rw [if_pos c]; exact ⟨fun _ => ⟨k, by omega, c⟩, fun _ => by omega⟩
    · rw [if_neg c, cP_pos PL v k]
      exact ⟨fun ⟨i, hi, e⟩ => ⟨i, by omega, e⟩, fun ⟨i, hi, e⟩ => ⟨i, by
        by_cases q : i = k
        · subst q; exact absurd e c
        · omega, e⟩⟩
theorem cP_has (PL : List (Nat → Int)) (v : Int) : decide ((0 : Int) < (cP PL v PL.length : Nat)) = hasP PL v := by
  cases h : hasP PL v with
  | true =>
    simp only [hasP, List.any_eq_true, List.mem_range, decide_eq_true_eq] at h
    have := (cP_pos PL v PL.length).2 h
    exact decide_eq_true (by omega)
  | false =>
    refine decide_eq_false fun hh => ?_
    obtain ⟨i, hi, e⟩ := (cP_pos PL v PL.length).1 (by omega)
    rw [hasP_yes hi e] at h; cases h

set_option maxHeartbeats 1600000 in
theorem pinned_any (pb : Nat) (s0 s1 s2 pp : Value) (PL : List (Nat → Int)) (v : Int) (w : World) {B : Nat} (hs : w.heap[pb]? = some (.cells #[s0, s1, s2, pp] 32 (0, 0))) (ho : OwnC 3 1 w B pp PL) (hl : PL.length ≤ 100) :
    Calls Try.prog 19 #[.pointer (some ⟨pb, 0, none⟩), .int .i64 v] w fun e w' => e = .returned (.int .i64 (cP PL v PL.length)) ∧ w = w' := by
  have c3 := (blk_cells hs 3).trans (show _ = some pp from rfl)
  obtain ⟨oa, cap, rfl, hc⟩ := ho.ints (by omega)
  have HC := hide hc
  clear hs hc ho
  go_enter Try.func19, Try.ntmps19
  go_wp2_with fail
  go_loop [5, 6] (fun c i => ∃ k n : Nat, k ≤ PL.length ∧ n ≤ k ∧ i = .int .i64 k ∧ c = .int .i64 n ∧ Hid (n = cP PL v k)) (fun _ i => PL.length - (intOf i).toNat)
  case atStart => exact ⟨0, 0, by omega, by omega, rfl, rfl, hide rfl⟩
  case round =>
    obtain ⟨k, n, hk, hnk, rfl, rfl, hn⟩ := hrel
    by_cases hlt : k < PL.length
    · have hkn : (k : Int) < PL.length := by omega
      obtain ⟨b, off, rfl, _, hc0⟩ := unhide HC (by omega)
      have ck := hc0 k hlt
      clear hc0
      obtain ⟨G, hG⟩ : ∃ I, gf PL k 0 = I := ⟨_, rfl⟩
      rw [hG] at ck
      by_cases h0 : G = v
      · have hn' : Hid (n + 1 = cP PL v (k + 1)) := by show n + 1 = _; rw [cP, if_pos (hG.trans h0), unhide hn]
        subst h0
        go_wp2_with fail
        go_round
        case rel => exact ⟨k + 1, n + 1, by omega, by omega, by go_num, by go_num, hn'⟩
        case measure => simp [intOf]; omega
      · have hn' : Hid (n = cP PL v (k + 1)) := by show n = _; rw [cP, if_neg (fun h => h0 (hG.symm.trans h)), unhide hn]
        go_wp2_with fail
        go_round
        case rel => exact ⟨k + 1, n, by omega, by omega, by go_num, rfl, hn'⟩
        case measure => simp [intOf]; omega
    · have hkn : k = PL.length := by omega
      subst hkn
      go_wp2_with fail
      go_ret
      exact ⟨ret_int (by rw [unhide hn]), rfl⟩

/-- May a life be read next? -/
def Cand (LS : List (Nat → Int)) (v a : Int) (i : Nat) : Prop := inV v (gf LS i) = true ∧ a < gf LS i 0
/-- What is next, of the first k lives. -/
def Nx (LS : List (Nat → Int)) (v a : Int) (k : Nat) (fnd : Bool) (T : Nat → Int) : Prop :=
  (fnd = false ∧ ∀ i, i < k → ¬ Cand LS v a i) ∨ (fnd = true ∧ ∃ i, i < k ∧ Cand LS v a i ∧ T = gf LS i ∧ ∀ j, j < k → Cand LS v a j → gf LS i 0 ≤ gf LS j 0)
theorem Nx.skip {LS : List (Nat → Int)} {v a : Int} {k : Nat} {fnd : Bool} {T : Nat → Int} (h : Nx LS v a k fnd T) (hc : ¬ Cand LS v a k) : Nx LS v a (k + 1) fnd T := by
  rcases h with ⟨e, h⟩ | ⟨e, i, hi, h1, h2, h3⟩
  · refine Or.inl ⟨e, fun i hi => ?_⟩
    by_cases q : i = k
    · subst q; exact hc
    · exact h i (by omega)
  · refine Or.inr ⟨e, i, by omega, h1, h2, fun j hj hcj => ?_⟩
    by_cases q : j = k
    · subst q; exact absurd hcj hc
    · exact h3 j (by omega) hcj
theorem Nx.leave {LS : List (Nat → Int)} {v a : Int} {k : Nat} {T : Nat → Int} (h : Nx LS v a k true T) (hle : ¬ gf LS k 0 < T 0) : Nx LS v a (k + 1) true T := by
  rcases h with ⟨e, _⟩ | ⟨e, i, hi, h1, h2, h3⟩
  · cases e
  · refine Or.inr ⟨e, i, by omega, h1, h2, fun j hj hcj => ?_⟩
    by_cases q : j = k
    · subst q; rw [h2] at hle; omega
    · exact h3 j (by omega) hcj
theorem Nx.take {LS : List (Nat → Int)} {v a : Int} {k : Nat} {fnd : Bool} {T : Nat → Int} (h : Nx LS v a k fnd T) (hc : Cand LS v a k) (hlt : fnd = true → gf LS k 0 < T 0) : Nx LS v a (k + 1) true (gf LS k) := by
  refine Or.inr ⟨rfl, k, by omega, hc, rfl, fun j hj hcj => ?_⟩
  by_cases q : j = k
  · subst q; exact Int.le_refl _
  · rcases h with ⟨_, h⟩ | ⟨e, i, hi, h1, h2, h3⟩
    · exact absurd hcj (h j (by omega))
    · have := h3 j (by omega) hcj
      have := hlt e
      rw [h2] at this
      omega

theorem res_cell_tmp {P : Program} {fn : Func} {p q : Tmp} {ty : TypeId} (h : fn.results = #[.cell p ty, .tmp q]) (tmps : Array Value) (w : World) (g : Nat) (t : TypeId) (cs : Array Value) (fr : Nat × Nat) (d : TypeDesc) (b : Value)
    (hp : tmps.getD p undef = .pointer (some ⟨g, 0, none⟩)) (hq : tmps.getD q undef = b) (hg : w.heap[g]? = some (.cells cs t fr))
    (hu : P.underlying ty = some d) (hd : (match d with | .struct _ | .array _ _ => true | _ => false) = true) (hi : (P.info? ty).map (·.size) = some cs.size) :
    (results fn tmps).run P w = .ok (.tuple #[.agg cs, b]) w := by
  have hp' : tmps[p]?.getD undef = .pointer (some ⟨g, 0, none⟩) := by simpa using hp
  have hq' : tmps[q]?.getD undef = b := by simpa using hq
  simp [results, h, hp', hq', asAddr, run_loadVar_row w g t ty cs fr d hg hu hd hi]

set_option maxHeartbeats 6400000 in
theorem next_any (sb : Nat) (keep ver : Int) (sl pv : Value) (LS PL : List (Nat → Int)) (v a : Int) (w : World) (hs : StP w sb keep ver sl pv LS PL) (hl : LS.length ≤ 1000) :
    Calls Try.prog 36 #[.pointer (some ⟨sb, 0, none⟩), .int .i64 v, .int .i64 a] w fun e w' => (∃ fnd T, e = .returned (.tuple #[.agg (fc T), .bool fnd]) ∧ Nx LS v a LS.length fnd T) ∧ Below w.heap.size w w' := by
  obtain ⟨t1, t2, t3⟩ := two_blocks w (.cells (fc zf) 54 (0, 0)) (.cells (fc zf) 54 (0, 0))
  have hlt := hs.lt
  obtain ⟨_, _, s2, _⟩ := hs.cells
  obtain ⟨oa, cap, rfl, _, hc⟩ := hs.own.at (by unfold maxLen; omega)
  have HC := hide hc
  have hz1 : (w.alloc (.cells (fc zf) 54)).heap.size = w.heap.size + 1 := by simp
  have HT1 := hide t1
  have HT3 := hide t3
  have hT2 := setRow_heap _ _ _ (fc zf) _ _ t2
  have HT2 := hide hT2
  have HT1' := hide ((setRow_other (show w.heap.size + 1 ≠ w.heap.size by omega) (fc zf)).trans t1)
  have HT3' := hide (below_setRow t3 (show w.heap.size ≤ w.heap.size + 1 by omega) (fc zf))
  clear hs hc t1 t3 hT2
  go_enter Try.func36, Try.ntmps36
  go_wp2_with (first | refine al26 rfl rfl w.heap.size rfl ?_ | refine al26 rfl rfl (w.heap.size + 1) hz1 ?_ | refine bld26 rfl rfl ?_ | refine st26 rfl _ _ rfl (w.heap.size + 1) zf rfl rfl zf t2 ?_)
  go_loopw [9, 10, 11] (fun fd i _ wr => ∃ (k : Nat) (fnd : Bool) (T : Nat → Int), k ≤ LS.length ∧ i = .int .i64 k ∧ fd = .bool fnd ∧ wr.heap[w.heap.size]? = some (.cells (fc zf) 54 (0, 0)) ∧ wr.heap[w.heap.size + 1]? = some (.cells (fc T) 54 (0, 0)) ∧ Hid (Nx LS v a k fnd T) ∧ Below w.heap.size w wr) (fun _ i _ _ => LS.length - (intOf i).toNat)
  case atStart => exact ⟨0, false, zf, by omega, rfl, rfl, unhide HT1', unhide HT2, hide (Or.inl ⟨rfl, fun i hi => absurd hi (by omega)⟩), unhide HT3'⟩
  case round =>
    obtain ⟨k, fnd, T, hk, rfl, rfl, hg0, hg1, hNx, hb⟩ := hrel
    have r2 := (hb.cell (p := ⟨sb, 2, none⟩) hlt).trans s2
    clear t2 s2
    by_cases hlk : k < LS.length
    · have hkn : (k : Int) < LS.length := by omega
      obtain ⟨b, off, rfl, hbl, hc0⟩ := unhide HC (by omega)
      have hrgW : ∀ W, Below w.heap.size w W → W.rangeAt b (off + k * 26) (cc 26 (gf LS k)).toList := fun W h => cs_rng (fun i hi j hj => (h.cell (p := ⟨b, off + i * 26 + j, none⟩) hbl).trans (hc0 i hi j hj)) hlk
      have hrF := life_F (hrgW wr hb)
      have hA := heap_alloc_new wr (.cells (fc zf) 54 (0, 0))
      have hA1 := setRow_heap _ _ _ (fc (gf LS k)) _ _ hA
      have hl0 : w.heap.size < wr.heap.size := (Array.getElem?_eq_some_iff.1 hg0).1
      have hl1 : w.heap.size + 1 < wr.heap.size := (Array.getElem?_eq_some_iff.1 hg1).1
      have q0 := (setRow_other (show wr.heap.size ≠ w.heap.size by omega) (fc (gf LS k))).trans ((Below.heap_alloc wr (.cells (fc zf) 54) w.heap.size hl0).trans hg0)
      have q1 := (setRow_other (show wr.heap.size ≠ w.heap.size + 1 by omega) (fc (gf LS k))).trans ((Below.heap_alloc wr (.cells (fc zf) 54) (w.heap.size + 1) hl1).trans hg1)
      have hb2 := below_setRow (below_alloc hb (Nat.le_refl _) (.cells (fc zf) 54)) (show w.heap.size ≤ wr.heap.size by omega) (fc (gf LS k))
      have hzr : (w.heap.size : Nat) ≤ wr.heap.size := by omega
      have s2' := (hb2.cell (p := ⟨sb, 2, none⟩) hlt).trans ((hb.cell (p := ⟨sb, 2, none⟩) hlt).symm.trans r2)
      have hrg2 := hrgW _ hb2
      have hA1c := blk_cells hA1
      have f0 := fc_at (gf LS k) 0 (by decide)
      obtain ⟨Id, hId⟩ : ∃ I, gf LS k 0 = I := ⟨_, rfl⟩
      rw [hId] at f0
      have HA1 := hide hA1
      have HQ0 := hide q0
      have HQ1 := hide q1
      have HB2 := hide hb2
      clear hrgW hc0 hb hb2 q0 q1
      by_cases hia : Id ≤ a
      · have HN := hide ((unhide hNx).skip (fun hc => by have := hc.2; omega))
        go_wp2_with (first | refine ldm26 rfl _ rfl b (off + k * 26) rfl (gf LS k) hrF ?_ | refine al26 rfl rfl wr.heap.size rfl ?_ | refine st26 rfl _ _ rfl wr.heap.size (gf LS k) rfl rfl zf hA ?_)
        go_roundw
        case rel => exact ⟨k + 1, fnd, T, by omega, by go_num, rfl, unhide HQ0, unhide HQ1, HN, unhide HB2⟩
        case measure => simp [intOf]; omega
      · go_wp2_with (first | refine ldm26 rfl _ rfl b (off + k * 26) rfl (gf LS k) hrF ?_ | refine al26 rfl rfl wr.heap.size rfl ?_ | refine st26 rfl _ _ rfl wr.heap.size (gf LS k) rfl rfl zf hA ?_ | refine ldm80 (by kernel_rfl) _ rfl b (off + k * 26) rfl (gf LS k) hrg2 ?_)
        refine (isIn_any (gf LS k) v _).mono ?_
        rintro e w3 ⟨rfl, hb3⟩
        have p0 := blk_on (unhide HQ0) hb3
        have p1 := blk_on (unhide HQ1) hb3
        have pA := blk_on (unhide HA1) hb3
        have pAc := blk_cells pA
        have p1c := blk_cells p1
        have hb4 := (unhide HB2).trans (hb3.mono (unhide HB2).size)
        have HB4 := hide hb4
        clear hb3 hb4 hrF hA hA1 hA1c s2' hrg2 hg0 hg1
        cases hin : inV v (gf LS k) with
        | false =>
          have HN := hide ((unhide hNx).skip (fun hc => by rw [hc.1] at hin; cases hin))
          go_wp2_with fail
          go_roundw
          case rel => exact ⟨k + 1, fnd, T, by omega, by go_num, rfl, p0, p1, HN, unhide HB4⟩
          case measure => simp [intOf]; omega
        | true =>
          have hcand : Cand LS v a k := ⟨hin, by rw [hId]; omega⟩
          have HCD := hide hcand
          clear hcand
          have hs1 := setRow_heap _ _ _ (fc (gf LS k)) _ _ p1
          have hs0 := (setRow_other (show w.heap.size + 1 ≠ w.heap.size by omega) (fc (gf LS k))).trans p0
          have HS1 := hide hs1
          have HS0 := hide hs0
          have HB5 := hide (below_setRow (unhide HB4) (show w.heap.size ≤ w.heap.size + 1 by omega) (fc (gf LS k)))
          clear hs1 hs0
          cases fnd with
          | false =>
            have HN := hide ((unhide hNx).take (unhide HCD) (fun h => by cases h))
            go_wp2_with (first | refine ld26 rfl _ rfl _ rfl (gf LS k) pA ?_ | refine st26 rfl _ _ rfl (w.heap.size + 1) (gf LS k) rfl rfl T p1 ?_)
            go_roundw
            case rel => exact ⟨k + 1, true, gf LS k, by omega, by go_num, rfl, unhide HS0, unhide HS1, HN, unhide HB5⟩
            case measure => simp [intOf]; omega
          | true =>
            have t0 := fc_at T 0 (by decide)
            obtain ⟨T0, hT0⟩ : ∃ I, T 0 = I := ⟨_, rfl⟩
            rw [hT0] at t0
            by_cases hless : Id < T0
            · have HN := hide ((unhide hNx).take (unhide HCD) (fun _ => by rw [hId, hT0]; exact hless))
              go_wp2_with (first | refine ld26 rfl _ rfl _ rfl (gf LS k) pA ?_ | refine st26 rfl _ _ rfl (w.heap.size + 1) (gf LS k) rfl rfl T p1 ?_)
              go_roundw
              case rel => exact ⟨k + 1, true, gf LS k, by omega, by go_num, rfl, unhide HS0, unhide HS1, HN, unhide HB5⟩
              case measure => simp [intOf]; omega
            · have HN := hide ((unhide hNx).leave (by rw [hId, hT0]; exact hless))
              go_wp2_with fail
              go_roundw
              case rel => exact ⟨k + 1, true, T, by omega, by go_num, rfl, p0, p1, HN, unhide HB4⟩
              case measure => simp [intOf]; omega
    · have hkn : k = LS.length := by omega
      subst hkn
      have HZ2 := setRow_heap _ _ _ (fc T) _ _ hg0
      have HBe := hide (below_setRow hb (Nat.le_refl _) (fc T))
      clear hb
      go_wp2_with (first | refine ld26 rfl _ rfl _ rfl T hg1 ?_ | refine st26 rfl _ _ rfl w.heap.size T rfl rfl zf hg0 ?_)
      refine bodyPost_ret (v := .tuple #[.agg (fc T), .bool fnd]) (res_cell_tmp Try.results36 _ _ w.heap.size 54 (fc T) (0, 0) _ (.bool fnd) rfl rfl HZ2 Try.underlying54 rfl (szf _)) rfl ⟨⟨fnd, T, rfl, unhide hNx⟩, unhide HBe⟩
end Go.Proofs.Ytppcpbhnpdjfpab
