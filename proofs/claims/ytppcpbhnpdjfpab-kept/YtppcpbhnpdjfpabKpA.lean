/-
  life.isIn, Store.hasPin, isHeld, Version; past.pinned.
-/
import Derived.Test.YtppcpbhnpdjfpabStM
namespace Go.Proofs.Ytppcpbhnpdjfpab
open Go.RowKit

/-- Is a life of a version? -/
def inV (v : Int) (g : Nat → Int) : Bool := decide (g 24 ≤ v) && (decide (g 25 = 0) || decide (v < g 25))
set_option maxHeartbeats 1600000 in
theorem isIn_any (g : Nat → Int) (v : Int) (w : World) :
    Calls Try.prog 53 #[.agg (cc 26 g), .int .i64 v] w fun e w' => e = .returned (.bool (inV v g)) ∧ Below w.heap.size w w' := by
  have c25 := cc_at 26 g 25 (by decide)
  have c24 := cc_at 26 g 24 (by decide)
  have HB := hide (below_one w (.cells (cc 26 g) 80))
  obtain ⟨G, hG⟩ : ∃ G, g 25 = G := ⟨_, rfl⟩
  obtain ⟨C, hC⟩ : ∃ G, g 24 = G := ⟨_, rfl⟩
  have HL : Hid (inV v g = (decide (C ≤ v) && (decide (G = 0) || decide (v < G)))) := by show inV v g = _; rw [inV, hG, hC]
  rw [hG] at c25
  rw [hC] at c24
  clear hG hC
  by_cases h1 : C ≤ v
  · by_cases h2 : G = 0
    · subst h2
      go_enter Try.func53, Try.ntmps53
      go_wp2
      go_ret
      exact ⟨ret_bool (by rw [unhide HL, decide_eq_true h1]; rfl), unhide HB⟩
    · by_cases h3 : v < G
      · go_enter Try.func53, Try.ntmps53
        go_wp2
        go_ret
        exact ⟨ret_bool (by rw [unhide HL, decide_eq_true h1, decide_eq_true h3, Bool.or_true]; rfl), unhide HB⟩
      · go_enter Try.func53, Try.ntmps53
        go_wp2
        go_ret
        exact ⟨ret_bool (by rw [unhide HL, decide_eq_true h1, decide_eq_false h2, decide_eq_false (by omega)]; simp [h2]), unhide HB⟩
  · go_enter Try.func53, Try.ntmps53
    go_wp2
    go_ret
    exact ⟨ret_bool (by rw [unhide HL, decide_eq_false (by omega)]; rfl), unhide HB⟩

/-- A store with its pins. -/
structure StP (w : World) (sb : Nat) (keep ver : Int) (sl pv : Value) (LS PL : List (Nat → Int)) : Prop where
  blk : w.heap[sb]? = some (.cells #[.int .i64 keep, .int .i64 ver, sl, pv] 62 (0, 0))
  own : OwnC 80 26 w (sb + 1) sl LS
  pins : OwnC 3 1 w (sb + 1) pv PL
theorem StP.lt {w : World} {sb : Nat} {keep ver : Int} {sl pv : Value} {LS PL : List (Nat → Int)} (h : StP w sb keep ver sl pv LS PL) : sb < w.heap.size := (Array.getElem?_eq_some_iff.1 h.blk).1
theorem StP.on {w w' : World} {sb : Nat} {keep ver : Int} {sl pv : Value} {LS PL : List (Nat → Int)} (h : StP w sb keep ver sl pv LS PL) (hb : Below w.heap.size w w') : StP w' sb keep ver sl pv LS PL := ⟨blk_on h.blk hb, h.own.on hb, h.pins.on hb⟩
theorem StP.cells {w : World} {sb : Nat} {keep ver : Int} {sl pv : Value} {LS PL : List (Nat → Int)} (h : StP w sb keep ver sl pv LS PL) : w.cell? ⟨sb, 0, none⟩ = some (.int .i64 keep) ∧ w.cell? ⟨sb, 1, none⟩ = some (.int .i64 ver) ∧ w.cell? ⟨sb, 2, none⟩ = some sl ∧ w.cell? ⟨sb, 3, none⟩ = some pv :=
  ⟨(blk_cells h.blk 0).trans rfl, (blk_cells h.blk 1).trans rfl, (blk_cells h.blk 2).trans rfl, (blk_cells h.blk 3).trans rfl⟩

/-- Has a version a pin? How many? -/
def hasP (PL : List (Nat → Int)) (v : Int) : Bool := (List.range PL.length).any fun i => decide (gf PL i 0 = v)
theorem hasP_yes {PL : List (Nat → Int)} {v : Int} {i : Nat} (hi : i < PL.length) (h : gf PL i 0 = v) : hasP PL v = true := by
  simp only [hasP, List.any_eq_true, List.mem_range, decide_eq_true_eq]; exact ⟨i, hi, h⟩
theorem hasP_no {PL : List (Nat → Int)} {v : Int} (h : ∀ i, i < PL.length → gf PL i 0 ≠ v) : hasP PL v = false := by
  rw [Bool.eq_false_iff]; intro ht
  simp only [hasP, List.any_eq_true, List.mem_range, decide_eq_true_eq] at ht
  obtain ⟨i, hi, e⟩ := ht
  exact h i hi e
theorem OwnC.ints {w : World} {B : Nat} {v : Value} {l : List (Nat → Int)} (h : OwnC 3 1 w B v l) (hl : l.length ≤ 1000) : ∃ oa cap, v = .slice oa l.length cap ∧ (0 < l.length → ∃ b off, oa = some ⟨b, off, none⟩ ∧ b < w.heap.size ∧ ∀ i, i < l.length → w.cell? ⟨b, off + i, none⟩ = some (.int .i64 (gf l i 0))) := by
  obtain ⟨oa, cap, e, _, hc⟩ := h.at (by unfold maxLen; omega)
  refine ⟨oa, cap, e, fun h0 => ?_⟩
  obtain ⟨b, off, e', hb, hc⟩ := hc h0
  exact ⟨b, off, e', hb, fun i hi => by have := hc i hi 0 (by omega); rwa [Nat.mul_one, Nat.add_zero] at this⟩

set_option maxHeartbeats 1600000 in
theorem hasPin_any (sb : Nat) (keep ver : Int) (sl pv : Value) (LS PL : List (Nat → Int)) (v : Int) (w : World) (hs : StP w sb keep ver sl pv LS PL) (hl : PL.length ≤ 100) :
    Calls Try.prog 52 #[.pointer (some ⟨sb, 0, none⟩), .int .i64 v] w fun e w' => e = .returned (.bool (hasP PL v)) ∧ w = w' := by
  obtain ⟨_, _, _, s3⟩ := hs.cells
  obtain ⟨oa, cap, rfl, hc⟩ := hs.pins.ints (by omega)
  have HC := hide hc
  clear hs hc
  go_enter Try.func52, Try.ntmps52
  go_wp2_with fail
  go_loop [5] (fun i => ∃ k : Nat, k ≤ PL.length ∧ i = .int .i64 k ∧ Hid (∀ i, i < k → gf PL i 0 ≠ v)) (fun i => PL.length - (intOf i).toNat)
  case atStart => exact ⟨0, by omega, rfl, hide (fun i hi => absurd hi (by omega))⟩
  case round =>
    obtain ⟨k, hk, rfl, hno⟩ := hrel
    by_cases hlt : k < PL.length
    · have hkn : (k : Int) < PL.length := by omega
      obtain ⟨b, off, rfl, _, hc0⟩ := unhide HC (by omega)
      have ck := hc0 k hlt
      clear hc0
      obtain ⟨G, hG⟩ : ∃ I, gf PL k 0 = I := ⟨_, rfl⟩
      rw [hG] at ck
      by_cases h0 : G = v
      · have H := hide (hasP_yes hlt (hG.trans h0))
        subst h0
        go_wp2_with fail
        go_ret
        exact ⟨ret_bool (unhide H).symm, rfl⟩
      · go_wp2_with fail
        go_round
        case rel => exact ⟨k + 1, by omega, by go_num, hide (fun i hi => by
          by_cases e : i = k
          · subst e; rw [hG]; exact h0
          · exact unhide hno i (by omega))⟩
        case measure => simp [intOf]; omega
    · have hkn : k = PL.length := by omega
      have H := hide (hasP_no (v := v) (by rw [← hkn]; exact unhide hno))
      subst hkn
      go_wp2_with fail
      go_ret
      exact ⟨ret_bool (unhide H).symm, rfl⟩

/-- Is a version held? -/
def heldB (keep ver : Int) (PL : List (Nat → Int)) (v : Int) : Bool := decide (0 ≤ v) && decide (v ≤ ver) && (decide (ver - keep ≤ v) || hasP PL v)
set_option maxHeartbeats 1600000 in
theorem isHeld_any (sb : Nat) (keep ver : Int) (sl pv : Value) (LS PL : List (Nat → Int)) (v : Int) (w : World) (hs : StP w sb keep ver sl pv LS PL) (hl : PL.length ≤ 100) (hk : 0 ≤ keep ∧ keep ≤ 4) (hv : 0 ≤ ver ∧ ver ≤ 100) :
    Calls Try.prog 35 #[.pointer (some ⟨sb, 0, none⟩), .int .i64 v] w fun e w' => e = .returned (.bool (heldB keep ver PL v)) ∧ Below w.heap.size w w' := by
  obtain ⟨s0, s1, _, _⟩ := hs.cells
  have HS := hide hs
  clear hs
  by_cases h1 : v < 0
  · have H : Hid (heldB keep ver PL v = false) := by show heldB keep ver PL v = false; unfold heldB; rw [decide_eq_false (by omega)]; rfl
    go_enter Try.func35, Try.ntmps35
    go_wp2_with fail
    go_ret
    exact ⟨ret_bool (unhide H).symm, Below.refl _ _⟩
  · by_cases h2 : ver < v
    · have H : Hid (heldB keep ver PL v = false) := by show heldB keep ver PL v = false; unfold heldB; rw [decide_eq_false (show ¬ v ≤ ver by omega), Bool.and_false]; rfl
      go_enter Try.func35, Try.ntmps35
      go_wp2_with fail
      go_ret
      exact ⟨ret_bool (unhide H).symm, Below.refl _ _⟩
    · have e1 : IntKind.i64.wrap (ver - keep) = ver - keep := i64_in _ (by omega)
      have HP := fun W h => hasPin_any sb keep ver sl pv LS PL v W h hl
      have H : Hid (heldB keep ver PL v = (decide (ver - keep ≤ v) || hasP PL v)) := by show heldB keep ver PL v = _; unfold heldB; rw [decide_eq_true (show 0 ≤ v by omega), decide_eq_true (show v ≤ ver by omega)]; rfl
      by_cases h3 : ver - keep ≤ v
      · have hd : decide (ver - keep ≤ v) = true := decide_eq_true h3
        go_enter Try.func35, Try.ntmps35
        go_wp2_with fail
        go_quiet (fail)
        go_wp2_with fail
        go_ret
        refine ⟨ret_bool (by rw [unhide H, hd]; rfl), ?_⟩
        repeat first | exact Below.refl _ _ | refine below_drewN ?_ _ | refine Below.drew ?_
      · have hd : decide (ver - keep ≤ v) = false := decide_eq_false h3
        obtain ⟨P, hP⟩ : ∃ P, hasP PL v = P := ⟨_, rfl⟩
        rw [hP] at HP
        have HQ : Hid (∀ W, Below w.heap.size w W → Calls Try.prog 52 #[.pointer (some ⟨sb, 0, none⟩), .int .i64 v] W fun e w' => e = .returned (.bool P) ∧ Below W.heap.size W w') := fun W hW => (HP W ((unhide HS).on hW)).mono fun e w' h => ⟨h.1, by rw [← h.2]; exact Below.refl _ _⟩
        have hl3 := (unhide HS).lt
        clear HP
        go_enter Try.func35, Try.ntmps35
        go_wp2
        refine region_bq (by kernel_rfl) (by kernel_rfl) ?_
        refine q_move rfl _ rfl (.int .i64 v) rfl ?_
        simp only [Act.put, List.setIfInBounds_toArray, List.set_cons_succ, List.set_cons_zero]
        refine q_move rfl _ rfl (.pointer (some ⟨sb, 0, none⟩)) rfl ?_
        simp only [Act.put, List.setIfInBounds_toArray, List.set_cons_succ, List.set_cons_zero]
        refine q_val rfl (.pointer (some ⟨sb, 0, none⟩)) (fun _ _ => by simp [go_sem]) ?_
        simp only [Act.put, List.setIfInBounds_toArray, List.set_cons_succ, List.set_cons_zero]
        refine q_val rfl (.pointer (some ⟨sb, 1, none⟩)) (fun _ _ => by simp [go_sem]) ?_
        simp only [Act.put, List.setIfInBounds_toArray, List.set_cons_succ, List.set_cons_zero]
        refine q_val rfl (.int .i64 ver) (fun w' h => by simp [go_sem, (h.cell (p := ⟨sb, 1, none⟩) hl3).trans s1]) ?_
        simp only [Act.put, List.setIfInBounds_toArray, List.set_cons_succ, List.set_cons_zero]
        refine q_move rfl _ rfl (.pointer (some ⟨sb, 0, none⟩)) rfl ?_
        simp only [Act.put, List.setIfInBounds_toArray, List.set_cons_succ, List.set_cons_zero]
        refine q_val rfl (.pointer (some ⟨sb, 0, none⟩)) (fun _ _ => by simp [go_sem]) ?_
        simp only [Act.put, List.setIfInBounds_toArray, List.set_cons_succ, List.set_cons_zero]
        refine q_val rfl (.pointer (some ⟨sb, 0, none⟩)) (fun _ _ => by simp [go_sem]) ?_
        simp only [Act.put, List.setIfInBounds_toArray, List.set_cons_succ, List.set_cons_zero]
        refine q_val rfl (.int .i64 keep) (fun w' h => by simp [go_sem, (h.cell (p := ⟨sb, 0, none⟩) hl3).trans s0]) ?_
        simp only [Act.put, List.setIfInBounds_toArray, List.set_cons_succ, List.set_cons_zero]
        refine q_val rfl (.int .i64 (ver - keep)) (fun _ _ => by simp [go_sem, e1]) ?_
        simp only [Act.put, List.setIfInBounds_toArray, List.set_cons_succ, List.set_cons_zero]
        refine q_val rfl (.bool false) (fun _ _ => by simp [go_sem]; omega) ?_
        simp only [Act.put, List.setIfInBounds_toArray, List.set_cons_succ, List.set_cons_zero]
        refine q_move rfl _ rfl (.bool false) rfl ?_
        simp only [Act.put, List.setIfInBounds_toArray, List.set_cons_succ, List.set_cons_zero]
        refine q_move (by kernel_rfl) _ rfl (.pointer (some ⟨sb, 0, none⟩)) rfl ?_
        simp only [Act.put, List.setIfInBounds_toArray, List.set_cons_succ, List.set_cons_zero]
        refine q_move (by kernel_rfl) _ rfl (.int .i64 v) rfl ?_
        simp only [Act.put, List.setIfInBounds_toArray, List.set_cons_succ, List.set_cons_zero]
        refine q_callC (by kernel_rfl) 52 #[.pointer (some ⟨sb, 0, none⟩), .int .i64 v] (fun _ => by simp [go_sem]) _ (unhide HQ) ?_
        simp only [Act.put, List.setIfInBounds_toArray, List.set_cons_succ, List.set_cons_zero]
        refine q_val rfl (.bool P) (fun _ _ => by simp [go_sem]) ?_
        simp only [Act.put, List.setIfInBounds_toArray, List.set_cons_succ, List.set_cons_zero]
        refine q_assign rfl _ rfl (.bool P) rfl ?_
        simp only [Act.put, List.setIfInBounds_toArray, List.set_cons_succ, List.set_cons_zero]
        refine wpQuiet_nil ?_
        intro w6 hw6
        have HB6 := hide hw6
        clear hw6 s0 s1
        go_wp2_with fail
        go_ret
        exact ⟨ret_bool (by rw [unhide H, hd, hP]; rfl), unhide HB6⟩

theorem Version_any (sb : Nat) (keep ver : Int) (sl pv : Value) (LS PL : List (Nat → Int)) (w : World) (hs : StP w sb keep ver sl pv LS PL) :
    Calls Try.prog 22 #[.pointer (some ⟨sb, 0, none⟩)] w fun e w' => e = .returned (.int .i64 ver) ∧ w = w' := by
  obtain ⟨_, s1, _, _⟩ := hs.cells
  go_enter Try.func22, Try.ntmps22
  go_wp2_with fail
  go_ret
  exact ⟨rfl, rfl⟩
end Go.Proofs.Ytppcpbhnpdjfpab
