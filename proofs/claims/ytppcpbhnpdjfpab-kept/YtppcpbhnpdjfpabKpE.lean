/-
  Store.Pin, Unpin.
-/
import Derived.Test.YtppcpbhnpdjfpabKpD
namespace Go.Proofs.Ytppcpbhnpdjfpab
open Go.RowKit

/-- Numbers, each a row of one. -/
def ri (PI : List Int) : List (Nat → Int) := PI.map fun x _ => x
theorem ri_len (PI : List Int) : (ri PI).length = PI.length := by simp [ri]
theorem ri_gf {PI : List Int} {i : Nat} (h : i < PI.length) : gf (ri PI) i 0 = PI[i] := by
  unfold gf ri; rw [List.getElem?_map, List.getElem?_eq_getElem h]; rfl
theorem ri_app (A : List Int) (x : Int) : ri (A ++ [x]) = ri A ++ [fun _ => x] := by simp [ri]
theorem hasP_ri (PI : List Int) (v : Int) : hasP (ri PI) v = decide (v ∈ PI) := by
  by_cases h : v ∈ PI
  · obtain ⟨i, hi, e⟩ := List.mem_iff_getElem.1 h
    rw [decide_eq_true h]
    exact hasP_yes (by rw [ri_len]; exact hi) (by rw [ri_gf hi]; exact e)
  · rw [decide_eq_false h]
    exact hasP_no fun i hi e => h (by rw [ri_len] at hi; rw [ri_gf hi] at e; rw [← e]; exact List.getElem_mem hi)
/-- What a call may turn: the blocks of S. -/
structure Fr (S : Nat → Prop) (w w' : World) : Prop where
  os : w'.os = w.os
  tape : w'.tape = w.tape
  output : w'.output = w.output
  size : w.heap.size ≤ w'.heap.size
  block : ∀ k, k < w.heap.size → ¬ S k → w'.heap[k]? = w.heap[k]?
theorem Fr.below {S : Nat → Prop} {B : Nat} {a w w' : World} (h : Below B a w) (hf : Fr S w w') (hB : B ≤ w.heap.size) (hS : ∀ k, S k → B ≤ k) : Below B a w' :=
  h.trans ⟨hf.os, hf.tape, hf.output, hf.size, fun k hk => hf.block k (by omega) (fun hs => by have := hS k hs; omega)⟩
theorem Fr.own {S : Nat → Prop} {T : TypeId} {m : Nat} {w w' : World} {B : Nat} {v : Value} {l : List (Nat → Int)} (hf : Fr S w w') (h : OwnC T m w B v l) (hS : ∀ g, v.ownBlock = some g → ¬ S g) : OwnC T m w' B v l :=
  h.same fun g hg => hf.block g (h.lt g hg).2 (hS g hg)

/-- How Pin ends. -/
def PinR (sb : Nat) (keep ver : Int) (sl pv : Value) (LS : List (Nat → Int)) (PI : List Int) (v : Int) (w : World) (e : Ending) (w' : World) : Prop :=
  (heldB keep ver (ri PI) v = false ∧ e = .returned (.int .i64 12) ∧ Below w.heap.size w w') ∨ (heldB keep ver (ri PI) v = true ∧ 6 ≤ PI.length ∧ e = .returned (.int .i64 13) ∧ Below w.heap.size w w') ∨
  (heldB keep ver (ri PI) v = true ∧ PI.length < 6 ∧ e = .returned (.int .i64 0) ∧ Fr (fun k => k = sb ∨ pv.ownBlock = some k) w w' ∧ ∃ pv', StP w' sb keep ver sl pv' LS (ri (PI ++ [v])) ∧ (pv'.ownBlock = pv.ownBlock ∨ ∀ g, pv'.ownBlock = some g → w.heap.size ≤ g))
set_option maxHeartbeats 3200000 in
theorem Pin_any (sb : Nat) (keep ver : Int) (sl pv : Value) (LS : List (Nat → Int)) (PI : List Int) (v : Int) (w : World) (hs : StP w sb keep ver sl pv LS (ri PI)) (hdj : ∀ g, pv.ownBlock = some g → sl.ownBlock ≠ some g) (hl : PI.length ≤ 6) (hk : 0 ≤ keep ∧ keep ≤ 4) (hv : 0 ≤ ver ∧ ver ≤ 100) :
    Calls Try.prog 20 #[.pointer (some ⟨sb, 0, none⟩), .int .i64 v] w fun e w' => PinR sb keep ver sl pv LS PI v w e w' := by
  have H := isHeld_any sb keep ver sl pv LS (ri PI) v w hs (by rw [ri_len]; omega) hk hv
  have HS := hide hs
  have HDJ := hide hdj
  clear hs hdj
  cases hh : heldB keep ver (ri PI) v with
  | false =>
    rw [hh] at H
    go_enter Try.func20, Try.ntmps20
    go_wp2_with fail
    refine H.mono ?_
    rintro e w1 ⟨rfl, hb1⟩
    have HH : Hid (PinR sb keep ver sl pv LS PI v w (.returned (.int .i64 12)) w1) := Or.inl ⟨hh, rfl, hb1⟩
    clear hb1 H
    go_wp2_with fail
    go_ret
    exact unhide HH
  | true =>
    rw [hh] at H
    go_enter Try.func20, Try.ntmps20
    go_wp2_with fail
    refine H.mono ?_
    rintro e w1 ⟨rfl, hb1⟩
    have hs1 := (unhide HS).on hb1
    obtain ⟨_, _, _, s3⟩ := hs1.cells
    have hlen : (ri PI).length = PI.length := ri_len PI
    have hlt := (unhide HS).lt
    have HS1 := hide hs1
    have HB1 := hide hb1
    obtain ⟨oa, cap, hpv⟩ : ∃ oa cap, pv = .slice oa (ri PI).length cap := by
      rcases hs1.pins.2 with ⟨h, h0⟩ | ⟨g, c, cur, h, _⟩
      · exact ⟨none, 0, by rw [h0]; exact h⟩
      · exact ⟨_, _, h⟩
    subst hpv
    clear hs1 hb1 H
    by_cases h6 : 6 ≤ PI.length
    · have h6' : (6 : Int) ≤ (ri PI).length := by omega
      have HH : Hid (PinR sb keep ver sl (.slice oa (ri PI).length cap) LS PI v w (.returned (.int .i64 13)) w1) := Or.inr (Or.inl ⟨hh, h6, rfl, unhide HB1⟩)
      clear hlen
      go_wp2_with fail
      go_ret
      exact unhide HH
    · have h6' : ¬ (6 : Int) ≤ (ri PI).length := by omega
      have hL : (ri PI).length ≤ 1000 := by omega
      have hB : sb + 1 ≤ w1.heap.size := by have := (unhide HS1).lt; omega
      have hown := (unhide HS1).pins
      clear hlen
      go_wp2_with (at_builtin; refine ap_int rfl (.tmp 19) (.tmp 21) rfl _ (sb + 1) _ (ri PI) v rfl hown rfl hL hB ?_)
      intro v5 w5 ho5 hg5 hd5
      have hz5 : w1.heap.size + 1 ≤ w5.heap.size := by have := hg5.size; simpa using this
      have bk : ∀ q, q < w1.heap.size → (Value.slice oa (ri PI).length cap).ownBlock ≠ some q → w5.heap[q]? = w1.heap[q]? := fun q hq hne => (hg5.block q (by simp; omega) (fun e => hne e.symm)).trans (Below.heap_alloc _ _ _ hq)
      have hs5 : w5.heap[sb]? = some (.cells #[.int .i64 keep, .int .i64 ver, sl, .slice oa (ri PI).length cap] 62 (0, 0)) := (bk sb (by omega) (fun e => by have := (hown.lt sb e).1; omega)).trans (unhide HS1).blk
      have c5 := (blk_cells hs5 3).trans (show _ = some (Value.slice oa (ri PI).length cap) from rfl)
      have fz5 := frz_blk hs5 3
      obtain ⟨o5, n5, k5, hv5⟩ : ∃ oa n cap, v5 = .slice oa n cap := by
        rcases ho5.2 with ⟨h, _⟩ | ⟨g, c, cur, h, _⟩
        · exact ⟨_, _, _, h⟩
        · exact ⟨_, _, _, h⟩
      subst hv5
      have hsl := (unhide HS1).own
      have HH : Hid (PinR sb keep ver sl (.slice oa (ri PI).length cap) LS PI v w (.returned (.int .i64 0)) (w5.setCell ⟨sb, 3, none⟩ (.slice o5 n5 k5))) := by
        have b1 := unhide HB1
        refine Or.inr (Or.inr ⟨hh, by omega, rfl, ⟨hg5.os.trans b1.os, hg5.tape.trans b1.tape, hg5.output.trans b1.output, ?_, ?_⟩, _, ⟨blk_set hs5 _, ?_, ?_⟩, ?_⟩)
        · have := b1.size; simp only [World.setCell, Array.size_modify]; omega
        · intro q hq hn
          rw [Below.heap_setCell _ _ _ _ (fun e => hn (Or.inl e)), bk q (by have := b1.size; omega) (fun e => hn (Or.inr e)), b1.block q hq]
        · refine hsl.same fun g hg => (Below.heap_setCell _ _ _ _ (by have := (hsl.lt g hg).1; simp; omega)).trans (bk g (hsl.lt g hg).2 (fun e => unhide HDJ g e hg))
        · rw [ri_app]
          exact OwnC.same ho5 fun g hg => Below.heap_setCell _ _ _ _ (by have := (OwnC.lt ho5 g hg).1; simp; omega)
        · rcases hd5 with d | d
          · exact Or.inl d
          · exact Or.inr fun g hg => by have := d g hg; have := b1.size; omega
      clear hs5 hsl bk ho5 hg5 hd5 hown s3
      go_wp2_with fail
      go_ret
      exact unhide HH

/-- How Unpin ends. -/
def UnpR (sb : Nat) (keep ver : Int) (sl : Value) (LS : List (Nat → Int)) (PI : List Int) (v : Int) (w : World) (e : Ending) (w' : World) : Prop :=
  (v ∉ PI ∧ e = .returned (.int .i64 12) ∧ Below w.heap.size w w') ∨ (v ∈ PI ∧ e = .returned (.int .i64 0) ∧ Fr (fun k => k = sb) w w' ∧ ∃ pv', StP w' sb keep ver sl pv' LS (ri (PI.erase v)) ∧ ∀ g, pv'.ownBlock = some g → w.heap.size ≤ g)
theorem take_erase {PI : List Int} {v : Int} {k : Nat} (hk : k < PI.length) : (PI.take (k + 1)).erase v = if v ∈ PI.take k then (PI.take k).erase v ++ [PI[k]] else if PI[k] = v then PI.take k else PI.take k ++ [PI[k]] := by
  have e : PI.take (k + 1) = PI.take k ++ [PI[k]] := by rw [List.take_add_one, List.getElem?_eq_getElem hk]; rfl
  rw [e, List.erase_append]
  by_cases c : v ∈ PI.take k
  · rw [if_pos c, if_pos c]
  · rw [if_neg c, if_neg c]
    by_cases d : PI[k] = v
    · rw [if_pos d, d]; simp
    · rw [if_neg d, List.erase_of_not_mem (by simp [Ne.symm d])]
theorem mem_take_succ {PI : List Int} {v : Int} {k : Nat} (hk : k < PI.length) : v ∈ PI.take (k + 1) ↔ v ∈ PI.take k ∨ v = PI[k] := by
  have e : PI.take (k + 1) = PI.take k ++ [PI[k]] := by rw [List.take_add_one, List.getElem?_eq_getElem hk]; rfl
  rw [e, List.mem_append, List.mem_singleton]

set_option maxHeartbeats 6400000 in
theorem Unpin_any (sb : Nat) (keep ver : Int) (sl pv : Value) (LS : List (Nat → Int)) (PI : List Int) (v : Int) (w : World) (hs : StP w sb keep ver sl pv LS (ri PI)) (hl : PI.length ≤ 6) :
    Calls Try.prog 21 #[.pointer (some ⟨sb, 0, none⟩), .int .i64 v] w fun e w' => UnpR sb keep ver sl LS PI v w e w' := by
  obtain ⟨_, _, _, s3⟩ := hs.cells
  have hlt := hs.lt
  obtain ⟨oa, cap, rfl, hc⟩ := hs.pins.ints (by rw [ri_len]; omega)
  have HC := hide hc
  have HS := hide hs
  have HO0 := hide (ownC_empty 3 1 w w.heap.size (Nat.le_refl _))
  have hlen := ri_len PI
  obtain ⟨n, hn⟩ : ∃ n, PI.length = n := ⟨_, rfl⟩
  have HN := hide hn
  have hrn : (ri PI).length = n := by omega
  rw [hrn] at s3 HC HS
  clear hc hs hlen
  go_enter Try.func21, Try.ntmps21
  go_wp2_with fail
  go_loopw [5, 6, 7] (fun lv fv i wr => ∃ (k : Nat), k ≤ n ∧ i = .int .i64 k ∧ Hid (fv = .bool (decide (v ∈ PI.take k))) ∧ OwnC 3 1 wr w.heap.size lv (ri ((PI.take k).erase v)) ∧ Below w.heap.size w wr) (fun _ _ i _ => n - (intOf i).toNat)
  case atStart => exact ⟨0, by omega, rfl, hide (by simp), unhide HO0, below_one _ _⟩
  case round =>
    obtain ⟨k, hk, rfl, hfv, ho, hb⟩ := hrel
    have hfv' := unhide hfv
    clear hfv
    have r3 := (hb.cell (p := ⟨sb, 3, none⟩) hlt).trans s3
    by_cases hlk : k < n
    · have hkn : (k : Int) < n := by omega
      have hkP : k < PI.length := by rw [unhide HN]; exact hlk
      obtain ⟨b, off, rfl, hbl, hc0⟩ := unhide HC (by omega)
      have ck := (hb.cell (p := ⟨b, off + k, none⟩) hbl).trans (hc0 k hlk)
      rw [ri_gf hkP] at ck
      have HTE := hide (take_erase (v := v) hkP)
      have HMT := hide (mem_take_succ (v := v) hkP)
      obtain ⟨X, hX⟩ : ∃ X, PI[k] = X := ⟨_, rfl⟩
      rw [hX] at ck HTE HMT
      have hsz : w.heap.size ≤ wr.heap.size := hb.size
      have hL : (ri ((PI.take k).erase v)).length ≤ 1000 := by
        rw [ri_len]
        have := List.length_erase_le (a := v) (l := PI.take k)
        have h2 : (PI.take k).length ≤ k := by simp; omega
        omega
      have HBr := hide hb
      clear hc0 hb
      by_cases hin : v ∈ PI.take k
      · rw [decide_eq_true hin] at hfv'
        subst hfv'
        have HD : Hid (decide (v ∈ PI.take (k + 1)) = true) := decide_eq_true ((unhide HMT).2 (Or.inl hin))
        have HL : Hid ((PI.take (k + 1)).erase v = (PI.take k).erase v ++ [X]) := by show (PI.take (k + 1)).erase v = _; rw [unhide HTE, if_pos hin]
        by_cases hx : X = v
        · subst hx
          go_wp2_with (at_builtin; refine ap_int rfl (.tmp 31) (.tmp 39) rfl _ w.heap.size _ (ri ((PI.take k).erase X)) X rfl ho rfl hL hsz ?_)
          intro v5 w5 ho5 hg5 hd5
          have hb5 := ((unhide HBr).alloc hsz (.cells #[.int .i64 X] 3)).grown hg5 (by simp; omega) (fun q hq => (ho.lt q hq).1)
          have HO5 := hide ho5
          clear ho5 hg5 hd5 ck r3 ho
          go_wp2_with fail
          go_roundw
          case rel => exact ⟨k + 1, by omega, by go_num, hide (by rw [unhide HD]), by rw [unhide HL, ri_app]; exact unhide HO5, hb5⟩
          case measure => simp [intOf]; omega
        · go_wp2_with (at_builtin; refine ap_int rfl (.tmp 31) (.tmp 39) rfl _ w.heap.size _ (ri ((PI.take k).erase v)) X rfl ho rfl hL hsz ?_)
          intro v5 w5 ho5 hg5 hd5
          have hb5 := ((unhide HBr).alloc hsz (.cells #[.int .i64 X] 3)).grown hg5 (by simp; omega) (fun q hq => (ho.lt q hq).1)
          have HO5 := hide ho5
          clear ho5 hg5 hd5 ck r3 ho
          go_wp2_with fail
          go_roundw
          case rel => exact ⟨k + 1, by omega, by go_num, hide (by rw [unhide HD]), by rw [unhide HL, ri_app]; exact unhide HO5, hb5⟩
          case measure => simp [intOf]; omega
      · rw [decide_eq_false hin] at hfv'
        subst hfv'
        have her : (PI.take k).erase v = PI.take k := List.erase_of_not_mem hin
        by_cases hx : X = v
        · have HD : Hid (decide (v ∈ PI.take (k + 1)) = true) := decide_eq_true ((unhide HMT).2 (Or.inr hx.symm))
          have HL : Hid ((PI.take (k + 1)).erase v = (PI.take k).erase v) := by show (PI.take (k + 1)).erase v = _; rw [unhide HTE, if_neg hin, if_pos hx, her]
          have HO5 := hide ho
          subst hx
          clear ho her
          go_wp2_with fail
          go_roundw
          case rel => exact ⟨k + 1, by omega, by go_num, hide (by rw [unhide HD]), by rw [unhide HL]; exact unhide HO5, unhide HBr⟩
          case measure => simp [intOf]; omega
        · have HD : Hid (decide (v ∈ PI.take (k + 1)) = false) := decide_eq_false (fun h => by rcases (unhide HMT).1 h with h | h; exact hin h; exact hx h.symm)
          have HL : Hid ((PI.take (k + 1)).erase v = (PI.take k).erase v ++ [X]) := by show (PI.take (k + 1)).erase v = _; rw [unhide HTE, if_neg hin, if_neg hx, her]
          clear her
          go_wp2_with (at_builtin; refine ap_int rfl (.tmp 31) (.tmp 39) rfl _ w.heap.size _ (ri ((PI.take k).erase v)) X rfl ho rfl hL hsz ?_)
          intro v5 w5 ho5 hg5 hd5
          have hb5 := ((unhide HBr).alloc hsz (.cells #[.int .i64 X] 3)).grown hg5 (by simp; omega) (fun q hq => (ho.lt q hq).1)
          have HO5 := hide ho5
          clear ho5 hg5 hd5 ck r3 ho
          go_wp2_with fail
          go_roundw
          case rel => exact ⟨k + 1, by omega, by go_num, hide (by rw [unhide HD]), by rw [unhide HL, ri_app]; exact unhide HO5, hb5⟩
          case measure => simp [intOf]; omega
    · have hkn : k = n := by omega
      subst hkn
      have htk : PI.take k = PI := List.take_of_length_le (by rw [unhide HN]; omega)
      rw [htk] at hfv' ho
      by_cases hin : v ∈ PI
      · rw [decide_eq_true hin] at hfv'
        subst hfv'
        have hsr := (hb.block sb hlt).trans (unhide HS).blk
        have fz := frz_blk hsr 3
        obtain ⟨o5, n5, k5, hv5⟩ : ∃ oa n cap, u5 = .slice oa n cap := by
          rcases ho.2 with ⟨h, _⟩ | ⟨g, c, cur, h, _⟩
          · exact ⟨_, _, _, h⟩
          · exact ⟨_, _, _, h⟩
        subst hv5
        have hsl := (unhide HS).own
        have HH : Hid (UnpR sb keep ver sl LS PI v w (.returned (.int .i64 0)) (wr.setCell ⟨sb, 3, none⟩ (.slice o5 n5 k5))) := by
          refine Or.inr ⟨hin, rfl, ⟨hb.os, hb.tape, hb.output, by have := hb.size; simpa [World.setCell] using this, fun q hq hn => ?_⟩, _, ⟨blk_set hsr _, ?_, ?_⟩, fun g hg => (ho.lt g hg).1⟩
          · rw [Below.heap_setCell _ _ _ _ (fun e => hn e), hb.block q hq]
          · exact hsl.same fun g hg => (Below.heap_setCell _ _ _ _ (by have := (hsl.lt g hg).1; simp; omega)).trans (hb.block g (hsl.lt g hg).2)
          · exact (ho.same fun g hg => Below.heap_setCell _ _ _ _ (by have := (ho.lt g hg).1; simp; omega)).mono (by omega)
        clear hb ho hsr hsl s3
        go_wp2_with fail
        go_ret
        exact unhide HH
      · rw [decide_eq_false hin] at hfv'
        subst hfv'
        have HH : Hid (UnpR sb keep ver sl LS PI v w (.returned (.int .i64 12)) wr) := Or.inl ⟨hin, rfl, hb⟩
        clear hb ho
        go_wp2_with fail
        go_ret
        exact unhide HH
end Go.Proofs.Ytppcpbhnpdjfpab
