/-
  The texts SbJ, SbK, SbL, SbM, SbN, SbO, SbP, InkE, SbQ, SbR, SbS, SbT, SbU, SbV, SbW, SbX, SbY, SbZ, ScA, ScB.
-/
import Derived.Test.YtpabpniaekldeaaGreatDoorSkse01
import Derived.Laws.CopyRow
import Derived.Laws.OwnMore
namespace Go.Proofs.YtpabpniaekldeaaGreatDoor
open Go.RowKit
set_option maxRecDepth 20000
theorem rdL_take {B : List (Nat -> Int)} {a : Int} {n k : Nat} (h : k < B.length) : rdL (B.take (k + 1)) a n = if a < gf B k 0 /\ (rdL (B.take k) a n).length < n then rdL (B.take k) a n ++ [gf B k] else rdL (B.take k) a n := by
  unfold rdL
  rw [List.take_add_one, gf_some h, List.filter_append]
  by_cases c : a < gf B k 0
  . have e : List.filter (fun f => decide (a < f 0)) (some (gf B k)).toList = [gf B k] := by simp [c]
    rw [e, List.length_take]
    generalize List.filter (fun f => decide (a < f 0)) (B.take k) = F
    by_cases q : min n F.length < n
    . rw [if_pos ⟨c, q⟩, List.take_of_length_le (by simp; omega), List.take_of_length_le (by omega)]
    . rw [if_neg (fun h => q h.2), List.take_append_of_le_length (by omega)]
  . have e : List.filter (fun f => decide (a < f 0)) (some (gf B k)).toList = [] := by simp [c]
    rw [e, List.append_nil, if_neg (fun h => c h.1)]
theorem rdL_len (B : List (Nat -> Int)) (a : Int) (n : Nat) : (rdL B a n).length <= n := by unfold rdL; rw [List.length_take]; omega
section
variable {w : World} {rb : Nat} {keep : Int} {bv pv : Value} {SL : List Sli} {bs : List Bat} {PI : List Int}
def RReadR (w : World) (keep : Int) (bs : List Bat) (PI : List Int) (v a n : Int) (e : Ending) (w' : World) : Prop :=
  Below w.heap.size w w' /\ ((heldB keep (bs.length : Nat) (ri PI) v = false /\ e = .returned (.tuple #[.slice none 0 0, .int .i64 12])) \/
  (heldB keep (bs.length : Nat) (ri PI) v = true /\ (n < 1 \/ 8 < n) /\ e = .returned (.tuple #[.slice none 0 0, .int .i64 14])) \/
  (heldB keep (bs.length : Nat) (ri PI) v = true /\ 1 <= n /\ n <= 8 /\ ∃ rv B, e = .returned (.tuple #[rv, .int .i64 0]) /\ Srt (atV bs v.toNat) B /\ AtR rF w' rv (rdL B a n.toNat)))
theorem held_in {keep : Int} {n : Nat} {PI : List Int} {v : Int} (h : heldB keep n (ri PI) v = true) : ∃ m : Nat, v = m /\ m <= n := by
  unfold heldB at h
  rw [Bool.and_eq_true, Bool.and_eq_true, decide_eq_true_eq, decide_eq_true_eq] at h
  exact ⟨v.toNat, by omega, by omega⟩
set_option maxHeartbeats 6400000 in
theorem rRead_any (v a n : Int) (hR : RSt w rb keep bv pv SL bs PI) (hl : PI.length <= 100) (hn : bs.length <= 100) (h8 : ∀ k, k < bs.length -> (btc bs k).length <= 8) (hd : ∀ v, v <= bs.length -> Dis (atV bs v) /\ ∀ j, j < (atV bs v).length -> 0 < gf (atV bs v) j 0) :
    Calls Tryz.prog 35 #[.pointer (some ⟨rb, 0, none⟩), .int .i64 v, .int .i64 a, .int .i64 n] w fun e w' => RReadR w keep bs PI v a n e w' := by
  have HI := hide (IsHeld_any (v := v) hR hl hn)
  have HR := hide hR
  clear hR
  cases hh : heldB keep (bs.length : Nat) (ri PI) v with
  | false =>
    rw [hh] at HI
    go_enter Tryz.func35, Tryz.ntmps35
    go_wp2_with fail
    refine (unhide HI).mono ?_
    rintro e w1 ⟨rfl, hb1⟩
    have HH : Hid (RReadR w keep bs PI v a n (.returned (.tuple #[.slice none 0 0, .int .i64 12])) w1) := ⟨hb1, Or.inl ⟨hh, rfl⟩⟩
    clear hb1
    go_wp2_with fail
    go_ret2
    exact unhide HH
  | true =>
    rw [hh] at HI
    obtain ⟨m, rfl, hm⟩ := held_in hh
    by_cases hx : n < 1 \/ 8 < n
    . go_enter Tryz.func35, Tryz.ntmps35
      go_wp2_with fail
      refine (unhide HI).mono ?_
      rintro e w1 ⟨rfl, hb1⟩
      have HH : Hid (RReadR w keep bs PI m a n (.returned (.tuple #[.slice none 0 0, .int .i64 14])) w1) := ⟨hb1, Or.inr (Or.inl ⟨hh, hx, rfl⟩)⟩
      clear hb1
      by_cases h1 : n < 1
      . clear hx
        go_wp2_with fail
        go_ret2
        exact unhide HH
      . have h2 : 8 < n := by omega
        clear hx
        go_wp2_with fail
        go_ret2
        exact unhide HH
    . obtain ⟨N, rfl⟩ : ∃ N : Nat, n = N := ⟨n.toNat, by omega⟩
      have h1 : ¬ (N : Int) < 1 := by omega
      have h2 : ¬ (8 : Int) < N := by omega
      clear hx
      go_enter Tryz.func35, Tryz.ntmps35
      go_wp2_with fail
      refine (unhide HI).mono ?_
      rintro e w1 ⟨rfl, hb1⟩
      have HA := hide (At_any rb keep bv pv SL bs PI m w1 ((unhide HR).on hb1) hm hn h8)
      have HB1 := hide hb1
      clear hb1
      go_wp2_with fail
      refine (unhide HA).mono ?_
      rintro e w2 ⟨rv, rfl, hat, hb2⟩
      have HY := hide (ByIds_any rv (atV bs m) w2 hat (atV_len bs m) (hd m hm).1 (hd m hm).2)
      have HB2 := hide ((unhide HB1).trans (hb2.mono (unhide HB1).size))
      clear hat hb2
      go_wp2_with fail
      refine (unhide HY).mono ?_
      rintro e w3 ⟨sv, B, rfl, hB, hS, hb3⟩
      have hB3 := (unhide HB2).trans (hb3.mono (unhide HB2).size)
      have HB3 := hide hB3
      obtain ⟨sa, sc, rfl, _, _, hc⟩ := hB.at
      have HC := hide hc
      have HS := hide hS
      have hBl : B.length <= 40 := by rw [hS.len]; exact atV_len bs m
      clear hb3 hB hc hS hB3
      go_wp2_with fail
      go_loopw [13, 14] (fun ov i wr => ∃ (k : Nat), k <= B.length /\ i = .int .i64 k /\ Hid (OwnR rF 66 wr ov (rdL (B.take k) a N)) /\ Hid (∀ g, ov.ownBlock = some g -> w3.heap.size <= g) /\ Hid (Below w3.heap.size w3 wr)) (fun _ i _ => B.length - (intOf i).toNat)
      case atStart => exact ⟨0, by omega, rfl, hide (by simpa [rdL] using (ownR_nil (R := rF) (T := 66) (w := w3))), hide (fun g hg => by simp [Value.ownBlock] at hg), hide (Below.refl _ _)⟩
      case round =>
        obtain ⟨k, hk, rfl, ho, hf, hb⟩ := hrel
        obtain ⟨o9, c9, hv9⟩ := (unhide ho).slice
        subst hv9
        obtain ⟨Q, hQ⟩ : ∃ Q, (rdL (B.take k) a N).length = Q := ⟨_, rfl⟩
        rw [hQ] at ho hf ⊢
        by_cases hlk : k < B.length
        . have hkn : (k : Int) < B.length := by omega
          obtain ⟨b, off, rfl, hbl, hc0⟩ := unhide HC (by omega)
          have hrg : wr.rangeAt b (off + k * 24) (fc (gf B k)).toList := fun t u hu => ((unhide hb).cell (p := ⟨b, off + k * 24 + t, none⟩) hbl).trans (rngF hc0 hlk t u hu)
          have c0 : wr.cell? ⟨b, off + k * 24, none⟩ = some (.int .i64 (gf B k 0)) := fc_rng hrg 0 (by omega)
          have HT := hide (rdL_take (a := a) (n := N) hlk)
          have hQl := rdL_len (B.take k) a N
          rw [hQ] at hQl
          obtain ⟨X, hX⟩ : ∃ X, gf B k 0 = X := ⟨_, rfl⟩
          rw [hX, hQ] at HT
          rw [hX] at c0
          by_cases hc1 : a < X /\ Q < N
          . have hXa : a < X := hc1.1
            have hQN : (Q : Int) < N := by omega
            obtain ⟨v5, w5, a1, a2, a3, a4⟩ := apF ((unhide ho).allocF _) (at_new rF 66 wr (gf B k) (fc (gf B k)) rfl) (by simp; omega)
            have HO5 : Hid (OwnR rF 66 w5 v5 (rdL (B.take (k + 1)) a N)) := by rw [unhide HT, if_pos hc1]; exact a2
            have HF5 : Hid (∀ g, v5.ownBlock = some g -> w3.heap.size <= g) := fun g hg => by
              rcases a4 with a4 | a4
              . exact unhide hf g (a4 ▸ hg)
              . have q1 := a4 g hg; have := (unhide hb).size; simp at q1; omega
            have HB5 := hide (((unhide hb).alloc (unhide hb).size (.cells (fc (gf B k)) 66)).grown a3 (by have := (unhide hb).size; simp; omega) (fun g hg => unhide hf g hg))
            clear a2 a3 a4 hX hc0 hc1 hQ
            go_wp2_with (first | refine ldG 66 (fc (gf B k)) Tryz.underlying66 rfl (szf _) b (off + k * 24) hrg rfl _ rfl rfl ?_ | refine wlV _ _ (run_bs34 _ _ _ rfl (gf B k) rfl _) rfl ?_ | (at_builtin; refine wlR 62 a1 rfl _ _ rfl rfl rfl rfl ?_))
            go_roundw
            case rel => exact ⟨k + 1, by omega, by go_num, HO5, HF5, HB5⟩
            case measure => simp [intOf]; omega
          . have HO5 : Hid (OwnR rF 66 wr (.slice o9 Q c9) (rdL (B.take (k + 1)) a N)) := by rw [unhide HT, if_neg hc1]; exact ho
            clear hX hc0 hQ
            by_cases hXa : a < X
            . have hQN : ¬ (Q : Int) < N := by omega
              clear hc1
              go_wp2_with fail
              go_roundw
              case rel => exact ⟨k + 1, by omega, by go_num, HO5, hf, hb⟩
              case measure => simp [intOf]; omega
            . clear hc1
              go_wp2_with fail
              go_roundw
              case rel => exact ⟨k + 1, by omega, by go_num, HO5, hf, hb⟩
              case measure => simp [intOf]; omega
        . have hkn : k = B.length := by omega
          subst hkn
          rw [List.take_length] at ho
          have HH : Hid (RReadR w keep bs PI m a N (.returned (.tuple #[.slice o9 Q c9, .int .i64 0])) wr) := by
            refine ⟨(unhide HB3).trans ((unhide hb).mono (unhide HB3).size), Or.inr (Or.inr ⟨hh, by omega, by omega, _, B, rfl, ?_, ?_⟩)⟩
            . rw [Int.toNat_natCast]; exact unhide HS
            . rw [Int.toNat_natCast]; exact (unhide ho).at
          clear hQ
          go_wp2_with fail
          go_ret2
          exact unhide HH
def stA (bs : List Bat) (v l z x y : Int) : Int × Int := if keyErr l z x y = 0 then (if v < 0 \/ (bs.length : Nat) < v then (0, 12) else ((lsV bs l z x y v.toNat : Nat), 0)) else (0, keyErr l z x y)
set_option maxHeartbeats 3200000 in
theorem rStamp_any (v l z x y : Int) (hR : RSt w rb keep bv pv SL bs PI) (hn : bs.length <= 100) (h8 : ∀ k, k < bs.length -> (btc bs k).length <= 8) :
    Calls Tryz.prog 39 #[.pointer (some ⟨rb, 0, none⟩), .int .i64 v, .agg #[.int .i64 l, .int .i64 z, .int .i64 x, .int .i64 y]] w fun e w' => e = .returned (.tuple #[.int .i64 (stA bs v l z x y).1, .int .i64 (stA bs v l z x y).2]) /\ Below w.heap.size w w' := by
  have hA := heap_alloc_new w (.cells #[.int .i64 l, .int .i64 z, .int .i64 x, .int .i64 y] 39 (0, 0))
  have hb0 := below_one w (.cells #[.int .i64 l, .int .i64 z, .int .i64 x, .int .i64 y] 39)
  have HA := hide hA
  have HB0 := hide hb0
  have HR := hide (hR.on hb0)
  have hrg := rng_blk hA
  have K := fun W => refKeyError_any l z x y W
  obtain ⟨E, hE⟩ : ∃ E, keyErr l z x y = E := ⟨_, rfl⟩
  obtain ⟨p, hp⟩ : ∃ p, stA bs v l z x y = p := ⟨_, rfl⟩
  rw [hp]
  unfold stA at hp
  rw [hE] at K hp
  have HK := hide K
  clear hA hb0 hR hE K
  by_cases h0 : E = 0
  . subst h0
    rw [if_pos rfl] at hp
    by_cases h1 : v < 0 \/ ((bs.length : Nat) : Int) < v
    . rw [if_pos h1] at hp
      subst hp
      go_enter Tryz.func39, Tryz.ntmps39
      go_wp2_with (refine ldG 39 #[.int .i64 l, .int .i64 z, .int .i64 x, .int .i64 y] Tryz.underlying39 rfl (sz28 l z x y) w.heap.size 0 hrg rfl _ rfl rfl ?_)
      refine (unhide HK _).mono ?_
      rintro e w1 ⟨rfl, hb1⟩
      have HB1 := hide ((unhide HB0).trans (hb1.mono (by simp)))
      have hR1 := (unhide HR).on hb1
      have c1 := hR1.c1
      obtain ⟨oa, cap, e⟩ := hR1.bat.slice
      rw [e, hR1.len] at c1
      clear hb1 hR1 e hrg
      by_cases h2 : v < 0
      . clear h1
        go_wp2_with fail
        go_ret2
        exact ⟨rfl, unhide HB1⟩
      . have h3 : ((bs.length : Nat) : Int) < v := by omega
        clear h1
        go_wp2_with fail
        go_ret2
        exact ⟨rfl, unhide HB1⟩
    . rw [if_neg h1] at hp
      obtain ⟨m, rfl⟩ : ∃ m : Nat, v = m := ⟨v.toNat, by omega⟩
      have h2 : ¬ (m : Int) < 0 := by omega
      have h3 : ¬ ((bs.length : Nat) : Int) < m := by omega
      rw [Int.toNat_natCast] at hp
      subst hp
      clear h1
      go_enter Tryz.func39, Tryz.ntmps39
      go_wp2_with (refine ldG 39 #[.int .i64 l, .int .i64 z, .int .i64 x, .int .i64 y] Tryz.underlying39 rfl (sz28 l z x y) w.heap.size 0 hrg rfl _ rfl rfl ?_)
      refine (unhide HK _).mono ?_
      rintro e w1 ⟨rfl, hb1⟩
      have HB1 := hide ((unhide HB0).trans (hb1.mono (by simp)))
      have hR1 := (unhide HR).on hb1
      have c1 := hR1.c1
      obtain ⟨oa, cap, e⟩ := hR1.bat.slice
      rw [e, hR1.len] at c1
      have hrg1 := rng_blk (blk_on (unhide HA) hb1)
      have HL := hide (Last_any rb keep bv pv SL bs PI m l z x y w1 hR1 (by omega) hn h8)
      clear hb1 hR1 e hrg
      go_wp2_with (refine ldG 39 #[.int .i64 l, .int .i64 z, .int .i64 x, .int .i64 y] Tryz.underlying39 rfl (sz28 l z x y) w.heap.size 0 hrg1 rfl _ rfl rfl ?_)
      refine (unhide HL).mono ?_
      rintro e w2 ⟨rfl, hb2⟩
      have HB2 := hide ((unhide HB1).trans (hb2.mono (unhide HB1).size))
      clear hb2 c1 hrg1
      go_wp2_with fail
      go_ret2
      exact ⟨rfl, unhide HB2⟩
  . rw [if_neg h0] at hp
    subst hp
    go_enter Tryz.func39, Tryz.ntmps39
    go_wp2_with (refine ldG 39 #[.int .i64 l, .int .i64 z, .int .i64 x, .int .i64 y] Tryz.underlying39 rfl (sz28 l z x y) w.heap.size 0 hrg rfl _ rfl rfl ?_)
    refine (unhide HK _).mono ?_
    rintro e w1 ⟨rfl, hb1⟩
    have HB1 := hide ((unhide HB0).trans (hb1.mono (by simp)))
    clear hb1 hrg
    go_wp2_with fail
    go_ret2
    exact ⟨rfl, unhide HB1⟩
theorem rVersion_any (hR : RSt w rb keep bv pv SL bs PI) :
    Calls Tryz.prog 56 #[.pointer (some ⟨rb, 0, none⟩)] w fun e w' => e = .returned (.int .i64 (bs.length : Nat)) /\ w = w' := by
  have c1 := hR.c1
  obtain ⟨oa, cap, e⟩ := hR.bat.slice
  rw [e, hR.len] at c1
  clear hR e
  go_enter Tryz.func56, Tryz.ntmps56
  go_wp2_with fail
  go_ret
  exact ⟨rfl, rfl⟩
end
def NewSR (k : Int) (w : World) (e : Ending) (w' : World) : Prop :=
  ((k < 0 \/ 4 < k) /\ e = .returned (.tuple #[.pointer none, .int .i64 15]) /\ w' = w) \/ (0 <= k /\ k <= 4 /\ e = .returned (.tuple #[.pointer (some ⟨w.heap.size, 0, none⟩), .int .i64 0]) /\ w' = w.alloc (.cells #[.int .i64 k, .slice none 0 0, .slice none 0 0] 121))
theorem NewStore_any (k : Int) (w : World) : Calls Tryz.prog 22 #[.int .i64 k] w fun e w' => NewSR k w e w' := by
  by_cases h1 : k < 0
  . have HH : Hid (NewSR k w (.returned (.tuple #[.pointer none, .int .i64 15])) w) := Or.inl ⟨Or.inl h1, rfl, rfl⟩
    go_enter Tryz.func22, Tryz.ntmps22
    go_wp2_with fail
    go_ret2
    exact unhide HH
  . by_cases h2 : 4 < k
    . have HH : Hid (NewSR k w (.returned (.tuple #[.pointer none, .int .i64 15])) w) := Or.inl ⟨Or.inr h2, rfl, rfl⟩
      go_enter Tryz.func22, Tryz.ntmps22
      go_wp2_with fail
      go_ret2
      exact unhide HH
    . have HH : Hid (NewSR k w (.returned (.tuple #[.pointer (some ⟨w.heap.size, 0, none⟩), .int .i64 0])) (w.alloc (.cells #[.int .i64 k, .slice none 0 0, .slice none 0 0] 121))) := Or.inr ⟨by omega, by omega, rfl, rfl⟩
      go_enter Tryz.func22, Tryz.ntmps22
      go_wp2_with fail
      go_ret2
      exact unhide HH
theorem setCells_blk {g : Nat} {T : TypeId} : ∀ (vs : List Value) (o : Nat) (w : World) (cur : Array Value), w.heap[g]? = some (.cells cur T (0, 0)) ->
    (w.setCells g o vs).heap[g]? = some (.cells (setR cur.toList o vs).toArray T (0, 0)) /\ w.grownBy (w.setCells g o vs) (some g)
  | [], _, w, cur, h => ⟨by show w.heap[g]? = _; simpa [setR] using h, World.grownBy.refl _ _⟩
  | v :: r, o, w, cur, h => by
    have h1 : (w.setCell ⟨g, o, none⟩ v).heap[g]? = some (.cells (cur.setIfInBounds o v) T (0, 0)) := by simp [World.setCell, Array.getElem?_modify, h]
    have h2 : w.grownBy (w.setCell ⟨g, o, none⟩ v) (some g) := ⟨rfl, rfl, rfl, by simp [World.setCell], fun k _ hne => Below.heap_setCell _ _ _ _ (fun e => hne (by rw [e]))⟩
    obtain ⟨h3, h4⟩ := setCells_blk r (o + 1) _ _ h1
    refine ⟨?_, h4.os.trans h2.os, h4.tape.trans h2.tape, h4.output.trans h2.output, Nat.le_trans h2.size h4.size, fun k hk hne => (h4.block k (Nat.lt_of_lt_of_le hk h2.size) hne).trans (h2.block k hk hne)⟩
    rw [Array.toList_setIfInBounds] at h3
    exact h3
theorem setR_take (xs vs : List Value) (o : Nat) (h : o + vs.length <= xs.length) : (setR xs o vs).take o = xs.take o := by
  apply List.ext_getElem?
  intro k
  by_cases c : k < o
  . rw [List.getElem?_take_of_lt c, List.getElem?_take_of_lt c, setR_at _ _ _ _ h, if_neg (by omega)]
  . rw [List.getElem?_eq_none (by rw [List.length_take]; omega), List.getElem?_eq_none (by rw [List.length_take]; omega)]
theorem setR_mid (xs vs : List Value) (o : Nat) (h : o + vs.length <= xs.length) : ((setR xs o vs).drop o).take vs.length = vs := by
  apply List.ext_getElem?
  intro k
  by_cases c : k < vs.length
  . rw [List.getElem?_take_of_lt c, List.getElem?_drop, setR_at _ _ _ _ h, if_pos (by omega), Nat.add_sub_cancel_left]
  . rw [List.getElem?_eq_none (by rw [List.length_take]; omega), List.getElem?_eq_none (by omega)]
def Fil {α : Type} (R : Row α) (T : TypeId) (w : World) (g off cap k : Nat) (x : α) : Prop :=
  ∃ cur : Array Value, w.heap[g]? = some (.cells cur T (0, 0)) /\ off + cap * R.wid <= cur.size /\ (cur.toList.drop off).take (k * R.wid) = R.all (List.replicate k x)
section
variable {α : Type} {R : Row α} {T : TypeId} {w w' : World} {g off cap k : Nat} {x : α}
theorem Fil.zero {n : Nat} {l : List α} (h : OwnR R T w (.slice (some ⟨g, off, none⟩) n cap) l) : Fil R T w g off cap 0 x := by
  rcases h with ⟨e, _⟩ | ⟨g', off', cap', cur, e, hh, h1, h2, h3, h4⟩
  . cases e
  . cases e
    exact ⟨cur, hh, h3, by simp [Row.all]⟩
theorem Fil.there (h : Fil R T w g off cap k x) (hk : k < cap) : w.there g (off + k * R.wid) R.wid := by
  obtain ⟨cur, hh, hs, _⟩ := h
  intro j hj
  have hle : (k + 1) * R.wid <= cap * R.wid := Nat.mul_le_mul_right _ hk
  rw [Nat.succ_mul] at hle
  have hlt : off + k * R.wid + j < cur.size := by omega
  refine ⟨?_, by simp [World.frozen?, hh]⟩
  simp [World.cell?, hh, hlt]
theorem Fil.step (h : Fil R T w g off cap k x) (hk : k < cap) : Fil R T (w.setCells g (off + k * R.wid) (R.enc x)) g off cap (k + 1) x /\ w.grownBy (w.setCells g (off + k * R.wid) (R.enc x)) (some g) := by
  obtain ⟨cur, hh, hs, hf⟩ := h
  have hle : (k + 1) * R.wid <= cap * R.wid := Nat.mul_le_mul_right _ hk
  rw [Nat.succ_mul] at hle
  obtain ⟨h1, h2⟩ := setCells_blk (R.enc x) (off + k * R.wid) w cur hh
  have hfit : off + k * R.wid + (R.enc x).length <= cur.toList.length := by rw [R.len, Array.length_toList]; omega
  refine ⟨⟨_, h1, by rw [List.size_toArray, setR_len, Array.length_toList]; exact hs, ?_⟩, h2⟩
  rw [List.replicate_succ', R.all_app, show (setR cur.toList (off + k * R.wid) (R.enc x)).toArray.toList = setR cur.toList (off + k * R.wid) (R.enc x) from rfl]
  generalize hL : setR cur.toList (off + k * R.wid) (R.enc x) = L
  have e1 : L.take (off + k * R.wid) = cur.toList.take (off + k * R.wid) := by rw [<- hL]; exact setR_take _ _ _ hfit
  have e2 : (L.drop (off + k * R.wid)).take R.wid = R.enc x := by
    have := setR_mid cur.toList (R.enc x) (off + k * R.wid) hfit
    rw [R.len, hL] at this
    exact this
  rw [Nat.succ_mul, List.take_add, List.drop_drop, e2]
  congr 1
  . rw [<- hf]
    have a1 : (L.drop off).take (k * R.wid) = (L.take (off + k * R.wid)).drop off := by rw [List.drop_take, Nat.add_sub_cancel_left]
    have a2 : (cur.toList.drop off).take (k * R.wid) = (cur.toList.take (off + k * R.wid)).drop off := by rw [List.drop_take, Nat.add_sub_cancel_left]
    rw [a1, a2, e1]
  . simp [Row.all]
theorem Fil.own (h : Fil R T w g off cap cap x) (hm : cap <= maxLen) : OwnR R T w (.slice (some ⟨g, off, none⟩) cap cap) (List.replicate cap x) := by
  obtain ⟨cur, hh, hs, hf⟩ := h
  refine Or.inr ⟨g, off, cap, cur, by rw [List.length_replicate], hh, by rw [List.length_replicate]; exact Nat.le_refl _, hm, hs, ?_⟩
  rw [List.length_replicate]; exact hf
end
structure OV where
  iv : Value
  fv : Value
  rv : Value
  gv : Value
  ev : Value
def OV.a (V : OV) : Array Value := #[V.iv, V.fv, V.rv, V.gv, V.ev]
def owI (j : Nat) : Int := -78 - (j : Int)
def owF (j : Nat) : Nat -> Int := fun t => if t = 0 then -78 - (j : Int) else 0
def owE (j : Nat) : Nat -> Int := fun t => if t = 0 then -78 - (j : Int) else 0
def owR (j : Nat) : Rep := ⟨-78 - (j : Int), 0, ⟨#[]⟩, ⟨#[]⟩⟩
def owG (j : Nat) : Told := ⟨⟨0, 0, 0, 0⟩, -78 - (j : Int), 0, 0, 0⟩
structure OwnI (w : World) (ob : Nat) (V : OV) (IS FS RS GS ES : List Sli) : Prop where
  blk : w.heap[ob]? = some (.cells V.a 33 (0, 0))
  i : OwnR rSli 60 w V.iv IS
  f : OwnR rSli 62 w V.fv FS
  r : OwnR rSli 89 w V.rv RS
  g : OwnR rSli 104 w V.gv GS
  e : OwnR rSli 40 w V.ev ES
  il : ∀ (j : Nat) (s : Sli), IS[j]? = some s -> OwnR rI 3 w s.v (List.replicate s.n (owI j))
  fl : ∀ (j : Nat) (s : Sli), FS[j]? = some s -> OwnR rF 66 w s.v (List.replicate s.n (owF j))
  rl : ∀ (j : Nat) (s : Sli), RS[j]? = some s -> OwnR rRep 103 w s.v (List.replicate s.n (owR j))
  gl : ∀ (j : Nat) (s : Sli), GS[j]? = some s -> OwnR rTold 107 w s.v (List.replicate s.n (owG j))
  el : ∀ (j : Nat) (s : Sli), ES[j]? = some s -> OwnR rE 100 w s.v (List.replicate s.n (owE j))
def OFoot (ob : Nat) (V : OV) (IS FS RS GS ES : List Sli) (k : Nat) : Prop :=
  k = ob \/ V.iv.ownBlock = some k \/ V.fv.ownBlock = some k \/ V.rv.ownBlock = some k \/ V.gv.ownBlock = some k \/ V.ev.ownBlock = some k \/ ∃ s, (s ∈ IS \/ s ∈ FS \/ s ∈ RS \/ s ∈ GS \/ s ∈ ES) /\ s.v.ownBlock = some k
theorem OwnI.cells {w : World} {ob : Nat} {V : OV} {IS FS RS GS ES : List Sli} (h : OwnI w ob V IS FS RS GS ES) (i : Nat) : w.cell? ⟨ob, i, none⟩ = V.a[i]? := blk_cells h.blk i
theorem OwnI.lt {w : World} {ob : Nat} {V : OV} {IS FS RS GS ES : List Sli} (h : OwnI w ob V IS FS RS GS ES) {k : Nat} (hk : OFoot ob V IS FS RS GS ES k) : k < w.heap.size := by
  rcases hk with rfl | q | q | q | q | q | ⟨s, hs, q⟩
  . exact blk_lt h.blk
  . exact h.i.lt q
  . exact h.f.lt q
  . exact h.r.lt q
  . exact h.g.lt q
  . exact h.e.lt q
  . rcases hs with hs | hs | hs | hs | hs
    . obtain ⟨j, hj⟩ := List.mem_iff_getElem?.1 hs; exact (h.il j s hj).lt q
    . obtain ⟨j, hj⟩ := List.mem_iff_getElem?.1 hs; exact (h.fl j s hj).lt q
    . obtain ⟨j, hj⟩ := List.mem_iff_getElem?.1 hs; exact (h.rl j s hj).lt q
    . obtain ⟨j, hj⟩ := List.mem_iff_getElem?.1 hs; exact (h.gl j s hj).lt q
    . obtain ⟨j, hj⟩ := List.mem_iff_getElem?.1 hs; exact (h.el j s hj).lt q
theorem OwnI.frm {w w' : World} {ob : Nat} {V : OV} {IS FS RS GS ES : List Sli} {S : Nat -> Prop} (h : OwnI w ob V IS FS RS GS ES) (hF : Frm S w w') (hS : ∀ k, OFoot ob V IS FS RS GS ES k -> ¬ S k) : OwnI w' ob V IS FS RS GS ES :=
  ⟨blk_frm h.blk hF (hS _ (Or.inl rfl)), h.i.frm hF fun k q => hS k (Or.inr (Or.inl q)), h.f.frm hF fun k q => hS k (Or.inr (Or.inr (Or.inl q))), h.r.frm hF fun k q => hS k (Or.inr (Or.inr (Or.inr (Or.inl q)))), h.g.frm hF fun k q => hS k (Or.inr (Or.inr (Or.inr (Or.inr (Or.inl q))))), h.e.frm hF fun k q => hS k (Or.inr (Or.inr (Or.inr (Or.inr (Or.inr (Or.inl q)))))),
   fun j s hs => (h.il j s hs).frm hF fun k q => hS k (Or.inr (Or.inr (Or.inr (Or.inr (Or.inr (Or.inr ⟨s, Or.inl (List.mem_of_getElem? hs), q⟩)))))),
   fun j s hs => (h.fl j s hs).frm hF fun k q => hS k (Or.inr (Or.inr (Or.inr (Or.inr (Or.inr (Or.inr ⟨s, Or.inr (Or.inl (List.mem_of_getElem? hs)), q⟩)))))),
   fun j s hs => (h.rl j s hs).frm hF fun k q => hS k (Or.inr (Or.inr (Or.inr (Or.inr (Or.inr (Or.inr ⟨s, Or.inr (Or.inr (Or.inl (List.mem_of_getElem? hs))), q⟩)))))),
   fun j s hs => (h.gl j s hs).frm hF fun k q => hS k (Or.inr (Or.inr (Or.inr (Or.inr (Or.inr (Or.inr ⟨s, Or.inr (Or.inr (Or.inr (Or.inl (List.mem_of_getElem? hs)))), q⟩)))))),
   fun j s hs => (h.el j s hs).frm hF fun k q => hS k (Or.inr (Or.inr (Or.inr (Or.inr (Or.inr (Or.inr ⟨s, Or.inr (Or.inr (Or.inr (Or.inr (List.mem_of_getElem? hs)))), q⟩))))))⟩
theorem OwnI.on {w w' : World} {ob : Nat} {V : OV} {IS FS RS GS ES : List Sli} (h : OwnI w ob V IS FS RS GS ES) (hb : Below w.heap.size w w') : OwnI w' ob V IS FS RS GS ES := h.frm (S := fun _ => False) (Frm.of_below hb) (fun _ _ q => q)
theorem own_any (n : Nat) (w : World) (hn : n <= 2000000000000) : Calls Tryz.prog 16 #[.int .i64 n] w fun e w' => e = .returned (.int .i64 (owI n)) /\ w = w' := by
  have e : IntKind.i64.wrap (-78 - (n : Int)) = owI n := by unfold owI; exact i64_of _ (by omega)
  go_enter Tryz.func16, Tryz.ntmps16
  go_wp2_with fail
  go_ret
  exact ⟨rfl, rfl⟩
theorem OwnR.past {α β : Type} {R : Row α} {R' : Row β} {T T' : TypeId} {w w3 : World} {v u x : Value} {l : List α} {L : List β} {ob i : Nat} {c : Array Value} {o : Obj} (h : OwnR R T w v l) (hu : OwnR R' T' w u L) (hT : T ≠ T') (hb : w.heap[ob]? = some (.cells c 33 (0, 0))) (hT2 : T ≠ 33) (r3 : (w.alloc o).grownBy w3 u.ownBlock) : OwnR R T (w3.setCell ⟨ob, i, none⟩ x) v l := by
  refine h.same fun g hg => ?_
  obtain ⟨c1, e1⟩ := h.ty hg
  rw [Below.heap_setCell _ _ _ _ (blk_ne e1 hb hT2), r3.block g (by have := h.lt hg; simp; omega) (fun q => ?_), heap_alloc_old w _ (h.lt hg)]
  obtain ⟨c2, e2⟩ := hu.ty q.symm
  exact blk_ne e1 e2 hT rfl
theorem blk_past {β : Type} {R' : Row β} {T' : TypeId} {w w3 : World} {u : Value} {L : List β} {ob : Nat} {c : Array Value} {o : Obj} (hu : OwnR R' T' w u L) (hT : T' ≠ 33) (hb : w.heap[ob]? = some (.cells c 33 (0, 0))) (r3 : (w.alloc o).grownBy w3 u.ownBlock) : w3.heap[ob]? = some (.cells c 33 (0, 0)) := by
  rw [r3.block ob (by have := blk_lt hb; simp; omega) (fun q => ?_), heap_alloc_old w _ (blk_lt hb)]
  . exact hb
  . obtain ⟨c2, e2⟩ := hu.ty q.symm
    exact blk_ne e2 hb hT rfl
theorem getElem?_snoc {α : Type} {l : List α} {a b : α} {j : Nat} (h : (l ++ [a])[j]? = some b) : l[j]? = some b \/ (j = l.length /\ a = b) := by
  rcases Nat.lt_or_ge j l.length with c | c
  . rw [List.getElem?_append_left c] at h; exact Or.inl h
  . rw [List.getElem?_append_right c] at h
    cases e : j - l.length with
    | zero => rw [e] at h; simp at h; exact Or.inr ⟨by omega, h⟩
    | succ m => rw [e] at h; simp at h
theorem built66 (n : Nat) : Tryz.prog.built 66 [(0, .int .i64 (owI n))] = some (fc (owF n)) := by kernel_rfl
theorem run_bF (n : Nat) (A : Act) (o : Oper) (x : Operand) (ho : o.op = .build 66 #[(0, x)]) (hx : A.eval x = .int .i64 (owI n)) (w : World) : (execOp A.eval o).run Tryz.prog w = .ok (.value (.agg (fc (owF n)))) w := by
  have hb := run_build (P := Tryz.prog) w 66 #[(0, .int .i64 (owI n))] (fc (owF n)) (built66 n)
  unfold execOp
  simp [ho, hx, hb]
theorem built100 (n : Nat) : Tryz.prog.built 100 [(0, .int .i64 (owI n))] = some (cc 25 (owE n)) := by kernel_rfl
theorem run_bE (n : Nat) (A : Act) (o : Oper) (x : Operand) (ho : o.op = .build 100 #[(0, x)]) (hx : A.eval x = .int .i64 (owI n)) (w : World) : (execOp A.eval o).run Tryz.prog w = .ok (.value (.agg (cc 25 (owE n)))) w := by
  have hb := run_build (P := Tryz.prog) w 100 #[(0, .int .i64 (owI n))] (cc 25 (owE n)) (built100 n)
  unfold execOp
  simp [ho, hx, hb]
section
variable {w w1 w3 : World} {ob : Nat} {V : OV} {IS FS RS GS ES : List Sli} {v : Value}
theorem OwnI.fillI {l : List _} (h : OwnI w ob V IS FS RS GS ES) (hv : OwnR rI 3 w v l) (hF : Frm (fun k => v.ownBlock = some k) w w1) (hd : ∀ s ∈ IS, ∀ g, s.v.ownBlock = some g -> v.ownBlock ≠ some g) : OwnI w1 ob V IS FS RS GS ES := by
  have ne : ∀ {c : Array Value} {U : TypeId} {k : Nat}, w.heap[k]? = some (.cells c U (0, 0)) -> U ≠ 3 -> ¬ v.ownBlock = some k := fun e hU q => by
    obtain ⟨c2, e2⟩ := hv.ty q
    exact blk_ne e e2 hU rfl
  refine h.frm hF fun k hk => ?_
  rcases hk with rfl | q | q | q | q | q | ⟨s, hs, q⟩
  . exact ne h.blk (by decide)
  . obtain ⟨c, e⟩ := h.i.ty q; exact ne e (by decide)
  . obtain ⟨c, e⟩ := h.f.ty q; exact ne e (by decide)
  . obtain ⟨c, e⟩ := h.r.ty q; exact ne e (by decide)
  . obtain ⟨c, e⟩ := h.g.ty q; exact ne e (by decide)
  . obtain ⟨c, e⟩ := h.e.ty q; exact ne e (by decide)
  . rcases hs with hs | hs | hs | hs | hs
    . exact hd s hs k q
    . obtain ⟨j, hj⟩ := List.mem_iff_getElem?.1 hs; obtain ⟨c, e⟩ := (h.fl j s hj).ty q; exact ne e (by decide)
    . obtain ⟨j, hj⟩ := List.mem_iff_getElem?.1 hs; obtain ⟨c, e⟩ := (h.rl j s hj).ty q; exact ne e (by decide)
    . obtain ⟨j, hj⟩ := List.mem_iff_getElem?.1 hs; obtain ⟨c, e⟩ := (h.gl j s hj).ty q; exact ne e (by decide)
    . obtain ⟨j, hj⟩ := List.mem_iff_getElem?.1 hs; obtain ⟨c, e⟩ := (h.el j s hj).ty q; exact ne e (by decide)
theorem OwnI.addI {s : Sli} {x : Value} {o : Obj} (h : OwnI w ob V IS FS RS GS ES) (r2 : OwnR rSli 60 w3 x (IS ++ [s])) (r3 : (w.alloc o).grownBy w3 V.iv.ownBlock) (hs : OwnR rI 3 w s.v (List.replicate s.n (owI IS.length))) :
    OwnI (w3.setCell ⟨ob, 0, none⟩ x) ob { V with iv := x } (IS ++ [s]) FS RS GS ES := by
  have hb := blk_past (c := V.a) h.i (by decide) h.blk r3
  refine ⟨?_, r2.same fun g hg => Below.heap_setCell _ _ _ _ (by obtain ⟨c1, e1⟩ := r2.ty hg; exact blk_ne e1 hb (by decide)), h.f.past h.i (by decide) h.blk (by decide) r3, h.r.past h.i (by decide) h.blk (by decide) r3, h.g.past h.i (by decide) h.blk (by decide) r3, h.e.past h.i (by decide) h.blk (by decide) r3, ?_, ?_, ?_, ?_, ?_⟩
  . show (w3.setCell ⟨ob, 0, none⟩ x).heap[ob]? = _
    simp [World.setCell, Array.getElem?_modify, hb]
    rfl
  . intro j t ht
    rcases getElem?_snoc ht with q | ⟨rfl, rfl⟩
    . exact (h.il j t q).past h.i (by decide) h.blk (by decide) r3
    . exact hs.past h.i (by decide) h.blk (by decide) r3
  . exact fun j t ht => (h.fl j t ht).past h.i (by decide) h.blk (by decide) r3
  . exact fun j t ht => (h.rl j t ht).past h.i (by decide) h.blk (by decide) r3
  . exact fun j t ht => (h.gl j t ht).past h.i (by decide) h.blk (by decide) r3
  . exact fun j t ht => (h.el j t ht).past h.i (by decide) h.blk (by decide) r3
def KeptI (w : World) (ob : Nat) (V : OV) (IS FS RS GS ES : List Sli) (v : Value) (e : Ending) (w' : World) : Prop :=
  e = .returned (.tuple #[]) /\ ∃ (s : Sli) (x : Value), s.v.ownBlock = v.ownBlock /\ OwnI w' ob { V with iv := x } (IS ++ [s]) FS RS GS ES /\ Frm (fun k => k = ob \/ V.iv.ownBlock = some k \/ v.ownBlock = some k) w w' /\ (x.ownBlock = V.iv.ownBlock \/ ∀ g, x.ownBlock = some g -> w.heap.size <= g)
set_option maxHeartbeats 6400000 in
theorem keepI_any {l : List _} (h : OwnI w ob V IS FS RS GS ES) (hv : OwnR rI 3 w v l) (hd : ∀ s ∈ IS, ∀ g, s.v.ownBlock = some g -> v.ownBlock ≠ some g) (hl : IS.length <= 1900000000000) :
    Calls Tryz.prog 60 #[.pointer (some ⟨ob, 0, none⟩), v] w fun e w' => KeptI w ob V IS FS RS GS ES v e w' := by
  obtain ⟨a0, k0, hiv⟩ := h.i.slice
  have c0 : w.cell? ⟨ob, 0, none⟩ = some (.slice a0 IS.length k0) := by rw [h.cells 0, <- hiv]; rfl
  have hob := blk_lt h.blk
  obtain ⟨N, hN⟩ : ∃ N, IS.length = N := ⟨_, rfl⟩
  rw [hN] at c0 hl
  rcases hv with ⟨rfl, rfl⟩ | ⟨g, off, cap, cur, rfl, hh, h1, h2, h3, h4⟩
  . obtain ⟨x, w3, r1, r2, r3, r4⟩ := ap27 (h.i.on ((Below.refl _ _).alloc (Nat.le_refl _) (.cells #[.slice none 0 0] 60))) (at_new rSli 60 w ⟨none, 0, 0⟩ #[.slice none 0 0] rfl) (by simp; omega)
    obtain ⟨xa, xn, xc, rfl⟩ := r2.slc
    have hb3 := blk_past (c := V.a) h.i (by decide) h.blk r3
    have c3 : w3.cell? ⟨ob, 0, none⟩ = V.a[0]? := blk_cells hb3 0
    have c4 : w3.cell? ⟨ob, 0, none⟩ = some (.slice a0 N k0) := by rw [c3, <- hN, <- hiv]; rfl
    have fz := frz_blk hb3 0
    have HH : Hid (KeptI w ob V IS FS RS GS ES (.slice none 0 0) (.returned (.tuple #[])) (w3.setCell ⟨ob, 0, none⟩ (.slice xa xn xc))) := by
      refine ⟨rfl, ⟨none, 0, 0⟩, _, rfl, h.addI r2 r3 (Or.inl ⟨rfl, rfl⟩), ((grown_frm (Below.refl _ _) r3).mono fun _ _ q => Or.inr (Or.inl q)).setCell _ (fun _ => Or.inl rfl), ?_⟩
      rcases r4 with r4 | r4
      . exact Or.inl r4
      . exact Or.inr fun g hg => by have q1 := r4 g hg; simp at q1; omega
    rw [hiv, hN] at r1
    clear r2 r3 r4 hb3 c3 h hd hiv hN
    go_enter Tryz.func60, Tryz.ntmps60
    go_wp2_with fail
    go_loopw [5] (fun i wr => i = .int .i64 0 /\ wr = w) (fun _ _ => 0)
    case atStart => exact ⟨rfl, rfl⟩
    case round =>
      obtain ⟨rfl, rfl⟩ := hrel
      go_wp2_with (first | refine wlV _ _ (bsS27 none 0 0 _ _ _ rfl rfl _) rfl ?_ | (at_builtin; refine wlR 27 r1 rfl _ _ rfl rfl rfl rfl ?_))
      exact bodyPost_end (results_none Tryz.results60 _ _ _) rfl (unhide HH)
  . have hv : OwnR rI 3 w (.slice (some ⟨g, off, none⟩) l.length cap) l := Or.inr ⟨g, off, cap, cur, rfl, hh, h1, h2, h3, h4⟩
    have hgl := blk_lt hh
    have hgo : ob ≠ g := (blk_ne h.blk hh (by decide))
    have HF0 := hide (Fil.zero (x := owI N) hv)
    have HV := hide hv
    have HI := hide h
    have HD := hide hd
    have hlc : (l.length : Int) <= cap := by omega
    have h2' : (cap : Int) <= 9223372036854775807 := by unfold maxLen at h2; omega
    have HM := hide h2
    have HIV := hide hiv
    have HN := hide hN
    clear hv hh h3 h4 h hd h2 hiv hN
    go_enter Tryz.func60, Tryz.ntmps60
    go_wp2_with fail
    go_loopw [5] (fun i wr => ∃ k : Nat, k <= cap /\ i = .int .i64 k /\ Hid (Fil rI 3 wr g off cap k (owI N)) /\ Hid (w.grownBy wr (some g))) (fun i _ => cap - (intOf i).toNat)
    case atStart => exact ⟨0, by omega, rfl, HF0, hide (World.grownBy.refl _ _)⟩
    case round =>
      obtain ⟨k, hk, rfl, hF, hG⟩ := hrel
      have r0 : wr.cell? ⟨ob, 0, none⟩ = some (.slice a0 N k0) := by
        rw [World.cell?_of_block (a := ⟨ob, 0, none⟩) ((unhide hG).block ob hob (fun q => by cases q; exact hgo rfl))]; exact c0
      by_cases hlk : k < cap
      . have hkn : (k : Int) < cap := by omega
        have OW := hide (fun W => own_any N W (by omega))
        have HS := (unhide hF).step hlk
        have HG2 : Hid (w.grownBy (wr.setCells g (off + k * 1) (rI.enc (owI N))) (some g)) := ⟨HS.2.os.trans (unhide hG).os, HS.2.tape.trans (unhide hG).tape, HS.2.output.trans (unhide hG).output, Nat.le_trans (unhide hG).size HS.2.size, fun q hq hne => (HS.2.block q (Nat.lt_of_lt_of_le hq (unhide hG).size) hne).trans ((unhide hG).block q hq hne)⟩
        have HF2 : Hid (Fil rI 3 (wr.setCells g (off + k * 1) (rI.enc (owI N))) g off cap (k + 1) (owI N)) := HS.1
        have hth : wr.there g (off + k * 1) 1 := (unhide hF).there hlk
        obtain ⟨u, hu⟩ : ∃ u, wr.cell? ⟨g, off + k, none⟩ = some u := by
          have := (hth 0 (by omega)).1
          rw [Nat.mul_one, Nat.add_zero] at this
          exact Option.isSome_iff_exists.1 this
        have fz : wr.frozen? ⟨g, off + k, none⟩ = false := by
          have := (hth 0 (by omega)).2
          rwa [Nat.mul_one, Nat.add_zero] at this
        rw [Nat.mul_one] at HG2 HF2
        clear HS hth
        go_wp2_with fail
        refine (unhide OW _).mono ?_
        rintro e w5 ⟨rfl, rfl⟩
        go_wp2_with fail
        go_roundw
        case rel => exact ⟨k + 1, by omega, by go_num, HF2, HG2⟩
        case measure => simp [intOf]; omega
      . have hkn : k = cap := by omega
        subst hkn
        have hFr : Frm (fun q => (Value.slice (some ⟨g, off, none⟩) l.length k).ownBlock = some q) w wr := (Frm.rfl' _ w).grown (unhide hG) fun q hq _ => by cases hq; rfl
        have h1 := (unhide HI).fillI (unhide HV) hFr (unhide HD)
        have hsN : OwnR rI 3 wr (Sli.v ⟨some ⟨g, off, none⟩, k, k⟩) (List.replicate k (owI N)) := (unhide hF).own (unhide HM)
        obtain ⟨x, w3, r1, r2, r3, r4⟩ := ap27 (h1.i.on ((Below.refl _ _).alloc (Nat.le_refl _) (.cells #[.slice (some ⟨g, off, none⟩) k k] 60))) (at_new rSli 60 wr ⟨some ⟨g, off, none⟩, k, k⟩ #[.slice (some ⟨g, off, none⟩) k k] rfl) (by have := unhide HN; simp; omega)
        obtain ⟨xa, xn, xc, rfl⟩ := r2.slc
        have hb3 := blk_past (c := V.a) h1.i (by decide) h1.blk r3
        have c3 : w3.cell? ⟨ob, 0, none⟩ = V.a[0]? := blk_cells hb3 0
        have c4 : w3.cell? ⟨ob, 0, none⟩ = some (.slice a0 N k0) := by rw [c3, <- unhide HN, <- unhide HIV]; rfl
        have fz := frz_blk hb3 0
        have hsz := (unhide hG).size
        have HH : Hid (KeptI w ob V IS FS RS GS ES (.slice (some ⟨g, off, none⟩) l.length k) (.returned (.tuple #[])) (w3.setCell ⟨ob, 0, none⟩ (.slice xa xn xc))) := by
          refine ⟨rfl, ⟨some ⟨g, off, none⟩, k, k⟩, _, rfl, h1.addI r2 r3 (by rw [unhide HN]; exact hsN), ((hFr.mono fun _ _ q => Or.inr (Or.inr q)).then (grown_frm (Below.refl _ _) r3) fun _ _ q => Or.inr (Or.inl q)).setCell _ (fun _ => Or.inl rfl), ?_⟩
          rcases r4 with r4 | r4
          . exact Or.inl r4
          . exact Or.inr fun g hg => by have q1 := r4 g hg; simp at q1; omega
        rw [unhide HIV, unhide HN] at r1
        clear r2 r3 r4 hb3 c3 h1 hFr hsN
        go_wp2_with (first | refine wlV _ _ (bsS27 (some ⟨g, off, none⟩) k k _ _ _ rfl rfl _) rfl ?_ | (at_builtin; refine wlR 27 r1 rfl _ _ rfl rfl rfl rfl ?_))
        exact bodyPost_end (results_none Tryz.results60 _ _ _) rfl (unhide HH)
end
section
variable {w w1 w3 : World} {ob : Nat} {V : OV} {IS FS RS GS ES : List Sli} {v : Value}
theorem OwnI.fillF {l : List _} (h : OwnI w ob V IS FS RS GS ES) (hv : OwnR rF 66 w v l) (hF : Frm (fun k => v.ownBlock = some k) w w1) (hd : ∀ s ∈ FS, ∀ g, s.v.ownBlock = some g -> v.ownBlock ≠ some g) : OwnI w1 ob V IS FS RS GS ES := by
  have ne : ∀ {c : Array Value} {U : TypeId} {k : Nat}, w.heap[k]? = some (.cells c U (0, 0)) -> U ≠ 66 -> ¬ v.ownBlock = some k := fun e hU q => by
    obtain ⟨c2, e2⟩ := hv.ty q
    exact blk_ne e e2 hU rfl
  refine h.frm hF fun k hk => ?_
  rcases hk with rfl | q | q | q | q | q | ⟨s, hs, q⟩
  . exact ne h.blk (by decide)
  . obtain ⟨c, e⟩ := h.i.ty q; exact ne e (by decide)
  . obtain ⟨c, e⟩ := h.f.ty q; exact ne e (by decide)
  . obtain ⟨c, e⟩ := h.r.ty q; exact ne e (by decide)
  . obtain ⟨c, e⟩ := h.g.ty q; exact ne e (by decide)
  . obtain ⟨c, e⟩ := h.e.ty q; exact ne e (by decide)
  . rcases hs with hs | hs | hs | hs | hs
    . obtain ⟨j, hj⟩ := List.mem_iff_getElem?.1 hs; obtain ⟨c, e⟩ := (h.il j s hj).ty q; exact ne e (by decide)
    . exact hd s hs k q
    . obtain ⟨j, hj⟩ := List.mem_iff_getElem?.1 hs; obtain ⟨c, e⟩ := (h.rl j s hj).ty q; exact ne e (by decide)
    . obtain ⟨j, hj⟩ := List.mem_iff_getElem?.1 hs; obtain ⟨c, e⟩ := (h.gl j s hj).ty q; exact ne e (by decide)
    . obtain ⟨j, hj⟩ := List.mem_iff_getElem?.1 hs; obtain ⟨c, e⟩ := (h.el j s hj).ty q; exact ne e (by decide)
theorem OwnI.addF {s : Sli} {x : Value} {o : Obj} (h : OwnI w ob V IS FS RS GS ES) (r2 : OwnR rSli 62 w3 x (FS ++ [s])) (r3 : (w.alloc o).grownBy w3 V.fv.ownBlock) (hs : OwnR rF 66 w s.v (List.replicate s.n (owF FS.length))) :
    OwnI (w3.setCell ⟨ob, 1, none⟩ x) ob { V with fv := x } IS (FS ++ [s]) RS GS ES := by
  have hb := blk_past (c := V.a) h.f (by decide) h.blk r3
  refine ⟨?_, h.i.past h.f (by decide) h.blk (by decide) r3, r2.same fun g hg => Below.heap_setCell _ _ _ _ (by obtain ⟨c1, e1⟩ := r2.ty hg; exact blk_ne e1 hb (by decide)), h.r.past h.f (by decide) h.blk (by decide) r3, h.g.past h.f (by decide) h.blk (by decide) r3, h.e.past h.f (by decide) h.blk (by decide) r3, ?_, ?_, ?_, ?_, ?_⟩
  . show (w3.setCell ⟨ob, 1, none⟩ x).heap[ob]? = _
    simp [World.setCell, Array.getElem?_modify, hb]
    rfl
  . exact fun j t ht => (h.il j t ht).past h.f (by decide) h.blk (by decide) r3
  . intro j t ht
    rcases getElem?_snoc ht with q | ⟨rfl, rfl⟩
    . exact (h.fl j t q).past h.f (by decide) h.blk (by decide) r3
    . exact hs.past h.f (by decide) h.blk (by decide) r3
  . exact fun j t ht => (h.rl j t ht).past h.f (by decide) h.blk (by decide) r3
  . exact fun j t ht => (h.gl j t ht).past h.f (by decide) h.blk (by decide) r3
  . exact fun j t ht => (h.el j t ht).past h.f (by decide) h.blk (by decide) r3
def KeptF (w : World) (ob : Nat) (V : OV) (IS FS RS GS ES : List Sli) (v : Value) (e : Ending) (w' : World) : Prop :=
  e = .returned (.tuple #[]) /\ ∃ (s : Sli) (x : Value), s.v.ownBlock = v.ownBlock /\ OwnI w' ob { V with fv := x } IS (FS ++ [s]) RS GS ES /\ Frm (fun k => k = ob \/ V.fv.ownBlock = some k \/ v.ownBlock = some k) w w' /\ (x.ownBlock = V.fv.ownBlock \/ ∀ g, x.ownBlock = some g -> w.heap.size <= g)
set_option maxHeartbeats 6400000 in
theorem keepF_any {l : List _} (h : OwnI w ob V IS FS RS GS ES) (hv : OwnR rF 66 w v l) (hd : ∀ s ∈ FS, ∀ g, s.v.ownBlock = some g -> v.ownBlock ≠ some g) (hl : FS.length <= 1000000000000) :
    Calls Tryz.prog 37 #[.pointer (some ⟨ob, 0, none⟩), v] w fun e w' => KeptF w ob V IS FS RS GS ES v e w' := by
  obtain ⟨a0, k0, hiv⟩ := h.f.slice
  have c0 : w.cell? ⟨ob, 1, none⟩ = some (.slice a0 FS.length k0) := by rw [h.cells 1, <- hiv]; rfl
  have hob := blk_lt h.blk
  obtain ⟨N, hN⟩ : ∃ N, FS.length = N := ⟨_, rfl⟩
  rw [hN] at c0 hl
  rcases hv with ⟨rfl, rfl⟩ | ⟨g, off, cap, cur, rfl, hh, h1, h2, h3, h4⟩
  . obtain ⟨x, w3, r1, r2, r3, r4⟩ := ap28 (h.f.on ((Below.refl _ _).alloc (Nat.le_refl _) (.cells #[.slice none 0 0] 62))) (at_new rSli 62 w ⟨none, 0, 0⟩ #[.slice none 0 0] rfl) (by simp; omega)
    obtain ⟨xa, xn, xc, rfl⟩ := r2.slc
    have hb3 := blk_past (c := V.a) h.f (by decide) h.blk r3
    have c3 : w3.cell? ⟨ob, 1, none⟩ = V.a[1]? := blk_cells hb3 1
    have c4 : w3.cell? ⟨ob, 1, none⟩ = some (.slice a0 N k0) := by rw [c3, <- hN, <- hiv]; rfl
    have fz := frz_blk hb3 1
    have HH : Hid (KeptF w ob V IS FS RS GS ES (.slice none 0 0) (.returned (.tuple #[])) (w3.setCell ⟨ob, 1, none⟩ (.slice xa xn xc))) := by
      refine ⟨rfl, ⟨none, 0, 0⟩, _, rfl, h.addF r2 r3 (Or.inl ⟨rfl, rfl⟩), ((grown_frm (Below.refl _ _) r3).mono fun _ _ q => Or.inr (Or.inl q)).setCell _ (fun _ => Or.inl rfl), ?_⟩
      rcases r4 with r4 | r4
      . exact Or.inl r4
      . exact Or.inr fun g hg => by have q1 := r4 g hg; simp at q1; omega
    rw [hiv, hN] at r1
    clear r2 r3 r4 hb3 c3 h hd hiv hN
    go_enter Tryz.func37, Tryz.ntmps37
    go_wp2_with fail
    go_loopw [5] (fun i wr => i = .int .i64 0 /\ wr = w) (fun _ _ => 0)
    case atStart => exact ⟨rfl, rfl⟩
    case round =>
      obtain ⟨rfl, rfl⟩ := hrel
      go_wp2_with (first | refine wlV _ _ (bsS28 none 0 0 _ _ _ rfl rfl _) rfl ?_ | (at_builtin; refine wlR 28 r1 rfl _ _ rfl rfl rfl rfl ?_))
      exact bodyPost_end (results_none Tryz.results37 _ _ _) rfl (unhide HH)
  . have hv : OwnR rF 66 w (.slice (some ⟨g, off, none⟩) l.length cap) l := Or.inr ⟨g, off, cap, cur, rfl, hh, h1, h2, h3, h4⟩
    have hgl := blk_lt hh
    have hgo : ob ≠ g := (blk_ne h.blk hh (by decide))
    have HF0 := hide (Fil.zero (x := owF N) hv)
    have HV := hide hv
    have HI := hide h
    have HD := hide hd
    have hlc : (l.length : Int) <= cap := by omega
    have h2' : (cap : Int) <= 9223372036854775807 := by unfold maxLen at h2; omega
    have HM := hide h2
    have HIV := hide hiv
    have HN := hide hN
    clear hv hh h3 h4 h hd h2 hiv hN
    go_enter Tryz.func37, Tryz.ntmps37
    go_wp2_with fail
    go_loopw [5] (fun i wr => ∃ k : Nat, k <= cap /\ i = .int .i64 k /\ Hid (Fil rF 66 wr g off cap k (owF N)) /\ Hid (w.grownBy wr (some g))) (fun i _ => cap - (intOf i).toNat)
    case atStart => exact ⟨0, by omega, rfl, HF0, hide (World.grownBy.refl _ _)⟩
    case round =>
      obtain ⟨k, hk, rfl, hF, hG⟩ := hrel
      have r0 : wr.cell? ⟨ob, 1, none⟩ = some (.slice a0 N k0) := by
        rw [World.cell?_of_block (a := ⟨ob, 1, none⟩) ((unhide hG).block ob hob (fun q => by cases q; exact hgo rfl))]; exact c0
      by_cases hlk : k < cap
      . have hkn : (k : Int) < cap := by omega
        have OW := hide (fun W => own_any N W (by omega))
        have HS := (unhide hF).step hlk
        have HG2 : Hid (w.grownBy (wr.setCells g (off + k * 24) (rF.enc (owF N))) (some g)) := ⟨HS.2.os.trans (unhide hG).os, HS.2.tape.trans (unhide hG).tape, HS.2.output.trans (unhide hG).output, Nat.le_trans (unhide hG).size HS.2.size, fun q hq hne => (HS.2.block q (Nat.lt_of_lt_of_le hq (unhide hG).size) hne).trans ((unhide hG).block q hq hne)⟩
        have HF2 : Hid (Fil rF 66 (wr.setCells g (off + k * 24) (rF.enc (owF N))) g off cap (k + 1) (owF N)) := HS.1
        have hth : wr.there g (off + k * 24) 24 := (unhide hF).there hlk
        clear HS
        go_wp2_with fail
        refine (unhide OW _).mono ?_
        rintro e w5 ⟨rfl, rfl⟩
        go_wp2_with (first | refine wlV _ _ (run_bF N _ _ _ rfl rfl _) rfl ?_ | refine wpList_store_mid rfl 66 _ _ rfl g (off + k * 24) (fc (owF N)) rfl rfl (by rw [fc_size]; exact hth) (szf _) (fc_one _) ?_)
        go_roundw
        case rel => exact ⟨k + 1, by omega, by go_num, HF2, HG2⟩
        case measure => simp [intOf]; omega
      . have hkn : k = cap := by omega
        subst hkn
        have hFr : Frm (fun q => (Value.slice (some ⟨g, off, none⟩) l.length k).ownBlock = some q) w wr := (Frm.rfl' _ w).grown (unhide hG) fun q hq _ => by cases hq; rfl
        have h1 := (unhide HI).fillF (unhide HV) hFr (unhide HD)
        have hsN : OwnR rF 66 wr (Sli.v ⟨some ⟨g, off, none⟩, k, k⟩) (List.replicate k (owF N)) := (unhide hF).own (unhide HM)
        obtain ⟨x, w3, r1, r2, r3, r4⟩ := ap28 (h1.f.on ((Below.refl _ _).alloc (Nat.le_refl _) (.cells #[.slice (some ⟨g, off, none⟩) k k] 62))) (at_new rSli 62 wr ⟨some ⟨g, off, none⟩, k, k⟩ #[.slice (some ⟨g, off, none⟩) k k] rfl) (by have := unhide HN; simp; omega)
        obtain ⟨xa, xn, xc, rfl⟩ := r2.slc
        have hb3 := blk_past (c := V.a) h1.f (by decide) h1.blk r3
        have c3 : w3.cell? ⟨ob, 1, none⟩ = V.a[1]? := blk_cells hb3 1
        have c4 : w3.cell? ⟨ob, 1, none⟩ = some (.slice a0 N k0) := by rw [c3, <- unhide HN, <- unhide HIV]; rfl
        have fz := frz_blk hb3 1
        have hsz := (unhide hG).size
        have HH : Hid (KeptF w ob V IS FS RS GS ES (.slice (some ⟨g, off, none⟩) l.length k) (.returned (.tuple #[])) (w3.setCell ⟨ob, 1, none⟩ (.slice xa xn xc))) := by
          refine ⟨rfl, ⟨some ⟨g, off, none⟩, k, k⟩, _, rfl, h1.addF r2 r3 (by rw [unhide HN]; exact hsN), ((hFr.mono fun _ _ q => Or.inr (Or.inr q)).then (grown_frm (Below.refl _ _) r3) fun _ _ q => Or.inr (Or.inl q)).setCell _ (fun _ => Or.inl rfl), ?_⟩
          rcases r4 with r4 | r4
          . exact Or.inl r4
          . exact Or.inr fun g hg => by have q1 := r4 g hg; simp at q1; omega
        rw [unhide HIV, unhide HN] at r1
        clear r2 r3 r4 hb3 c3 h1 hFr hsN
        go_wp2_with (first | refine wlV _ _ (bsS28 (some ⟨g, off, none⟩) k k _ _ _ rfl rfl _) rfl ?_ | (at_builtin; refine wlR 28 r1 rfl _ _ rfl rfl rfl rfl ?_))
        exact bodyPost_end (results_none Tryz.results37 _ _ _) rfl (unhide HH)
theorem OwnI.fillE {l : List _} (h : OwnI w ob V IS FS RS GS ES) (hv : OwnR rE 100 w v l) (hF : Frm (fun k => v.ownBlock = some k) w w1) (hd : ∀ s ∈ ES, ∀ g, s.v.ownBlock = some g -> v.ownBlock ≠ some g) : OwnI w1 ob V IS FS RS GS ES := by
  have ne : ∀ {c : Array Value} {U : TypeId} {k : Nat}, w.heap[k]? = some (.cells c U (0, 0)) -> U ≠ 100 -> ¬ v.ownBlock = some k := fun e hU q => by
    obtain ⟨c2, e2⟩ := hv.ty q
    exact blk_ne e e2 hU rfl
  refine h.frm hF fun k hk => ?_
  rcases hk with rfl | q | q | q | q | q | ⟨s, hs, q⟩
  . exact ne h.blk (by decide)
  . obtain ⟨c, e⟩ := h.i.ty q; exact ne e (by decide)
  . obtain ⟨c, e⟩ := h.f.ty q; exact ne e (by decide)
  . obtain ⟨c, e⟩ := h.r.ty q; exact ne e (by decide)
  . obtain ⟨c, e⟩ := h.g.ty q; exact ne e (by decide)
  . obtain ⟨c, e⟩ := h.e.ty q; exact ne e (by decide)
  . rcases hs with hs | hs | hs | hs | hs
    . obtain ⟨j, hj⟩ := List.mem_iff_getElem?.1 hs; obtain ⟨c, e⟩ := (h.il j s hj).ty q; exact ne e (by decide)
    . obtain ⟨j, hj⟩ := List.mem_iff_getElem?.1 hs; obtain ⟨c, e⟩ := (h.fl j s hj).ty q; exact ne e (by decide)
    . obtain ⟨j, hj⟩ := List.mem_iff_getElem?.1 hs; obtain ⟨c, e⟩ := (h.rl j s hj).ty q; exact ne e (by decide)
    . obtain ⟨j, hj⟩ := List.mem_iff_getElem?.1 hs; obtain ⟨c, e⟩ := (h.gl j s hj).ty q; exact ne e (by decide)
    . exact hd s hs k q
theorem OwnI.addE {s : Sli} {x : Value} {o : Obj} (h : OwnI w ob V IS FS RS GS ES) (r2 : OwnR rSli 40 w3 x (ES ++ [s])) (r3 : (w.alloc o).grownBy w3 V.ev.ownBlock) (hs : OwnR rE 100 w s.v (List.replicate s.n (owE ES.length))) :
    OwnI (w3.setCell ⟨ob, 4, none⟩ x) ob { V with ev := x } IS FS RS GS (ES ++ [s]) := by
  have hb := blk_past (c := V.a) h.e (by decide) h.blk r3
  refine ⟨?_, h.i.past h.e (by decide) h.blk (by decide) r3, h.f.past h.e (by decide) h.blk (by decide) r3, h.r.past h.e (by decide) h.blk (by decide) r3, h.g.past h.e (by decide) h.blk (by decide) r3, r2.same fun g hg => Below.heap_setCell _ _ _ _ (by obtain ⟨c1, e1⟩ := r2.ty hg; exact blk_ne e1 hb (by decide)), ?_, ?_, ?_, ?_, ?_⟩
  . show (w3.setCell ⟨ob, 4, none⟩ x).heap[ob]? = _
    simp [World.setCell, Array.getElem?_modify, hb]
    rfl
  . exact fun j t ht => (h.il j t ht).past h.e (by decide) h.blk (by decide) r3
  . exact fun j t ht => (h.fl j t ht).past h.e (by decide) h.blk (by decide) r3
  . exact fun j t ht => (h.rl j t ht).past h.e (by decide) h.blk (by decide) r3
  . exact fun j t ht => (h.gl j t ht).past h.e (by decide) h.blk (by decide) r3
  . intro j t ht
    rcases getElem?_snoc ht with q | ⟨rfl, rfl⟩
    . exact (h.el j t q).past h.e (by decide) h.blk (by decide) r3
    . exact hs.past h.e (by decide) h.blk (by decide) r3
def KeptE (w : World) (ob : Nat) (V : OV) (IS FS RS GS ES : List Sli) (v : Value) (e : Ending) (w' : World) : Prop :=
  e = .returned (.tuple #[]) /\ ∃ (s : Sli) (x : Value), s.v.ownBlock = v.ownBlock /\ OwnI w' ob { V with ev := x } IS FS RS GS (ES ++ [s]) /\ Frm (fun k => k = ob \/ V.ev.ownBlock = some k \/ v.ownBlock = some k) w w' /\ (x.ownBlock = V.ev.ownBlock \/ ∀ g, x.ownBlock = some g -> w.heap.size <= g)
set_option maxHeartbeats 6400000 in
theorem keepE_any {l : List _} (h : OwnI w ob V IS FS RS GS ES) (hv : OwnR rE 100 w v l) (hd : ∀ s ∈ ES, ∀ g, s.v.ownBlock = some g -> v.ownBlock ≠ some g) (hl : ES.length <= 1000000000000) :
    Calls Tryz.prog 29 #[.pointer (some ⟨ob, 0, none⟩), v] w fun e w' => KeptE w ob V IS FS RS GS ES v e w' := by
  obtain ⟨a0, k0, hiv⟩ := h.e.slice
  have c0 : w.cell? ⟨ob, 4, none⟩ = some (.slice a0 ES.length k0) := by rw [h.cells 4, <- hiv]; rfl
  have hob := blk_lt h.blk
  obtain ⟨N, hN⟩ : ∃ N, ES.length = N := ⟨_, rfl⟩
  rw [hN] at c0 hl
  rcases hv with ⟨rfl, rfl⟩ | ⟨g, off, cap, cur, rfl, hh, h1, h2, h3, h4⟩
  . obtain ⟨x, w3, r1, r2, r3, r4⟩ := ap31 (h.e.on ((Below.refl _ _).alloc (Nat.le_refl _) (.cells #[.slice none 0 0] 40))) (at_new rSli 40 w ⟨none, 0, 0⟩ #[.slice none 0 0] rfl) (by simp; omega)
    obtain ⟨xa, xn, xc, rfl⟩ := r2.slc
    have hb3 := blk_past (c := V.a) h.e (by decide) h.blk r3
    have c3 : w3.cell? ⟨ob, 4, none⟩ = V.a[4]? := blk_cells hb3 4
    have c4 : w3.cell? ⟨ob, 4, none⟩ = some (.slice a0 N k0) := by rw [c3, <- hN, <- hiv]; rfl
    have fz := frz_blk hb3 4
    have HH : Hid (KeptE w ob V IS FS RS GS ES (.slice none 0 0) (.returned (.tuple #[])) (w3.setCell ⟨ob, 4, none⟩ (.slice xa xn xc))) := by
      refine ⟨rfl, ⟨none, 0, 0⟩, _, rfl, h.addE r2 r3 (Or.inl ⟨rfl, rfl⟩), ((grown_frm (Below.refl _ _) r3).mono fun _ _ q => Or.inr (Or.inl q)).setCell _ (fun _ => Or.inl rfl), ?_⟩
      rcases r4 with r4 | r4
      . exact Or.inl r4
      . exact Or.inr fun g hg => by have q1 := r4 g hg; simp at q1; omega
    rw [hiv, hN] at r1
    clear r2 r3 r4 hb3 c3 h hd hiv hN
    go_enter Tryz.func29, Tryz.ntmps29
    go_wp2_with fail
    go_loopw [5] (fun i wr => i = .int .i64 0 /\ wr = w) (fun _ _ => 0)
    case atStart => exact ⟨rfl, rfl⟩
    case round =>
      obtain ⟨rfl, rfl⟩ := hrel
      go_wp2_with (first | refine wlV _ _ (bsS31 none 0 0 _ _ _ rfl rfl _) rfl ?_ | (at_builtin; refine wlR 31 r1 rfl _ _ rfl rfl rfl rfl ?_))
      exact bodyPost_end (results_none Tryz.results29 _ _ _) rfl (unhide HH)
  . have hv : OwnR rE 100 w (.slice (some ⟨g, off, none⟩) l.length cap) l := Or.inr ⟨g, off, cap, cur, rfl, hh, h1, h2, h3, h4⟩
    have hgl := blk_lt hh
    have hgo : ob ≠ g := (blk_ne h.blk hh (by decide))
    have HF0 := hide (Fil.zero (x := owE N) hv)
    have HV := hide hv
    have HI := hide h
    have HD := hide hd
    have hlc : (l.length : Int) <= cap := by omega
    have h2' : (cap : Int) <= 9223372036854775807 := by unfold maxLen at h2; omega
    have HM := hide h2
    have HIV := hide hiv
    have HN := hide hN
    clear hv hh h3 h4 h hd h2 hiv hN
    go_enter Tryz.func29, Tryz.ntmps29
    go_wp2_with fail
    go_loopw [5] (fun i wr => ∃ k : Nat, k <= cap /\ i = .int .i64 k /\ Hid (Fil rE 100 wr g off cap k (owE N)) /\ Hid (w.grownBy wr (some g))) (fun i _ => cap - (intOf i).toNat)
    case atStart => exact ⟨0, by omega, rfl, HF0, hide (World.grownBy.refl _ _)⟩
    case round =>
      obtain ⟨k, hk, rfl, hF, hG⟩ := hrel
      have r0 : wr.cell? ⟨ob, 4, none⟩ = some (.slice a0 N k0) := by
        rw [World.cell?_of_block (a := ⟨ob, 4, none⟩) ((unhide hG).block ob hob (fun q => by cases q; exact hgo rfl))]; exact c0
      by_cases hlk : k < cap
      . have hkn : (k : Int) < cap := by omega
        have OW := hide (fun W => own_any N W (by omega))
        have HS := (unhide hF).step hlk
        have HG2 : Hid (w.grownBy (wr.setCells g (off + k * 25) (rE.enc (owE N))) (some g)) := ⟨HS.2.os.trans (unhide hG).os, HS.2.tape.trans (unhide hG).tape, HS.2.output.trans (unhide hG).output, Nat.le_trans (unhide hG).size HS.2.size, fun q hq hne => (HS.2.block q (Nat.lt_of_lt_of_le hq (unhide hG).size) hne).trans ((unhide hG).block q hq hne)⟩
        have HF2 : Hid (Fil rE 100 (wr.setCells g (off + k * 25) (rE.enc (owE N))) g off cap (k + 1) (owE N)) := HS.1
        have hth : wr.there g (off + k * 25) 25 := (unhide hF).there hlk
        clear HS
        go_wp2_with fail
        refine (unhide OW _).mono ?_
        rintro e w5 ⟨rfl, rfl⟩
        go_wp2_with (first | refine wlV _ _ (run_bE N _ _ _ rfl rfl _) rfl ?_ | refine wpList_store_mid rfl 100 _ _ rfl g (off + k * 25) (cc 25 (owE N)) rfl rfl (by rw [cc_size]; exact hth) (sz56 _) (cc_one 25 _) ?_)
        go_roundw
        case rel => exact ⟨k + 1, by omega, by go_num, HF2, HG2⟩
        case measure => simp [intOf]; omega
      . have hkn : k = cap := by omega
        subst hkn
        have hFr : Frm (fun q => (Value.slice (some ⟨g, off, none⟩) l.length k).ownBlock = some q) w wr := (Frm.rfl' _ w).grown (unhide hG) fun q hq _ => by cases hq; rfl
        have h1 := (unhide HI).fillE (unhide HV) hFr (unhide HD)
        have hsN : OwnR rE 100 wr (Sli.v ⟨some ⟨g, off, none⟩, k, k⟩) (List.replicate k (owE N)) := (unhide hF).own (unhide HM)
        obtain ⟨x, w3, r1, r2, r3, r4⟩ := ap31 (h1.e.on ((Below.refl _ _).alloc (Nat.le_refl _) (.cells #[.slice (some ⟨g, off, none⟩) k k] 40))) (at_new rSli 40 wr ⟨some ⟨g, off, none⟩, k, k⟩ #[.slice (some ⟨g, off, none⟩) k k] rfl) (by have := unhide HN; simp; omega)
        obtain ⟨xa, xn, xc, rfl⟩ := r2.slc
        have hb3 := blk_past (c := V.a) h1.e (by decide) h1.blk r3
        have c3 : w3.cell? ⟨ob, 4, none⟩ = V.a[4]? := blk_cells hb3 4
        have c4 : w3.cell? ⟨ob, 4, none⟩ = some (.slice a0 N k0) := by rw [c3, <- unhide HN, <- unhide HIV]; rfl
        have fz := frz_blk hb3 4
        have hsz := (unhide hG).size
        have HH : Hid (KeptE w ob V IS FS RS GS ES (.slice (some ⟨g, off, none⟩) l.length k) (.returned (.tuple #[])) (w3.setCell ⟨ob, 4, none⟩ (.slice xa xn xc))) := by
          refine ⟨rfl, ⟨some ⟨g, off, none⟩, k, k⟩, _, rfl, h1.addE r2 r3 (by rw [unhide HN]; exact hsN), ((hFr.mono fun _ _ q => Or.inr (Or.inr q)).then (grown_frm (Below.refl _ _) r3) fun _ _ q => Or.inr (Or.inl q)).setCell _ (fun _ => Or.inl rfl), ?_⟩
          rcases r4 with r4 | r4
          . exact Or.inl r4
          . exact Or.inr fun g hg => by have q1 := r4 g hg; simp at q1; omega
        rw [unhide HIV, unhide HN] at r1
        clear r2 r3 r4 hb3 c3 h1 hFr hsN
        go_wp2_with (first | refine wlV _ _ (bsS31 (some ⟨g, off, none⟩) k k _ _ _ rfl rfl _) rfl ?_ | (at_builtin; refine wlR 31 r1 rfl _ _ rfl rfl rfl rfl ?_))
        exact bodyPost_end (results_none Tryz.results29 _ _ _) rfl (unhide HH)
end
theorem inf100 : (Tryz.prog.info? 100).map (fun i => (i.zero, i.size, i.bytes)) = some (some (.agg (cc 25 zf)), 25, 200) := by kernel_rfl
theorem OwnC.toE {w : World} {B : Nat} {v : Value} {l : List (Nat -> Int)} (h : OwnC 100 25 w B v l) : OwnR rE 100 w v l := by
  obtain ⟨h1, h2⟩ := h
  rcases h2 with ⟨rfl, hn⟩ | ⟨g, cap, cur, rfl, _, hh, r1, r2, r3, r4⟩
  . exact Or.inl ⟨rfl, List.eq_nil_of_length_eq_zero hn⟩
  . exact Or.inr ⟨g, 0, cap, cur, rfl, hh, r1, r2, by rw [r3]; show 0 + cap * 25 <= cap * 25; omega, by rw [List.drop_zero]; exact r4⟩
theorem made_fl (n : Nat) : (madeCells (Value.agg (cc 25 zf)).cells (n * 25)).toList = fl 25 (List.replicate n zf) := by
  apply List.ext_getElem?
  intro k
  by_cases hk : k < n * 25
  . have h1 : k / 25 < n := (Nat.div_lt_iff_lt_mul (by omega)).2 hk
    have h2 : k % 25 < 25 := Nat.mod_lt _ (by omega)
    have e : k / 25 * 25 + k % 25 = k := Nat.div_add_mod' k 25
    have e2 : (fl 25 (List.replicate n zf))[k]? = some (.int .i64 0) := by
      rw [<- e, fl_at 25 _ _ _ (by rw [List.length_replicate]; exact h1) h2]
      have : gf (List.replicate n zf) (k / 25) = zf := by unfold gf; rw [List.getElem?_replicate, if_pos h1]; rfl
      rw [this]; rfl
    rw [e2]
    have hc : ((Value.agg (cc 25 zf)).cells)[k % 25]? = some (.int .i64 0) := cc_at 25 zf _ h2
    have hs : ((Value.agg (cc 25 zf)).cells).size = 25 := cc_size 25 zf
    unfold madeCells
    rw [Array.toList_map, List.getElem?_map, Array.toList_range, List.getElem?_range hk]
    simp only [Option.map_some, hs]
    rw [getElem!_def, hc]
  . rw [List.getElem?_eq_none (by rw [Array.length_toList, size_madeCells]; omega), List.getElem?_eq_none (by rw [fl_len, List.length_replicate]; omega)]
theorem run_mkE (w : World) (n : Nat) (hn : n <= 1300000000000) : ∃ w', (Instr.makeSlice 40 (.int .i64 (n : Int)) (.int .i64 (n : Int))).run Tryz.prog w = .ok (.slice (some ⟨w.heap.size, 0, none⟩) n n) w' /\ OwnC 100 25 w' w.heap.size (.slice (some ⟨w.heap.size, 0, none⟩) n n) (List.replicate n zf) /\ w.grownBy w' none := by
  obtain ⟨i, h1, h2, h3, h4⟩ := infoP inf100
  obtain ⟨w', r1, r2, r3⟩ := run_make_full (P := Tryz.prog) w w.heap.size 40 100 i _ 25 Tryz.underlying40 h1 h2 h3 .i64 .i64 n (by rw [h4]; omega) (by unfold maxLen; omega) (Nat.le_refl _)
  refine ⟨w', r1, ?_, r3⟩
  unfold OwnC
  rw [List.length_replicate, <- made_fl]
  exact r2
theorem fl_drop (m : Nat) (L : List (Nat -> Int)) (k : Nat) : (fl m L).drop (k * m) = fl m (L.drop k) := by
  induction L generalizing k with
  | nil => simp [fl]
  | cons a L ih =>
    cases k with
    | zero => simp
    | succ k =>
      rw [fl_cons, Nat.succ_mul, List.drop_succ_cons, Nat.add_comm, <- ih k, <- List.drop_drop, List.drop_left' (ccl_len m a)]
theorem run_cpE (w : World) (B g cap : Nat) (L l : List (Nat -> Int)) (hown : OwnC 100 25 w B (.slice (some ⟨g, 0, none⟩) L.length cap) L) (ad : Addr) (c : Nat) (hx : AtR rE w (.slice (some ad) l.length c) l) (hl : l.length <= L.length) :
    ∃ w', (∀ ty, (Builtin.copy_ #[40, 40] ty #[.slice (some ⟨g, 0, none⟩) L.length cap, .slice (some ad) l.length c]).run Tryz.prog w = .ok (.int .i64 (l.length : Nat)) w') /\ OwnC 100 25 w' B (.slice (some ⟨g, 0, none⟩) L.length cap) (l ++ L.drop l.length) /\ w.grownBy w' (some g) := by
  obtain ⟨i, h1, h2, h3, h4⟩ := infoP inf100
  obtain ⟨q1, q2⟩ := hown
  rcases q2 with ⟨e, _⟩ | ⟨g', cap', cur, e, hB, hh, r1, r2, r3, r4⟩
  . cases e
  . cases e
    have hsrc : ∀ j u, (fl 25 l)[j]? = some u -> w.cell? (ad.add j) = some u := by
      intro j u hj
      have hn : 0 < l.length := Nat.pos_of_ne_zero fun h0 => by rw [List.eq_nil_of_length_eq_zero h0] at hj; simp [fl] at hj
      have hx0 := hx
      obtain ⟨oa, c', e, _, _, hr⟩ := hx
      cases e
      obtain ⟨b, off, e, hb, _⟩ := hr hn
      cases e
      exact AtR.cells hx0 j u hj
    have hfit : 0 + (fl 25 l).length <= cur.size := by rw [fl_len, r3]; have := Nat.mul_le_mul_right 25 (Nat.le_trans hl r1); omega
    have hf := run_firstCells_some (P := Tryz.prog) w 25 l.length ad l.length c (fl 25 l) (by rw [fl_len]) hsrc
    have hst := run_storeCells_at Tryz.prog g 0 100 (fl 25 l) 0 cur w hh (by simpa using hfit) (fl_one 25 l)
    have hmin : Nat.min l.length L.length = l.length := Nat.min_eq_left hl
    refine ⟨w.setRow g (cur.toList.take (0 + 0) ++ fl 25 l ++ cur.toList.drop (0 + 0 + (fl 25 l).length)).toArray, fun ty => ?_, ⟨?_, Or.inr ⟨g, cap, _, ?_, hB, setRow_heap w g cur _ 100 _ hh, ?_, r2, ?_, ?_⟩⟩, ⟨rfl, rfl, rfl, by simp [World.setRow], fun k _ hk => Go.setRow_other w g k _ (fun e => hk (by rw [e]))⟩⟩
    . simp [Builtin.copy_, run_underlying Tryz.underlying40, Builtin.lenOf, sizeOf, typeInfo, h1, h3, hmin, hf, hst, goInt]
    . rw [fl_len]
    . rw [List.length_append, List.length_drop, show l.length + (L.length - l.length) = L.length by omega]
    . rw [List.length_append, List.length_drop]; omega
    . simp only [List.size_toArray, List.length_append, List.length_take, List.length_drop, Array.length_toList, fl_len, r3]
      have := Nat.mul_le_mul_right 25 (Nat.le_trans hl r1)
      omega
    . rw [List.length_append, List.length_drop, show l.length + (L.length - l.length) = L.length by omega, fl_app, <- fl_drop, <- r4]
      simp only [Nat.add_zero, List.take_zero, List.nil_append, fl_len]
      have hle : l.length * 25 <= L.length * 25 := Nat.mul_le_mul_right 25 hl
      rw [List.take_append, fl_len, List.take_of_length_le (by rw [fl_len]; exact hle), List.drop_take, Nat.zero_add]
section
variable {ops : Array Oper} {rest : List Oper} {o : Oper} {a : Act} {Q : Exit -> Act -> World -> Prop} {w w' : World} {v x' v' : Value}
theorem wlM (t : TypeId) (n : Int) (hr : (Instr.makeSlice t (.int .i64 n) (.int .i64 n)).run Tryz.prog w = .ok v' w') (hgd : o.guard = none) (l c : Operand) (ho : o.op = .makeSlice t l c) (hl : a.eval l = .int .i64 n) (hc : a.eval c = .int .i64 n)
    (h : wpList Tryz.prog ops Q rest (a.put o.dst v') w') : wpList Tryz.prog ops Q (o :: rest) a w :=
  wpList_plain hgd fun _ hK => by
    unfold Oper.wp
    simp [execOp, ho, hl, hc, hr, Result.andThen]
    exact hK _ _ h
theorem wlC (t : TypeId) (hr : ∀ ty, (Builtin.copy_ #[t, t] ty #[v, x']).run Tryz.prog w = .ok v' w') (hgd : o.guard = none) (s x : Operand) (ho : o.op = .call { callee := .builtin .copy, args := #[s, x], argTypes := #[t, t] }) (hs : a.eval s = v) (hx : a.eval x = x')
    (h : wpList Tryz.prog ops Q rest (a.put o.dst v') w') : wpList Tryz.prog ops Q (o :: rest) a w :=
  wpList_plain hgd fun _ hK => by
    unfold Oper.wp
    simp [execOp, ho, resolve, invoke, builtin, hs, hx, hr, Result.andThen]
    exact hK _ _ h
end
def RApR (w : World) (rb : Nat) (keep : Int) (bv pv : Value) (SL : List Sli) (bs : List Bat) (PI : List Int) (b : Bat) (e : Ending) (w' : World) : Prop :=
  ((b.length < 1 \/ 8 < b.length) /\ e = .returned (.tuple #[.int .i64 0, .int .i64 8]) /\ Below w.heap.size w w') \/
  (1 <= b.length /\ b.length <= 8 /\ 100 <= bs.length /\ e = .returned (.tuple #[.int .i64 0, .int .i64 11]) /\ Below w.heap.size w w') \/
  (1 <= b.length /\ b.length <= 8 /\ bs.length < 100 /\ ∃ k r, k < b.length /\ (∀ j, j < k -> edX (edT (atV bs bs.length) (gf b) j) (gf b j) = 0) /\ edX (edT (atV bs bs.length) (gf b) k) (gf b k) = r /\ r ≠ 0 /\ e = .returned (.tuple #[.int .i64 0, .int .i64 r]) /\ Below w.heap.size w w') \/
  (1 <= b.length /\ b.length <= 8 /\ bs.length < 100 /\ (∀ j, j < b.length -> edX (edT (atV bs bs.length) (gf b) j) (gf b j) = 0) /\ e = .returned (.tuple #[.int .i64 ((bs.length + 1 : Nat) : Int), .int .i64 0]) /\ Frm (fun k => k = rb \/ bv.ownBlock = some k) w w' /\
    ∃ bv' s, RSt w' rb keep bv' pv (SL ++ [s]) (bs ++ [b]) PI /\ (bv'.ownBlock = bv.ownBlock \/ ∀ g, bv'.ownBlock = some g -> w.heap.size <= g) /\ ∀ g, s.v.ownBlock = some g -> w.heap.size <= g)
theorem RSt.more {w w1 w3 : World} {rb : Nat} {keep : Int} {bv pv : Value} {SL : List Sli} {bs : List Bat} {PI : List Int} {b : Bat} {s : Sli} {x : Value} {o : Obj} (h : RSt w rb keep bv pv SL bs PI) (hb : Below w.heap.size w w1) (hs : OwnR rE 100 w1 s.v b) (r2 : OwnR rSli 40 w3 x (SL ++ [s])) (r3 : (w1.alloc o).grownBy w3 bv.ownBlock) :
    w3.heap[rb]? = some (.cells #[.int .i64 keep, bv, pv] 121 (0, 0)) /\ RSt (w3.setCell ⟨rb, 1, none⟩ x) rb keep x pv (SL ++ [s]) (bs ++ [b]) PI := by
  have h1 := h.on hb
  have keepR : ∀ {α : Type} {R : Row α} {T : TypeId} {u : Value} {l : List α}, OwnR R T w1 u l -> T ≠ 40 -> T ≠ 121 -> OwnR R T (w3.setCell ⟨rb, 1, none⟩ x) u l := fun hu hT hT2 => by
    refine hu.same fun g hg => ?_
    obtain ⟨c1, e1⟩ := hu.ty hg
    rw [Below.heap_setCell _ _ _ _ (blk_ne e1 h1.blk hT2), r3.block g (by have := hu.lt hg; simp; omega) (fun q => ?_), heap_alloc_old w1 _ (hu.lt hg)]
    obtain ⟨c2, e2⟩ := h1.bat.ty q.symm
    exact blk_ne e1 e2 hT rfl
  have hb3 : w3.heap[rb]? = some (.cells #[.int .i64 keep, bv, pv] 121 (0, 0)) := by
    rw [r3.block rb (by have := h1.lt; simp; omega) (fun q => ?_), heap_alloc_old w1 _ h1.lt]
    . exact h1.blk
    . obtain ⟨c2, e2⟩ := h1.bat.ty q.symm
      exact blk_ne e2 h1.blk (by decide) rfl
  refine ⟨hb3, ?_, ?_, by simp [h.len], fun i t c ht hc => ?_, keepR h1.pin (by decide) (by decide)⟩
  . show (w3.setCell ⟨rb, 1, none⟩ x).heap[rb]? = _
    simp [World.setCell, Array.getElem?_modify, hb3]
  . exact r2.same fun g hg => Below.heap_setCell _ _ _ _ (by obtain ⟨c1, e1⟩ := r2.ty hg; exact blk_ne e1 hb3 (by decide))
  . rcases getElem?_snoc ht with q | ⟨rfl, rfl⟩
    . have hi : i < SL.length := (List.getElem?_eq_some_iff.1 q).1
      rw [List.getElem?_append_left (by rw [<- h.len]; exact hi)] at hc
      exact keepR (h1.bts i t c q hc) (by decide) (by decide)
    . rw [h.len] at hc
      simp at hc
      subst hc
      exact keepR hs (by decide) (by decide)
set_option maxHeartbeats 12800000 in
theorem rApply_any {w : World} {rb : Nat} {keep : Int} {bv pv : Value} {SL : List Sli} {bs : List Bat} {PI : List Int} (v : Value) (b : Bat) (hR : RSt w rb keep bv pv SL bs PI) (hv : AtR rE w v b) (hn : bs.length <= 100) (h8 : ∀ k, k < bs.length -> (btc bs k).length <= 8) :
    Calls Tryz.prog 27 #[.pointer (some ⟨rb, 0, none⟩), v] w fun e w' => RApR w rb keep bv pv SL bs PI b e w' := by
  have c1 := hR.c1
  obtain ⟨ba, bc, hbv⟩ := hR.bat.slice
  rw [hbv, hR.len] at c1
  obtain ⟨oa, cap, rfl, hcap, hm, hc⟩ := id hv
  have HV := hide hv
  have HR := hide hR
  have HC := hide hc
  have HBV := hide hbv
  have hm' : (b.length : Int) <= 9223372036854775807 := by unfold maxLen at hm; omega
  clear hv hR hc hm hbv
  obtain ⟨n, hN⟩ : ∃ n, b.length = n := ⟨_, rfl⟩
  rw [hN] at hm' hcap ⊢
  have HN := hide hN
  by_cases h1 : n < 1 \/ 8 < n
  . have HH : Hid (RApR w rb keep bv pv SL bs PI b (.returned (.tuple #[.int .i64 0, .int .i64 8])) w) := Or.inl ⟨by rw [hN]; exact h1, rfl, Below.refl _ _⟩
    clear hN
    by_cases h2 : n < 1
    . have h2' : (n : Int) < 1 := by omega
      clear h1
      go_enter Tryz.func27, Tryz.ntmps27
      go_wp2_with fail
      go_ret2
      exact unhide HH
    . have h2' : ¬ (n : Int) < 1 := by omega
      have h3' : (8 : Int) < n := by omega
      clear h1
      go_enter Tryz.func27, Tryz.ntmps27
      go_wp2_with fail
      go_ret2
      exact unhide HH
  . have h2' : ¬ (n : Int) < 1 := by omega
    have h3' : ¬ (8 : Int) < n := by omega
    by_cases h4 : 100 <= bs.length
    . have h4' : (99 : Int) < bs.length := by omega
      have HH : Hid (RApR w rb keep bv pv SL bs PI b (.returned (.tuple #[.int .i64 0, .int .i64 11])) w) := Or.inr (Or.inl ⟨by omega, by omega, h4, rfl, Below.refl _ _⟩)
      clear hN
      go_enter Tryz.func27, Tryz.ntmps27
      go_wp2_with fail
      go_ret2
      exact unhide HH
    . have h4' : ¬ (99 : Int) < bs.length := by omega
      have HA := hide (At_any rb keep bv pv SL bs PI bs.length w (unhide HR) (Nat.le_refl _) hn h8)
      clear hN
      go_enter Tryz.func27, Tryz.ntmps27
      go_wp2_with fail
      refine (unhide HA).mono ?_
      rintro e w1 ⟨rv, rfl, hat, hb1⟩
      have HB1 := hide hb1
      have HAT := hide hat
      have hlr := (unhide HR).lt
      have HC1 := hide c1
      clear hat hb1 c1
      go_wp2_with fail
      go_loopw [6, 7, 8, 9, 10] (fun fv i _ _ _ wr => ∃ (k : Nat), k <= n /\ i = .int .i64 k /\ Hid (AtR rF wr fv (edT (atV bs bs.length) (gf b) k)) /\ Hid (∀ j, j < k -> edX (edT (atV bs bs.length) (gf b) j) (gf b j) = 0) /\ Hid (Below w.heap.size w wr)) (fun _ i _ _ _ _ => n - (intOf i).toNat)
      case atStart => exact ⟨0, by omega, rfl, HAT, hide (fun j hj => by omega), HB1⟩
      case round =>
        obtain ⟨k, hk, rfl, hF, hX, hb⟩ := hrel
        by_cases hlk : k < n
        . have hkn : (k : Int) < n := by omega
          obtain ⟨b2, off, rfl, hbl, hc0⟩ := unhide HC (by rw [unhide HN]; omega)
          have hrg : wr.rangeAt b2 (off + k * 25) (cc 25 (gf b k)).toList := fun q u hu => ((unhide hb).cell (p := ⟨b2, off + k * 25 + q, none⟩) hbl).trans (rngE hc0 (k := k) (by rw [unhide HN]; exact hlk) q u hu)
          obtain ⟨r, hr⟩ : ∃ r, edX (edT (atV bs bs.length) (gf b) k) (gf b k) = r := ⟨_, rfl⟩
          have HED := hide (Edited_any u6 _ (gf b k) wr (unhide hF) (edT_len (atV_len bs bs.length) k))
          rw [hr] at HED
          have HRR := hide hr
          clear hc0 hr
          go_wp2_with (refine ldG 100 (cc 25 (gf b k)) Tryz.underlying100 rfl (sz56 _) b2 (off + k * 25) hrg rfl _ rfl rfl ?_)
          refine (unhide HED).mono ?_
          rintro en w3 ⟨nv, mv, rfl, hN3, hM3, hb3⟩
          have HN3 := hide hN3
          have HB3 := hide ((unhide hb).trans (hb3.mono (unhide hb).size))
          clear hN3 hM3 hb3 hrg
          by_cases hr0 : r = 0
          . subst hr0
            have HX2 : Hid (∀ j, j < k + 1 -> edX (edT (atV bs bs.length) (gf b) j) (gf b j) = 0) := fun j hj => by
              by_cases c : j = k
              . subst c; exact unhide HRR
              . exact unhide hX j (by omega)
            go_wp2_with fail
            go_roundw
            case rel => exact ⟨k + 1, by omega, by go_num, HN3, HX2, HB3⟩
            case measure => simp [intOf]; omega
          . have HH : Hid (RApR w rb keep bv pv SL bs PI b (.returned (.tuple #[.int .i64 0, .int .i64 r])) w3) := by
              have e := unhide HN
              exact Or.inr (Or.inr (Or.inl ⟨by omega, by omega, by omega, k, r, by omega, unhide hX, unhide HRR, hr0, rfl, unhide HB3⟩))
            go_wp2_with fail
            go_ret2
            exact unhide HH
        . have hkn : k = n := by omega
          subst hkn
          have e := unhide HN
          obtain ⟨b2, off, rfl, hbl, hc0⟩ := unhide HC (by omega)
          obtain ⟨w4, m1, m2, m3⟩ := run_mkE wr k (by omega)
          have hb4 : Below wr.heap.size wr w4 := (Below.refl _ _).grown m3 (Nat.le_refl _) (fun q hq => by cases hq)
          have hv4 : AtR rE w4 (.slice (some ⟨b2, off, none⟩) b.length cap) b := by
            have := ((unhide HV).on ((unhide hb).trans (hb4.mono (unhide hb).size)))
            exact this
          have m2' : OwnC 100 25 w4 wr.heap.size (.slice (some ⟨wr.heap.size, 0, none⟩) (List.replicate k zf).length k) (List.replicate k zf) := by rw [List.length_replicate]; exact m2
          obtain ⟨w5, p1, p2, p3⟩ := run_cpE w4 wr.heap.size wr.heap.size k (List.replicate k zf) b m2' ⟨b2, off, none⟩ cap hv4 (by rw [List.length_replicate]; omega)
          rw [List.length_replicate, e] at p1
          rw [List.length_replicate, List.drop_of_length_le (by rw [List.length_replicate]; omega), List.append_nil] at p2
          have hb5 : Below w.heap.size w w5 := by
            have q := (unhide hb).trans (hb4.mono (unhide hb).size)
            exact q.grown p3 (by have := (unhide hb).size; have := q.size; omega) (fun g hg => by cases hg; exact (unhide hb).size)
          have hR5 := (unhide HR).on hb5
          have hs5 : OwnR rE 100 w5 (Sli.v ⟨some ⟨wr.heap.size, 0, none⟩, k, k⟩) b := p2.toE
          obtain ⟨x, w7, r1, r2, r3, r4⟩ := ap31 (hR5.bat.on ((Below.refl _ _).alloc (Nat.le_refl _) (.cells #[.slice (some ⟨wr.heap.size, 0, none⟩) k k] 40))) (at_new rSli 40 w5 ⟨some ⟨wr.heap.size, 0, none⟩, k, k⟩ #[.slice (some ⟨wr.heap.size, 0, none⟩) k k] rfl) (by have := hR5.len; simp; omega)
          obtain ⟨xa, xc, rfl⟩ := r2.slice
          obtain ⟨hb7, hR7⟩ := (unhide HR).more hb5 hs5 r2 r3
          have c5 := hR5.c1
          have c7 := (blk_cells hb7 1).trans (show _ = some bv from rfl)
          have c9 := hR7.c1
          rw [unhide HBV, hR5.len] at c5 r1
          rw [unhide HBV, hR5.len] at c7
          have fz := frz_blk hb7 1
          have hlen : (SL ++ [(⟨some ⟨wr.heap.size, 0, none⟩, k, k⟩ : Sli)]).length = bs.length + 1 := by rw [List.length_append, hR5.len]; rfl
          rw [hlen] at c9 hR7
          have HH : Hid (RApR w rb keep bv pv SL bs PI b (.returned (.tuple #[.int .i64 ((bs.length + 1 : Nat) : Int), .int .i64 0])) (w7.setCell ⟨rb, 1, none⟩ (.slice xa (bs.length + 1) xc))) := by
            refine Or.inr (Or.inr (Or.inr ⟨by omega, by omega, by omega, by rw [e]; exact unhide hX, rfl, ((grown_frm hb5 r3).mono fun _ _ q => Or.inr q).setCell _ (fun _ => Or.inl rfl), _, _, hR7, ?_, fun g hg => ?_⟩))
            . rcases r4 with r4 | r4
              . refine Or.inl ?_
                rw [hlen] at r4; exact r4
              . exact Or.inr fun g hg => by rw [hlen] at r4; have q1 := r4 g hg; have := hb5.size; simp at q1; omega
            . cases hg; exact (unhide hb).size
          rw [hlen] at r1
          clear r2 r3 r4 hR7 hb7 hR5 hs5 hb5 p2 p3 m2 m2' m3 hb4 hv4 hc0 hlen e
          go_wp2_with (first | refine wlM 40 _ m1 rfl _ _ rfl rfl rfl ?_ | refine wlC 40 p1 rfl _ _ rfl rfl rfl ?_ | refine wlV _ _ (bsS31 (some ⟨wr.heap.size, 0, none⟩) k k _ _ _ rfl rfl _) rfl ?_ | (at_builtin; refine wlR 31 r1 rfl _ _ rfl rfl rfl rfl ?_))
          go_ret2
          exact unhide HH
def mkL (b : Bat) : List (Nat -> Int) := setL (setL (b ++ [zf, zf]) b.length 0 (-77)) (b.length + 1) 0 (-77)
theorem mkL_len (b : Bat) : (mkL b).length = b.length + 2 := by simp [mkL, setL_len]
theorem mkL_old (b : Bat) {i : Nat} (h : i < b.length) : gf (mkL b) i = gf b i := by
  unfold mkL
  rw [setL_gf _ _ _ _ _ (by simp [setL_len]; omega), if_neg (by omega), setL_gf _ _ _ _ _ (by simp; omega), if_neg (by omega)]
  unfold gf; rw [List.getElem?_append_left h]
theorem mkL_one (b : Bat) : gf (mkL b) b.length 0 = -77 := by
  unfold mkL
  rw [setL_gf _ _ _ _ _ (by simp [setL_len]), if_neg (by omega), setL_gf _ _ _ _ _ (by simp), if_pos rfl]
  simp [upd]
theorem mkL_two (b : Bat) : gf (mkL b) (b.length + 1) 0 = -77 := by
  unfold mkL
  rw [setL_gf _ _ _ _ _ (by simp [setL_len]), if_pos rfl]
  simp [upd]
theorem mkL_take (b : Bat) : (mkL b).take b.length = b := by
  unfold mkL setL
  rw [List.take_set_of_le (by omega), List.take_set_of_le (Nat.le_refl _), List.take_left]
theorem OwnC.pre {T : TypeId} {m : Nat} {hm : 0 < m} {w : World} {B g cap : Nat} {L : List (Nat -> Int)} (h : OwnC T m w B (.slice (some ⟨g, 0, none⟩) L.length cap) L) {n : Nat} (hn : n <= L.length) : OwnR (rN m hm) T w (.slice (some ⟨g, 0, none⟩) n cap) (L.take n) := by
  obtain ⟨h1, h2⟩ := h
  rcases h2 with ⟨e, _⟩ | ⟨g', cap', cur, e, _, hh, r1, r2, r3, r4⟩
  . cases e
  . cases e
    have hl : (L.take n).length = n := by rw [List.length_take]; omega
    refine Or.inr ⟨g, 0, cap, cur, by rw [hl], hh, by omega, r2, by rw [r3]; show 0 + cap * m <= cap * m; omega, ?_⟩
    rw [List.drop_zero, hl]
    have : (rN m hm).all (L.take n) = (fl m L).take (n * m) := by
      show fl m (L.take n) = _
      have e := fl_app m (L.take n) (L.drop n)
      rw [List.take_append_drop] at e
      rw [e, List.take_left' (by rw [fl_len, hl])]
    rw [this, <- r4, List.take_take, Nat.min_eq_left (Nat.mul_le_mul_right m hn)]
    rfl
theorem exNil (t e : TypeId) (hu : Tryz.prog.underlying t = some (.slice e)) (oa : Option Addr) (n c : Nat) (ev : Operand -> Value) (o : Oper) (x : Operand) (ho : o.op = .binOp .eql t x (.const (.slice none 0 0)) t) (hx : ev x = .slice oa n c) (hc : ev (.const (.slice none 0 0)) = .slice none 0 0) (w : World) : (execOp ev o).run Tryz.prog w = .ok (.value (.bool oa.isNone)) w := by
  unfold execOp
  simp only [ho]
  simp [go_sem, hx, hc, Lib.run_eql_slice_nil (P := Tryz.prog) w t e oa n c 0 0 hu]
def HndR (w : World) (v : Value) (b : Bat) (e : Ending) (w' : World) : Prop :=
  Below w.heap.size w w' /\ (((∃ c, v = .slice none 0 c) /\ b = [] /\ e = .returned (.slice none 0 0)) \/
  ((∃ ad c, v = .slice (some ad) b.length c) /\ e = .returned (.slice (some ⟨w.heap.size, 0, none⟩) b.length (b.length + 2)) /\ OwnC 100 25 w' w.heap.size (.slice (some ⟨w.heap.size, 0, none⟩) (mkL b).length (b.length + 2)) (mkL b)))
set_option maxHeartbeats 6400000 in
theorem handed_any (v : Value) (b : Bat) (w : World) (hv : AtR rE w v b) (hl : b.length <= 1000000000000) :
    Calls Tryz.prog 25 #[v] w fun e w' => HndR w v b e w' := by
  have hv0 := hv
  obtain ⟨oa, cap, rfl, hcap, hm, hc⟩ := hv
  cases oa with
  | none =>
    have hb0 : b = [] := by
      rcases Nat.eq_zero_or_pos b.length with q | q
      . exact List.eq_nil_of_length_eq_zero q
      . obtain ⟨_, _, e, _⟩ := hc q; cases e
    subst hb0
    have HH : Hid (HndR w (.slice none (List.length (α := Nat -> Int) []) cap) [] (.returned (.slice none 0 0)) w) := ⟨Below.refl _ _, Or.inl ⟨⟨cap, rfl⟩, rfl, rfl⟩⟩
    clear hc hv0
    go_enter Tryz.func25, Tryz.ntmps25
    go_wp2_with (refine wlV _ _ (exNil 40 100 Tryz.underlying40 none _ _ _ _ _ rfl rfl rfl _) rfl ?_)
    go_ret
    exact unhide HH
  | some ad =>
    have HV := hide hv0
    clear hc hv0
    obtain ⟨n, hN⟩ : ∃ n, b.length = n := ⟨_, rfl⟩
    obtain ⟨M, hM⟩ : ∃ M, n + 2 = M := ⟨_, rfl⟩
    obtain ⟨K, hK⟩ : ∃ K, n + 1 = K := ⟨_, rfl⟩
    have hw2 : IntKind.i64.wrap ((n : Int) + 2) = (M : Int) := by rw [i64_of _ (by omega)]; omega
    have hw1 : IntKind.i64.wrap ((n : Int) + 1) = (K : Int) := by rw [i64_of _ (by omega)]; omega
    have hnM : (n : Int) < M := by omega
    have hKM : (K : Int) < M := by omega
    have hnM' : (n : Int) <= M := by omega
    obtain ⟨w4, m1, m2, m3⟩ := run_mkE w M (by omega)
    have hb4 : Below w.heap.size w w4 := (Below.refl _ _).grown m3 (Nat.le_refl _) (fun q hq => by cases hq)
    have hv4 : AtR rE w4 (.slice (some ad) b.length cap) b := (unhide HV).on hb4
    have m2' : OwnC 100 25 w4 w.heap.size (.slice (some ⟨w.heap.size, 0, none⟩) (List.replicate M zf).length M) (List.replicate M zf) := by rw [List.length_replicate]; exact m2
    obtain ⟨w5, p1, p2, p3⟩ := run_cpE w4 w.heap.size w.heap.size M (List.replicate M zf) b m2' ad cap hv4 (by rw [List.length_replicate]; omega)
    rw [List.length_replicate] at p1 p2
    have hdr : b ++ (List.replicate M zf).drop b.length = b ++ [zf, zf] := by
      rw [List.drop_replicate, show M - b.length = 2 by omega]; rfl
    rw [hdr] at p2
    have hb5 : Below w.heap.size w w5 := hb4.grown p3 (by have := hb4.size; omega) (fun g hg => by cases hg; exact Nat.le_refl _)
    have hlen : (b ++ [zf, zf]).length = M := by simp; omega
    have p2' : OwnC 100 25 w5 w.heap.size (.slice (some ⟨w.heap.size, 0, none⟩) (b ++ [zf, zf]).length M) (b ++ [zf, zf]) := by rw [hlen]; exact p2
    obtain ⟨s1, s2⟩ := p2'.stored n 0 (by omega) (by omega) (-77)
    have s1' : OwnC 100 25 (w5.setCell ⟨w.heap.size, n * 25 + 0, none⟩ (.int .i64 (-77))) w.heap.size (.slice (some ⟨w.heap.size, 0, none⟩) (setL (b ++ [zf, zf]) n 0 (-77)).length M) (setL (b ++ [zf, zf]) n 0 (-77)) := by rw [setL_len]; exact s1
    obtain ⟨t1, t2⟩ := s1'.stored K 0 (by rw [setL_len]; omega) (by omega) (-77)
    have hb6 := hb5.grown s2 (by have := hb5.size; omega) (fun g hg => by cases hg; exact Nat.le_refl _)
    have hb7 := hb6.grown t2 (by have := hb6.size; omega) (fun g hg => by cases hg; exact Nat.le_refl _)
    have hth : ∀ {W : World} {L : List (Nat -> Int)} {c : Nat}, OwnC 100 25 W w.heap.size (.slice (some ⟨w.heap.size, 0, none⟩) L.length c) L -> ∀ i, i < L.length -> W.cell? ⟨w.heap.size, i * 25, none⟩ = some (.int .i64 (gf L i 0)) /\ W.frozen? ⟨w.heap.size, i * 25, none⟩ = false := fun {W L c} h i hi => by
      have q := (h.there i hi) 0 (by omega)
      refine ⟨?_, by simpa using q.2⟩
      have := World.ownsRow.cellAt h (i * 25 + 0) (by have := Nat.mul_le_mul_right 25 hi; omega)
      rw [fl_at 25 L i 0 hi (by omega)] at this
      simpa using this
    obtain ⟨d1, d2⟩ := hth p2' n (by omega)
    obtain ⟨d3, d4⟩ := hth s1' K (by rw [setL_len]; omega)
    simp only [Nat.add_zero] at d3 d4
    have HH : Hid (HndR w (.slice (some ad) n cap) b (.returned (.slice (some ⟨w.heap.size, 0, none⟩) n M)) ((w5.setCell ⟨w.heap.size, n * 25, none⟩ (.int .i64 (-77))).setCell ⟨w.heap.size, K * 25, none⟩ (.int .i64 (-77)))) := by
      refine ⟨hb7, Or.inr ⟨⟨ad, cap, by rw [hN]⟩, by rw [hN, hM], ?_⟩⟩
      unfold mkL
      rw [hN, hM, hK, setL_len]
      exact t1
    rw [hN] at p1 ⊢
    clear hth t1 t2 s1 s1' s2 hb7 hb6 hb5 p2 p2' p3 hlen hdr m2 m2' m3 hb4 hv4 hN hM hK
    go_enter Tryz.func25, Tryz.ntmps25
    go_wp2_with (first | refine wlV _ _ (exNil 40 100 Tryz.underlying40 (some ad) _ _ _ _ _ rfl rfl rfl _) rfl ?_ | refine wlM 40 _ m1 rfl _ _ rfl rfl rfl ?_ | refine wlC 40 p1 rfl _ _ rfl rfl rfl ?_)
    go_ret
    exact unhide HH
set_option maxHeartbeats 1600000 in
theorem sameFeature_eq (f : Nat -> Int) (w : World) :
    Calls Tryz.prog 17 #[.agg (fc f), .agg (fc f)] w fun e w' => e = .returned (.bool true) /\ Below w.heap.size w w' := by
  have c0 := fc_at f 0 (by decide)
  have c1 := fc_at f 1 (by decide)
  have c2 := fc_at f 2 (by decide)
  have c3 := fc_at f 3 (by decide)
  have c4 := fc_at f 4 (by decide)
  have c5 := fc_at f 5 (by decide)
  have c6 := fc_at f 6 (by decide)
  have c7 := fc_at f 7 (by decide)
  go_enter Tryz.func17, Tryz.ntmps17
  go_wp2
  clear c0 c1 c2 c3 c4 c5 c6 c7
  go_loopw [5] (fun i wr => ∃ k q : Nat, k <= 8 /\ i = .int .i64 k /\ wr = ((w.alloc (.cells (fc f) 66)).alloc (.cells (fc f) 66)).drewN q) (fun i _ => 8 - (intOf i).toNat)
  case atStart => exact ⟨0, 0, by omega, rfl, rfl⟩
  case round =>
    obtain ⟨k, q, hk, rfl, rfl⟩ := hrel
    by_cases hlt : k < 8
    . have cx := fc_at f (8 + k) (by omega)
      have cy := fc_at f (16 + k) (by omega)
      have hk8 : (k : Int) < 8 := by omega
      have b1 : (f (8 + k) != f (8 + k)) = false := by simp
      go_wp2
      go_quiet (fail)
      go_wp2
      go_roundw
      case rel => exact ⟨k + 1, _, by omega, by go_num, rfl⟩
      case measure => simp [intOf]; omega
    . go_wp2
      go_ret
      refine ⟨rfl, ?_⟩
      repeat first | exact Below.refl _ _ | refine below_drewN ?_ _ | refine Below.drew ?_ | refine below_alloc ?_ (Nat.le_refl _) _
set_option maxHeartbeats 1600000 in
theorem sameFeatures_eq (va vb : Value) (n : Nat) (fs : Nat -> Nat -> Int) (w : World) (ha : FsAt w va n fs) (hb : FsAt w vb n fs) (hn : (n : Int) <= 9223372036854775807) :
    Calls Tryz.prog 36 #[va, vb] w fun e w' => e = .returned (.bool true) /\ Below w.heap.size w w' := by
  obtain ⟨oa, ca, rfl, hma, hna⟩ := ha
  obtain ⟨ob, cb, rfl, hmb, hnb⟩ := hb
  have HA := hide hna
  have HB := hide hnb
  clear hna hnb
  go_enter Tryz.func36, Tryz.ntmps36
  go_wp2
  go_loopw [5, 6] (fun i _ wr => ∃ k : Nat, k <= n /\ i = .int .i64 k /\ Below w.heap.size w wr) (fun i _ _ => n - (intOf i).toNat)
  case atStart => exact ⟨0, by omega, rfl, Below.refl _ _⟩
  case round =>
    obtain ⟨k, hk, rfl, hbr⟩ := hrel
    by_cases hlt : k < n
    . obtain ⟨ba, fa, rfl, hla, hca⟩ := unhide HA (by omega)
      obtain ⟨bb, fb, rfl, hlb, hcb⟩ := unhide HB (by omega)
      have hkn : (k : Int) < n := by omega
      have R1 : ∀ w', Below wr.heap.size wr w' -> w'.rangeAt ba (fa + k * 24) (fc (fs k)).toList := fun w' h => fs_rng (fun i hi j hj => ((hbr.trans (h.mono hbr.size)).cell (p := ⟨ba, fa + i * 24 + j, none⟩) hla).trans (hca i hi j hj)) hlt
      have R2 : ∀ w', Below wr.heap.size wr w' -> w'.rangeAt bb (fb + k * 24) (fc (fs k)).toList := fun w' h => fs_rng (fun i hi j hj => ((hbr.trans (h.mono hbr.size)).cell (p := ⟨bb, fb + i * 24 + j, none⟩) hlb).trans (hcb i hi j hj)) hlt
      have S1 := fun W => sameFeature_eq (fs k) W
      have HR1 := hide R1
      have HR2 := hide R2
      clear hca hcb hla hlb R1 R2
      go_wp2
      refine region_bq (by kernel_rfl) (by kernel_rfl) ?_
      refine q_move rfl _ rfl (.slice (some ⟨ba, fa, none⟩) n ca) rfl ?_
      simp only [Act.put, qA, qB, qC]
      refine q_move rfl _ rfl (.int .i64 k) rfl ?_
      simp only [Act.put, qA, qB, qC]
      refine q_val rfl (.pointer (some ⟨ba, fa + k * 24, none⟩)) (fun _ _ => by simp [go_sem, hkn]) ?_
      simp only [Act.put, qA, qB, qC]
      refine q_load rfl 66 _ rfl ba (fa + k * 24) rfl (fc (fs k)) _ Tryz.underlying66 rfl (szf _) (unhide HR1) ?_
      simp only [Act.put, qA, qB, qC]
      refine q_move rfl _ rfl (.slice (some ⟨bb, fb, none⟩) n cb) rfl ?_
      simp only [Act.put, qA, qB, qC]
      refine q_move rfl _ rfl (.int .i64 k) rfl ?_
      simp only [Act.put, qA, qB, qC]
      refine q_val rfl (.pointer (some ⟨bb, fb + k * 24, none⟩)) (fun _ _ => by simp [go_sem, hkn]) ?_
      simp only [Act.put, qA, qB, qC]
      refine q_load rfl 66 _ rfl bb (fb + k * 24) rfl (fc (fs k)) _ Tryz.underlying66 rfl (szf _) (unhide HR2) ?_
      simp only [Act.put, qA, qB, qC]
      refine q_call rfl 17 #[.agg (fc (fs k)), .agg (fc (fs k))] (fun _ => by simp [go_sem]) _ S1 ?_
      simp only [Act.put, qA, qB, qC]
      refine q_assign rfl _ rfl (.bool true) rfl ?_
      simp only [Act.put, qA, qB, qC]
      refine wpQuiet_nil ?_
      intro w2 hw2
      have hb2 := hide (hbr.trans (hw2.mono hbr.size))
      clear hbr hw2
      go_wp2
      go_roundw
      case rel => exact ⟨k + 1, by omega, by go_num, unhide hb2⟩
      case measure => simp [intOf]; omega
    . go_wp2
      go_ret
      exact ⟨rfl, hbr⟩
structure Hnd (w : World) (g B : Nat) (b : Bat) : Prop where
  own : OwnC 100 25 w B (.slice (some ⟨g, 0, none⟩) (mkL b).length (b.length + 2)) (mkL b)
theorem Hnd.cell {w : World} {g B : Nat} {b : Bat} (h : Hnd w g B b) {i j : Nat} (hi : i < b.length + 2) (hj : j < 25) : w.cell? ⟨g, i * 25 + j, none⟩ = some (.int .i64 (gf (mkL b) i j)) := by
  have hi' : i < (mkL b).length := by rw [mkL_len]; exact hi
  have := World.ownsRow.cellAt h.own (i * 25 + j) (by have := Nat.mul_le_mul_right 25 hi'; omega)
  rw [fl_at 25 _ i j hi' hj] at this
  exact this
theorem Hnd.lt {w : World} {g B : Nat} {b : Bat} (h : Hnd w g B b) : g < w.heap.size := (OwnC.lt h.own g rfl).2
theorem Hnd.on {w w' : World} {g B : Nat} {b : Bat} (h : Hnd w g B b) (hb : Below w.heap.size w w') : Hnd w' g B b := ⟨h.own.on hb⟩
theorem Hnd.same {w w' : World} {g B : Nat} {b : Bat} (h : Hnd w g B b) (he : w'.heap[g]? = w.heap[g]?) : Hnd w' g B b := ⟨h.own.same fun k hk => by cases hk; exact he⟩
theorem Hnd.at {w : World} {g B : Nat} {b : Bat} (h : Hnd w g B b) (hl : b.length <= 1000000000000) : CsAt 25 w (.slice (some ⟨g, 0, none⟩) b.length (b.length + 2)) b.length (gf b) :=
  ⟨_, _, rfl, by unfold maxLen; omega, fun _ => ⟨g, 0, rfl, h.lt, fun i hi j hj => by rw [Nat.zero_add, h.cell (by omega) hj, mkL_old b hi]⟩⟩
theorem Hnd.pre {w : World} {g B : Nat} {b : Bat} (h : Hnd w g B b) : OwnR rE 100 w (.slice (some ⟨g, 0, none⟩) b.length (b.length + 2)) b := by
  have := h.own.pre (hm := by decide) (n := b.length) (by rw [mkL_len]; omega)
  rw [mkL_take] at this
  exact this
set_option maxHeartbeats 6400000 in
theorem untouched_any (g B : Nat) (ad : Addr) (c : Nat) (b : Bat) (w : World) (hO : Hnd w g B b) (hv : AtR rE w (.slice (some ad) b.length c) b) (hl : b.length <= 1000000000000) :
    Calls Tryz.prog 28 #[.slice (some ⟨g, 0, none⟩) b.length (b.length + 2), .slice (some ad) b.length c] w fun e w' => e = .returned (.bool true) /\ Below w.heap.size w w' := by
  have d1 := hO.cell (i := b.length) (j := 0) (by omega) (by omega)
  have d2 := hO.cell (i := b.length + 1) (j := 0) (by omega) (by omega)
  rw [mkL_one, Nat.add_zero] at d1
  rw [mkL_two, Nat.add_zero] at d2
  have HO := hide hO
  have HV := hide hv
  have hgl := hO.lt
  clear hO hv
  obtain ⟨n, hN⟩ : ∃ n, b.length = n := ⟨_, rfl⟩
  obtain ⟨M, hM⟩ : ∃ M, n + 2 = M := ⟨_, rfl⟩
  obtain ⟨K, hK⟩ : ∃ K, n + 1 = K := ⟨_, rfl⟩
  have hw2 : IntKind.i64.wrap ((n : Int) + 2) = (M : Int) := by rw [i64_of _ (by omega)]; omega
  have hw1 : IntKind.i64.wrap ((n : Int) + 1) = (K : Int) := by rw [i64_of _ (by omega)]; omega
  have hnM : (n : Int) < M := by omega
  have hKM : (K : Int) < M := by omega
  rw [hN] at d1 d2 ⊢
  rw [hK] at d2
  rw [hM]
  have HN := hide hN
  have hMM : n + 2 = M := hM
  clear hN hK hM
  go_enter Tryz.func28, Tryz.ntmps28
  go_wp2_with (refine wlV _ _ (exNil 40 100 Tryz.underlying40 (some ad) _ _ _ _ _ rfl rfl rfl _) rfl ?_)
  clear d1 d2
  go_loopw [7, 8] (fun i _ wr => ∃ k : Nat, k <= n /\ i = .int .i64 k /\ Hid (Below w.heap.size w wr)) (fun i _ _ => n - (intOf i).toNat)
  case atStart => exact ⟨0, by omega, rfl, hide (Below.refl _ _)⟩
  case round =>
    obtain ⟨k, hk, rfl, hb⟩ := hrel
    by_cases hlt : k < n
    . have hkn : (k : Int) < n := by omega
      have hkM : (k : Int) < M := by omega
      have hkb : k < b.length := by rw [unhide HN]; exact hlt
      obtain ⟨oa, cc', e, _, _, hr⟩ := unhide HV
      cases e
      obtain ⟨b2, off, e, hb2, hr0⟩ := hr (by omega)
      cases e
      have R1 : ∀ W, Below wr.heap.size wr W -> W.rangeAt g (k * 25 + 1) (fc (eF (gf b k))).toList := fun W hW j u hu => by
        have hj : j < 24 := by have := (List.getElem?_eq_some_iff.1 hu).1; rw [Array.length_toList, fc_size] at this; exact this
        rw [Array.getElem?_toList, fc_at _ _ hj] at hu
        cases hu
        have hbw := (unhide hb).trans (hW.mono (unhide hb).size)
        have := (hbw.cell (p := ⟨g, k * 25 + (1 + j), none⟩) hgl).trans ((unhide HO).cell (i := k) (j := 1 + j) (by omega) (by omega))
        rw [mkL_old b hkb] at this
        rw [Nat.add_assoc]
        exact this
      have R2 : ∀ W, Below wr.heap.size wr W -> W.rangeAt b2 (off + k * 25 + 1) (fc (eF (gf b k))).toList := fun W hW j u hu => by
        have hj : j < 24 := by have := (List.getElem?_eq_some_iff.1 hu).1; rw [Array.length_toList, fc_size] at this; exact this
        rw [Array.getElem?_toList, fc_at _ _ hj] at hu
        cases hu
        have hbw := (unhide hb).trans (hW.mono (unhide hb).size)
        have := (hbw.cell (p := ⟨b2, off + k * 25 + (1 + j), none⟩) hb2).trans (cc_rng (rngE hr0 hkb) (1 + j) (by omega))
        rw [Nat.add_assoc (off + k * 25)]
        exact this
      have O1 : ∀ W, Below wr.heap.size wr W -> W.cell? ⟨g, k * 25, none⟩ = some (.int .i64 (gf b k 0)) := fun W hW => by
        have hbw := (unhide hb).trans (hW.mono (unhide hb).size)
        have := (hbw.cell (p := ⟨g, k * 25 + 0, none⟩) hgl).trans ((unhide HO).cell (i := k) (j := 0) (by omega) (by omega))
        rw [mkL_old b hkb] at this
        exact this
      have O2 : ∀ W, Below wr.heap.size wr W -> W.cell? ⟨b2, off + k * 25, none⟩ = some (.int .i64 (gf b k 0)) := fun W hW => by
        have hbw := (unhide hb).trans (hW.mono (unhide hb).size)
        exact (hbw.cell (p := ⟨b2, off + k * 25 + 0, none⟩) hb2).trans (cc_rng (rngE hr0 hkb) 0 (by omega))
      have SF1 := fun W => sameFeature_eq (eF (gf b k)) W
      have HO1 := hide O1
      have HO2 := hide O2
      clear hr hr0 O1 O2
      go_wp2_with fail
      refine region_bq (by kernel_rfl) (by kernel_rfl) ?_
      refine q_move rfl _ rfl (.slice (some ⟨g, 0, none⟩) M M) rfl ?_
      simp only [Act.put, qA, qB, qC]
      refine q_move rfl _ rfl (.int .i64 k) rfl ?_
      simp only [Act.put, qA, qB, qC]
      refine q_val rfl (.pointer (some ⟨g, k * 25, none⟩)) (fun _ _ => by simp [go_sem, hkM]) ?_
      simp only [Act.put, qA, qB, qC]
      refine q_val rfl (.pointer (some ⟨g, k * 25 + 1, none⟩)) (fun _ _ => by simp [go_sem]) ?_
      simp only [Act.put, qA, qB, qC]
      refine q_load rfl 66 _ rfl g (k * 25 + 1) rfl (fc (eF (gf b k))) _ Tryz.underlying66 rfl (szf _) R1 ?_
      simp only [Act.put, qA, qB, qC]
      refine q_move rfl _ rfl (.slice (some ⟨b2, off, none⟩) n c) rfl ?_
      simp only [Act.put, qA, qB, qC]
      refine q_move rfl _ rfl (.int .i64 k) rfl ?_
      simp only [Act.put, qA, qB, qC]
      refine q_val rfl (.pointer (some ⟨b2, off + k * 25, none⟩)) (fun _ _ => by simp [go_sem, hkn]) ?_
      simp only [Act.put, qA, qB, qC]
      refine q_val rfl (.pointer (some ⟨b2, off + k * 25 + 1, none⟩)) (fun _ _ => by simp [go_sem]) ?_
      simp only [Act.put, qA, qB, qC]
      refine q_load rfl 66 _ rfl b2 (off + k * 25 + 1) rfl (fc (eF (gf b k))) _ Tryz.underlying66 rfl (szf _) R2 ?_
      simp only [Act.put, qA, qB, qC]
      refine q_call rfl 17 #[.agg (fc (eF (gf b k))), .agg (fc (eF (gf b k)))] (fun _ => by simp [go_sem]) _ SF1 ?_
      simp only [Act.put, qA, qB, qC]
      refine q_val rfl (.bool true) (fun _ _ => by simp [go_sem]) ?_
      simp only [Act.put, qA, qB, qC]
      refine wpQuiet_nil ?_
      intro w6 hw6
      have p1 := unhide HO1 w6 hw6
      have p2 := unhide HO2 w6 hw6
      have hb6 := (unhide hb).trans (hw6.mono (unhide hb).size)
      have HB6 := hide hb6
      have b1 : (gf b k 0 != gf b k 0) = false := by simp
      clear hw6 SF1 R1 R2 hb6
      go_wp2_with fail
      go_quiet (fail)
      go_wp2_with fail
      go_roundw
      case rel => exact ⟨k + 1, by omega, by go_num, hide (by repeat first | exact unhide HB6 | refine below_drewN ?_ _ | refine Below.drew ?_)⟩
      case measure => simp [intOf]; omega
    . have hkn : k = n := by omega
      subst hkn
      have hkv : ¬ (k : Int) < k := by omega
      go_wp2_with fail
      go_ret
      exact ⟨rfl, unhide hb⟩
theorem untouched_nil (c n c' : Nat) (o : Option Addr) (w : World) : Calls Tryz.prog 28 #[.slice o n c', .slice none 0 c] w fun e w' => e = .returned (.bool true) /\ w = w' := by
  go_enter Tryz.func28, Tryz.ntmps28
  go_wp2_with (refine wlV _ _ (exNil 40 100 Tryz.underlying40 none _ _ _ _ _ rfl rfl rfl _) rfl ?_)
  go_ret
  exact ⟨rfl, rfl⟩
set_option maxHeartbeats 3200000 in
theorem sameInts_any (va vb : Value) (l : List Int) (w : World) (ha : AtR rI w va l) (hb : AtR rI w vb l) :
    Calls Tryz.prog 59 #[va, vb] w fun e w' => e = .returned (.bool true) /\ Below w.heap.size w w' := by
  obtain ⟨oa, ca, rfl, _, hma, hna⟩ := ha
  obtain ⟨ob, cb, rfl, _, hmb, hnb⟩ := hb
  have HA := hide hna
  have HB := hide hnb
  unfold maxLen at hma
  clear hna hnb hmb
  go_enter Tryz.func59, Tryz.ntmps59
  go_wp2_with fail
  go_loopw [5] (fun i wr => ∃ k : Nat, k <= l.length /\ i = .int .i64 k /\ Hid (Below w.heap.size w wr)) (fun i _ => l.length - (intOf i).toNat)
  case atStart => exact ⟨0, by omega, rfl, hide (Below.refl _ _)⟩
  case round =>
    obtain ⟨k, hk, rfl, hb⟩ := hrel
    by_cases hlt : k < l.length
    . have hkn : (k : Int) < l.length := by omega
      obtain ⟨ba, fa, rfl, hla, hca⟩ := unhide HA (by omega)
      obtain ⟨bb, fb, rfl, hlb, hcb⟩ := unhide HB (by omega)
      have hi : l[k]? = some l[k] := List.getElem?_eq_getElem hlt
      have c1 := ((unhide hb).cell (p := ⟨ba, fa + k, none⟩) hla).trans (rngI hca hi)
      have c2 := ((unhide hb).cell (p := ⟨bb, fb + k, none⟩) hlb).trans (rngI hcb hi)
      obtain ⟨X, hX⟩ : ∃ X, l[k] = X := ⟨_, rfl⟩
      rw [hX] at c1 c2
      have b1 : (X != X) = false := by simp
      clear hca hcb hi hX
      go_wp2_with fail
      go_quiet (fail)
      go_wp2_with fail
      go_roundw
      case rel => exact ⟨k + 1, by omega, by go_num, hide (by repeat first | exact unhide hb | refine below_drewN ?_ _ | refine Below.drew ?_)⟩
      case measure => simp [intOf]; omega
    . have hkn : k = l.length := by omega
      subst hkn
      go_wp2_with fail
      go_ret
      exact ⟨rfl, unhide hb⟩
theorem gf_rep {n i : Nat} {x : Nat -> Int} (h : i < n) : gf (List.replicate n x) i = x := by unfold gf; rw [List.getElem?_replicate, if_pos h]; rfl
theorem eF_owE (j : Nat) : fc (eF (owE j)) = fc zf := by
  rw [cc_fc, cc_fc]
  refine cc_ext fun t _ => ?_
  show (if 1 + t = 0 then _ else (0 : Int)) = zf t
  rw [if_neg (by omega)]; rfl
theorem built0 : Tryz.prog.built 66 [] = some (fc zf) := by kernel_rfl
theorem run_b0 (A : Act) (o : Oper) (ho : o.op = .build 66 #[]) (w : World) : (execOp A.eval o).run Tryz.prog w = .ok (.value (.agg (fc zf))) w := by
  have hb := run_build (P := Tryz.prog) w 66 #[] (fc zf) built0
  unfold execOp
  simp [ho, hb]
section
variable {w : World} {ob : Nat} {V : OV} {IS FS RS GS ES : List Sli}
set_option maxHeartbeats 12800000 in
theorem more_any (h : OwnI w ob V IS FS [] [] ES) (hl : ES.length <= 1900000000000) :
    Calls Tryz.prog 18 #[.pointer (some ⟨ob, 0, none⟩)] w fun e w' => e = .returned (.bool true) /\ Below w.heap.size w w' := by
  obtain ⟨ra, rk, hrv⟩ := h.r.slice
  obtain ⟨ga, gk, hgv⟩ := h.g.slice
  obtain ⟨ea, ek, hev⟩ := h.e.slice
  have c2 : w.cell? ⟨ob, 2, none⟩ = some (.slice ra 0 rk) := by rw [h.cells 2]; show some V.rv = _; rw [hrv]; rfl
  have c3 : w.cell? ⟨ob, 3, none⟩ = some (.slice ga 0 gk) := by rw [h.cells 3]; show some V.gv = _; rw [hgv]; rfl
  have c4 : w.cell? ⟨ob, 4, none⟩ = some (.slice ea ES.length ek) := by rw [h.cells 4]; show some V.ev = _; rw [hev]
  have hob := blk_lt h.blk
  have HI := hide h
  have HEV := hide hev
  clear h hrv hgv hev
  go_enter Tryz.func18, Tryz.ntmps18
  go_wp2_with fail
  go_loopw [3, 4, 5] (fun i _ _ wr => i = .int .i64 0 /\ wr = w) (fun _ _ _ _ => 0)
  case atStart => exact ⟨rfl, rfl⟩
  case round =>
    obtain ⟨rfl, rfl⟩ := hrel
    go_wp2_with fail
    go_loopw [6, 7, 8] (fun i _ _ w2 => i = .int .i64 0 /\ w2 = wr) (fun _ _ _ _ => 0)
    case atStart => exact ⟨rfl, rfl⟩
    case round =>
      obtain ⟨rfl, rfl⟩ := hrel
      go_wp2_with fail
      have HC4 := hide c4
      clear c2 c3 c4
      go_loopw [9, 10, 11] (fun i _ _ w2 => ∃ k : Nat, k <= ES.length /\ i = .int .i64 k /\ Hid (Below wr.heap.size wr w2)) (fun i _ _ _ => ES.length - (intOf i).toNat)
      case atStart => exact ⟨0, by omega, rfl, hide (Below.refl _ _)⟩
      case round =>
        obtain ⟨k, hk, rfl, hb⟩ := hrel
        have r4 := ((unhide hb).cell (p := ⟨ob, 4, none⟩) hob).trans (unhide HC4)
        by_cases hlt : k < ES.length
        . have hkn : (k : Int) < ES.length := by omega
          obtain ⟨⟨sa, sn, sc⟩, hs⟩ : ∃ s, ES[k]? = some s := ⟨_, List.getElem?_eq_getElem hlt⟩
          obtain ⟨oa, cap, e, _, _, hr⟩ := (unhide HI).e.at
          rw [unhide HEV] at e
          cases e
          obtain ⟨b, off, rfl, hbl, hr0⟩ := hr (by omega)
          have hcs := (rngS hr0 hs).trans (show _ = some (Value.slice sa sn sc) from rfl)
          have hO := show OwnR rE 100 _ (.slice sa sn sc) (List.replicate sn (owE k)) from ((unhide HI).el k _ hs)
          obtain ⟨oa2, cap2, e2, _, hm2, hr2⟩ := hO.at
          rw [List.length_replicate] at e2 hm2 hr2
          cases e2
          have HCS := hide hcs
          have HR2 := hide hr2
          have rs := ((unhide hb).cell (p := ⟨b, off + k, none⟩) hbl).trans hcs
          have hm3 : (sn : Int) <= 9223372036854775807 := by unfold maxLen at hm2; omega
          have HR4 := hide r4
          have HRS := hide rs
          have hl1 := (unhide hb).size
          clear hr hr0 hcs hO hr2 hm2
          go_wp2_with fail
          clear r4 rs
          go_loopw [10, 11] (fun i _ w3 => ∃ t : Nat, t <= sn /\ i = .int .i64 t /\ Hid (Below wr.heap.size wr w3)) (fun i _ _ => sn - (intOf i).toNat)
          case atStart => exact ⟨0, by omega, rfl, hide (Below.refl _ _)⟩
          case round =>
            obtain ⟨t, ht, rfl, hb3⟩ := hrel
            have q4 := ((unhide hb3).cell (p := ⟨ob, 4, none⟩) (by show ob < _; omega)).trans (unhide HR4)
            have qs := ((unhide hb3).cell (p := ⟨b, off + k, none⟩) (by show b < _; omega)).trans (unhide HRS)
            by_cases htl : t < sn
            . have htn : (t : Int) < sn := by omega
              obtain ⟨b2, off2, rfl, hb2, hr5⟩ := unhide HR2 (by omega)
              have hb4 := (unhide hb).trans ((unhide hb3).mono (unhide hb).size)
              have hrow := rngE hr5 (k := t) (by rw [List.length_replicate]; exact htl)
              rw [gf_rep htl] at hrow
              have hrgW : ∀ W, Below wr.heap.size wr W -> W.rangeAt b2 (off2 + t * 25 + 1) (fc zf).toList := fun W hW j u hu => by
                rw [<- eF_owE k] at hu
                have hj : j < 24 := by have := (List.getElem?_eq_some_iff.1 hu).1; rw [Array.length_toList, fc_size] at this; exact this
                rw [Array.getElem?_toList, fc_at _ _ hj] at hu
                cases hu
                have := ((hb4.trans (hW.mono hb4.size)).cell (p := ⟨b2, off2 + t * 25 + (1 + j), none⟩) hb2).trans (cc_rng hrow (1 + j) (by omega))
                rw [Nat.add_assoc (off2 + t * 25)]
                exact this
              have hrg := hrgW wr (Below.refl _ _)
              have HOP := hide (fun W (hW : Below wr.heap.size wr W) => ((hb4.trans (hW.mono hb4.size)).cell (p := ⟨b2, off2 + t * 25 + 0, none⟩) hb2).trans (cc_rng hrow 0 (by omega)))
              have hl3 := (unhide hb3).size
              have HQ4 := hide q4
              have HQS := hide qs
              clear hr5 hrow hb4 hrgW
              go_wp2_with (first | refine ldG 66 (fc zf) Tryz.underlying66 rfl (szf _) b2 (off2 + t * 25 + 1) hrg rfl _ rfl rfl ?_ | refine wlV _ _ (run_b0 _ _ rfl _) rfl ?_)
              refine (sameFeature_eq zf _).mono ?_
              rintro e w6 ⟨rfl, hb6⟩
              have p4 := (hb6.cell (p := ⟨ob, 4, none⟩) (by show ob < _; omega)).trans (unhide HQ4)
              have ps := (hb6.cell (p := ⟨b, off + k, none⟩) (by show b < _; omega)).trans (unhide HQS)
              have po : w6.cell? ⟨b2, off2 + t * 25, none⟩ = some (.int .i64 (owI k)) := unhide HOP w6 hb6
              have HB6 := hide ((unhide hb3).trans (hb6.mono (unhide hb3).size))
              have OW := hide (fun W => own_any k W (by omega))
              have b1 : (owI k != owI k) = false := by simp
              clear hb6 q4 qs hrg
              go_wp2_with fail
              go_quiet (exact (unhide OW _).mono fun e w' h => ⟨h.1, _, h.2.symm⟩)
              go_wp2_with fail
              go_roundw
              case rel => exact ⟨t + 1, by omega, by go_num, hide (by repeat first | exact unhide HB6 | refine below_drewN ?_ _ | refine Below.drew ?_)⟩
              case measure => simp [intOf]; omega
            . have htn : t = sn := by omega
              subst htn
              have HB7 := hide ((unhide hb).trans ((unhide hb3).mono (unhide hb).size))
              go_wp2_with fail
              go_roundw
              case rel => exact ⟨k + 1, by omega, by go_num, HB7⟩
              case measure => simp [intOf]; omega
        . have hkn : k = ES.length := by omega
          subst hkn
          go_wp2_with fail
          go_ret
          exact ⟨rfl, unhide hb⟩
end
theorem at_rngF {W : World} {b off n : Nat} {x : Nat -> Int} (h : ∀ i a, (List.replicate n x)[i]? = some a -> W.rangeAt b (off + i * rF.wid) (rF.enc a)) {t : Nat} (ht : t < n) : W.rangeAt b (off + t * 24) (fc x).toList := by
  have := rngF h (k := t) (by rw [List.length_replicate]; exact ht)
  rwa [gf_rep ht] at this
section
variable {w : World} {ob : Nat} {V : OV} {IS FS RS GS ES : List Sli}
set_option maxHeartbeats 12800000 in
theorem looks_any (h : OwnI w ob V IS FS RS GS ES) (h1 : IS.length <= 1900000000000) (h2 : FS.length <= 1900000000000) (hM : ∀ W, Below w.heap.size w W -> Calls Tryz.prog 18 #[.pointer (some ⟨ob, 0, none⟩)] W fun e w' => e = .returned (.bool true) /\ Below W.heap.size W w') :
    Calls Tryz.prog 8 #[.pointer (some ⟨ob, 0, none⟩)] w fun e w' => e = .returned (.bool true) /\ Below w.heap.size w w' := by
  obtain ⟨ia, ik, hiv⟩ := h.i.slice
  obtain ⟨fa, fk, hfv⟩ := h.f.slice
  have HC0 := hide (show w.cell? ⟨ob, 0, none⟩ = some (.slice ia IS.length ik) by rw [h.cells 0]; show some V.iv = _; rw [hiv])
  have HC1 := hide (show w.cell? ⟨ob, 1, none⟩ = some (.slice fa FS.length fk) by rw [h.cells 1]; show some V.fv = _; rw [hfv])
  have hob := blk_lt h.blk
  have HI := hide h
  have HIV := hide hiv
  have HFV := hide hfv
  have HM := hide hM
  clear h hiv hfv hM
  go_enter Tryz.func8, Tryz.ntmps8
  go_wp2_with fail
  go_loopw [3, 4] (fun i _ wr => ∃ k : Nat, k <= IS.length /\ i = .int .i64 k /\ Hid (Below w.heap.size w wr)) (fun i _ _ => IS.length - (intOf i).toNat)
  case atStart => exact ⟨0, by omega, rfl, hide (Below.refl _ _)⟩
  case round =>
    obtain ⟨k, hk, rfl, hb⟩ := hrel
    have r0 := ((unhide hb).cell (p := ⟨ob, 0, none⟩) hob).trans (unhide HC0)
    by_cases hlt : k < IS.length
    . have hkn : (k : Int) < IS.length := by omega
      obtain ⟨⟨sa, sn, sc⟩, hs⟩ : ∃ s, IS[k]? = some s := ⟨_, List.getElem?_eq_getElem hlt⟩
      obtain ⟨oa, cap, e, _, _, hr⟩ := (unhide HI).i.at
      rw [unhide HIV] at e
      cases e
      obtain ⟨b, off, rfl, hbl, hr0⟩ := hr (by omega)
      have hcs := (rngS hr0 hs).trans (show _ = some (Value.slice sa sn sc) from rfl)
      have hO := show OwnR rI 3 _ (.slice sa sn sc) (List.replicate sn (owI k)) from ((unhide HI).il k _ hs)
      obtain ⟨oa2, cap2, e2, _, hm2, hr2⟩ := hO.at
      rw [List.length_replicate] at e2 hm2 hr2
      cases e2
      have HR2 := hide hr2
      have rs := ((unhide hb).cell (p := ⟨b, off + k, none⟩) hbl).trans hcs
      have hm3 : (sn : Int) <= 9223372036854775807 := by unfold maxLen at hm2; omega
      have HR0 := hide r0
      have HRS := hide rs
      have hl1 := (unhide hb).size
      clear hr hr0 hcs hO hr2 hm2
      go_wp2_with fail
      clear r0 rs
      go_loopw [4] (fun i w3 => ∃ t : Nat, t <= sn /\ i = .int .i64 t /\ Hid (Below wr.heap.size wr w3)) (fun i _ => sn - (intOf i).toNat)
      case atStart => exact ⟨0, by omega, rfl, hide (Below.refl _ _)⟩
      case round =>
        obtain ⟨t, ht, rfl, hb3⟩ := hrel
        have q0 := ((unhide hb3).cell (p := ⟨ob, 0, none⟩) (by show ob < _; omega)).trans (unhide HR0)
        have qs := ((unhide hb3).cell (p := ⟨b, off + k, none⟩) (by show b < _; omega)).trans (unhide HRS)
        by_cases htl : t < sn
        . have htn : (t : Int) < sn := by omega
          obtain ⟨b2, off2, rfl, hb2, hr5⟩ := unhide HR2 (by omega)
          have hb4 := (unhide hb).trans ((unhide hb3).mono (unhide hb).size)
          have po := (hb4.cell (p := ⟨b2, off2 + t, none⟩) hb2).trans (rngI hr5 (show (List.replicate sn (owI k))[t]? = some (owI k) by rw [List.getElem?_replicate, if_pos htl]))
          have OW := hide (fun W => own_any k W (by omega))
          have b1 : (owI k != owI k) = false := by simp
          clear hr5 hb4
          go_wp2_with fail
          go_quiet (exact (unhide OW _).mono fun e w' h => ⟨h.1, _, h.2.symm⟩)
          go_wp2_with fail
          go_roundw
          case rel => exact ⟨t + 1, by omega, by go_num, hide (by repeat first | exact unhide hb3 | refine below_drewN ?_ _ | refine Below.drew ?_)⟩
          case measure => simp [intOf]; omega
        . have htn : t = sn := by omega
          subst htn
          have HB7 := hide ((unhide hb).trans ((unhide hb3).mono (unhide hb).size))
          go_wp2_with fail
          go_roundw
          case rel => exact ⟨k + 1, by omega, by go_num, HB7⟩
          case measure => simp [intOf]; omega
    . have hkn : k = IS.length := by omega
      subst hkn
      have r1 := ((unhide hb).cell (p := ⟨ob, 1, none⟩) hob).trans (unhide HC1)
      have hl0 := (unhide hb).size
      go_wp2_with fail
      clear r0 r1
      go_loopw [5, 6, 7] (fun i _ _ w2 => ∃ k : Nat, k <= FS.length /\ i = .int .i64 k /\ Hid (Below w.heap.size w w2)) (fun i _ _ _ => FS.length - (intOf i).toNat)
      case atStart => exact ⟨0, by omega, rfl, hb⟩
      case round =>
        obtain ⟨k, hk, rfl, hb⟩ := hrel
        have r0 := ((unhide hb).cell (p := ⟨ob, 1, none⟩) hob).trans (unhide HC1)
        by_cases hlt : k < FS.length
        . have hkn : (k : Int) < FS.length := by omega
          obtain ⟨⟨sa, sn, sc⟩, hs⟩ : ∃ s, FS[k]? = some s := ⟨_, List.getElem?_eq_getElem hlt⟩
          obtain ⟨oa, cap, e, _, _, hr⟩ := (unhide HI).f.at
          rw [unhide HFV] at e
          cases e
          obtain ⟨b, off, rfl, hbl, hr0⟩ := hr (by omega)
          have hcs := (rngS hr0 hs).trans (show _ = some (Value.slice sa sn sc) from rfl)
          have hO := show OwnR rF 66 _ (.slice sa sn sc) (List.replicate sn (owF k)) from ((unhide HI).fl k _ hs)
          obtain ⟨oa2, cap2, e2, _, hm2, hr2⟩ := hO.at
          rw [List.length_replicate] at e2 hm2 hr2
          cases e2
          have HR2 := hide hr2
          have rs := ((unhide hb).cell (p := ⟨b, off + k, none⟩) hbl).trans hcs
          have hm3 : (sn : Int) <= 9223372036854775807 := by unfold maxLen at hm2; omega
          have HR0 := hide r0
          have HRS := hide rs
          have hl1 := (unhide hb).size
          clear hr hr0 hcs hO hr2 hm2
          go_wp2_with fail
          clear r0 rs
          go_loopw [6, 7] (fun i _ w3 => ∃ t : Nat, t <= sn /\ i = .int .i64 t /\ Hid (Below wr.heap.size wr w3)) (fun i _ _ => sn - (intOf i).toNat)
          case atStart => exact ⟨0, by omega, rfl, hide (Below.refl _ _)⟩
          case round =>
            obtain ⟨t, ht, rfl, hb3⟩ := hrel
            have hl3 := (unhide hb3).size
            have q0 := ((unhide hb3).cell (p := ⟨ob, 1, none⟩) (by show ob < _; omega)).trans (unhide HR0)
            have qs := ((unhide hb3).cell (p := ⟨b, off + k, none⟩) (by show b < _; omega)).trans (unhide HRS)
            by_cases htl : t < sn
            . have htn : (t : Int) < sn := by omega
              obtain ⟨b2, off2, rfl, hb2, hr5⟩ := unhide HR2 (by omega)
              have hb4 := (unhide hb).trans ((unhide hb3).mono (unhide hb).size)
              have Q0 : ∀ W, Below wr.heap.size wr W -> W.cell? ⟨ob, 1, none⟩ = some (.slice (some ⟨b, off, none⟩) FS.length fk) := fun W hW => (hW.cell (p := ⟨ob, 1, none⟩) (by show ob < _; omega)).trans q0
              have QS : ∀ W, Below wr.heap.size wr W -> W.cell? ⟨b, off + k, none⟩ = some (.slice (some ⟨b2, off2, none⟩) sn sc) := fun W hW => (hW.cell (p := ⟨b, off + k, none⟩) (by show b < _; omega)).trans qs
              have RG : ∀ W, Below wr.heap.size wr W -> W.rangeAt b2 (off2 + t * 24) (fc (owF k)).toList := fun W hW j u hu => ((hb4.trans (hW.mono hb4.size)).cell (p := ⟨b2, off2 + t * 24 + j, none⟩) hb2).trans (at_rngF hr5 htl j u hu)
              have OW : ∀ W, Calls Tryz.prog 16 #[.int .i64 (k : Nat)] W fun e w' => e = .returned (.int .i64 (owI k)) /\ Below W.heap.size W w' := fun W => (own_any k W (by omega)).mono fun e w' h => ⟨h.1, by rw [<- h.2]; exact Below.refl _ _⟩
              have SE := fun W => sameFeature_eq (owF k) W
              clear hr5 hb4
              go_wp2_with fail
              clear q0 qs
              refine region_bq (by kernel_rfl) (by kernel_rfl) ?_
              refine q_move rfl _ rfl (.pointer (some ⟨ob, 0, none⟩)) rfl ?_
              simp only [Act.put, qA, qB, qC]
              refine q_val rfl (.pointer (some ⟨ob, 0, none⟩)) (fun _ _ => by simp [go_sem]) ?_
              simp only [Act.put, qA, qB, qC]
              refine q_val rfl (.pointer (some ⟨ob, 1, none⟩)) (fun _ _ => by simp [go_sem]) ?_
              simp only [Act.put, qA, qB, qC]
              refine q_val rfl (.slice (some ⟨b, off, none⟩) FS.length fk) (fun w' h => by simp [go_sem, Q0 w' h]) ?_
              simp only [Act.put, qA, qB, qC]
              refine q_move rfl _ rfl (.int .i64 k) rfl ?_
              simp only [Act.put, qA, qB, qC]
              refine q_val rfl (.pointer (some ⟨b, off + k, none⟩)) (fun _ _ => by simp [go_sem, hkn]) ?_
              simp only [Act.put, qA, qB, qC]
              refine q_val rfl (.slice (some ⟨b2, off2, none⟩) sn sc) (fun w' h => by simp [go_sem, QS w' h]) ?_
              simp only [Act.put, qA, qB, qC]
              refine q_move rfl _ rfl (.int .i64 t) rfl ?_
              simp only [Act.put, qA, qB, qC]
              refine q_val rfl (.pointer (some ⟨b2, off2 + t * 24, none⟩)) (fun _ _ => by simp [go_sem, htn]) ?_
              simp only [Act.put, qA, qB, qC]
              refine q_load rfl 66 _ rfl b2 (off2 + t * 24) rfl (fc (owF k)) _ Tryz.underlying66 rfl (szf _) RG ?_
              simp only [Act.put, qA, qB, qC]
              refine q_move rfl _ rfl (.int .i64 k) rfl ?_
              simp only [Act.put, qA, qB, qC]
              refine q_call rfl 16 #[.int .i64 k] (fun _ => by simp [go_sem]) _ OW ?_
              simp only [Act.put, qA, qB, qC]
              refine q_val rfl (.agg (fc (owF k))) (fun w' _ => run_bF k _ _ _ rfl rfl w') ?_
              simp only [Act.put, qA, qB, qC]
              refine q_call rfl 17 #[.agg (fc (owF k)), .agg (fc (owF k))] (fun _ => by simp [go_sem]) _ SE ?_
              simp only [Act.put, qA, qB, qC]
              refine q_val rfl (.bool true) (fun _ _ => by simp [go_sem]) ?_
              simp only [Act.put, qA, qB, qC]
              refine wpQuiet_nil ?_
              intro w6 hw6
              have HB6 := hide ((unhide hb3).trans (hw6.mono (unhide hb3).size))
              clear hw6 SE OW RG Q0 QS
              go_wp2_with fail
              go_roundw
              case rel => exact ⟨t + 1, by omega, by go_num, HB6⟩
              case measure => simp [intOf]; omega
            . have htn : t = sn := by omega
              subst htn
              have HB7 := hide ((unhide hb).trans ((unhide hb3).mono (unhide hb).size))
              go_wp2_with fail
              go_roundw
              case rel => exact ⟨k + 1, by omega, by go_num, HB7⟩
              case measure => simp [intOf]; omega
        . have hkn : k = FS.length := by omega
          subst hkn
          have HM2 := hide (unhide HM wr (unhide hb))
          go_wp2_with fail
          refine (unhide HM2).mono ?_
          rintro e w6 ⟨rfl, hb6⟩
          have HB6 := hide ((unhide hb).trans (hb6.mono (unhide hb).size))
          clear hb6
          go_wp2_with fail
          go_ret
          exact ⟨rfl, unhide HB6⟩
theorem looks_st (h : OwnI w ob V IS FS [] [] ES) (h1 : IS.length <= 1900000000000) (h2 : FS.length <= 1900000000000) (h3 : ES.length <= 1900000000000) :
    Calls Tryz.prog 8 #[.pointer (some ⟨ob, 0, none⟩)] w fun e w' => e = .returned (.bool true) /\ Below w.heap.size w w' :=
  looks_any h h1 h2 fun _ hb => more_any (h.on hb) h3
end
section
variable {w : World} {sb : Nat} {keep : Int} {n : Nat} {sl pv : Value} {LS : List (Nat -> Int)} {PI : List Int}
set_option maxHeartbeats 3200000 in
theorem xHeld_any (hs : StP w sb keep (n : Nat) sl pv LS (ri PI)) (hl : PI.length <= 6) (hk : 0 <= keep /\ keep <= 4) (hn : n <= 100) :
    Calls Tryz.prog 57 #[.pointer (some ⟨sb, 0, none⟩)] w fun en w' => ∃ rv, en = .returned rv /\ OwnR rI 3 w' rv (hldL keep n PI (n + 1)) /\ (∀ g, rv.ownBlock = some g -> w.heap.size <= g) /\ Below w.heap.size w w' := by
  obtain ⟨_, c1, _, _⟩ := hs.cells
  have hlr := hs.lt
  have HS := hide hs
  have HC1 := hide c1
  have HO0 := hide (ownR_lit (R := rI) (T := 3) w [] #[] rfl (by simp))
  have HB0 := hide (below_one w (.cells #[] 3))
  clear hs c1
  go_enter Tryz.func57, Tryz.ntmps57
  go_wp2_with fail
  go_loopw [3, 4] (fun lv i wr => ∃ k : Nat, k <= n + 1 /\ i = .int .i64 k /\ Hid (OwnR rI 3 wr lv (hldL keep n PI k)) /\ Hid (∀ g, lv.ownBlock = some g -> w.heap.size <= g) /\ Hid (Below w.heap.size w wr)) (fun _ i _ => n + 1 - (intOf i).toNat)
  case atStart => exact ⟨0, by omega, rfl, HO0, hide (fun g hg => by simp [Value.ownBlock] at hg; omega), HB0⟩
  case round =>
    obtain ⟨k, hk', rfl, ho, hf, hb⟩ := hrel
    have r1 := ((unhide hb).cell (p := ⟨sb, 1, none⟩) hlr).trans (unhide HC1)
    by_cases hlt : k <= n
    . have hkn : (k : Int) <= n := by omega
      have HI := hide (isHeld_any sb keep (n : Nat) sl pv LS (ri PI) (k : Nat) wr ((unhide HS).on (unhide hb)) (by rw [ri_len]; omega) hk (by omega))
      obtain ⟨B, hB⟩ : ∃ B, heldB keep (n : Nat) (ri PI) (k : Nat) = B := ⟨_, rfl⟩
      have HSC := hide (hldL_succ keep n PI k)
      rw [hB] at HI HSC
      clear hB
      go_wp2_with fail
      refine (unhide HI).mono ?_
      rintro en w2 ⟨rfl, hb2⟩
      have HO2 := hide ((unhide ho).on hb2)
      have HB2 := hide ((unhide hb).trans (hb2.mono (unhide hb).size))
      clear hb2 r1
      cases B with
      | false =>
        go_wp2_with fail
        go_roundw
        case rel => exact ⟨k + 1, by omega, by go_num, by rw [unhide HSC, cond_false, List.append_nil]; exact HO2, hf, HB2⟩
        case measure => simp [intOf]; omega
      | true =>
        have hll := hldL_len keep n PI k
        obtain ⟨v3, w3, r1, r2, r3, r4⟩ := apI ((unhide HO2).on ((Below.refl _ _).alloc (Nat.le_refl _) (.cells #[.int .i64 (k : Int)] 3))) (at_new rI 3 w2 (k : Int) #[.int .i64 (k : Int)] rfl) (by simp; omega)
        have HO3 : Hid (OwnR rI 3 w3 v3 (hldL keep n PI (k + 1))) := by rw [unhide HSC]; exact r2
        have HF3 : Hid (∀ g, v3.ownBlock = some g -> w.heap.size <= g) := fun g hg => by
          rcases r4 with r4 | r4
          . exact unhide hf g (r4 ▸ hg)
          . have q1 := r4 g hg; have := (unhide HB2).size; simp at q1; omega
        have HB3 := hide (((unhide HB2).alloc (unhide HB2).size _).grown r3 (by have := (unhide HB2).size; simp; omega) (fun g hg => unhide hf g hg))
        clear r2 r3 r4
        go_wp2_with (first | refine wlV _ _ (bsI (k : Int) _ _ _ rfl rfl _) rfl ?_ | (at_builtin; refine wlR 60 r1 rfl _ _ rfl rfl rfl rfl ?_))
        go_roundw
        case rel => exact ⟨k + 1, by omega, by go_num, HO3, HF3, HB3⟩
        case measure => simp [intOf]; omega
    . have hkn : k = n + 1 := by omega
      subst hkn
      have hkv : ¬ ((n + 1 : Nat) : Int) <= n := by omega
      go_wp2_with fail
      go_ret
      exact ⟨_, rfl, unhide ho, unhide hf, unhide hb⟩
theorem Apply_big {v : Value} {k : Nat} {es : Nat -> Nat -> Int} (hv : CsAt 25 w v k es) (hk : 8 < k) (sb : Nat) :
    Calls Tryz.prog 26 #[.pointer (some ⟨sb, 0, none⟩), v] w fun e w' => e = .returned (.tuple #[.int .i64 0, .int .i64 8]) /\ w = w' := by
  obtain ⟨oa, cap, rfl, hm, _⟩ := hv
  have h1 : ¬ (k : Int) < 1 := by omega
  have h2 : (8 : Int) < k := by omega
  unfold maxLen at hm
  go_enter Tryz.func26, Tryz.ntmps26
  go_wp2_with fail
  go_ret2
  exact ⟨rfl, rfl⟩
set_option maxHeartbeats 1600000 in
theorem Read_arg (hs : StP w sb keep (n : Nat) sl pv LS (ri PI)) (v a m : Int) (hl : PI.length <= 6) (hk : 0 <= keep /\ keep <= 4) (hn : n <= 100) (hh : heldB keep (n : Nat) (ri PI) v = true) (hm : m < 1 \/ 8 < m) :
    Calls Tryz.prog 34 #[.pointer (some ⟨sb, 0, none⟩), .int .i64 v, .int .i64 a, .int .i64 m] w fun e w' => e = .returned (.tuple #[.slice none 0 0, .int .i64 14]) /\ Below w.heap.size w w' := by
  have H := isHeld_any sb keep (n : Nat) sl pv LS (ri PI) v w hs (by rw [ri_len]; omega) hk (by omega)
  rw [hh] at H
  have HI := hide H
  clear H hs
  go_enter Tryz.func34, Tryz.ntmps34
  go_wp2_with fail
  refine (unhide HI).mono ?_
  rintro e w1 ⟨rfl, hb1⟩
  have HB1 := hide hb1
  clear hb1
  by_cases h1 : m < 1
  . clear hm
    go_wp2_with fail
    go_ret2
    exact ⟨rfl, unhide HB1⟩
  . have h2 : 8 < m := by omega
    clear hm
    go_wp2_with fail
    go_ret2
    exact ⟨rfl, unhide HB1⟩
set_option maxHeartbeats 3200000 in
theorem Stamp_key (v l z x y : Int) (sb : Nat) (he : keyErr l z x y ≠ 0) :
    Calls Tryz.prog 38 #[.pointer (some ⟨sb, 0, none⟩), .int .i64 v, .agg #[.int .i64 l, .int .i64 z, .int .i64 x, .int .i64 y]] w fun e w' => e = .returned (.tuple #[.int .i64 0, .int .i64 (keyErr l z x y)]) /\ Below w.heap.size w w' := by
  have hA := heap_alloc_new w (.cells #[.int .i64 l, .int .i64 z, .int .i64 x, .int .i64 y] 39 (0, 0))
  have HB0 := hide (below_one w (.cells #[.int .i64 l, .int .i64 z, .int .i64 x, .int .i64 y] 39))
  have hrg := rng_blk hA
  have K := fun W => keyError_any l z x y W
  obtain ⟨E, hE⟩ : ∃ E, keyErr l z x y = E := ⟨_, rfl⟩
  rw [hE] at K he ⊢
  have HK := hide K
  clear K hE hA
  go_enter Tryz.func38, Tryz.ntmps38
  go_wp2_with (refine ldG 39 #[.int .i64 l, .int .i64 z, .int .i64 x, .int .i64 y] Tryz.underlying39 rfl (sz28 l z x y) w.heap.size 0 hrg rfl _ rfl rfl ?_)
  refine (unhide HK _).mono ?_
  rintro e w1 ⟨rfl, hb1⟩
  have HB1 := hide ((unhide HB0).trans (hb1.mono (by simp)))
  clear hb1 hrg
  go_wp2_with fail
  go_ret2
  exact ⟨rfl, unhide HB1⟩
set_option maxHeartbeats 3200000 in
theorem Stamp_neg (v l z x y : Int) (sb : Nat) (he : keyErr l z x y = 0) (hv : v < 0) :
    Calls Tryz.prog 38 #[.pointer (some ⟨sb, 0, none⟩), .int .i64 v, .agg #[.int .i64 l, .int .i64 z, .int .i64 x, .int .i64 y]] w fun e w' => e = .returned (.tuple #[.int .i64 0, .int .i64 12]) /\ Below w.heap.size w w' := by
  have hA := heap_alloc_new w (.cells #[.int .i64 l, .int .i64 z, .int .i64 x, .int .i64 y] 39 (0, 0))
  have HB0 := hide (below_one w (.cells #[.int .i64 l, .int .i64 z, .int .i64 x, .int .i64 y] 39))
  have hrg := rng_blk hA
  have K := fun W => keyError_any l z x y W
  rw [he] at K
  have HK := hide K
  clear K hA he
  go_enter Tryz.func38, Tryz.ntmps38
  go_wp2_with (refine ldG 39 #[.int .i64 l, .int .i64 z, .int .i64 x, .int .i64 y] Tryz.underlying39 rfl (sz28 l z x y) w.heap.size 0 hrg rfl _ rfl rfl ?_)
  refine (unhide HK _).mono ?_
  rintro e w1 ⟨rfl, hb1⟩
  have HB1 := hide ((unhide HB0).trans (hb1.mono (by simp)))
  clear hb1 hrg
  go_wp2_with fail
  go_ret2
  exact ⟨rfl, unhide HB1⟩
theorem New_no (k : Int) (w : World) (h : k < 0 \/ 4 < k) : Calls Tryz.prog 21 #[.int .i64 k] w fun e w' => e = .returned (.tuple #[.pointer none, .int .i64 15]) /\ w = w' := by
  by_cases h1 : k < 0
  . clear h
    go_enter Tryz.func21, Tryz.ntmps21
    go_wp2_with fail
    go_ret2
    exact ⟨rfl, rfl⟩
  . have h2 : 4 < k := by omega
    clear h
    go_enter Tryz.func21, Tryz.ntmps21
    go_wp2_with fail
    go_ret2
    exact ⟨rfl, rfl⟩
theorem xStamp_any (v l z x y : Int) {bs : List Bat} (hs : StP w sb keep (bs.length : Nat) sl pv LS (ri PI)) (hp : PR LS bs) :
    Calls Tryz.prog 38 #[.pointer (some ⟨sb, 0, none⟩), .int .i64 v, .agg #[.int .i64 l, .int .i64 z, .int .i64 x, .int .i64 y]] w fun e w' => e = .returned (.tuple #[.int .i64 (stA bs v l z x y).1, .int .i64 (stA bs v l z x y).2]) /\ Below w.heap.size w w' := by
  have hS : Sto w sb keep (bs.length : Nat) sl pv LS := ⟨hs.blk, hs.own⟩
  have hm := hp.max
  unfold stA
  by_cases h0 : keyErr l z x y = 0
  . rw [if_pos h0]
    by_cases h1 : v < 0 \/ ((bs.length : Nat) : Int) < v
    . rw [if_pos h1]
      by_cases h2 : v < 0
      . exact Stamp_neg v l z x y sb h0 h2
      . exact Stamp_no sb keep (bs.length : Nat) sl pv LS v l z x y w hS h0 (by omega) (by omega)
    . rw [if_neg h1]
      obtain ⟨m, rfl⟩ : ∃ m : Nat, v = m := ⟨v.toNat, by omega⟩
      have := Stamp_any sb keep (bs.length : Nat) sl pv LS (m : Nat) l z x y w hS (by have := hp.le; omega) h0 (by omega)
      rw [hp.stm m (by omega) l z x y] at this
      rw [Int.toNat_natCast]
      exact this
  . rw [if_neg h0]
    exact Stamp_key v l z x y sb h0
end
structure DV where
  sb : Nat
  sl : Value
  pv : Value
  LS : List (Nat -> Int)
  rb : Nat
  bv : Value
  rp : Value
  SL : List Sli
  keep : Int
  bs : List Bat
  PI : List Int
def XF (d : DV) (k : Nat) : Prop := k = d.sb \/ d.sl.ownBlock = some k \/ d.pv.ownBlock = some k
def RF (d : DV) (k : Nat) : Prop := k = d.rb \/ d.bv.ownBlock = some k \/ d.rp.ownBlock = some k \/ ∃ s ∈ d.SL, s.v.ownBlock = some k
def DFoot (d : DV) (k : Nat) : Prop := XF d k \/ RF d k
abbrev XSt (w : World) (d : DV) : Prop := StP w d.sb d.keep (d.bs.length : Nat) d.sl d.pv d.LS (ri d.PI)
abbrev RS' (w : World) (d : DV) : Prop := RSt w d.rb d.keep d.bv d.rp d.SL d.bs d.PI
structure Dep (w : World) (d : DV) : Prop where
  x : XSt w d
  r : RS' w d
  pr : PR d.LS d.bs
  k : 0 <= d.keep /\ d.keep <= 4
  p : d.PI.length <= 6
  b8 : ∀ k, k < d.bs.length -> (btc d.bs k).length <= 8
  dj : ∀ g, d.pv.ownBlock = some g -> d.rp.ownBlock ≠ some g
theorem StP.frmS {w w' : World} {sb : Nat} {keep ver : Int} {sl pv : Value} {LS PL : List (Nat -> Int)} {S : Nat -> Prop} (h : StP w sb keep ver sl pv LS PL) (hF : Frm S w w') (h0 : ¬ S sb) (h1 : ∀ k, sl.ownBlock = some k -> ¬ S k) (h2 : ∀ k, pv.ownBlock = some k -> ¬ S k) : StP w' sb keep ver sl pv LS PL :=
  ⟨blk_frm h.blk hF h0, h.own.same fun g hg => hF.block g (h.own.lt g hg).2 (h1 g hg), h.pins.same fun g hg => hF.block g (h.pins.lt g hg).2 (h2 g hg)⟩
theorem RSt.frm {w w' : World} {rb : Nat} {keep : Int} {bv pv : Value} {SL : List Sli} {bs : List Bat} {PI : List Int} {S : Nat -> Prop} (h : RSt w rb keep bv pv SL bs PI) (hF : Frm S w w') (h0 : ¬ S rb) (h1 : ∀ k, bv.ownBlock = some k -> ¬ S k) (h2 : ∀ k, pv.ownBlock = some k -> ¬ S k) (h3 : ∀ s ∈ SL, ∀ k, s.v.ownBlock = some k -> ¬ S k) : RSt w' rb keep bv pv SL bs PI :=
  ⟨blk_frm h.blk hF h0, h.bat.frm hF h1, h.len, fun i s b hs hb => (h.bts i s b hs hb).frm hF (h3 s (List.mem_of_getElem? hs)), h.pin.frm hF h2⟩
theorem XSt.fr {w w' : World} {d : DV} {S : Nat -> Prop} (h : XSt w d) (hF : Frm S w w') (hS : ∀ k, XF d k -> ¬ S k) : XSt w' d := StP.frmS h hF (hS _ (Or.inl rfl)) (fun k q => hS k (Or.inr (Or.inl q))) (fun k q => hS k (Or.inr (Or.inr q)))
theorem RS'.fr {w w' : World} {d : DV} {S : Nat -> Prop} (h : RS' w d) (hF : Frm S w w') (hS : ∀ k, RF d k -> ¬ S k) : RS' w' d := RSt.frm h hF (hS _ (Or.inl rfl)) (fun k q => hS k (Or.inr (Or.inl q))) (fun k q => hS k (Or.inr (Or.inr (Or.inl q)))) (fun s hs k q => hS k (Or.inr (Or.inr (Or.inr ⟨s, hs, q⟩))))
theorem Dep.frm {w w' : World} {d : DV} {S : Nat -> Prop} (h : Dep w d) (hF : Frm S w w') (hS : ∀ k, DFoot d k -> ¬ S k) : Dep w' d :=
  ⟨XSt.fr h.x hF fun k q => hS k (Or.inl q), RS'.fr h.r hF fun k q => hS k (Or.inr q), h.pr, h.k, h.p, h.b8, h.dj⟩
theorem Dep.on {w w' : World} {d : DV} (h : Dep w d) (hb : Below w.heap.size w w') : Dep w' d := h.frm (S := fun _ => False) (Frm.of_below hb) (fun _ _ q => q)
theorem RSt.sl {w : World} {rb : Nat} {keep : Int} {bv pv : Value} {SL : List Sli} {bs : List Bat} {PI : List Int} (h : RSt w rb keep bv pv SL bs PI) {s : Sli} (hs : s ∈ SL) : ∃ b, OwnR rE 100 w s.v b := by
  obtain ⟨i, hi⟩ := List.mem_iff_getElem?.1 hs
  have hlt : i < bs.length := by rw [<- h.len]; exact (List.getElem?_eq_some_iff.1 hi).1
  exact ⟨_, h.bts i s _ hi (List.getElem?_eq_getElem hlt)⟩
theorem XSt.lt {w : World} {d : DV} (h : XSt w d) {k : Nat} (hk : XF d k) : k < w.heap.size := by
  rcases hk with rfl | q | q
  . exact blk_lt h.blk
  . exact (h.own.lt k q).2
  . exact (h.pins.lt k q).2
theorem RS'.lt {w : World} {d : DV} (h : RS' w d) {k : Nat} (hk : RF d k) : k < w.heap.size := by
  rcases hk with rfl | q | q | ⟨s, hs, q⟩
  . exact blk_lt h.blk
  . exact h.bat.lt q
  . exact h.pin.lt q
  . obtain ⟨b, hb⟩ := h.sl hs
    exact hb.lt q
theorem Dep.lt {w : World} {d : DV} (h : Dep w d) {k : Nat} (hk : DFoot d k) : k < w.heap.size := by
  rcases hk with q | q
  . exact XSt.lt h.x q
  . exact RS'.lt h.r q
theorem Dep.xr {w : World} {d : DV} (h : Dep w d) {k : Nat} (hx : XF d k) (hr : RF d k) : False := by
  have ty : ∀ {c c' : Array Value} {T T' : TypeId}, w.heap[k]? = some (.cells c T (0, 0)) -> w.heap[k]? = some (.cells c' T' (0, 0)) -> T ≠ T' -> False := fun e e' hT => blk_ne e e' hT rfl
  have rt : ∃ (c : Array Value) (T : TypeId), w.heap[k]? = some (.cells c T (0, 0)) /\ (T = 121 \/ T = 40 \/ T = 100 \/ (T = 3 /\ d.rp.ownBlock = some k)) := by
    rcases hr with rfl | q | q | ⟨s, hs, q⟩
    . exact ⟨_, _, h.r.blk, Or.inl rfl⟩
    . obtain ⟨c, e⟩ := h.r.bat.ty q; exact ⟨c, _, e, Or.inr (Or.inl rfl)⟩
    . obtain ⟨c, e⟩ := h.r.pin.ty q; exact ⟨c, _, e, Or.inr (Or.inr (Or.inr ⟨rfl, q⟩))⟩
    . obtain ⟨b, hb⟩ := h.r.sl hs
      obtain ⟨c, e⟩ := hb.ty q
      exact ⟨c, _, e, Or.inr (Or.inr (Or.inl rfl))⟩
  obtain ⟨c, T, e, hT⟩ := rt
  rcases hx with rfl | q | q
  . refine ty h.x.blk e ?_
    rcases hT with rfl | rfl | rfl | ⟨rfl, _⟩ <;> decide
  . obtain ⟨c', e'⟩ := h.x.own.ty q
    refine ty e' e ?_
    rcases hT with rfl | rfl | rfl | ⟨rfl, _⟩ <;> decide
  . obtain ⟨c', e'⟩ := h.x.pins.ty q
    rcases hT with rfl | rfl | rfl | ⟨_, q'⟩
    . exact ty e' e (by decide)
    . exact ty e' e (by decide)
    . exact ty e' e (by decide)
    . exact h.dj k q q'
structure OL where
  V : OV
  IS : List Sli
  FS : List Sli
  RS : List Sli
  GS : List Sli
  ES : List Sli
abbrev OwnL (w : World) (ob : Nat) (O : OL) : Prop := OwnI w ob O.V O.IS O.FS O.RS O.GS O.ES
abbrev OF (ob : Nat) (O : OL) (k : Nat) : Prop := OFoot ob O.V O.IS O.FS O.RS O.GS O.ES k
structure OStp (w : World) (O : OL) (ob : Nat) (O' : OL) : Prop where
  foot : ∀ k, OF ob O' k -> OF ob O k \/ w.heap.size <= k
  il : O'.IS.length <= O.IS.length + 1
  fl : O'.FS.length <= O.FS.length + 1
  rl : O'.RS.length <= O.RS.length + 1
  gl : O'.GS.length <= O.GS.length + 1
  el : O'.ES.length <= O.ES.length + 1
  r0 : O.RS = [] -> O'.RS = []
  g0 : O.GS = [] -> O'.GS = []
theorem OStp.rfl' (w : World) (O : OL) (ob : Nat) : OStp w O ob O := ⟨fun _ q => Or.inl q, by omega, by omega, by omega, by omega, by omega, id, id⟩
structure Pst (w : World) (d : DV) (ob : Nat) (O : OL) (w' : World) (d' : DV) (O' : OL) : Prop where
  dep : Dep w' d'
  own : OwnL w' ob O'
  dj : ∀ k, DFoot d' k -> ¬ OF ob O' k
  frm : Frm (fun k => DFoot d k \/ OF ob O k) w w'
  foot : ∀ k, DFoot d' k -> DFoot d k \/ w.heap.size <= k
  ost : OStp w O ob O'
  sb : d'.sb = d.sb
  rb : d'.rb = d.rb
theorem Pst.plain {w w' : World} {d d' : DV} {ob : Nat} {O : OL} (hO : OwnL w ob O) (hdj : ∀ k, DFoot d k -> ¬ OF ob O k) (hd : Dep w' d') (hF : Frm (DFoot d) w w') (hf : ∀ k, DFoot d' k -> DFoot d k \/ w.heap.size <= k) (hs : d'.sb = d.sb) (hr : d'.rb = d.rb) : Pst w d ob O w' d' O :=
  ⟨hd, OwnI.frm hO hF fun k q q' => hdj k q' q, fun k q q' => by
    rcases hf k q with e | e
    . exact hdj k e q'
    . have := OwnI.lt hO q'; omega, hF.mono fun _ _ q => Or.inl q, hf, OStp.rfl' _ _ _, hs, hr⟩
theorem Pst.still {w w' : World} {d : DV} {ob : Nat} {O : OL} (h : Dep w d) (hO : OwnL w ob O) (hdj : ∀ k, DFoot d k -> ¬ OF ob O k) (hb : Below w.heap.size w w') : Pst w d ob O w' d O :=
  Pst.plain hO hdj (h.on hb) (Frm.of_below hb) (fun _ q => Or.inl q) rfl rfl
theorem Pst.join {w w1 w' : World} {d d1 : DV} {ob : Nat} {O O' : OL} {v : Value} {u : Value} (h : Pst w d ob O w1 d1 O) (hown : OwnL w' ob O') (hF : Frm (fun k => k = ob \/ u.ownBlock = some k \/ v.ownBlock = some k) w1 w') (hu : ∀ k, u.ownBlock = some k -> OF ob O k) (hv : ∀ k, v.ownBlock = some k -> w.heap.size <= k /\ ¬ DFoot d1 k)
    (hf : ∀ k, OF ob O' k -> OF ob O k \/ v.ownBlock = some k \/ w1.heap.size <= k) (hst : O'.IS.length <= O.IS.length + 1 /\ O'.FS.length <= O.FS.length + 1 /\ O'.RS.length <= O.RS.length + 1 /\ O'.GS.length <= O.GS.length + 1 /\ O'.ES.length <= O.ES.length + 1) (h0 : (O.RS = [] -> O'.RS = []) /\ (O.GS = [] -> O'.GS = [])) : Pst w d ob O w' d1 O' := by
  have hsz := h.frm.size
  refine ⟨h.dep.frm hF fun k q q' => ?_, hown, fun k q q' => ?_, h.frm.then hF fun k hk q => ?_, h.foot, ⟨fun k q => ?_, hst.1, hst.2.1, hst.2.2.1, hst.2.2.2.1, hst.2.2.2.2, h0.1, h0.2⟩, h.sb, h.rb⟩
  . rcases q' with rfl | q' | q'
    . exact h.dj _ q (Or.inl rfl)
    . exact h.dj k q (hu k q')
    . exact (hv k q').2 q
  . rcases hf k q' with e | e | e
    . exact h.dj k q e
    . exact (hv k e).2 q
    . have := h.dep.lt q; omega
  . rcases q with rfl | q | q
    . exact Or.inr (Or.inl rfl)
    . exact Or.inr (hu k q)
    . have := (hv k q).1; omega
  . rcases hf k q with e | e | e
    . exact Or.inl e
    . exact Or.inr (hv k e).1
    . exact Or.inr (by omega)
section
variable {w w1 w' : World} {d d1 : DV} {ob : Nat} {O : OL} {v : Value} {e : Ending}
theorem Pst.joinI (h : Pst w d ob O w1 d1 O) (hK : KeptI w1 ob O.V O.IS O.FS O.RS O.GS O.ES v e w') (hv : ∀ k, v.ownBlock = some k -> w.heap.size <= k /\ ¬ DFoot d1 k) : e = .returned (.tuple #[]) /\ ∃ O', Pst w d ob O w' d1 O' := by
  obtain ⟨he, s, x, hs, hown, hF, hx⟩ := hK
  refine ⟨he, { O with V := { O.V with iv := x }, IS := O.IS ++ [s] }, h.join (u := O.V.iv) (v := v) hown hF (fun k q => ?_) hv (fun k q => ?_) ⟨by simp, by simp, by simp, by simp, by simp⟩ ⟨id, id⟩⟩
  . exact Or.inr (Or.inl q)
  . rcases q with rfl | q | q | q | q | q | ⟨t, ht, q⟩
    . exact Or.inl (Or.inl rfl)
    . rcases hx with hx | hx
      . exact Or.inl (Or.inr (Or.inl (hx ▸ q)))
      . exact Or.inr (Or.inr (hx k q))
    . exact Or.inl (Or.inr (Or.inr (Or.inl q)))
    . exact Or.inl (Or.inr (Or.inr (Or.inr (Or.inl q))))
    . exact Or.inl (Or.inr (Or.inr (Or.inr (Or.inr (Or.inl q)))))
    . exact Or.inl (Or.inr (Or.inr (Or.inr (Or.inr (Or.inr (Or.inl q))))))
    . rcases ht with ht | ht | ht | ht | ht
      . rcases List.mem_append.1 ht with ht | ht
        . exact Or.inl (Or.inr (Or.inr (Or.inr (Or.inr (Or.inr (Or.inr (⟨t, Or.inl ht, q⟩)))))))
        . rw [List.mem_singleton] at ht
          subst ht
          exact Or.inr (Or.inl (hs ▸ q))
      . exact Or.inl (Or.inr (Or.inr (Or.inr (Or.inr (Or.inr (Or.inr (⟨t, Or.inr (Or.inl ht), q⟩)))))))
      . exact Or.inl (Or.inr (Or.inr (Or.inr (Or.inr (Or.inr (Or.inr (⟨t, Or.inr (Or.inr (Or.inl ht)), q⟩)))))))
      . exact Or.inl (Or.inr (Or.inr (Or.inr (Or.inr (Or.inr (Or.inr (⟨t, Or.inr (Or.inr (Or.inr (Or.inl ht))), q⟩)))))))
      . exact Or.inl (Or.inr (Or.inr (Or.inr (Or.inr (Or.inr (Or.inr (⟨t, Or.inr (Or.inr (Or.inr (Or.inr (ht)))), q⟩)))))))
theorem Pst.joinF (h : Pst w d ob O w1 d1 O) (hK : KeptF w1 ob O.V O.IS O.FS O.RS O.GS O.ES v e w') (hv : ∀ k, v.ownBlock = some k -> w.heap.size <= k /\ ¬ DFoot d1 k) : e = .returned (.tuple #[]) /\ ∃ O', Pst w d ob O w' d1 O' := by
  obtain ⟨he, s, x, hs, hown, hF, hx⟩ := hK
  refine ⟨he, { O with V := { O.V with fv := x }, FS := O.FS ++ [s] }, h.join (u := O.V.fv) (v := v) hown hF (fun k q => ?_) hv (fun k q => ?_) ⟨by simp, by simp, by simp, by simp, by simp⟩ ⟨id, id⟩⟩
  . exact Or.inr (Or.inr (Or.inl q))
  . rcases q with rfl | q | q | q | q | q | ⟨t, ht, q⟩
    . exact Or.inl (Or.inl rfl)
    . exact Or.inl (Or.inr (Or.inl q))
    . rcases hx with hx | hx
      . exact Or.inl (Or.inr (Or.inr (Or.inl (hx ▸ q))))
      . exact Or.inr (Or.inr (hx k q))
    . exact Or.inl (Or.inr (Or.inr (Or.inr (Or.inl q))))
    . exact Or.inl (Or.inr (Or.inr (Or.inr (Or.inr (Or.inl q)))))
    . exact Or.inl (Or.inr (Or.inr (Or.inr (Or.inr (Or.inr (Or.inl q))))))
    . rcases ht with ht | ht | ht | ht | ht
      . exact Or.inl (Or.inr (Or.inr (Or.inr (Or.inr (Or.inr (Or.inr (⟨t, Or.inl ht, q⟩)))))))
      . rcases List.mem_append.1 ht with ht | ht
        . exact Or.inl (Or.inr (Or.inr (Or.inr (Or.inr (Or.inr (Or.inr (⟨t, Or.inr (Or.inl ht), q⟩)))))))
        . rw [List.mem_singleton] at ht
          subst ht
          exact Or.inr (Or.inl (hs ▸ q))
      . exact Or.inl (Or.inr (Or.inr (Or.inr (Or.inr (Or.inr (Or.inr (⟨t, Or.inr (Or.inr (Or.inl ht)), q⟩)))))))
      . exact Or.inl (Or.inr (Or.inr (Or.inr (Or.inr (Or.inr (Or.inr (⟨t, Or.inr (Or.inr (Or.inr (Or.inl ht))), q⟩)))))))
      . exact Or.inl (Or.inr (Or.inr (Or.inr (Or.inr (Or.inr (Or.inr (⟨t, Or.inr (Or.inr (Or.inr (Or.inr (ht)))), q⟩)))))))
theorem Pst.joinE (h : Pst w d ob O w1 d1 O) (hK : KeptE w1 ob O.V O.IS O.FS O.RS O.GS O.ES v e w') (hv : ∀ k, v.ownBlock = some k -> w.heap.size <= k /\ ¬ DFoot d1 k) : e = .returned (.tuple #[]) /\ ∃ O', Pst w d ob O w' d1 O' := by
  obtain ⟨he, s, x, hs, hown, hF, hx⟩ := hK
  refine ⟨he, { O with V := { O.V with ev := x }, ES := O.ES ++ [s] }, h.join (u := O.V.ev) (v := v) hown hF (fun k q => ?_) hv (fun k q => ?_) ⟨by simp, by simp, by simp, by simp, by simp⟩ ⟨id, id⟩⟩
  . exact Or.inr (Or.inr (Or.inr (Or.inr (Or.inr (Or.inl q)))))
  . rcases q with rfl | q | q | q | q | q | ⟨t, ht, q⟩
    . exact Or.inl (Or.inl rfl)
    . exact Or.inl (Or.inr (Or.inl q))
    . exact Or.inl (Or.inr (Or.inr (Or.inl q)))
    . exact Or.inl (Or.inr (Or.inr (Or.inr (Or.inl q))))
    . exact Or.inl (Or.inr (Or.inr (Or.inr (Or.inr (Or.inl q)))))
    . rcases hx with hx | hx
      . exact Or.inl (Or.inr (Or.inr (Or.inr (Or.inr (Or.inr (Or.inl (hx ▸ q)))))))
      . exact Or.inr (Or.inr (hx k q))
    . rcases ht with ht | ht | ht | ht | ht
      . exact Or.inl (Or.inr (Or.inr (Or.inr (Or.inr (Or.inr (Or.inr (⟨t, Or.inl ht, q⟩)))))))
      . exact Or.inl (Or.inr (Or.inr (Or.inr (Or.inr (Or.inr (Or.inr (⟨t, Or.inr (Or.inl ht), q⟩)))))))
      . exact Or.inl (Or.inr (Or.inr (Or.inr (Or.inr (Or.inr (Or.inr (⟨t, Or.inr (Or.inr (Or.inl ht)), q⟩)))))))
      . exact Or.inl (Or.inr (Or.inr (Or.inr (Or.inr (Or.inr (Or.inr (⟨t, Or.inr (Or.inr (Or.inr (Or.inl ht))), q⟩)))))))
      . rcases List.mem_append.1 ht with ht | ht
        . exact Or.inl (Or.inr (Or.inr (Or.inr (Or.inr (Or.inr (Or.inr (⟨t, Or.inr (Or.inr (Or.inr (Or.inr (ht)))), q⟩)))))))
        . rw [List.mem_singleton] at ht
          subst ht
          exact Or.inr (Or.inl (hs ▸ q))
theorem new_list (hO : OwnL w ob O) (hv : ∀ k, v.ownBlock = some k -> w.heap.size <= k) : ∀ s, (s ∈ O.IS \/ s ∈ O.FS \/ s ∈ O.RS \/ s ∈ O.GS \/ s ∈ O.ES) -> ∀ g, s.v.ownBlock = some g -> v.ownBlock ≠ some g := fun s hs g hg q => by
  have := OwnI.lt hO (Or.inr (Or.inr (Or.inr (Or.inr (Or.inr (Or.inr ⟨s, hs, hg⟩))))))
  have := hv g q
  omega
end
set_option maxHeartbeats 6400000 in
theorem held_any {w : World} {d : DV} {ob wb : Nat} {O : OL} (h : Dep w d) (hO : OwnL w ob O) (hdj : ∀ k, DFoot d k -> ¬ OF ob O k) (hw : w.cell? ⟨wb, 2, none⟩ = some (.pointer (some ⟨ob, 0, none⟩))) (hlw : wb < w.heap.size) (hl : O.IS.length <= 1900000000000) :
    Calls Tryz.prog 19 #[.pointer (some ⟨wb, 0, none⟩), .agg #[.pointer (some ⟨d.sb, 0, none⟩), .pointer (some ⟨d.rb, 0, none⟩)]] w fun e w' => e = .returned (.bool true) /\ ∃ O', Pst w d ob O w' d O' := by
  have hA := heap_alloc_new w (.cells #[.pointer (some ⟨d.sb, 0, none⟩), .pointer (some ⟨d.rb, 0, none⟩)] 53 (0, 0))
  have hb0 := below_one w (.cells #[.pointer (some ⟨d.sb, 0, none⟩), .pointer (some ⟨d.rb, 0, none⟩)] 53)
  have a0 := (blk_cells hA 0).trans (show _ = some (Value.pointer (some ⟨d.sb, 0, none⟩)) from rfl)
  have a1 := (blk_cells hA 1).trans (show _ = some (Value.pointer (some ⟨d.rb, 0, none⟩)) from rfl)
  have hd1 := h.on hb0
  have hmax := h.pr.max
  have hX := hide (Version_any d.sb d.keep (d.bs.length : Nat) d.sl d.pv d.LS (ri d.PI) _ hd1.x)
  have hY := hide (rVersion_any hd1.r)
  have hH := hide (xHeld_any hd1.x h.p h.k hmax)
  have HA := hide hA
  have HB0 := hide hb0
  have HD := hide h
  have HO := hide hO
  have HDJ := hide hdj
  have HW := hide hw
  clear hA hb0 hd1 hw
  go_enter Tryz.func19, Tryz.ntmps19
  go_wp2_with fail
  refine (unhide hX).mono ?_
  rintro e w1 ⟨rfl, rfl⟩
  go_wp2_with fail
  refine (unhide hY).mono ?_
  rintro e w1 ⟨rfl, rfl⟩
  go_wp2_with fail
  refine (unhide hH).mono ?_
  rintro e w2 ⟨rv, rfl, ho, hf, hb2⟩
  have hB2 := (unhide HB0).trans (hb2.mono (unhide HB0).size)
  have e1 := (hb2.cell (p := ⟨w.heap.size, 1, none⟩) (by simp)).trans a1
  have HR := hide (rHeld_any ((unhide HD).on hB2).r (by have := h.p; omega) hmax)
  have HB2 := hide hB2
  have HO2 := hide ho
  have HF2 := hide hf
  clear hb2 hB2 ho hf a0 a1
  go_wp2_with fail
  refine (unhide HR).mono ?_
  rintro e w3 ⟨qv, rfl, ho3, _, hb3⟩
  have hB3 := (unhide HB2).trans (hb3.mono (unhide HB2).size)
  have HS := hide (sameInts_any rv qv _ w3 ((unhide HO2).on hb3).at ho3.at)
  have HO3 := hide ((unhide HO2).on hb3)
  have HB3 := hide hB3
  clear hb3 hB3 ho3 e1
  go_wp2_with fail
  refine (unhide HS).mono ?_
  rintro e w4 ⟨rfl, hb4⟩
  have hB4 := (unhide HB3).trans (hb4.mono (unhide HB3).size)
  have c2 := (hB4.cell (p := ⟨wb, 2, none⟩) hlw).trans (unhide HW)
  have hP := Pst.still (unhide HD) (unhide HO) (unhide HDJ) hB4
  have hz : ∀ k, rv.ownBlock = some k -> w.heap.size <= k := fun k q => by have := unhide HF2 k q; have := (unhide HB0).size; omega
  have HK := hide (keepI_any (v := rv) hP.own ((unhide HO3).on hb4) (fun s hs => new_list (unhide HO) hz s (Or.inl hs)) hl)
  have HZ := hide hz
  have HP := hide hP
  clear hb4 hB4 hP hz
  go_wp2_with fail
  refine (unhide HK).mono ?_
  intro e w5 hK5
  obtain ⟨rfl, O', hP5⟩ := (unhide HP).joinI hK5 fun k q => ⟨unhide HZ k q, fun q' => by have := unhide HZ k q; have := (unhide HD).lt q'; omega⟩
  have HP5 := hide hP5
  clear hP5 hK5
  go_wp2_with fail
  go_ret
  exact ⟨rfl, O', unhide HP5⟩
theorem Fr.frm {S : Nat -> Prop} {w w' : World} (h : Fr S w w') : Frm S w w' := ⟨h.os, h.tape, h.output, h.size, h.block⟩
section
variable {w w1 w2 : World} {d : DV} {ob : Nat} {O : OL} {v : Int} {e e' : Ending}
theorem Dep.rOn (h : Dep w d) {S : Nat -> Prop} (hF : Frm S w w1) (hS : ∀ k, S k -> XF d k) : RS' w1 d := RS'.fr h.r hF fun k q q' => h.xr (hS k q') q
theorem pin_mid (h : Dep w d) (hP : PinR d.sb d.keep (d.bs.length : Nat) d.sl d.pv d.LS d.PI v w e w1) : RS' w1 d /\ ∃ r, e = .returned (.int .i64 r) := by
  rcases hP with ⟨_, he, hb⟩ | ⟨_, _, he, hb⟩ | ⟨_, _, he, hF, _⟩
  . exact ⟨h.r.on hb, _, he⟩
  . exact ⟨h.r.on hb, _, he⟩
  . exact ⟨h.rOn hF.frm fun k q => by rcases q with q | q; exact Or.inl q; exact Or.inr (Or.inr q), _, he⟩
theorem pin_end (h : Dep w d) (hO : OwnL w ob O) (hdj : ∀ k, DFoot d k -> ¬ OF ob O k) (hP : PinR d.sb d.keep (d.bs.length : Nat) d.sl d.pv d.LS d.PI v w e w1) (hR : RPinR w1 d.rb d.keep d.bv d.rp d.SL d.bs d.PI v e' w2) :
    ∃ r d', e = .returned (.int .i64 r) /\ e' = .returned (.int .i64 r) /\ Pst w d ob O w2 d' O := by
  rcases hP with ⟨q, he, hb⟩ | ⟨q, q6, he, hb⟩ | ⟨q, q6, he, hF, pv', hx, hn⟩ <;> rcases hR with ⟨p, hf, hb'⟩ | ⟨p, p6, hf, hb'⟩ | ⟨p, p6, hf, hF', rp', hr, hm⟩
  . exact ⟨_, d, he, hf, Pst.still h hO hdj (hb.trans (hb'.mono hb.size))⟩
  . rw [q] at p; cases p
  . rw [q] at p; cases p
  . rw [q] at p; cases p
  . exact ⟨_, d, he, hf, Pst.still h hO hdj (hb.trans (hb'.mono hb.size))⟩
  . omega
  . rw [q] at p; cases p
  . omega
  . have hFa := hF.frm
    have hsz := hFa.size
    refine ⟨_, { d with pv := pv', rp := rp', PI := d.PI ++ [v] }, he, hf, Pst.plain hO hdj ⟨?_, hr, h.pr, h.k, by show (d.PI ++ [v]).length <= 6; simp; omega, h.b8, fun g hg hg' => ?_⟩ ?_ (fun k hk => ?_) rfl rfl⟩
    . refine StP.frmS hx hF' ?_ (fun k hk q => ?_) (fun k hk q => ?_)
      . rintro (q | q)
        . exact h.xr (k := d.sb) (Or.inl rfl) (Or.inl q)
        . exact h.xr (k := d.sb) (Or.inl rfl) (Or.inr (Or.inr (Or.inl q)))
      . rcases q with q | q
        . exact h.xr (Or.inr (Or.inl hk)) (Or.inl q)
        . exact h.xr (Or.inr (Or.inl hk)) (Or.inr (Or.inr (Or.inl q)))
      . have hR : RF d k := by
          rcases q with q | q
          . exact Or.inl q
          . exact Or.inr (Or.inr (Or.inl q))
        rcases hn with hn | hn
        . exact h.xr (Or.inr (Or.inr (hn ▸ hk))) hR
        . have := hn k hk; have := RS'.lt h.r hR; omega
    . have l1 : g < w1.heap.size := (hx.pins.lt g hg).2
      rcases hm with hm | hm
      . have hg2 : d.rp.ownBlock = some g := hm ▸ hg'
        rcases hn with hn | hn
        . exact h.dj g (hn ▸ hg) hg2
        . have := hn g hg; have := RS'.lt h.r (Or.inr (Or.inr (Or.inl hg2))); omega
      . have := hm g hg'; omega
    . refine (hFa.mono fun k _ q => ?_).then hF' fun k _ q => ?_
      . rcases q with q | q
        . exact Or.inl (Or.inl q)
        . exact Or.inl (Or.inr (Or.inr q))
      . rcases q with q | q
        . exact Or.inr (Or.inl q)
        . exact Or.inr (Or.inr (Or.inr (Or.inl q)))
    . rcases hk with (q | q | q) | (q | q | q | q)
      . exact Or.inl (Or.inl (Or.inl q))
      . exact Or.inl (Or.inl (Or.inr (Or.inl q)))
      . rcases hn with hn | hn
        . exact Or.inl (Or.inl (Or.inr (Or.inr (hn ▸ q))))
        . exact Or.inr (hn k q)
      . exact Or.inl (Or.inr (Or.inl q))
      . exact Or.inl (Or.inr (Or.inr (Or.inl q)))
      . rcases hm with hm | hm
        . exact Or.inl (Or.inr (Or.inr (Or.inr (Or.inl (hm ▸ q)))))
        . exact Or.inr (by have := hm k q; omega)
      . exact Or.inl (Or.inr (Or.inr (Or.inr (Or.inr q))))
theorem unp_mid (h : Dep w d) (hP : UnpR d.sb d.keep (d.bs.length : Nat) d.sl d.LS d.PI v w e w1) : RS' w1 d /\ ∃ r, e = .returned (.int .i64 r) := by
  rcases hP with ⟨_, he, hb⟩ | ⟨_, he, hF, _⟩
  . exact ⟨h.r.on hb, _, he⟩
  . exact ⟨h.rOn hF.frm fun k q => Or.inl q, _, he⟩
theorem unp_end (h : Dep w d) (hO : OwnL w ob O) (hdj : ∀ k, DFoot d k -> ¬ OF ob O k) (hP : UnpR d.sb d.keep (d.bs.length : Nat) d.sl d.LS d.PI v w e w1) (hR : RUnpR w1 d.rb d.keep d.bv d.SL d.bs d.PI v e' w2) :
    ∃ r d', e = .returned (.int .i64 r) /\ e' = .returned (.int .i64 r) /\ Pst w d ob O w2 d' O := by
  rcases hP with ⟨q, he, hb⟩ | ⟨q, he, hF, pv', hx, hn⟩ <;> rcases hR with ⟨p, hf, hb'⟩ | ⟨p, hf, hF', rp', hr, hm⟩
  . exact ⟨_, d, he, hf, Pst.still h hO hdj (hb.trans (hb'.mono hb.size))⟩
  . exact absurd p q
  . exact absurd q p
  . have hFa := hF.frm
    have hsz := hFa.size
    refine ⟨_, { d with pv := pv', rp := rp', PI := d.PI.erase v }, he, hf, Pst.plain hO hdj ⟨?_, hr, h.pr, h.k, Nat.le_trans (List.length_erase_le) h.p, h.b8, fun g hg hg' => ?_⟩ ?_ (fun k hk => ?_) rfl rfl⟩
    . refine StP.frmS hx hF' (fun q => h.xr (k := d.sb) (Or.inl rfl) (Or.inl q)) (fun k hk q => h.xr (Or.inr (Or.inl hk)) (Or.inl q)) (fun k hk q => ?_)
      have := hn k hk; have := RS'.lt h.r (Or.inl q); omega
    . have l1 : g < w1.heap.size := (hx.pins.lt g hg).2
      have := hm g hg'; omega
    . refine (hFa.mono fun k _ q => Or.inl (Or.inl q)).then hF' fun k _ q => Or.inr (Or.inl q)
    . rcases hk with (q | q | q) | (q | q | q | q)
      . exact Or.inl (Or.inl (Or.inl q))
      . exact Or.inl (Or.inl (Or.inr (Or.inl q)))
      . exact Or.inr (hn k q)
      . exact Or.inl (Or.inr (Or.inl q))
      . exact Or.inl (Or.inr (Or.inr (Or.inl q)))
      . exact Or.inr (by have := hm k q; omega)
      . exact Or.inl (Or.inr (Or.inr (Or.inr (Or.inr q))))
end
def XApR (w : World) (d : DV) (b : Bat) (e : Ending) (w' : World) : Prop :=
  (8 < b.length /\ e = .returned (.tuple #[.int .i64 0, .int .i64 8]) /\ w = w') \/ (b.length <= 8 /\ ApR d.sb d.keep (d.bs.length : Nat) d.pv d.LS b.length (gf b) w e w')
section
variable {w w1 w2 : World} {d : DV} {ob : Nat} {O : OL} {b : Bat} {e e' : Ending}
theorem xApply_any {v : Value} (h : Dep w d) (hv : CsAt 25 w v b.length (gf b)) : Calls Tryz.prog 26 #[.pointer (some ⟨d.sb, 0, none⟩), v] w fun e w' => XApR w d b e w' := by
  by_cases h8 : 8 < b.length
  . exact (Apply_big hv h8 d.sb).mono fun e w' q => Or.inl ⟨h8, q.1, q.2⟩
  . have := h.pr.le
    have := h.pr.max
    exact (Apply_any d.sb d.keep (d.bs.length : Nat) d.sl d.pv d.LS v b.length (gf b) w h.x.blk h.x.own (by omega) hv (by omega) (by omega)).mono fun e w' q => Or.inr ⟨by omega, q⟩
theorem app_mid (h : Dep w d) (hP : XApR w d b e w1) : RS' w1 d /\ Frm (fun k => k = d.sb) w w1 /\ ∃ n r, e = .returned (.tuple #[.int .i64 n, .int .i64 r]) := by
  have bel : Below w.heap.size w w1 -> RS' w1 d /\ Frm (fun k => k = d.sb) w w1 := fun hb => ⟨h.r.on hb, Frm.of_below hb⟩
  rcases hP with ⟨_, he, rfl⟩ | ⟨_, ⟨_, he, hb⟩ | ⟨_, _, he, hb⟩ | ⟨_, _, k, LSk, _, ⟨_, he, hg, _⟩ | ⟨_, r, LS', _, _, he, hb⟩⟩⟩
  . exact ⟨h.r, Frm.rfl' _ _, _, _, he⟩
  . exact ⟨(bel hb).1, (bel hb).2, _, _, he⟩
  . exact ⟨(bel hb).1, (bel hb).2, _, _, he⟩
  . have hF : Frm (fun k => k = d.sb) w w1 := (Frm.rfl' _ w).grown hg fun q hq _ => by cases hq; rfl
    exact ⟨h.rOn hF fun k q => Or.inl q, hF, _, _, he⟩
  . exact ⟨(bel hb).1, (bel hb).2, _, _, he⟩
theorem app_end (h : Dep w d) (hO : OwnL w ob O) (hdj : ∀ k, DFoot d k -> ¬ OF ob O k) (hP : XApR w d b e w1) (hR : RApR w1 d.rb d.keep d.bv d.rp d.SL d.bs d.PI b e' w2) :
    ∃ n r d', e = .returned (.tuple #[.int .i64 n, .int .i64 r]) /\ e' = .returned (.tuple #[.int .i64 n, .int .i64 r]) /\ Pst w d ob O w2 d' O := by
  have still : Below w.heap.size w w1 -> Below w1.heap.size w1 w2 -> Pst w d ob O w2 d O := fun hb hb' => Pst.still h hO hdj (hb.trans (hb'.mono hb.size))
  have max := h.pr.max
  rcases hP with ⟨h8, he, rfl⟩ | ⟨h8, ⟨h0, he, hb⟩ | ⟨h0, h100, he, hb⟩ | ⟨h0, h100, k, LSk, hA, ⟨hk, he, hg, sl', hx, ho⟩ | ⟨hk, r, LS', hE, hr0, he, hb⟩⟩⟩
  . rcases hR with ⟨_, hf, hb'⟩ | ⟨_, q, _⟩ | ⟨_, q, _⟩ | ⟨_, q, _⟩
    . exact ⟨_, _, d, he, hf, still (Below.refl _ _) hb'⟩
    . omega
    . omega
    . omega
  . rcases hR with ⟨_, hf, hb'⟩ | ⟨q, _, _⟩ | ⟨q, _, _⟩ | ⟨q, _, _⟩
    . exact ⟨_, _, d, he, hf, still hb hb'⟩
    . omega
    . omega
    . omega
  . rcases hR with ⟨q, hf, hb'⟩ | ⟨_, _, q, hf, hb'⟩ | ⟨_, _, q, _⟩ | ⟨_, _, q, _⟩
    . omega
    . exact ⟨_, _, d, he, hf, still hb hb'⟩
    . omega
    . omega
  . subst hk
    obtain ⟨z, hpr⟩ := h.pr.yes h8 (by omega) hA
    rcases hR with ⟨q, hf, hb'⟩ | ⟨_, _, q, _⟩ | ⟨_, _, q, k', r', hk', _, hx', hr', _⟩ | ⟨_, _, q, _, hf, hF', bv', s, hr, hm, hs⟩
    . omega
    . omega
    . exact absurd ((z k' hk').symm.trans hx') (fun q => hr' q.symm)
    . have hF : Frm (fun k => k = d.sb) w w1 := (Frm.rfl' _ w).grown hg fun q hq _ => by cases hq; rfl
      have hsz := hF.size
      have hx1 : StP w1 d.sb d.keep ((d.bs.length : Nat) + 1 : Int) sl' d.pv LSk (ri d.PI) :=
        ⟨hx, ho.mono (by have := blk_lt h.x.blk; omega), h.x.pins.same fun g hg' => hF.block g (h.x.pins.lt g hg').2 (by have := (h.x.pins.lt g hg').1; omega)⟩
      have e1 : ((d.bs ++ [b]).length : Nat) = d.bs.length + 1 := by simp
      refine ⟨_, _, { d with sl := sl', LS := LSk, bv := bv', SL := d.SL ++ [s], bs := d.bs ++ [b] }, he, ?_, Pst.plain hO hdj ⟨?_, hr, hpr, h.k, h.p, fun j hj => ?_, h.dj⟩ ?_ (fun j hj => ?_) rfl rfl⟩
      . rw [hf]; rfl
      . show StP w2 d.sb d.keep (((d.bs ++ [b]).length : Nat) : Int) sl' d.pv LSk (ri d.PI)
        rw [e1, Int.natCast_add]
        refine StP.frmS hx1 hF' ?_ (fun j hj q => ?_) (fun j hj q => ?_)
        . rintro (q | q)
          . exact h.xr (k := d.sb) (Or.inl rfl) (Or.inl q)
          . exact h.xr (k := d.sb) (Or.inl rfl) (Or.inr (Or.inl q))
        . have hR : RF d j := by
            rcases q with q | q
            . exact Or.inl q
            . exact Or.inr (Or.inl q)
          have := (ho.lt j hj).1; have := RS'.lt h.r hR; omega
        . rcases q with q | q
          . exact h.xr (Or.inr (Or.inr hj)) (Or.inl q)
          . exact h.xr (Or.inr (Or.inr hj)) (Or.inr (Or.inl q))
      . have hj' : j < d.bs.length + 1 := by rw [<- e1]; exact hj
        show (btc (d.bs ++ [b]) j).length <= 8
        by_cases c : j < d.bs.length
        . rw [btc_old c]; exact h.b8 j c
        . obtain rfl : j = d.bs.length := by omega
          rw [btc_new]; exact h8
      . refine (hF.mono fun k _ q => Or.inl (Or.inl q)).then hF' fun k _ q => ?_
        rcases q with q | q
        . exact Or.inr (Or.inl q)
        . exact Or.inr (Or.inr (Or.inl q))
      . rcases hj with (q | q | q) | (q | q | q | ⟨t, ht, q⟩)
        . exact Or.inl (Or.inl (Or.inl q))
        . exact Or.inr (ho.lt j q).1
        . exact Or.inl (Or.inl (Or.inr (Or.inr q)))
        . exact Or.inl (Or.inr (Or.inl q))
        . rcases hm with hm | hm
          . exact Or.inl (Or.inr (Or.inr (Or.inl (hm ▸ q))))
          . exact Or.inr (by have := hm j q; omega)
        . exact Or.inl (Or.inr (Or.inr (Or.inr (Or.inl q))))
        . rcases List.mem_append.1 ht with ht | ht
          . exact Or.inl (Or.inr (Or.inr (Or.inr (Or.inr ⟨t, ht, q⟩))))
          . rw [List.mem_singleton] at ht
            subst ht
            exact Or.inr (by have := hs j q; omega)
  . obtain ⟨z, hr1⟩ := h.pr.no hA hE
    rcases hR with ⟨q, hf, hb'⟩ | ⟨_, _, q, _⟩ | ⟨_, _, q, k', r', hk', z', hx', hr', hf, hb'⟩ | ⟨_, _, q, z', _⟩
    . omega
    . omega
    . have : k = k' := by
        rcases Nat.lt_trichotomy k k' with c | c | c
        . exact absurd ((z' k c).symm.trans hr1) (fun q => hr0 q.symm)
        . exact c
        . exact absurd ((z k' c).symm.trans hx') (fun q => hr' q.symm)
      subst this
      have : r = r' := hr1.symm.trans hx'
      subst this
      exact ⟨_, _, d, he, hf, still hb hb'⟩
    . exact absurd ((z' k hk).symm.trans hr1) (fun q => hr0 q.symm)
end
structure OpV where
  kind : Int
  on : Int
  a : Int
  b : Int
  c : Int
  kl : Int
  kz : Int
  kx : Int
  ky : Int
  s : ByteArray
  t : ByteArray
  bo : Option Addr
  bn : Nat
  bc : Nat
  f0 : Int
  f1 : Int
  f2 : Int
  f3 : Int
  f4 : Int
def OpV.bat (o : OpV) : Value := .slice o.bo o.bn o.bc
def OpV.v (o : OpV) : Array Value := #[.int .i64 o.kind, .int .i64 o.on, .int .i64 o.a, .int .i64 o.b, .int .i64 o.c, .int .i64 o.kl, .int .i64 o.kz, .int .i64 o.kx, .int .i64 o.ky, .string o.s, .string o.t, .slice o.bo o.bn o.bc, .int .i64 o.f0, .int .i64 o.f1, .int .i64 o.f2, .int .i64 o.f3, .int .i64 o.f4]
def rOp : Row OpV := ⟨17, fun o => o.v.toList, fun _ => rfl, fun k v hv => by simp [OpV.v] at hv; rcases hv with rfl | rfl | rfl | rfl | rfl | rfl | rfl | rfl | rfl | rfl | rfl | rfl | rfl | rfl | rfl | rfl | rfl <;> rfl, by decide⟩
theorem Pst.pre {w w1 w' : World} {d d' : DV} {ob : Nat} {O O' : OL} (hb : Below w.heap.size w w1) (h : Pst w1 d ob O w' d' O') : Pst w d ob O w' d' O' :=
  ⟨h.dep, h.own, h.dj, (Frm.of_below hb).then h.frm fun _ _ q => q, fun k q => by
    rcases h.foot k q with e | e
    . exact Or.inl e
    . exact Or.inr (Nat.le_trans hb.size e), ⟨fun k q => by
      rcases h.ost.foot k q with e | e
      . exact Or.inl e
      . exact Or.inr (Nat.le_trans hb.size e), h.ost.il, h.ost.fl, h.ost.rl, h.ost.gl, h.ost.el, h.ost.r0, h.ost.g0⟩, h.sb, h.rb⟩
structure Box (w w1 : World) (d : DV) (o : OpV) : Prop where
  b : Below w.heap.size w w1
  z : w.heap.size + 2 <= w1.heap.size
  p : w1.heap[w.heap.size]? = some (.cells #[.pointer (some ⟨d.sb, 0, none⟩), .pointer (some ⟨d.rb, 0, none⟩)] 53 (0, 0))
  q : w1.heap[w.heap.size + 1]? = some (.cells o.v 44 (0, 0))
theorem box_new (w : World) (d : DV) (o : OpV) : Box w ((w.alloc (.cells #[.pointer (some ⟨d.sb, 0, none⟩), .pointer (some ⟨d.rb, 0, none⟩)] 53)).alloc (.cells o.v 44)) d o := by
  have h1 := heap_alloc_new w (.cells #[.pointer (some ⟨d.sb, 0, none⟩), .pointer (some ⟨d.rb, 0, none⟩)] 53 (0, 0))
  have h2 := heap_alloc_new (w.alloc (.cells #[.pointer (some ⟨d.sb, 0, none⟩), .pointer (some ⟨d.rb, 0, none⟩)] 53)) (.cells o.v 44 (0, 0))
  refine ⟨((Below.refl _ _).alloc (Nat.le_refl _) _).alloc (by simp) _, by simp, ?_, by simpa using h2⟩
  rw [heap_alloc_old _ _ (by simp)]; exact h1
theorem Box.on {w w1 w2 : World} {d : DV} {o : OpV} (h : Box w w1 d o) (hb : Below w1.heap.size w1 w2) : Box w w2 d o := ⟨h.b.trans (hb.mono h.b.size), Nat.le_trans h.z hb.size, blk_on h.p hb, blk_on h.q hb⟩
structure Bx (w w2 : World) (d : DV) (o : OpV) : Prop where
  z : w.heap.size + 2 <= w2.heap.size
  p : w2.heap[w.heap.size]? = some (.cells #[.pointer (some ⟨d.sb, 0, none⟩), .pointer (some ⟨d.rb, 0, none⟩)] 53 (0, 0))
  q : w2.heap[w.heap.size + 1]? = some (.cells o.v 44 (0, 0))
theorem Box.bx {w w1 : World} {d : DV} {o : OpV} (h : Box w w1 d o) : Bx w w1 d o := ⟨h.z, h.p, h.q⟩
theorem Bx.on {w w1 w2 : World} {d : DV} {o : OpV} {S : Nat -> Prop} (h : Bx w w1 d o) (hF : Frm S w1 w2) (hS : ∀ k, S k -> k < w.heap.size) : Bx w w2 d o :=
  ⟨Nat.le_trans h.z hF.size, blk_frm h.p hF fun q => by have := hS _ q; omega, blk_frm h.q hF fun q => by have := hS _ q; omega⟩
theorem Bx.c0 {w w1 : World} {d : DV} {o : OpV} (h : Bx w w1 d o) : w1.cell? ⟨w.heap.size, 0, none⟩ = some (.pointer (some ⟨d.sb, 0, none⟩)) := (blk_cells h.p 0).trans rfl
theorem Bx.c1 {w w1 : World} {d : DV} {o : OpV} (h : Bx w w1 d o) : w1.cell? ⟨w.heap.size, 1, none⟩ = some (.pointer (some ⟨d.rb, 0, none⟩)) := (blk_cells h.p 1).trans rfl
theorem Bx.o {w w1 : World} {d : DV} {o : OpV} (h : Bx w w1 d o) (j : Nat) : w1.cell? ⟨w.heap.size + 1, j, none⟩ = o.v[j]? := blk_cells h.q j
section
variable {w w1 : World} {d : DV} {v : Int} {e : Ending}
theorem pin_frm (hP : PinR d.sb d.keep (d.bs.length : Nat) d.sl d.pv d.LS d.PI v w e w1) : Frm (XF d) w w1 := by
  rcases hP with ⟨_, he, hb⟩ | ⟨_, _, he, hb⟩ | ⟨_, _, he, hF, _⟩
  . exact Frm.of_below hb
  . exact Frm.of_below hb
  . exact hF.frm.mono fun k _ q => by rcases q with q | q; exact Or.inl q; exact Or.inr (Or.inr q)
theorem unp_frm (hP : UnpR d.sb d.keep (d.bs.length : Nat) d.sl d.LS d.PI v w e w1) : Frm (XF d) w w1 := by
  rcases hP with ⟨_, he, hb⟩ | ⟨_, he, hF, _⟩
  . exact Frm.of_below hb
  . exact hF.frm.mono fun k _ q => Or.inl q
end
section
variable {w : World} {d : DV} {ob wb : Nat} {O : OL} {o : OpV}
set_option maxHeartbeats 6400000 in
theorem stored_pin (h : Dep w d) (hO : OwnL w ob O) (hdj : ∀ k, DFoot d k -> ¬ OF ob O k) (hk : o.kind = 3) :
    Calls Tryz.prog 12 #[.pointer (some ⟨wb, 0, none⟩), .agg #[.pointer (some ⟨d.sb, 0, none⟩), .pointer (some ⟨d.rb, 0, none⟩)], .agg o.v] w fun e w' => e = .returned (.bool true) /\ ∃ d' O', Pst w d ob O w' d' O' := by
  have hb := box_new w d o
  have HB := hide hb
  have c0 := hb.bx.c0
  have k0 := (hb.bx.o 0).trans (show _ = some (Value.int .i64 o.kind) from rfl)
  have k2 := (hb.bx.o 2).trans (show _ = some (Value.int .i64 o.a) from rfl)
  rw [hk] at k0
  have h1 := h.on hb.b
  have hmax := h.pr.max
  have HP := hide (Pin_any d.sb d.keep (d.bs.length : Nat) d.sl d.pv d.LS d.PI o.a _ h1.x (fun g q q' => by obtain ⟨c, e⟩ := h1.x.pins.ty q; obtain ⟨c', e'⟩ := h1.x.own.ty q'; exact blk_ne e e' (by decide) rfl) h.p h.k (by omega))
  have HD := hide h
  have HD1 := hide h1
  have HO := hide hO
  have HDJ := hide hdj
  clear hb h1 h hO hdj
  go_enter Tryz.func12, Tryz.ntmps12
  go_wp2_with fail
  refine (unhide HP).mono ?_
  intro e w2 hP
  obtain ⟨hR2, r, rfl⟩ := pin_mid (unhide HD1) hP
  have hbx := (unhide HB).bx.on (pin_frm hP) fun k q => (unhide HD).lt (Or.inl q)
  have c1 := hbx.c1
  have k2' := (hbx.o 2).trans (show _ = some (Value.int .i64 o.a) from rfl)
  have HQ := hide (rPin_any o.a hR2 (unhide HD).p hmax)
  have HPP := hide hP
  clear hP hR2 hbx c0 k0 k2
  go_wp2_with fail
  refine (unhide HQ).mono ?_
  intro e w3 hQ
  obtain ⟨r', d', e1, rfl, hps⟩ := pin_end (unhide HD1) (OwnI.on (unhide HO) (unhide HB).b) (unhide HDJ) (unhide HPP) hQ
  cases e1
  have HPS := hide (hps.pre (unhide HB).b)
  clear hps hQ c1 k2'
  go_wp2_with fail
  go_ret
  exact ⟨rfl, d', O, unhide HPS⟩
set_option maxHeartbeats 6400000 in
theorem stored_unpin (h : Dep w d) (hO : OwnL w ob O) (hdj : ∀ k, DFoot d k -> ¬ OF ob O k) (hk : o.kind = 4) :
    Calls Tryz.prog 12 #[.pointer (some ⟨wb, 0, none⟩), .agg #[.pointer (some ⟨d.sb, 0, none⟩), .pointer (some ⟨d.rb, 0, none⟩)], .agg o.v] w fun e w' => e = .returned (.bool true) /\ ∃ d' O', Pst w d ob O w' d' O' := by
  have hb := box_new w d o
  have HB := hide hb
  have c0 := hb.bx.c0
  have k0 := (hb.bx.o 0).trans (show _ = some (Value.int .i64 o.kind) from rfl)
  have k2 := (hb.bx.o 2).trans (show _ = some (Value.int .i64 o.a) from rfl)
  rw [hk] at k0
  have h1 := h.on hb.b
  have HP := hide (Unpin_any d.sb d.keep (d.bs.length : Nat) d.sl d.pv d.LS d.PI o.a _ h1.x h.p)
  have HD := hide h
  have HD1 := hide h1
  have HO := hide hO
  have HDJ := hide hdj
  clear hb h1 h hO hdj
  go_enter Tryz.func12, Tryz.ntmps12
  go_wp2_with fail
  refine (unhide HP).mono ?_
  intro e w2 hP
  obtain ⟨hR2, r, rfl⟩ := unp_mid (unhide HD1) hP
  have hbx := (unhide HB).bx.on (unp_frm hP) fun k q => (unhide HD).lt (Or.inl q)
  have c1 := hbx.c1
  have k2' := (hbx.o 2).trans (show _ = some (Value.int .i64 o.a) from rfl)
  have HQ := hide (rUnpin_any o.a hR2 (unhide HD).p)
  have HPP := hide hP
  clear hP hR2 hbx c0 k0 k2
  go_wp2_with fail
  refine (unhide HQ).mono ?_
  intro e w3 hQ
  obtain ⟨r', d', e1, rfl, hps⟩ := unp_end (unhide HD1) (OwnI.on (unhide HO) (unhide HB).b) (unhide HDJ) (unhide HPP) hQ
  cases e1
  have HPS := hide (hps.pre (unhide HB).b)
  clear hps hQ c1 k2'
  go_wp2_with fail
  go_ret
  exact ⟨rfl, d', O, unhide HPS⟩
set_option maxHeartbeats 6400000 in
theorem stored_stamp (h : Dep w d) (hO : OwnL w ob O) (hdj : ∀ k, DFoot d k -> ¬ OF ob O k) (hk : o.kind = 6) :
    Calls Tryz.prog 12 #[.pointer (some ⟨wb, 0, none⟩), .agg #[.pointer (some ⟨d.sb, 0, none⟩), .pointer (some ⟨d.rb, 0, none⟩)], .agg o.v] w fun e w' => e = .returned (.bool true) /\ ∃ d' O', Pst w d ob O w' d' O' := by
  have hb := box_new w d o
  have HB := hide hb
  have c0 := hb.bx.c0
  have k0 := (hb.bx.o 0).trans (show _ = some (Value.int .i64 o.kind) from rfl)
  have k2 := (hb.bx.o 2).trans (show _ = some (Value.int .i64 o.a) from rfl)
  rw [hk] at k0
  have kr : ∀ W : World, Bx w W d o -> W.rangeAt (w.heap.size + 1) 5 #[Value.int .i64 o.kl, .int .i64 o.kz, .int .i64 o.kx, .int .i64 o.ky].toList := fun W hbx j u hu => by
    have := hbx.o (5 + j)
    rw [this]
    rcases j with _ | _ | _ | _ | j <;> simp at hu <;> subst hu <;> rfl
  have hrg := kr _ hb.bx
  have KR := hide kr
  have h1 := h.on hb.b
  have hmax := h.pr.max
  obtain ⟨p, hp⟩ : ∃ p, stA d.bs o.a o.kl o.kz o.kx o.ky = p := ⟨_, rfl⟩
  have HP := hide (xStamp_any o.a o.kl o.kz o.kx o.ky h1.x h.pr)
  rw [hp] at HP
  have HPE := hide hp
  have HD := hide h
  have HD1 := hide h1
  have HO := hide hO
  have HDJ := hide hdj
  clear hb h1 h hO hdj kr hp
  go_enter Tryz.func12, Tryz.ntmps12
  go_wp2_with (refine ldG 39 #[.int .i64 o.kl, .int .i64 o.kz, .int .i64 o.kx, .int .i64 o.ky] Tryz.underlying39 rfl (sz28 _ _ _ _) (w.heap.size + 1) 5 hrg rfl _ rfl rfl ?_)
  refine (unhide HP).mono ?_
  rintro e w2 ⟨rfl, hb2⟩
  have hbx := ((unhide HB).on hb2).bx
  have c1 := hbx.c1
  have k2' := (hbx.o 2).trans (show _ = some (Value.int .i64 o.a) from rfl)
  have hrg2 := unhide KR _ hbx
  have HQ := hide (rStamp_any o.a o.kl o.kz o.kx o.ky ((unhide HD1).on hb2).r hmax (unhide HD).b8)
  rw [unhide HPE] at HQ
  have HB2 := hide ((unhide HB).on hb2).b
  clear hb2 hbx c0 k0 k2 hrg
  go_wp2_with (refine ldG 39 #[.int .i64 o.kl, .int .i64 o.kz, .int .i64 o.kx, .int .i64 o.ky] Tryz.underlying39 rfl (sz28 _ _ _ _) (w.heap.size + 1) 5 hrg2 rfl _ rfl rfl ?_)
  refine (unhide HQ).mono ?_
  rintro e w3 ⟨rfl, hb3⟩
  have HPS := hide (Pst.still (unhide HD) (unhide HO) (unhide HDJ) ((unhide HB2).trans (hb3.mono (unhide HB2).size)))
  clear hb3 c1 k2' hrg2
  go_wp2_with fail
  go_ret
  exact ⟨rfl, d, O, unhide HPS⟩
set_option maxHeartbeats 6400000 in
theorem stored_held (h : Dep w d) (hO : OwnL w ob O) (hdj : ∀ k, DFoot d k -> ¬ OF ob O k) (hw : w.cell? ⟨wb, 2, none⟩ = some (.pointer (some ⟨ob, 0, none⟩))) (hlw : wb < w.heap.size) (hl : O.IS.length <= 1900000000000) (hk : o.kind = 7) :
    Calls Tryz.prog 12 #[.pointer (some ⟨wb, 0, none⟩), .agg #[.pointer (some ⟨d.sb, 0, none⟩), .pointer (some ⟨d.rb, 0, none⟩)], .agg o.v] w fun e w' => e = .returned (.bool true) /\ ∃ d' O', Pst w d ob O w' d' O' := by
  have hb := box_new w d o
  have HB := hide hb
  have hrg := rng_blk hb.p
  have k0 := (hb.bx.o 0).trans (show _ = some (Value.int .i64 o.kind) from rfl)
  rw [hk] at k0
  have hsz := hb.b.size
  have HP := hide (held_any (h.on hb.b) (OwnI.on hO hb.b) hdj ((hb.b.cell (p := ⟨wb, 2, none⟩) hlw).trans hw) (by omega) hl)
  clear hb h hO hdj hw
  go_enter Tryz.func12, Tryz.ntmps12
  go_wp2_with (refine ldG 53 #[.pointer (some ⟨d.sb, 0, none⟩), .pointer (some ⟨d.rb, 0, none⟩)] Tryz.underlying53 rfl (by kernel_rfl) w.heap.size 0 hrg rfl _ rfl rfl ?_)
  refine (unhide HP).mono ?_
  rintro e w2 ⟨rfl, O', hps⟩
  have HPS := hide (hps.pre (unhide HB).b)
  clear hps hrg k0
  go_wp2_with fail
  go_ret
  exact ⟨rfl, d, O', unhide HPS⟩
end
def XReadR (w : World) (d : DV) (v a n : Int) (e : Ending) (w' : World) : Prop :=
  Below w.heap.size w w' /\ ((heldB d.keep (d.bs.length : Nat) (ri d.PI) v = false /\ e = .returned (.tuple #[.slice none 0 0, .int .i64 12])) \/
  (heldB d.keep (d.bs.length : Nat) (ri d.PI) v = true /\ (n < 1 \/ 8 < n) /\ e = .returned (.tuple #[.slice none 0 0, .int .i64 14])) \/
  (heldB d.keep (d.bs.length : Nat) (ri d.PI) v = true /\ 1 <= n /\ n <= 8 /\ ∃ R rv, e = .returned (.tuple #[rv, .int .i64 0]) /\ OwnC 66 24 w' w.heap.size rv R /\ RdP (atV d.bs v.toNat) a R /\ R.length <= n.toNat /\ (R.length = n.toNat \/ cle (atV d.bs v.toNat) (pid a R R.length) (atV d.bs v.toNat).length = (atV d.bs v.toNat).length)))
theorem xRead_any {w : World} {d : DV} (v a n : Int) (h : Dep w d) : Calls Tryz.prog 34 #[.pointer (some ⟨d.sb, 0, none⟩), .int .i64 v, .int .i64 a, .int .i64 n] w fun e w' => XReadR w d v a n e w' := by
  have hmax := h.pr.max
  have hp : (ri d.PI).length <= 100 := by rw [ri_len]; have := h.p; omega
  cases hh : heldB d.keep (d.bs.length : Nat) (ri d.PI) v with
  | false => exact (Read_no d.sb d.keep (d.bs.length : Nat) d.sl d.pv d.LS (ri d.PI) v a n w h.x hp h.k (by omega) hh).mono fun e w' q => ⟨q.2, Or.inl ⟨hh, q.1⟩⟩
  | true =>
    by_cases hn : n < 1 \/ 8 < n
    . exact (Read_arg h.x v a n h.p h.k hmax hh hn).mono fun e w' q => ⟨q.2, Or.inr (Or.inl ⟨hh, hn, q.1⟩)⟩
    . obtain ⟨N, rfl⟩ : ∃ N : Nat, n = N := ⟨n.toNat, by omega⟩
      obtain ⟨m, rfl, hm⟩ := held_in hh
      refine (Read_any d.sb d.keep (d.bs.length : Nat) d.sl d.pv d.LS (ri d.PI) (atV d.bs m) (m : Nat) a N w h.x (by have := h.pr.le; omega) hp h.k (by omega) hh (h.pr.rel m hm) (by omega)).mono fun e w' q => ⟨q.2, Or.inr (Or.inr ⟨hh, by omega, by omega, ?_⟩)⟩
      rw [Int.toNat_natCast, Int.toNat_natCast]
      exact q.1
theorem rt_pos {f : Nat -> Int} (h : Rt f) : 0 < f 0 := by
  have := right_in h
  unfold right traits at this
  simp only [Bool.and_eq_true, inR, decide_eq_true_eq] at this
  omega
theorem Dep.at {w : World} {d : DV} (h : Dep w d) (v : Nat) (hv : v <= d.bs.length) : Dis (atV d.bs v) /\ ∀ j, j < (atV d.bs v).length -> 0 < gf (atV d.bs v) j 0 :=
  ⟨dis_in (h.pr.rel v hv).dis, fun j hj => rt_pos ((h.pr.rel v hv).rt j hj)⟩
theorem read_both {w w1 w2 : World} {d : DV} {v a n : Int} {e e' : Ending} (h : Dep w d) (hX : XReadR w d v a n e w1) (hR : RReadR w1 d.keep d.bs d.PI v a n e' w2) :
    ∃ lv mv r L, e = .returned (.tuple #[lv, .int .i64 r]) /\ e' = .returned (.tuple #[mv, .int .i64 r]) /\ OwnR rF 66 w1 lv L /\ (∀ k, lv.ownBlock = some k -> w.heap.size <= k) /\ L.length <= 8 /\ FsAt w2 mv L.length (gf L) := by
  have nl : ∀ W : World, FsAt W (.slice none 0 0) (List.length (α := Nat -> Int) []) (gf []) := fun W => ⟨none, 0, rfl, Nat.zero_le _, fun h => absurd h (by simp)⟩
  obtain ⟨_, hX⟩ := hX
  obtain ⟨_, hR⟩ := hR
  rcases hX with ⟨q, he⟩ | ⟨q, qn, he⟩ | ⟨q, q1, q8, R, rv, he, ho, hrd, hl, hend⟩ <;> rcases hR with ⟨p, hf⟩ | ⟨p, pn, hf⟩ | ⟨p, p1, p8, mv, B, hf, hB, hat⟩
  . exact ⟨_, _, _, [], he, hf, ownR_nil, fun k hk => by simp [Value.ownBlock] at hk, by simp, nl _⟩
  . rw [q] at p; cases p
  . rw [q] at p; cases p
  . rw [q] at p; cases p
  . exact ⟨_, _, _, [], he, hf, ownR_nil, fun k hk => by simp [Value.ownBlock] at hk, by simp, nl _⟩
  . omega
  . rw [q] at p; cases p
  . omega
  . obtain ⟨m, rfl, hm⟩ := held_in q
    rw [Int.toNat_natCast] at hrd hend hB
    obtain ⟨s1, s2⟩ := read_same (h.at m hm).1 (h.at m hm).2 hB hrd hl hend
    refine ⟨_, _, _, R, he, hf, ho.toF, fun k hk => (ho.lt k hk).1, by omega, ?_⟩
    obtain ⟨oa, cap, e, hm2, hr⟩ := AtR.csF hat
    rw [<- s1] at e hm2 hr
    refine ⟨oa, cap, e, hm2, fun h0 => ?_⟩
    obtain ⟨b, off, e2, hb, hc⟩ := hr h0
    exact ⟨b, off, e2, hb, fun i hi j hj => by rw [hc i hi j hj, s2 i hi j hj]⟩
section
variable {w : World} {d : DV} {ob wb : Nat} {O : OL} {o : OpV}
set_option maxHeartbeats 6400000 in
theorem stored_read (h : Dep w d) (hO : OwnL w ob O) (hdj : ∀ k, DFoot d k -> ¬ OF ob O k) (hw : w.cell? ⟨wb, 2, none⟩ = some (.pointer (some ⟨ob, 0, none⟩))) (hlw : wb < w.heap.size) (hl : O.FS.length <= 1000000000000) (hk : o.kind = 5) :
    Calls Tryz.prog 12 #[.pointer (some ⟨wb, 0, none⟩), .agg #[.pointer (some ⟨d.sb, 0, none⟩), .pointer (some ⟨d.rb, 0, none⟩)], .agg o.v] w fun e w' => e = .returned (.bool true) /\ ∃ d' O', Pst w d ob O w' d' O' := by
  have hb := box_new w d o
  have HB := hide hb
  have c0 := hb.bx.c0
  have k0 := (hb.bx.o 0).trans (show _ = some (Value.int .i64 o.kind) from rfl)
  have k2 := (hb.bx.o 2).trans (show _ = some (Value.int .i64 o.a) from rfl)
  have k3 := (hb.bx.o 3).trans (show _ = some (Value.int .i64 o.b) from rfl)
  have k4 := (hb.bx.o 4).trans (show _ = some (Value.int .i64 o.c) from rfl)
  rw [hk] at k0
  have h1 := h.on hb.b
  have hmax := h.pr.max
  have HP := hide (xRead_any o.a o.b o.c h1)
  have HD := hide h
  have HD1 := hide h1
  have HO := hide hO
  have HDJ := hide hdj
  have HW := hide hw
  clear hb h1 h hO hdj hw
  go_enter Tryz.func12, Tryz.ntmps12
  go_wp2_with fail
  refine (unhide HP).mono ?_
  intro e w2 hX
  have hb2 := hX.1
  have hbx := ((unhide HB).on hb2).bx
  have c1 := hbx.c1
  have j2 := (hbx.o 2).trans (show _ = some (Value.int .i64 o.a) from rfl)
  have j3 := (hbx.o 3).trans (show _ = some (Value.int .i64 o.b) from rfl)
  have j4 := (hbx.o 4).trans (show _ = some (Value.int .i64 o.c) from rfl)
  have HQ := hide (rRead_any o.a o.b o.c ((unhide HD1).on hb2).r (by have := (unhide HD).p; omega) hmax (unhide HD).b8 (unhide HD).at)
  have hex : ∃ lv r, e = .returned (.tuple #[lv, .int .i64 r]) := by
    rcases hX.2 with ⟨_, he⟩ | ⟨_, _, he⟩ | ⟨_, _, _, R, rv, he, _⟩
    . exact ⟨_, _, he⟩
    . exact ⟨_, _, he⟩
    . exact ⟨_, _, he⟩
  obtain ⟨lv, r, rfl⟩ := hex
  have HX := hide hX
  have HB2 := hide ((unhide HB).on hb2).b
  clear hX hb2 hbx c0 k0 k2 k3 k4
  go_wp2_with fail
  refine (unhide HQ).mono ?_
  intro e w3 hR
  obtain ⟨lv', mv, r', L, e1, rfl, ho, hf, hL8, hat⟩ := read_both (unhide HD1) (unhide HX) hR
  cases e1
  have hb3 := hR.1
  have HS := hide (sameFeatures_eq lv mv L.length (gf L) w3 (AtR.csF (ho.on hb3).at) hat (by omega))
  have HO3 := hide (ho.on hb3)
  have HF3 := hide hf
  have HB3 := hide ((unhide HB2).trans (hb3.mono (unhide HB2).size))
  clear hR ho hf hat hb3 c1 j2 j3 j4
  go_wp2_with fail
  refine (unhide HS).mono ?_
  rintro e w4 ⟨rfl, hb4⟩
  have hB4 := (unhide HB3).trans (hb4.mono (unhide HB3).size)
  have c2 := (hB4.cell (p := ⟨wb, 2, none⟩) hlw).trans (unhide HW)
  have hP := Pst.still (unhide HD) (unhide HO) (unhide HDJ) hB4
  have hz : ∀ k, lv.ownBlock = some k -> w.heap.size <= k := fun k q => by have := unhide HF3 k q; have := (unhide HB).b.size; omega
  have HK := hide (keepF_any (v := lv) hP.own ((unhide HO3).on hb4) (fun s hs => new_list (unhide HO) hz s (Or.inr (Or.inl hs))) hl)
  have HZ := hide hz
  have HPS := hide hP
  clear hb4 hB4 hP hz
  go_wp2_with fail
  refine (unhide HK).mono ?_
  intro e w5 hK5
  obtain ⟨rfl, O', hP5⟩ := (unhide HPS).joinF hK5 fun k q => ⟨unhide HZ k q, fun q' => by have := unhide HZ k q; have := (unhide HD).lt q'; omega⟩
  have HP5 := hide hP5
  clear hP5 hK5
  go_wp2_with fail
  go_ret
  exact ⟨rfl, d, O', unhide HP5⟩
end
theorem AtR.frm {α : Type} {R : Row α} {w w' : World} {v : Value} {l : List α} {S : Nat -> Prop} (h : AtR R w v l) (hF : Frm S w w') (hS : 0 < l.length -> ∀ g, v.ownBlock = some g -> ¬ S g) : AtR R w' v l := by
  obtain ⟨oa, cap, e, h1, h2, h3⟩ := h
  refine ⟨oa, cap, e, h1, h2, fun hn => ?_⟩
  obtain ⟨b, off, e', hlt, hc⟩ := h3 hn
  refine ⟨b, off, e', Nat.lt_of_lt_of_le hlt hF.size, fun i a hi j x hx => ?_⟩
  rw [World.cell?_of_block (a := ⟨b, off + i * R.wid + j, none⟩) (hF.block b hlt (hS hn b (by rw [e, e']; rfl)))]
  exact hc i a hi j x hx
section
variable {w : World} {d : DV} {ob wb : Nat} {O : OL} {o : OpV}
set_option maxHeartbeats 12800000 in
theorem stored_apply (h : Dep w d) (hO : OwnL w ob O) (hdj : ∀ k, DFoot d k -> ¬ OF ob O k) (hw : w.cell? ⟨wb, 2, none⟩ = some (.pointer (some ⟨ob, 0, none⟩))) (hwb : ¬ DFoot d wb /\ ¬ OF ob O wb) (hlw : wb < w.heap.size) (hl : O.ES.length <= 1000000000000) (b : Bat) (hB : AtR rE w o.bat b) (hbl : b.length <= 1000000000000) (hbt : 0 < b.length -> ∀ g, o.bat.ownBlock = some g -> ¬ DFoot d g /\ ¬ OF ob O g) (hk : o.kind = 2) :
    Calls Tryz.prog 12 #[.pointer (some ⟨wb, 0, none⟩), .agg #[.pointer (some ⟨d.sb, 0, none⟩), .pointer (some ⟨d.rb, 0, none⟩)], .agg o.v] w fun e w' => e = .returned (.bool true) /\ ∃ d' O', Pst w d ob O w' d' O' := by
  have hb := box_new w d o
  have HB := hide hb
  have c0 := hb.bx.c0
  have k0 := (hb.bx.o 0).trans (show _ = some (Value.int .i64 o.kind) from rfl)
  have k11 := (hb.bx.o 11).trans (show _ = some (Value.slice o.bo o.bn o.bc) from rfl)
  rw [hk] at k0
  have hmax := h.pr.max
  obtain ⟨w1, hw1⟩ : ∃ w1, ((w.alloc (.cells #[.pointer (some ⟨d.sb, 0, none⟩), .pointer (some ⟨d.rb, 0, none⟩)] 53)).alloc (.cells o.v 44)) = w1 := ⟨_, rfl⟩
  have HW1 := hide hw1
  have HN := hide (handed_any (.slice o.bo o.bn o.bc) b _ (AtR.on (show AtR rE w (.slice o.bo o.bn o.bc) b from hB) hb.b) hbl)
  have HBT := hide hbt
  have HBA := hide (show AtR rE w (.slice o.bo o.bn o.bc) b from hB)
  have HD := hide h
  have HO := hide hO
  have HDJ := hide hdj
  have HW := hide hw
  have HWB := hide hwb
  clear hb h hO hdj hw hB hbt hwb hw1
  go_enter Tryz.func12, Tryz.ntmps12
  go_wp2_with fail
  refine (unhide HN).mono ?_
  intro e w2 hH
  rw [unhide HW1] at HB
  rw [unhide HW1] at hH
  obtain ⟨hb2, hH⟩ := hH
  have hB2 := (unhide HB).on hb2
  have hbx := hB2.bx
  have c0' := hbx.c0
  have hd2 := (unhide HD).on hB2.b
  have hO2 := OwnI.on (unhide HO) hB2.b
  have HB2 := hide hB2
  have HD2 := hide hd2
  have HO2 := hide hO2
  have HBX := hide hbx
  rcases hH with ⟨⟨c, hv⟩, rfl, rfl⟩ | ⟨⟨ad, c, hv⟩, rfl, hown⟩
  . have HV := hide hv
    clear hv
    have HP := hide (xApply_any (b := []) (v := .slice none 0 0) hd2 ⟨none, 0, rfl, Nat.zero_le _, fun h => absurd h (by simp)⟩)
    clear hd2 hO2 hbx hB2 hb2 c0 k0 k11
    go_wp2_with fail
    refine (unhide HP).mono ?_
    intro e w3 hX
    obtain ⟨hR3, hF3, n, r, rfl⟩ := app_mid (unhide HD2) hX
    have hbx3 := (unhide HBX).on hF3 fun k q => (unhide HD).lt (Or.inl (Or.inl q))
    have c1 := hbx3.c1
    have k11 := (hbx3.o 11).trans (show _ = some (Value.slice o.bo o.bn o.bc) from rfl)
    have hat3 : AtR rE w3 (.slice o.bo o.bn o.bc) [] := ((unhide HBA).on (unhide HB2).b).frm hF3 fun h0 => absurd h0 (by simp)
    have HQ := hide (rApply_any (.slice o.bo o.bn o.bc) [] hR3 hat3 hmax (unhide HD).b8)
    have HX := hide hX
    have HBX3 := hide hbx3
    clear hX hR3 hF3 hbx3 hat3 c0'
    go_wp2_with fail
    refine (unhide HQ).mono ?_
    intro e w4 hY
    obtain ⟨n', r', d', e1, rfl, hps⟩ := app_end (unhide HD2) (unhide HO2) (unhide HDJ) (unhide HX) hY
    cases e1
    have hbx4 := (unhide HBX).on hps.frm fun k q => by
      rcases q with q | q
      . exact (unhide HD).lt q
      . exact OwnI.lt (unhide HO) q
    have k11' := (hbx4.o 11).trans (show _ = some (Value.slice o.bo o.bn o.bc) from rfl)
    rw [unhide HV] at k11'
    have hps0 := hps.pre (unhide HB2).b
    have c2 : w4.cell? ⟨wb, 2, none⟩ = some (.pointer (some ⟨ob, 0, none⟩)) := by
      rw [World.cell?_of_block (a := ⟨wb, 2, none⟩) (hps0.frm.block wb hlw (fun q => by rcases q with q | q; exact (unhide HWB).1 q; exact (unhide HWB).2 q))]; exact unhide HW
    have HU := hide (fun W => untouched_nil c 0 0 none W)
    have HK := hide (keepE_any (v := .slice none 0 0) (l := []) hps.own ownR_nil (fun s _ g _ q => by simp [Value.ownBlock] at q) hl)
    have HPS := hide hps0
    clear hY hps hps0 hbx4 c1 k11
    go_wp2_with fail
    refine (unhide HU _).mono ?_
    rintro e w5 ⟨rfl, rfl⟩
    go_wp2_with fail
    refine (unhide HK).mono ?_
    intro e w6 hK6
    obtain ⟨rfl, O', hP6⟩ := (unhide HPS).joinE hK6 fun k q => by simp [Value.ownBlock] at q
    have HP6 := hide hP6
    clear hP6 hK6 c2 k11'
    go_wp2_with fail
    go_ret
    exact ⟨rfl, d', O', unhide HP6⟩
  . have HV := hide hv
    clear hv
    have hH2 : Hnd w2 w1.heap.size w1.heap.size b := ⟨hown⟩
    have hgs : w.heap.size <= w1.heap.size := (unhide HB).b.size
    have hg2 : w1.heap.size < w2.heap.size := hH2.lt
    have HP := hide (xApply_any (b := b) hd2 (hH2.at hbl))
    have HH2 := hide hH2
    clear hd2 hO2 hbx hB2 hb2 c0 k0 k11 hH2 hown
    go_wp2_with fail
    refine (unhide HP).mono ?_
    intro e w3 hX
    obtain ⟨hR3, hF3, n, r, rfl⟩ := app_mid (unhide HD2) hX
    have hbx3 := (unhide HBX).on hF3 fun k q => (unhide HD).lt (Or.inl (Or.inl q))
    have c1 := hbx3.c1
    have k11 := (hbx3.o 11).trans (show _ = some (Value.slice o.bo o.bn o.bc) from rfl)
    have hat3 : AtR rE w3 (.slice o.bo o.bn o.bc) b := ((unhide HBA).on (unhide HB2).b).frm hF3 fun h0 g q q' => (unhide HBT h0 g q).1 (Or.inl (Or.inl q'))
    have HQ := hide (rApply_any (.slice o.bo o.bn o.bc) b hR3 hat3 hmax (unhide HD).b8)
    have HX := hide hX
    clear hX hR3 hF3 hbx3 hat3 c0'
    go_wp2_with fail
    refine (unhide HQ).mono ?_
    intro e w4 hY
    obtain ⟨n', r', d', e1, rfl, hps⟩ := app_end (unhide HD2) (unhide HO2) (unhide HDJ) (unhide HX) hY
    cases e1
    have hlt : ∀ k, DFoot d k \/ OF ob O k -> k < w.heap.size := fun k q => by
      rcases q with q | q
      . exact (unhide HD).lt q
      . exact OwnI.lt (unhide HO) q
    have hbx4 := (unhide HBX).on hps.frm hlt
    have k11' := (hbx4.o 11).trans (show _ = some (Value.slice o.bo o.bn o.bc) from rfl)
    have hps0 := hps.pre (unhide HB2).b
    have c2 : w4.cell? ⟨wb, 2, none⟩ = some (.pointer (some ⟨ob, 0, none⟩)) := by
      rw [World.cell?_of_block (a := ⟨wb, 2, none⟩) (hps0.frm.block wb hlw (fun q => by rcases q with q | q; exact (unhide HWB).1 q; exact (unhide HWB).2 q))]; exact unhide HW
    have hH4 : Hnd w4 w1.heap.size w1.heap.size b := (unhide HH2).same (hps.frm.block _ hg2 fun q => by have := hlt _ q; omega)
    have hat4 : AtR rE w4 (.slice o.bo o.bn o.bc) b := (unhide HBA).frm hps0.frm fun h0 g q q' => by
      rcases q' with q' | q'
      . exact (unhide HBT h0 g q).1 q'
      . exact (unhide HBT h0 g q).2 q'
    rw [unhide HV] at k11' hat4
    have HU := hide (untouched_any w1.heap.size w1.heap.size ad c b w4 hH4 hat4 hbl)
    have HPS := hide hps0
    have HH4 := hide hH4
    have HND := hide (show ¬ DFoot d' w1.heap.size from fun q => by
      rcases hps.foot _ q with q | q
      . have := hlt _ (Or.inl q); omega
      . omega)
    have HC2 := hide c2
    have hz4 := hps.frm.size
    clear hY hps hps0 hbx4 c1 k11 hH4 hat4 c2
    go_wp2_with fail
    refine (unhide HU).mono ?_
    rintro e w5 ⟨rfl, hb5⟩
    have hP5 := (unhide HPS)
    have c2 := (hb5.cell (p := ⟨wb, 2, none⟩) (by have := (unhide HPS).frm.size; show wb < _; omega)).trans (unhide HC2)
    have hP5 : Pst w d ob O w5 d' O := ⟨(unhide HPS).dep.on hb5, OwnI.on (unhide HPS).own hb5, (unhide HPS).dj, (unhide HPS).frm.then (Frm.of_below (S := fun _ => False) hb5) (fun _ _ q => q.elim), (unhide HPS).foot, (unhide HPS).ost, (unhide HPS).sb, (unhide HPS).rb⟩
    have hgn : ∀ k, (Value.slice (some ⟨w1.heap.size, 0, none⟩) b.length (b.length + 2)).ownBlock = some k -> k = w1.heap.size := fun k q => by cases q; rfl
    have HK := hide (keepE_any (v := .slice (some ⟨w1.heap.size, 0, none⟩) b.length (b.length + 2)) hP5.own ((unhide HH4).on hb5).pre (fun s hs => new_list (unhide HO) (fun k q => by rw [hgn k q]; exact hgs) s (Or.inr (Or.inr (Or.inr (Or.inr hs))))) hl)
    have HP5 := hide hP5
    clear hb5 hP5
    go_wp2_with fail
    refine (unhide HK).mono ?_
    intro e w6 hK6
    obtain ⟨rfl, O', hP6⟩ := (unhide HP5).joinE hK6 fun k q => by rw [hgn k q]; exact ⟨hgs, unhide HND⟩
    have HP6 := hide hP6
    clear hP6 hK6 c2 k11'
    go_wp2_with fail
    go_ret
    exact ⟨rfl, d', O', unhide HP6⟩
end
def twoOf (d : DV) : Two := ⟨d.sb, d.rb⟩
structure WI (w0 w : World) (wb ob : Nat) (sv : Value) (D : List DV) (O : OL) (c : Nat -> Nat) : Prop where
  base : Below w0.heap.size w0 w
  blk : w.heap[wb]? = some (.cells #[sv, .slice none 0 0, .pointer (some ⟨ob, 0, none⟩)] 37 (0, 0))
  st : OwnR rTwo 53 w sv (D.map twoOf)
  dep : ∀ (i : Nat) (d : DV), D[i]? = some d -> Dep w d
  own : OwnL w ob O
  cd : ∀ (i : Nat) (d : DV) (k : Nat), D[i]? = some d -> DFoot d k -> c k = 3 + i
  co : ∀ k, OF ob O k -> c k = 2
  cw : c wb = 1
  cs : ∀ k, sv.ownBlock = some k -> c k = 1
  cb : ∀ k, k < w0.heap.size -> c k = 0
  r0 : O.RS = []
  g0 : O.GS = []
def WIE (w0 w : World) (wb ob n : Nat) : Prop := ∃ sv D O c, WI w0 w wb ob sv D O c /\ D.length <= n /\ O.IS.length <= n /\ O.FS.length <= n /\ O.ES.length <= n
section
variable {w0 w w' : World} {wb ob : Nat} {sv : Value} {D : List DV} {O O' : OL} {c : Nat -> Nat} {n : Nat}
theorem WI.on (h : WI w0 w wb ob sv D O c) (hb : Below w.heap.size w w') : WI w0 w' wb ob sv D O c :=
  ⟨h.base.trans (hb.mono h.base.size), blk_on h.blk hb, h.st.on hb, fun i d hd => (h.dep i d hd).on hb, OwnI.on h.own hb, h.cd, h.co, h.cw, h.cs, h.cb, h.r0, h.g0⟩
theorem WIE.on (h : WIE w0 w wb ob n) (hb : Below w.heap.size w w') : WIE w0 w' wb ob n := by
  obtain ⟨sv, D, O, c, h, r⟩ := h
  exact ⟨sv, D, O, c, h.on hb, r⟩
theorem WIE.more {m : Nat} (h : WIE w0 w wb ob n) (hm : n <= m) : WIE w0 w wb ob m := by
  obtain ⟨sv, D, O, c, h, h1, h2, h3, h4⟩ := h
  exact ⟨sv, D, O, c, h, by omega, by omega, by omega, by omega⟩
theorem WI.dj (h : WI w0 w wb ob sv D O c) {i : Nat} {d : DV} (hd : D[i]? = some d) : ∀ k, DFoot d k -> ¬ OF ob O k := fun k q q' => by
  have := h.cd i d k hd q; have := h.co k q'; omega
theorem WI.wbn (h : WI w0 w wb ob sv D O c) {i : Nat} {d : DV} (hd : D[i]? = some d) : ¬ DFoot d wb /\ ¬ OF ob O wb := by
  have := h.cw
  exact ⟨fun q => by have := h.cd i d wb hd q; omega, fun q => by have := h.co wb q; omega⟩
theorem map_set {i : Nat} {d d' : DV} (hd : D[i]? = some d) (hs : d'.sb = d.sb) (hr : d'.rb = d.rb) : (D.set i d').map twoOf = D.map twoOf := by
  apply List.ext_getElem?
  intro j
  rw [List.getElem?_map, List.getElem?_map, List.getElem?_set]
  by_cases e : i = j
  . subst e
    rw [if_pos rfl, hd]
    have hi : i < D.length := (List.getElem?_eq_some_iff.1 hd).1
    rw [if_pos hi]
    simp [twoOf, hs, hr]
  . rw [if_neg e]
theorem WI.step (h : WI w0 w wb ob sv D O c) {i : Nat} {d d' : DV} (hd : D[i]? = some d) (hP : Pst w d ob O w' d' O') : ∃ c', WI w0 w' wb ob sv (D.set i d') O' c' := by
  have hi : i < D.length := (List.getElem?_eq_some_iff.1 hd).1
  have frm : ∀ k, k < w.heap.size -> c k ≠ 3 + i -> c k ≠ 2 -> w'.heap[k]? = w.heap[k]? := fun k hk h1 h2 => hP.frm.block k hk fun q => by
    rcases q with q | q
    . exact h1 (h.cd i d k hd q)
    . exact h2 (h.co k q)
  have hsz := hP.frm.size
  classical
  refine ⟨fun k => if k < w.heap.size then c k else if DFoot d' k then 3 + i else 2, ⟨hP.frm.os.trans h.base.os, hP.frm.tape.trans h.base.tape, hP.frm.output.trans h.base.output, Nat.le_trans h.base.size hsz, fun k hk => ?_⟩, ?_, ?_, fun j e he => ?_, hP.own, fun j e k he q => ?_, fun k q => ?_, ?_, fun k q => ?_, fun k hk => ?_, hP.ost.r0 h.r0, hP.ost.g0 h.g0⟩
  . rw [frm k (Nat.lt_of_lt_of_le hk h.base.size) (by rw [h.cb k hk]; omega) (by rw [h.cb k hk]; omega)]
    exact h.base.block k hk
  . rw [frm wb (blk_lt h.blk) (by rw [h.cw]; omega) (by rw [h.cw]; omega)]
    exact h.blk
  . rw [map_set hd hP.sb hP.rb]
    exact h.st.same fun g hg => frm g (h.st.lt hg) (by rw [h.cs g hg]; omega) (by rw [h.cs g hg]; omega)
  . rw [List.getElem?_set] at he
    by_cases ej : i = j
    . subst ej
      rw [if_pos rfl, if_pos hi] at he
      cases he
      exact hP.dep
    . rw [if_neg ej] at he
      refine (h.dep j e he).frm hP.frm fun k q q' => ?_
      have e1 := h.cd j e k he q
      rcases q' with q' | q'
      . have := h.cd i d k hd q'; omega
      . have := h.co k q'; omega
  . rw [List.getElem?_set] at he
    by_cases ej : i = j
    . subst ej
      rw [if_pos rfl, if_pos hi] at he
      cases he
      show (if k < w.heap.size then c k else if DFoot d' k then 3 + i else 2) = 3 + i
      by_cases ck : k < w.heap.size
      . rw [if_pos ck]
        rcases hP.foot k q with q' | q'
        . exact h.cd i d k hd q'
        . omega
      . rw [if_neg ck, if_pos q]
    . rw [if_neg ej] at he
      show (if k < w.heap.size then c k else if DFoot d' k then 3 + i else 2) = 3 + j
      rw [if_pos ((h.dep j e he).lt q)]
      exact h.cd j e k he q
  . show (if k < w.heap.size then c k else if DFoot d' k then 3 + i else 2) = 2
    by_cases ck : k < w.heap.size
    . rw [if_pos ck]
      rcases hP.ost.foot k q with q' | q'
      . exact h.co k q'
      . omega
    . rw [if_neg ck, if_neg fun q' => hP.dj k q' q]
  . show (if wb < w.heap.size then c wb else if DFoot d' wb then 3 + i else 2) = 1
    rw [if_pos (blk_lt h.blk)]; exact h.cw
  . show (if k < w.heap.size then c k else if DFoot d' k then 3 + i else 2) = 1
    rw [if_pos (h.st.lt q)]; exact h.cs k q
  . show (if k < w.heap.size then c k else if DFoot d' k then 3 + i else 2) = 0
    rw [if_pos (Nat.lt_of_lt_of_le hk h.base.size)]; exact h.cb k hk
theorem WI.open (h : WI w0 w wb ob sv D O c) {w3 : World} {k : Int} {x : Value} {o : Obj} (hk : 0 <= k /\ k <= 4)
    (r2 : OwnR rTwo 53 w3 x (D.map twoOf ++ [⟨w.heap.size, w.heap.size + 1⟩]))
    (r3 : ((((w.alloc (.cells #[.int .i64 k, .int .i64 0, .slice none 0 0, .slice none 0 0] 119)).alloc (.cells #[.int .i64 k, .slice none 0 0, .slice none 0 0] 121))).alloc o).grownBy w3 sv.ownBlock)
    (r4 : x.ownBlock = sv.ownBlock \/ ∀ g, x.ownBlock = some g -> w.heap.size + 2 <= g) : ∃ D' c', WI w0 (w3.setCell ⟨wb, 0, none⟩ x) wb ob x D' O c' /\ D'.length = D.length + 1 := by
  let d : DV := ⟨w.heap.size, .slice none 0 0, .slice none 0 0, [], w.heap.size + 1, .slice none 0 0, .slice none 0 0, [], k, [], []⟩
  have hwb := blk_lt h.blk
  have hz := r3.size
  simp only [World.alloc, Array.size_push] at hz
  have old : ∀ q, q < w.heap.size -> q ≠ wb -> sv.ownBlock ≠ some q -> (w3.setCell ⟨wb, 0, none⟩ x).heap[q]? = w.heap[q]? := fun q hq h1 h2 => by
    rw [Below.heap_setCell _ _ _ _ (fun e => h1 e), r3.block q (by simp; omega) (fun e => h2 e.symm), heap_alloc_old _ _ (by simp; omega), heap_alloc_old _ _ (by simp; omega), heap_alloc_old _ _ hq]
  have b1 : w3.heap[w.heap.size]? = some (.cells #[.int .i64 k, .int .i64 0, .slice none 0 0, .slice none 0 0] 119 (0, 0)) := by
    rw [r3.block _ (by simp; omega) (fun e => by have := h.st.lt e.symm; omega), heap_alloc_old _ _ (by simp; omega), heap_alloc_old _ _ (by simp)]
    exact heap_alloc_new w (.cells #[.int .i64 k, .int .i64 0, .slice none 0 0, .slice none 0 0] 119 (0, 0))
  have b2 : w3.heap[w.heap.size + 1]? = some (.cells #[.int .i64 k, .slice none 0 0, .slice none 0 0] 121 (0, 0)) := by
    rw [r3.block _ (by simp) (fun e => by have := h.st.lt e.symm; omega), heap_alloc_old _ _ (by simp)]
    have := heap_alloc_new (w.alloc (.cells #[.int .i64 k, .int .i64 0, .slice none 0 0, .slice none 0 0] 119)) (.cells #[.int .i64 k, .slice none 0 0, .slice none 0 0] 121 (0, 0))
    simpa using this
  have b3 : w3.heap[wb]? = some (.cells #[sv, .slice none 0 0, .pointer (some ⟨ob, 0, none⟩)] 37 (0, 0)) := by
    rw [r3.block _ (by simp; omega) (fun e => by obtain ⟨c1, e1⟩ := h.st.ty e.symm; exact blk_ne e1 h.blk (by decide) rfl), heap_alloc_old _ _ (by simp; omega), heap_alloc_old _ _ (by simp; omega), heap_alloc_old _ _ hwb]
    exact h.blk
  have keep : ∀ q, q < w.heap.size -> c q ≠ 1 -> (w3.setCell ⟨wb, 0, none⟩ x).heap[q]? = w.heap[q]? := fun q hq h1 => old q hq (fun e => h1 (by rw [e]; exact h.cw)) (fun e => h1 (h.cs q e))
  have hnb : ∀ q, q < w.heap.size -> q ≠ w.heap.size /\ q ≠ w.heap.size + 1 := fun q hq => ⟨by omega, by omega⟩
  have hdF : ∀ q, DFoot d q -> q = w.heap.size \/ q = w.heap.size + 1 := fun q hq => by
    rcases hq with (q | q | q) | (q | q | q | ⟨s, hs, _⟩)
    . exact Or.inl q
    . simp [d, Value.ownBlock] at q
    . simp [d, Value.ownBlock] at q
    . exact Or.inr q
    . simp [d, Value.ownBlock] at q
    . simp [d, Value.ownBlock] at q
    . simp [d] at hs
  have hF : Frm (fun q => c q = 1) w (w3.setCell ⟨wb, 0, none⟩ x) := ⟨r3.os, r3.tape, r3.output, by simp [World.setCell]; omega, fun q hq h1 => keep q hq h1⟩
  refine ⟨D ++ [d], fun q => if q < w.heap.size then c q else if q = w.heap.size \/ q = w.heap.size + 1 then 3 + D.length else 1, ⟨⟨r3.os.trans h.base.os, r3.tape.trans h.base.tape, r3.output.trans h.base.output, by have := h.base.size; simp [World.setCell]; omega, fun q hq => ?_⟩, ?_, ?_, fun j e he => ?_, OwnI.frm h.own hF (fun q hq h1 => by have := h.co q hq; omega), fun j e q he hq => ?_, fun q hq => ?_, ?_, fun q hq => ?_, fun q hq => ?_, h.r0, h.g0⟩, by simp⟩
  . have hlt := Nat.lt_of_lt_of_le hq h.base.size
    rw [keep q hlt (by rw [h.cb q hq]; omega)]
    exact h.base.block q hq
  . show (w3.setCell ⟨wb, 0, none⟩ x).heap[wb]? = _
    simp [World.setCell, Array.getElem?_modify, b3]
  . rw [List.map_append]
    exact r2.same fun g hg => Below.heap_setCell _ _ _ _ (by obtain ⟨c1, e1⟩ := r2.ty hg; exact blk_ne e1 b3 (by decide))
  . rcases getElem?_snoc he with he | ⟨rfl, rfl⟩
    . exact (h.dep j e he).frm hF fun q hq h1 => by have := h.cd j e q he hq; omega
    . have s1 : (w3.setCell ⟨wb, 0, none⟩ x).heap[w.heap.size]? = some (.cells #[.int .i64 k, .int .i64 0, .slice none 0 0, .slice none 0 0] 119 (0, 0)) := by rw [Below.heap_setCell _ _ _ _ (by show w.heap.size ≠ wb; omega)]; exact b1
      have s2 : (w3.setCell ⟨wb, 0, none⟩ x).heap[w.heap.size + 1]? = some (.cells #[.int .i64 k, .slice none 0 0, .slice none 0 0] 121 (0, 0)) := by rw [Below.heap_setCell _ _ _ _ (by show w.heap.size + 1 ≠ wb; omega)]; exact b2
      exact ⟨⟨s1, ownC_nil _ _ _ _, ownC_nil _ _ _ _⟩, ⟨s2, ownR_nil, rfl, fun i s b hs => by simp [d] at hs, ownR_nil⟩, pr_nil, hk, by simp [d], fun j hj => by simp [d] at hj, fun g hg => by simp [d, Value.ownBlock] at hg⟩
  . show (if q < w.heap.size then c q else if q = w.heap.size \/ q = w.heap.size + 1 then 3 + D.length else 1) = 3 + j
    rcases getElem?_snoc he with he | ⟨rfl, rfl⟩
    . rw [if_pos ((h.dep j e he).lt hq)]; exact h.cd j e q he hq
    . have e1 := hdF q hq
      rw [if_neg (by omega), if_pos e1]
  . show (if q < w.heap.size then c q else if q = w.heap.size \/ q = w.heap.size + 1 then 3 + D.length else 1) = 2
    rw [if_pos (OwnI.lt h.own hq)]; exact h.co q hq
  . show (if wb < w.heap.size then c wb else if wb = w.heap.size \/ wb = w.heap.size + 1 then 3 + D.length else 1) = 1
    rw [if_pos hwb]; exact h.cw
  . show (if q < w.heap.size then c q else if q = w.heap.size \/ q = w.heap.size + 1 then 3 + D.length else 1) = 1
    rcases r4 with r4 | r4
    . have hq' : sv.ownBlock = some q := r4 ▸ hq
      rw [if_pos (h.st.lt hq')]; exact h.cs q hq'
    . have := r4 q hq
      rw [if_neg (by omega), if_neg (by omega)]
  . show (if q < w.heap.size then c q else if q = w.heap.size \/ q = w.heap.size + 1 then 3 + D.length else 1) = 0
    rw [if_pos (Nat.lt_of_lt_of_le hq h.base.size)]; exact h.cb q hq
end
theorem built53 (p q : Nat) : Tryz.prog.built 53 [(0, .pointer (some ⟨p, 0, none⟩)), (1, .pointer (some ⟨q, 0, none⟩))] = some #[.pointer (some ⟨p, 0, none⟩), .pointer (some ⟨q, 0, none⟩)] := by kernel_rfl
theorem run_b53 (p q : Nat) (A : Act) (o : Oper) (x y : Operand) (ho : o.op = .build 53 #[(0, x), (1, y)]) (hx : A.eval x = .pointer (some ⟨p, 0, none⟩)) (hy : A.eval y = .pointer (some ⟨q, 0, none⟩)) (w : World) : (execOp A.eval o).run Tryz.prog w = .ok (.value (.agg #[.pointer (some ⟨p, 0, none⟩), .pointer (some ⟨q, 0, none⟩)])) w := by
  have hb := run_build (P := Tryz.prog) w 53 #[(0, .pointer (some ⟨p, 0, none⟩)), (1, .pointer (some ⟨q, 0, none⟩))] _ (built53 p q)
  unfold execOp
  simp [ho, hx, hy, hb]
section
variable {w0 w : World} {wb ob n : Nat}
set_option maxHeartbeats 6400000 in
theorem opened_any (k : Int) (h : WIE w0 w wb ob n) (hn : n <= 900000000000) :
    Calls Tryz.prog 10 #[.pointer (some ⟨wb, 0, none⟩), .int .i64 k] w fun e w' => e = .returned (.bool true) /\ WIE w0 w' wb ob (n + 1) := by
  by_cases hk : k < 0 \/ 4 < k
  . have H1 := hide (fun W => New_no k W hk)
    have H2 := hide (fun W => NewStore_any k W)
    have HI := hide (h.more (Nat.le_succ n))
    clear h
    go_enter Tryz.func10, Tryz.ntmps10
    go_wp2_with fail
    refine (unhide H1 _).mono ?_
    rintro e w1 ⟨rfl, rfl⟩
    go_wp2_with fail
    refine (unhide H2 _).mono ?_
    intro e w1 hN
    rcases hN with ⟨_, rfl, rfl⟩ | ⟨q1, q2, _⟩
    . clear hk
      go_wp2_with fail
      go_ret
      exact ⟨rfl, unhide HI⟩
    . omega
  . have hk4 : 0 <= k /\ k <= 4 := by omega
    obtain ⟨sv, D, O, c, hI, h1, h2, h3, h4⟩ := h
    have H1 := hide (New_any k w hk4)
    have H2 := hide (fun W => NewStore_any k W)
    obtain ⟨wx, hwx⟩ : ∃ wx, (w.alloc (.cells #[.int .i64 k, .int .i64 0, .slice none 0 0, .slice none 0 0] 119)) = wx := ⟨_, rfl⟩
    have hzx : wx.heap.size = w.heap.size + 1 := by rw [<- hwx]; simp
    obtain ⟨wy, hwy⟩ : ∃ wy, wx.alloc (.cells #[.int .i64 k, .slice none 0 0, .slice none 0 0] 121) = wy := ⟨_, rfl⟩
    have hb : Below w.heap.size w wy := by rw [<- hwy, <- hwx]; exact ((Below.refl _ _).alloc (Nat.le_refl _) _).alloc (by simp) _
    have hI2 := hI.on hb
    obtain ⟨sa, sk, hsv⟩ := hI.st.slice
    have c0 : wy.cell? ⟨wb, 0, none⟩ = some (.slice sa D.length sk) := by
      have := (blk_cells hI2.blk 0).trans (show _ = some sv from rfl)
      rw [this, hsv, List.length_map]
    obtain ⟨x, w3, r1, r2, r3, r4⟩ := ap34 (hI2.st.on ((Below.refl _ _).alloc (Nat.le_refl _) (.cells #[.pointer (some ⟨w.heap.size, 0, none⟩), .pointer (some ⟨wx.heap.size, 0, none⟩)] 53))) (at_new rTwo 53 wy ⟨w.heap.size, wx.heap.size⟩ #[.pointer (some ⟨w.heap.size, 0, none⟩), .pointer (some ⟨wx.heap.size, 0, none⟩)] rfl) (by simp; omega)
    obtain ⟨xa, xn, xc, rfl⟩ := r2.slc
    have b3 : w3.heap[wb]? = some (.cells #[sv, .slice none 0 0, .pointer (some ⟨ob, 0, none⟩)] 37 (0, 0)) := by
      rw [r3.block _ (by have := blk_lt hI2.blk; simp; omega) (fun e => by obtain ⟨c1, e1⟩ := hI2.st.ty e.symm; exact blk_ne e1 hI2.blk (by decide) rfl), heap_alloc_old _ _ (blk_lt hI2.blk)]
      exact hI2.blk
    have c3 := (blk_cells b3 0).trans (show _ = some sv from rfl)
    rw [hsv, List.length_map] at c3
    have fz := frz_blk b3 0
    have HH : Hid (WIE w0 (w3.setCell ⟨wb, 0, none⟩ (.slice xa xn xc)) wb ob (n + 1)) := by
      rw [hzx] at r2
      rw [<- hwy, <- hwx] at r3
      obtain ⟨D', c', hW, hl⟩ := hI.open hk4 r2 r3 (by
        rcases r4 with r4 | r4
        . exact Or.inl r4
        . refine Or.inr fun g hg => ?_
          have q1 := r4 g hg
          rw [<- hwy] at q1
          simp at q1
          omega)
      exact ⟨_, D', O, c', hW, by omega, by omega, by omega, by omega⟩
    rw [hsv, List.length_map] at r1
    have HX := hide hwx
    have HY := hide hwy
    have hp : ¬ (w.heap.size = wx.heap.size) := by omega
    clear hI hI2 r2 r3 r4 b3 hb hsv hk hwx hwy hzx
    go_enter Tryz.func10, Tryz.ntmps10
    go_wp2_with fail
    refine (unhide H1).mono ?_
    rintro e w1 ⟨rfl, rfl⟩
    rw [unhide HX]
    go_wp2_with fail
    refine (unhide H2 _).mono ?_
    intro e w1 hN
    rcases hN with ⟨q, _, _⟩ | ⟨_, _, rfl, rfl⟩
    . omega
    . rw [unhide HY]
      go_wp2_with (first | refine wlV _ _ (run_b53 w.heap.size wx.heap.size _ _ _ _ rfl rfl rfl _) rfl ?_ | refine wlV _ _ (bsTwo w.heap.size wx.heap.size _ _ _ rfl rfl _) rfl ?_ | (at_builtin; refine wlR 34 r1 rfl _ _ rfl rfl rfl rfl ?_))
      go_ret
      exact ⟨rfl, unhide HH⟩
end
end Go.Proofs.YtpabpniaekldeaaGreatDoor
