/-
  atlaskeep.touched, stampsAre.
-/
import Derived.Test.YtppcpbhnpdjfpabStH
namespace Go.Proofs.Ytppcpbhnpdjfpab
open Go.RowKit

/-- Does an edit touch the key? -/
def TcR (FL : List (Nat → Int)) (e : Nat → Int) (l z x y : Int) (t : Bool) : Prop :=
  (∃ i, At FL (e 1) i ∧ t = (Tch (gf FL i) l z x y || (decide (e 0 = 0) && Tch (eF e) l z x y))) ∨ (No FL (e 1) ∧ t = (decide (e 0 = 0) && Tch (eF e) l z x y))

set_option maxHeartbeats 6400000 in
theorem touched_any (v : Value) (FL : List (Nat → Int)) (e : Nat → Int) (l z x y : Int) (w : World) (hv : CsAt 24 w v FL.length (gf FL)) :
    Calls Try.prog 15 #[v, .agg (cc 25 e), .agg #[.int .i64 l, .int .i64 z, .int .i64 x, .int .i64 y]] w fun en w' => (∃ t, en = .returned (.bool t) ∧ TcR FL e l z x y t) ∧ Below w.heap.size w w' := by
  obtain ⟨t1, t2, t3⟩ := two_blocks w (.cells (cc 25 e) 56 (0, 0)) (.cells #[.int .i64 l, .int .i64 z, .int .i64 x, .int .i64 y] 41 (0, 0))
  have e0 := cc_at 25 e 0 (by decide)
  have e1 := cc_at 25 e 1 (by decide)
  obtain ⟨O, hO⟩ : ∃ O, e 0 = O := ⟨_, rfl⟩
  obtain ⟨I, hI⟩ : ∃ O, e 1 = O := ⟨_, rfl⟩
  rw [hO] at e0
  rw [hI] at e1
  have hv2 := hv.on t3
  have HHA := hide (has_any v FL.length (gf FL) I _ hv2)
  have T1 := hide t1
  have T2 := hide t2
  have HT3 := hide t3
  have hce := blk_cells t1
  obtain ⟨oa, cap, rfl, _, hc⟩ := hv2
  have HC := hide hc
  clear hc hv t3 t2 t1
  go_enter Try.func15, Try.ntmps15
  go_wp2_with fail
  refine (unhide HHA).mono ?_
  rintro en w9 ⟨⟨r, rfl, hr⟩, rfl⟩
  have FIN : Hid (∀ W, Below ((w.alloc (.cells (cc 25 e) 56)).alloc (.cells #[.int .i64 l, .int .i64 z, .int .i64 x, .int .i64 y] 41)).heap.size ((w.alloc (.cells (cc 25 e) 56)).alloc (.cells #[.int .i64 l, .int .i64 z, .int .i64 x, .int .i64 y] 41)) W → (W.heap[w.heap.size]? = some (.cells (cc 25 e) 56 (0, 0)) ∧ W.heap[w.heap.size + 1]? = some (.cells #[.int .i64 l, .int .i64 z, .int .i64 x, .int .i64 y] 41 (0, 0)) ∧ Below w.heap.size w W)) := fun W hW => ⟨blk_on (unhide T1) hW, blk_on (unhide T2) hW, (unhide HT3).trans (hW.mono (unhide HT3).size)⟩
  have HCW : Hid (∀ W, Below ((w.alloc (.cells (cc 25 e) 56)).alloc (.cells #[.int .i64 l, .int .i64 z, .int .i64 x, .int .i64 y] 41)).heap.size ((w.alloc (.cells (cc 25 e) 56)).alloc (.cells #[.int .i64 l, .int .i64 z, .int .i64 x, .int .i64 y] 41)) W → ∀ b off, oa = some ⟨b, off, none⟩ → ∀ k, k < FL.length → W.rangeAt b (off + k * 24) (fc (gf FL k)).toList) := fun W hW b off e k hk => by
    obtain ⟨b', off', e', hbl, hcc⟩ := unhide HC (by omega)
    rw [e] at e'
    simp only [Option.some.injEq, Addr.mk.injEq, and_true] at e'
    obtain ⟨rfl, rfl⟩ := e'
    exact fs_rng (fun i hi j hj => (hW.cell (p := ⟨b, off + i * 24 + j, none⟩) hbl).trans (hcc i hi j hj)) hk
  have HB0 := hide (Below.refl ((w.alloc (.cells (cc 25 e) 56)).alloc (.cells #[.int .i64 l, .int .i64 z, .int .i64 x, .int .i64 y] 41)).heap.size ((w.alloc (.cells (cc 25 e) 56)).alloc (.cells #[.int .i64 l, .int .i64 z, .int .i64 x, .int .i64 y] 41)))
  have HC' : Hid (0 < FL.length → ∃ b off, oa = some ⟨b, off, none⟩) := fun h => by
    obtain ⟨b', off', e', _, _⟩ := unhide HC h
    exact ⟨b', off', e'⟩
  clear HHA HC
  generalize (w.alloc (.cells (cc 25 e) 56)).alloc (.cells #[.int .i64 l, .int .i64 z, .int .i64 x, .int .i64 y] 41) = w2 at FIN HCW HB0 hce T1 T2 HT3 ⊢
  have REST : Hid (∀ (W : World), Below w2.heap.size w2 W → Calls Try.prog 32 #[.agg (fc (eF e)), .agg #[.int .i64 l, .int .i64 z, .int .i64 x, .int .i64 y]] W fun en w' => en = .returned (.bool (Tch (eF e) l z x y)) ∧ Below W.heap.size W w') := fun W _ => Touches_any (eF e) l z x y W
  rcases hr with ⟨rfl, hno⟩ | ⟨i, rfl, hi, hid, hfst⟩
  · have HN : Hid (No FL (e 1)) := fun i hi => by rw [hI]; exact hno i hi
    clear hno
    by_cases h0 : O = 0
    · have HTC : Hid (TcR FL e l z x y (Tch (eF e) l z x y)) := Or.inr ⟨unhide HN, by rw [hO, h0]; simp⟩
      have hrg := ec_F e (unhide T1)
      have hck := blk_cells (unhide T2)
      subst h0
      go_wp2_with (refine ldm26 rfl _ rfl w.heap.size 1 rfl (eF e) hrg ?_)
      refine (unhide REST _ (unhide HB0)).mono ?_
      rintro en w3 ⟨rfl, hb3⟩
      have HF := hide (unhide FIN _ hb3).2.2
      clear hb3 hrg hck hce
      go_wp2_with fail
      go_ret
      exact ⟨⟨_, rfl, unhide HTC⟩, unhide HF⟩
    · have HTC : Hid (TcR FL e l z x y false) := Or.inr ⟨unhide HN, by rw [hO, decide_eq_false h0]; rfl⟩
      have HF := hide (unhide FIN _ (unhide HB0)).2.2
      go_wp2_with fail
      go_ret
      exact ⟨⟨_, rfl, unhide HTC⟩, unhide HF⟩
  · have HA : Hid (At FL (e 1) i) := ⟨hi, by rw [hI]; exact hid, fun j hj => by rw [hI]; exact hfst j hj⟩
    obtain ⟨b, off, rfl⟩ := unhide HC' (by omega)
    have hin : (i : Int) < FL.length := by omega
    have hk2 := unhide T2
    have TT := fun W => Touches_any (gf FL i) l z x y W
    clear hid hfst
    cases ht : Tch (gf FL i) l z x y with
    | true =>
      rw [ht] at TT
      go_wp2
      refine region_bq (by kernel_rfl) (by kernel_rfl) ?_
      refine q_move rfl _ rfl (.slice (some ⟨b, off, none⟩) FL.length cap) rfl ?_
      simp only [Act.put, List.setIfInBounds_toArray, List.set_cons_succ, List.set_cons_zero]
      refine q_move rfl _ rfl (.int .i64 i) rfl ?_
      simp only [Act.put, List.setIfInBounds_toArray, List.set_cons_succ, List.set_cons_zero]
      refine q_val rfl (.pointer (some ⟨b, off + i * 24, none⟩)) (fun _ _ => by simp [go_sem, hin]) ?_
      simp only [Act.put, List.setIfInBounds_toArray, List.set_cons_succ, List.set_cons_zero]
      refine q_load rfl 54 _ rfl b (off + i * 24) rfl (fc (gf FL i)) _ Try.underlying54 rfl (szf _) (fun w' h => unhide HCW w' h b off rfl i hi) ?_
      simp only [Act.put, List.setIfInBounds_toArray, List.set_cons_succ, List.set_cons_zero]
      refine q_load rfl 41 _ rfl (w.heap.size + 1) 0 rfl #[.int .i64 l, .int .i64 z, .int .i64 x, .int .i64 y] _ Try.underlying41 rfl (sz28 l z x y) (fun w' h => rng_on hk2 h) ?_
      simp only [Act.put, List.setIfInBounds_toArray, List.set_cons_succ, List.set_cons_zero]
      refine q_call rfl 32 #[.agg (fc (gf FL i)), .agg #[.int .i64 l, .int .i64 z, .int .i64 x, .int .i64 y]] (fun _ => by simp [go_sem]) _ TT ?_
      simp only [Act.put, List.setIfInBounds_toArray, List.set_cons_succ, List.set_cons_zero]
      refine q_assign rfl _ rfl (.bool true) rfl ?_
      simp only [Act.put, List.setIfInBounds_toArray, List.set_cons_succ, List.set_cons_zero]
      refine wpQuiet_nil ?_
      intro w6 hw6
      have HTC : Hid (TcR FL e l z x y true) := Or.inl ⟨i, unhide HA, by rw [ht]; rfl⟩
      have HF := hide (unhide FIN _ hw6).2.2
      clear hw6 hk2 hce TT
      go_wp2_with fail
      go_ret
      exact ⟨⟨_, rfl, unhide HTC⟩, unhide HF⟩
    | false =>
      rw [ht] at TT
      go_wp2
      refine region_bq (by kernel_rfl) (by kernel_rfl) ?_
      refine q_move rfl _ rfl (.slice (some ⟨b, off, none⟩) FL.length cap) rfl ?_
      simp only [Act.put, List.setIfInBounds_toArray, List.set_cons_succ, List.set_cons_zero]
      refine q_move rfl _ rfl (.int .i64 i) rfl ?_
      simp only [Act.put, List.setIfInBounds_toArray, List.set_cons_succ, List.set_cons_zero]
      refine q_val rfl (.pointer (some ⟨b, off + i * 24, none⟩)) (fun _ _ => by simp [go_sem, hin]) ?_
      simp only [Act.put, List.setIfInBounds_toArray, List.set_cons_succ, List.set_cons_zero]
      refine q_load rfl 54 _ rfl b (off + i * 24) rfl (fc (gf FL i)) _ Try.underlying54 rfl (szf _) (fun w' h => unhide HCW w' h b off rfl i hi) ?_
      simp only [Act.put, List.setIfInBounds_toArray, List.set_cons_succ, List.set_cons_zero]
      refine q_load rfl 41 _ rfl (w.heap.size + 1) 0 rfl #[.int .i64 l, .int .i64 z, .int .i64 x, .int .i64 y] _ Try.underlying41 rfl (sz28 l z x y) (fun w' h => rng_on hk2 h) ?_
      simp only [Act.put, List.setIfInBounds_toArray, List.set_cons_succ, List.set_cons_zero]
      refine q_call rfl 32 #[.agg (fc (gf FL i)), .agg #[.int .i64 l, .int .i64 z, .int .i64 x, .int .i64 y]] (fun _ => by simp [go_sem]) _ TT ?_
      simp only [Act.put, List.setIfInBounds_toArray, List.set_cons_succ, List.set_cons_zero]
      refine q_assign rfl _ rfl (.bool false) rfl ?_
      simp only [Act.put, List.setIfInBounds_toArray, List.set_cons_succ, List.set_cons_zero]
      refine wpQuiet_nil ?_
      intro w6 hw6
      obtain ⟨b1, b2, b3⟩ := unhide FIN _ hw6
      have hce6 := blk_cells b1
      have HB6 := hide hw6
      have HF6 := hide b3
      by_cases h0 : O = 0
      · have HTC : Hid (TcR FL e l z x y (Tch (eF e) l z x y)) := Or.inl ⟨i, unhide HA, by rw [ht, hO, h0]; simp⟩
        have hrg := ec_F e b1
        have hck := blk_cells b2
        subst h0
        clear hw6 b3 hk2 hce TT
        go_wp2_with (refine ldm26 rfl _ rfl w.heap.size 1 rfl (eF e) hrg ?_)
        refine (unhide REST _ (unhide HB6)).mono ?_
        rintro en w3 ⟨rfl, hb3⟩
        have HF := hide ((unhide HF6).trans (hb3.mono (unhide HF6).size))
        clear hb3 hrg b1 b2 hce6 hck
        go_wp2_with fail
        go_ret
        exact ⟨⟨_, rfl, unhide HTC⟩, unhide HF⟩
      · have HTC : Hid (TcR FL e l z x y false) := Or.inl ⟨i, unhide HA, by rw [ht, hO, decide_eq_false h0]; rfl⟩
        clear hw6 b3 hk2 hce TT
        go_wp2_with fail
        go_ret
        exact ⟨⟨_, rfl, unhide HTC⟩, unhide HF6⟩

set_option maxHeartbeats 3200000 in
theorem stampsAre_any (sb : Nat) (keep ver : Int) (sl pv : Value) (LS : List (Nat → Int)) (sv : Value) (n : Nat) (ss : Nat → Nat → Int) (l z x y : Int) (w : World) (hs : Sto w sb keep ver sl pv LS) (hl : LS.length ≤ 1000) (he : keyErr l z x y = 0) (hv : CsAt 1 w sv n ss) (hn : (n : Int) ≤ ver + 1) (hn' : n ≤ 1000)
    (hss : ∀ v : Nat, v < n → ss v 0 = stp v l z x y LS LS.length) :
    Calls Try.prog 16 #[.pointer (some ⟨sb, 0, none⟩), sv, .agg #[.int .i64 l, .int .i64 z, .int .i64 x, .int .i64 y]] w fun e w' => e = .returned (.bool true) ∧ Below w.heap.size w w' := by
  have hg0 := heap_alloc_new w (.cells #[.int .i64 l, .int .i64 z, .int .i64 x, .int .i64 y] 41 (0, 0))
  have HS := hide (hs.on (below_one w (.cells #[.int .i64 l, .int .i64 z, .int .i64 x, .int .i64 y] 41)))
  obtain ⟨oa, cap, rfl, _, hc⟩ := hv
  have HC := hide hc
  have HSS := hide hss
  have HE := hide he
  have HB0 := hide (below_one w (.cells #[.int .i64 l, .int .i64 z, .int .i64 x, .int .i64 y] 41))
  clear hs hc hss he
  go_enter Try.func16, Try.ntmps16
  go_wp2_with fail
  go_loopw [7, 8, 9] (fun i _ _ wr => ∃ k : Nat, k ≤ n ∧ i = .int .i64 k ∧ Below (w.alloc (.cells #[.int .i64 l, .int .i64 z, .int .i64 x, .int .i64 y] 41)).heap.size (w.alloc (.cells #[.int .i64 l, .int .i64 z, .int .i64 x, .int .i64 y] 41)) wr) (fun i _ _ _ => n - (intOf i).toNat)
  case atStart => exact ⟨0, by omega, rfl, Below.refl _ _⟩
  case round =>
    obtain ⟨k, hk, rfl, hb⟩ := hrel
    have hgr := blk_on hg0 hb
    have HBw := hide ((unhide HB0).trans (hb.mono (by simp)))
    by_cases hlt : k < n
    · have hkn : (k : Int) < n := by omega
      obtain ⟨b, off, rfl, hbl, hc0⟩ := unhide HC (by omega)
      have hck := ((unhide HBw).cell (p := ⟨b, off + k * 1 + 0, none⟩) hbl).trans (hc0 k hlt 0 (by omega))
      rw [unhide HSS k hlt] at hck
      simp only [Nat.mul_one, Nat.add_zero] at hck
      have HST := hide (Stamp_any sb keep ver sl pv LS k l z x y wr ((unhide HS).on hb) hl (unhide HE) ⟨by omega, by omega⟩)
      obtain ⟨S, hS⟩ : ∃ S, stp (k : Int) l z x y LS LS.length = S := ⟨_, rfl⟩
      rw [hS] at hck HST
      have HBr := hide hb
      have hbw : b < wr.heap.size := Nat.lt_of_lt_of_le hbl (unhide HBw).size
      clear hc0 hb hS
      have hcr := blk_cells hgr
      go_wp2_with fail
      refine (unhide HST).mono ?_
      rintro e w3 ⟨rfl, hb3⟩
      have hck3 := (hb3.cell (p := ⟨b, off + k, none⟩) hbw).trans hck
      have HB3 := hide ((unhide HBr).trans (hb3.mono (unhide HBr).size))
      clear hb3 hck hgr hcr
      go_wp2_with fail
      go_roundw
      case rel => exact ⟨k + 1, by omega, by go_num, unhide HB3⟩
      case measure => simp [intOf]; omega
    · have hkn : k = n := by omega
      subst hkn
      clear hb
      go_wp2_with fail
      go_ret
      exact ⟨rfl, unhide HBw⟩
end Go.Proofs.Ytppcpbhnpdjfpab
