/-
  The law Local.
-/
import Derived.Test.YtppcpbhnpdjfpaaLocC
namespace Go.Proofs.Ytppcpbhnpdjfpaa
open Go.RowKit

theorem keyErr_place (l z x y : Int) : keyErr (pk l 4) (pk z 23) (pk x ((2 : Int) ^ (pk z 23).toNat)) (pk y ((2 : Int) ^ (pk z 23).toNat)) = 0 := by
  have a := pk_in l (n := 4) (by omega)
  have b := pk_in z (n := 23) (by omega)
  have p := pow_cap (pk z 23) (by omega)
  have c := pk_in x (n := (2 : Int) ^ (pk z 23).toNat) (by omega)
  have d := pk_in y (n := (2 : Int) ^ (pk z 23).toNat) (by omega)
  unfold keyErr
  rw [if_neg (by omega), if_neg (by omega), if_neg (by omega)]
theorem allR_of {fs : Nat → Nat → Int} {n : Nat} (h : ∀ i, i < n → Rt (fs i)) : allR fs n = true := by
  simp only [allR, List.all_eq_true, List.mem_range]
  exact fun i hi => right_in (h i hi)
/-- Of the features up to k: those that touch the key, in their order. -/
structure Nr (fs : Nat → Nat → Int) (l z x y : Int) (k : Nat) (NL : List (Nat → Int)) : Prop where
  len : NL.length ≤ k
  rt : ∀ i, i < NL.length → Rt (gf NL i)
  tp : ∀ p : Nat, p < 64 → top (gf NL) l z (un z) (cen x (un z) ((p : Int) % 8)) (cen y (un z) ((p : Int) / 8)) NL.length = top fs l z (un z) (cen x (un z) ((p : Int) % 8)) (cen y (un z) ((p : Int) / 8)) k
theorem nr_nil (fs : Nat → Nat → Int) (l z x y : Int) : Nr fs l z x y 0 [] := ⟨Nat.le_refl _, fun i hi => absurd hi (by simp), fun _ _ => rfl⟩
theorem Nr.skip {fs : Nat → Nat → Int} {l z x y : Int} {k : Nat} {NL : List (Nat → Int)} (h : Nr fs l z x y k NL) (hR : Rt (fs k)) (he : keyErr l z x y = 0) (ht : Tch (fs k) l z x y = false) : Nr fs l z x y (k + 1) NL :=
  ⟨by have := h.len; omega, h.rt, fun p hp => by rw [h.tp p hp, top_skip (far_vis hR he ht p hp)]⟩
theorem Nr.add {fs : Nat → Nat → Int} {l z x y : Int} {k : Nat} {NL : List (Nat → Int)} (h : Nr fs l z x y k NL) (hR : Rt (fs k)) : Nr fs l z x y (k + 1) (NL ++ [fs k]) := by
  refine ⟨by have := h.len; simp; omega, fun i hi => ?_, fun p hp => ?_⟩
  · by_cases e : i < NL.length
    · rw [gf_left e]; exact h.rt i e
    · have : i = NL.length := by simp at hi; omega
      subst this; rw [gf_last]; exact hR
  · rw [List.length_append]
    refine top_step ?_ (gf_last NL (fs k))
    rw [← h.tp p hp]
    exact top_congr _ fun i hi => gf_left hi
/-- The last k of m features, the last first. -/
structure Bk (fs : Nat → Nat → Int) (m k : Nat) (BL : List (Nat → Int)) : Prop where
  len : BL.length = k
  at_ : ∀ i, i < k → gf BL i = fs (m - 1 - i)
theorem bk_nil (fs : Nat → Nat → Int) (m : Nat) : Bk fs m 0 [] := ⟨rfl, fun i hi => absurd hi (by omega)⟩
theorem Bk.add {fs : Nat → Nat → Int} {m k : Nat} {BL : List (Nat → Int)} (h : Bk fs m k BL) : Bk fs m (k + 1) (BL ++ [fs (m - 1 - k)]) := by
  refine ⟨by rw [List.length_append, h.len]; rfl, fun i hi => ?_⟩
  by_cases e : i < k
  · rw [gf_left (by rw [h.len]; exact e)]; exact h.at_ i e
  · obtain rfl : i = BL.length := by rw [h.len]; omega
    rw [gf_last, h.len]
/-- No two of the first k have one id. -/
def Ds (fs : Nat → Nat → Int) (k : Nat) : Prop := ∀ i, i < k → ∀ j, j < i → fs j 0 ≠ fs i 0
theorem Ds.add {fs : Nat → Nat → Int} {k : Nat} (h : Ds fs k) (h' : ∀ j, j < k → fs j 0 ≠ fs k 0) : Ds fs (k + 1) := by
  intro i hi j hj
  by_cases e : i = k
  · subst e; exact h' j hj
  · exact h i (by omega) j hj
theorem Ds.inj {fs : Nat → Nat → Int} {k : Nat} (h : Ds fs k) (i j : Nat) (hi : i < k) (hj : j < k) (e : fs i 0 = fs j 0) : i = j := by
  rcases Nat.lt_trichotomy i j with c | c | c
  · exact absurd e (h j hj i c)
  · exact c
  · exact absurd e.symm (h i hi j c)
theorem pOk {fs : Nat → Nat → Int} {n : Nat} {l z x y : Int} (he : keyErr l z x y = 0) (hn : n ≤ 40) (hr : ∀ i, i < n → Rt (fs i)) : pErr fs n l z x y = 0 ∧ pPic fs n l z x y = pic fs n l z x y 64 := by
  unfold pErr pPic
  rw [if_pos he, if_pos he, if_neg (by omega), if_neg (by omega), allR_of hr]
  exact ⟨rfl, rfl⟩
theorem S_beq (S : ByteArray) : (S.toList == S.toList) = true := by simp
theorem apart_blocks {v v' v2 : Value} {w : World} {B : Nat} {l : List (Nat → Int)} (hd : ∀ g, v.ownBlock = some g → v'.ownBlock ≠ some g) (hn : v2.ownBlock = v.ownBlock ∨ ∀ g, v2.ownBlock = some g → w.heap.size < g) (ho : OwnF w B v' l) : ∀ g, v2.ownBlock = some g → v'.ownBlock ≠ some g := by
  intro g hg e
  rcases hn with d | d
  · rw [d] at hg; exact hd g hg e
  · have h1 := d g hg
    have h2 := (ho.lt g e).2
    omega

set_option maxRecDepth 10000 in
set_option maxHeartbeats 12800000 in
theorem local_walk (v : Value) (n : Nat) (fs : Nat → Nat → Int) (kl kz kx ky : Int) (w : World) (hv : FsAt w v n fs) (hF : ∀ i, i < n → F64 (fs i)) (r1 : -9223372036854775808 ≤ kl ∧ kl ≤ 9223372036854775807) (r2 : -9223372036854775808 ≤ kz ∧ kz ≤ 9223372036854775807) (r3 : -9223372036854775808 ≤ kx ∧ kx ≤ 9223372036854775807) (r4 : -9223372036854775808 ≤ ky ∧ ky ≤ 9223372036854775807) :
    Calls Try.prog 10 #[v, .agg #[.int .i64 kl, .int .i64 kz, .int .i64 kx, .int .i64 ky]] w fun e w' => e = .returned (.bool true) ∧ Below w.heap.size w w' := by
  have PL := fun W => place_any kl kz kx ky W r1 r2 r3 r4
  have he := keyErr_place kl kz kx ky
  generalize pk kl 4 = l at PL he
  generalize hz : pk kz 23 = z at PL he
  generalize pk kx ((2 : Int) ^ z.toNat) = x at PL he
  generalize pk ky ((2 : Int) ^ z.toNat) = y at PL he
  clear hz r1 r2 r3 r4
  have RI := fun W h => rights_any v n fs W h hF
  have hL : ∀ i, i < min n 40 → gf (mks fs (min n 40)) i = mk (fs i) := fun i hi => gf_mks fs _ i hi
  have hlen := mks_len fs (min n 40)
  have hm : min n 40 ≤ 40 := by omega
  have hR : ∀ i, i < min n 40 → Rt (gf (mks fs (min n 40)) i) := fun i hi => by rw [hL i hi]; exact mk_rt _
  generalize mks fs (min n 40) = LL at RI hL hlen hR
  generalize min n 40 = m at hL hlen hR hm
  subst hlen
  have HR := hide hR
  clear hL hR hF
  obtain ⟨pe, pp⟩ := pOk he hm (unhide HR)
  have P0 := fun v W h => Paint_any v LL.length (gf LL) l z x y W h
  rw [pe, pp] at P0
  have HSS : Hid (⟨(pic (gf LL) LL.length l z x y 64).toArray⟩ = (⟨(pic (gf LL) LL.length l z x y 64).toArray⟩ : ByteArray)) := rfl
  have hsz : (⟨(pic (gf LL) LL.length l z x y 64).toArray⟩ : ByteArray).size = 64 := by rw [size_of_len, pic_len]
  have HNP : Hid (∀ v W NL, Nr (gf LL) l z x y LL.length NL → FsAt W v NL.length (gf NL) → Calls Try.prog 19 #[v, .agg #[.int .i64 l, .int .i64 z, .int .i64 x, .int .i64 y]] W fun e w' => e = .returned (.tuple #[.string (⟨(pic (gf LL) LL.length l z x y 64).toArray⟩ : ByteArray), .int .i64 0]) ∧ Below W.heap.size W w') := fun v W NL hN h => by
    have q := Paint_any v NL.length (gf NL) l z x y W h
    have ql := hN.len
    obtain ⟨a, b⟩ := pOk he (show NL.length ≤ 40 by omega) hN.rt
    rw [a, b, ink_of_top hN.tp] at q
    exact q
  have HBP : Hid (∀ v W BL (tw : Bool), Bk (gf LL) LL.length LL.length BL → (tw = false → Ds (gf LL) LL.length) → FsAt W v BL.length (gf BL) → Calls Try.prog 19 #[v, .agg #[.int .i64 l, .int .i64 z, .int .i64 x, .int .i64 y]] W fun e w' => (∃ Sb : ByteArray, e = .returned (.tuple #[.string Sb, .int .i64 0]) ∧ (tw = false → Sb = (⟨(pic (gf LL) LL.length l z x y 64).toArray⟩ : ByteArray))) ∧ Below W.heap.size W w') := fun v W BL tw hB hD h => by
    have q := Paint_any v BL.length (gf BL) l z x y W h
    have hb : ∀ i, i < BL.length → Rt (gf BL i) := fun i hi => by rw [hB.at_ i (by rw [← hB.len]; exact hi)]; exact unhide HR _ (by have := hB.len; omega)
    obtain ⟨a, b⟩ := pOk he (show BL.length ≤ 40 by rw [hB.len]; exact hm) hb
    rw [a, b] at q
    refine q.mono fun e w' hh => ⟨⟨_, hh.1, fun ht => ?_⟩, hh.2⟩
    rw [hB.len, ink_of_top fun p _ => top_back l z _ _ _ (unhide HR) hB.at_ (hD ht).inj]
  generalize (⟨(pic (gf LL) LL.length l z x y 64).toArray⟩ : ByteArray) = S at P0 hsz HNP HBP
  have hbq := S_beq S
  clear pe pp HSS
  have HE := hide he
  have HP0 := hide P0
  clear he P0
  have hV0 := hv.on (below_one w (.cells #[.int .i64 kl, .int .i64 kz, .int .i64 kx, .int .i64 ky] 28))
  have hg0 := heap_alloc_new w (.cells #[.int .i64 kl, .int .i64 kz, .int .i64 kx, .int .i64 ky] 28 (0, 0))
  have HB0 := hide (below_one w (.cells #[.int .i64 kl, .int .i64 kz, .int .i64 kx, .int .i64 ky] 28))
  go_enter Try.func10, Try.ntmps10
  go_wp2_with fail
  refine (RI _ hV0).mono ?_
  rintro e w1 ⟨⟨vf, rfl, ho1⟩, hb1⟩
  have hg1 := blk_on hg0 hb1
  have hc1 := blk_cells hg1
  have HB1 := hide ((unhide HB0).trans (hb1.mono (by simp)))
  have HV1 := hide (ho1.at (by omega))
  clear hb1 ho1 hg0 hV0 RI
  go_wp2_with fail
  refine (PL _).mono ?_
  rintro e w2 ⟨rfl, hb2⟩
  have HB2 := hide ((unhide HB1).trans (hb2.mono (unhide HB1).size))
  have HV2 := hide ((unhide HV1).on hb2)
  clear hb2 hg1 hc1 PL
  go_wp2_with fail
  have hV3 := (unhide HV2).on (below_one w2 (.cells #[.int .i64 l, .int .i64 z, .int .i64 x, .int .i64 y] 28))
  have hk3 := heap_alloc_new w2 (.cells #[.int .i64 l, .int .i64 z, .int .i64 x, .int .i64 y] 28 (0, 0))
  refine (unhide HP0 _ _ hV3).mono ?_
  rintro e w3 ⟨rfl, hb3⟩
  have hk := blk_on hk3 hb3
  have HB3 := hide ((unhide HB2).trans (((below_one w2 (.cells #[.int .i64 l, .int .i64 z, .int .i64 x, .int .i64 y] 28)).trans (hb3.mono (by simp))).mono (unhide HB2).size))
  have HV3 := hide (hV3.on hb3)
  clear hb3 hk3 hV3 HV2 HV1
  obtain ⟨oa, cap, rfl, _, hc⟩ := unhide HV3
  have HC := hide hc
  have hlk : w2.heap.size < w3.heap.size := (Array.getElem?_eq_some_iff.1 hk).1
  have hmi : (LL.length : Int) ≤ 40 := by omega
  clear hc
  go_wp2_with fail
  go_loopw [9, 10, 11, 12, 13, 14] (fun nv bv tv i _ _ wr => ∃ (k : Nat) (NL BL : List (Nat → Int)) (tw : Bool), k ≤ LL.length ∧ i = .int .i64 k ∧ tv = .bool tw ∧ OwnF wr w3.heap.size nv NL ∧ OwnF wr w3.heap.size bv BL ∧ Hid (∀ g, nv.ownBlock = some g → bv.ownBlock ≠ some g) ∧ Hid (Nr (gf LL) l z x y k NL) ∧ Hid (Bk (gf LL) LL.length k BL) ∧ Hid (tw = false → Ds (gf LL) k) ∧ Below w3.heap.size w3 wr) (fun _ _ _ i _ _ _ => LL.length - (intOf i).toNat)
  case atStart => exact ⟨0, [], [], false, by omega, rfl, rfl, ownF_nil _ _, ownF_nil _ _, hide (fun g hg => by simp [Value.ownBlock] at hg), hide (nr_nil _ _ _ _ _), hide (bk_nil _ _), hide (fun _ i hi => absurd hi (by omega)), Below.refl _ _⟩
  case round =>
    obtain ⟨k, NL, BL, tw, hkl, rfl, rfl, hon, hob, hdj, hNr, hBk, hDs, hb⟩ := hrel
    have hkr : wr.heap[w2.heap.size]? = some (.cells #[.int .i64 l, .int .i64 z, .int .i64 x, .int .i64 y] 28 (0, 0)) := (hb.block _ hlk).trans hk
    by_cases hlt : k < LL.length
    · obtain ⟨b, off, rfl, hbl, hc0⟩ := unhide HC (by omega)
      have hcs : ∀ W, Below w3.heap.size w3 W → ∀ i, i < LL.length → ∀ j, j < 24 → W.cell? ⟨b, off + i * 24 + j, none⟩ = some (.int .i64 (gf LL i j)) := fun W h i hi j hj => (h.cell (p := ⟨b, off + i * 24 + j, none⟩) hbl).trans (hc0 i hi j hj)
      have HCS := hide hcs
      have hkn : (k : Int) < LL.length := by omega
      have HRk := hide (unhide HR k hlt)
      obtain ⟨q, hq⟩ : ∃ q : Nat, q = LL.length - 1 - k := ⟨_, rfl⟩
      have hq1 : (LL.length : Int) - 1 - (k : Int) = (q : Int) := by omega
      have hql : q < LL.length := by omega
      have hqi : (q : Int) < LL.length := by omega
      have HQ := hide hq
      have TT := fun W => Touches_any (gf LL k) l z x y W
      have HON := hide hon
      have HOB := hide hob
      have HBr := hide hb
      have HKR := hide hkr
      clear hc0 hcs hq
      cases ht : Tch (gf LL k) l z x y with
      | false =>
        rw [ht] at TT
        clear hon hob
        go_wp2
        refine region_bq (by kernel_rfl) (by kernel_rfl) ?_
        refine q_move rfl _ rfl (.slice (some ⟨b, off, none⟩) LL.length cap) rfl ?_
        simp only [Act.put, List.setIfInBounds_toArray, List.set_cons_succ, List.set_cons_zero]
        refine q_move rfl _ rfl (.int .i64 k) rfl ?_
        simp only [Act.put, List.setIfInBounds_toArray, List.set_cons_succ, List.set_cons_zero]
        refine q_val rfl (.pointer (some ⟨b, off + k * 24, none⟩)) (fun _ _ => by simp [go_sem, hkn]) ?_
        simp only [Act.put, List.setIfInBounds_toArray, List.set_cons_succ, List.set_cons_zero]
        refine q_load rfl 26 _ rfl b (off + k * 24) rfl (fc (gf LL k)) _ Try.underlying26 rfl (szf _) (fun w' h => fs_rng (unhide HCS w' (hb.trans (h.mono hb.size))) hlt) ?_
        simp only [Act.put, List.setIfInBounds_toArray, List.set_cons_succ, List.set_cons_zero]
        refine q_load rfl 28 _ rfl w2.heap.size 0 rfl #[.int .i64 l, .int .i64 z, .int .i64 x, .int .i64 y] _ Try.underlying28 rfl (sz28 l z x y) (fun w' h => rng_on hkr h) ?_
        simp only [Act.put, List.setIfInBounds_toArray, List.set_cons_succ, List.set_cons_zero]
        refine q_call rfl 17 #[.agg (fc (gf LL k)), .agg #[.int .i64 l, .int .i64 z, .int .i64 x, .int .i64 y]] (fun _ => by simp [go_sem]) _ TT ?_
        simp only [Act.put, List.setIfInBounds_toArray, List.set_cons_succ, List.set_cons_zero]
        refine q_assign rfl _ rfl (.bool false) rfl ?_
        simp only [Act.put, List.setIfInBounds_toArray, List.set_cons_succ, List.set_cons_zero]
        refine wpQuiet_nil ?_
        intro w6 hw6
        have hon6 := (unhide HON).on hw6
        have hob6 := (unhide HOB).on hw6
        have hb6 := (unhide HBr).trans (hw6.mono (unhide HBr).size)
        have hs6 : w3.heap.size ≤ w6.heap.size := hb6.size
        clear hw6 hb hkr TT
        have hrq := fs_rng (unhide HCS _ hb6) hql
        have HON7 := hide hon6
        have HB7 := hide hb6
        have HDJ7 := hide (unhide hdj)
        clear hb6
        go_wp2_with (first | refine ldm26 rfl _ rfl b (off + q * 24) rfl (gf LL q) hrq ?_ | refine bs34 rfl _ rfl (gf LL q) rfl _ rfl ?_ | (at_builtin; refine ap_feat rfl (.tmp 57) (.tmp 66) rfl _ w3.heap.size _ BL (gf LL q) rfl hob6 rfl ?_ hs6 ?_))
        · have := (unhide hBk).len; omega
        intro v5 w5 ho5 hg5 hd5
        have hon5 := ((unhide HON7).alloc (.cells (fc (gf LL q)) 26)).kept hg5 (fun g hg e => unhide HDJ7 g hg e)
        have hb5 := ((unhide HB7).alloc hs6 (.cells (fc (gf LL q)) 26)).grown hg5 (by simp; omega) (fun k hk => (hob6.lt k hk).1)
        have hd5' : ∀ g, u9.ownBlock = some g → v5.ownBlock ≠ some g := by
          intro g hg e
          rcases hd5 with d | d
          · rw [d] at e; exact unhide HDJ7 g hg e
          · have h1 := d g e
            have h2 := ((unhide HON7).lt g hg).2
            omega
        have hV5 := (unhide HV3).on hb5
        have hc5 := unhide HCS _ hb5 k hlt 0 (by omega)
        simp only [Nat.add_zero] at hc5
        have HD5 := hide hd5'
        have HO5 := hide (And.intro hon5 ho5)
        have HB5 := hide hb5
        clear hob6 hg5 hd5 hb5 hon5 ho5 hd5' hrq
        go_wp2_with fail
        refine (has_any _ LL.length (gf LL) _ _ hV5).mono ?_
        rintro e w9 ⟨⟨r, rfl, hr⟩, rfl⟩
        clear hV5 hc5
        have hBk' : Hid (Bk (gf LL) LL.length (k + 1) (BL ++ [gf LL q])) := by
          have := (unhide hBk).add
          rw [← unhide HQ] at this
          exact this
        obtain ⟨mm, rfl, hmm, hid⟩ : ∃ mm : Nat, r = mm ∧ mm < LL.length ∧ Hid (∀ i, i < mm → gf LL i 0 ≠ gf LL k 0) := by
          rcases hr with ⟨_, hno⟩ | ⟨mm, rfl, h1, _, h3⟩
          · exact absurd rfl (hno k hlt)
          · exact ⟨mm, rfl, h1, hide h3⟩
        cases tw with
        | true =>
          go_wp2_with fail
          go_roundw
          case rel => exact ⟨k + 1, NL, BL ++ [gf LL q], true, by omega, by go_num, rfl, (unhide HO5).1, (unhide HO5).2, unhide HD5, hide ((unhide hNr).skip (unhide HRk) (unhide HE) ht), hBk', hide (fun h => by cases h), unhide HB5⟩
          case measure => simp [intOf]; omega
        | false =>
          by_cases hmk : mm = k
          · subst hmk
            go_wp2_with fail
            go_roundw
            case rel => exact ⟨mm + 1, NL, BL ++ [gf LL q], false, by omega, by go_num, rfl, (unhide HO5).1, (unhide HO5).2, unhide HD5, hide ((unhide hNr).skip (unhide HRk) (unhide HE) ht), hBk', hide (fun _ => (unhide hDs (by first | rfl | trivial)).add (unhide hid)), unhide HB5⟩
            case measure => simp [intOf]; omega
          · have hmi : ¬ (mm : Int) = (k : Int) := by omega
            go_wp2_with fail
            go_roundw
            case rel => exact ⟨k + 1, NL, BL ++ [gf LL q], true, by omega, by go_num, by first | rfl | (congr 1; simp; omega), (unhide HO5).1, (unhide HO5).2, unhide HD5, hide ((unhide hNr).skip (unhide HRk) (unhide HE) ht), hBk', hide (fun h => by cases h), unhide HB5⟩
            case measure => simp [intOf]; omega
      | true =>
        rw [ht] at TT
        clear hon hob
        go_wp2
        refine region_bq (by kernel_rfl) (by kernel_rfl) ?_
        refine q_move rfl _ rfl (.slice (some ⟨b, off, none⟩) LL.length cap) rfl ?_
        simp only [Act.put, List.setIfInBounds_toArray, List.set_cons_succ, List.set_cons_zero]
        refine q_move rfl _ rfl (.int .i64 k) rfl ?_
        simp only [Act.put, List.setIfInBounds_toArray, List.set_cons_succ, List.set_cons_zero]
        refine q_val rfl (.pointer (some ⟨b, off + k * 24, none⟩)) (fun _ _ => by simp [go_sem, hkn]) ?_
        simp only [Act.put, List.setIfInBounds_toArray, List.set_cons_succ, List.set_cons_zero]
        refine q_load rfl 26 _ rfl b (off + k * 24) rfl (fc (gf LL k)) _ Try.underlying26 rfl (szf _) (fun w' h => fs_rng (unhide HCS w' (hb.trans (h.mono hb.size))) hlt) ?_
        simp only [Act.put, List.setIfInBounds_toArray, List.set_cons_succ, List.set_cons_zero]
        refine q_load rfl 28 _ rfl w2.heap.size 0 rfl #[.int .i64 l, .int .i64 z, .int .i64 x, .int .i64 y] _ Try.underlying28 rfl (sz28 l z x y) (fun w' h => rng_on hkr h) ?_
        simp only [Act.put, List.setIfInBounds_toArray, List.set_cons_succ, List.set_cons_zero]
        refine q_call rfl 17 #[.agg (fc (gf LL k)), .agg #[.int .i64 l, .int .i64 z, .int .i64 x, .int .i64 y]] (fun _ => by simp [go_sem]) _ TT ?_
        simp only [Act.put, List.setIfInBounds_toArray, List.set_cons_succ, List.set_cons_zero]
        refine q_assign rfl _ rfl (.bool true) rfl ?_
        simp only [Act.put, List.setIfInBounds_toArray, List.set_cons_succ, List.set_cons_zero]
        refine wpQuiet_nil ?_
        intro w6 hw6
        have hon6 := (unhide HON).on hw6
        have hob6 := (unhide HOB).on hw6
        have hb6 := (unhide HBr).trans (hw6.mono (unhide HBr).size)
        have hs6 : w3.heap.size ≤ w6.heap.size := hb6.size
        clear hw6 hb hkr TT
        have hrk := fs_rng (unhide HCS _ hb6) hlt
        have HB6 := hide hb6
        have HOB6 := hide hob6
        clear hb6 hob6
        go_wp2_with (first | refine ldm26 rfl _ rfl b (off + k * 24) rfl (gf LL k) hrk ?_ | refine bs34 rfl _ rfl (gf LL k) rfl _ rfl ?_ | (at_builtin; refine ap_feat rfl (.tmp 50) (.tmp 55) rfl _ w3.heap.size _ NL (gf LL k) rfl hon6 rfl ?_ hs6 ?_))
        · have := (unhide hNr).len; omega
        intro v4 w4 ho4 hg4 hd4
        have hob4 := ((unhide HOB6).alloc (.cells (fc (gf LL k)) 26)).kept hg4 (fun g hg e => unhide hdj g e hg)
        have hb4 := ((unhide HB6).alloc hs6 (.cells (fc (gf LL k)) 26)).grown hg4 (by simp; omega) (fun k hk => (hon6.lt k hk).1)
        have hd4' := apart_blocks (unhide hdj) hd4 (unhide HOB6)
        have hs4 : w3.heap.size ≤ w4.heap.size := hb4.size
        clear hg4 hd4 hon6 hrk hs6
        have hrq := fs_rng (unhide HCS _ hb4) hql
        have HON7 := hide ho4
        have HB7 := hide hb4
        have HDJ7 := hide hd4'
        clear hb4
        go_wp2_with (first | refine ldm26 rfl _ rfl b (off + q * 24) rfl (gf LL q) hrq ?_ | refine bs34 rfl _ rfl (gf LL q) rfl _ rfl ?_ | (at_builtin; refine ap_feat rfl (.tmp 57) (.tmp 66) rfl _ w3.heap.size _ BL (gf LL q) rfl hob4 rfl ?_ hs4 ?_))
        · have := (unhide hBk).len; omega
        intro v5 w5 ho5 hg5 hd5
        have hon5 := ((unhide HON7).alloc (.cells (fc (gf LL q)) 26)).kept hg5 (fun g hg e => unhide HDJ7 g hg e)
        have hb5 := ((unhide HB7).alloc hs4 (.cells (fc (gf LL q)) 26)).grown hg5 (by simp; omega) (fun k hk => (hob4.lt k hk).1)
        have hd5' : ∀ g, v4.ownBlock = some g → v5.ownBlock ≠ some g := by
          intro g hg e
          rcases hd5 with d | d
          · rw [d] at e; exact unhide HDJ7 g hg e
          · have h1 := d g e
            have h2 := ((unhide HON7).lt g hg).2
            omega
        have hV5 := (unhide HV3).on hb5
        have hc5 := unhide HCS _ hb5 k hlt 0 (by omega)
        simp only [Nat.add_zero] at hc5
        have HD5 := hide hd5'
        have HO5 := hide (And.intro hon5 ho5)
        have HB5 := hide hb5
        clear hob4 hg5 hd5 hb5 hon5 ho5 hd5' hrq
        go_wp2_with fail
        refine (has_any _ LL.length (gf LL) _ _ hV5).mono ?_
        rintro e w9 ⟨⟨r, rfl, hr⟩, rfl⟩
        clear hV5 hc5
        have hBk' : Hid (Bk (gf LL) LL.length (k + 1) (BL ++ [gf LL q])) := by
          have := (unhide hBk).add
          rw [← unhide HQ] at this
          exact this
        obtain ⟨mm, rfl, hmm, hid⟩ : ∃ mm : Nat, r = mm ∧ mm < LL.length ∧ Hid (∀ i, i < mm → gf LL i 0 ≠ gf LL k 0) := by
          rcases hr with ⟨_, hno⟩ | ⟨mm, rfl, h1, _, h3⟩
          · exact absurd rfl (hno k hlt)
          · exact ⟨mm, rfl, h1, hide h3⟩
        cases tw with
        | true =>
          go_wp2_with fail
          go_roundw
          case rel => exact ⟨k + 1, NL ++ [gf LL k], BL ++ [gf LL q], true, by omega, by go_num, rfl, (unhide HO5).1, (unhide HO5).2, unhide HD5, hide ((unhide hNr).add (unhide HRk)), hBk', hide (fun h => by cases h), unhide HB5⟩
          case measure => simp [intOf]; omega
        | false =>
          by_cases hmk : mm = k
          · subst hmk
            go_wp2_with fail
            go_roundw
            case rel => exact ⟨mm + 1, NL ++ [gf LL mm], BL ++ [gf LL q], false, by omega, by go_num, rfl, (unhide HO5).1, (unhide HO5).2, unhide HD5, hide ((unhide hNr).add (unhide HRk)), hBk', hide (fun _ => (unhide hDs (by first | rfl | trivial)).add (unhide hid)), unhide HB5⟩
            case measure => simp [intOf]; omega
          · have hmi : ¬ (mm : Int) = (k : Int) := by omega
            go_wp2_with fail
            go_roundw
            case rel => exact ⟨k + 1, NL ++ [gf LL k], BL ++ [gf LL q], true, by omega, by go_num, by first | rfl | (congr 1; simp; omega), (unhide HO5).1, (unhide HO5).2, unhide HD5, hide ((unhide hNr).add (unhide HRk)), hBk', hide (fun h => by cases h), unhide HB5⟩
            case measure => simp [intOf]; omega
    · have hkn : k = LL.length := by omega
      subst hkn
      have hfn := hon.at (by have := (unhide hNr).len; omega)
      have HOB := hide hob
      have HBr := hide hb
      clear hob hb hon
      have hckr := blk_cells hkr
      go_wp2_with fail
      refine (unhide HNP _ _ NL (unhide hNr) hfn).mono ?_
      rintro e w4 ⟨rfl, hb4⟩
      have hkr4 := blk_on hkr hb4
      have HB4 := hide ((unhide HBr).trans (hb4.mono (unhide HBr).size))
      have hfb := ((unhide HOB).on hb4).at (by have := (unhide hBk).len; omega)
      have hckr4 := blk_cells hkr4
      clear hb4 hfn hkr hckr
      go_wp2_with fail
      refine (unhide HBP _ _ BL tw (unhide hBk) (unhide hDs) hfb).mono ?_
      rintro e w5 ⟨⟨Sb, rfl, hSb⟩, hb5⟩
      have hkr5 := blk_on hkr4 hb5
      have hb5' := (unhide HB4).trans (hb5.mono (unhide HB4).size)
      have HB5 := hide ((unhide HB3).trans (hb5'.mono (unhide HB3).size))
      have HSB := hide hSb
      clear hfb hkr4 hckr4 hSb hb5
      by_cases h0 : 0 < LL.length
      · obtain ⟨b, off, rfl, hbl, hc0⟩ := unhide HC h0
        have hcs : ∀ i, i < LL.length → ∀ j, j < 24 → w5.cell? ⟨b, off + i * 24 + j, none⟩ = some (.int .i64 (gf LL i j)) := fun i hi j hj => (hb5'.cell (p := ⟨b, off + i * 24 + j, none⟩) hbl).trans (hc0 i hi j hj)
        have hbw : b < w5.heap.size := Nat.lt_of_lt_of_le hbl hb5'.size
        have h0' : (0 : Int) < LL.length := by omega
        have AL := fun W => alone_any (gf LL 0) l z x y W (unhide HR 0 h0) (unhide HE)
        clear hc0 hb5'
        go_wp2
        refine region_bq (by kernel_rfl) (by kernel_rfl) ?_
        refine q_move rfl _ rfl (.slice (some ⟨b, off, none⟩) LL.length cap) rfl ?_
        simp only [Act.put, List.setIfInBounds_toArray, List.set_cons_succ, List.set_cons_zero]
        refine q_val rfl (.pointer (some ⟨b, off + 0 * 24, none⟩)) (fun _ _ => by simp [go_sem, show LL ≠ [] from fun e => by rw [e] at h0; simp at h0]) ?_
        simp only [Act.put, List.setIfInBounds_toArray, List.set_cons_succ, List.set_cons_zero]
        refine q_load rfl 26 _ rfl b (off + 0 * 24) rfl (fc (gf LL 0)) _ Try.underlying26 rfl (szf _) (fun w' h => fs_rng (fun i hi j hj => (h.cell (p := ⟨b, off + i * 24 + j, none⟩) hbw).trans (hcs i hi j hj)) h0) ?_
        simp only [Act.put, List.setIfInBounds_toArray, List.set_cons_succ, List.set_cons_zero]
        refine q_load rfl 28 _ rfl w2.heap.size 0 rfl #[.int .i64 l, .int .i64 z, .int .i64 x, .int .i64 y] _ Try.underlying28 rfl (sz28 l z x y) (fun w' h => rng_on hkr5 h) ?_
        simp only [Act.put, List.setIfInBounds_toArray, List.set_cons_succ, List.set_cons_zero]
        refine q_call rfl 34 #[.agg (fc (gf LL 0)), .agg #[.int .i64 l, .int .i64 z, .int .i64 x, .int .i64 y]] (fun _ => by simp [go_sem]) _ AL ?_
        simp only [Act.put, List.setIfInBounds_toArray, List.set_cons_succ, List.set_cons_zero]
        refine q_assign rfl _ rfl (.bool true) rfl ?_
        simp only [Act.put, List.setIfInBounds_toArray, List.set_cons_succ, List.set_cons_zero]
        refine wpQuiet_nil ?_
        intro w6 hw6
        have HB6 := hide ((unhide HB5).trans (hw6.mono (unhide HB5).size))
        clear hw6 hkr5 hcs
        cases tw with
        | true =>
          go_wp2_with fail
          go_ret
          exact ⟨rfl, unhide HB6⟩
        | false =>
          obtain rfl := unhide HSB rfl
          go_wp2_with fail
          go_ret
          exact ⟨rfl, unhide HB6⟩
      · have h0' : ¬ (0 : Int) < LL.length := by omega
        clear hb5'
        cases tw with
        | true =>
          go_wp2_with fail
          go_ret
          exact ⟨rfl, unhide HB5⟩
        | false =>
          obtain rfl := unhide HSB rfl
          go_wp2_with fail
          go_ret
          exact ⟨rfl, unhide HB5⟩
end Go.Proofs.Ytppcpbhnpdjfpaa
