/-
  The law Still.
-/
import Derived.Test.YtppcpbhnpdjfpabStL
namespace Go.Proofs.Ytppcpbhnpdjfpab
open Go.RowKit

theorem Try.info3 : (Try.prog.info? 3).map (fun i => (i.zero, i.size, i.bytes)) = some (some (.int .i64 0), 1, 8) := by kernel_rfl
theorem ap_int {ops : Array Oper} {rest : List Oper} {o : Oper} {a : Act} {Q : Exit → Act → World → Prop} (hgd : o.guard = none) (s x : Operand)
    (ho : o.op = .call { callee := .builtin .append, args := #[s, x], argTypes := #[30, 30] })
    (W : World) (B : Nat) (v : Value) (l : List (Nat → Int)) (b : Int) (hs : a.eval s = v) (hown : OwnC 3 1 W B v l) (hx : a.eval x = .slice (some ⟨W.heap.size, 0, none⟩) 1 1)
    (hlen : l.length ≤ 1000) (hB : B ≤ W.heap.size)
    (h : ∀ v' w', OwnC 3 1 w' B v' (l ++ [fun _ => b]) → (W.alloc (.cells #[.int .i64 b] 3)).grownBy w' v.ownBlock → (v'.ownBlock = v.ownBlock ∨ ∀ g, v'.ownBlock = some g → W.heap.size < g) → wpList Try.prog ops Q rest (a.put o.dst v') w') :
    wpList Try.prog ops Q (o :: rest) a (W.alloc (.cells #[.int .i64 b] 3)) := by
  obtain ⟨i0, hi, hz0, hz1, hz2⟩ := info_parts Try.info3
  refine ap_own _ hgd s x 30 ho B 3 i0 (.int .i64 0) 1 8 Try.underlying30 hi hz0 hz1 hz2 rfl (by decide) v l.length (fl 1 l) hs (World.ownsRow.alloc hown _) ⟨W.heap.size, 0, none⟩ 1 [.int .i64 b] hx rfl ?_ ?_ ?_ ?_ ?_ ?_
  · intro j u hj
    rw [Addr.add_mid, Nat.zero_add, blk_cells (heap_alloc_new W (.cells #[.int .i64 b] 3 (0, 0)))]
    simpa using hj
  · intro u hu; simp at hu; subst hu; rfl
  · omega
  · omega
  · simp; omega
  · intro v' w' r1 r2 r3
    refine h v' w' ?_ r2 ?_
    · unfold OwnC
      rw [fl_snoc]
      simpa [cc] using r1
    · rcases r3 with r3 | r3
      · exact Or.inl r3
      · right
        intro g hg
        have := r3 g hg
        simp at this
        omega
theorem ownI_one (w : World) (B : Nat) (hB : B ≤ w.heap.size) (b : Int) : OwnC 3 1 (w.alloc (.cells #[.int .i64 b] 3)) B (.slice (some ⟨w.heap.size, 0, none⟩) 1 1) [fun _ => b] :=
  ⟨by rw [fl_len], Or.inr ⟨w.heap.size, 1, #[.int .i64 b], rfl, hB, heap_alloc_new w (.cells #[.int .i64 b] 3 (0, 0)), Nat.le_refl _, by unfold maxLen; omega, rfl, by simp [fl, cc]⟩⟩
theorem keyErr_place (l z x y : Int) : keyErr (pk l 4) (pk z 23) (pk x ((2 : Int) ^ (pk z 23).toNat)) (pk y ((2 : Int) ^ (pk z 23).toNat)) = 0 := by
  have a := pk_in l (n := 4) (by omega)
  have b := pk_in z (n := 23) (by omega)
  have p := pow_cap (pk z 23) (by omega)
  have c := pk_in x (n := (2 : Int) ^ (pk z 23).toNat) (by omega)
  have d := pk_in y (n := (2 : Int) ^ (pk z 23).toNat) (by omega)
  unfold keyErr
  rw [if_neg (by omega), if_neg (by omega), if_neg (by omega)]
theorem allR_of {fs : Nat → Nat → Int} {n : Nat} (h : ∀ i, i < n → Rt (fs i)) : allR fs n = true := by
  simp only [allR, List.all_eq_true, List.mem_range]
  exact fun i hi => right_in (h i hi)
theorem pOk {fs : Nat → Nat → Int} {n : Nat} {l z x y : Int} (he : keyErr l z x y = 0) (hn : n ≤ 40) (hr : ∀ i, i < n → Rt (fs i)) : pErr fs n l z x y = 0 ∧ pPic fs n l z x y = pic fs n l z x y 64 := by
  unfold pErr pPic
  rw [if_pos he, if_pos he, if_neg (by omega), if_neg (by omega), allR_of hr]
  exact ⟨rfl, rfl⟩
theorem S_beq (S : ByteArray) : (S.toList == S.toList) = true := by simp
/-- The tile of a list. -/
def tile (FL : List (Nat → Int)) (l z x y : Int) : ByteArray := ⟨(pic (gf FL) FL.length l z x y 64).toArray⟩
theorem tile_size (FL : List (Nat → Int)) (l z x y : Int) : (tile FL l z x y).size = 64 := by unfold tile; rw [size_of_len, pic_len]
theorem paint_tile {FL : List (Nat → Int)} {l z x y : Int} (he : keyErr l z x y = 0) (hn : FL.length ≤ 40) (hr : ∀ i, i < FL.length → Rt (gf FL i)) (v : Value) (W : World) (h : FsAt W v FL.length (gf FL)) :
    Calls Try.prog 11 #[v, .agg #[.int .i64 l, .int .i64 z, .int .i64 x, .int .i64 y]] W fun e w' => e = .returned (.tuple #[.string (tile FL l z x y), .int .i64 0]) ∧ Below W.heap.size W w' := by
  have q := Paint_any v FL.length (gf FL) l z x y W h
  obtain ⟨a, b⟩ := pOk he hn hr
  rw [a, b] at q
  exact q
/-- How a store, the features and their stamps stand beside each other. -/
structure Sit (kb sb : Nat) (l z x y : Int) (E : List (Nat → Int)) (lv fv sv sl : Value) (n : Nat) (FL LS SS : List (Nat → Int)) (wr : World) : Prop where
  key : wr.heap[kb]? = some (.cells #[.int .i64 l, .int .i64 z, .int .i64 x, .int .i64 y] 41 (0, 0))
  sto : Sto wr sb 1 n sl (.slice none 0 0) LS
  fs : OwnC 54 24 wr (sb + 1) fv FL
  ss : OwnC 3 1 wr (sb + 1) sv SS
  es : OwnC 56 25 wr (sb + 1) lv E
  dl : ∀ g, sv.ownBlock = some g → lv.ownBlock ≠ some g
  df : ∀ g, sv.ownBlock = some g → fv.ownBlock ≠ some g
  ds : ∀ g, sv.ownBlock = some g → sl.ownBlock ≠ some g
  rel : Rel LS FL
  bnd : Bnd LS n
  len : LS.length ≤ n
  le40 : FL.length ≤ 40
  slen : SS.length = n + 1
  st : ∀ v : Nat, v ≤ n → gf SS v 0 = stp v l z x y LS LS.length
theorem Sit.on {kb sb : Nat} {l z x y : Int} {E : List (Nat → Int)} {lv fv sv sl : Value} {n : Nat} {FL LS SS : List (Nat → Int)} {wr w' : World} (h : Sit kb sb l z x y E lv fv sv sl n FL LS SS wr) (hb : Below wr.heap.size wr w') : Sit kb sb l z x y E lv fv sv sl n FL LS SS w' :=
  ⟨blk_on h.key hb, h.sto.on hb, h.fs.on hb, h.ss.on hb, h.es.on hb, h.dl, h.df, h.ds, h.rel, h.bnd, h.len, h.le40, h.slen, h.st⟩
theorem OwnC.nilOr {T : TypeId} {m : Nat} {w : World} {B : Nat} {v : Value} {l : List (Nat → Int)} (h : OwnC T m w B v l) : v = .slice none 0 0 ∨ ∃ b off c, v = .slice (some ⟨b, off, none⟩) l.length c := by
  rcases h.2 with ⟨e, _⟩ | ⟨g, cap, cur, e, _⟩
  · exact Or.inl e
  · exact Or.inr ⟨g, 0, cap, e⟩

set_option maxRecDepth 20000 in
set_option maxHeartbeats 25600000 in
theorem still_walk (oa : Option Addr) (N cap : Nat) (es : Nat → Nat → Int) (kl kz kx ky every : Int) (w : World) (hcap : N ≤ cap) (hv : CsAt 25 w (.slice oa N cap) N es) (hF : ∀ i, i < N → ∀ j, j < 25 → -9223372036854775808 ≤ es i j ∧ es i j ≤ 9223372036854775807) (hN : N * 200 ≤ 140737488355328)
    (r1 : -9223372036854775808 ≤ kl ∧ kl ≤ 9223372036854775807) (r2 : -9223372036854775808 ≤ kz ∧ kz ≤ 9223372036854775807) (r3 : -9223372036854775808 ≤ kx ∧ kx ≤ 9223372036854775807) (r4 : -9223372036854775808 ≤ ky ∧ ky ≤ 9223372036854775807) (r5 : -9223372036854775808 ≤ every ∧ every ≤ 9223372036854775807) :
    Calls Try.prog 4 #[.slice oa N cap, .agg #[.int .i64 kl, .int .i64 kz, .int .i64 kx, .int .i64 ky], .int .i64 every] w fun e w' => e = .returned (.bool true) ∧ Below w.heap.size w w' := by
  have PL := fun W => place_any kl kz kx ky W r1 r2 r3 r4
  have he := keyErr_place kl kz kx ky
  generalize pk kl 4 = l at PL he
  generalize hz : pk kz 23 = z at PL he
  generalize pk kx ((2 : Int) ^ z.toNat) = x at PL he
  generalize pk ky ((2 : Int) ^ z.toNat) = y at PL he
  have PK := fun W => pick_any every 9 W r5 (by omega)
  have bq := pk_in every (n := 9) (by omega)
  generalize pk every 9 = q at PK bq
  clear hz r1 r2 r3 r4 r5
  have HE := hide he
  have HV := hide hv
  have HF := hide hF
  have hg0 := heap_alloc_new w (.cells #[.int .i64 kl, .int .i64 kz, .int .i64 kx, .int .i64 ky] 41 (0, 0))
  have HB0 := hide (below_one w (.cells #[.int .i64 kl, .int .i64 kz, .int .i64 kx, .int .i64 ky] 41))
  clear he hv hF
  go_enter Try.func4, Try.ntmps4
  go_wp2_with fail
  refine (PL _).mono ?_
  rintro e w1 ⟨rfl, hb1⟩
  have HB1 := hide ((unhide HB0).trans (hb1.mono (by simp)))
  clear hb1 hg0 PL
  go_wp2_with fail
  refine (New_any _ _ (by omega)).mono ?_
  rintro e w2 ⟨rfl, rfl⟩
  have hsz1 : (w1.alloc (.cells #[.int .i64 l, .int .i64 z, .int .i64 x, .int .i64 y] 41)).heap.size = w1.heap.size + 1 := by simp
  rw [hsz1]
  obtain ⟨t1, t2, t3⟩ := two_blocks w1 (.cells #[.int .i64 l, .int .i64 z, .int .i64 x, .int .i64 y] 41 (0, 0)) (.cells #[.int .i64 1, .int .i64 0, .slice none 0 0, .slice none 0 0] 62 (0, 0))
  have hc2 := blk_cells t1
  have T1 := hide t1
  have T2 := hide t2
  have HB2 := hide ((unhide HB1).trans (t3.mono (unhide HB1).size))
  have hz2 : ((w1.alloc (.cells #[.int .i64 l, .int .i64 z, .int .i64 x, .int .i64 y] 41)).alloc (.cells #[.int .i64 1, .int .i64 0, .slice none 0 0, .slice none 0 0] 62)).heap.size = w1.heap.size + 2 := by simp
  clear t2 t3 t1
  generalize (w1.alloc (.cells #[.int .i64 l, .int .i64 z, .int .i64 x, .int .i64 y] 41)).alloc (.cells #[.int .i64 1, .int .i64 0, .slice none 0 0, .slice none 0 0] 62) = w2 at hc2 T1 T2 HB2 hz2 ⊢
  go_wp2_with fail
  refine (paint_tile (FL := []) (unhide HE) (by simp) (fun i hi => by simp at hi) _ _ ⟨none, 0, rfl, by simp, fun h => by simp at h⟩).mono ?_
  rintro e w3 ⟨rfl, hb3⟩
  have hk3 := blk_on (unhide T1) hb3
  have hs3 := blk_on (unhide T2) hb3
  have HB3 := hide ((unhide HB2).trans (hb3.mono (unhide HB2).size))
  have hz3 : w1.heap.size + 2 ≤ w3.heap.size := by have := hb3.size; omega
  have HO3 := hide (ownI_one w3 (w1.heap.size + 2) hz3 0)
  have hb4 := below_one w3 (.cells #[.int .i64 0] 3)
  have HV4 := hide ((unhide HV).on ((unhide HB3).trans (hb4.mono (unhide HB3).size)))
  clear hb3 hc2
  go_wp2_with fail
  refine (edits1_any oa N cap es _ hcap (unhide HV4) (unhide HF) hN).mono ?_
  rintro e w5 ⟨⟨lv, rfl, ho5⟩, hb5⟩
  have hlen5 := mkEs_len es N
  have hRt : ∀ i, i < N → Rt (eF (gf (mkEs es N) i)) := fun i hi => by rw [gf_mkEs es N i hi, eF_mkE]; exact mk_rt _
  generalize mkEs es N = E at ho5 hlen5 hRt
  subst hlen5
  have HRt := hide hRt
  have hb45 := hb4.trans (hb5.mono (by simp))
  have hz4 : (w3.alloc (.cells #[.int .i64 0] 3)).heap.size = w3.heap.size + 1 := by simp
  rw [hz4] at ho5
  have HSit : Hid (Sit w1.heap.size (w1.heap.size + 1) l z x y E lv (.slice none 0 0) (.slice (some ⟨w3.heap.size, 0, none⟩) 1 1) (.slice none 0 0) 0 [] [] [fun _ => 0] w5) := by
    refine ⟨blk_on hk3 hb45, ⟨blk_on hs3 hb45, ownC_nil _ _ _ _⟩, ownC_nil _ _ _ _, (unhide HO3).on hb5, ho5.mono (by omega), ?_, ?_, ?_, rel_nil, fun i hi => by simp at hi, Nat.le_refl _, by simp, rfl, ?_⟩
    · intro g hg e; simp only [Value.ownBlock, Option.some.injEq] at hg; have := (ho5.lt g e).1; omega
    · intro g hg e; simp [Value.ownBlock] at e
    · intro g hg e; simp [Value.ownBlock] at e
    · intro v hv; obtain rfl : v = 0 := by omega
      rfl
  have HB5 := hide ((unhide HB3).trans (hb45.mono (unhide HB3).size))
  have hNl : E.length * 200 ≤ 140737488355328 := hN
  clear hb4 hb5 hb45 ho5 hk3 hs3 hRt HV4 HO3 HV HF T1 T2 hN hcap
  obtain ⟨kb, hkb⟩ : ∃ kb, w1.heap.size = kb := ⟨_, rfl⟩
  rw [hkb] at HSit
  simp only [hkb]
  have hbk : w.heap.size ≤ kb := by rw [← hkb]; exact (unhide HB1).size
  clear hkb hsz1 hz2 hz3 hz4
  obtain ⟨oE, cE, hlv⟩ : ∃ oE cE, lv = .slice oE E.length cE := by
    rcases (unhide HSit).es.2 with ⟨h, h0⟩ | ⟨g, c, cur, h, _⟩
    · exact ⟨none, 0, by rw [h0]; exact h⟩
    · exact ⟨_, _, h⟩
  subst hlv
  go_wp2_with fail
  go_loopw [10, 11, 12, 14, 16, 17, 18, 19, 20, 21, 22, 23, 24] (fun fv lv wv sv i _ _ _ _ _ _ _ _ wr => ∃ (k n : Nat) (FL LS SS : List (Nat → Int)) (sl : Value) (L : Int), k ≤ E.length ∧ n ≤ 100 ∧ i = .int .i64 k ∧ lv = .int .i64 L ∧ Hid (L = stp n l z x y LS LS.length) ∧ wv = .string (tile FL l z x y) ∧ Hid (Sit kb (kb + 1) l z x y E (.slice oE E.length cE) fv sv sl n FL LS SS wr) ∧ Below w.heap.size w wr) (fun _ _ _ _ i _ _ _ _ _ _ _ _ _ => E.length - (intOf i).toNat)
  case atStart => exact ⟨0, 0, [], [], [fun _ => 0], _, 0, by omega, by omega, rfl, rfl, hide rfl, rfl, HSit, unhide HB5⟩
  case round =>
    obtain ⟨k, n, FL, LS, SS, sl, L, hk, hn, rfl, rfl, hL, rfl, hSit, hb⟩ := hrel
    have HSL := hide (unhide hSit).slen
    obtain ⟨gs, cs, rfl, hgB, hgl⟩ := (unhide hSit).ss.form (by rw [(unhide hSit).slen]; omega)
    have hkey := (unhide hSit).key
    by_cases hlt : k < E.length
    · have hkn : (k : Int) < E.length := by omega
      obtain ⟨g, c', e, hgE, hgl2⟩ := (unhide hSit).es.form (by omega)
      simp only [Value.slice.injEq, true_and] at e
      obtain ⟨rfl, rfl⟩ := e
      have hcE := (unhide hSit).es.cap
      obtain ⟨_, _, e, _, hcE0⟩ := (unhide hSit).es.at (by unfold maxLen; omega)
      simp only [Value.slice.injEq, true_and] at e
      obtain ⟨rfl, rfl⟩ := e
      obtain ⟨b0, off0, e, _, hcE0⟩ := hcE0 (by omega)
      simp only [Option.some.injEq, Addr.mk.injEq, and_true] at e
      obtain ⟨rfl, rfl⟩ := e
      have HEC : Hid (∀ W, Below wr.heap.size wr W → W.rangeAt g (k * 25) (cc 25 (gf E k)).toList) := fun W h => by
        have := cs_rng (m := 25) (fun i hi j hj => (h.cell (p := ⟨g, 0 + i * 25 + j, none⟩) hgl2).trans (hcE0 i hi j hj)) hlt
        rwa [Nat.zero_add] at this
      have hsub : CsAt 25 wr (.slice (some ⟨g, k * 25, none⟩) 1 (cE - k)) 1 (fun _ => gf E k) := ⟨_, _, rfl, by unfold maxLen; omega, fun _ => ⟨g, k * 25, rfl, hgl2, fun i hi j hj => by
        obtain rfl : i = 0 := by omega
        rw [Nat.zero_mul, Nat.add_zero]
        have := hcE0 k hlt j hj
        rwa [Nat.zero_add] at this⟩⟩
      have HED := hide (edited_any u10 FL (some ⟨g, k * 25, none⟩) 1 (cE - k) (fun _ => gf E k) wr ((unhide hSit).fs.at (by have := (unhide hSit).le40; unfold maxLen; omega)) (unhide hSit).fs.nilOr (unhide hSit).le40 hsub (by omega))
      have HSUB := hide hsub
      have HBr := hide hb
      have e1 : IntKind.i64.wrap ((k : Int) + 1) = (k : Int) + 1 := i64_in _ (by omega)
      have e2 : ((k : Int) + 1).toNat = k + 1 := by omega
      have hkc : (k : Int) + 1 ≤ cE := by omega
      clear hcE0 hsub hb
      go_wp2_with fail
      refine (unhide HED).mono ?_
      rintro e w6 ⟨hb6, ⟨FL6, v6, rfl, hK6, ho6⟩ | ⟨k0, FLk, _, _, _, rfl⟩⟩
      · obtain ⟨FLm, e0, hE6⟩ := hK6
        obtain rfl : FLm = FL := e0
        have HSL6 := HSL
        have hs6 := (unhide hSit).on hb6
        have hbw6 := (unhide HBr).trans (hb6.mono (unhide HBr).size)
        have HS6 := hide hs6
        have HB6 := hide hbw6
        by_cases h100 : n = 100
        · have h1 : (100 : Int) < SS.length := by rw [unhide HSL]; omega
          clear hb6 hkey HED hs6 hbw6 ho6 hE6
          go_wp2_with fail
          go_roundw
          case rel => exact ⟨k + 1, n, FLm, LS, SS, sl, L, by omega, hn, by go_num, rfl, hL, rfl, HS6, unhide HB6⟩
          case measure => simp [intOf]; omega
        · have h1 : ¬ (100 : Int) < SS.length := by rw [unhide HSL]; omega
          have HAP := hide (Apply_any (kb + 1) 1 n sl (.slice none 0 0) LS (.slice (some ⟨g, k * 25, none⟩) 1 (cE - k)) 1 (fun _ => gf E k) w6 hs6.sto.blk hs6.sto.own (by have := hs6.len; omega) ((unhide HSUB).on hb6) (by omega) ⟨by omega, by omega⟩)
          have HO6 := hide ho6
          have HE6 := hide hE6
          have HB66 := hide hb6
          clear hb6 hkey HED hs6 hbw6 ho6 hE6
          go_wp2_with fail
          refine (unhide HAP).mono ?_
          rintro e w7 hA7
          have hf6 : Rt (eF (gf E k)) := unhide HRt k hlt
          obtain ⟨LS7, sl7, rfl, hEd, hg7, hblk7, hown7⟩ : ∃ LS7 sl7, e = .returned (.tuple #[.int .i64 ((n : Int) + 1), .int .i64 0]) ∧ EditR ((n : Int) + 1) (gf E k) LS 0 LS7 ∧ w6.grownBy w7 (some (kb + 1)) ∧ w7.heap[kb + 1]? = some (.cells #[.int .i64 1, .int .i64 ((n : Int) + 1), sl7, .slice none 0 0] 62 (0, 0)) ∧ OwnC 80 26 w7 w6.heap.size sl7 LS7 := by
            rcases hA7 with ⟨q, _⟩ | ⟨_, q, _⟩ | ⟨_, _, k1, LSk, hAK, ⟨rfl, e1, e2, sl7, e3, e4⟩ | ⟨hk1, r, LS7, hEd, hr0, _⟩⟩
            · omega
            · omega
            · obtain ⟨LSm, hm, hEd⟩ := hAK
              obtain rfl : LSm = LS := hm
              exact ⟨LSk, sl7, e1, hEd, e2, e3, e4⟩
            · obtain rfl : k1 = 0 := by omega
              obtain rfl : LSk = LS := hAK
              exact absurd ((unhide HS6).rel.step (by omega) hf6 (unhide HE6) hEd).1 hr0
          obtain ⟨t, hT⟩ := tcR_ex FLm (gf E k) l z x y
          obtain ⟨_, hR7, hB7, hst7, hst7n, htile⟩ := still_step (unhide HS6).rel (unhide HS6).bnd (by omega) hf6 (unhide HE6) hEd hT (unhide HE)
          have hl7 : LS7.length ≤ n + 1 := by have := hEd.len; have := (unhide HS6).len; omega
          have hkey6 := (unhide HS6).key
          have hkbl : kb < w6.heap.size := (Array.getElem?_eq_some_iff.1 hkey6).1
          have hkey7 : w7.heap[kb]? = some (.cells #[.int .i64 l, .int .i64 z, .int .i64 x, .int .i64 y] 41 (0, 0)) := (hg7.block kb hkbl (by simp)).trans hkey6
          have kp : ∀ {T m v' B' l'}, OwnC T m w6 B' v' l' → kb + 2 ≤ B' → OwnC T m w7 B' v' l' := fun h hB => h.kept hg7 (fun g hg e => by have := (h.lt g hg).1; simp only [Option.some.injEq] at e; omega)
          have hsb6 : kb + 2 ≤ w6.heap.size := (unhide HS6).sto.lt
          have hbw7 := (unhide HB6).grown hg7 (unhide HB6).size (fun q hq => by simp only [Option.some.injEq] at hq; omega)
          have hn1 : ((n : Int) + 1 == (SS.length : Int)) = true := by rw [unhide HSL]; simp
          have hn2 : (n : Int) + 1 = (SS.length : Int) := by rw [unhide HSL]; omega
          have hs6' := unhide HS6
          have HSit7 : Hid (OwnC 54 24 w7 (kb + 2) u10 FLm ∧ OwnC 3 1 w7 (kb + 2) (.slice (some ⟨gs, 0, none⟩) SS.length cs) SS ∧ OwnC 56 25 w7 (kb + 2) (.slice (some ⟨g, 0, none⟩) E.length cE) E ∧ OwnC 54 24 w7 (kb + 2) v6 FL6) := ⟨kp hs6'.fs (by omega), kp hs6'.ss (by omega), kp hs6'.es (by omega), (kp (unhide HO6) (by have := (unhide hSit).sto.lt; omega)).mono (by have := (unhide hSit).sto.lt; omega)⟩
          have hgs6 : gs < w6.heap.size := (hs6'.ss.lt gs rfl).2
          have HG7 := hide hg7
          have hz7 : w6.heap.size ≤ w7.heap.size := hg7.size
          have HSto7 : Hid (Sto w7 (kb + 1) 1 ((n + 1 : Nat) : Int) sl7 (.slice none 0 0) LS7) := ⟨hblk7, hown7.mono (by omega)⟩
          have HOW7 := hide hown7
          have HBW7 := hide hbw7
          have HR7 := hide hR7
          have HBD7 := hide hB7
          have HST7 := hide hst7
          have HSTN := hide hst7n
          have HTILE := hide htile
          have HEC7 : Hid (∀ W, Below w7.heap.size w7 W → W.rangeAt g (k * 25) (cc 25 (gf E k)).toList) := fun W h => by
            have h6 := (unhide HEC) w6 (unhide HB66)
            intro j v hv
            have hgl6 : g < w6.heap.size := (hs6'.es.lt g rfl).2
            rw [h.cell (p := ⟨g, k * 25 + j, none⟩) (show g < w7.heap.size by omega), World.cell?_of_block (a := ⟨g, k * 25 + j, none⟩) (hg7.block g hgl6 (by simp only [ne_eq, Option.some.injEq]; have := (hs6'.es.lt g rfl).1; omega))]
            exact h6 j v hv
          have TC : Hid (∀ W, Below w7.heap.size w7 W → Calls Try.prog 15 #[u10, .agg (cc 25 (gf E k)), .agg #[.int .i64 l, .int .i64 z, .int .i64 x, .int .i64 y]] W fun e w'' => e = .returned (.bool t) ∧ Below W.heap.size W w'') := fun W hW =>
            (touched_any u10 FLm (gf E k) l z x y W (((unhide HSit7).1.on hW).at (by have := hs6'.le40; unfold maxLen; omega))).mono fun e w'' h => by
              obtain ⟨⟨t', e1, hT'⟩, hb⟩ := h
              exact ⟨by rw [e1, hT'.eq hT], hb⟩
          have hE40 : FL6.length ≤ 40 := (unhide HE6).len (unhide HS6).le40
          clear hA7 hEd hg7 hblk7 hown7 hR7 hB7 hst7 hst7n htile hkey6 kp hbw7 hs6' HAP
          go_wp2
          refine region_bq (by kernel_rfl) (by kernel_rfl) ?_
          refine q_move rfl _ rfl u10 rfl ?_
          simp only [Act.put, List.setIfInBounds_toArray, List.set_cons_succ, List.set_cons_zero]
          refine q_move rfl _ rfl (.slice (some ⟨g, 0, none⟩) E.length cE) rfl ?_
          simp only [Act.put, List.setIfInBounds_toArray, List.set_cons_succ, List.set_cons_zero]
          refine q_move rfl _ rfl (.int .i64 k) rfl ?_
          simp only [Act.put, List.setIfInBounds_toArray, List.set_cons_succ, List.set_cons_zero]
          refine q_val rfl (.pointer (some ⟨g, k * 25, none⟩)) (fun _ _ => by simp [go_sem, hkn]) ?_
          simp only [Act.put, List.setIfInBounds_toArray, List.set_cons_succ, List.set_cons_zero]
          refine q_load rfl 56 _ rfl g (k * 25) rfl (cc 25 (gf E k)) _ Try.underlying56 rfl (sz56 _) (fun w' h => unhide HEC7 w' h) ?_
          simp only [Act.put, List.setIfInBounds_toArray, List.set_cons_succ, List.set_cons_zero]
          refine q_load rfl 41 _ rfl kb 0 rfl #[.int .i64 l, .int .i64 z, .int .i64 x, .int .i64 y] _ Try.underlying41 rfl (sz28 l z x y) (fun w' h => rng_on hkey7 h) ?_
          simp only [Act.put, List.setIfInBounds_toArray, List.set_cons_succ, List.set_cons_zero]
          refine q_callC rfl 15 #[u10, .agg (cc 25 (gf E k)), .agg #[.int .i64 l, .int .i64 z, .int .i64 x, .int .i64 y]] (fun _ => by simp [go_sem]) _ (unhide TC) ?_
          simp only [Act.put, List.setIfInBounds_toArray, List.set_cons_succ, List.set_cons_zero]
          refine q_assign rfl _ rfl (.bool t) rfl ?_
          simp only [Act.put, List.setIfInBounds_toArray, List.set_cons_succ, List.set_cons_zero]
          refine wpQuiet_nil ?_
          intro w8 hw8
          have hs8 := (unhide HSto7).on hw8
          have ho8 := unhide HSit7
          have hfs8 := (ho8.2.2.2.on hw8).at (by have := hE40; unfold maxLen; omega)
          have hkey8 := blk_on hkey7 hw8
          have hck8 := blk_cells hkey8
          have HPT := hide (paint_tile (FL := FL6) (unhide HE) hE40 (unhide HR7).rt v6 w8 hfs8)
          have HS8 := hide hs8
          have HO8 := hide (And.intro (ho8.2.1.on hw8) (And.intro (ho8.2.2.1.on hw8) (ho8.2.2.2.on hw8)))
          have HOW8 := hide ((unhide HOW7).on hw8)
          have HBW8 := hide ((unhide HBW7).trans (hw8.mono (unhide HBW7).size))
          have hz8 : w7.heap.size ≤ w8.heap.size := hw8.size
          have hbq0 := S_beq (tile FLm l z x y)
          clear hw8 hs8 ho8 hfs8 hkey7
          cases t with
          | false =>
            have htl : tile FL6 l z x y = tile FLm l z x y := by unfold tile; rw [unhide HTILE rfl]
            rw [htl] at HPT
            go_wp2_with fail
            refine (unhide HPT).mono ?_
            rintro e w9 ⟨rfl, hb9⟩
            have HTL := hide htl
            clear htl
            have hs9 := (unhide HS8).on hb9
            have hss9 := (unhide HO8).1.on hb9
            have hes9 := (unhide HO8).2.1.on hb9
            have hfs9 := (unhide HO8).2.2.on hb9
            have how9 := (unhide HOW8).on hb9
            have hkey9 := blk_on hkey8 hb9
            have hbw9 := (unhide HBW8).trans (hb9.mono (unhide HBW8).size)
            have hz9 : w8.heap.size ≤ w9.heap.size := hb9.size
            have hB9 : kb + 2 ≤ w9.heap.size := by omega
            have HX9 := hide (And.intro hs9 (And.intro hes9 (And.intro hfs9 (And.intro how9 (And.intro hkey9 hbw9)))))
            clear hs9 hes9 hfs9 how9 hbw9 hb9 hkey8 hck8 hkey9
            have HL10 : Hid ((L) = stp ((n + 1 : Nat) : Int) l z x y LS7 LS7.length) := by rw [unhide hL]; exact (unhide HSTN).symm
            go_wp2_with (at_builtin; refine ap_int rfl (.tmp 118) (.tmp 120) rfl _ (kb + 2) _ SS (L) rfl hss9 rfl ?_ hB9 ?_)
            · rw [unhide HSL]; omega
            intro v10 w10 ho10 hg10 hd10
            have hz10 : w9.heap.size + 1 ≤ w10.heap.size := by have := hg10.size; simpa using this
            have kp : ∀ {T m v' B' l'}, OwnC T m w9 B' v' l' → (∀ g', v'.ownBlock = some g' → g' ≠ gs) → OwnC T m w10 B' v' l' := fun h hne => (h.alloc (.cells #[.int .i64 (L)] 3)).kept hg10 (fun g' hg e => hne g' hg (by simp only [Value.ownBlock, Option.some.injEq] at e; exact e.symm))
            have bk : ∀ q, q < w9.heap.size → q ≠ gs → w10.heap[q]? = w9.heap[q]? := fun q hq hne => (hg10.block q (by simp; omega) (by simp only [Value.ownBlock, ne_eq, Option.some.injEq]; exact hne)).trans (Below.heap_alloc _ _ _ hq)
            obtain ⟨hs9, hes9, hfs9, how9, hkey9, hbw9⟩ := unhide HX9
            have hv6 : ∀ g', v6.ownBlock = some g' → g' ≠ gs := fun g' hg e => by have := ((unhide HO6).lt g' hg).1; omega
            have hsl7 : ∀ g', sl7.ownBlock = some g' → g' ≠ gs := fun g' hg e => by have := ((unhide HOW7).lt g' hg).1; omega
            have hlvd : (Value.slice (some ⟨g, 0, none⟩) E.length cE).ownBlock ≠ some gs := (unhide hSit).dl gs rfl
            have dis : ∀ {T m v' B' l'}, OwnC T m w9 B' v' l' → v'.ownBlock ≠ some gs → ∀ g', v10.ownBlock = some g' → v'.ownBlock ≠ some g' := fun h hne g' hg e => by
              rcases hd10 with d | d
              · rw [d] at hg; simp only [Value.ownBlock, Option.some.injEq] at hg; subst hg; exact hne e
              · have h1 := d g' hg
                have h2 := (h.lt g' e).2
                omega
            have HSit10 : Hid (Sit kb (kb + 1) l z x y E (.slice (some ⟨g, 0, none⟩) E.length cE) v6 v10 sl7 (n + 1) FL6 LS7 (SS ++ [fun _ => (L)]) w10) := by
              refine ⟨(bk kb (by omega) (by omega)).trans hkey9, ⟨(bk (kb + 1) (by omega) (by omega)).trans hs9.blk, kp hs9.own hsl7⟩, kp hfs9 hv6, ho10, kp hes9 (fun g' hg e => hlvd (by rw [← e]; exact hg)), dis hes9 hlvd, dis hfs9 (fun e => hv6 gs e rfl), dis how9 (fun e => hsl7 gs e rfl), unhide HR7, unhide HBD7, hl7, hE40, by rw [List.length_append, unhide HSL]; rfl, ?_⟩
              intro v hv
              by_cases c : v ≤ n
              · rw [gf_left (by rw [unhide HSL]; omega), (unhide HS6).st v c, unhide HST7 v (by omega)]
              · obtain rfl : v = SS.length := by rw [unhide HSL]; omega
                rw [gf_last]
                exact (unhide HL10).trans (congrArg (fun q : Nat => stp (q : Int) l z x y LS7 LS7.length) (unhide HSL).symm)
            have hbw10 := hbw9.trans ⟨hg10.os, hg10.tape, hg10.output, by omega, fun q hq => bk q (by omega) (by omega)⟩
            have HBW10 := hide hbw10
            have HO10 := hide ho10
            clear hs9 hes9 hfs9 how9 hkey9 hbw9 hbw10 hg10 hd10 kp bk dis hv6 hsl7 hlvd ho10 hss9 HX9
            generalize SS ++ [fun _ => (L)] = S10 at HSit10 HO10
            have HSL10 := hide (unhide HSit10).slen
            obtain ⟨g10, c10, e10, _, _⟩ := (unhide HO10).form (by rw [unhide HSL10]; omega)
            subst e10
            have hck10 := blk_cells (unhide HSit10).key
            have e9 : IntKind.i64.wrap (1 + q) = 1 + q := i64_in _ (by omega)
            have hlen10 : (S10.length : Int) ≤ 200 := by rw [unhide HSL10]; omega
            by_cases hm : (S10.length : Int) % (1 + q) = 0
            · have HSA := hide (stampsAre_any (kb + 1) 1 ((n + 1 : Nat) : Int) sl7 (.slice none 0 0) LS7 (.slice (some ⟨g10, 0, none⟩) S10.length c10) S10.length (gf S10) l z x y w10 (unhide HSit10).sto (by omega) (unhide HE) ((unhide HO10).at (by rw [unhide HSL10]; unfold maxLen; omega)) (by rw [unhide HSL10]; omega) (by rw [unhide HSL10]; omega) (fun v hv => (unhide HSit10).st v (by rw [unhide HSL10] at hv; omega)))
              go_wp2_with fail
              refine (PK _).mono ?_
              rintro e w11 ⟨rfl, rfl⟩
              go_wp2_with fail
              refine (unhide HSA).mono ?_
              rintro e w12 ⟨rfl, hb12⟩
              have HSit12 := hide ((unhide HSit10).on hb12)
              have HBW12 := hide ((unhide HBW10).trans (hb12.mono (unhide HBW10).size))
              clear hb12 hck10
              go_wp2_with fail
              go_roundw
              case rel => exact ⟨k + 1, n + 1, FL6, LS7, S10, sl7, L, by omega, by omega, by go_num, rfl, HL10, congrArg Value.string (unhide HTL).symm, HSit12, unhide HBW12⟩
              case measure => simp [intOf]; omega
            · go_wp2_with fail
              refine (PK _).mono ?_
              rintro e w11 ⟨rfl, rfl⟩
              go_wp2_with fail
              go_roundw
              case rel => exact ⟨k + 1, n + 1, FL6, LS7, S10, sl7, L, by omega, by omega, by go_num, rfl, HL10, congrArg Value.string (unhide HTL).symm, HSit10, unhide HBW10⟩
              case measure => simp [intOf]; omega
          | true =>
            obtain ⟨S6, hS6⟩ : ∃ S, tile FL6 l z x y = S := ⟨_, rfl⟩
            obtain ⟨S0, hS0⟩ : ∃ S, tile FLm l z x y = S := ⟨_, rfl⟩
            rw [hS6] at HPT
            have HSS6 := hide hS6
            simp only [hS0] at hbq0 ⊢
            clear hS6 hS0
            cases hq : (S6.toList == S0.toList) with
            | true =>
              go_wp2_with fail
              refine (unhide HPT).mono ?_
              rintro e w9 ⟨rfl, hb9⟩
              have hs9 := (unhide HS8).on hb9
              have hss9 := (unhide HO8).1.on hb9
              have hes9 := (unhide HO8).2.1.on hb9
              have hfs9 := (unhide HO8).2.2.on hb9
              have how9 := (unhide HOW8).on hb9
              have hkey9 := blk_on hkey8 hb9
              have hbw9 := (unhide HBW8).trans (hb9.mono (unhide HBW8).size)
              have hz9 : w8.heap.size ≤ w9.heap.size := hb9.size
              have hB9 : kb + 2 ≤ w9.heap.size := by omega
              have HX9 := hide (And.intro hs9 (And.intro hes9 (And.intro hfs9 (And.intro how9 (And.intro hkey9 hbw9)))))
              clear hs9 hes9 hfs9 how9 hbw9 hb9 hkey8 hck8 hkey9
              have HL10 : Hid (((SS.length : Int)) = stp ((n + 1 : Nat) : Int) l z x y LS7 LS7.length) := by rw [unhide HSL]; exact (unhide HSTN).symm
              go_wp2_with (at_builtin; refine ap_int rfl (.tmp 118) (.tmp 120) rfl _ (kb + 2) _ SS ((SS.length : Int)) rfl hss9 rfl ?_ hB9 ?_)
              · rw [unhide HSL]; omega
              intro v10 w10 ho10 hg10 hd10
              have hz10 : w9.heap.size + 1 ≤ w10.heap.size := by have := hg10.size; simpa using this
              have kp : ∀ {T m v' B' l'}, OwnC T m w9 B' v' l' → (∀ g', v'.ownBlock = some g' → g' ≠ gs) → OwnC T m w10 B' v' l' := fun h hne => (h.alloc (.cells #[.int .i64 ((SS.length : Int))] 3)).kept hg10 (fun g' hg e => hne g' hg (by simp only [Value.ownBlock, Option.some.injEq] at e; exact e.symm))
              have bk : ∀ q, q < w9.heap.size → q ≠ gs → w10.heap[q]? = w9.heap[q]? := fun q hq hne => (hg10.block q (by simp; omega) (by simp only [Value.ownBlock, ne_eq, Option.some.injEq]; exact hne)).trans (Below.heap_alloc _ _ _ hq)
              obtain ⟨hs9, hes9, hfs9, how9, hkey9, hbw9⟩ := unhide HX9
              have hv6 : ∀ g', v6.ownBlock = some g' → g' ≠ gs := fun g' hg e => by have := ((unhide HO6).lt g' hg).1; omega
              have hsl7 : ∀ g', sl7.ownBlock = some g' → g' ≠ gs := fun g' hg e => by have := ((unhide HOW7).lt g' hg).1; omega
              have hlvd : (Value.slice (some ⟨g, 0, none⟩) E.length cE).ownBlock ≠ some gs := (unhide hSit).dl gs rfl
              have dis : ∀ {T m v' B' l'}, OwnC T m w9 B' v' l' → v'.ownBlock ≠ some gs → ∀ g', v10.ownBlock = some g' → v'.ownBlock ≠ some g' := fun h hne g' hg e => by
                rcases hd10 with d | d
                · rw [d] at hg; simp only [Value.ownBlock, Option.some.injEq] at hg; subst hg; exact hne e
                · have h1 := d g' hg
                  have h2 := (h.lt g' e).2
                  omega
              have HSit10 : Hid (Sit kb (kb + 1) l z x y E (.slice (some ⟨g, 0, none⟩) E.length cE) v6 v10 sl7 (n + 1) FL6 LS7 (SS ++ [fun _ => ((SS.length : Int))]) w10) := by
                refine ⟨(bk kb (by omega) (by omega)).trans hkey9, ⟨(bk (kb + 1) (by omega) (by omega)).trans hs9.blk, kp hs9.own hsl7⟩, kp hfs9 hv6, ho10, kp hes9 (fun g' hg e => hlvd (by rw [← e]; exact hg)), dis hes9 hlvd, dis hfs9 (fun e => hv6 gs e rfl), dis how9 (fun e => hsl7 gs e rfl), unhide HR7, unhide HBD7, hl7, hE40, by rw [List.length_append, unhide HSL]; rfl, ?_⟩
                intro v hv
                by_cases c : v ≤ n
                · rw [gf_left (by rw [unhide HSL]; omega), (unhide HS6).st v c, unhide HST7 v (by omega)]
                · obtain rfl : v = SS.length := by rw [unhide HSL]; omega
                  rw [gf_last]
                  exact (unhide HL10).trans (congrArg (fun q : Nat => stp (q : Int) l z x y LS7 LS7.length) (unhide HSL).symm)
              have hbw10 := hbw9.trans ⟨hg10.os, hg10.tape, hg10.output, by omega, fun q hq => bk q (by omega) (by omega)⟩
              have HBW10 := hide hbw10
              have HO10 := hide ho10
              clear hs9 hes9 hfs9 how9 hkey9 hbw9 hbw10 hg10 hd10 kp bk dis hv6 hsl7 hlvd ho10 hss9 HX9
              generalize SS ++ [fun _ => ((SS.length : Int))] = S10 at HSit10 HO10
              have HSL10 := hide (unhide HSit10).slen
              obtain ⟨g10, c10, e10, _, _⟩ := (unhide HO10).form (by rw [unhide HSL10]; omega)
              subst e10
              have hck10 := blk_cells (unhide HSit10).key
              have e9 : IntKind.i64.wrap (1 + q) = 1 + q := i64_in _ (by omega)
              have hlen10 : (S10.length : Int) ≤ 200 := by rw [unhide HSL10]; omega
              by_cases hm : (S10.length : Int) % (1 + q) = 0
              · have HSA := hide (stampsAre_any (kb + 1) 1 ((n + 1 : Nat) : Int) sl7 (.slice none 0 0) LS7 (.slice (some ⟨g10, 0, none⟩) S10.length c10) S10.length (gf S10) l z x y w10 (unhide HSit10).sto (by omega) (unhide HE) ((unhide HO10).at (by rw [unhide HSL10]; unfold maxLen; omega)) (by rw [unhide HSL10]; omega) (by rw [unhide HSL10]; omega) (fun v hv => (unhide HSit10).st v (by rw [unhide HSL10] at hv; omega)))
                go_wp2_with fail
                refine (PK _).mono ?_
                rintro e w11 ⟨rfl, rfl⟩
                go_wp2_with fail
                refine (unhide HSA).mono ?_
                rintro e w12 ⟨rfl, hb12⟩
                have HSit12 := hide ((unhide HSit10).on hb12)
                have HBW12 := hide ((unhide HBW10).trans (hb12.mono (unhide HBW10).size))
                clear hb12 hck10
                go_wp2_with fail
                go_roundw
                case rel => exact ⟨k + 1, n + 1, FL6, LS7, S10, sl7, (SS.length : Int), by omega, by omega, by go_num, rfl, HL10, congrArg Value.string (unhide HSS6).symm, HSit12, unhide HBW12⟩
                case measure => simp [intOf]; omega
              · go_wp2_with fail
                refine (PK _).mono ?_
                rintro e w11 ⟨rfl, rfl⟩
                go_wp2_with fail
                go_roundw
                case rel => exact ⟨k + 1, n + 1, FL6, LS7, S10, sl7, (SS.length : Int), by omega, by omega, by go_num, rfl, HL10, congrArg Value.string (unhide HSS6).symm, HSit10, unhide HBW10⟩
                case measure => simp [intOf]; omega
            | false =>
              go_wp2_with fail
              refine (unhide HPT).mono ?_
              rintro e w9 ⟨rfl, hb9⟩
              have hs9 := (unhide HS8).on hb9
              have hss9 := (unhide HO8).1.on hb9
              have hes9 := (unhide HO8).2.1.on hb9
              have hfs9 := (unhide HO8).2.2.on hb9
              have how9 := (unhide HOW8).on hb9
              have hkey9 := blk_on hkey8 hb9
              have hbw9 := (unhide HBW8).trans (hb9.mono (unhide HBW8).size)
              have hz9 : w8.heap.size ≤ w9.heap.size := hb9.size
              have hB9 : kb + 2 ≤ w9.heap.size := by omega
              have HX9 := hide (And.intro hs9 (And.intro hes9 (And.intro hfs9 (And.intro how9 (And.intro hkey9 hbw9)))))
              clear hs9 hes9 hfs9 how9 hbw9 hb9 hkey8 hck8 hkey9
              have HL10 : Hid (((SS.length : Int)) = stp ((n + 1 : Nat) : Int) l z x y LS7 LS7.length) := by rw [unhide HSL]; exact (unhide HSTN).symm
              go_wp2_with (at_builtin; refine ap_int rfl (.tmp 118) (.tmp 120) rfl _ (kb + 2) _ SS ((SS.length : Int)) rfl hss9 rfl ?_ hB9 ?_)
              · rw [unhide HSL]; omega
              intro v10 w10 ho10 hg10 hd10
              have hz10 : w9.heap.size + 1 ≤ w10.heap.size := by have := hg10.size; simpa using this
              have kp : ∀ {T m v' B' l'}, OwnC T m w9 B' v' l' → (∀ g', v'.ownBlock = some g' → g' ≠ gs) → OwnC T m w10 B' v' l' := fun h hne => (h.alloc (.cells #[.int .i64 ((SS.length : Int))] 3)).kept hg10 (fun g' hg e => hne g' hg (by simp only [Value.ownBlock, Option.some.injEq] at e; exact e.symm))
              have bk : ∀ q, q < w9.heap.size → q ≠ gs → w10.heap[q]? = w9.heap[q]? := fun q hq hne => (hg10.block q (by simp; omega) (by simp only [Value.ownBlock, ne_eq, Option.some.injEq]; exact hne)).trans (Below.heap_alloc _ _ _ hq)
              obtain ⟨hs9, hes9, hfs9, how9, hkey9, hbw9⟩ := unhide HX9
              have hv6 : ∀ g', v6.ownBlock = some g' → g' ≠ gs := fun g' hg e => by have := ((unhide HO6).lt g' hg).1; omega
              have hsl7 : ∀ g', sl7.ownBlock = some g' → g' ≠ gs := fun g' hg e => by have := ((unhide HOW7).lt g' hg).1; omega
              have hlvd : (Value.slice (some ⟨g, 0, none⟩) E.length cE).ownBlock ≠ some gs := (unhide hSit).dl gs rfl
              have dis : ∀ {T m v' B' l'}, OwnC T m w9 B' v' l' → v'.ownBlock ≠ some gs → ∀ g', v10.ownBlock = some g' → v'.ownBlock ≠ some g' := fun h hne g' hg e => by
                rcases hd10 with d | d
                · rw [d] at hg; simp only [Value.ownBlock, Option.some.injEq] at hg; subst hg; exact hne e
                · have h1 := d g' hg
                  have h2 := (h.lt g' e).2
                  omega
              have HSit10 : Hid (Sit kb (kb + 1) l z x y E (.slice (some ⟨g, 0, none⟩) E.length cE) v6 v10 sl7 (n + 1) FL6 LS7 (SS ++ [fun _ => ((SS.length : Int))]) w10) := by
                refine ⟨(bk kb (by omega) (by omega)).trans hkey9, ⟨(bk (kb + 1) (by omega) (by omega)).trans hs9.blk, kp hs9.own hsl7⟩, kp hfs9 hv6, ho10, kp hes9 (fun g' hg e => hlvd (by rw [← e]; exact hg)), dis hes9 hlvd, dis hfs9 (fun e => hv6 gs e rfl), dis how9 (fun e => hsl7 gs e rfl), unhide HR7, unhide HBD7, hl7, hE40, by rw [List.length_append, unhide HSL]; rfl, ?_⟩
                intro v hv
                by_cases c : v ≤ n
                · rw [gf_left (by rw [unhide HSL]; omega), (unhide HS6).st v c, unhide HST7 v (by omega)]
                · obtain rfl : v = SS.length := by rw [unhide HSL]; omega
                  rw [gf_last]
                  exact (unhide HL10).trans (congrArg (fun q : Nat => stp (q : Int) l z x y LS7 LS7.length) (unhide HSL).symm)
              have hbw10 := hbw9.trans ⟨hg10.os, hg10.tape, hg10.output, by omega, fun q hq => bk q (by omega) (by omega)⟩
              have HBW10 := hide hbw10
              have HO10 := hide ho10
              clear hs9 hes9 hfs9 how9 hkey9 hbw9 hbw10 hg10 hd10 kp bk dis hv6 hsl7 hlvd ho10 hss9 HX9
              generalize SS ++ [fun _ => ((SS.length : Int))] = S10 at HSit10 HO10
              have HSL10 := hide (unhide HSit10).slen
              obtain ⟨g10, c10, e10, _, _⟩ := (unhide HO10).form (by rw [unhide HSL10]; omega)
              subst e10
              have hck10 := blk_cells (unhide HSit10).key
              have e9 : IntKind.i64.wrap (1 + q) = 1 + q := i64_in _ (by omega)
              have hlen10 : (S10.length : Int) ≤ 200 := by rw [unhide HSL10]; omega
              by_cases hm : (S10.length : Int) % (1 + q) = 0
              · have HSA := hide (stampsAre_any (kb + 1) 1 ((n + 1 : Nat) : Int) sl7 (.slice none 0 0) LS7 (.slice (some ⟨g10, 0, none⟩) S10.length c10) S10.length (gf S10) l z x y w10 (unhide HSit10).sto (by omega) (unhide HE) ((unhide HO10).at (by rw [unhide HSL10]; unfold maxLen; omega)) (by rw [unhide HSL10]; omega) (by rw [unhide HSL10]; omega) (fun v hv => (unhide HSit10).st v (by rw [unhide HSL10] at hv; omega)))
                go_wp2_with fail
                refine (PK _).mono ?_
                rintro e w11 ⟨rfl, rfl⟩
                go_wp2_with fail
                refine (unhide HSA).mono ?_
                rintro e w12 ⟨rfl, hb12⟩
                have HSit12 := hide ((unhide HSit10).on hb12)
                have HBW12 := hide ((unhide HBW10).trans (hb12.mono (unhide HBW10).size))
                clear hb12 hck10
                go_wp2_with fail
                go_roundw
                case rel => exact ⟨k + 1, n + 1, FL6, LS7, S10, sl7, (SS.length : Int), by omega, by omega, by go_num, rfl, HL10, congrArg Value.string (unhide HSS6).symm, HSit12, unhide HBW12⟩
                case measure => simp [intOf]; omega
              · go_wp2_with fail
                refine (PK _).mono ?_
                rintro e w11 ⟨rfl, rfl⟩
                go_wp2_with fail
                go_roundw
                case rel => exact ⟨k + 1, n + 1, FL6, LS7, S10, sl7, (SS.length : Int), by omega, by omega, by go_num, rfl, HL10, congrArg Value.string (unhide HSS6).symm, HSit10, unhide HBW10⟩
                case measure => simp [intOf]; omega
      · have HS6 := hide ((unhide hSit).on hb6)
        have HB6 := hide ((unhide HBr).trans (hb6.mono (unhide HBr).size))
        clear hb6 hkey HED
        go_wp2_with fail
        go_roundw
        case rel => exact ⟨k + 1, n, FL, LS, SS, sl, L, by omega, hn, by go_num, rfl, hL, rfl, HS6, unhide HB6⟩
        case measure => simp [intOf]; omega
    · have hkn : k = E.length := by omega
      subst hkn
      have hckey := blk_cells hkey
      have HSA := hide (stampsAre_any (kb + 1) 1 n sl (.slice none 0 0) LS (.slice (some ⟨gs, 0, none⟩) SS.length cs) SS.length (gf SS) l z x y wr (unhide hSit).sto (by have := (unhide hSit).len; omega) (unhide HE) ((unhide hSit).ss.at (by rw [unhide HSL]; unfold maxLen; omega)) (by rw [unhide HSL]; omega) (by rw [unhide HSL]; omega) (fun v hv => (unhide hSit).st v (by rw [unhide HSL] at hv; omega)))
      have HBr := hide hb
      clear hb
      go_wp2_with fail
      refine (unhide HSA).mono ?_
      rintro e w6 ⟨rfl, hb6⟩
      have hs6 := (unhide hSit).on hb6
      have hck6 := blk_cells hs6.key
      have HSN := hide (Stamp_no (kb + 1) 1 n sl (.slice none 0 0) LS SS.length l z x y w6 hs6.sto (unhide HE) (by rw [unhide HSL]; omega) (by omega))
      have HB6 := hide ((unhide HBr).trans (hb6.mono (unhide HBr).size))
      have hts := tile_size FL l z x y
      clear hb6 hs6 hckey hkey
      go_wp2_with fail
      refine (unhide HSN).mono ?_
      rintro e w7 ⟨rfl, hb7⟩
      have HB7 := hide ((unhide HB6).trans (hb7.mono (unhide HB6).size))
      clear hb7 hck6
      go_wp2_with fail
      go_ret
      exact ⟨rfl, unhide HB7⟩
end Go.Proofs.Ytppcpbhnpdjfpab
