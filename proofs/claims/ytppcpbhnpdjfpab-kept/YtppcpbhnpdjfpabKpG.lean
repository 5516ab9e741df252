/-
  past.batch.
-/
import Derived.Test.YtppcpbhnpdjfpabKpF
namespace Go.Proofs.Ytppcpbhnpdjfpab
open Go.RowKit

theorem Try.info43 : (Try.prog.info? 43).map (fun i => (i.zero, i.size, i.bytes)) = some (some (.slice none 0 0), 1, 24) := by kernel_rfl
theorem ap_list {ops : Array Oper} {rest : List Oper} {o : Oper} {a : Act} {Q : Exit → Act → World → Prop} (hgd : o.guard = none) (s x : Operand)
    (ho : o.op = .call { callee := .builtin .append, args := #[s, x], argTypes := #[29, 29] })
    (W : World) (B : Nat) (v : Value) (n : Nat) (l : List Value) (oa : Option Addr) (m c : Nat) (hs : a.eval s = v) (hown : W.ownsRow B 43 1 v n l) (hx : a.eval x = .slice (some ⟨W.heap.size, 0, none⟩) 1 1)
    (hlen : n ≤ 1000) (hB : B ≤ W.heap.size)
    (h : ∀ v' w', w'.ownsRow B 43 1 v' (n + 1) (l ++ [.slice oa m c]) → (W.alloc (.cells #[.slice oa m c] 43)).grownBy w' v.ownBlock → (v'.ownBlock = v.ownBlock ∨ ∀ g, v'.ownBlock = some g → W.heap.size < g) → wpList Try.prog ops Q rest (a.put o.dst v') w') :
    wpList Try.prog ops Q (o :: rest) a (W.alloc (.cells #[.slice oa m c] 43)) := by
  obtain ⟨i0, hi, hz0, hz1, hz2⟩ := info_parts Try.info43
  refine ap_own _ hgd s x 29 ho B 43 i0 (.slice none 0 0) 1 24 Try.underlying29 hi hz0 hz1 hz2 rfl (by decide) v n l hs (World.ownsRow.alloc hown _) ⟨W.heap.size, 0, none⟩ 1 [.slice oa m c] hx rfl ?_ ?_ ?_ ?_ ?_ ?_
  · intro j u hj
    rw [Addr.add_mid, Nat.zero_add, blk_cells (heap_alloc_new W (.cells #[.slice oa m c] 43 (0, 0)))]
    simpa using hj
  · intro u hu; simp at hu; subst hu; rfl
  · omega
  · omega
  · simp; omega
  · intro v' w' r1 r2 r3
    refine h v' w' r1 r2 ?_
    rcases r3 with r3 | r3
    · exact Or.inl r3
    · right
      intro g hg
      have := r3 g hg
      simp at this
      omega
/-- How batch ends: well, and what is past stands. -/
def BatR (pb sb : Nat) (keep : Int) (pp pv : Value) (PI : List Int) (w : World) (e : Ending) (w' : World) : Prop :=
  e = .returned (.bool true) ∧ Below sb w w' ∧ ∃ n wv sl WV FLs LS, Past w' pb sb keep n wv pp sl pv WV FLs LS PI

set_option maxRecDepth 10000 in
set_option maxHeartbeats 12800000 in
theorem batch_any (pb sb : Nat) (keep : Int) (n : Nat) (wv pp sl pv : Value) (WV : List Value) (FLs : Nat → List (Nat → Int)) (LS : List (Nat → Int)) (PI : List Int) (rv : Value) (N : Nat) (es : Nat → Nat → Int) (w : World) (hP : Past w pb sb keep n wv pp sl pv WV FLs LS PI)
    (hv : CsAt 25 w rv N es) (hF : ∀ i, i < N → ∀ j, j < 25 → -9223372036854775808 ≤ es i j ∧ es i j ≤ 9223372036854775807) :
    Calls Try.prog 7 #[.pointer (some ⟨pb, 0, none⟩), rv] w fun e w' => BatR pb sb keep pp pv PI w e w' := by
  have HED := hide (edits_any rv N es w hv hF)
  have HP := hide hP
  clear hP hv hF
  go_enter Try.func7, Try.ntmps7
  go_wp2_with fail
  refine (unhide HED).mono ?_
  rintro e w1 ⟨⟨lv, rfl, hoE⟩, hb1⟩
  have hlenE := mkEs_len es (min N 8)
  have hRt : ∀ i, i < min N 8 → Rt (eF (gf (mkEs es (min N 8)) i)) := fun i hi => by rw [gf_mkEs es _ i hi, eF_mkE]; exact mk_rt _
  generalize mkEs es (min N 8) = E at hoE hlenE hRt
  have hE8 : E.length ≤ 8 := by omega
  rw [← hlenE] at hRt
  have HRt := hide hRt
  have hP1 := (unhide HP).on hb1
  have hn100 := hP1.n100
  have hltsp := hP1.lt
  obtain ⟨gw, cw, hwv, hgwB, hgwl⟩ : ∃ gw cw, wv = .slice (some ⟨gw, 0, none⟩) (n + 1) cw ∧ sb + 1 ≤ gw ∧ gw < w1.heap.size := by
    rcases hP1.row.2 with ⟨_, h⟩ | ⟨g, c, cur, h, hb, hh, _⟩
    · omega
    · exact ⟨g, c, h, hb, (Array.getElem?_eq_some_iff.1 hh).1⟩
  subst hwv
  obtain ⟨fvn, hfn, hon⟩ := hP1.was n (Nat.le_refl _)
  have hcn : w1.cell? ⟨gw, n, none⟩ = some fvn := by rw [World.ownsRow.cellAt hP1.row n (by omega), hfn]
  have h40 := (hP1.hist n (Nat.le_refl _)).le40
  obtain ⟨oE, cE, hlv⟩ : ∃ oE cE, lv = .slice oE E.length cE := by
    rcases hoE.2 with ⟨h, h0⟩ | ⟨g, c, cur, h, _⟩
    · exact ⟨none, 0, by rw [h0]; exact h⟩
    · exact ⟨_, _, h⟩
  subst hlv
  have hEat := hoE.at (by unfold maxLen; omega)
  have HEd := hide (edited_any fvn (FLs n) oE E.length cE (gf E) w1 (hon.at (by unfold maxLen; omega)) hon.nilOr h40 hEat hE8)
  obtain ⟨p0, p1, p2, p3⟩ := hP1.cells
  have HP1 := hide hP1
  have HEat := hide hEat
  have HB1 := hide hb1
  obtain ⟨oo, on_, oc, hfv⟩ : ∃ a b c, fvn = .slice a b c := by
    rcases hon.2 with ⟨h, _⟩ | ⟨g, c, cur, h, _⟩
    · exact ⟨_, _, _, h⟩
    · exact ⟨_, _, _, h⟩
  subst hfv
  have hnn : (n : Int) < ((n + 1 : Nat) : Int) := by omega
  clear hP1 hon hEat hb1 hoE hRt hlenE hfn HED p0 p1 p3
  go_wp2_with fail
  refine (unhide HEd).mono ?_
  rintro e w2 ⟨hb2, ⟨FL6, v6, rfl, hK6, ho6⟩ | ⟨k0, FLk, hk0, hKk, hNk, rfl⟩⟩
  · have hdummy := True.intro
    have hP2 := (unhide HP1).on hb2
    have hbw2 := (unhide HB1).trans (hb2.mono (unhide HB1).size)
    have HAP := hide (Apply_any sb keep n sl pv LS (.slice oE E.length cE) E.length (gf E) w2 hP2.sto.blk hP2.sto.own (by have := hP2.len; omega) ((unhide HEat).on hb2) hE8 ⟨by omega, by omega⟩)
    obtain ⟨p0, p1, p2', p3⟩ := hP2.cells
    have HP2 := hide hP2
    have HBW2 := hide hbw2
    have hsbw : sb ≤ w.heap.size := Nat.le_of_lt (unhide HP).sto.lt
    clear hdummy
    have HK6 := hide hK6
    have HO6 := hide ho6
    have HB22 := hide hb2
    clear hP2 hbw2 hb2 hcn p1 p3 hK6 ho6 HEd
    by_cases hE0 : E.length = 0
    · obtain rfl : E = [] := List.eq_nil_of_length_eq_zero hE0
      clear hE0 HRt HEat
      simp only [List.length_nil] at HAP ⊢
      go_wp2_with fail
      refine (unhide HAP).mono ?_
      rintro e w3 hA3
      obtain ⟨rfl, hb3⟩ : e = .returned (.tuple #[.int .i64 0, .int .i64 8]) ∧ Below w2.heap.size w2 w3 := by
        rcases hA3 with ⟨_, q1, q2⟩ | ⟨q, _⟩ | ⟨q, _⟩
        · exact ⟨q1, q2⟩
        · simp at q
        · simp at q
      have HH : Hid (BatR pb sb keep pp pv PI w (.returned (.bool true)) w3) := ⟨rfl, ((unhide HBW2).trans (hb3.mono (unhide HBW2).size)).mono hsbw, _, _, _, _, _, _, (unhide HP2).on hb3⟩
      clear hA3 hb3 p0 p2' HAP
      go_wp2_with fail
      go_ret
      exact unhide HH
    · have hz : (0 : Int) < E.length := by omega
      have hz' : E ≠ [] := fun e => hE0 (by rw [e]; rfl)
      by_cases h100 : n = 100
      · have h1 : ¬ (n : Int) < 100 := by omega
        go_wp2_with fail
        refine (unhide HAP).mono ?_
        rintro e w3 hA3
        obtain ⟨rfl, hb3⟩ : e = .returned (.tuple #[.int .i64 0, .int .i64 11]) ∧ Below w2.heap.size w2 w3 := by
          rcases hA3 with ⟨q, _⟩ | ⟨_, _, q1, q2⟩ | ⟨_, q, _⟩
          · exact absurd q hE0
          · exact ⟨q1, q2⟩
          · omega
        have HH : Hid (BatR pb sb keep pp pv PI w (.returned (.bool true)) w3) := ⟨rfl, ((unhide HBW2).trans (hb3.mono (unhide HBW2).size)).mono hsbw, _, _, _, _, _, _, (unhide HP2).on hb3⟩
        clear hA3 hb3 p0 p2' HAP
        go_wp2_with fail
        go_ret
        exact unhide HH
      · have h1 : (n : Int) < 100 := by omega
        go_wp2_with fail
        refine (unhide HAP).mono ?_
        rintro e w3 hA3
        obtain ⟨LS3, sl3, rfl, hAK, hg3, hblk3, hown3⟩ : ∃ LS3 sl3, e = .returned (.tuple #[.int .i64 ((n : Int) + 1), .int .i64 0]) ∧ AppK ((n : Int) + 1) (gf E) LS E.length LS3 ∧ w2.grownBy w3 (some sb) ∧ w3.heap[sb]? = some (.cells #[.int .i64 keep, .int .i64 ((n : Int) + 1), sl3, pv] 62 (0, 0)) ∧ OwnC 80 26 w3 w2.heap.size sl3 LS3 := by
          rcases hA3 with ⟨q, _⟩ | ⟨_, q, _⟩ | ⟨_, _, k1, LSk, hAK, ⟨rfl, e1, e2, sl3, e3, e4⟩ | ⟨hk1, r, LS3, hEd, hr0, _⟩⟩
          · exact absurd q hE0
          · omega
          · exact ⟨LSk, sl3, e1, hAK, e2, e3, e4⟩
          · obtain ⟨A, B, hA, hB⟩ := (unhide HK6).pre k1 hk1
            obtain ⟨hRel, _, _⟩ := batch_joint (n := n) (by omega) (unhide HP2).rel (fun i hi => by have := (unhide HP2).bnd i hi; omega) (fun i hi => unhide HRt i (by omega)) hAK hA
            exact absurd (hRel.step (by omega) (unhide HRt k1 hk1) hB hEd).1 hr0
        obtain ⟨hRel3, hBnd3, hHist3⟩ := batch_joint (n := n) (by omega) (unhide HP2).rel (fun i hi => by have := (unhide HP2).bnd i hi; omega) (fun i hi => unhide HRt i hi) hAK (unhide HK6)
        have hLen3 := hAK.len
        have h406 : FL6.length ≤ 40 := EdK.len h40 (unhide HK6)
        have hP2 := unhide HP2
        have kp3 : ∀ {T m v' B' l'}, OwnC T m w2 B' v' l' → sb + 1 ≤ B' → OwnC T m w3 B' v' l' := fun h hB => h.kept hg3 (fun g hg e => by have := (h.lt g hg).1; simp only [Option.some.injEq] at e; omega)
        have hz2 : w1.heap.size ≤ w2.heap.size := (unhide HB22).size
        have hz3 : w2.heap.size ≤ w3.heap.size := hg3.size
        have hz1 : w.heap.size ≤ w1.heap.size := (unhide HB1).size
        have hsbw1 : sb < w1.heap.size := (unhide HP1).sto.lt
        have hpb3 : w3.heap[pb]? = some (.cells #[.pointer (some ⟨sb, 0, none⟩), .int .i64 keep, .slice (some ⟨gw, 0, none⟩) (n + 1) cw, pp] 32 (0, 0)) := (hg3.block pb (Array.getElem?_eq_some_iff.1 hP2.blk).1 (by simp; omega)).trans hP2.blk
        have hrow3 : w3.ownsRow (sb + 1) 43 1 (.slice (some ⟨gw, 0, none⟩) (n + 1) cw) (n + 1) WV := rowOn hP2.row fun g hg => hg3.block g (World.ownsRow.lt hP2.row g hg).2 (by have := (World.ownsRow.lt hP2.row g hg).1; simp; omega)
        have hwas3 : ∀ v, v ≤ n → ∃ fv, WV[v]? = some fv ∧ OwnC 54 24 w3 (sb + 1) fv (FLs v) := fun v hv => by
          obtain ⟨fv, e1, e2⟩ := hP2.was v hv
          exact ⟨fv, e1, kp3 e2 (Nat.le_refl _)⟩
        have h63 : OwnC 54 24 w3 (sb + 1) v6 FL6 := (kp3 (unhide HO6) (by omega)).mono (by omega)
        have hpp3 := kp3 hP2.pin (Nat.le_refl _)
        have hpv3 := kp3 hP2.sto.pins (Nat.le_refl _)
        have hsl3 : OwnC 80 26 w3 (sb + 1) sl3 LS3 := hown3.mono (by omega)
        obtain ⟨gwc, hgw3⟩ := row_ty hrow3 (g := gw) rfl
        obtain ⟨o6, n6, c6, hv6⟩ : ∃ a b c, v6 = .slice a b c := by
          rcases h63.2 with ⟨h, _⟩ | ⟨g, c, cur, h, _⟩
          · exact ⟨_, _, _, h⟩
          · exact ⟨_, _, _, h⟩
        subst hv6
        have c32 := (blk_cells hpb3 2).trans (show _ = some (Value.slice (some ⟨gw, 0, none⟩) (n + 1) cw) from rfl)
        have hbw3 := (unhide HBW2).mono hsbw |>.grown hg3 (by omega) (fun q hq => by simp only [Option.some.injEq] at hq; omega)
        have HX := hide (And.intro hblk3 (And.intro hwas3 (And.intro h63 (And.intro hpp3 (And.intro hpv3 (And.intro hsl3 (And.intro hbw3 (And.intro hpb3 hgw3))))))))
        have HR3 := hide (And.intro hRel3 (And.intro hBnd3 hHist3))
        have hB3 : sb + 1 ≤ w3.heap.size := by omega
        have hL : n + 1 ≤ 1000 := by omega
        have hP2d := hP2.dis
        have hP2h := hP2.hist
        have hP2l := hP2.len
        have hP2k := hP2.kp
        have hP2p := hP2.p6
        have HPX := hide (And.intro hP2d (And.intro hP2h (And.intro hP2l (And.intro hP2k hP2p))))
        have HLen3 := hide hLen3
        clear hA3 hg3 hblk3 hown3 hRel3 hBnd3 hHist3 hP2 kp3 hwas3 h63 hpp3 hpv3 hsl3 hbw3 hpb3 hgw3 p0 p2' HAP hP2d hP2h hP2l hP2k hP2p hAK hLen3
        go_wp2_with (at_builtin; refine ap_list rfl (.tmp 62) (.tmp 64) rfl _ (sb + 1) _ (n + 1) WV o6 n6 c6 rfl hrow3 rfl hL hB3 ?_)
        intro v4 w4 ho4 hg4 hd4
        obtain ⟨hblk3, hwas3, h63, hpp3, hpv3, hsl3, hbw3, hpb3, hgw3⟩ := unhide HX
        have hz4 : w3.heap.size + 1 ≤ w4.heap.size := by have := hg4.size; simpa using this
        have bk : ∀ q, q < w3.heap.size → q ≠ gw → w4.heap[q]? = w3.heap[q]? := fun q hq hne => (hg4.block q (by simp; omega) (by simp only [Value.ownBlock, ne_eq, Option.some.injEq]; exact hne)).trans (Below.heap_alloc _ _ _ hq)
        have hpb4 := (bk pb (Array.getElem?_eq_some_iff.1 hpb3).1 (fun e => blk_ne hpb3 hgw3 (by decide) e)).trans hpb3
        have c4 := (blk_cells hpb4 2).trans (show _ = some (Value.slice (some ⟨gw, 0, none⟩) (n + 1) cw) from rfl)
        have fz4 := frz_blk hpb4 2
        obtain ⟨o4, n4, k4, hv4⟩ : ∃ a b c, v4 = .slice a b c := by
          rcases ho4.2 with ⟨h, _⟩ | ⟨g, c, cur, h, _⟩
          · exact ⟨_, _, _, h⟩
          · exact ⟨_, _, _, h⟩
        subst hv4
        have bk5 : ∀ q, q < w3.heap.size → q ≠ gw → q ≠ pb → (w4.setCell ⟨pb, 2, none⟩ (.slice o4 n4 k4)).heap[q]? = w3.heap[q]? := fun q hq h1 h2 => (Below.heap_setCell _ _ _ _ h2).trans (bk q hq h1)
        have kp5 : ∀ {T m v' B' l'}, OwnC T m w3 B' v' l' → T ≠ 43 → T ≠ 32 → OwnC T m (w4.setCell ⟨pb, 2, none⟩ (.slice o4 n4 k4)) B' v' l' := fun h hT hT' => h.same fun g hg => by
          obtain ⟨cur, hc⟩ := h.ty hg
          exact bk5 g (h.lt g hg).2 (blk_ne hc hgw3 hT) (blk_ne hc hpb3 hT')
        have HH : Hid (BatR pb sb keep pp pv PI w (.returned (.bool true)) (w4.setCell ⟨pb, 2, none⟩ (.slice o4 n4 k4))) := by
          obtain ⟨hRel3, hBnd3, hHist3⟩ := unhide HR3
          obtain ⟨hP2d, hP2h, hP2l, hP2k, hP2p⟩ := unhide HPX
          have hLen3 := unhide HLen3
          refine ⟨rfl, ?_, n + 1, .slice o4 n4 k4, sl3, WV ++ [.slice o6 n6 c6], fun v => if v = n + 1 then FL6 else FLs v, LS3, ?_⟩
          · refine hbw3.trans ⟨hg4.os, hg4.tape, hg4.output, by simp only [World.setCell, Array.size_modify]; omega, fun q hq => bk5 q (by omega) (by omega) (by omega)⟩
          · refine ⟨hltsp, blk_set hpb4 _, ⟨(bk5 sb (by omega) (by omega) (by omega)).trans hblk3, kp5 hsl3 (by decide) (by decide), kp5 hpv3 (by decide) (by decide)⟩, ?_, ?_, kp5 hpp3 (by decide) (by decide), hP2d, ?_, ?_, ?_, ?_, by omega, hP2p, hP2k⟩
            · refine rowOn ho4 fun g hg => Below.heap_setCell _ _ _ _ ?_
              rcases hd4 with d | d
              · rw [d] at hg; simp only [Value.ownBlock, Option.some.injEq] at hg; subst hg; exact fun e => blk_ne hgw3 hpb3 (by decide) e
              · have := d g hg; have := (Array.getElem?_eq_some_iff.1 hpb3).1; simp; omega
            · intro v hv
              have hwl : WV.length = n + 1 := by have := hrow3.1; omega
              by_cases c : v = n + 1
              · rw [if_pos c]
                refine ⟨.slice o6 n6 c6, ?_, kp5 h63 (by decide) (by decide)⟩
                rw [c, ← hwl]; simp
              · rw [if_neg c]
                obtain ⟨fv, e1, e2⟩ := hwas3 v (by omega)
                exact ⟨fv, by rw [List.getElem?_append_left (by omega)]; exact e1, kp5 e2 (by decide) (by decide)⟩
            · show Rel LS3 (if n + 1 = n + 1 then FL6 else FLs (n + 1)); rw [if_pos rfl]; exact hRel3
            · exact hBnd3
            · intro v hv
              show RelV v LS3 (if v = n + 1 then FL6 else FLs v)
              by_cases c : v = n + 1
              · rw [if_pos c, c]; exact relV_now hRel3 hBnd3 h406
              · rw [if_neg c]; exact hHist3 v (by omega) _ (hP2h v (by omega))
            · omega
        clear hblk3 hwas3 h63 hpp3 hpv3 hsl3 hbw3 hpb3 hgw3 bk hpb4 bk5 kp5 ho4 hg4 hd4 HX HR3 HPX hrow3
        go_wp2_with fail
        go_ret
        exact unhide HH
  · have hdummy := True.intro
    have hP2 := (unhide HP1).on hb2
    have hbw2 := (unhide HB1).trans (hb2.mono (unhide HB1).size)
    have HAP := hide (Apply_any sb keep n sl pv LS (.slice oE E.length cE) E.length (gf E) w2 hP2.sto.blk hP2.sto.own (by have := hP2.len; omega) ((unhide HEat).on hb2) hE8 ⟨by omega, by omega⟩)
    obtain ⟨p0, p1, p2', p3⟩ := hP2.cells
    have HP2 := hide hP2
    have HBW2 := hide hbw2
    have hsbw : sb ≤ w.heap.size := Nat.le_of_lt (unhide HP).sto.lt
    clear hdummy
    have hz : (0 : Int) < E.length := by omega
    have HKN := hide (And.intro hKk hNk)
    clear hP2 hbw2 hb2 hcn p1 p3 hKk hNk HEd
    go_wp2_with fail
    refine (unhide HAP).mono ?_
    rintro e w3 hA3
    obtain ⟨r, rfl, hr0, hb3⟩ : ∃ r : Int, e = .returned (.tuple #[.int .i64 0, .int .i64 r]) ∧ r ≠ 0 ∧ Below w2.heap.size w2 w3 := by
      rcases hA3 with ⟨q, _⟩ | ⟨_, _, q1, q2⟩ | ⟨_, _, k1, LSk, hAK, ⟨rfl, e1, e2, sl3, e3, e4⟩ | ⟨hk1, r, LS3, hEd, hr0, q1, q2⟩⟩
      · omega
      · exact ⟨11, q1, by omega, q2⟩
      · obtain ⟨A, B, hA, hB⟩ := hAK.pre k0 hk0
        obtain ⟨hRel, _, _⟩ := batch_joint (n := n) (by omega) (unhide HP2).rel (fun i hi => by have := (unhide HP2).bnd i hi; omega) (fun i hi => unhide HRt i (by omega)) hA (unhide HKN).1
        exact absurd rfl (hRel.noStep (unhide HKN).2 hB)
      · exact ⟨r, q1, hr0, q2⟩
    have HH : Hid (BatR pb sb keep pp pv PI w (.returned (.bool true)) w3) := ⟨rfl, ((unhide HBW2).trans (hb3.mono (unhide HBW2).size)).mono hsbw, _, _, _, _, _, _, (unhide HP2).on hb3⟩
    clear hA3 hb3 p0 p2' HAP
    go_wp2_with fail
    go_ret
    exact unhide HH
end Go.Proofs.Ytppcpbhnpdjfpab
