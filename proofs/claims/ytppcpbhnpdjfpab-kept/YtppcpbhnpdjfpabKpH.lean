/-
  past.pin.
-/
import Derived.Test.YtppcpbhnpdjfpabKpG
namespace Go.Proofs.Ytppcpbhnpdjfpab
open Go.RowKit

/-- Must a version be held? -/
theorem held_must {keep : Int} {n : Nat} {PI : List Int} {V : Int} (h0 : 0 ≤ V) (h1 : V ≤ n) : heldB keep n (ri PI) V = (decide ((n : Int) - keep ≤ V) || hasP (ri PI) V) := by
  unfold heldB; rw [decide_eq_true h0, decide_eq_true h1]; rfl
theorem Past.pinTo {w w' : World} {pb sb : Nat} {keep : Int} {n : Nat} {wv pp pp' sl pv pv' : Value} {WV : List Value} {FLs : Nat → List (Nat → Int)} {LS : List (Nat → Int)} {PI PI' : List Int} (h : Past w pb sb keep n wv pp sl pv WV FLs LS PI)
    (hb : w'.heap[pb]? = some (.cells #[.pointer (some ⟨sb, 0, none⟩), .int .i64 keep, wv, pp'] 32 (0, 0))) (hs : StP w' sb keep n sl pv' LS (ri PI')) (hp : OwnC 3 1 w' (sb + 1) pp' (ri PI')) (hd : ∀ g, pv'.ownBlock = some g → pp'.ownBlock ≠ some g) (h6 : PI'.length ≤ 6)
    (hk : ∀ (g : Nat) (c : Array Value) (T : TypeId), w.heap[g]? = some (Obj.cells c T (0, 0)) → T ≠ 3 → T ≠ 32 → T ≠ 62 → w'.heap[g]? = w.heap[g]?) : Past w' pb sb keep n wv pp' sl pv' WV FLs LS PI' := by
  refine ⟨h.lt, hb, hs, ?_, ?_, hp, hd, h.rel, h.bnd, h.hist, h.len, h.n100, h6, h.kp⟩
  · refine rowOn h.row fun g hg => ?_
    obtain ⟨c, hc⟩ := row_ty h.row hg
    exact hk g c 43 hc (by decide) (by decide) (by decide)
  · intro v hv
    obtain ⟨fv, e, ho⟩ := h.was v hv
    refine ⟨fv, e, ho.same fun g hg => ?_⟩
    obtain ⟨c, hc⟩ := ho.ty hg
    exact hk g c 54 hc (by decide) (by decide) (by decide)
/-- How pin ends. -/
def PiR (pb sb : Nat) (keep : Int) (n : Nat) (w : World) (e : Ending) (w' : World) : Prop :=
  e = .returned (.bool true) ∧ Below sb w w' ∧ ∃ wv pp sl pv WV FLs LS PI, Past w' pb sb keep n wv pp sl pv WV FLs LS PI

set_option maxRecDepth 10000 in
set_option maxHeartbeats 12800000 in
theorem pin_must (pb sb : Nat) (keep : Int) (n : Nat) (wv pp sl pv : Value) (WV : List Value) (FLs : Nat → List (Nat → Int)) (LS : List (Nat → Int)) (PI : List Int) (way raw : Int) (w : World) (hP : Past w pb sb keep n wv pp sl pv WV FLs LS PI)
    (hr : -9223372036854775808 ≤ raw ∧ raw ≤ 9223372036854775807) :
    Calls Try.prog 8 #[.pointer (some ⟨pb, 0, none⟩), .int .i64 way, .int .i64 raw] w fun e w' => PiR pb sb keep n w e w' := by
  have hn100 := hP.n100
  have hltsp := hP.lt
  have hkp := hP.kp
  have hp6 := hP.p6
  have PK := fun W => pick_any raw ((n : Int) + 1) W hr (by omega)
  have hV := pk_in raw (n := (n : Int) + 1) (by omega)
  generalize pk raw ((n : Int) + 1) = V at PK hV
  obtain ⟨gw, cw, hwv⟩ : ∃ gw cw, wv = .slice (some ⟨gw, 0, none⟩) (n + 1) cw := by
    rcases hP.row.2 with ⟨_, h⟩ | ⟨g, c, cur, h, hb, hh, _⟩
    · omega
    · exact ⟨g, c, h⟩
  subst hwv
  obtain ⟨op, cp, hpp⟩ : ∃ op cp, pp = .slice op (ri PI).length cp := by
    rcases hP.pin.2 with ⟨h, h0⟩ | ⟨g, c, cur, h, _⟩
    · exact ⟨none, 0, by rw [h0]; exact h⟩
    · exact ⟨_, _, h⟩
  subst hpp
  obtain ⟨p0, p1, p2, p3⟩ := hP.cells
  have hlp : pb < w.heap.size := (Array.getElem?_eq_some_iff.1 hP.blk).1
  have hM := held_must (keep := keep) (PI := PI) hV.1 (show V ≤ n by omega)
  have HPN : Hid (∀ W, Below w.heap.size w W → Calls Try.prog 19 #[.pointer (some ⟨pb, 0, none⟩), .int .i64 V] W fun e w' => e = .returned (.int .i64 (cP (ri PI) V (ri PI).length)) ∧ Below W.heap.size W w') := fun W hW =>
    (pinned_any pb _ _ _ _ (ri PI) V W (hP.on hW).blk (hP.on hW).pin (by rw [ri_len]; omega)).mono fun e w' h => ⟨h.1, by rw [← h.2]; exact Below.refl _ _⟩
  have hch := cP_has (ri PI) V
  have HP := hide hP
  have e0 : IntKind.i64.wrap (n : Int) = n := i64_in _ (by omega)
  have e1 : IntKind.i64.wrap ((n : Int) - keep) = (n : Int) - keep := i64_in _ (by omega)
  have HM := hide hM
  clear hP hM
  obtain ⟨c, hc⟩ : ∃ c, cP (ri PI) V (ri PI).length = c := ⟨_, rfl⟩
  rw [hc] at HPN hch
  obtain ⟨M, hMM⟩ : ∃ M, heldB keep n (ri PI) V = M := ⟨_, rfl⟩
  have HMM := hide hMM
  clear hMM
  go_enter Try.func8, Try.ntmps8
  go_wp2_with fail
  refine (PK _).mono ?_
  rintro e w9 ⟨rfl, rfl⟩
  go_wp2
  go_cut [8] (fun mv wr => mv = .bool M ∧ Below w.heap.size w wr)
  case first =>
    refine region_bq (by kernel_rfl) (by kernel_rfl) ?_
    by_cases hd : (n : Int) - keep ≤ V
    · have hMt : M = true := by rw [← unhide HMM, unhide HM, decide_eq_true hd]; rfl
      subst hMt
      refine q_move rfl _ rfl (.int .i64 V) rfl ?_
      simp only [Act.put, List.setIfInBounds_toArray, List.set_cons_succ, List.set_cons_zero]
      refine q_move rfl _ rfl (.pointer (some ⟨pb, 0, none⟩)) rfl ?_
      simp only [Act.put, List.setIfInBounds_toArray, List.set_cons_succ, List.set_cons_zero]
      refine q_val rfl (.pointer (some ⟨pb, 0, none⟩)) (fun _ _ => by simp [go_sem]) ?_
      simp only [Act.put, List.setIfInBounds_toArray, List.set_cons_succ, List.set_cons_zero]
      refine q_val rfl (.pointer (some ⟨pb, 2, none⟩)) (fun _ _ => by simp [go_sem]) ?_
      simp only [Act.put, List.setIfInBounds_toArray, List.set_cons_succ, List.set_cons_zero]
      refine q_val rfl (.slice (some ⟨gw, 0, none⟩) (n + 1) cw) (fun w' h => by simp [go_sem, (h.cell (p := ⟨pb, 2, none⟩) hlp).trans p2]) ?_
      simp only [Act.put, List.setIfInBounds_toArray, List.set_cons_succ, List.set_cons_zero]
      refine q_val rfl (.int .i64 ((n : Int) + 1)) (fun _ _ => by simp [go_sem]) ?_
      simp only [Act.put, List.setIfInBounds_toArray, List.set_cons_succ, List.set_cons_zero]
      refine q_val rfl (.int .i64 n) (fun _ _ => by simp [go_sem, e0]) ?_
      simp only [Act.put, List.setIfInBounds_toArray, List.set_cons_succ, List.set_cons_zero]
      refine q_move rfl _ rfl (.pointer (some ⟨pb, 0, none⟩)) rfl ?_
      simp only [Act.put, List.setIfInBounds_toArray, List.set_cons_succ, List.set_cons_zero]
      refine q_val rfl (.pointer (some ⟨pb, 0, none⟩)) (fun _ _ => by simp [go_sem]) ?_
      simp only [Act.put, List.setIfInBounds_toArray, List.set_cons_succ, List.set_cons_zero]
      refine q_val rfl (.pointer (some ⟨pb, 1, none⟩)) (fun _ _ => by simp [go_sem]) ?_
      simp only [Act.put, List.setIfInBounds_toArray, List.set_cons_succ, List.set_cons_zero]
      refine q_val rfl (.int .i64 keep) (fun w' h => by simp [go_sem, (h.cell (p := ⟨pb, 1, none⟩) hlp).trans p1]) ?_
      simp only [Act.put, List.setIfInBounds_toArray, List.set_cons_succ, List.set_cons_zero]
      refine q_val rfl (.int .i64 ((n : Int) - keep)) (fun _ _ => by simp [go_sem, e1]) ?_
      simp only [Act.put, List.setIfInBounds_toArray, List.set_cons_succ, List.set_cons_zero]
      refine q_val rfl (.bool true) (fun _ _ => by simp [go_sem]; omega) ?_
      simp only [Act.put, List.setIfInBounds_toArray, List.set_cons_succ, List.set_cons_zero]
      refine q_move rfl _ rfl (.bool true) rfl ?_
      simp only [Act.put, List.setIfInBounds_toArray, List.set_cons_succ, List.set_cons_zero]
      go_big_quiet_skip
      go_big_quiet_skip
      go_big_quiet_skip
      go_big_quiet_skip
      refine q_val rfl (.bool true) (fun _ _ => by simp [go_sem]) ?_
      simp only [Act.put, List.setIfInBounds_toArray, List.set_cons_succ, List.set_cons_zero]
      refine q_assign rfl _ rfl (.bool true) rfl ?_
      simp only [Act.put, List.setIfInBounds_toArray, List.set_cons_succ, List.set_cons_zero]
      refine wpQuiet_nil ?_
      intro w6 hw6
      have HB6 := hide hw6
      clear hw6
      go_wp2_with fail
      go_meet
      exact ⟨rfl, unhide HB6⟩
    · have hMt : M = decide (0 < c) := by rw [← unhide HMM, unhide HM, decide_eq_false hd, ← hch]; simp
      subst hMt
      refine q_move rfl _ rfl (.int .i64 V) rfl ?_
      simp only [Act.put, List.setIfInBounds_toArray, List.set_cons_succ, List.set_cons_zero]
      refine q_move rfl _ rfl (.pointer (some ⟨pb, 0, none⟩)) rfl ?_
      simp only [Act.put, List.setIfInBounds_toArray, List.set_cons_succ, List.set_cons_zero]
      refine q_val rfl (.pointer (some ⟨pb, 0, none⟩)) (fun _ _ => by simp [go_sem]) ?_
      simp only [Act.put, List.setIfInBounds_toArray, List.set_cons_succ, List.set_cons_zero]
      refine q_val rfl (.pointer (some ⟨pb, 2, none⟩)) (fun _ _ => by simp [go_sem]) ?_
      simp only [Act.put, List.setIfInBounds_toArray, List.set_cons_succ, List.set_cons_zero]
      refine q_val rfl (.slice (some ⟨gw, 0, none⟩) (n + 1) cw) (fun w' h => by simp [go_sem, (h.cell (p := ⟨pb, 2, none⟩) hlp).trans p2]) ?_
      simp only [Act.put, List.setIfInBounds_toArray, List.set_cons_succ, List.set_cons_zero]
      refine q_val rfl (.int .i64 ((n : Int) + 1)) (fun _ _ => by simp [go_sem]) ?_
      simp only [Act.put, List.setIfInBounds_toArray, List.set_cons_succ, List.set_cons_zero]
      refine q_val rfl (.int .i64 n) (fun _ _ => by simp [go_sem, e0]) ?_
      simp only [Act.put, List.setIfInBounds_toArray, List.set_cons_succ, List.set_cons_zero]
      refine q_move rfl _ rfl (.pointer (some ⟨pb, 0, none⟩)) rfl ?_
      simp only [Act.put, List.setIfInBounds_toArray, List.set_cons_succ, List.set_cons_zero]
      refine q_val rfl (.pointer (some ⟨pb, 0, none⟩)) (fun _ _ => by simp [go_sem]) ?_
      simp only [Act.put, List.setIfInBounds_toArray, List.set_cons_succ, List.set_cons_zero]
      refine q_val rfl (.pointer (some ⟨pb, 1, none⟩)) (fun _ _ => by simp [go_sem]) ?_
      simp only [Act.put, List.setIfInBounds_toArray, List.set_cons_succ, List.set_cons_zero]
      refine q_val rfl (.int .i64 keep) (fun w' h => by simp [go_sem, (h.cell (p := ⟨pb, 1, none⟩) hlp).trans p1]) ?_
      simp only [Act.put, List.setIfInBounds_toArray, List.set_cons_succ, List.set_cons_zero]
      refine q_val rfl (.int .i64 ((n : Int) - keep)) (fun _ _ => by simp [go_sem, e1]) ?_
      simp only [Act.put, List.setIfInBounds_toArray, List.set_cons_succ, List.set_cons_zero]
      refine q_val rfl (.bool false) (fun _ _ => by simp [go_sem]; omega) ?_
      simp only [Act.put, List.setIfInBounds_toArray, List.set_cons_succ, List.set_cons_zero]
      refine q_move rfl _ rfl (.bool false) rfl ?_
      simp only [Act.put, List.setIfInBounds_toArray, List.set_cons_succ, List.set_cons_zero]
      refine q_move (by kernel_rfl) _ rfl (.pointer (some ⟨pb, 0, none⟩)) rfl ?_
      simp only [Act.put, List.setIfInBounds_toArray, List.set_cons_succ, List.set_cons_zero]
      refine q_move (by kernel_rfl) _ rfl (.int .i64 V) rfl ?_
      simp only [Act.put, List.setIfInBounds_toArray, List.set_cons_succ, List.set_cons_zero]
      refine q_callC (by kernel_rfl) 19 #[.pointer (some ⟨pb, 0, none⟩), .int .i64 V] (fun _ => by simp [go_sem]) _ (unhide HPN) ?_
      simp only [Act.put, List.setIfInBounds_toArray, List.set_cons_succ, List.set_cons_zero]
      refine q_val (by kernel_rfl) (.bool (decide (0 < c))) (fun _ _ => by simp [go_sem]) ?_
      simp only [Act.put, List.setIfInBounds_toArray, List.set_cons_succ, List.set_cons_zero]
      refine q_val rfl (.bool (decide (0 < c))) (fun _ _ => by simp [go_sem]) ?_
      simp only [Act.put, List.setIfInBounds_toArray, List.set_cons_succ, List.set_cons_zero]
      refine q_assign rfl _ rfl (.bool (decide (0 < c))) rfl ?_
      simp only [Act.put, List.setIfInBounds_toArray, List.set_cons_succ, List.set_cons_zero]
      refine wpQuiet_nil ?_
      intro w6 hw6
      have HB6 := hide hw6
      clear hw6
      go_wp2_with fail
      go_meet
      exact ⟨rfl, unhide HB6⟩
  case rest =>
    obtain ⟨rfl, hb⟩ := hcut
    have hPr := (unhide HP).on hb
    have hsbw : sb ≤ w.heap.size := Nat.le_of_lt (unhide HP).sto.lt
    have hbw := hb.mono hsbw
    obtain ⟨q0, q1, q2, q3⟩ := hPr.cells
    have hdsl : ∀ g, pv.ownBlock = some g → sl.ownBlock ≠ some g := fun g hg e => by
      obtain ⟨c1, h1⟩ := hPr.sto.pins.ty hg
      obtain ⟨c2, h2⟩ := hPr.sto.own.ty e
      exact blk_ne h1 h2 (by decide) rfl
    have HPR := hide hPr
    have HBW := hide hbw
    have hlr : (ri PI).length = PI.length := ri_len PI
    clear hPr hb hbw p0 p1 p2 p3 HPN PK e1
    by_cases hway : 0 < way
    · have HPN := hide (Pin_any sb keep n sl pv LS PI V wc (unhide HPR).sto hdsl hp6 hkp ⟨by omega, by omega⟩)
      clear hdsl
      go_wp2_with fail
      refine (unhide HPN).mono ?_
      rintro e w2 (⟨hh, rfl, hb2⟩ | ⟨hh, h6, rfl, hb2⟩ | ⟨hh, h6, rfl, hfr, pv2, hst2, hd2⟩)
      · obtain rfl : M = false := (unhide HMM).symm.trans hh
        have HH : Hid (PiR pb sb keep n w (.returned (.bool true)) w2) := ⟨rfl, (unhide HBW).trans (hb2.mono (Nat.le_of_lt (unhide HPR).sto.lt)), _, _, _, _, _, _, _, _, (unhide HPR).on hb2⟩
        clear hb2 q0 q1 q2 q3 hlr HPN
        go_wp2_with fail
        go_ret
        exact unhide HH
      · obtain rfl : M = true := (unhide HMM).symm.trans hh
        have hb2' := (unhide HPR).on hb2
        obtain ⟨_, _, _, s3⟩ := hb2'.cells
        have hl6 : ¬ ((ri PI).length : Int) < 6 := by omega
        have HH : Hid (PiR pb sb keep n w (.returned (.bool true)) w2) := ⟨rfl, (unhide HBW).trans (hb2.mono (Nat.le_of_lt (unhide HPR).sto.lt)), _, _, _, _, _, _, _, _, hb2'⟩
        clear hb2 hb2' q0 q1 q2 q3 hlr HPN h6
        go_wp2_with fail
        go_ret
        exact unhide HH
      · obtain rfl : M = true := (unhide HMM).symm.trans hh
        have hPr := unhide HPR
        have hpbl : pb < wc.heap.size := (Array.getElem?_eq_some_iff.1 hPr.blk).1
        have hnS : ∀ (g : Nat) (c : Array Value) (T : TypeId), wc.heap[g]? = some (Obj.cells c T (0, 0)) → T ≠ 3 → T ≠ 62 → w2.heap[g]? = wc.heap[g]? := fun g c T hg h3 h62 => hfr.block g (Array.getElem?_eq_some_iff.1 hg).1 (fun hS => by
          rcases hS with e | e
          · subst e; exact blk_ne hg hPr.sto.blk h62 rfl
          · obtain ⟨c1, h1⟩ := hPr.sto.pins.ty e
            exact blk_ne hg h1 h3 rfl)
        have hpb2 := (hnS pb _ 32 hPr.blk (by decide) (by decide)).trans hPr.blk
        have hpp2 : OwnC 3 1 w2 (sb + 1) (.slice op (ri PI).length cp) (ri PI) := hfr.own hPr.pin (fun g hg hS => by
          rcases hS with e | e
          · have := (hPr.pin.lt g hg).1; omega
          · exact hPr.dis g e hg)
        have c3 := (blk_cells hpb2 3).trans (show _ = some (Value.slice op (ri PI).length cp) from rfl)
        have c0 := (blk_cells hpb2 0).trans (show _ = some (Value.pointer (some ⟨sb, 0, none⟩)) from rfl)
        have hl6 : ((ri PI).length : Int) < 6 := by omega
        have hl7 : (ri PI).length ≤ 1000 := by omega
        have hB2 : sb + 1 ≤ w2.heap.size := by have := hfr.size; have := hPr.sto.lt; omega
        have hbw2 := Fr.below (unhide HBW) hfr (Nat.le_of_lt hPr.sto.lt) (fun k hS => by
          rcases hS with e | e
          · omega
          · have := (hPr.sto.pins.lt k e).1; omega)
        have HY := hide (And.intro hnS (And.intro hpb2 (And.intro hst2 (And.intro hd2 (And.intro hbw2 hfr.size)))))
        clear hnS hpb2 hst2 hd2 hbw2 hfr hPr q0 q1 q2 q3 hlr HPN c0
        go_wp2_with (at_builtin; refine ap_int rfl (.tmp 67) (.tmp 69) rfl _ (sb + 1) _ (ri PI) V rfl hpp2 rfl hl7 hB2 ?_)
        intro v5 w5 ho5 hg5 hd5
        obtain ⟨hnS, hpb2, hst2, hd2, hbw2, hz2⟩ := unhide HY
        have hPr := unhide HPR
        have hz5 : w2.heap.size + 1 ≤ w5.heap.size := by have := hg5.size; simpa using this
        have bk : ∀ q, q < w2.heap.size → (Value.slice op (ri PI).length cp).ownBlock ≠ some q → w5.heap[q]? = w2.heap[q]? := fun q hq hne => (hg5.block q (by simp; omega) (fun e => hne e.symm)).trans (Below.heap_alloc _ _ _ hq)
        have hppb : (Value.slice op (ri PI).length cp).ownBlock ≠ some pb := fun e => by
          obtain ⟨c1, h1⟩ := hpp2.ty e
          exact blk_ne h1 hpb2 (by decide) rfl
        have hppsb : (Value.slice op (ri PI).length cp).ownBlock ≠ some sb := fun e => by have := (hpp2.lt sb e).1; omega
        have hpb5 := (bk pb (by omega) hppb).trans hpb2
        have c5 := (blk_cells hpb5 3).trans (show _ = some (Value.slice op (ri PI).length cp) from rfl)
        have fz5 := frz_blk hpb5 3
        obtain ⟨o5, n5, k5, hv5⟩ : ∃ a b c, v5 = .slice a b c := by
          rcases ho5.2 with ⟨h, _⟩ | ⟨g, c, cur, h, _⟩
          · exact ⟨_, _, _, h⟩
          · exact ⟨_, _, _, h⟩
        subst hv5
        have bk6 : ∀ q, q < w2.heap.size → (Value.slice op (ri PI).length cp).ownBlock ≠ some q → q ≠ pb → (w5.setCell ⟨pb, 3, none⟩ (.slice o5 n5 k5)).heap[q]? = w2.heap[q]? := fun q hq h1 h2 => (Below.heap_setCell _ _ _ _ h2).trans (bk q hq h1)
        have hv5b : ∀ g, (Value.slice o5 n5 k5).ownBlock = some g → g ≠ pb := fun g hg e => by
          rcases hd5 with d | d
          · rw [d] at hg; exact hppb (by rw [← e]; exact hg)
          · have := d g hg; omega
        have hpvne : ∀ g, pv2.ownBlock = some g → (Value.slice op (ri PI).length cp).ownBlock ≠ some g := fun g hg e => by
          rcases hd2 with d | d
          · rw [d] at hg; exact hPr.dis g hg e
          · have := d g hg; have := (hPr.pin.lt g e).2; omega
        have HH : Hid (PiR pb sb keep n w (.returned (.bool true)) (w5.setCell ⟨pb, 3, none⟩ (.slice o5 n5 k5))) := by
          refine ⟨rfl, hbw2.trans ⟨hg5.os, hg5.tape, hg5.output, by simp only [World.setCell, Array.size_modify]; omega, fun q hq => bk6 q (by have := hst2.lt; omega) (fun e => by have := (hpp2.lt q e).1; omega) (by omega)⟩, _, .slice o5 n5 k5, sl, pv2, WV, FLs, LS, PI ++ [V], hPr.pinTo (blk_set hpb5 _) ⟨?_, ?_, ?_⟩ ?_ ?_ (by simp; omega) ?_⟩
          · exact (bk6 sb hst2.lt hppsb (by omega)).trans hst2.blk
          · exact hst2.own.same fun g hg => by
              obtain ⟨c1, h1⟩ := hst2.own.ty hg
              refine bk6 g (hst2.own.lt g hg).2 (fun e => ?_) (blk_ne h1 hpb2 (by decide))
              obtain ⟨c2, h2⟩ := hpp2.ty e
              exact blk_ne h1 h2 (by decide) rfl
          · exact hst2.pins.same fun g hg => by
              obtain ⟨c1, h1⟩ := hst2.pins.ty hg
              exact bk6 g (hst2.pins.lt g hg).2 (hpvne g hg) (blk_ne h1 hpb2 (by decide))
          · rw [ri_app]; exact OwnC.same ho5 fun g hg => Below.heap_setCell _ _ _ _ (hv5b g hg)
          · intro g hg e
            rcases hd5 with d | d
            · rw [d] at e; exact hpvne g hg e
            · have := d g e; have := (hst2.pins.lt g hg).2; omega
          · intro g c T hg h3 h32 h62
            have hg2 := hnS g c T hg h3 h62
            refine (bk6 g (by have := (Array.getElem?_eq_some_iff.1 hg).1; omega) (fun e => ?_) (blk_ne (hg2.trans hg) hpb2 h32)).trans hg2
            obtain ⟨c2, h2⟩ := hpp2.ty e
            exact blk_ne (hg2.trans hg) h2 h3 rfl
        clear hnS hpb2 hst2 hd2 hbw2 hPr bk bk6 hpb5 ho5 hg5 hd5 hv5b hpvne HY hpp2 c3
        go_wp2_with fail
        go_ret
        exact unhide HH
    · have HUN := hide (Unpin_any sb keep n sl pv LS PI V wc (unhide HPR).sto hp6)
      have HLR := hide hlr
      clear hdsl hlr
      go_wp2_with fail
      refine (unhide HUN).mono ?_
      rintro e w2 hU
      have hPr := unhide HPR
      have hpbl : pb < wc.heap.size := (Array.getElem?_eq_some_iff.1 hPr.blk).1
      obtain ⟨hnS, hbw2, hz2, hst2⟩ : (∀ (g : Nat) (c : Array Value) (T : TypeId), wc.heap[g]? = some (Obj.cells c T (0, 0)) → T ≠ 62 → w2.heap[g]? = wc.heap[g]?) ∧ Below sb w w2 ∧ wc.heap.size ≤ w2.heap.size ∧ ∃ pv2, StP w2 sb keep n sl pv2 LS (ri (PI.erase V)) := by
        rcases hU with ⟨hni, _, hb2⟩ | ⟨hin, _, hfr, pv2, hst, _⟩
        · refine ⟨fun g c T hg _ => hb2.block g (Array.getElem?_eq_some_iff.1 hg).1, (unhide HBW).trans (hb2.mono (Nat.le_of_lt hPr.sto.lt)), hb2.size, pv, ?_⟩
          rw [List.erase_of_not_mem hni]; exact hPr.sto.on hb2
        · exact ⟨fun g c T hg h62 => hfr.block g (Array.getElem?_eq_some_iff.1 hg).1 (fun e => by subst e; exact blk_ne hg hPr.sto.blk h62 rfl), Fr.below (unhide HBW) hfr (Nat.le_of_lt hPr.sto.lt) (fun k hS => by omega), hfr.size, pv2, hst⟩
      have hpb2 := (hnS pb _ 32 hPr.blk (by decide)).trans hPr.blk
      have hpp2 : OwnC 3 1 w2 (sb + 1) (.slice op (ri PI).length cp) (ri PI) := hPr.pin.same fun g hg => by
        obtain ⟨c1, h1⟩ := hPr.pin.ty hg
        exact hnS g c1 3 h1 (by decide)
      have HPD := hide (pinned_any pb _ _ _ _ (ri PI) V w2 hpb2 hpp2 (by rw [ri_len]; omega))
      rw [hc] at HPD
      have c3 := (blk_cells hpb2 3).trans (show _ = some (Value.slice op (ri PI).length cp) from rfl)
      obtain ⟨_, _, e1, hcI⟩ := hpp2.ints (by rw [ri_len]; omega)
      simp only [Value.slice.injEq, true_and] at e1
      obtain ⟨rfl, rfl⟩ := e1
      have HCI := hide hcI
      have hpb2l : pb < w2.heap.size := by omega
      have HY := hide (And.intro hnS (And.intro hpb2 (And.intro hst2 (And.intro hbw2 hpp2))))
      have hch2 : decide ((0 : Int) < (c : Nat)) = decide (V ∈ PI) := by rw [hch, hasP_ri]
      clear hnS hbw2 hst2 hpb2 hpp2 hPr hcI q0 q1 q2 q3 HUN
      rcases hU with ⟨hin, rfl, _⟩ | ⟨hin, rfl, _, _⟩
      · have hc0 : ¬ 0 < c := by have := hch2; rw [decide_eq_false hin] at this; simpa using this
        clear hch hch2
        go_wp2_with fail
        refine (unhide HPD).mono ?_
        rintro e w9 ⟨rfl, rfl⟩
        go_wp2_with fail
        go_loopw [12, 13, 14] (fun lv gv i wr => ∃ k : Nat, k ≤ (ri PI).length ∧ i = .int .i64 k ∧ Hid (gv = .bool true) ∧ OwnC 3 1 wr w2.heap.size lv (ri ((PI.take k).erase V)) ∧ Below w2.heap.size w2 wr) (fun _ _ i _ => (ri PI).length - (intOf i).toNat)
        case atStart => exact ⟨0, by omega, rfl, hide (by simp), by simpa [ri] using ownC_nil 3 1 w2 w2.heap.size, Below.refl _ _⟩
        case round =>
          obtain ⟨k, hk, rfl, hgv, ho, hb⟩ := hrel
          have hgv' := unhide hgv
          clear hgv
          have r3 := (hb.cell (p := ⟨pb, 3, none⟩) hpb2l).trans c3
          by_cases hlk : k < (ri PI).length
          · have hkn : (k : Int) < (ri PI).length := by omega
            have hkP : k < PI.length := by have := unhide HLR; omega
            obtain ⟨b, off, rfl, hbl, hc0⟩ := unhide HCI (by omega)
            have ck := (hb.cell (p := ⟨b, off + k, none⟩) hbl).trans (hc0 k hlk)
            rw [ri_gf hkP] at ck
            have HTE := hide (take_erase (v := V) hkP)
            have HMT := hide (mem_take_succ (v := V) hkP)
            have HMEM := hide (List.getElem_mem hkP)
            obtain ⟨X, hX⟩ : ∃ X, PI[k] = X := ⟨_, rfl⟩
            rw [hX] at ck HTE HMT HMEM
            have hsz : w2.heap.size ≤ wr.heap.size := hb.size
            have hL : (ri ((PI.take k).erase V)).length ≤ 1000 := by
              rw [ri_len]
              have := List.length_erase_le (a := V) (l := PI.take k)
              have h2 : (PI.take k).length ≤ k := by simp; omega
              omega
            have HBr := hide hb
            clear hc0 hb
            subst hgv'
            have hx : ¬ X = V := fun e => hin (by rw [← e]; exact unhide HMEM)
            have hin2 : V ∉ PI.take k := fun h => hin (List.mem_of_mem_take h)
            have her : (PI.take k).erase V = PI.take k := List.erase_of_not_mem hin2
            have HIN := hide hin
            have HLX : Hid ((PI.take (k + 1)).erase V = (PI.take k).erase V ++ [X]) := by show (PI.take (k + 1)).erase V = _; rw [unhide HTE, if_neg hin2, if_neg hx, her]
            clear hin hin2 her
            have HL : Hid ((PI.take (k + 1)).erase V = (PI.take k).erase V ++ [X]) := by show (PI.take (k + 1)).erase V = _; exact unhide HLX
            go_wp2_with (at_builtin; refine ap_int rfl (.tmp 111) (.tmp 119) rfl _ w2.heap.size _ (ri ((PI.take k).erase V)) X rfl ho rfl hL hsz ?_)
            intro v5 w5 ho5 hg5 hd5
            have hb5 := ((unhide HBr).alloc hsz (.cells #[.int .i64 X] 3)).grown hg5 (by simp; omega) (fun q hq => (ho.lt q hq).1)
            have HO5 := hide ho5
            clear ho5 hg5 hd5 ck r3 ho
            go_wp2_with fail
            go_roundw
            case rel => exact ⟨k + 1, by omega, by go_num, hide rfl, by rw [unhide HL, ri_app]; exact unhide HO5, hb5⟩
            case measure => simp [intOf]; omega
          · have hkn : k = (ri PI).length := by omega
            have htk : PI.take k = PI := List.take_of_length_le (by have := unhide HLR; omega)
            rw [htk] at ho
            subst hkn
            obtain ⟨hnS, hpb2, ⟨pv2, hst2⟩, hbw2, hpp2⟩ := unhide HY
            have hPr := unhide HPR
            have hpbr := (hb.block pb hpb2l).trans hpb2
            have fz := frz_blk hpbr 3
            obtain ⟨o5, n5, k5, hv5⟩ : ∃ a b c, u12 = .slice a b c := by
              rcases ho.2 with ⟨h, _⟩ | ⟨g, c, cur, h, _⟩
              · exact ⟨_, _, _, h⟩
              · exact ⟨_, _, _, h⟩
            subst hv5
            have bk6 : ∀ q, q < w2.heap.size → q ≠ pb → (wr.setCell ⟨pb, 3, none⟩ (.slice o5 n5 k5)).heap[q]? = w2.heap[q]? := fun q hq h2 => (Below.heap_setCell _ _ _ _ h2).trans (hb.block q hq)
            have hsbl := hst2.lt
            have hltsp' : sb < pb := hltsp
            have HH : Hid (PiR pb sb keep n w (.returned (.bool true)) (wr.setCell ⟨pb, 3, none⟩ (.slice o5 n5 k5))) := by
              refine ⟨rfl, hbw2.trans ⟨hb.os, hb.tape, hb.output, by have := hb.size; simpa [World.setCell] using this, fun q hq => bk6 q (by omega) (by omega)⟩, _, .slice o5 n5 k5, sl, pv2, WV, FLs, LS, PI.erase V, hPr.pinTo (blk_set hpbr _) ⟨?_, ?_, ?_⟩ ?_ ?_ (by have := List.length_erase_le (a := V) (l := PI); omega) ?_⟩
              · exact (bk6 sb hsbl (by omega)).trans hst2.blk
              · exact hst2.own.same fun g hg => by
                  obtain ⟨c1, h1⟩ := hst2.own.ty hg
                  exact bk6 g (hst2.own.lt g hg).2 (blk_ne h1 hpb2 (by decide))
              · exact hst2.pins.same fun g hg => by
                  obtain ⟨c1, h1⟩ := hst2.pins.ty hg
                  exact bk6 g (hst2.pins.lt g hg).2 (blk_ne h1 hpb2 (by decide))
              · exact (ho.same fun g hg => Below.heap_setCell _ _ _ _ (by have := (ho.lt g hg).1; simp; omega)).mono (by omega)
              · intro g hg e
                have h1 := (hst2.pins.lt g hg).2
                have h2 := (ho.lt g e).1
                omega
              · intro g c T hg h3 h32 h62
                have hg2 := hnS g c T hg h62
                exact (bk6 g (by have := (Array.getElem?_eq_some_iff.1 hg).1; omega) (blk_ne (hg2.trans hg) hpb2 h32)).trans hg2
            clear hnS hpb2 hst2 hbw2 hpp2 hPr bk6 hb ho HY
            go_wp2_with fail
            go_ret
            exact unhide HH
      · have hc0 : 0 < c := by have := hch2; rw [decide_eq_true hin] at this; simpa using this
        clear hch hch2
        go_wp2_with fail
        refine (unhide HPD).mono ?_
        rintro e w9 ⟨rfl, rfl⟩
        go_wp2_with fail
        go_loopw [12, 13, 14] (fun lv gv i wr => ∃ k : Nat, k ≤ (ri PI).length ∧ i = .int .i64 k ∧ Hid (gv = .bool (decide (V ∈ PI.take k))) ∧ OwnC 3 1 wr w2.heap.size lv (ri ((PI.take k).erase V)) ∧ Below w2.heap.size w2 wr) (fun _ _ i _ => (ri PI).length - (intOf i).toNat)
        case atStart => exact ⟨0, by omega, rfl, hide (by simp), by simpa [ri] using ownC_nil 3 1 w2 w2.heap.size, Below.refl _ _⟩
        case round =>
          obtain ⟨k, hk, rfl, hgv, ho, hb⟩ := hrel
          have hgv' := unhide hgv
          clear hgv
          have r3 := (hb.cell (p := ⟨pb, 3, none⟩) hpb2l).trans c3
          by_cases hlk : k < (ri PI).length
          · have hkn : (k : Int) < (ri PI).length := by omega
            have hkP : k < PI.length := by have := unhide HLR; omega
            obtain ⟨b, off, rfl, hbl, hc0⟩ := unhide HCI (by omega)
            have ck := (hb.cell (p := ⟨b, off + k, none⟩) hbl).trans (hc0 k hlk)
            rw [ri_gf hkP] at ck
            have HTE := hide (take_erase (v := V) hkP)
            have HMT := hide (mem_take_succ (v := V) hkP)
            have HMEM := hide (List.getElem_mem hkP)
            obtain ⟨X, hX⟩ : ∃ X, PI[k] = X := ⟨_, rfl⟩
            rw [hX] at ck HTE HMT HMEM
            have hsz : w2.heap.size ≤ wr.heap.size := hb.size
            have hL : (ri ((PI.take k).erase V)).length ≤ 1000 := by
              rw [ri_len]
              have := List.length_erase_le (a := V) (l := PI.take k)
              have h2 : (PI.take k).length ≤ k := by simp; omega
              omega
            have HBr := hide hb
            clear hc0 hb
            by_cases hin2 : V ∈ PI.take k
            · rw [decide_eq_true hin2] at hgv'
              subst hgv'
              have HD : Hid (decide (V ∈ PI.take (k + 1)) = true) := decide_eq_true ((unhide HMT).2 (Or.inl hin2))
              by_cases hx : X = V
              · subst hx
                have HL : Hid ((PI.take (k + 1)).erase X = (PI.take k).erase X ++ [X]) := by show (PI.take (k + 1)).erase X = _; rw [unhide HTE, if_pos hin2]
                go_wp2_with (at_builtin; refine ap_int rfl (.tmp 111) (.tmp 119) rfl _ w2.heap.size _ (ri ((PI.take k).erase X)) X rfl ho rfl hL hsz ?_)
                intro v5 w5 ho5 hg5 hd5
                have hb5 := ((unhide HBr).alloc hsz (.cells #[.int .i64 X] 3)).grown hg5 (by simp; omega) (fun q hq => (ho.lt q hq).1)
                have HO5 := hide ho5
                clear ho5 hg5 hd5 ck r3 ho
                go_wp2_with fail
                go_roundw
                case rel => exact ⟨k + 1, by omega, by go_num, hide (by rw [unhide HD]), by rw [unhide HL, ri_app]; exact unhide HO5, hb5⟩
                case measure => simp [intOf]; omega
              · have hdum := True.intro
                clear hdum
                have HL : Hid ((PI.take (k + 1)).erase V = (PI.take k).erase V ++ [X]) := by show (PI.take (k + 1)).erase V = _; rw [unhide HTE, if_pos hin2]
                go_wp2_with (at_builtin; refine ap_int rfl (.tmp 111) (.tmp 119) rfl _ w2.heap.size _ (ri ((PI.take k).erase V)) X rfl ho rfl hL hsz ?_)
                intro v5 w5 ho5 hg5 hd5
                have hb5 := ((unhide HBr).alloc hsz (.cells #[.int .i64 X] 3)).grown hg5 (by simp; omega) (fun q hq => (ho.lt q hq).1)
                have HO5 := hide ho5
                clear ho5 hg5 hd5 ck r3 ho
                go_wp2_with fail
                go_roundw
                case rel => exact ⟨k + 1, by omega, by go_num, hide (by rw [unhide HD]), by rw [unhide HL, ri_app]; exact unhide HO5, hb5⟩
                case measure => simp [intOf]; omega
            · rw [decide_eq_false hin2] at hgv'
              subst hgv'
              have her : (PI.take k).erase V = PI.take k := List.erase_of_not_mem hin2
              by_cases hx : X = V
              · have HD : Hid (decide (V ∈ PI.take (k + 1)) = true) := decide_eq_true ((unhide HMT).2 (Or.inr hx.symm))
                have HL : Hid ((PI.take (k + 1)).erase V = (PI.take k).erase V) := by show (PI.take (k + 1)).erase V = _; rw [unhide HTE, if_neg hin2, if_pos hx, her]
                have HO5 := hide ho
                subst hx
                clear ho her
                go_wp2_with fail
                go_roundw
                case rel => exact ⟨k + 1, by omega, by go_num, hide (by rw [unhide HD]), by rw [unhide HL]; exact unhide HO5, unhide HBr⟩
                case measure => simp [intOf]; omega
              · have HD : Hid (decide (V ∈ PI.take (k + 1)) = false) := decide_eq_false (fun h => by rcases (unhide HMT).1 h with h | h; exact hin2 h; exact hx h.symm)
                have HL : Hid ((PI.take (k + 1)).erase V = (PI.take k).erase V ++ [X]) := by show (PI.take (k + 1)).erase V = _; rw [unhide HTE, if_neg hin2, if_neg hx, her]
                clear her
                go_wp2_with (at_builtin; refine ap_int rfl (.tmp 111) (.tmp 119) rfl _ w2.heap.size _ (ri ((PI.take k).erase V)) X rfl ho rfl hL hsz ?_)
                intro v5 w5 ho5 hg5 hd5
                have hb5 := ((unhide HBr).alloc hsz (.cells #[.int .i64 X] 3)).grown hg5 (by simp; omega) (fun q hq => (ho.lt q hq).1)
                have HO5 := hide ho5
                clear ho5 hg5 hd5 ck r3 ho
                go_wp2_with fail
                go_roundw
                case rel => exact ⟨k + 1, by omega, by go_num, hide (by rw [unhide HD]), by rw [unhide HL, ri_app]; exact unhide HO5, hb5⟩
                case measure => simp [intOf]; omega
          · have hkn : k = (ri PI).length := by omega
            have htk : PI.take k = PI := List.take_of_length_le (by have := unhide HLR; omega)
            rw [htk] at ho
            subst hkn
            obtain ⟨hnS, hpb2, ⟨pv2, hst2⟩, hbw2, hpp2⟩ := unhide HY
            have hPr := unhide HPR
            have hpbr := (hb.block pb hpb2l).trans hpb2
            have fz := frz_blk hpbr 3
            obtain ⟨o5, n5, k5, hv5⟩ : ∃ a b c, u12 = .slice a b c := by
              rcases ho.2 with ⟨h, _⟩ | ⟨g, c, cur, h, _⟩
              · exact ⟨_, _, _, h⟩
              · exact ⟨_, _, _, h⟩
            subst hv5
            have bk6 : ∀ q, q < w2.heap.size → q ≠ pb → (wr.setCell ⟨pb, 3, none⟩ (.slice o5 n5 k5)).heap[q]? = w2.heap[q]? := fun q hq h2 => (Below.heap_setCell _ _ _ _ h2).trans (hb.block q hq)
            have hsbl := hst2.lt
            have hltsp' : sb < pb := hltsp
            have HH : Hid (PiR pb sb keep n w (.returned (.bool true)) (wr.setCell ⟨pb, 3, none⟩ (.slice o5 n5 k5))) := by
              refine ⟨rfl, hbw2.trans ⟨hb.os, hb.tape, hb.output, by have := hb.size; simpa [World.setCell] using this, fun q hq => bk6 q (by omega) (by omega)⟩, _, .slice o5 n5 k5, sl, pv2, WV, FLs, LS, PI.erase V, hPr.pinTo (blk_set hpbr _) ⟨?_, ?_, ?_⟩ ?_ ?_ (by have := List.length_erase_le (a := V) (l := PI); omega) ?_⟩
              · exact (bk6 sb hsbl (by omega)).trans hst2.blk
              · exact hst2.own.same fun g hg => by
                  obtain ⟨c1, h1⟩ := hst2.own.ty hg
                  exact bk6 g (hst2.own.lt g hg).2 (blk_ne h1 hpb2 (by decide))
              · exact hst2.pins.same fun g hg => by
                  obtain ⟨c1, h1⟩ := hst2.pins.ty hg
                  exact bk6 g (hst2.pins.lt g hg).2 (blk_ne h1 hpb2 (by decide))
              · exact (ho.same fun g hg => Below.heap_setCell _ _ _ _ (by have := (ho.lt g hg).1; simp; omega)).mono (by omega)
              · intro g hg e
                have h1 := (hst2.pins.lt g hg).2
                have h2 := (ho.lt g e).1
                omega
              · intro g c T hg h3 h32 h62
                have hg2 := hnS g c T hg h62
                exact (bk6 g (by have := (Array.getElem?_eq_some_iff.1 hg).1; omega) (blk_ne (hg2.trans hg) hpb2 h32)).trans hg2
            clear hnS hpb2 hst2 hbw2 hpp2 hPr bk6 hb ho HY
            go_wp2_with fail
            go_ret
            exact unhide HH
end Go.Proofs.Ytppcpbhnpdjfpab
