/-
  atlaskeep.alike, sameSet, all.
-/
import Derived.Test.YtppcpbhnpdjfpabKpC
namespace Go.Proofs.Ytppcpbhnpdjfpab
open Go.RowKit

set_option maxHeartbeats 1600000 in
theorem alike_eq (f : Nat → Int) (w : World) :
    Calls Try.prog 37 #[.agg (fc f), .agg (fc f)] w fun e w' => e = .returned (.bool true) ∧ Below w.heap.size w w' := by
  have c0 := fc_at f 0 (by decide)
  have c1 := fc_at f 1 (by decide)
  have c2 := fc_at f 2 (by decide)
  have c3 := fc_at f 3 (by decide)
  have c4 := fc_at f 4 (by decide)
  have c5 := fc_at f 5 (by decide)
  have c6 := fc_at f 6 (by decide)
  have c7 := fc_at f 7 (by decide)
  go_enter Try.func37, Try.ntmps37
  go_wp2
  clear c0 c1 c2 c3 c4 c5 c6 c7
  go_loopw [5] (fun i wr => ∃ k q : Nat, k ≤ 8 ∧ i = .int .i64 k ∧ wr = ((w.alloc (.cells (fc f) 54)).alloc (.cells (fc f) 54)).drewN q) (fun i _ => 8 - (intOf i).toNat)
  case atStart => exact ⟨0, 0, by omega, rfl, rfl⟩
  case round =>
    obtain ⟨k, q, hk, rfl, rfl⟩ := hrel
    by_cases hlt : k < 8
    · have cx := fc_at f (8 + k) (by omega)
      have cy := fc_at f (16 + k) (by omega)
      have hk8 : (k : Int) < 8 := by omega
      have b1 : (f (8 + k) != f (8 + k)) = false := by simp
      go_wp2
      go_quiet (fail)
      go_wp2
      go_roundw
      case rel => exact ⟨k + 1, _, by omega, by go_num, rfl⟩
      case measure => simp [intOf]; omega
    · go_wp2
      go_ret
      refine ⟨rfl, ?_⟩
      repeat first | exact Below.refl _ _ | refine below_drewN ?_ _ | refine Below.drew ?_ | refine below_alloc ?_ (Nat.le_refl _) _
theorem alike_sf {a b : Nat → Int} (h : SF a b) (w : World) : Calls Try.prog 37 #[.agg (fc a), .agg (fc b)] w fun e w' => e = .returned (.bool true) ∧ Below w.heap.size w w' := by
  rw [show fc b = fc a from cc_ext fun i hi => (h i hi).symm]
  exact alike_eq a w

set_option maxHeartbeats 3200000 in
theorem sameSet_any (va vb : Value) (O FL : List (Nat → Int)) (w : World) (ha : CsAt 24 w va O.length (gf O)) (hb : CsAt 24 w vb FL.length (gf FL)) (hl : O.length = FL.length) (hl40 : FL.length ≤ 40) (hm : ∀ i, i < O.length → ∃ j, j < FL.length ∧ SF (gf O i) (gf FL j))
    (hd : ∀ j j', j < FL.length → j' < FL.length → gf FL j 0 = gf FL j' 0 → j = j') :
    Calls Try.prog 25 #[va, vb] w fun e w' => e = .returned (.bool true) ∧ Below w.heap.size w w' := by
  have HVB := hide hb
  obtain ⟨oa, ca, rfl, _, hna⟩ := ha
  obtain ⟨ob, cb, rfl, _, hnb⟩ := hb
  have HA := hide hna
  have HB := hide hnb
  have HM := hide hm
  have HD := hide hd
  have hli : (O.length : Int) = FL.length := by omega
  have HLI := hide hl
  obtain ⟨n, hn⟩ : ∃ n, O.length = n := ⟨_, rfl⟩
  have hn' : FL.length = n := by omega
  rw [hn'] at HVB
  simp only [hn, hn']
  clear hna hnb hm hd hli hl
  go_enter Try.func25, Try.ntmps25
  go_wp2_with fail
  go_loopw [5, 6, 7] (fun i _ _ wr => ∃ k : Nat, k ≤ n ∧ i = .int .i64 k ∧ Below w.heap.size w wr) (fun i _ _ _ => n - (intOf i).toNat)
  case atStart => exact ⟨0, by omega, rfl, Below.refl _ _⟩
  case round =>
    obtain ⟨k, hk, rfl, hbr⟩ := hrel
    by_cases hlt : k < n
    · obtain ⟨ba, fa, rfl, hla, hca⟩ := unhide HA (by omega)
      obtain ⟨bb, fb, rfl, hlb, hcb⟩ := unhide HB (by omega)
      have hkn : (k : Int) < n := by omega
      have c0 := (hbr.cell (p := ⟨ba, fa + k * 24 + 0, none⟩) hla).trans (hca k (by omega) 0 (by omega))
      simp only [Nat.add_zero] at c0
      have HHA := hide (has_any _ n (gf FL) (gf O k 0) wr ((unhide HVB).on hbr))
      have R1 : Hid (∀ w', Below wr.heap.size wr w' → w'.rangeAt ba (fa + k * 24) (fc (gf O k)).toList) := fun w' h => fs_rng (fun i hi j hj => ((hbr.trans (h.mono hbr.size)).cell (p := ⟨ba, fa + i * 24 + j, none⟩) hla).trans (hca i hi j hj)) (by omega)
      have R2 : Hid (∀ w', Below wr.heap.size wr w' → ∀ m, m < n → w'.rangeAt bb (fb + m * 24) (fc (gf FL m)).toList) := fun w' h m hm => fs_rng (fun i hi j hj => ((hbr.trans (h.mono hbr.size)).cell (p := ⟨bb, fb + i * 24 + j, none⟩) hlb).trans (hcb i hi j hj)) (by omega)
      obtain ⟨Id, hId⟩ : ∃ I, gf O k 0 = I := ⟨_, rfl⟩
      rw [hId] at c0 HHA
      have HBr := hide hbr
      clear hca hcb hbr
      go_wp2_with fail
      refine (unhide HHA).mono ?_
      rintro e w9 ⟨⟨r, rfl, hr⟩, rfl⟩
      obtain ⟨m, rfl, hmn, hsf⟩ : ∃ m : Nat, r = m ∧ m < n ∧ SF (gf O k) (gf FL m) := by
        obtain ⟨j, hj, hs⟩ := unhide HM k (by omega)
        rcases hr with ⟨_, hno⟩ | ⟨m, rfl, h1, h2, _⟩
        · exact absurd ((hs 0 (by omega)).symm.trans hId) (hno j (by omega))
        · refine ⟨m, rfl, h1, ?_⟩
          have : m = j := unhide HD m j (by omega) hj (h2.trans (hId.symm.trans (hs 0 (by omega))))
          rw [this]; exact hs
      have hmi : (m : Int) < n := by omega
      have S1 := fun W => alike_sf hsf W
      clear hr HHA c0
      go_wp2
      refine region_bq (by kernel_rfl) (by kernel_rfl) ?_
      refine q_move rfl _ rfl (.slice (some ⟨ba, fa, none⟩) n ca) rfl ?_
      simp only [Act.put, List.setIfInBounds_toArray, List.set_cons_succ, List.set_cons_zero]
      refine q_move rfl _ rfl (.int .i64 k) rfl ?_
      simp only [Act.put, List.setIfInBounds_toArray, List.set_cons_succ, List.set_cons_zero]
      refine q_val rfl (.pointer (some ⟨ba, fa + k * 24, none⟩)) (fun _ _ => by simp [go_sem, hkn]) ?_
      simp only [Act.put, List.setIfInBounds_toArray, List.set_cons_succ, List.set_cons_zero]
      refine q_load rfl 54 _ rfl ba (fa + k * 24) rfl (fc (gf O k)) _ Try.underlying54 rfl (szf _) (unhide R1) ?_
      simp only [Act.put, List.setIfInBounds_toArray, List.set_cons_succ, List.set_cons_zero]
      refine q_move rfl _ rfl (.slice (some ⟨bb, fb, none⟩) n cb) rfl ?_
      simp only [Act.put, List.setIfInBounds_toArray, List.set_cons_succ, List.set_cons_zero]
      refine q_move rfl _ rfl (.int .i64 m) rfl ?_
      simp only [Act.put, List.setIfInBounds_toArray, List.set_cons_succ, List.set_cons_zero]
      refine q_val rfl (.pointer (some ⟨bb, fb + m * 24, none⟩)) (fun _ _ => by simp [go_sem, hmi]) ?_
      simp only [Act.put, List.setIfInBounds_toArray, List.set_cons_succ, List.set_cons_zero]
      refine q_load rfl 54 _ rfl bb (fb + m * 24) rfl (fc (gf FL m)) _ Try.underlying54 rfl (szf _) (fun w' h => unhide R2 w' h m hmn) ?_
      simp only [Act.put, List.setIfInBounds_toArray, List.set_cons_succ, List.set_cons_zero]
      refine q_call rfl 37 #[.agg (fc (gf O k)), .agg (fc (gf FL m))] (fun _ => by simp [go_sem]) _ S1 ?_
      simp only [Act.put, List.setIfInBounds_toArray, List.set_cons_succ, List.set_cons_zero]
      refine q_assign rfl _ rfl (.bool true) rfl ?_
      simp only [Act.put, List.setIfInBounds_toArray, List.set_cons_succ, List.set_cons_zero]
      refine wpQuiet_nil ?_
      intro w2 hw2
      have hb2 := hide ((unhide HBr).trans (hw2.mono (unhide HBr).size))
      clear hw2
      go_wp2_with fail
      go_roundw
      case rel => exact ⟨k + 1, by omega, by go_num, unhide hb2⟩
      case measure => simp [intOf]; omega
    · have hkn : k = n := by omega
      subst hkn
      go_wp2_with fail
      go_ret
      exact ⟨rfl, hbr⟩

set_option maxRecDepth 10000 in
set_option maxHeartbeats 6400000 in
theorem all_any (sb : Nat) (keep ver : Int) (sl pv : Value) (LS PL FL : List (Nat → Int)) (v : Int) (n : Nat) (w : World) (hs : StP w sb keep ver sl pv LS PL) (hl : LS.length ≤ 1000) (hp : PL.length ≤ 100) (hk : 0 ≤ keep ∧ keep ≤ 4) (hv : 0 ≤ ver ∧ ver ≤ 100) (hh : heldB keep ver PL v = true)
    (hR : RelV v LS FL) (hn : 1 ≤ n ∧ n ≤ 8) :
    Calls Try.prog 24 #[.pointer (some ⟨sb, 0, none⟩), .int .i64 v, .int .i64 n] w fun e w' => (∃ O ov, e = .returned (.tuple #[ov, .bool true]) ∧ OwnC 54 24 w' w.heap.size ov O ∧ O.length = FL.length ∧ ∀ i, i < O.length → ∃ j, j < FL.length ∧ SF (gf O i) (gf FL j)) ∧ Below w.heap.size w w' := by
  have HS := hide hs
  have HR := hide hR
  have hle40 := hR.le40
  clear hs hR
  go_enter Try.func24, Try.ntmps24
  go_wp2_with fail
  go_loopw [8, 9, 10, 11, 12, 13] (fun ov av i _ _ _ wr => ∃ (t : Nat) (A : Int) (O : List (Nat → Int)), i = .int .i64 t ∧ av = .int .i64 A ∧ t ≤ O.length ∧ O.length ≤ 40 ∧ Hid (O.length = cle FL A FL.length) ∧ Hid (∀ i, i < O.length → ∃ j, j < FL.length ∧ SF (gf O i) (gf FL j)) ∧ OwnC 54 24 wr w.heap.size ov O ∧ Below w.heap.size w wr) (fun _ _ i _ _ _ _ => 41 - (intOf i).toNat)
  case atStart => exact ⟨0, 0, [], rfl, rfl, by simp, by simp, hide (by rw [cle_none FL.length (fun j hj => by have := ((unhide HR).rt j hj).id; omega)]; rfl), hide (fun i hi => by simp at hi), ownC_nil _ _ _ _, Below.refl _ _⟩
  case round =>
    obtain ⟨t, A, O, rfl, rfl, htO, hO40, hcl, hmem, ho, hb⟩ := hrel
    have ht40 : (t : Int) ≤ 40 := by omega
    have HRD := hide (Read_any sb keep ver sl pv LS PL FL v A n wr ((unhide HS).on hb) hl hp hk hv hh (unhide HR) hn)
    have HO := hide ho
    have HBr := hide hb
    clear ho hb
    go_wp2_with fail
    refine (unhide HRD).mono ?_
    rintro e w2 ⟨⟨R, rv, rfl, hoR, hRd, hRn, hend⟩, hb2⟩
    have hRi : ¬ n < R.length := by omega
    have hRi' : decide (n < R.length) = false := decide_eq_false hRi
    have hoO := (unhide HO).on hb2
    have hbw := (unhide HBr).trans (hb2.mono (unhide HBr).size)
    have hz : w.heap.size ≤ wr.heap.size := (unhide HBr).size
    have HDJ : Hid (∀ g, u8.ownBlock = some g → rv.ownBlock ≠ some g) := fun g hg e => by
      have h1 := ((unhide HO).lt g hg).2
      have h2 := (hoR.lt g e).1
      omega
    have HOO := hide hoO
    have HOR := hide (hoR.mono hz)
    have HBW := hide hbw
    have HRd := hide hRd
    have HEND := hide hend
    obtain ⟨oR, cR, hrv⟩ : ∃ oR cR, rv = .slice oR R.length cR := by
      rcases hoR.2 with ⟨h, h0⟩ | ⟨g, c, cur, h, _⟩
      · exact ⟨none, 0, by rw [h0]; exact h⟩
      · exact ⟨_, _, h⟩
    subst hrv
    clear hb2 hoO hbw hoR hRd hend HRD
    go_wp2_with fail
    go_loopw [8, 9, 13] (fun cv av j wx => ∃ q : Nat, q ≤ R.length ∧ j = .int .i64 q ∧ Hid (av = .int .i64 (pid A R q)) ∧ OwnC 54 24 wx w.heap.size cv (O ++ R.take q) ∧ OwnC 54 24 wx w.heap.size (.slice oR R.length cR) R ∧ Hid (∀ g, cv.ownBlock = some g → (Value.slice oR R.length cR).ownBlock ≠ some g) ∧ Below w.heap.size w wx) (fun _ _ j _ => R.length - (intOf j).toNat)
    case atStart => exact ⟨0, by omega, rfl, hide rfl, by simpa using unhide HOO, unhide HOR, HDJ, unhide HBW⟩
    case round =>
      obtain ⟨q, hq, rfl, hav, ho, hoR, hdj, hb⟩ := hrel
      obtain ⟨P, hP⟩ : ∃ P, pid A R q = P := ⟨_, rfl⟩
      have hav' := unhide hav
      rw [hP] at hav'
      subst hav'
      clear hav
      by_cases hlt : q < R.length
      · have hqn : (q : Int) < R.length := by omega
        obtain ⟨_, _, e, _, hcR⟩ := hoR.at (by unfold maxLen; omega)
        simp only [Value.slice.injEq, true_and] at e
        obtain ⟨rfl, rfl⟩ := e
        obtain ⟨b, off, rfl, hbl, hc0⟩ := hcR (by omega)
        have c0 := hc0 q hlt 0 (by omega)
        simp only [Nat.add_zero] at c0
        have hrg := fs_rng hc0 hlt
        have hris := (unhide HRd).ris q hlt
        rw [hP] at hris
        obtain ⟨Id, hId⟩ : ∃ I, gf R q 0 = I := ⟨_, rfl⟩
        rw [hId] at c0 hris
        have hris' : ¬ Id ≤ P := by omega
        have hszx := hb.size
        have hlen : (O ++ R.take q).length ≤ 1000 := by simp; omega
        have HOR2 := hide hoR
        have HBX := hide hb
        clear hc0 hcR hoR hb
        go_wp2_with (first | refine ldm26 rfl _ rfl b (off + q * 24) rfl (gf R q) hrg ?_ | refine bs34 rfl _ rfl (gf R q) rfl _ rfl ?_ | (at_builtin; refine ap_feat rfl (.tmp 52) (.tmp 57) rfl _ w.heap.size _ (O ++ R.take q) (gf R q) rfl ho rfl hlen hszx ?_))
        intro v5 w5 ho5 hg5 hd5
        have hR5 := ((unhide HOR2).alloc (.cells (fc (gf R q)) 54)).kept hg5 (fun g hg e => unhide hdj g e hg)
        have hb5 := ((unhide HBX).alloc hszx (.cells (fc (gf R q)) 54)).grown hg5 (by simp; omega) (fun k hk => (World.ownsRow.lt ho k hk).1)
        have hd5' : ∀ g, v5.ownBlock = some g → (Value.slice (some ⟨b, off, none⟩) R.length cR).ownBlock ≠ some g := fun g hg e => by
          rcases hd5 with d | d
          · rw [d] at hg; exact unhide hdj g hg e
          · have h1 := d g hg
            have h2 := ((unhide HOR2).lt g e).2
            omega
        have htk : O ++ (R.take q ++ [gf R q]) = O ++ R.take (q + 1) := by
          congr 1
          rw [List.take_add_one]; congr 1
          unfold gf; rw [List.getElem?_eq_getElem hlt]; rfl
        have ho5 : OwnF w5 w.heap.size v5 (O ++ R.take (q + 1)) := by rw [← htk]; simpa using ho5
        have HO5 := hide (And.intro ho5 (And.intro hR5 (And.intro hd5' hb5)))
        clear ho5 hR5 hd5' hb5 hg5 hd5 htk hrg c0
        go_wp2_with fail
        go_roundw
        case rel => exact ⟨q + 1, by omega, by go_num, hide (by show _ = Value.int .i64 (gf R q 0); rw [hId]), (unhide HO5).1, (unhide HO5).2.1, (unhide HO5).2.2.1, (unhide HO5).2.2.2⟩
        case measure => simp [intOf]; omega
      · have hqn : q = R.length := by omega
        subst hqn
        rw [List.take_length] at ho
        have hcl2 : (O ++ R).length = cle FL P FL.length := by rw [List.length_append, ← hP, (unhide HRd).cnt, unhide hcl]
        have hmem2 : ∀ i, i < (O ++ R).length → ∃ j, j < FL.length ∧ SF (gf (O ++ R) i) (gf FL j) := by
          intro i hi
          by_cases c : i < O.length
          · obtain ⟨j, hj, hs⟩ := unhide hmem i c
            exact ⟨j, hj, by unfold gf at hs ⊢; rw [List.getElem?_append_left c]; exact hs⟩
          · obtain ⟨j, hj, hs⟩ := (unhide HRd).mem (i - O.length) (by simp at hi; omega)
            exact ⟨j, hj, by unfold gf at hs ⊢; rw [List.getElem?_append_right (by omega)]; exact hs⟩
        have HCL := hide hcl2
        have HMEM := hide hmem2
        have hcle := cle_le FL P FL.length
        clear hcl2 hmem2 hoR
        by_cases hfull : R.length = n
        · have hf : ¬ (R.length : Int) < n := by omega
          have hl40 : (O ++ R).length ≤ 40 := by rw [unhide HCL]; omega
          have hl41 : t + 1 ≤ (O ++ R).length := by simp; omega
          have HO9 := hide ho
          have HB9 := hide hb
          clear ho hb hfull
          go_wp2_with fail
          go_roundw
          case rel => exact ⟨t + 1, P, O ++ R, by go_num, rfl, hl41, hl40, HCL, HMEM, unhide HO9, unhide HB9⟩
          case measure => simp [intOf]; omega
        · have hf : (R.length : Int) < n := by omega
          have hfin : (O ++ R).length = FL.length := by
            rcases unhide HEND with h | h
            · exact absurd h hfull
            · rw [unhide HCL, ← hP]; exact h
          have HFIN := hide hfin
          clear hfin
          go_wp2_with fail
          go_ret2
          exact ⟨⟨O ++ R, _, rfl, ho, unhide HFIN, unhide HMEM⟩, hb⟩
end Go.Proofs.Ytppcpbhnpdjfpab
