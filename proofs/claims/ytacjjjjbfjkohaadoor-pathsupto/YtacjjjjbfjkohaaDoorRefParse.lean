/-
  atlasref.Parse: what it answers.
-/
import Derived.Test.YtacjjjjbfjkohaaDoorParseB
namespace Go.Proofs.YtacjjjjbfjkohaaDoor
open Go.RowKit

/-- What is known of the world while the names are tried: the two keys of noughts that the call has laid. -/
structure RB (w W : World) : Prop where
  r0 : W.cell? ⟨w.heap.size, 0, none⟩ = some (.int .i64 0)
  r1 : W.cell? ⟨w.heap.size, 1, none⟩ = some (.int .i64 0)
  r2 : W.cell? ⟨w.heap.size, 2, none⟩ = some (.int .i64 0)
  r3 : W.cell? ⟨w.heap.size, 3, none⟩ = some (.int .i64 0)
  o0 : W.cell? ⟨w.heap.size + 1, 0, none⟩ = some (.int .i64 0)
  o1 : W.cell? ⟨w.heap.size + 1, 1, none⟩ = some (.int .i64 0)
  o2 : W.cell? ⟨w.heap.size + 1, 2, none⟩ = some (.int .i64 0)
  o3 : W.cell? ⟨w.heap.size + 1, 3, none⟩ = some (.int .i64 0)
  f0 : W.frozen? ⟨w.heap.size, 0, none⟩ = false
  f1 : W.frozen? ⟨w.heap.size, 1, none⟩ = false
  f2 : W.frozen? ⟨w.heap.size, 2, none⟩ = false
  f3 : W.frozen? ⟨w.heap.size, 3, none⟩ = false
  wl : w.heap.size + 1 < W.heap.size
  bel : Below w.heap.size w W

theorem RB.on {w W W' : World} (h : RB w W) (hb : Below W.heap.size W W') : RB w W' := by
  have hs := hb.size
  have hw := h.wl
  have l0 : w.heap.size < W.heap.size := by omega
  exact ⟨(hb.cell (p := ⟨w.heap.size, 0, none⟩) l0).trans h.r0, (hb.cell (p := ⟨w.heap.size, 1, none⟩) l0).trans h.r1, (hb.cell (p := ⟨w.heap.size, 2, none⟩) l0).trans h.r2, (hb.cell (p := ⟨w.heap.size, 3, none⟩) l0).trans h.r3,
    (hb.cell (p := ⟨w.heap.size + 1, 0, none⟩) hw).trans h.o0, (hb.cell (p := ⟨w.heap.size + 1, 1, none⟩) hw).trans h.o1, (hb.cell (p := ⟨w.heap.size + 1, 2, none⟩) hw).trans h.o2, (hb.cell (p := ⟨w.heap.size + 1, 3, none⟩) hw).trans h.o3,
    (hb.frozen (p := ⟨w.heap.size, 0, none⟩) l0).trans h.f0, (hb.frozen (p := ⟨w.heap.size, 1, none⟩) l0).trans h.f1, (hb.frozen (p := ⟨w.heap.size, 2, none⟩) l0).trans h.f2, (hb.frozen (p := ⟨w.heap.size, 3, none⟩) l0).trans h.f3,
    by omega, h.bel.trans (hb.mono (by omega))⟩
theorem RB.start (w : World) : RB w ((w.alloc (.cells #[.int .i64 0, .int .i64 0, .int .i64 0, .int .i64 0] 23)).alloc (.cells #[.int .i64 0, .int .i64 0, .int .i64 0, .int .i64 0] 23)) := by
  refine ⟨?_, ?_, ?_, ?_, ?_, ?_, ?_, ?_, ?_, ?_, ?_, ?_, ?_, ?_⟩
  all_goals first
    | exact ((Below.refl _ _).alloc (Nat.le_refl _) _).alloc (by simp) _
    | simp [go_sem]

theorem name_0 (w : World) : Calls Tryd.prog 19 #[.int .i64 0] w fun e w' => e = .returned (.string ⟨#[108, 97, 110, 100]⟩) ∧ Below w.heap.size w w' := name_any 0 (by omega) w
theorem name_1 (w : World) : Calls Tryd.prog 19 #[.int .i64 1] w fun e w' => e = .returned (.string ⟨#[119, 97, 116, 101, 114]⟩) ∧ Below w.heap.size w w' := name_any 1 (by omega) w
theorem name_2 (w : World) : Calls Tryd.prog 19 #[.int .i64 2] w fun e w' => e = .returned (.string ⟨#[114, 111, 97, 100]⟩) ∧ Below w.heap.size w w' := name_any 2 (by omega) w
theorem name_3 (w : World) : Calls Tryd.prog 19 #[.int .i64 3] w fun e w' => e = .returned (.string ⟨#[109, 97, 114, 107]⟩) ∧ Below w.heap.size w w' := name_any 3 (by omega) w

theorem ref_none1 (p : List UInt8) (h : p.length < 5 ∨ p.drop (p.length - 5) ≠ Pp.dotTile) : Pp.splitL p = none := by
  rw [← Pp.refL_eq]; unfold Pp.refL; rw [if_pos h]
theorem ref_case (p : List UInt8) (pcs : List (List UInt8)) (h : ¬ (p.length < 5 ∨ p.drop (p.length - 5) ≠ Pp.dotTile)) (hp : pcs = Pp.pieces (p.take (p.length - 5))) :
    Pp.splitL p = if Pp.refOk pcs = true then some (pcs.getD 1 [], pcs.getD 2 [], pcs.getD 3 [], pcs.getD 4 []) else none := by
  rw [← Pp.refL_eq, hp]; unfold Pp.refL; rw [if_neg h]
theorem ok5 (a n z x y : List UInt8) : Pp.refOk [a, n, z, x, y] = (decide (a = []) && (Pp.nameB n && (Pp.numB z && (Pp.numB x && Pp.numB y)))) := by
  simp [Pp.refOk]

set_option maxHeartbeats 1600000 in
theorem refParse_short (s : ByteArray) (w : World) (hs : s.size ≤ 1048576) (h : s.size < 5 ∨ ¬ s.data.toList.drop (s.size - 5) = Pp.dotTile) :
    Calls Tryd.prog 7 #[.string s] w fun e w' => (∃ l z x y er : Int, parseL s.data.toList = ((l, z, x, y), er) ∧ e = .returned (.tuple #[.agg #[.int .i64 l, .int .i64 z, .int .i64 x, .int .i64 y], .int .i64 er])) ∧ Below w.heap.size w w' := by
  have hP := hide (parseL_none _ (ref_none1 s.data.toList (by rw [len_size]; exact h)))
  by_cases h5 : s.size < 5
  · clear h
    go_enter Tryd.func7, Tryd.ntmps7
    go_wp2_with fail
    refine bodyPost_ret (v := .tuple #[.agg #[.int .i64 0, .int .i64 0, .int .i64 0, .int .i64 0], .int .i64 1]) (by simp [results, Tryd.results7, go_sem]) rfl ⟨⟨0, 0, 0, 0, 1, unhide hP, rfl⟩, ?_⟩
    exact ((Below.refl _ _).alloc (Nat.le_refl _) _).alloc (by simp) _
  · have hd : ¬ s.data.toList.drop (s.size - 5) = Pp.dotTile := h.resolve_left h5
    have hsuf : ((s.extract (s.size - 5) s.size).toList == [46, 116, 105, 108, 101]) = false := by
      rw [beq_eq_false_iff_ne, ByteArray.toList_eq, cut_hi]; exact hd
    clear h hd
    go_enter Tryd.func7, Tryd.ntmps7
    go_wp2_with fail
    refine bodyPost_ret (v := .tuple #[.agg #[.int .i64 0, .int .i64 0, .int .i64 0, .int .i64 0], .int .i64 1]) (by simp [results, Tryd.results7, go_sem]) rfl ⟨⟨0, 0, 0, 0, 1, unhide hP, rfl⟩, ?_⟩
    exact ((Below.refl _ _).alloc (Nat.le_refl _) _).alloc (by simp) _

/-- A slice that holds something begins somewhere. -/
theorem ownS_some {W : World} {B : Nat} {v : Value} {l : List ByteArray} (h : OwnS W B v l) (hl : 0 < l.length) : ∃ g cap, v = .slice (some ⟨g, 0, none⟩) l.length cap ∧ g < W.heap.size ∧ ∀ j (hj : j < l.length), W.cell? ⟨g, j, none⟩ = some (.string l[j]) := by
  have h0 := h
  rcases h.2 with ⟨_, hn⟩ | ⟨g, cap, cur, rfl, _, hg, _, _, _, _⟩
  · omega
  · refine ⟨g, cap, rfl, ?_, ?_⟩
    · exact (Array.getElem?_eq_some_iff.1 hg).1
    · intro j hj
      rw [World.ownsRow.cellAt h0 j (by omega)]
      simp [hj]

set_option maxHeartbeats 6400000 in
theorem refParse_form (s : ByteArray) (w : World) (hs : s.size ≤ 1048576) (h5 : 5 ≤ s.size) (hd : s.data.toList.drop (s.size - 5) = Pp.dotTile) :
    Calls Tryd.prog 7 #[.string s] w fun e w' => (∃ l z x y er : Int, parseL s.data.toList = ((l, z, x, y), er) ∧ e = .returned (.tuple #[.agg #[.int .i64 l, .int .i64 z, .int .i64 x, .int .i64 y], .int .i64 er])) ∧ Below w.heap.size w w' := by
  have hsuf : ((s.extract (s.size - 5) s.size).toList == [46, 116, 105, 108, 101]) = true := by
    rw [ByteArray.toList_eq, cut_hi, hd]; rfl
  have hcase : ∀ pcs, pcs = Pp.pieces (s.data.toList.take (s.size - 5)) → Pp.splitL s.data.toList = if Pp.refOk pcs = true then some (pcs.getD 1 [], pcs.getD 2 [], pcs.getD 3 [], pcs.getD 4 []) else none :=
    fun pcs hp => ref_case s.data.toList pcs (by rw [len_size]; intro e; rcases e with e | e; omega; exact e hd) (by rw [len_size]; exact hp)
  have HC := hide hcase
  clear hcase hd
  have hex : (s.extract 0 (s.size - 5)).size ≤ 1048576 := by simp; omega
  go_enter Tryd.func7, Tryd.ntmps7
  go_wp2_with fail
  refine (parts_any _ _ hex).mono ?_
  rintro e w1 ⟨v, l, rfl, hown, hpcs, hsz, hb⟩
  rw [cut_lo] at hpcs
  have hsp := hide (unhide HC _ hpcs)
  have hne : 0 < l.length := by
    have e := congrArg List.length hpcs
    rw [List.length_map] at e
    have := Pp.pieces_ne (s.data.toList.take (s.size - 5))
    have h2 : 0 < (Pp.pieces (s.data.toList.take (s.size - 5))).length := List.length_pos_iff.2 this
    omega
  obtain ⟨g, cap, rfl, hg, hcell⟩ := ownS_some hown hne
  have HSZ := hide hsz
  clear HC hpcs hown hsz hex
  have hI := (RB.start w).on hb
  clear hb
  by_cases hl5 : l.length = 5
  · match l, hl5 with
    | [A, N, Z, X, Y], _ =>
      have c0 : w1.cell? ⟨g, 0, none⟩ = some (.string A) := hcell 0 (by simp)
      have c1 : w1.cell? ⟨g, 1, none⟩ = some (.string N) := hcell 1 (by simp)
      have c2 : w1.cell? ⟨g, 2, none⟩ = some (.string Z) := hcell 2 (by simp)
      have c3 : w1.cell? ⟨g, 3, none⟩ = some (.string X) := hcell 3 (by simp)
      have c4 : w1.cell? ⟨g, 4, none⟩ = some (.string Y) := hcell 4 (by simp)
      have sN : N.size ≤ maxLen := unhide HSZ N (by simp)
      have sZ : Z.size ≤ maxLen := unhide HSZ Z (by simp)
      have sX : X.size ≤ maxLen := unhide HSZ X (by simp)
      have sY : Y.size ≤ maxLen := unhide HSZ Y (by simp)
      have hsp' : Hid (Pp.splitL s.data.toList = if (decide (A.data.toList = []) && (Pp.nameB N.data.toList && (Pp.numB Z.data.toList && (Pp.numB X.data.toList && Pp.numB Y.data.toList)))) = true then some (N.data.toList, Z.data.toList, X.data.toList, Y.data.toList) else none) := by
        have := unhide hsp
        simp only [List.map_cons, List.map_nil, ok5] at this
        exact this
      clear hsp hcell HSZ hne
      have hAl : A.toList.isEmpty = A.data.toList.isEmpty := empty_of A _ rfl
      have HI := hide hI
      obtain ⟨r0, r1, r2, r3, o0, o1, o2, o3, f0, f1, f2, f3, wl, bel⟩ := hI
      have HBw := hide bel
      clear bel
      cases hA : A.data.toList.isEmpty with
      | false =>
        rw [hA] at hAl
        have hP : Hid (parseL s.data.toList = ((0, 0, 0, 0), 1)) := by
          refine hide (parseL_none _ ?_)
          rw [unhide hsp', if_neg]
          have : ¬ A.data.toList = [] := fun e => by rw [e] at hA; cases hA
          simp [this]
        clear hsp' hA
        go_wp2_with fail
        refine bodyPost_ret (v := .tuple #[.agg #[.int .i64 0, .int .i64 0, .int .i64 0, .int .i64 0], .int .i64 1]) (by simp [results, Tryd.results7, go_sem, r0, r1, r2, r3]) rfl ⟨⟨0, 0, 0, 0, 1, unhide hP, rfl⟩, ?_⟩
        exact ((((unhide HBw).setCell (Nat.le_refl _) _).setCell (Nat.le_refl _) _).setCell (Nat.le_refl _) _).setCell (Nat.le_refl _) _
      | true =>
        rw [hA] at hAl
        have hA0 : A.data.toList = [] := List.isEmpty_iff.1 hA
        rw [hA0] at hsp'
        clear hA hA0
        cases hn : Pp.nameB N.data.toList with
        | false =>
          have hP : Hid (parseL s.data.toList = ((0, 0, 0, 0), 1)) := by
            refine hide (parseL_none _ ?_)
            rw [unhide hsp', hn]; simp
          obtain ⟨vz, hvz⟩ : ∃ v, valR Z.data.toList = v := ⟨_, rfl⟩
          obtain ⟨vx, hvx⟩ : ∃ v, valR X.data.toList = v := ⟨_, rfl⟩
          obtain ⟨vy, hvy⟩ : ∃ v, valR Y.data.toList = v := ⟨_, rfl⟩
          have HZ := hide hvz
          have HX := hide hvx
          have HY := hide hvy
          have Hn := hide hn
          clear hsp' hn hvz hvx hvy
          go_wp2_with fail
          refine (lone_any N 97 122 8 _ _ _ _ sN rfl rfl rfl).mono ?_
          rintro e w2 ⟨rfl, rfl⟩
          rw [lone_name, unhide Hn]
          go_wp2_with fail
          refine (refValue_any Z _ sZ).mono ?_
          rintro e w2 ⟨rfl, rfl⟩
          rw [unhide HZ]
          go_wp2_with fail
          refine (refValue_any X _ sX).mono ?_
          rintro e w2 ⟨rfl, rfl⟩
          rw [unhide HX]
          go_wp2_with fail
          refine (refValue_any Y _ sY).mono ?_
          rintro e w2 ⟨rfl, rfl⟩
          rw [unhide HY]
          go_wp2_with fail
          refine bodyPost_ret (v := .tuple #[.agg #[.int .i64 0, .int .i64 0, .int .i64 0, .int .i64 0], .int .i64 1]) (by simp [results, Tryd.results7, go_sem, r0, r1, r2, r3]) rfl ⟨⟨0, 0, 0, 0, 1, unhide hP, rfl⟩, ?_⟩
          exact ((((unhide HBw).setCell (Nat.le_refl _) _).setCell (Nat.le_refl _) _).setCell (Nat.le_refl _) _).setCell (Nat.le_refl _) _
        | true =>
          cases hz : Pp.numB Z.data.toList with
          | false =>
            have hP : Hid (parseL s.data.toList = ((0, 0, 0, 0), 1)) := by
              refine hide (parseL_none _ ?_)
              rw [unhide hsp', hn, hz]; simp
            have HZ : Hid (valR Z.data.toList = -1) := valR_no _ hz
            obtain ⟨vx, hvx⟩ : ∃ v, valR X.data.toList = v := ⟨_, rfl⟩
            have HX := hide hvx
            clear hvx
            obtain ⟨vy, hvy⟩ : ∃ v, valR Y.data.toList = v := ⟨_, rfl⟩
            have HY := hide hvy
            clear hvy
            have Hn := hide hn
            clear hsp' hn hz
            go_wp2_with fail
            refine (lone_any N 97 122 8 _ _ _ _ sN rfl rfl rfl).mono ?_
            rintro e w2 ⟨rfl, rfl⟩
            rw [lone_name, unhide Hn]
            go_wp2_with fail
            refine (refValue_any Z _ sZ).mono ?_
            rintro e w2 ⟨rfl, rfl⟩
            rw [unhide HZ]
            go_wp2_with fail
            refine (refValue_any X _ sX).mono ?_
            rintro e w2 ⟨rfl, rfl⟩
            rw [unhide HX]
            go_wp2_with fail
            refine (refValue_any Y _ sY).mono ?_
            rintro e w2 ⟨rfl, rfl⟩
            rw [unhide HY]
            go_wp2_with fail
            refine bodyPost_ret (v := .tuple #[.agg #[.int .i64 0, .int .i64 0, .int .i64 0, .int .i64 0], .int .i64 1]) (by simp [results, Tryd.results7, go_sem, r0, r1, r2, r3]) rfl ⟨⟨0, 0, 0, 0, 1, unhide hP, rfl⟩, ?_⟩
            exact ((((unhide HBw).setCell (Nat.le_refl _) _).setCell (Nat.le_refl _) _).setCell (Nat.le_refl _) _).setCell (Nat.le_refl _) _
          | true =>
            cases hx : Pp.numB X.data.toList with
            | false =>
              have hP : Hid (parseL s.data.toList = ((0, 0, 0, 0), 1)) := by
                refine hide (parseL_none _ ?_)
                rw [unhide hsp', hn, hz, hx]; simp
              obtain ⟨vz, hvz⟩ : ∃ v, Pp.valL Z.data.toList = v := ⟨_, rfl⟩
              have HZ : Hid (valR Z.data.toList = (vz : Int)) := by show valR _ = _; rw [valR_yes _ hz, hvz]
              have cvz : vz < 1000000000 := by
                have := val_cap Z 9 (by have := (Pp.numB_len _ hz).2; rw [len_size] at this; exact this) (Pp.numB_within _ hz)
                have l9 := (Pp.numB_len _ hz).2
                rw [List.take_of_length_le l9, hvz] at this
                exact this
              have HX : Hid (valR X.data.toList = -1) := valR_no _ hx
              obtain ⟨vy, hvy⟩ : ∃ v, valR Y.data.toList = v := ⟨_, rfl⟩
              have HY := hide hvy
              clear hvy
              have Hn := hide hn
              clear hsp' hn hz hx hvz
              go_wp2_with fail
              refine (lone_any N 97 122 8 _ _ _ _ sN rfl rfl rfl).mono ?_
              rintro e w2 ⟨rfl, rfl⟩
              rw [lone_name, unhide Hn]
              go_wp2_with fail
              refine (refValue_any Z _ sZ).mono ?_
              rintro e w2 ⟨rfl, rfl⟩
              rw [unhide HZ]
              go_wp2_with fail
              refine (refValue_any X _ sX).mono ?_
              rintro e w2 ⟨rfl, rfl⟩
              rw [unhide HX]
              go_wp2_with fail
              refine (refValue_any Y _ sY).mono ?_
              rintro e w2 ⟨rfl, rfl⟩
              rw [unhide HY]
              go_wp2_with fail
              refine bodyPost_ret (v := .tuple #[.agg #[.int .i64 0, .int .i64 0, .int .i64 0, .int .i64 0], .int .i64 1]) (by simp [results, Tryd.results7, go_sem, r0, r1, r2, r3]) rfl ⟨⟨0, 0, 0, 0, 1, unhide hP, rfl⟩, ?_⟩
              exact ((((unhide HBw).setCell (Nat.le_refl _) _).setCell (Nat.le_refl _) _).setCell (Nat.le_refl _) _).setCell (Nat.le_refl _) _
            | true =>
              cases hy : Pp.numB Y.data.toList with
              | false =>
                have hP : Hid (parseL s.data.toList = ((0, 0, 0, 0), 1)) := by
                  refine hide (parseL_none _ ?_)
                  rw [unhide hsp', hn, hz, hx, hy]; simp
                obtain ⟨vz, hvz⟩ : ∃ v, Pp.valL Z.data.toList = v := ⟨_, rfl⟩
                have HZ : Hid (valR Z.data.toList = (vz : Int)) := by show valR _ = _; rw [valR_yes _ hz, hvz]
                have cvz : vz < 1000000000 := by
                  have := val_cap Z 9 (by have := (Pp.numB_len _ hz).2; rw [len_size] at this; exact this) (Pp.numB_within _ hz)
                  have l9 := (Pp.numB_len _ hz).2
                  rw [List.take_of_length_le l9, hvz] at this
                  exact this
                obtain ⟨vx, hvx⟩ : ∃ v, Pp.valL X.data.toList = v := ⟨_, rfl⟩
                have HX : Hid (valR X.data.toList = (vx : Int)) := by show valR _ = _; rw [valR_yes _ hx, hvx]
                have cvx : vx < 1000000000 := by
                  have := val_cap X 9 (by have := (Pp.numB_len _ hx).2; rw [len_size] at this; exact this) (Pp.numB_within _ hx)
                  have l9 := (Pp.numB_len _ hx).2
                  rw [List.take_of_length_le l9, hvx] at this
                  exact this
                have HY : Hid (valR Y.data.toList = -1) := valR_no _ hy
                have Hn := hide hn
                clear hsp' hn hz hx hy hvz hvx
                go_wp2_with fail
                refine (lone_any N 97 122 8 _ _ _ _ sN rfl rfl rfl).mono ?_
                rintro e w2 ⟨rfl, rfl⟩
                rw [lone_name, unhide Hn]
                go_wp2_with fail
                refine (refValue_any Z _ sZ).mono ?_
                rintro e w2 ⟨rfl, rfl⟩
                rw [unhide HZ]
                go_wp2_with fail
                refine (refValue_any X _ sX).mono ?_
                rintro e w2 ⟨rfl, rfl⟩
                rw [unhide HX]
                go_wp2_with fail
                refine (refValue_any Y _ sY).mono ?_
                rintro e w2 ⟨rfl, rfl⟩
                rw [unhide HY]
                go_wp2_with fail
                refine bodyPost_ret (v := .tuple #[.agg #[.int .i64 0, .int .i64 0, .int .i64 0, .int .i64 0], .int .i64 1]) (by simp [results, Tryd.results7, go_sem, r0, r1, r2, r3]) rfl ⟨⟨0, 0, 0, 0, 1, unhide hP, rfl⟩, ?_⟩
                exact ((((unhide HBw).setCell (Nat.le_refl _) _).setCell (Nat.le_refl _) _).setCell (Nat.le_refl _) _).setCell (Nat.le_refl _) _
              | true =>
                have hsp : Pp.splitL s.data.toList = some (N.data.toList, Z.data.toList, X.data.toList, Y.data.toList) := by
                  rw [unhide hsp', hn, hz, hx, hy]; simp
                obtain ⟨vz, hvz⟩ : ∃ v, Pp.valL Z.data.toList = v := ⟨_, rfl⟩
                have HZ : Hid (valR Z.data.toList = (vz : Int)) := by show valR _ = _; rw [valR_yes _ hz, hvz]
                have cvz : vz < 1000000000 := by
                  have := val_cap Z 9 (by have := (Pp.numB_len _ hz).2; rw [len_size] at this; exact this) (Pp.numB_within _ hz)
                  have l9 := (Pp.numB_len _ hz).2
                  rw [List.take_of_length_le l9, hvz] at this
                  exact this
                obtain ⟨vx, hvx⟩ : ∃ v, Pp.valL X.data.toList = v := ⟨_, rfl⟩
                have HX : Hid (valR X.data.toList = (vx : Int)) := by show valR _ = _; rw [valR_yes _ hx, hvx]
                have cvx : vx < 1000000000 := by
                  have := val_cap X 9 (by have := (Pp.numB_len _ hx).2; rw [len_size] at this; exact this) (Pp.numB_within _ hx)
                  have l9 := (Pp.numB_len _ hx).2
                  rw [List.take_of_length_le l9, hvx] at this
                  exact this
                obtain ⟨vy, hvy⟩ : ∃ v, Pp.valL Y.data.toList = v := ⟨_, rfl⟩
                have HY : Hid (valR Y.data.toList = (vy : Int)) := by show valR _ = _; rw [valR_yes _ hy, hvy]
                have cvy : vy < 1000000000 := by
                  have := val_cap Y 9 (by have := (Pp.numB_len _ hy).2; rw [len_size] at this; exact this) (Pp.numB_within _ hy)
                  have l9 := (Pp.numB_len _ hy).2
                  rw [List.take_of_length_le l9, hvy] at this
                  exact this
                have Hn := hide hn
                have hNl : N.toList = N.data.toList := ByteArray.toList_eq N
                have HG := hg
                clear hsp' hn hz hx hy hg
                by_cases h0 : N.data.toList = Pp.land
                · have hL : Pp.layerL N.data.toList = 0 := by simp [Pp.layerL, h0]
                  have b0 : ([108, 97, 110, 100] == N.data.toList) = true := beq_yes _ _ h0
                  have hok := hide (parseL_ok _ _ _ _ _ hsp)
                  have herr := hide (parseL_err _ _ _ _ _ hsp)
                  rw [hL, hvz, hvx, hvy] at hok herr
                  clear hsp hL hvz hvx hvy h0
                  go_wp2_with fail
                  refine (lone_any N 97 122 8 _ _ _ _ sN rfl rfl rfl).mono ?_
                  rintro e w2 ⟨rfl, rfl⟩
                  rw [lone_name, unhide Hn]
                  go_wp2_with fail
                  refine (refValue_any Z _ sZ).mono ?_
                  rintro e w2 ⟨rfl, rfl⟩
                  rw [unhide HZ]
                  go_wp2_with fail
                  refine (refValue_any X _ sX).mono ?_
                  rintro e w2 ⟨rfl, rfl⟩
                  rw [unhide HX]
                  go_wp2_with fail
                  refine (refValue_any Y _ sY).mono ?_
                  rintro e w2 ⟨rfl, rfl⟩
                  rw [unhide HY]
                  clear c0 c2 c3 c4 HZ HX HY Hn hAl sN sZ sX sY
                  go_wp2
                  refine wp_loop_rounds 5 ?_
                  rw [rounds_succ]
                  go_wp2_with fail
                  refine (name_0 _).mono ?_
                  rintro e wn0 ⟨rfl, hbn0⟩
                  have hgn0 : g < wn0.heap.size := by have := hbn0.size; omega
                  have c1n0 : wn0.cell? ⟨g, 1, none⟩ = some (.string N) := (hbn0.cell (p := ⟨g, 1, none⟩) HG).trans c1
                  have HIn0 := (unhide HI).on hbn0
                  clear r0 r1 r2 r3 o0 o1 o2 o3 f0 f1 f2 f3 wl HBw HI c1 HG hbn0
                  obtain ⟨r0, r1, r2, r3, o0, o1, o2, o3, f0, f1, f2, f3, wl, bel⟩ := HIn0
                  have HI : Hid (RB w wn0) := hide ⟨r0, r1, r2, r3, o0, o1, o2, o3, f0, f1, f2, f3, wl, bel⟩
                  have HBw := hide bel
                  have c1 := c1n0
                  have HG := hgn0
                  clear bel c1n0 hgn0
                  go_wp2_with fail
                  refine (refKeyError_any 0 vz vx vy _).mono ?_
                  rintro e wk ⟨rfl, hbk⟩
                  generalize Pp.keyErr 0 vz vx vy = E at hok herr
                  have hka : Below wn0.heap.size wn0 wk := ((Below.refl _ _).alloc (Nat.le_refl _) _).trans (hbk.mono (by simp))
                  obtain ⟨hck, hfk⟩ := bcell hbk
                  have hkl : wn0.heap.size < wn0.heap.size + 1 := by omega
                  have HIk := (unhide HI).on hka
                  clear r0 r1 r2 r3 o0 o1 o2 o3 f0 f1 f2 f3 wl HBw HI c1 HG hbk hka
                  obtain ⟨r0, r1, r2, r3, o0, o1, o2, o3, f0, f1, f2, f3, wl, bel⟩ := HIk
                  have HBw := hide bel
                  clear bel
                  by_cases hE : E = 0
                  · have hP := hide (unhide hok hE)
                    subst hE
                    clear hok herr
                    go_wp2_with fail
                    refine bodyPost_ret (v := .tuple #[.agg #[.int .i64 0, .int .i64 vz, .int .i64 vx, .int .i64 vy], .int .i64 0]) (by simp [results, Tryd.results7, go_sem, r0, r1, r2, r3]) rfl ⟨⟨0, vz, vx, vy, 0, unhide hP, rfl⟩, ?_⟩
                    exact ((((unhide HBw).setCell (Nat.le_refl _) _).setCell (Nat.le_refl _) _).setCell (Nat.le_refl _) _).setCell (Nat.le_refl _) _
                  · have hP := hide (unhide herr hE)
                    have hbe : (E != 0) = true := by rw [bne_iff_ne]; exact hE
                    clear hok herr hE
                    go_wp2_with fail
                    refine bodyPost_ret (v := .tuple #[.agg #[.int .i64 0, .int .i64 0, .int .i64 0, .int .i64 0], .int .i64 E]) (by simp [results, Tryd.results7, go_sem, r0, r1, r2, r3]) rfl ⟨⟨0, 0, 0, 0, E, unhide hP, rfl⟩, ?_⟩
                    exact ((((unhide HBw).setCell (Nat.le_refl _) _).setCell (Nat.le_refl _) _).setCell (Nat.le_refl _) _).setCell (Nat.le_refl _) _
                have b0 : ([108, 97, 110, 100] == N.data.toList) = false := beq_no _ _ h0
                by_cases h1 : N.data.toList = Pp.water
                · have hL : Pp.layerL N.data.toList = 1 := by simp [Pp.layerL, h1, Pp.land, Pp.water]
                  have b1 : ([119, 97, 116, 101, 114] == N.data.toList) = true := beq_yes _ _ h1
                  have hok := hide (parseL_ok _ _ _ _ _ hsp)
                  have herr := hide (parseL_err _ _ _ _ _ hsp)
                  rw [hL, hvz, hvx, hvy] at hok herr
                  clear hsp hL hvz hvx hvy h0 h1
                  go_wp2_with fail
                  refine (lone_any N 97 122 8 _ _ _ _ sN rfl rfl rfl).mono ?_
                  rintro e w2 ⟨rfl, rfl⟩
                  rw [lone_name, unhide Hn]
                  go_wp2_with fail
                  refine (refValue_any Z _ sZ).mono ?_
                  rintro e w2 ⟨rfl, rfl⟩
                  rw [unhide HZ]
                  go_wp2_with fail
                  refine (refValue_any X _ sX).mono ?_
                  rintro e w2 ⟨rfl, rfl⟩
                  rw [unhide HX]
                  go_wp2_with fail
                  refine (refValue_any Y _ sY).mono ?_
                  rintro e w2 ⟨rfl, rfl⟩
                  rw [unhide HY]
                  clear c0 c2 c3 c4 HZ HX HY Hn hAl sN sZ sX sY
                  go_wp2
                  refine wp_loop_rounds 5 ?_
                  rw [rounds_succ]
                  go_wp2_with fail
                  refine (name_0 _).mono ?_
                  rintro e wn0 ⟨rfl, hbn0⟩
                  have hgn0 : g < wn0.heap.size := by have := hbn0.size; omega
                  have c1n0 : wn0.cell? ⟨g, 1, none⟩ = some (.string N) := (hbn0.cell (p := ⟨g, 1, none⟩) HG).trans c1
                  have HIn0 := (unhide HI).on hbn0
                  clear r0 r1 r2 r3 o0 o1 o2 o3 f0 f1 f2 f3 wl HBw HI c1 HG hbn0
                  obtain ⟨r0, r1, r2, r3, o0, o1, o2, o3, f0, f1, f2, f3, wl, bel⟩ := HIn0
                  have HI : Hid (RB w wn0) := hide ⟨r0, r1, r2, r3, o0, o1, o2, o3, f0, f1, f2, f3, wl, bel⟩
                  have HBw := hide bel
                  have c1 := c1n0
                  have HG := hgn0
                  clear bel c1n0 hgn0
                  go_wp2_with fail
                  rw [rounds_succ]
                  go_wp2_with fail
                  refine (name_1 _).mono ?_
                  rintro e wn1 ⟨rfl, hbn1⟩
                  have hgn1 : g < wn1.heap.size := by have := hbn1.size; omega
                  have c1n1 : wn1.cell? ⟨g, 1, none⟩ = some (.string N) := (hbn1.cell (p := ⟨g, 1, none⟩) HG).trans c1
                  have HIn1 := (unhide HI).on hbn1
                  clear r0 r1 r2 r3 o0 o1 o2 o3 f0 f1 f2 f3 wl HBw HI c1 HG hbn1
                  obtain ⟨r0, r1, r2, r3, o0, o1, o2, o3, f0, f1, f2, f3, wl, bel⟩ := HIn1
                  have HI : Hid (RB w wn1) := hide ⟨r0, r1, r2, r3, o0, o1, o2, o3, f0, f1, f2, f3, wl, bel⟩
                  have HBw := hide bel
                  have c1 := c1n1
                  have HG := hgn1
                  clear bel c1n1 hgn1
                  go_wp2_with fail
                  refine (refKeyError_any 1 vz vx vy _).mono ?_
                  rintro e wk ⟨rfl, hbk⟩
                  generalize Pp.keyErr 1 vz vx vy = E at hok herr
                  have hka : Below wn1.heap.size wn1 wk := ((Below.refl _ _).alloc (Nat.le_refl _) _).trans (hbk.mono (by simp))
                  obtain ⟨hck, hfk⟩ := bcell hbk
                  have hkl : wn1.heap.size < wn1.heap.size + 1 := by omega
                  have HIk := (unhide HI).on hka
                  clear r0 r1 r2 r3 o0 o1 o2 o3 f0 f1 f2 f3 wl HBw HI c1 HG hbk hka
                  obtain ⟨r0, r1, r2, r3, o0, o1, o2, o3, f0, f1, f2, f3, wl, bel⟩ := HIk
                  have HBw := hide bel
                  clear bel
                  by_cases hE : E = 0
                  · have hP := hide (unhide hok hE)
                    subst hE
                    clear hok herr
                    go_wp2_with fail
                    refine bodyPost_ret (v := .tuple #[.agg #[.int .i64 1, .int .i64 vz, .int .i64 vx, .int .i64 vy], .int .i64 0]) (by simp [results, Tryd.results7, go_sem, r0, r1, r2, r3]) rfl ⟨⟨1, vz, vx, vy, 0, unhide hP, rfl⟩, ?_⟩
                    exact ((((unhide HBw).setCell (Nat.le_refl _) _).setCell (Nat.le_refl _) _).setCell (Nat.le_refl _) _).setCell (Nat.le_refl _) _
                  · have hP := hide (unhide herr hE)
                    have hbe : (E != 0) = true := by rw [bne_iff_ne]; exact hE
                    clear hok herr hE
                    go_wp2_with fail
                    refine bodyPost_ret (v := .tuple #[.agg #[.int .i64 0, .int .i64 0, .int .i64 0, .int .i64 0], .int .i64 E]) (by simp [results, Tryd.results7, go_sem, r0, r1, r2, r3]) rfl ⟨⟨0, 0, 0, 0, E, unhide hP, rfl⟩, ?_⟩
                    exact ((((unhide HBw).setCell (Nat.le_refl _) _).setCell (Nat.le_refl _) _).setCell (Nat.le_refl _) _).setCell (Nat.le_refl _) _
                have b1 : ([119, 97, 116, 101, 114] == N.data.toList) = false := beq_no _ _ h1
                by_cases h2 : N.data.toList = Pp.road
                · have hL : Pp.layerL N.data.toList = 2 := by simp [Pp.layerL, h2, Pp.land, Pp.water, Pp.road]
                  have b2 : ([114, 111, 97, 100] == N.data.toList) = true := beq_yes _ _ h2
                  have hok := hide (parseL_ok _ _ _ _ _ hsp)
                  have herr := hide (parseL_err _ _ _ _ _ hsp)
                  rw [hL, hvz, hvx, hvy] at hok herr
                  clear hsp hL hvz hvx hvy h0 h1 h2
                  go_wp2_with fail
                  refine (lone_any N 97 122 8 _ _ _ _ sN rfl rfl rfl).mono ?_
                  rintro e w2 ⟨rfl, rfl⟩
                  rw [lone_name, unhide Hn]
                  go_wp2_with fail
                  refine (refValue_any Z _ sZ).mono ?_
                  rintro e w2 ⟨rfl, rfl⟩
                  rw [unhide HZ]
                  go_wp2_with fail
                  refine (refValue_any X _ sX).mono ?_
                  rintro e w2 ⟨rfl, rfl⟩
                  rw [unhide HX]
                  go_wp2_with fail
                  refine (refValue_any Y _ sY).mono ?_
                  rintro e w2 ⟨rfl, rfl⟩
                  rw [unhide HY]
                  clear c0 c2 c3 c4 HZ HX HY Hn hAl sN sZ sX sY
                  go_wp2
                  refine wp_loop_rounds 5 ?_
                  rw [rounds_succ]
                  go_wp2_with fail
                  refine (name_0 _).mono ?_
                  rintro e wn0 ⟨rfl, hbn0⟩
                  have hgn0 : g < wn0.heap.size := by have := hbn0.size; omega
                  have c1n0 : wn0.cell? ⟨g, 1, none⟩ = some (.string N) := (hbn0.cell (p := ⟨g, 1, none⟩) HG).trans c1
                  have HIn0 := (unhide HI).on hbn0
                  clear r0 r1 r2 r3 o0 o1 o2 o3 f0 f1 f2 f3 wl HBw HI c1 HG hbn0
                  obtain ⟨r0, r1, r2, r3, o0, o1, o2, o3, f0, f1, f2, f3, wl, bel⟩ := HIn0
                  have HI : Hid (RB w wn0) := hide ⟨r0, r1, r2, r3, o0, o1, o2, o3, f0, f1, f2, f3, wl, bel⟩
                  have HBw := hide bel
                  have c1 := c1n0
                  have HG := hgn0
                  clear bel c1n0 hgn0
                  go_wp2_with fail
                  rw [rounds_succ]
                  go_wp2_with fail
                  refine (name_1 _).mono ?_
                  rintro e wn1 ⟨rfl, hbn1⟩
                  have hgn1 : g < wn1.heap.size := by have := hbn1.size; omega
                  have c1n1 : wn1.cell? ⟨g, 1, none⟩ = some (.string N) := (hbn1.cell (p := ⟨g, 1, none⟩) HG).trans c1
                  have HIn1 := (unhide HI).on hbn1
                  clear r0 r1 r2 r3 o0 o1 o2 o3 f0 f1 f2 f3 wl HBw HI c1 HG hbn1
                  obtain ⟨r0, r1, r2, r3, o0, o1, o2, o3, f0, f1, f2, f3, wl, bel⟩ := HIn1
                  have HI : Hid (RB w wn1) := hide ⟨r0, r1, r2, r3, o0, o1, o2, o3, f0, f1, f2, f3, wl, bel⟩
                  have HBw := hide bel
                  have c1 := c1n1
                  have HG := hgn1
                  clear bel c1n1 hgn1
                  go_wp2_with fail
                  rw [rounds_succ]
                  go_wp2_with fail
                  refine (name_2 _).mono ?_
                  rintro e wn2 ⟨rfl, hbn2⟩
                  have hgn2 : g < wn2.heap.size := by have := hbn2.size; omega
                  have c1n2 : wn2.cell? ⟨g, 1, none⟩ = some (.string N) := (hbn2.cell (p := ⟨g, 1, none⟩) HG).trans c1
                  have HIn2 := (unhide HI).on hbn2
                  clear r0 r1 r2 r3 o0 o1 o2 o3 f0 f1 f2 f3 wl HBw HI c1 HG hbn2
                  obtain ⟨r0, r1, r2, r3, o0, o1, o2, o3, f0, f1, f2, f3, wl, bel⟩ := HIn2
                  have HI : Hid (RB w wn2) := hide ⟨r0, r1, r2, r3, o0, o1, o2, o3, f0, f1, f2, f3, wl, bel⟩
                  have HBw := hide bel
                  have c1 := c1n2
                  have HG := hgn2
                  clear bel c1n2 hgn2
                  go_wp2_with fail
                  refine (refKeyError_any 2 vz vx vy _).mono ?_
                  rintro e wk ⟨rfl, hbk⟩
                  generalize Pp.keyErr 2 vz vx vy = E at hok herr
                  have hka : Below wn2.heap.size wn2 wk := ((Below.refl _ _).alloc (Nat.le_refl _) _).trans (hbk.mono (by simp))
                  obtain ⟨hck, hfk⟩ := bcell hbk
                  have hkl : wn2.heap.size < wn2.heap.size + 1 := by omega
                  have HIk := (unhide HI).on hka
                  clear r0 r1 r2 r3 o0 o1 o2 o3 f0 f1 f2 f3 wl HBw HI c1 HG hbk hka
                  obtain ⟨r0, r1, r2, r3, o0, o1, o2, o3, f0, f1, f2, f3, wl, bel⟩ := HIk
                  have HBw := hide bel
                  clear bel
                  by_cases hE : E = 0
                  · have hP := hide (unhide hok hE)
                    subst hE
                    clear hok herr
                    go_wp2_with fail
                    refine bodyPost_ret (v := .tuple #[.agg #[.int .i64 2, .int .i64 vz, .int .i64 vx, .int .i64 vy], .int .i64 0]) (by simp [results, Tryd.results7, go_sem, r0, r1, r2, r3]) rfl ⟨⟨2, vz, vx, vy, 0, unhide hP, rfl⟩, ?_⟩
                    exact ((((unhide HBw).setCell (Nat.le_refl _) _).setCell (Nat.le_refl _) _).setCell (Nat.le_refl _) _).setCell (Nat.le_refl _) _
                  · have hP := hide (unhide herr hE)
                    have hbe : (E != 0) = true := by rw [bne_iff_ne]; exact hE
                    clear hok herr hE
                    go_wp2_with fail
                    refine bodyPost_ret (v := .tuple #[.agg #[.int .i64 0, .int .i64 0, .int .i64 0, .int .i64 0], .int .i64 E]) (by simp [results, Tryd.results7, go_sem, r0, r1, r2, r3]) rfl ⟨⟨0, 0, 0, 0, E, unhide hP, rfl⟩, ?_⟩
                    exact ((((unhide HBw).setCell (Nat.le_refl _) _).setCell (Nat.le_refl _) _).setCell (Nat.le_refl _) _).setCell (Nat.le_refl _) _
                have b2 : ([114, 111, 97, 100] == N.data.toList) = false := beq_no _ _ h2
                by_cases h3 : N.data.toList = Pp.mark
                · have hL : Pp.layerL N.data.toList = 3 := by simp [Pp.layerL, h3, Pp.land, Pp.water, Pp.road, Pp.mark]
                  have b3 : ([109, 97, 114, 107] == N.data.toList) = true := beq_yes _ _ h3
                  have hok := hide (parseL_ok _ _ _ _ _ hsp)
                  have herr := hide (parseL_err _ _ _ _ _ hsp)
                  rw [hL, hvz, hvx, hvy] at hok herr
                  clear hsp hL hvz hvx hvy h0 h1 h2 h3
                  go_wp2_with fail
                  refine (lone_any N 97 122 8 _ _ _ _ sN rfl rfl rfl).mono ?_
                  rintro e w2 ⟨rfl, rfl⟩
                  rw [lone_name, unhide Hn]
                  go_wp2_with fail
                  refine (refValue_any Z _ sZ).mono ?_
                  rintro e w2 ⟨rfl, rfl⟩
                  rw [unhide HZ]
                  go_wp2_with fail
                  refine (refValue_any X _ sX).mono ?_
                  rintro e w2 ⟨rfl, rfl⟩
                  rw [unhide HX]
                  go_wp2_with fail
                  refine (refValue_any Y _ sY).mono ?_
                  rintro e w2 ⟨rfl, rfl⟩
                  rw [unhide HY]
                  clear c0 c2 c3 c4 HZ HX HY Hn hAl sN sZ sX sY
                  go_wp2
                  refine wp_loop_rounds 5 ?_
                  rw [rounds_succ]
                  go_wp2_with fail
                  refine (name_0 _).mono ?_
                  rintro e wn0 ⟨rfl, hbn0⟩
                  have hgn0 : g < wn0.heap.size := by have := hbn0.size; omega
                  have c1n0 : wn0.cell? ⟨g, 1, none⟩ = some (.string N) := (hbn0.cell (p := ⟨g, 1, none⟩) HG).trans c1
                  have HIn0 := (unhide HI).on hbn0
                  clear r0 r1 r2 r3 o0 o1 o2 o3 f0 f1 f2 f3 wl HBw HI c1 HG hbn0
                  obtain ⟨r0, r1, r2, r3, o0, o1, o2, o3, f0, f1, f2, f3, wl, bel⟩ := HIn0
                  have HI : Hid (RB w wn0) := hide ⟨r0, r1, r2, r3, o0, o1, o2, o3, f0, f1, f2, f3, wl, bel⟩
                  have HBw := hide bel
                  have c1 := c1n0
                  have HG := hgn0
                  clear bel c1n0 hgn0
                  go_wp2_with fail
                  rw [rounds_succ]
                  go_wp2_with fail
                  refine (name_1 _).mono ?_
                  rintro e wn1 ⟨rfl, hbn1⟩
                  have hgn1 : g < wn1.heap.size := by have := hbn1.size; omega
                  have c1n1 : wn1.cell? ⟨g, 1, none⟩ = some (.string N) := (hbn1.cell (p := ⟨g, 1, none⟩) HG).trans c1
                  have HIn1 := (unhide HI).on hbn1
                  clear r0 r1 r2 r3 o0 o1 o2 o3 f0 f1 f2 f3 wl HBw HI c1 HG hbn1
                  obtain ⟨r0, r1, r2, r3, o0, o1, o2, o3, f0, f1, f2, f3, wl, bel⟩ := HIn1
                  have HI : Hid (RB w wn1) := hide ⟨r0, r1, r2, r3, o0, o1, o2, o3, f0, f1, f2, f3, wl, bel⟩
                  have HBw := hide bel
                  have c1 := c1n1
                  have HG := hgn1
                  clear bel c1n1 hgn1
                  go_wp2_with fail
                  rw [rounds_succ]
                  go_wp2_with fail
                  refine (name_2 _).mono ?_
                  rintro e wn2 ⟨rfl, hbn2⟩
                  have hgn2 : g < wn2.heap.size := by have := hbn2.size; omega
                  have c1n2 : wn2.cell? ⟨g, 1, none⟩ = some (.string N) := (hbn2.cell (p := ⟨g, 1, none⟩) HG).trans c1
                  have HIn2 := (unhide HI).on hbn2
                  clear r0 r1 r2 r3 o0 o1 o2 o3 f0 f1 f2 f3 wl HBw HI c1 HG hbn2
                  obtain ⟨r0, r1, r2, r3, o0, o1, o2, o3, f0, f1, f2, f3, wl, bel⟩ := HIn2
                  have HI : Hid (RB w wn2) := hide ⟨r0, r1, r2, r3, o0, o1, o2, o3, f0, f1, f2, f3, wl, bel⟩
                  have HBw := hide bel
                  have c1 := c1n2
                  have HG := hgn2
                  clear bel c1n2 hgn2
                  go_wp2_with fail
                  rw [rounds_succ]
                  go_wp2_with fail
                  refine (name_3 _).mono ?_
                  rintro e wn3 ⟨rfl, hbn3⟩
                  have hgn3 : g < wn3.heap.size := by have := hbn3.size; omega
                  have c1n3 : wn3.cell? ⟨g, 1, none⟩ = some (.string N) := (hbn3.cell (p := ⟨g, 1, none⟩) HG).trans c1
                  have HIn3 := (unhide HI).on hbn3
                  clear r0 r1 r2 r3 o0 o1 o2 o3 f0 f1 f2 f3 wl HBw HI c1 HG hbn3
                  obtain ⟨r0, r1, r2, r3, o0, o1, o2, o3, f0, f1, f2, f3, wl, bel⟩ := HIn3
                  have HI : Hid (RB w wn3) := hide ⟨r0, r1, r2, r3, o0, o1, o2, o3, f0, f1, f2, f3, wl, bel⟩
                  have HBw := hide bel
                  have c1 := c1n3
                  have HG := hgn3
                  clear bel c1n3 hgn3
                  go_wp2_with fail
                  refine (refKeyError_any 3 vz vx vy _).mono ?_
                  rintro e wk ⟨rfl, hbk⟩
                  generalize Pp.keyErr 3 vz vx vy = E at hok herr
                  have hka : Below wn3.heap.size wn3 wk := ((Below.refl _ _).alloc (Nat.le_refl _) _).trans (hbk.mono (by simp))
                  obtain ⟨hck, hfk⟩ := bcell hbk
                  have hkl : wn3.heap.size < wn3.heap.size + 1 := by omega
                  have HIk := (unhide HI).on hka
                  clear r0 r1 r2 r3 o0 o1 o2 o3 f0 f1 f2 f3 wl HBw HI c1 HG hbk hka
                  obtain ⟨r0, r1, r2, r3, o0, o1, o2, o3, f0, f1, f2, f3, wl, bel⟩ := HIk
                  have HBw := hide bel
                  clear bel
                  by_cases hE : E = 0
                  · have hP := hide (unhide hok hE)
                    subst hE
                    clear hok herr
                    go_wp2_with fail
                    refine bodyPost_ret (v := .tuple #[.agg #[.int .i64 3, .int .i64 vz, .int .i64 vx, .int .i64 vy], .int .i64 0]) (by simp [results, Tryd.results7, go_sem, r0, r1, r2, r3]) rfl ⟨⟨3, vz, vx, vy, 0, unhide hP, rfl⟩, ?_⟩
                    exact ((((unhide HBw).setCell (Nat.le_refl _) _).setCell (Nat.le_refl _) _).setCell (Nat.le_refl _) _).setCell (Nat.le_refl _) _
                  · have hP := hide (unhide herr hE)
                    have hbe : (E != 0) = true := by rw [bne_iff_ne]; exact hE
                    clear hok herr hE
                    go_wp2_with fail
                    refine bodyPost_ret (v := .tuple #[.agg #[.int .i64 0, .int .i64 0, .int .i64 0, .int .i64 0], .int .i64 E]) (by simp [results, Tryd.results7, go_sem, r0, r1, r2, r3]) rfl ⟨⟨0, 0, 0, 0, E, unhide hP, rfl⟩, ?_⟩
                    exact ((((unhide HBw).setCell (Nat.le_refl _) _).setCell (Nat.le_refl _) _).setCell (Nat.le_refl _) _).setCell (Nat.le_refl _) _
                have b3 : ([109, 97, 114, 107] == N.data.toList) = false := beq_no _ _ h3
                have hL : Pp.layerL N.data.toList = -1 := by simp [Pp.layerL, h0, h1, h2, h3]
                have hP : Hid (parseL s.data.toList = ((0, 0, 0, 0), 2)) := by
                  have he : Pp.keyErr (Pp.layerL N.data.toList) (Pp.valL Z.data.toList) (Pp.valL X.data.toList) (Pp.valL Y.data.toList) = 2 := by rw [hL]; exact keyErr_2 _ _ _ _ (Or.inl (by decide))
                  show parseL s.data.toList = _
                  rw [parseL_err _ _ _ _ _ hsp (by rw [he]; decide), he]
                clear hsp hL hvz hvx hvy h0 h1 h2 h3
                go_wp2_with fail
                refine (lone_any N 97 122 8 _ _ _ _ sN rfl rfl rfl).mono ?_
                rintro e w2 ⟨rfl, rfl⟩
                rw [lone_name, unhide Hn]
                go_wp2_with fail
                refine (refValue_any Z _ sZ).mono ?_
                rintro e w2 ⟨rfl, rfl⟩
                rw [unhide HZ]
                go_wp2_with fail
                refine (refValue_any X _ sX).mono ?_
                rintro e w2 ⟨rfl, rfl⟩
                rw [unhide HX]
                go_wp2_with fail
                refine (refValue_any Y _ sY).mono ?_
                rintro e w2 ⟨rfl, rfl⟩
                rw [unhide HY]
                clear c0 c2 c3 c4 HZ HX HY Hn hAl sN sZ sX sY
                go_wp2
                refine wp_loop_rounds 5 ?_
                rw [rounds_succ]
                go_wp2_with fail
                refine (name_0 _).mono ?_
                rintro e wn0 ⟨rfl, hbn0⟩
                have hgn0 : g < wn0.heap.size := by have := hbn0.size; omega
                have c1n0 : wn0.cell? ⟨g, 1, none⟩ = some (.string N) := (hbn0.cell (p := ⟨g, 1, none⟩) HG).trans c1
                have HIn0 := (unhide HI).on hbn0
                clear r0 r1 r2 r3 o0 o1 o2 o3 f0 f1 f2 f3 wl HBw HI c1 HG hbn0
                obtain ⟨r0, r1, r2, r3, o0, o1, o2, o3, f0, f1, f2, f3, wl, bel⟩ := HIn0
                have HI : Hid (RB w wn0) := hide ⟨r0, r1, r2, r3, o0, o1, o2, o3, f0, f1, f2, f3, wl, bel⟩
                have HBw := hide bel
                have c1 := c1n0
                have HG := hgn0
                clear bel c1n0 hgn0
                go_wp2_with fail
                rw [rounds_succ]
                go_wp2_with fail
                refine (name_1 _).mono ?_
                rintro e wn1 ⟨rfl, hbn1⟩
                have hgn1 : g < wn1.heap.size := by have := hbn1.size; omega
                have c1n1 : wn1.cell? ⟨g, 1, none⟩ = some (.string N) := (hbn1.cell (p := ⟨g, 1, none⟩) HG).trans c1
                have HIn1 := (unhide HI).on hbn1
                clear r0 r1 r2 r3 o0 o1 o2 o3 f0 f1 f2 f3 wl HBw HI c1 HG hbn1
                obtain ⟨r0, r1, r2, r3, o0, o1, o2, o3, f0, f1, f2, f3, wl, bel⟩ := HIn1
                have HI : Hid (RB w wn1) := hide ⟨r0, r1, r2, r3, o0, o1, o2, o3, f0, f1, f2, f3, wl, bel⟩
                have HBw := hide bel
                have c1 := c1n1
                have HG := hgn1
                clear bel c1n1 hgn1
                go_wp2_with fail
                rw [rounds_succ]
                go_wp2_with fail
                refine (name_2 _).mono ?_
                rintro e wn2 ⟨rfl, hbn2⟩
                have hgn2 : g < wn2.heap.size := by have := hbn2.size; omega
                have c1n2 : wn2.cell? ⟨g, 1, none⟩ = some (.string N) := (hbn2.cell (p := ⟨g, 1, none⟩) HG).trans c1
                have HIn2 := (unhide HI).on hbn2
                clear r0 r1 r2 r3 o0 o1 o2 o3 f0 f1 f2 f3 wl HBw HI c1 HG hbn2
                obtain ⟨r0, r1, r2, r3, o0, o1, o2, o3, f0, f1, f2, f3, wl, bel⟩ := HIn2
                have HI : Hid (RB w wn2) := hide ⟨r0, r1, r2, r3, o0, o1, o2, o3, f0, f1, f2, f3, wl, bel⟩
                have HBw := hide bel
                have c1 := c1n2
                have HG := hgn2
                clear bel c1n2 hgn2
                go_wp2_with fail
                rw [rounds_succ]
                go_wp2_with fail
                refine (name_3 _).mono ?_
                rintro e wn3 ⟨rfl, hbn3⟩
                have hgn3 : g < wn3.heap.size := by have := hbn3.size; omega
                have c1n3 : wn3.cell? ⟨g, 1, none⟩ = some (.string N) := (hbn3.cell (p := ⟨g, 1, none⟩) HG).trans c1
                have HIn3 := (unhide HI).on hbn3
                clear r0 r1 r2 r3 o0 o1 o2 o3 f0 f1 f2 f3 wl HBw HI c1 HG hbn3
                obtain ⟨r0, r1, r2, r3, o0, o1, o2, o3, f0, f1, f2, f3, wl, bel⟩ := HIn3
                have HI : Hid (RB w wn3) := hide ⟨r0, r1, r2, r3, o0, o1, o2, o3, f0, f1, f2, f3, wl, bel⟩
                have HBw := hide bel
                have c1 := c1n3
                have HG := hgn3
                clear bel c1n3 hgn3
                go_wp2_with fail
                rw [rounds_succ]
                go_wp2_with fail
                refine bodyPost_ret (v := .tuple #[.agg #[.int .i64 0, .int .i64 0, .int .i64 0, .int .i64 0], .int .i64 2]) (by simp [results, Tryd.results7, go_sem, r0, r1, r2, r3]) rfl ⟨⟨0, 0, 0, 0, 2, unhide hP, rfl⟩, ?_⟩
                exact ((((unhide HBw).setCell (Nat.le_refl _) _).setCell (Nat.le_refl _) _).setCell (Nat.le_refl _) _).setCell (Nat.le_refl _) _
  · have hbe : ((l.length : Int) != 5) = true := by rw [bne_iff_ne]; omega
    have hP : Hid (parseL s.data.toList = ((0, 0, 0, 0), 1)) := by
      refine hide (parseL_none _ ?_)
      rw [unhide hsp, if_neg]
      intro e
      have := ((Pp.refOk_iff _).1 e).1.1
      rw [List.length_map] at this
      exact hl5 this
    clear hsp hl5 hcell
    obtain ⟨r0, r1, r2, r3, o0, o1, o2, o3, f0, f1, f2, f3, wl, bel⟩ := hI
    have HBw := hide bel
    clear bel
    go_wp2_with fail
    refine bodyPost_ret (v := .tuple #[.agg #[.int .i64 0, .int .i64 0, .int .i64 0, .int .i64 0], .int .i64 1]) (by simp [results, Tryd.results7, go_sem, r0, r1, r2, r3]) rfl ⟨⟨0, 0, 0, 0, 1, unhide hP, rfl⟩, ?_⟩
    exact ((((unhide HBw).setCell (Nat.le_refl _) _).setCell (Nat.le_refl _) _).setCell (Nat.le_refl _) _).setCell (Nat.le_refl _) _
end Go.Proofs.YtacjjjjbfjkohaaDoor
