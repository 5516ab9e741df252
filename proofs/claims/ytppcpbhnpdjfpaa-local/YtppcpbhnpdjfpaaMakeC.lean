/-
  APPEND TO ONE OF SEVERAL LISTS OF THE CALL's OWN; a list of numbers in memory; atlaskeep.area.
-/
import Derived.Test.YtppcpbhnpdjfpaaMakeB
import Derived.OwnWalk
import Derived.ArgAppend
namespace Go.Proofs.Ytppcpbhnpdjfpaa
open Go.RowKit

/-- A slice of the call's own is appended to: where it lies then. -/
theorem ap_own {ops : Array Oper} {rest : List Oper} {o : Oper} {a : Act} {Q : Exit → Act → World → Prop} (w : World) (hgd : o.guard = none) (s x : Operand) (t : TypeId)
    (ho : o.op = .call { callee := .builtin .append, args := #[s, x], argTypes := #[t, t] })
    (B : Nat) (e : TypeId) (i : TypeInfo) (z : Value) (size bytes : Nat) (ht : Try.prog.underlying t = some (.slice e)) (hi : Try.prog.info? e = some i) (hz : i.zero = some z)
    (hsize : i.size = size) (hby : i.bytes = bytes) (hzs : z.cells.size = size) (hsz : 0 < size)
    (v : Value) (n : Nat) (xs : List Value) (hs : a.eval s = v) (hown : w.ownsRow B e size v n xs)
    (ad : Addr) (c : Nat) (news : List Value) (hx : a.eval x = .slice (some ad) 1 c) (hl : news.length = size) (hnews : ∀ j u, news[j]? = some u → w.cell? (ad.add j) = some u) (h1 : ∀ u ∈ news, u.oneCell' = true)
    (hn : (n + 1) * bytes ≤ 1000000000) (hn' : n ≤ 1000000) (hB : B ≤ w.heap.size)
    (h : ∀ v' w', w'.ownsRow B e size v' (n + 1) (xs ++ news) → w.grownBy w' v.ownBlock → (v'.ownBlock = v.ownBlock ∨ ∀ g, v'.ownBlock = some g → w.heap.size ≤ g) → wpList Try.prog ops Q rest (a.put o.dst v') w') : wpList Try.prog ops Q (o :: rest) a w := by
  have up : ∀ {v' : Value} {w' : World}, w'.ownsRow w.heap.size e size v' (n + 1) (xs ++ news) → w'.ownsRow B e size v' (n + 1) (xs ++ news) := by
    intro v' w' hh
    obtain ⟨a1, a2⟩ := hh
    refine ⟨a1, ?_⟩
    rcases a2 with a2 | ⟨g, cap, cur, q1, q2, q3⟩
    · exact Or.inl a2
    · exact Or.inr ⟨g, cap, cur, q1, by omega, q3⟩
  have gn : ∀ {w' : World} {r : Option Nat}, w.grownBy w' none → w.grownBy w' r := fun hg => ⟨hg.os, hg.tape, hg.output, hg.size, fun k hk _ => hg.block k hk (by simp)⟩
  rcases hown.2 with ⟨rfl, rfl⟩ | ⟨g, cap, cur, rfl, hg, hh, hnc, hcm, hcs, htk⟩
  · refine wpList_append_grows w hgd s x t ho e i z size bytes ht hi hz hsize hby hzs hsz none 0 0 xs hs (fun _ => ⟨rfl, rfl⟩) (by have := hown.1; simpa using this) (fun b hb => by cases hb) ad 1 c news hx (by simpa using hl) hnews h1 (by omega) (by unfold maxLen; omega) (by omega) ?_
    intro v' w' r1 r2
    exact h v' w' (up r1) (gn r2) (Or.inr fun g hg => (World.ownsRow.lt r1 g hg).1)
  · by_cases hf : n + 1 ≤ cap
    · refine wpList_append_fits w hgd s x t ho B e i size ht hi hsize g n cap xs hs hown ad 1 c news hx (by simpa using hl) hnews h1 hf ?_
      intro w' r1 r2
      exact h _ w' r1 r2 (Or.inl rfl)
    · refine wpList_append_grows w hgd s x t ho e i z size bytes ht hi hz hsize hby hzs hsz (some ⟨g, 0, none⟩) n cap xs hs (fun hb => by cases hb) hown.1 ?_ ad 1 c news hx (by simpa using hl) hnews h1 (by omega) (by unfold maxLen; omega) (by omega) ?_
      · intro b hb j u hj
        obtain rfl := Option.some.inj hb
        rw [Addr.add_mid, Nat.zero_add]
        have hjl : j < n * size := by
          have := (List.getElem?_eq_some_iff.1 hj).1
          rwa [hown.1] at this
        rw [World.ownsRow.cellAt hown j hjl, hj]
      · intro v' w' r1 r2
        exact h v' w' (up r1) (gn r2) (Or.inr fun g hg => (World.ownsRow.lt r1 g hg).1)

/-- The slice v holds the numbers l 0 .. l (n - 1). -/
def IsAt (W : World) (v : Value) (n : Nat) (l : Nat → Int) : Prop :=
  ∃ (b off cap : Nat), v = .slice (some ⟨b, off, none⟩) n cap ∧ b < W.heap.size ∧ ∀ i, i < n → W.cell? ⟨b, off + i, none⟩ = some (.int .i64 (l i))
theorem IsAt.on {W W' : World} {v : Value} {n : Nat} {l : Nat → Int} (h : IsAt W v n l) (hb : Below W.heap.size W W') : IsAt W' v n l := by
  obtain ⟨b, off, cap, e, hlt, hc⟩ := h
  exact ⟨b, off, cap, e, Nat.lt_of_lt_of_le hlt hb.size, fun i hi => (hb.cell (p := ⟨b, off + i, none⟩) hlt).trans (hc i hi)⟩

/-- What 'area' makes: the first seven fields of a right area, n points. -/
structure Ar (raw : Nat → Int) (n : Nat) (X Y : Nat → Int) (k : Nat) (G : Nat → Int) : Prop where
  lo : ∀ j, j < 7 → G j = mk (upd (upd raw 2 0) 7 0) j
  n7 : G 7 = n
  px : ∀ i, i < k → G (8 + i) = if i < n then X i else 0
  py : ∀ i, i < k → G (16 + i) = if i < n then Y i else 0
theorem ar_start (raw : Nat → Int) (n : Nat) (X Y : Nat → Int) : Ar raw n X Y 0 (upd (mk (upd (upd raw 2 0) 7 0)) 7 n) :=
  ⟨fun j hj => by simp [upd]; omega, by simp [upd], fun i hi => absurd hi (by omega), fun i hi => absurd hi (by omega)⟩
theorem Ar.next {raw : Nat → Int} {n : Nat} {X Y : Nat → Int} {k : Nat} {G : Nat → Int} (h : Ar raw n X Y k G) (hk : k < 8) (x y : Int) (hx : x = if k < n then X k else 0) (hy : y = if k < n then Y k else 0) {G' : Nat → Int}
    (hG : ∀ j, G' j = if j = 16 + k then y else if j = 8 + k then x else G j) : Ar raw n X Y (k + 1) G' := by
  refine ⟨fun j hj => ?_, ?_, fun i hi => ?_, fun i hi => ?_⟩
  · rw [hG, if_neg (by omega), if_neg (by omega)]; exact h.lo j hj
  · rw [hG, if_neg (by omega), if_neg (by omega)]; exact h.n7
  · by_cases e : i = k
    · subst e; rw [hG, if_neg (by omega), if_pos rfl]; exact hx
    · rw [hG, if_neg (by omega), if_neg (by omega)]; exact h.px i (by omega)
  · by_cases e : i = k
    · subst e; rw [hG, if_pos rfl]; exact hy
    · rw [hG, if_neg (by omega), if_neg (by omega)]; exact h.py i (by omega)
theorem F64_upd {f : Nat → Int} (h : F64 f) (i : Nat) (v : Int) (hv : -9223372036854775808 ≤ v ∧ v ≤ 9223372036854775807) : F64 (upd f i v) := by
  intro j hj
  unfold upd
  split
  · exact hv
  · exact h j hj

set_option maxHeartbeats 3200000 in
theorem area_any (raw : Nat → Int) (vx vy : Value) (n : Nat) (X Y : Nat → Int) (w : World) (hF : F64 raw) (hx : IsAt w vx n X) (hy : IsAt w vy n Y) :
    Calls Try.prog 27 #[.agg (fc raw), vx, vy] w fun e w' => (∃ G, Ar raw n X Y 8 G ∧ e = .returned (.agg (fc G))) ∧ Below w.heap.size w w' := by
  have r2 := fc_at raw 2 (by decide)
  have r7 := fc_at (upd raw 2 0) 7 (by decide)
  have hR := fun W => right_any (upd (upd raw 2 0) 7 0) W (F64_upd (F64_upd hF 2 0 (by omega)) 7 0 (by omega))
  have HR := hide hR
  clear hR hF
  obtain ⟨bx, ox, cx, rfl, hbx, hcx⟩ := hx
  obtain ⟨by_, oy, cy, rfl, hby, hcy⟩ := hy
  have HX := hide hcx
  have HY := hide hcy
  clear hcx hcy
  have e1 := fc_set raw 2 0 (by omega)
  have e2 := fc_set (upd raw 2 0) 7 0 (by omega)
  generalize hR : upd (upd raw 2 0) 7 0 = R at e2 HR
  obtain ⟨t1, t2, t3⟩ := two_blocks w (.cells (fc R) 26 (0, 0)) (.cells (fc zf) 26 (0, 0))
  have hsz0 : (w.alloc (.cells (fc raw) 26)).heap.size = w.heap.size + 1 := by simp
  have HZ := hide t2
  have HB := hide t3
  clear t2 t3
  go_enter Try.func27, Try.ntmps27
  go_wp2_with (first | refine al26 rfl rfl (w.heap.size + 1) hsz0 ?_ | refine ld26 rfl _ rfl _ rfl R t1 ?_)
  refine (unhide HR _).mono ?_
  rintro e w2 ⟨rfl, hb2⟩
  have hz2 := blk_on (unhide HZ) hb2
  have hB2 := (unhide HB).trans (hb2.mono (unhide HB).size)
  have hA := heap_alloc_new w2 (.cells (fc zf) 26 (0, 0))
  have hA1 := setRow_heap _ _ _ (fc (mk R)) _ _ hA
  have hA2 := set_blk hA1 (show 7 < 24 by omega) (n : Int)
  have d7 := fc_at (mk R) 7 (by decide)
  have q1 := blk_cells hA1
  have z1 := frz_blk hA1
  have hl2 : w.heap.size + 1 < w2.heap.size := (Array.getElem?_eq_some_iff.1 hz2).1
  have SZ := (Below.heap_setCell ((w2.alloc (.cells (fc zf) 26)).setRow w2.heap.size (fc (mk R))) ⟨w2.heap.size, 7, none⟩ (.int .i64 n) (w.heap.size + 1) (by simp; omega)).trans ((setRow_other (show w2.heap.size ≠ w.heap.size + 1 by omega) (fc (mk R))).trans ((Below.heap_alloc _ _ _ hl2).trans hz2))
  have SB := (below_setRow (below_alloc hB2 (Nat.le_refl _) (.cells (fc zf) 26)) (show w.heap.size ≤ w2.heap.size by omega) (fc (mk R))).setCell (p := ⟨w2.heap.size, 7, none⟩) (by simp; omega) (.int .i64 n)
  have HA2 := hide hA2
  have HSZ := hide SZ
  have HSB := hide SB
  clear hb2 hz2 hB2 hA2 SZ SB
  go_wp2_with (first | refine al26 rfl rfl w2.heap.size rfl ?_ | refine st26 rfl _ _ rfl w2.heap.size (mk R) rfl rfl zf hA ?_)
  go_loopw [8] (fun i wr => ∃ (k : Nat) (G : Nat → Int), k ≤ 8 ∧ i = .int .i64 k ∧ Hid (Ar raw n X Y k G) ∧ wr.heap[w.heap.size + 1]? = some (.cells (fc zf) 26 (0, 0)) ∧ wr.heap[w2.heap.size]? = some (.cells (fc G) 26 (0, 0)) ∧ Below w.heap.size w wr) (fun i _ => 8 - (intOf i).toNat)
  case atStart => exact ⟨0, _, by omega, rfl, hide (by rw [← hR]; exact ar_start raw n X Y), unhide HSZ, unhide HA2, unhide HSB⟩
  case round =>
    obtain ⟨k, G, hk, rfl, hAr, hz, hg, hb⟩ := hrel
    clear hA hA1 d7 q1 z1 e1 e2 r2 r7 t1
    by_cases hlt : k < 8
    · have hk8 : (k : Int) < 8 := by omega
      have m1 := fc_at G (8 + k) (by omega)
      have g1 := set_blk hg (show 8 + k < 24 by omega) 0
      have m2 := fc_at (upd G (8 + k) 0) (16 + k) (by omega)
      have g2 := set_blk g1 (show 16 + k < 24 by omega) 0
      have p0 := blk_cells hg
      have p1 := blk_cells g1
      have f0 := frz_blk hg
      have f1 := frz_blk g1
      have b2 := (hb.setCell (p := ⟨w2.heap.size, 8 + k, none⟩) (by simp; omega) (.int .i64 0)).setCell (p := ⟨w2.heap.size, 16 + k, none⟩) (by simp; omega) (.int .i64 0)
      have y2 := (Below.heap_setCell (wr.setCell ⟨w2.heap.size, 8 + k, none⟩ (.int .i64 0)) ⟨w2.heap.size, 16 + k, none⟩ (.int .i64 0) (w.heap.size + 1) (by simp; omega)).trans ((Below.heap_setCell wr ⟨w2.heap.size, 8 + k, none⟩ (.int .i64 0) (w.heap.size + 1) (by simp; omega)).trans hz)
      by_cases hkn : k < n
      · have hkn' : (k : Int) < n := by omega
        have m3 := fc_at (upd (upd G (8 + k) 0) (16 + k) 0) (8 + k) (by omega)
        have g3 := set_blk g2 (show 8 + k < 24 by omega) (X k)
        have m4 := fc_at (upd (upd (upd G (8 + k) 0) (16 + k) 0) (8 + k) (X k)) (16 + k) (by omega)
        have g4 := set_blk g3 (show 16 + k < 24 by omega) (Y k)
        have p2 := blk_cells g2
        have p3 := blk_cells g3
        have f2 := frz_blk g2
        have f3 := frz_blk g3
        have b3 := b2.setCell (p := ⟨w2.heap.size, 8 + k, none⟩) (by simp; omega) (.int .i64 (X k))
        have cX := (b2.cell (p := ⟨bx, ox + k, none⟩) hbx).trans (unhide HX k hkn)
        have cY := (b3.cell (p := ⟨by_, oy + k, none⟩) hby).trans (unhide HY k hkn)
        have y3 := (Below.heap_setCell _ ⟨w2.heap.size, 8 + k, none⟩ (.int .i64 (X k)) (w.heap.size + 1) (by simp; omega)).trans y2
        have HB4 := hide (b3.setCell (p := ⟨w2.heap.size, 16 + k, none⟩) (by simp; omega) (.int .i64 (Y k)))
        have HY4 := hide ((Below.heap_setCell _ ⟨w2.heap.size, 16 + k, none⟩ (.int .i64 (Y k)) (w.heap.size + 1) (by simp; omega)).trans y3)
        have HG4 := hide g4
        clear g4 y2 y3 b2 b3 hb
        go_wp2_with fail
        go_roundw
        case rel => exact ⟨k + 1, _, by omega, by go_num, hide ((unhide hAr).next hlt (X k) (Y k) (by rw [if_pos hkn]) (by rw [if_pos hkn]) (fun j => by unfold upd; by_cases u1 : j = 16 + k <;> by_cases u2 : j = 8 + k <;> simp [u1, u2])), unhide HY4, unhide HG4, unhide HB4⟩
        case measure => simp [intOf]; omega
      · have hkn' : ¬ (k : Int) < n := by omega
        have HB4 := hide b2
        have HY4 := hide y2
        have HG4 := hide g2
        clear g2 y2 b2 hb
        go_wp2_with fail
        go_roundw
        case rel => exact ⟨k + 1, _, by omega, by go_num, hide ((unhide hAr).next hlt 0 0 (by rw [if_neg hkn]) (by rw [if_neg hkn]) (fun j => by unfold upd; by_cases u1 : j = 16 + k <;> by_cases u2 : j = 8 + k <;> simp [u1, u2])), unhide HY4, unhide HG4, unhide HB4⟩
        case measure => simp [intOf]; omega
    · have hk8 : k = 8 := by omega
      subst hk8
      have HZ2 := setRow_heap _ _ _ (fc G) _ _ hz
      have HBe := hide (below_setRow hb (show w.heap.size ≤ w.heap.size + 1 by omega) (fc G))
      go_wp2_with (first | refine ld26 rfl _ rfl _ rfl G hg ?_ | refine st26 rfl _ _ rfl (w.heap.size + 1) G rfl rfl zf hz ?_)
      refine bodyPost_ret (v := .agg (fc G)) (results_cell_row Try.results27 _ _ (w.heap.size + 1) 26 (fc G) (0, 0) _ rfl HZ2 Try.underlying26 rfl (szf _)) rfl ⟨⟨G, unhide hAr, rfl⟩, unhide HBe⟩
end Go.Proofs.Ytppcpbhnpdjfpaa
