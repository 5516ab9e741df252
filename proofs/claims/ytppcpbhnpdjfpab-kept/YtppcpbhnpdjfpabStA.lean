/-
  ROWS OF NUMBERS: features, edits, lives; lists of them that a call owns.
-/
import Derived.Test.YtppcpbhnpdjfpabLocB
import Derived.Deep.MidRow
import Derived.WalkSmall
namespace Go.Proofs.Ytppcpbhnpdjfpab
open Go.RowKit

/-- n numbers. -/
def cc (n : Nat) (f : Nat → Int) : Array Value := (Array.range n).map fun i => .int .i64 (f i)
theorem cc_fc (f : Nat → Int) : fc f = cc 24 f := rfl
theorem cc_size (n : Nat) (f : Nat → Int) : (cc n f).size = n := by simp [cc]
theorem cc_at (n : Nat) (f : Nat → Int) (i : Nat) (h : i < n) : (cc n f)[i]? = some (.int .i64 (f i)) := by simp [cc, h]
theorem cc_one (n : Nat) (f : Nat → Int) : (cc n f).all (·.oneCell') = true := by
  rw [Array.all_eq_true_iff_forall_mem]
  intro v hv
  simp only [cc, Array.mem_map] at hv
  obtain ⟨i, _, rfl⟩ := hv
  rfl
theorem ccl_len (n : Nat) (f : Nat → Int) : (cc n f).toList.length = n := by rw [Array.length_toList, cc_size]
theorem cc_ext {n : Nat} {f g : Nat → Int} (h : ∀ i, i < n → f i = g i) : cc n f = cc n g := by
  apply Array.ext_getElem?
  intro j
  by_cases hj : j < n
  · rw [cc_at _ _ j hj, cc_at _ _ j hj, h j hj]
  · rw [Array.getElem?_eq_none (by rw [cc_size]; omega), Array.getElem?_eq_none (by rw [cc_size]; omega)]
theorem cc_set (n : Nat) (f : Nat → Int) (i : Nat) (v : Int) : (cc n f).setIfInBounds i (.int .i64 v) = cc n (upd f i v) := by
  apply Array.ext_getElem?
  intro j
  by_cases hj : j < n
  · rw [cc_at _ _ j hj]
    by_cases e : i = j
    · subst e; rw [Array.getElem?_setIfInBounds_self_of_lt (by rw [cc_size]; exact hj)]; simp [upd]
    · rw [Array.getElem?_setIfInBounds_ne e, cc_at _ _ j hj]; simp [upd, Ne.symm e]
  · rw [Array.getElem?_eq_none (by simp [cc_size]; omega), Array.getElem?_eq_none (by rw [cc_size]; omega)]

/-- Rows of m numbers, one behind the other. -/
def fl (m : Nat) (l : List (Nat → Int)) : List Value := l.flatMap fun f => (cc m f).toList
theorem fl_cons (m : Nat) (f : Nat → Int) (l : List (Nat → Int)) : fl m (f :: l) = (cc m f).toList ++ fl m l := rfl
theorem fl_app (m : Nat) (l l' : List (Nat → Int)) : fl m (l ++ l') = fl m l ++ fl m l' := by simp [fl]
theorem fl_snoc (m : Nat) (l : List (Nat → Int)) (f : Nat → Int) : fl m (l ++ [f]) = fl m l ++ (cc m f).toList := by simp [fl]
theorem fl_len (m : Nat) : ∀ l : List (Nat → Int), (fl m l).length = l.length * m
  | [] => by simp [fl]
  | f :: l => by rw [fl_cons, List.length_append, fl_len m l, ccl_len, List.length_cons, Nat.succ_mul]; omega
theorem fl_at (m : Nat) : ∀ (l : List (Nat → Int)) (i j : Nat), i < l.length → j < m → (fl m l)[i * m + j]? = some (.int .i64 (gf l i j))
  | [], i, _, h, _ => by simp at h
  | f :: l, 0, j, _, hj => by
    rw [fl_cons, List.getElem?_append_left (by rw [ccl_len]; omega), Nat.zero_mul, Nat.zero_add, Array.getElem?_toList, cc_at m f j hj]; rfl
  | f :: l, i + 1, j, hi, hj => by
    rw [fl_cons, List.getElem?_append_right (by rw [ccl_len, Nat.succ_mul]; omega), ccl_len, gf_cons, show (i + 1) * m + j - m = i * m + j by rw [Nat.succ_mul]; omega]
    exact fl_at m l i j (by simpa using hi) hj
theorem fl_one (m : Nat) (l : List (Nat → Int)) : ∀ v ∈ fl m l, v.oneCell' = true := by
  intro v hv
  simp only [fl, List.mem_flatMap] at hv
  obtain ⟨f, _, hf⟩ := hv
  have := cc_one m f
  rw [Array.all_eq_true_iff_forall_mem] at this
  exact this v (by simpa using hf)
theorem fl_ext {m : Nat} {l l' : List (Nat → Int)} (h : l.length = l'.length) (h' : ∀ i, i < l.length → ∀ j, j < m → gf l i j = gf l' i j) : fl m l = fl m l' := by
  apply List.ext_getElem?
  intro k
  by_cases hk : k < l.length * m
  · have hm : 0 < m := by rcases Nat.eq_zero_or_pos m with e | e
                          · subst e; simp at hk
                          · exact e
    have h1 : k / m < l.length := (Nat.div_lt_iff_lt_mul hm).2 hk
    have h2 : k % m < m := Nat.mod_lt _ hm
    have e : k / m * m + k % m = k := Nat.div_add_mod' k m
    rw [← e, fl_at m l _ _ h1 h2, fl_at m l' _ _ (by omega) h2, h' _ h1 _ h2]
  · rw [List.getElem?_eq_none (by rw [fl_len]; omega), List.getElem?_eq_none (by rw [fl_len, ← h]; omega)]
/-- The slice v holds n rows of m numbers. -/
def CsAt (m : Nat) (W : World) (v : Value) (n : Nat) (fs : Nat → Nat → Int) : Prop :=
  ∃ (oa : Option Addr) (cap : Nat), v = .slice oa n cap ∧ n ≤ maxLen ∧ (0 < n → ∃ b off, oa = some ⟨b, off, none⟩ ∧ b < W.heap.size ∧ ∀ i, i < n → ∀ j, j < m → W.cell? ⟨b, off + i * m + j, none⟩ = some (.int .i64 (fs i j)))
theorem csAt_fs (W : World) (v : Value) (n : Nat) (fs : Nat → Nat → Int) : CsAt 24 W v n fs ↔ FsAt W v n fs := Iff.rfl
theorem CsAt.on {m : Nat} {W W' : World} {v : Value} {n : Nat} {fs : Nat → Nat → Int} (h : CsAt m W v n fs) (hb : Below W.heap.size W W') : CsAt m W' v n fs := by
  obtain ⟨oa, cap, e, hm, h⟩ := h
  refine ⟨oa, cap, e, hm, fun hn => ?_⟩
  obtain ⟨b, off, e', hlt, hc⟩ := h hn
  exact ⟨b, off, e', Nat.lt_of_lt_of_le hlt hb.size, fun i hi j hj => (hb.cell (p := ⟨b, off + i * m + j, none⟩) hlt).trans (hc i hi j hj)⟩
theorem cs_rng {m : Nat} {W : World} {b off n : Nat} {fs : Nat → Nat → Int} (hc : ∀ i, i < n → ∀ j, j < m → W.cell? ⟨b, off + i * m + j, none⟩ = some (.int .i64 (fs i j))) {k : Nat} (hk : k < n) : W.rangeAt b (off + k * m) (cc m (fs k)).toList := by
  intro j v hv
  have hj : j < m := by
    have := (List.getElem?_eq_some_iff.1 hv).1
    simpa [cc_size] using this
  have e : (cc m (fs k))[j]? = some v := by simpa using hv
  rw [cc_at _ _ j hj] at e
  rw [hc k hk j hj, e]
/-- A list of rows (of the type T, of m numbers each) that the call owns. -/
def OwnC (T : TypeId) (m : Nat) (w : World) (B : Nat) (v : Value) (l : List (Nat → Int)) : Prop := w.ownsRow B T m v l.length (fl m l)
theorem ownC_F (w : World) (B : Nat) (v : Value) (l : List (Nat → Int)) : OwnC 54 24 w B v l ↔ OwnF w B v l := Iff.rfl
section
variable {T : TypeId} {m : Nat} {w w' : World} {B : Nat} {v : Value} {l : List (Nat → Int)}
theorem ownC_nil (T : TypeId) (m : Nat) (w : World) (B : Nat) : OwnC T m w B (.slice none 0 0) [] := World.ownsRow_nil _ _ _ _
theorem OwnC.kept {row : Option Nat} (h : OwnC T m w B v l) (hg : w.grownBy w' row) (hne : ∀ g, v.ownBlock = some g → row ≠ some g) : OwnC T m w' B v l := by
  obtain ⟨h1, h2⟩ := h
  refine ⟨h1, ?_⟩
  rcases h2 with h2 | ⟨g, cap, cur, hv, hg', hh, r⟩
  · exact Or.inl h2
  · refine Or.inr ⟨g, cap, cur, hv, hg', ?_, r⟩
    have hlt : g < w.heap.size := (Array.getElem?_eq_some_iff.1 hh).1
    rw [hg.block g hlt (fun e => hne g (by rw [hv]; rfl) e.symm)]
    exact hh
/-- What keeps the row's own block keeps the row. -/
theorem OwnC.same (h : OwnC T m w B v l) (hg : ∀ g, v.ownBlock = some g → w'.heap[g]? = w.heap[g]?) : OwnC T m w' B v l := by
  obtain ⟨h1, h2⟩ := h
  refine ⟨h1, ?_⟩
  rcases h2 with h2 | ⟨g, cap, cur, hv, hg', hh, r⟩
  · exact Or.inl h2
  · exact Or.inr ⟨g, cap, cur, hv, hg', (hg g (by rw [hv]; rfl)).trans hh, r⟩
theorem OwnC.on (h : OwnC T m w B v l) (hb : Below w.heap.size w w') : OwnC T m w' B v l := h.same fun g hg => hb.block g (World.ownsRow.lt h g hg).2
theorem OwnC.alloc (h : OwnC T m w B v l) (o : Obj) : OwnC T m (w.alloc o) B v l := World.ownsRow.alloc h o
theorem OwnC.lt (h : OwnC T m w B v l) : ∀ k, v.ownBlock = some k → B ≤ k ∧ k < w.heap.size := World.ownsRow.lt h
theorem OwnC.mono {B' : Nat} (h : OwnC T m w B v l) (hB : B' ≤ B) : OwnC T m w B' v l := by
  obtain ⟨h1, h2⟩ := h
  refine ⟨h1, ?_⟩
  rcases h2 with h2 | ⟨g, cap, cur, hv, hg', hh, r⟩
  · exact Or.inl h2
  · exact Or.inr ⟨g, cap, cur, hv, by omega, hh, r⟩
theorem OwnC.at (h : OwnC T m w B v l) (hl : l.length ≤ maxLen) : CsAt m w v l.length (gf l) := by
  have h0 := h
  rcases h.2 with ⟨rfl, hn⟩ | ⟨g, cap, cur, rfl, _, hg, _⟩
  · rw [hn]; exact ⟨none, 0, rfl, Nat.zero_le _, fun h => absurd h (by omega)⟩
  · refine ⟨_, cap, rfl, hl, fun _ => ⟨g, 0, rfl, (Array.getElem?_eq_some_iff.1 hg).1, fun i hi j hj => ?_⟩⟩
    have hlt : i * m + j < l.length * m := by
      have : (i + 1) * m ≤ l.length * m := Nat.mul_le_mul_right _ hi
      rw [Nat.succ_mul] at this
      omega
    rw [Nat.zero_add, World.ownsRow.cellAt h0 (i * m + j) hlt, fl_at m l i j hi hj]
theorem OwnC.ext {l' : List (Nat → Int)} (h : OwnC T m w B v l) (hl : l.length = l'.length) (h' : ∀ i, i < l.length → ∀ j, j < m → gf l i j = gf l' i j) : OwnC T m w B v l' := by
  unfold OwnC at *
  rw [← fl_ext hl h', ← hl]
  exact h
theorem OwnC.form (h : OwnC T m w B v l) (hn : 0 < l.length) : ∃ g cap, v = .slice (some ⟨g, 0, none⟩) l.length cap ∧ B ≤ g ∧ g < w.heap.size := by
  rcases h.2 with ⟨_, e⟩ | ⟨g, cap, cur, hv, hb, hh, _⟩
  · omega
  · exact ⟨g, cap, hv, hb, (Array.getElem?_eq_some_iff.1 hh).1⟩
end
/-- Place j of the i-th row is written. -/
def setL (l : List (Nat → Int)) (i j : Nat) (x : Int) : List (Nat → Int) := l.set i (upd (gf l i) j x)
theorem setL_len (l : List (Nat → Int)) (i j : Nat) (x : Int) : (setL l i j x).length = l.length := by simp [setL]
theorem setL_gf (l : List (Nat → Int)) (i j : Nat) (x : Int) (k : Nat) (hk : k < l.length) : gf (setL l i j x) k = if k = i then upd (gf l i) j x else gf l k := by
  unfold setL gf
  rw [List.getElem?_set]
  by_cases e : i = k
  · subst e; rw [if_pos rfl, if_pos hk, if_pos rfl]; rfl
  · rw [if_neg e, if_neg (fun h => e h.symm)]
theorem OwnC.stored {T : TypeId} {m : Nat} {w : World} {B g cap : Nat} {l : List (Nat → Int)} (h : OwnC T m w B (.slice (some ⟨g, 0, none⟩) l.length cap) l) (i j : Nat) (hi : i < l.length) (hj : j < m) (x : Int) :
    OwnC T m (w.setCell ⟨g, i * m + j, none⟩ (.int .i64 x)) B (.slice (some ⟨g, 0, none⟩) l.length cap) (setL l i j x) ∧ w.grownBy (w.setCell ⟨g, i * m + j, none⟩ (.int .i64 x)) (some g) := by
  have := World.ownsRow.stored h (i * m + j) (.int .i64 x)
  refine ⟨?_, this.2⟩
  unfold OwnC
  rw [setL_len]
  have e : fl m (setL l i j x) = (fl m l).set (i * m + j) (.int .i64 x) := by
    apply List.ext_getElem?
    intro k
    by_cases hk : k < l.length * m
    · have hm : 0 < m := by omega
      have h1 : k / m < l.length := (Nat.div_lt_iff_lt_mul hm).2 hk
      have h2 : k % m < m := Nat.mod_lt _ hm
      have e : k / m * m + k % m = k := Nat.div_add_mod' k m
      rw [List.getElem?_set]
      by_cases c : i * m + j = k
      · have q1 : k / m = i := by rw [← c, Nat.add_comm, Nat.add_mul_div_right _ _ hm, Nat.div_eq_of_lt hj]; omega
        have q2 : k % m = j := by rw [← c, Nat.add_comm, Nat.add_mul_mod_self_right, Nat.mod_eq_of_lt hj]
        rw [if_pos c, if_pos (by rw [fl_len, c]; exact hk), ← e, fl_at m _ _ _ (by rw [setL_len]; exact h1) h2, q1, q2, setL_gf _ _ _ _ _ hi, if_pos rfl]
        simp [upd]
      · rw [if_neg c, ← e, fl_at m _ _ _ (by rw [setL_len]; exact h1) h2, fl_at m _ _ _ h1 h2, setL_gf _ _ _ _ _ h1]
        by_cases d : k / m = i
        · rw [if_pos d]
          have : k % m ≠ j := fun d' => c (by rw [← d, ← d']; exact e)
          simp only [upd, if_neg this, d]
        · rw [if_neg d]
    · rw [List.getElem?_eq_none (by rw [fl_len, setL_len]; omega), List.getElem?_eq_none (by rw [List.length_set, fl_len]; omega)]
  rw [e]
  exact this.1
end Go.Proofs.Ytppcpbhnpdjfpab
