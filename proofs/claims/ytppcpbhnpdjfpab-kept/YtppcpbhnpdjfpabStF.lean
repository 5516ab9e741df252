/-
  atlaskeep.edited.
-/
import Derived.Test.YtppcpbhnpdjfpabStE
namespace Go.Proofs.Ytppcpbhnpdjfpab
open Go.RowKit

/-- Values written over others. -/
def setR (xs : List Value) : Nat → List Value → List Value
  | _, [] => xs
  | o, v :: r => setR (xs.set o v) (o + 1) r
theorem setR_len : ∀ (vs xs : List Value) (o : Nat), (setR xs o vs).length = xs.length
  | [], _, _ => rfl
  | v :: r, xs, o => by rw [setR, setR_len r]; simp
theorem setR_at : ∀ (vs xs : List Value) (o k : Nat), o + vs.length ≤ xs.length → (setR xs o vs)[k]? = if o ≤ k ∧ k < o + vs.length then vs[k - o]? else xs[k]?
  | [], xs, o, k, _ => by rw [setR, if_neg (by simp only [List.length_nil]; omega)]
  | v :: r, xs, o, k, h => by
    simp only [List.length_cons] at h
    rw [setR, setR_at r (xs.set o v) (o + 1) k (by simp; omega)]
    by_cases h1 : o + 1 ≤ k ∧ k < o + 1 + r.length
    · rw [if_pos h1, if_pos (by simp only [List.length_cons]; omega), show k - o = (k - (o + 1)) + 1 by omega, List.getElem?_cons_succ]
    · rw [if_neg h1, List.getElem?_set]
      by_cases h2 : o = k
      · subst h2; rw [if_pos rfl, if_pos (by omega), if_pos (by simp only [List.length_cons]; omega)]; simp
      · rw [if_neg h2, if_neg (by simp only [List.length_cons]; omega)]
theorem own_setCells {base : Nat} {e : TypeId} {size g n cap : Nat} : ∀ (vs : List Value) (o : Nat) (w : World) (xs : List Value), w.ownsRow base e size (.slice (some ⟨g, 0, none⟩) n cap) n xs →
    (w.setCells g o vs).ownsRow base e size (.slice (some ⟨g, 0, none⟩) n cap) n (setR xs o vs) ∧ w.grownBy (w.setCells g o vs) (some g)
  | [], _, w, _, h => ⟨h, World.grownBy.refl _ _⟩
  | v :: r, o, w, xs, h => by
    obtain ⟨h1, h2⟩ := World.ownsRow.stored h o v
    obtain ⟨h3, h4⟩ := own_setCells r (o + 1) _ _ h1
    exact ⟨h3, h4.os.trans h2.os, h4.tape.trans h2.tape, h4.output.trans h2.output, Nat.le_trans h2.size h4.size, fun k hk hne => (h4.block k (Nat.lt_of_lt_of_le hk h2.size) hne).trans (h2.block k hk hne)⟩
theorem set_gf (l : List (Nat → Int)) (i : Nat) (f : Nat → Int) (k : Nat) (hk : k < l.length) : gf (l.set i f) k = if k = i then f else gf l k := by
  unfold gf
  rw [List.getElem?_set]
  by_cases e : i = k
  · subst e; rw [if_pos rfl, if_pos hk, if_pos rfl]; rfl
  · rw [if_neg e, if_neg (fun h => e h.symm)]
/-- A whole row is written. -/
theorem OwnC.row {T : TypeId} {m : Nat} {w : World} {B g cap : Nat} {l : List (Nat → Int)} (h : OwnC T m w B (.slice (some ⟨g, 0, none⟩) l.length cap) l) (i : Nat) (hi : i < l.length) (hm : 0 < m) (f : Nat → Int) :
    OwnC T m (w.setCells g (i * m) (cc m f).toList) B (.slice (some ⟨g, 0, none⟩) l.length cap) (l.set i f) ∧ w.grownBy (w.setCells g (i * m) (cc m f).toList) (some g) := by
  obtain ⟨h1, h2⟩ := own_setCells (cc m f).toList (i * m) w _ h
  refine ⟨?_, h2⟩
  unfold OwnC
  rw [List.length_set]
  have hle : i * m + m ≤ l.length * m := by rw [← Nat.succ_mul]; exact Nat.mul_le_mul_right _ hi
  have e : fl m (l.set i f) = setR (fl m l) (i * m) (cc m f).toList := by
    apply List.ext_getElem?
    intro k
    rw [setR_at _ _ _ _ (by rw [ccl_len, fl_len]; exact hle), ccl_len]
    by_cases hk : k < l.length * m
    · have q1 : k / m < l.length := (Nat.div_lt_iff_lt_mul hm).2 hk
      have q2 : k % m < m := Nat.mod_lt _ hm
      have e : k / m * m + k % m = k := Nat.div_add_mod' k m
      by_cases c : k / m = i
      · rw [if_pos (by rw [← c]; omega)]
        have : k - i * m = k % m := by rw [← c]; omega
        rw [this, ← e, fl_at m _ _ _ (by rw [List.length_set]; exact q1) q2, set_gf _ _ _ _ q1, if_pos c, e, Array.getElem?_toList, cc_at m f _ q2]
      · rw [if_neg (fun hh => c (by
          have a1 : i ≤ k / m := (Nat.le_div_iff_mul_le hm).2 hh.1
          have a2 : k / m < i + 1 := (Nat.div_lt_iff_lt_mul hm).2 (by rw [Nat.succ_mul]; exact hh.2)
          omega))]
        rw [← e, fl_at m _ _ _ (by rw [List.length_set]; exact q1) q2, set_gf _ _ _ _ q1, if_neg c, fl_at m _ _ _ q1 q2]
    · rw [if_neg (by omega), List.getElem?_eq_none (by rw [fl_len, List.length_set]; omega), List.getElem?_eq_none (by rw [fl_len]; omega)]
  rw [e]
  exact h1
theorem OwnC.there {T : TypeId} {m : Nat} {w : World} {B g cap : Nat} {l : List (Nat → Int)} (h : OwnC T m w B (.slice (some ⟨g, 0, none⟩) l.length cap) l) (i : Nat) (hi : i < l.length) : w.there g (i * m) m := by
  intro j hj
  have hlt : i * m + j < l.length * m := by
    have : (i + 1) * m ≤ l.length * m := Nat.mul_le_mul_right _ hi
    rw [Nat.succ_mul] at this
    omega
  refine ⟨?_, World.ownsRow.frozenAt h _⟩
  rw [World.ownsRow.cellAt h _ hlt, fl_at m l i j hi hj]
  rfl
/-- A feature is stored into a list of the call's own. -/
theorem st_row {ops : Array Oper} {rest : List Oper} {o : Oper} {a : Act} {w : World} {Q : Exit → Act → World → Prop} (hgd : o.guard = none) (x y : Operand) (ho : o.op = .store 54 x y) {B g cap : Nat} {l : List (Nat → Int)} (hown : OwnC 54 24 w B (.slice (some ⟨g, 0, none⟩) l.length cap) l) (i : Nat) (hi : i < l.length) (f : Nat → Int)
    (hx : a.eval x = .pointer (some ⟨g, i * 24, none⟩)) (hy : a.eval y = .agg (fc f)) (h : wpList Try.prog ops Q rest (a.put o.dst undef) (w.setCells g (i * 24) (cc 24 f).toList)) : wpList Try.prog ops Q (o :: rest) a w :=
  wpList_store_mid hgd 54 x y ho g (i * 24) (fc f) hx hy (by rw [fc_size]; exact hown.there i hi) (szf f) (fc_one f) h
/-- The last row is left out. -/
theorem OwnC.pop {T : TypeId} {m : Nat} {w : World} {B g cap n : Nat} {l : List (Nat → Int)} (h : OwnC T m w B (.slice (some ⟨g, 0, none⟩) (n + 1) cap) l) (hl : l.length = n + 1) : OwnC T m w B (.slice (some ⟨g, 0, none⟩) n cap) l.dropLast := by
  have hne : l ≠ [] := fun e => by rw [e] at hl; simp at hl
  have hd : l.dropLast.length = n := by simp [hl]
  unfold OwnC at *
  rw [hd]
  rw [hl] at h
  refine ownsRow_pop (last := (cc m (l.getLast hne)).toList) (by rw [fl_len, hd]) ?_
  rw [← fl_snoc, List.dropLast_concat_getLast]
  exact h
theorem Try.info54 : (Try.prog.info? 54).map (fun i => (i.zero, i.size, i.bytes)) = some (some (.agg (fc zf)), 24, 192) := by kernel_rfl
theorem run_ap43_nil (w : World) : (Builtin.append_ #[43, 43] 43 #[.slice none 0 0, .slice none 0 0]).run Try.prog w = .ok (.slice none 0 0) w := by kernel_rfl
/-- Features are appended. -/
theorem run_apF (w : World) (B : Nat) (v : Value) (l news : List (Nat → Int)) (hown : OwnC 54 24 w B v l) (b off c : Nat) (hnews : ∀ i, i < news.length → ∀ j, j < 24 → w.cell? ⟨b, off + i * 24 + j, none⟩ = some (.int .i64 (gf news i j)))
    (hlen : l.length + news.length ≤ 10000) (hB : B ≤ w.heap.size) :
    ∃ v' w', (Builtin.append_ #[43, 43] 43 #[v, .slice (some ⟨b, off, none⟩) news.length c]).run Try.prog w = .ok v' w' ∧ OwnC 54 24 w' B v' (l ++ news) ∧ w.grownBy w' v.ownBlock := by
  obtain ⟨i0, hi, hz0, hz1, hz2⟩ := info_parts Try.info54
  obtain ⟨v', w', hrun, r1, r2, _⟩ := run_append_own (P := Try.prog) w B 43 43 54 i0 (.agg (fc zf)) 24 192 Try.underlying43 hi hz0 hz1 hz2 (fc_size zf) (by decide) v l.length (fl 24 l) hown ⟨b, off, none⟩ news.length c (fl 24 news) (fl_len 24 news)
    (fun j u hj => by
      have hlt : j < news.length * 24 := by
        have := (List.getElem?_eq_some_iff.1 hj).1
        rwa [fl_len] at this
      have h1 : j / 24 < news.length := by omega
      have e : j / 24 * 24 + j % 24 = j := by omega
      rw [← e, fl_at 24 news _ _ h1 (by omega)] at hj
      rw [Addr.add_mid, ← Option.some.inj hj, show off + j = off + j / 24 * 24 + j % 24 by omega]
      exact hnews _ h1 _ (by omega))
    (fl_one 24 news) (by unfold maxLen; omega) (by omega) hB
  refine ⟨v', w', hrun, ?_, r2⟩
  unfold OwnC
  rw [fl_app]
  simpa using r1
theorem ex_apF {w w' : World} {v x' v' : Value} (hr : (Builtin.append_ #[43, 43] 43 #[v, x']).run Try.prog w = .ok v' w') (a : Act) (o : Oper) (s x : Operand) (ho : o.op = .call { callee := .builtin .append, args := #[s, x], argTypes := #[43, 43] }) (ht : o.type = 43) (hs : a.eval s = v) (hx : a.eval x = x') : (execOp a.eval o).run Try.prog w = .ok (.value v') w' := by
  unfold execOp
  simp only [ho, resolve, invoke, builtin]
  simp [hs, hx, ht, hr, Result.andThen]
theorem wl_apF {ops : Array Oper} {rest : List Oper} {o : Oper} {a : Act} {Q : Exit → Act → World → Prop} {W w' : World} {v x' v' : Value} (hr : (Builtin.append_ #[43, 43] 43 #[v, x']).run Try.prog W = .ok v' w') (hgd : o.guard = none) (s x : Operand) (ho : o.op = .call { callee := .builtin .append, args := #[s, x], argTypes := #[43, 43] }) (ht : o.type = 43) (hs : a.eval s = v) (hx : a.eval x = x')
    (h : wpList Try.prog ops Q rest (a.put o.dst v') w') : wpList Try.prog ops Q (o :: rest) a W :=
  wpList_plain hgd fun _ hK => by
    unfold Oper.wp
    rw [ex_apF hr a o s x ho ht hs hx]
    exact hK _ _ h
/-- All features, copied. -/
theorem run_apFs (w : World) (B : Nat) (v : Value) (L : List (Nat → Int)) (hv : CsAt 24 w v L.length (gf L)) (hne : v = .slice none 0 0 ∨ ∃ b off c, v = .slice (some ⟨b, off, none⟩) L.length c) (hl : L.length ≤ 1000) (hB : B ≤ w.heap.size) :
    ∃ v' w', (Builtin.append_ #[43, 43] 43 #[.slice none 0 0, v]).run Try.prog w = .ok v' w' ∧ OwnC 54 24 w' B v' L ∧ w.grownBy w' none := by
  obtain ⟨oa, cap, rfl, _, hc⟩ := hv
  rcases hne with e | ⟨b, off, c, e⟩
  · simp only [Value.slice.injEq] at e
    obtain ⟨rfl, hn, rfl⟩ := e
    obtain rfl : L = [] := List.eq_nil_of_length_eq_zero hn
    exact ⟨_, _, run_ap43_nil w, ownC_nil _ _ _ _, World.grownBy.refl _ _⟩
  · simp only [Value.slice.injEq, true_and] at e
    obtain ⟨rfl, rfl⟩ := e
    obtain ⟨v', w', r1, r2, r3⟩ := run_apF w B (.slice none 0 0) [] L (ownC_nil _ _ _ _) b off cap (fun i hi j hj => by
      obtain ⟨b', off', e, _, hc'⟩ := hc (by omega)
      simp only [Option.some.injEq, Addr.mk.injEq, and_true] at e
      obtain ⟨rfl, rfl⟩ := e
      exact hc' i hi j hj) (by simp; omega) hB
    exact ⟨v', w', r1, by simpa using r2, r3⟩
end Go.Proofs.Ytppcpbhnpdjfpab
