/-
  LISTS OF EDITS THAT CAME IN.
-/
import Derived.Test.YtppcpbhnpdjfpabOpenS
import Derived.Test.YtppcpbhnpdjfpabStA
namespace Go.Proofs.Ytppcpbhnpdjfpab
open Go.ChangeShapes Go.WideShapes Go.ChangeAt Go.RowKit Go.Joins

theorem cells56 : Try.prog.cellsOf 56 = 25 := by kernel_rfl
section
variable {H : Type} {enc : TypeId × Value → H}
theorem edit_cells {w : World} {base : Nat} {sp : Nat → Bool} {held : Bool} {n : Nat} {cs : List Value} {x : DataW H × List MemPlace} (h : DataW.trod enc Try.prog w base sp held n 56 cs = some x) :
    cs.length = 25 ∧ ∀ j, j < 25 → ∃ m, cs[j]? = some (.int .i64 m) ∧ (Lit.int .i64 m).wf = true := by
  obtain ⟨xs, n1, _, _, hlen, hn, hel⟩ := DataW.trod_struct Try.underlying56 h
  rw [cells56] at hlen
  have hs : ∀ i, i < 2 → (xs[i]?).isSome = true := by
    intro i hi
    have hx : xs.length = 2 := hn
    simp [hx, hi]
  have go0 : ∀ (fd : Field), fd.type = 3 → fd.offset = 0 → DataW.trod enc Try.prog w base sp held n1 fd.type ((cs.drop fd.offset).take (Try.prog.cellsOf fd.type)) = xs[0]? → ∃ m, cs[0]? = some (.int .i64 m) ∧ (Lit.int .i64 m).wf = true := by
    intro fd e1 e2 he
    rw [e1, e2, cells3] at he
    obtain ⟨z, hz⟩ := Option.isSome_iff_exists.1 (hs 0 (by omega))
    rw [hz] at he
    obtain ⟨k, e3, _, e4⟩ := DataW.trod_int Try.underlying3 he
    refine ⟨k, ?_, e4⟩
    have h1 : ((cs.drop 0).take 1)[0]? = some (.int .i64 k) := by rw [e3]; rfl
    rw [List.getElem?_take_of_lt (by omega), List.getElem?_drop] at h1
    simpa using h1
  have go1 : ∀ (fd : Field), fd.type = 54 → fd.offset = 1 → DataW.trod enc Try.prog w base sp held n1 fd.type ((cs.drop fd.offset).take (Try.prog.cellsOf fd.type)) = xs[1]? → ∀ j, j < 24 → ∃ m, cs[1 + j]? = some (.int .i64 m) ∧ (Lit.int .i64 m).wf = true := by
    intro fd e1 e2 he j hj
    rw [e1, e2, cells26] at he
    obtain ⟨z, hz⟩ := Option.isSome_iff_exists.1 (hs 1 (by omega))
    rw [hz] at he
    obtain ⟨_, h2⟩ := feat_cells he
    obtain ⟨m, hm, hw⟩ := h2 j hj
    rw [List.getElem?_take_of_lt hj, List.getElem?_drop] at hm
    exact ⟨m, hm, hw⟩
  refine ⟨hlen, fun j hj => ?_⟩
  by_cases c : j = 0
  · subst c; exact go0 _ rfl rfl (hel 0 _ rfl)
  · have := go1 _ rfl rfl (hel 1 _ rfl) (j - 1) (by omega)
    rwa [show 1 + (j - 1) = j by omega] at this
/-- A list of edits that came in. -/
theorem open_edits {W : World} {r : Reach} {b0 base : Nat} {v : Value} {d : DataW H} {p : List MemPlace} (hv : Value.okWide Try.prog W r b0 34 v) (h : DataW.Trod enc Try.prog W base (fun _ => true) true 34 v d p) :
    v = .slice none 0 0 ∨ ∃ (ad : Addr) (n cap : Nat) (es : Nat → Nat → Int) (elems spare : List (DataW H)), v = .slice (some ad) n cap ∧ d = .slice elems spare ∧ elems.length = n ∧ n ≤ cap ∧ CsAt 25 W v n es ∧ ∀ i, i < n → ∀ j, j < 25 → -9223372036854775808 ≤ es i j ∧ es i j ≤ 9223372036854775807 := by
  obtain ⟨a0, len, cap, rfl⟩ := okWide_slice Try.underlying34 hv
  obtain ⟨fuel, hf⟩ := h
  rcases Go.Deep.open_slice Try.underlying34 hf with ⟨e, _⟩ | ⟨a, len', cap', m, k, D, Pl, e, hb, hl, hcap, hm, hx, hel⟩
  · left
    simpa [Value.cells] using e
  · right
    simp only [Value.cells, List.cons.injEq, Value.slice.injEq, and_true] at e
    obtain ⟨rfl, rfl, rfl⟩ := e
    simp only [Prod.mk.injEq] at hx
    rw [if_pos rfl] at hm
    subst hm
    rw [cells56] at hel
    have each : ∀ i, ∃ f : Nat → Int, i < len → ∀ j, j < 25 → W.cell? ((a.add (i * 25)).add j) = some (.int .i64 (f j)) ∧ -9223372036854775808 ≤ f j ∧ f j ≤ 9223372036854775807 := by
      intro i
      by_cases hi : i < len
      · obtain ⟨cs', h1, h2⟩ := hel i (by omega)
        obtain ⟨g1, g2⟩ := edit_cells h2
        have hc : ∀ j, ∃ q, j < 25 → cs'[j]? = some (.int .i64 q) ∧ (Lit.int .i64 q).wf = true := by
          intro j
          by_cases hj : j < 25
          · obtain ⟨q, hq⟩ := g2 j hj; exact ⟨q, fun _ => hq⟩
          · exact ⟨0, fun h => absurd h hj⟩
        refine ⟨fun j => Classical.choose (hc j), fun _ j hj => ?_⟩
        obtain ⟨q1, q2⟩ := Classical.choose_spec (hc j) hj
        have h3 := (World.cells?_some h1).2.2 j hj
        exact ⟨h3.trans q1, wf_64 q2⟩
      · exact ⟨fun _ => 0, fun h => absurd h hi⟩
    refine ⟨a, len, _, fun i => Classical.choose (each i), _, _, rfl, hx.1, by simp, hl, ⟨_, _, rfl, by omega, fun h0 => ?_⟩, fun i hi j hj => (Classical.choose_spec (each i) hi j hj).2⟩
    have hsp : a.spot = none := by
      have h1 := World.cell?_spot (Classical.choose_spec (each 0) h0 0 (by omega)).1
      simpa [Addr.add] using h1
    refine ⟨a.block, a.off, ?_, ?_, fun i hi j hj => ?_⟩
    · obtain ⟨b, o, s⟩ := a
      simp only at hsp
      subst hsp
      rfl
    · obtain ⟨cs', h1, _⟩ := hel 0 (by omega)
      have := World.cells?_block h1 (by omega)
      simpa [Addr.add] using this
    · have := (Classical.choose_spec (each i) hi j hj).1
      rw [add_add _ _ _ hsp] at this
      exact this
end
end Go.Proofs.Ytppcpbhnpdjfpab
