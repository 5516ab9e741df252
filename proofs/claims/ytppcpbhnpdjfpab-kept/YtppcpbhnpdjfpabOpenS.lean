/-
  THE ARGUMENTS OPENED: a list of features.
-/
import Derived.Test.YtppcpbhnpdjfpabOpen
import Derived.Test.YtppcpbhnpdjfpabInkB
import Derived.Deep.Slices
import Derived.SizedLaws
namespace Go.Proofs.Ytppcpbhnpdjfpab
open Go.ChangeShapes Go.WideShapes Go.ChangeAt Go.RowKit

section
variable {H : Type} {enc : TypeId × Value → H}

theorem add_add (a : Addr) (m j : Nat) (h : a.spot = none) : (a.add m).add j = ⟨a.block, a.off + m + j, none⟩ := by
  obtain ⟨b, o, s⟩ := a
  simp only at h
  subst h
  rw [Addr.add_mid, Addr.add_mid]

/-- A list of features that came in. -/
theorem open_feats {W : World} {r : Reach} {b0 base : Nat} {v : Value} {d : DataW H} {p : List MemPlace} (hv : Value.okWide Try.prog W r b0 43 v) (h : DataW.Trod enc Try.prog W base (fun _ => true) true 43 v d p) :
    v = .slice none 0 0 ∨ ∃ (ad : Addr) (n cap : Nat) (fs : Nat → Nat → Int) (elems spare : List (DataW H)), v = .slice (some ad) n cap ∧ d = .slice elems spare ∧ elems.length = n ∧ FsAt W v n fs ∧ ∀ i, i < n → F64 (fs i) := by
  obtain ⟨a0, len, cap, rfl⟩ := okWide_slice Try.underlying43 hv
  obtain ⟨fuel, hf⟩ := h
  rcases Go.Deep.open_slice Try.underlying43 hf with ⟨e, _⟩ | ⟨a, len', cap', m, k, D, Pl, e, hb, hl, hcap, hm, hx, hel⟩
  · left
    simpa [Value.cells] using e
  · right
    simp only [Value.cells, List.cons.injEq, Value.slice.injEq, and_true] at e
    obtain ⟨rfl, rfl, rfl⟩ := e
    simp only [Prod.mk.injEq] at hx
    rw [if_pos rfl] at hm
    subst hm
    rw [cells26] at hel
    have each : ∀ i, ∃ f : Nat → Int, i < len → (∀ j, j < 24 → W.cell? ((a.add (i * 24)).add j) = some (.int .i64 (f j))) ∧ F64 f := by
      intro i
      by_cases hi : i < len
      · obtain ⟨cs', h1, h2⟩ := hel i (by omega)
        obtain ⟨g1, g2⟩ := feat_cells h2
        obtain ⟨f, e1, e2⟩ := cells_fc (cs := cs'.toArray) (by simpa using g1) (fun j hj => by simpa using g2 j hj)
        refine ⟨f, fun _ => ⟨fun j hj => ?_, e2⟩⟩
        have h3 := (World.cells?_some h1).2.2 j hj
        rw [h3]
        have e3 : cs'.toArray[j]? = some (.int .i64 (f j)) := by rw [e1]; exact fc_at f j hj
        simpa using e3
      · exact ⟨fun _ => 0, fun h => absurd h hi⟩
    refine ⟨a, len, _, fun i => Classical.choose (each i), _, _, rfl, hx.1, by simp, ⟨_, _, rfl, by omega, fun h0 => ?_⟩, fun i hi => (Classical.choose_spec (each i) hi).2⟩
    have hsp : a.spot = none := by
      have h1 := World.cell?_spot ((Classical.choose_spec (each 0) h0).1 0 (by omega))
      simpa [Addr.add] using h1
    refine ⟨a.block, a.off, ?_, ?_, fun i hi j hj => ?_⟩
    · obtain ⟨b, o, s⟩ := a
      simp only at hsp
      subst hsp
      rfl
    · obtain ⟨cs', h1, _⟩ := hel 0 (by omega)
      have := World.cells?_block h1 (by omega)
      simpa [Addr.add] using this
    · have := (Classical.choose_spec (each i) hi).1 j hj
      rw [add_add _ _ _ hsp] at this
      exact this
end
end Go.Proofs.Ytppcpbhnpdjfpab
