/-
  TURNS THAT CAME IN.
-/
import Derived.Test.YtppcpbhnpdjfpabOpenE
import Derived.Test.YtppcpbhnpdjfpabKpJ
namespace Go.Proofs.Ytppcpbhnpdjfpab
open Go.ChangeShapes Go.WideShapes Go.ChangeAt Go.RowKit Go.Joins

theorem cells36 : Try.prog.cellsOf 36 = 4 := by kernel_rfl
theorem cells34 : Try.prog.cellsOf 34 = 1 := by kernel_rfl
theorem cells4 : Try.prog.cellsOf 4 = 1 := by kernel_rfl
section
variable {H : Type} {enc : TypeId × Value → H}
theorem edits_of {W : World} {base fuel : Nat} {cs : List Value} {x : DataW H × List MemPlace} (hf : DataW.trod enc Try.prog W base (fun _ => true) true fuel 34 cs = some x) :
    ∃ v, cs = [v] ∧ ∃ m es, CsAt 25 W v m es ∧ ∀ q, q < m → ∀ j, j < 25 → -9223372036854775808 ≤ es q j ∧ es q j ≤ 9223372036854775807 := by
  rcases Go.Deep.open_slice Try.underlying34 hf with ⟨e, _⟩ | ⟨a, len, cap, m, k, D, Pl, e, hb, hl, hcap, hm, hx, hel⟩
  · exact ⟨_, e, 0, fun _ _ => 0, ⟨none, 0, rfl, Nat.zero_le _, fun h => absurd h (by omega)⟩, fun q hq => absurd hq (by omega)⟩
  · refine ⟨_, e, len, ?_⟩
    rw [if_pos rfl] at hm
    subst hm
    rw [cells56] at hel
    have each : ∀ i, ∃ f : Nat → Int, i < len → ∀ j, j < 25 → W.cell? ((a.add (i * 25)).add j) = some (.int .i64 (f j)) ∧ -9223372036854775808 ≤ f j ∧ f j ≤ 9223372036854775807 := by
      intro i
      by_cases hi : i < len
      · obtain ⟨cs', h1, h2⟩ := hel i (by omega)
        obtain ⟨g1, g2⟩ := edit_cells h2
        have hc : ∀ j, ∃ q, j < 25 → cs'[j]? = some (.int .i64 q) ∧ (Lit.int .i64 q).wf = true := by
          intro j
          by_cases hj : j < 25
          · obtain ⟨q, hq⟩ := g2 j hj; exact ⟨q, fun _ => hq⟩
          · exact ⟨0, fun h => absurd h hj⟩
        refine ⟨fun j => Classical.choose (hc j), fun _ j hj => ?_⟩
        obtain ⟨q1, q2⟩ := Classical.choose_spec (hc j) hj
        have h3 := (World.cells?_some h1).2.2 j hj
        exact ⟨h3.trans q1, wf_64 q2⟩
      · exact ⟨fun _ => 0, fun h => absurd h hi⟩
    refine ⟨fun i => Classical.choose (each i), ⟨_, _, rfl, by omega, fun h0 => ?_⟩, fun i hi j hj => (Classical.choose_spec (each i) hi j hj).2⟩
    have hsp : a.spot = none := by
      have h1 := World.cell?_spot (Classical.choose_spec (each 0) h0 0 (by omega)).1
      simpa [Addr.add] using h1
    refine ⟨a.block, a.off, ?_, ?_, fun i hi j hj => ?_⟩
    · obtain ⟨b, o, s⟩ := a
      simp only at hsp
      subst hsp
      rfl
    · obtain ⟨cs', h1, _⟩ := hel 0 (by omega)
      have := World.cells?_block h1 (by omega)
      simpa [Addr.add] using this
    · have := (Classical.choose_spec (each i) hi j hj).1
      rw [add_add _ _ _ hsp] at this
      exact this
theorem take_one {l : List Value} {off : Nat} {v : Value} (h : (l.drop off).take 1 = [v]) : l[off]? = some v := by
  have h1 : ((l.drop off).take 1)[0]? = some v := by rw [h]; rfl
  rw [List.getElem?_take_of_lt (by omega), List.getElem?_drop] at h1
  simpa using h1
theorem turn_cells {W : World} {base n : Nat} {cs : List Value} {x : DataW H × List MemPlace} (h : DataW.trod enc Try.prog W base (fun _ => true) true n 36 cs = some x) :
    ∃ (v : Value) (p q : Int) (b : Bool), cs[0]? = some v ∧ cs[1]? = some (.int .i64 p) ∧ cs[2]? = some (.int .i64 q) ∧ cs[3]? = some (.bool b) ∧ (-9223372036854775808 ≤ q ∧ q ≤ 9223372036854775807) ∧ ∃ m es, CsAt 25 W v m es ∧ ∀ q, q < m → ∀ j, j < 25 → -9223372036854775808 ≤ es q j ∧ es q j ≤ 9223372036854775807 := by
  obtain ⟨xs, n1, _, _, hlen, hn, hel⟩ := DataW.trod_struct Try.underlying36 h
  have hs : ∀ i, i < 4 → (xs[i]?).isSome = true := by
    intro i hi
    have hx : xs.length = 4 := hn
    simp [hx, hi]
  have goI : ∀ (i : Nat) (fd : Field), i < 4 → fd.type = 3 → fd.offset = i → DataW.trod enc Try.prog W base (fun _ => true) true n1 fd.type ((cs.drop fd.offset).take (Try.prog.cellsOf fd.type)) = xs[i]? → ∃ m, cs[i]? = some (.int .i64 m) ∧ (Lit.int .i64 m).wf = true := by
    intro i fd hi e1 e2 he
    rw [e1, e2, cells3] at he
    obtain ⟨z, hz⟩ := Option.isSome_iff_exists.1 (hs i hi)
    rw [hz] at he
    obtain ⟨k, e3, _, e4⟩ := DataW.trod_int Try.underlying3 he
    exact ⟨k, take_one e3, e4⟩
  have goB : ∀ (fd : Field), fd.type = 4 → fd.offset = 3 → DataW.trod enc Try.prog W base (fun _ => true) true n1 fd.type ((cs.drop fd.offset).take (Try.prog.cellsOf fd.type)) = xs[3]? → ∃ b, cs[3]? = some (.bool b) := by
    intro fd e1 e2 he
    rw [e1, e2, cells4] at he
    obtain ⟨z, hz⟩ := Option.isSome_iff_exists.1 (hs 3 (by omega))
    rw [hz] at he
    obtain ⟨k, e3, _⟩ := DataW.trod_bool Try.underlying4 he
    exact ⟨k, take_one e3⟩
  have goS : ∀ (fd : Field), fd.type = 34 → fd.offset = 0 → DataW.trod enc Try.prog W base (fun _ => true) true n1 fd.type ((cs.drop fd.offset).take (Try.prog.cellsOf fd.type)) = xs[0]? → ∃ v, cs[0]? = some v ∧ ∃ m es, CsAt 25 W v m es ∧ ∀ q, q < m → ∀ j, j < 25 → -9223372036854775808 ≤ es q j ∧ es q j ≤ 9223372036854775807 := by
    intro fd e1 e2 he
    rw [e1, e2, cells34] at he
    obtain ⟨z, hz⟩ := Option.isSome_iff_exists.1 (hs 0 (by omega))
    rw [hz] at he
    obtain ⟨v, e3, r⟩ := edits_of he
    exact ⟨v, take_one e3, r⟩
  obtain ⟨v, h0, hE⟩ := goS _ rfl rfl (hel 0 _ rfl)
  obtain ⟨p, h1, _⟩ := goI 1 _ (by omega) rfl rfl (hel 1 _ rfl)
  obtain ⟨q, h2, hq⟩ := goI 2 _ (by omega) rfl rfl (hel 2 _ rfl)
  obtain ⟨b, h3⟩ := goB _ rfl rfl (hel 3 _ rfl)
  exact ⟨v, p, q, b, h0, h1, h2, h3, wf_64 hq, hE⟩
/-- A script that came in. -/
theorem open_turns {W : World} {r : Reach} {b0 base : Nat} {v : Value} {d : DataW H} {p : List MemPlace} (hv : Value.okWide Try.prog W r b0 22 v) (h : DataW.Trod enc Try.prog W base (fun _ => true) true 22 v d p) :
    ∃ N bv P V L, TsAt W v N bv P V L ∧ (∀ i, i < N → ∃ m es, CsAt 25 W (bv i) m es ∧ ∀ q, q < m → ∀ j, j < 25 → -9223372036854775808 ≤ es q j ∧ es q j ≤ 9223372036854775807) ∧ ∀ i, i < N → -9223372036854775808 ≤ V i ∧ V i ≤ 9223372036854775807 := by
  obtain ⟨a0, len, cap, rfl⟩ := okWide_slice Try.underlying22 hv
  obtain ⟨fuel, hf⟩ := h
  rcases Go.Deep.open_slice Try.underlying22 hf with ⟨e, _⟩ | ⟨a, len', cap', m, k, D, Pl, e, hb, hl, hcap, hm, hx, hel⟩
  · simp only [Value.cells, List.cons.injEq, Value.slice.injEq, and_true] at e
    obtain ⟨rfl, rfl, rfl⟩ := e
    exact ⟨0, fun _ => .slice none 0 0, fun _ => 0, fun _ => 0, fun _ => false, ⟨none, 0, rfl, Nat.zero_le _, fun h => absurd h (by omega)⟩, fun i hi => absurd hi (by omega), fun i hi => absurd hi (by omega)⟩
  · simp only [Value.cells, List.cons.injEq, Value.slice.injEq, and_true] at e
    obtain ⟨rfl, rfl, rfl⟩ := e
    rw [if_pos rfl] at hm
    subst hm
    rw [cells36] at hel
    have each : ∀ i, ∃ (t : Value × Int × Int × Bool), i < len → W.cell? (a.add (i * 4)) = some t.1 ∧ W.cell? ((a.add (i * 4)).add 1) = some (.int .i64 t.2.1) ∧ W.cell? ((a.add (i * 4)).add 2) = some (.int .i64 t.2.2.1) ∧ W.cell? ((a.add (i * 4)).add 3) = some (.bool t.2.2.2) ∧ (-9223372036854775808 ≤ t.2.2.1 ∧ t.2.2.1 ≤ 9223372036854775807) ∧
        ∃ m es, CsAt 25 W t.1 m es ∧ ∀ q, q < m → ∀ j, j < 25 → -9223372036854775808 ≤ es q j ∧ es q j ≤ 9223372036854775807 := by
      intro i
      by_cases hi : i < len
      · obtain ⟨cs', h1, h2⟩ := hel i (by omega)
        obtain ⟨v, p, q, b, g0, g1, g2, g3, hq, hE⟩ := turn_cells h2
        have hc := (World.cells?_some h1).2.2
        have c0 := (hc 0 (by omega)).trans g0
        rw [show (a.add (i * 4)).add 0 = a.add (i * 4) by simp [Addr.add]] at c0
        exact ⟨(v, p, q, b), fun _ => ⟨c0, (hc 1 (by omega)).trans g1, (hc 2 (by omega)).trans g2, (hc 3 (by omega)).trans g3, hq, hE⟩⟩
      · exact ⟨(.slice none 0 0, 0, 0, false), fun h => absurd h hi⟩
    refine ⟨len, fun i => (Classical.choose (each i)).1, fun i => (Classical.choose (each i)).2.1, fun i => (Classical.choose (each i)).2.2.1, fun i => (Classical.choose (each i)).2.2.2, ⟨_, _, rfl, by omega, fun h0 => ?_⟩, fun i hi => (Classical.choose_spec (each i) hi).2.2.2.2.2, fun i hi => (Classical.choose_spec (each i) hi).2.2.2.2.1⟩
    have hsp : a.spot = none := by
      have h1 := World.cell?_spot (Classical.choose_spec (each 0) h0).1
      simpa [Addr.add] using h1
    refine ⟨a.block, a.off, ?_, ?_, fun i hi => ?_⟩
    · obtain ⟨b, o, s⟩ := a
      simp only at hsp
      subst hsp
      rfl
    · obtain ⟨cs', h1, _⟩ := hel 0 (by omega)
      have := World.cells?_block h1 (by omega)
      simpa [Addr.add] using this
    · obtain ⟨q0, q1, q2, q3, _⟩ := Classical.choose_spec (each i) hi
      have ea : ∀ m, a.add m = ⟨a.block, a.off + m, none⟩ := fun m => by
        obtain ⟨b, o, s⟩ := a
        simp only at hsp
        subst hsp
        exact Addr.add_mid b o m
      refine ⟨?_, ?_, ?_, ?_⟩
      · rw [← ea]; exact q0
      · rw [← add_add _ _ _ hsp]; exact q1
      · rw [← add_add _ _ _ hsp]; exact q2
      · rw [← add_add _ _ _ hsp]; exact q3
end
end Go.Proofs.Ytppcpbhnpdjfpab
