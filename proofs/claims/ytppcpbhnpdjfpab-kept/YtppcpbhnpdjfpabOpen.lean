/-
  THE ARGUMENTS OPENED: a feature, a key; what a law leaves behind.
-/
import Derived.Test.YtppcpbhnpdjfpabRows
import Derived.Test.YtppcpbhnpdjfpabLeaf
import Derived.ProofKit
import Derived.OpenShut
import Derived.ShutString
import Derived.Carry
import Derived.Lib.SmallJoins
namespace Go.Proofs.Ytppcpbhnpdjfpab
open Go.ChangeShapes Go.WideShapes Go.ChangeAt Go.RowKit Go.Joins

theorem Try.own : ownKnob Try.prog.godebug = none := by kernel_rfl
theorem Try.laidOut : laidOutB Try.prog = true := by kernel_rfl
theorem cells3 : Try.prog.cellsOf 3 = 1 := by kernel_rfl
theorem cells24 : Try.prog.cellsOf 52 = 8 := by kernel_rfl
theorem cells26 : Try.prog.cellsOf 54 = 24 := by kernel_rfl
theorem cells28 : Try.prog.cellsOf 41 = 4 := by kernel_rfl

section
variable {H : Type} {enc : TypeId × Value → H}

/-- The arguments read as they did. -/
theorem trodAll_on {P : Program} (hl : laidOutB P = true) {W W' : World} (hb : Below W.heap.size W W') : ∀ {ts : List TypeId} {vs : List Value} {ds : List (DataW H)} {ps : List MemPlace},
    DataW.TrodAll enc P W 0 (fun _ => true) true ts vs ds ps → (∀ t ∈ ts, P.readableRec t = true ∧ t < P.types.size) → (∀ x ∈ ps, x.block < W.heap.size) →
    DataW.TrodAll enc P W' 0 (fun b => decide (b < W.heap.size)) true ts vs ds ps
  | [], _, _, _, h, _, _ => by
    obtain ⟨rfl, rfl, rfl⟩ := trodAll_nil h
    exact trodAll_mk0
  | t :: ts, _, _, _, h, ht, hlt => by
    obtain ⟨v, vs', d, ds', p, q, rfl, rfl, rfl, h1, h2⟩ := trodAll_cons h
    have h0 := ht t List.mem_cons_self
    exact ⟨p, q, Below.trod hl h0.1 h0.2 h1 hb (fun x hx => hlt x (List.mem_append_left _ hx)), trodAll_on hl hb h2 (fun t' h' => ht t' (List.mem_cons_of_mem _ h')) (fun x hx => hlt x (List.mem_append_right _ hx)), rfl⟩

/-- What a law leaves behind: true, and its arguments as they were. -/
theorem law_post {f : Func} {s : ChangeSpec} {W W' : World} {args : Array Value} {ds gs : List (DataW H)} {before : List MemPlace}
    (hW : DataW.Whole enc Try.prog f.params.toList s.vars false W args.toList ds gs before) (hv : s.vars = []) (hres : f.resultTypes = #[4])
    (hts : (f.params.toList.all fun t => Try.prog.readableRec t && decide (t < Try.prog.types.size)) = true)
    (hfn : ∀ gs' : List (DataW H), gs' = [] → s.fn H (ds ++ gs') = { results := [.lit (.bool true)], args := ds }) (bel : Below W.heap.size W W') :
    s.post enc Try.prog f false true false false W args (.bool true) W' := by
  have hW' := hW
  have hlt := hW.lt
  obtain ⟨p, q, hA, hV, rfl, _, _⟩ := hW
  rw [hv] at hV
  obtain ⟨rfl, rfl⟩ := trodVars_none hV
  have hf := hfn [] rfl
  refine ⟨ds, [], _, [], p, [], hW', ?_, ?_, ?_, bel.frame _, fun h => by cases h⟩
  · rw [hf, hres]
    exact trodAll_mk1 (shut_bool Try.underlying4 _)
  · rw [hf]
    exact trodAll_on Try.laidOut bel hA (fun t ht => by
      have := List.all_eq_true.1 hts t ht
      rw [Bool.and_eq_true] at this
      exact ⟨this.1, of_decide_eq_true this.2⟩) (fun x hx => hlt x (List.mem_append_left _ hx))
  · rw [hv, hf]; exact hV

/-- Cells that read as a feature. -/
theorem feat_cells {w : World} {base : Nat} {sp : Nat → Bool} {held : Bool} {n : Nat} {cs : List Value} {x : DataW H × List MemPlace} (h : DataW.trod enc Try.prog w base sp held n 54 cs = some x) :
    cs.length = 24 ∧ ∀ j, j < 24 → ∃ m, cs[j]? = some (.int .i64 m) ∧ (Lit.int .i64 m).wf = true := by
  obtain ⟨xs, n1, _, _, hlen, hn, hel⟩ := DataW.trod_struct Try.underlying54 h
  rw [cells26] at hlen
  have one : ∀ (m : Nat) (l : List Value) (y : Option (DataW H × List MemPlace)) , y.isSome = true → DataW.trod enc Try.prog w base sp held m 3 l = y → ∃ k, l = [.int .i64 k] ∧ (Lit.int .i64 k).wf = true := by
    intro m l y hy he
    obtain ⟨z, hz⟩ := Option.isSome_iff_exists.1 hy
    rw [hz] at he
    obtain ⟨k, e1, _, e2⟩ := DataW.trod_int Try.underlying3 he
    exact ⟨k, e1, e2⟩
  have at_ : ∀ (l : List Value) (off : Nat) (k : Int), (l.drop off).take 1 = [.int .i64 k] → l[off]? = some (.int .i64 k) := by
    intro l off k he
    have h1 : ((l.drop off).take 1)[0]? = some (.int .i64 k) := by rw [he]; rfl
    rw [List.getElem?_take_of_lt (by omega), List.getElem?_drop] at h1
    simpa using h1
  refine ⟨hlen, ?_⟩
  have hs : ∀ i, i < 10 → (xs[i]?).isSome = true := by
    intro i hi
    have hx : xs.length = 10 := hn
    simp [hx, hi]
  have plain : ∀ i, i < 8 → ∃ m, cs[i]? = some (.int .i64 m) ∧ (Lit.int .i64 m).wf = true := by
    intro i hi
    have go : ∀ (fd : Field), fd.type = 3 → fd.offset = i → DataW.trod enc Try.prog w base sp held n1 fd.type ((cs.drop fd.offset).take (Try.prog.cellsOf fd.type)) = xs[i]? → ∃ m, cs[i]? = some (.int .i64 m) ∧ (Lit.int .i64 m).wf = true := by
      intro fd e1 e2 he
      rw [e1, e2, cells3] at he
      obtain ⟨k, hk, hw⟩ := one n1 _ _ (hs i (by omega)) he
      exact ⟨k, at_ cs i k hk, hw⟩
    match i, hi with
    | 0, _ => exact go _ rfl rfl (hel 0 _ rfl)
    | 1, _ => exact go _ rfl rfl (hel 1 _ rfl)
    | 2, _ => exact go _ rfl rfl (hel 2 _ rfl)
    | 3, _ => exact go _ rfl rfl (hel 3 _ rfl)
    | 4, _ => exact go _ rfl rfl (hel 4 _ rfl)
    | 5, _ => exact go _ rfl rfl (hel 5 _ rfl)
    | 6, _ => exact go _ rfl rfl (hel 6 _ rfl)
    | 7, _ => exact go _ rfl rfl (hel 7 _ rfl)
  have arr : ∀ (off k : Nat), (∃ y, DataW.trod enc Try.prog w base sp held n1 52 ((cs.drop off).take 8) = some y) → k < 8 → off + 8 ≤ 24 → ∃ m, cs[off + k]? = some (.int .i64 m) ∧ (Lit.int .i64 m).wf = true := by
    intro off k hy hk hoff
    obtain ⟨y, hy⟩ := hy
    obtain ⟨ys, n2, _, _, _, hny, hely⟩ := DataW.trod_array Try.underlying52 hy
    have he := hely k hk
    rw [cells3, Nat.mul_one] at he
    obtain ⟨m, hm, hw⟩ := one n2 _ _ (by simp [hny, hk]) he
    have := at_ _ k m hm
    rw [List.getElem?_take_of_lt hk, List.getElem?_drop] at this
    exact ⟨m, this, hw⟩
  have goA : ∀ (fd : Field) {off i : Nat} {y : DataW H × List MemPlace}, fd.type = 52 → DataW.trod enc Try.prog w base sp held n1 fd.type ((cs.drop fd.offset).take (Try.prog.cellsOf fd.type)) = xs[i]? → fd.offset = off → xs[i]? = some y → DataW.trod enc Try.prog w base sp held n1 52 ((cs.drop off).take 8) = some y := by
    intro fd off i y e1 he e2 e3
    rw [e1, e2, cells24, e3] at he
    exact he
  intro j hj
  by_cases h8 : j < 8
  · exact plain j h8
  · by_cases h16 : j < 16
    · obtain ⟨y, hy⟩ := Option.isSome_iff_exists.1 (hs 8 (by omega))
      have := arr 8 (j - 8) ⟨y, goA _ rfl (hel 8 _ rfl) rfl hy⟩ (by omega) (by omega)
      rwa [show 8 + (j - 8) = j by omega] at this
    · obtain ⟨y, hy⟩ := Option.isSome_iff_exists.1 (hs 9 (by omega))
      have := arr 16 (j - 16) ⟨y, goA _ rfl (hel 9 _ rfl) rfl hy⟩ (by omega) (by omega)
      rwa [show 16 + (j - 16) = j by omega] at this

/-- All numbers of a feature are of 64 bits. -/
def F64 (f : Nat → Int) : Prop := ∀ i, i < 24 → -9223372036854775808 ≤ f i ∧ f i ≤ 9223372036854775807
theorem wf_64 {m : Int} (h : (Lit.int .i64 m).wf = true) : -9223372036854775808 ≤ m ∧ m ≤ 9223372036854775807 := by
  have h' : (decide (IntKind.i64.min ≤ m) && decide (m ≤ IntKind.i64.max)) = true := h
  rw [Bool.and_eq_true] at h'
  have e1 : IntKind.i64.min = -9223372036854775808 := by decide
  have e2 : IntKind.i64.max = 9223372036854775807 := by decide
  have a := of_decide_eq_true h'.1
  have b := of_decide_eq_true h'.2
  omega
theorem cells_fc {cs : Array Value} (h1 : cs.size = 24) (h2 : ∀ j, j < 24 → ∃ m, cs[j]? = some (.int .i64 m) ∧ (Lit.int .i64 m).wf = true) : ∃ f, cs = fc f ∧ F64 f := by
  have hc : ∀ j, ∃ m, j < 24 → cs[j]? = some (.int .i64 m) ∧ (Lit.int .i64 m).wf = true := by
    intro j
    by_cases hj : j < 24
    · obtain ⟨m, hm⟩ := h2 j hj; exact ⟨m, fun _ => hm⟩
    · exact ⟨0, fun h => absurd h hj⟩
  refine ⟨fun j => Classical.choose (hc j), ?_, fun i hi => wf_64 (Classical.choose_spec (hc i) hi).2⟩
  apply Array.ext_getElem?
  intro j
  by_cases hj : j < 24
  · rw [fc_at _ j hj]; exact (Classical.choose_spec (hc j) hj).1
  · rw [Array.getElem?_eq_none (by omega), Array.getElem?_eq_none (by rw [fc_size]; omega)]

/-- A feature that came in. -/
theorem open_feat {W : World} {r : Reach} {b0 base : Nat} {sp : Nat → Bool} {held : Bool} {v : Value} {d : DataW H} {p : List MemPlace} (hv : Value.okWide Try.prog W r b0 54 v) (h : DataW.Trod enc Try.prog W base sp held 54 v d p) : ∃ f, v = .agg (fc f) ∧ F64 f := by
  obtain ⟨cs, rfl, hsz⟩ := okWide_struct Try.underlying54 hv
  obtain ⟨fuel, hf⟩ := h
  rw [cells26] at hsz
  obtain ⟨_, h2⟩ := feat_cells hf
  obtain ⟨f, e, hF⟩ := cells_fc hsz (fun j hj => by simpa [Value.cells] using h2 j hj)
  exact ⟨f, by rw [e], hF⟩
/-- A key that came in. -/
theorem open_key {W : World} {r : Reach} {b0 base : Nat} {sp : Nat → Bool} {held : Bool} {v : Value} {d : DataW H} {p : List MemPlace} (hv : Value.okWide Try.prog W r b0 41 v) (h : DataW.Trod enc Try.prog W base sp held 41 v d p) :
    ∃ l z x y : Int, v = .agg #[.int .i64 l, .int .i64 z, .int .i64 x, .int .i64 y] ∧ (-9223372036854775808 ≤ l ∧ l ≤ 9223372036854775807) ∧ (-9223372036854775808 ≤ z ∧ z ≤ 9223372036854775807) ∧ (-9223372036854775808 ≤ x ∧ x ≤ 9223372036854775807) ∧ (-9223372036854775808 ≤ y ∧ y ≤ 9223372036854775807) := by
  obtain ⟨u0, u1, u2, u3, y0, y1, y2, y3, n, rfl, rfl, rfl, t0, t1, t2, t3⟩ := open_agg4 Try.underlying41 (by kernel_rfl) cells28 hv h
  obtain ⟨l, e0, rfl, wl⟩ := DataW.trod_int Try.underlying3 t0
  obtain ⟨z, e1, rfl, wz⟩ := DataW.trod_int Try.underlying3 t1
  obtain ⟨x, e2, rfl, wx⟩ := DataW.trod_int Try.underlying3 t2
  obtain ⟨y, e3, rfl, wy⟩ := DataW.trod_int Try.underlying3 t3
  simp only [List.cons.injEq, and_true] at e0 e1 e2 e3
  subst e0 e1 e2 e3
  exact ⟨l, z, x, y, rfl, wf_64 wl, wf_64 wz, wf_64 wx, wf_64 wy⟩
end
end Go.Proofs.Ytppcpbhnpdjfpab
