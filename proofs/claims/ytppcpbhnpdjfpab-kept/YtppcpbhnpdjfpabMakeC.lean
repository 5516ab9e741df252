/-
  APPEND TO ONE OF SEVERAL LISTS OF THE CALL's OWN; a list of numbers in memory; atlaskeep.area.
-/
import Derived.Test.YtppcpbhnpdjfpabMakeB
import Derived.OwnWalk
import Derived.ArgAppend
namespace Go.Proofs.Ytppcpbhnpdjfpab
open Go.RowKit

/-- A slice of the call's own is appended to: where it lies then. -/
theorem ap_own {ops : Array Oper} {rest : List Oper} {o : Oper} {a : Act} {Q : Exit → Act → World → Prop} (w : World) (hgd : o.guard = none) (s x : Operand) (t : TypeId)
    (ho : o.op = .call { callee := .builtin .append, args := #[s, x], argTypes := #[t, t] })
    (B : Nat) (e : TypeId) (i : TypeInfo) (z : Value) (size bytes : Nat) (ht : Try.prog.underlying t = some (.slice e)) (hi : Try.prog.info? e = some i) (hz : i.zero = some z)
    (hsize : i.size = size) (hby : i.bytes = bytes) (hzs : z.cells.size = size) (hsz : 0 < size)
    (v : Value) (n : Nat) (xs : List Value) (hs : a.eval s = v) (hown : w.ownsRow B e size v n xs)
    (ad : Addr) (c : Nat) (news : List Value) (hx : a.eval x = .slice (some ad) 1 c) (hl : news.length = size) (hnews : ∀ j u, news[j]? = some u → w.cell? (ad.add j) = some u) (h1 : ∀ u ∈ news, u.oneCell' = true)
    (hn : (n + 1) * bytes ≤ 1000000000) (hn' : n ≤ 1000000) (hB : B ≤ w.heap.size)
    (h : ∀ v' w', w'.ownsRow B e size v' (n + 1) (xs ++ news) → w.grownBy w' v.ownBlock → (v'.ownBlock = v.ownBlock ∨ ∀ g, v'.ownBlock = some g → w.heap.size ≤ g) → wpList Try.prog ops Q rest (a.put o.dst v') w') : wpList Try.prog ops Q (o :: rest) a w := by
  have up : ∀ {v' : Value} {w' : World}, w'.ownsRow w.heap.size e size v' (n + 1) (xs ++ news) → w'.ownsRow B e size v' (n + 1) (xs ++ news) := by
    intro v' w' hh
    obtain ⟨a1, a2⟩ := hh
    refine ⟨a1, ?_⟩
    rcases a2 with a2 | ⟨g, cap, cur, q1, q2, q3⟩
    · exact Or.inl a2
    · exact Or.inr ⟨g, cap, cur, q1, by omega, q3⟩
  have gn : ∀ {w' : World} {r : Option Nat}, w.grownBy w' none → w.grownBy w' r := fun hg => ⟨hg.os, hg.tape, hg.output, hg.size, fun k hk _ => hg.block k hk (by simp)⟩
  rcases hown.2 with ⟨rfl, rfl⟩ | ⟨g, cap, cur, rfl, hg, hh, hnc, hcm, hcs, htk⟩
  · refine wpList_append_grows w hgd s x t ho e i z size bytes ht hi hz hsize hby hzs hsz none 0 0 xs hs (fun _ => ⟨rfl, rfl⟩) (by have := hown.1; simpa using this) (fun b hb => by cases hb) ad 1 c news hx (by simpa using hl) hnews h1 (by omega) (by unfold maxLen; omega) (by omega) ?_
    intro v' w' r1 r2
    exact h v' w' (up r1) (gn r2) (Or.inr fun g hg => (World.ownsRow.lt r1 g hg).1)
  · by_cases hf : n + 1 ≤ cap
    · refine wpList_append_fits w hgd s x t ho B e i size ht hi hsize g n cap xs hs hown ad 1 c news hx (by simpa using hl) hnews h1 hf ?_
      intro w' r1 r2
      exact h _ w' r1 r2 (Or.inl rfl)
    · refine wpList_append_grows w hgd s x t ho e i z size bytes ht hi hz hsize hby hzs hsz (some ⟨g, 0, none⟩) n cap xs hs (fun hb => by cases hb) hown.1 ?_ ad 1 c news hx (by simpa using hl) hnews h1 (by omega) (by unfold maxLen; omega) (by omega) ?_
      · intro b hb j u hj
        obtain rfl := Option.some.inj hb
        rw [Addr.add_mid, Nat.zero_add]
        have hjl : j < n * size := by
          have := (List.getElem?_eq_some_iff.1 hj).1
          rwa [hown.1] at this
        rw [World.ownsRow.cellAt hown j hjl, hj]
      · intro v' w' r1 r2
        exact h v' w' (up r1) (gn r2) (Or.inr fun g hg => (World.ownsRow.lt r1 g hg).1)

/-- The slice v holds the numbers l 0 .. l (n - 1). -/
def IsAt (W : World) (v : Value) (n : Nat) (l : Nat → Int) : Prop :=
  ∃ (b off cap : Nat), v = .slice (some ⟨b, off, none⟩) n cap ∧ b < W.heap.size ∧ ∀ i, i < n → W.cell? ⟨b, off + i, none⟩ = some (.int .i64 (l i))
theorem IsAt.on {W W' : World} {v : Value} {n : Nat} {l : Nat → Int} (h : IsAt W v n l) (hb : Below W.heap.size W W') : IsAt W' v n l := by
  obtain ⟨b, off, cap, e, hlt, hc⟩ := h
  exact ⟨b, off, cap, e, Nat.lt_of_lt_of_le hlt hb.size, fun i hi => (hb.cell (p := ⟨b, off + i, none⟩) hlt).trans (hc i hi)⟩

/-- What 'area' makes: the first seven fields of a right area, n points. -/
structure Ar (raw : Nat → Int) (n : Nat) (X Y : Nat → Int) (k : Nat) (G : Nat → Int) : Prop where
  lo : ∀ j, j < 7 → G j = mk (upd (upd raw 2 0) 7 0) j
  n7 : G 7 = n
  px : ∀ i, i < k → G (8 + i) = if i < n then X i else 0
  py : ∀ i, i < k → G (16 + i) = if i < n then Y i else 0
theorem ar_start (raw : Nat → Int) (n : Nat) (X Y : Nat → Int) : Ar raw n X Y 0 (upd (mk (upd (upd raw 2 0) 7 0)) 7 n) :=
  ⟨fun j hj => by simp [upd]; omega, by simp [upd], fun i hi => absurd hi (by omega), fun i hi => absurd hi (by omega)⟩
theorem Ar.next {raw : Nat → Int} {n : Nat} {X Y : Nat → Int} {k : Nat} {G : Nat → Int} (h : Ar raw n X Y k G) (hk : k < 8) (x y : Int) (hx : x = if k < n then X k else 0) (hy : y = if k < n then Y k else 0) {G' : Nat → Int}
    (hG : ∀ j, G' j = if j = 16 + k then y else if j = 8 + k then x else G j) : Ar raw n X Y (k + 1) G' := by
  refine ⟨fun j hj => ?_, ?_, fun i hi => ?_, fun i hi => ?_⟩
  · rw [hG, if_neg (by omega), if_neg (by omega)]; exact h.lo j hj
  · rw [hG, if_neg (by omega), if_neg (by omega)]; exact h.n7
  · by_cases e : i = k
    · subst e; rw [hG, if_neg (by omega), if_pos rfl]; exact hx
    · rw [hG, if_neg (by omega), if_neg (by omega)]; exact h.px i (by omega)
  · by_cases e : i = k
    · subst e; rw [hG, if_pos rfl]; exact hy
    · rw [hG, if_neg (by omega), if_neg (by omega)]; exact h.py i (by omega)
theorem F64_upd {f : Nat → Int} (h : F64 f) (i : Nat) (v : Int) (hv : -9223372036854775808 ≤ v ∧ v ≤ 9223372036854775807) : F64 (upd f i v) := by
  intro j hj
  unfold upd
  split
  · exact hv
  · exact h j hj

end Go.Proofs.Ytppcpbhnpdjfpab
