/-
  BYTES THAT A CALL ITSELF GATHERS: a slice of bytes of its own, one appended, made into a string.
-/
import Derived.Test.YtppcpbhnpdjfpabInkB
import Derived.Laws.BytesArg
import Derived.Laws.IdiomStrings
namespace Go.Proofs.Ytppcpbhnpdjfpab
open Go.RowKit

theorem Try.info5 : (Try.prog.info? 5).map (fun i => (i.zero, i.size, i.bytes)) = some (some (.int .u8 0), 1, 1) := by kernel_rfl

/-- A byte as a value. -/
def bv (b : UInt8) : Value := .int .u8 b.toNat
/-- The slice v holds the bytes l, in memory from block B on. -/
def OwnB (w : World) (B : Nat) (v : Value) (l : List UInt8) : Prop := w.ownsRow B 5 1 v l.length (l.map bv)

theorem ownB_nil (w : World) (B : Nat) : OwnB w B (.slice none 0 0) [] := World.ownsRow_nil _ _ _ _
theorem ownB_none (w : World) (B : Nat) (hB : B ≤ w.heap.size) : OwnB (w.alloc (.cells #[] 5)) B (.slice (some ⟨w.heap.size, 0, none⟩) 0 0) [] :=
  World.ownsRow_lit w #[] 0 hB (Nat.zero_le _) rfl
theorem ownB_one (w : World) (B : Nat) (hB : B ≤ w.heap.size) (b : UInt8) (n : Int) (hn : n = b.toNat) : OwnB (w.alloc (.cells #[.int .u8 n] 5)) B (.slice (some ⟨w.heap.size, 0, none⟩) 1 1) [b] := by
  subst hn
  exact World.ownsRow_lit w #[bv b] 1 hB (by decide) rfl
theorem OwnB.alloc {w : World} {B : Nat} {v : Value} {l : List UInt8} (h : OwnB w B v l) (o : Obj) : OwnB (w.alloc o) B v l := World.ownsRow.alloc h o
theorem OwnB.drewN {w : World} {B : Nat} {v : Value} {l : List UInt8} (h : OwnB w B v l) (q : Nat) : OwnB (w.drewN q) B v l := h
theorem OwnB.back {w : World} {B : Nat} {v : Value} {l : List UInt8} {q : Nat} (h : OwnB (w.drewN q) B v l) : OwnB w B v l := h

theorem OwnB.str {w : World} {B : Nat} {v : Value} {l : List UInt8} (h : OwnB w B v l) (q : Nat) : (convert 72 9 v).run Try.prog (w.drewN q) = .ok (.string ⟨l.toArray⟩) (w.drewN q) := by
  have h0 := h
  rcases h.2 with ⟨rfl, hn⟩ | ⟨g, cap, cur, rfl, _, hg, _, _, _, htake⟩
  · have : l = [] := List.length_eq_zero_iff.1 hn
    subst this
    exact run_convert_bytes_nil (P := Try.prog) (w.drewN q) 72 5 Try.underlying72 Try.underlying5 0 0 9 Try.underlying9
  · refine run_convert_bytes_back (w.drewN q) 72 9 5 ⟨g, 0, none⟩ cap l Try.underlying72 Try.underlying5 Try.underlying9 ?_
    intro j hj
    have := World.ownsRow.cellAt h0 j (by simpa using hj)
    rw [World.cell?_drewN]
    have e : (⟨g, 0, none⟩ : Addr).add j = ⟨g, j, none⟩ := by simp [Addr.add]; exact fun h => h.symm
    rw [e, this]
    simp [hj, bv]

theorem wp_append_byte {ops : Array Oper} {rest : List Oper} {o : Oper} {a : Act} {Q : Exit → Act → World → Prop} (hgd : o.guard = none) (s x : Operand)
    (ho : o.op = .call { callee := .builtin .append, args := #[s, x], argTypes := #[72, 72] })
    (W : World) (B : Nat) (v : Value) (l : List UInt8) (b : UInt8) (n : Int) (hs : a.eval s = v) (hown : OwnB W B v l) (hx : a.eval x = .slice (some ⟨W.heap.size, 0, none⟩) 1 1)
    (hb : n = b.toNat) (hlen : l.length ≤ 1000000) (hB : B ≤ W.heap.size)
    (h : ∀ v' w', OwnB w' B v' (l ++ [b]) → Below B W w' → wpList Try.prog ops Q rest (a.put o.dst v') w') :
    wpList Try.prog ops Q (o :: rest) a (W.alloc (.cells #[.int .u8 n] 5)) := by
  subst hb
  obtain ⟨i0, hi, hz0, hz1, hz2⟩ := info_parts Try.info5
  refine wpList_append_own _ hgd s x 72 ho B 5 i0 (.int .u8 0) 1 1 Try.underlying72 hi hz0 hz1 hz2 rfl (by decide) v l.length (l.map bv) hs (hown.alloc _) ⟨W.heap.size, 0, none⟩ 1 1 [bv b] hx rfl (cell_one_new _ _ _) ?_ ?_ ?_ ?_ ?_
  · intro u hu; simp at hu; subst hu; rfl
  · unfold maxLen; omega
  · omega
  · simp; omega
  · intro v' w1 hown' hgrow _
    refine h v' w1 ?_ ?_
    · unfold OwnB
      simpa using hown'
    · exact ((Below.refl B W).alloc hB _).grown hgrow (by simp; omega) (fun k hk => (World.ownsRow.lt hown k hk).1)

theorem OwnB.on {w w' : World} {B : Nat} {v : Value} {l : List UInt8} (h : OwnB w B v l) (hb : Below w.heap.size w w') : OwnB w' B v l := by
  obtain ⟨h1, h2⟩ := h
  refine ⟨h1, ?_⟩
  rcases h2 with h2 | ⟨g, cap, cur, hv, hg, hh, r⟩
  · exact Or.inl h2
  · exact Or.inr ⟨g, cap, cur, hv, hg, blk_on hh hb, r⟩
theorem size_of_len (l : List UInt8) : (⟨l.toArray⟩ : ByteArray).size = l.length := rfl
theorem ret_str2 {a b : List UInt8} {m n : Int} (h : a = b) (h' : m = n) : Ending.returned (.tuple #[.string ⟨a.toArray⟩, .int .i64 m]) = .returned (.tuple #[.string ⟨b.toArray⟩, .int .i64 n]) := by rw [h, h']
end Go.Proofs.Ytppcpbhnpdjfpab
