/-
  The texts FrA, FrB, FrM, Leaf, LeafB, LeafC, LeafD, LeafE, FaA, LeafF, LeafG, LeafH, LeafJ, LeafK, LeafL, InkB, Own, FaG, FaC, MakeA, Open, MakeB, MakeC, MakeD, LocA, StA, StB, StC, StD, StE.
-/
import Derived.Test.YtpabpniaekldeaaGreatDoorRows
import Derived.Deep.MidRow
import Derived.WalkSmall
import Derived.Laws.AppendOwn
import Derived.WalkKit
import Derived.WalkSpells
import Derived.WalkLawsBesides
import Derived.Deep.QuietTactic
import Derived.BigQuiet
import Derived.Deep.DeepCutAuto
import Derived.Laws.StructEq
import Derived.Laws.BytesArg
import Derived.Laws.IdiomStrings
import Derived.OrdersHeld
import Derived.ProofKit
import Derived.OpenShut
import Derived.ShutString
import Derived.Carry
import Derived.Lib.SmallJoins
import Derived.OwnWalk
import Derived.ArgAppend
namespace Go.Proofs.YtpabpniaekldeaaGreatDoor
open Go.RowKit
set_option maxRecDepth 20000
structure Row (α : Type) where
  wid : Nat
  enc : α -> List Value
  len : ∀ a, (enc a).length = wid
  one : ∀ a, ∀ v ∈ enc a, v.oneCell' = true
  pos : 0 < wid
section
variable {α : Type} (R : Row α)
def Row.all (l : List α) : List Value := l.flatMap R.enc
theorem Row.all_nil : R.all [] = [] := rfl
theorem Row.all_cons (a : α) (l : List α) : R.all (a :: l) = R.enc a ++ R.all l := rfl
theorem Row.all_app (l l' : List α) : R.all (l ++ l') = R.all l ++ R.all l' := by simp [Row.all]
theorem Row.all_len : ∀ l : List α, (R.all l).length = l.length * R.wid
  | [] => by simp [Row.all]
  | a :: l => by rw [Row.all_cons, List.length_append, Row.all_len l, R.len, List.length_cons, Nat.succ_mul]; omega
theorem Row.all_at : ∀ (l : List α) (i : Nat) (a : α) (j : Nat), l[i]? = some a -> j < R.wid -> (R.all l)[i * R.wid + j]? = (R.enc a)[j]?
  | [], i, a, _, h, _ => by simp at h
  | b :: l, 0, a, j, h, hj => by
    simp only [List.getElem?_cons_zero, Option.some.injEq] at h
    subst h
    rw [Row.all_cons, List.getElem?_append_left (by rw [R.len]; omega), Nat.zero_mul, Nat.zero_add]
  | b :: l, i + 1, a, j, h, hj => by
    rw [Row.all_cons, List.getElem?_append_right (by rw [R.len, Nat.succ_mul]; omega), R.len, show (i + 1) * R.wid + j - R.wid = i * R.wid + j by rw [Nat.succ_mul]; omega]
    exact Row.all_at l i a j (by simpa using h) hj
theorem Row.all_one (l : List α) : ∀ v ∈ R.all l, v.oneCell' = true := by
  intro v hv
  simp only [Row.all, List.mem_flatMap] at hv
  obtain ⟨a, _, ha⟩ := hv
  exact R.one a v ha
def OwnR (T : TypeId) (w : World) (v : Value) (l : List α) : Prop :=
  (v = .slice none 0 0 /\ l = []) \/
  ∃ g off cap cur, v = .slice (some ⟨g, off, none⟩) l.length cap /\ w.heap[g]? = some (.cells cur T (0, 0)) /\ l.length <= cap /\ cap <= maxLen /\ off + cap * R.wid <= cur.size /\ (cur.toList.drop off).take (l.length * R.wid) = R.all l
def AtR (w : World) (v : Value) (l : List α) : Prop :=
  ∃ oa cap, v = .slice oa l.length cap /\ l.length <= cap /\ l.length <= maxLen /\ (0 < l.length -> ∃ b off, oa = some ⟨b, off, none⟩ /\ b < w.heap.size /\ ∀ i a, l[i]? = some a -> w.rangeAt b (off + i * R.wid) (R.enc a))
end
section
variable {α : Type} {R : Row α} {T : TypeId} {w w' : World} {v : Value} {l : List α}
theorem ownR_nil : OwnR R T w (.slice none 0 0) [] := Or.inl ⟨rfl, rfl⟩
theorem OwnR.same (h : OwnR R T w v l) (hg : ∀ g, v.ownBlock = some g -> w'.heap[g]? = w.heap[g]?) : OwnR R T w' v l := by
  rcases h with h | ⟨g, off, cap, cur, hv, hh, r⟩
  . exact Or.inl h
  . exact Or.inr ⟨g, off, cap, cur, hv, (hg g (by rw [hv]; rfl)).trans hh, r⟩
theorem OwnR.lt (h : OwnR R T w v l) {g : Nat} (hg : v.ownBlock = some g) : g < w.heap.size := by
  rcases h with ⟨rfl, _⟩ | ⟨g', off, cap, cur, rfl, hh, r⟩
  . simp [Value.ownBlock] at hg
  . simp only [Value.ownBlock, Option.some.injEq] at hg
    subst hg
    exact (Array.getElem?_eq_some_iff.1 hh).1
theorem OwnR.on (h : OwnR R T w v l) (hb : Below w.heap.size w w') : OwnR R T w' v l := h.same fun g hg => hb.block g (h.lt hg)
theorem OwnR.ty (h : OwnR R T w v l) {g : Nat} (hg : v.ownBlock = some g) : ∃ cur, w.heap[g]? = some (.cells cur T (0, 0)) := by
  rcases h with ⟨rfl, _⟩ | ⟨g', off, cap, cur, rfl, hh, r⟩
  . simp [Value.ownBlock] at hg
  . simp only [Value.ownBlock, Option.some.injEq] at hg
    subst hg; exact ⟨cur, hh⟩
theorem OwnR.cellAt {g off n cap : Nat} (h : OwnR R T w (.slice (some ⟨g, off, none⟩) n cap) l) (k : Nat) (hk : k < l.length * R.wid) : w.cell? ⟨g, off + k, none⟩ = (R.all l)[k]? := by
  rcases h with ⟨e, _⟩ | ⟨g', off', cap', cur, e, hh, h1, h2, h3, h4⟩
  . cases e
  . cases e
    have hs : off + k < cur.size := by
      have := Nat.mul_le_mul_right R.wid h1
      omega
    have : w.cell? ⟨g, off + k, none⟩ = cur[off + k]? := by simp [World.cell?, hh]
    rw [this, <- h4, List.getElem?_take_of_lt hk, List.getElem?_drop, Array.getElem?_toList]
theorem OwnR.len_le (h : OwnR R T w v l) : l.length <= maxLen := by
  rcases h with ⟨_, rfl⟩ | ⟨g', off', cap', cur, e, hh, h1, h2, h3, h4⟩
  . exact Nat.zero_le _
  . omega
theorem OwnR.at (h : OwnR R T w v l) : AtR R w v l := by
  have h0 := h
  rcases h with ⟨rfl, rfl⟩ | ⟨g, off, cap, cur, rfl, hh, h1, h2, h3, h4⟩
  . exact ⟨none, 0, rfl, Nat.zero_le _, Nat.zero_le _, fun h => absurd h (by simp)⟩
  . refine ⟨_, cap, rfl, h1, by omega, fun _ => ⟨g, off, rfl, (Array.getElem?_eq_some_iff.1 hh).1, fun i a hi j x hx => ?_⟩⟩
    have hj : j < R.wid := by rw [<- R.len a]; exact (List.getElem?_eq_some_iff.1 hx).1
    have hi' : i < l.length := (List.getElem?_eq_some_iff.1 hi).1
    have hlt : i * R.wid + j < l.length * R.wid := by
      have : (i + 1) * R.wid <= l.length * R.wid := Nat.mul_le_mul_right _ hi'
      rw [Nat.succ_mul] at this
      omega
    rw [Nat.add_assoc, h0.cellAt _ hlt, R.all_at l i a j hi hj, hx]
theorem AtR.on (h : AtR R w v l) (hb : Below w.heap.size w w') : AtR R w' v l := by
  obtain ⟨oa, cap, e, h1, h2, h3⟩ := h
  refine ⟨oa, cap, e, h1, h2, fun hn => ?_⟩
  obtain ⟨b, off, e', hlt, hc⟩ := h3 hn
  exact ⟨b, off, e', Nat.lt_of_lt_of_le hlt hb.size, fun i a hi j x hx => (hb.cell (p := ⟨b, off + i * R.wid + j, none⟩) hlt).trans (hc i a hi j x hx)⟩
theorem ownR_lit (w : World) (l : List α) (cs : Array Value) (hc : cs.toList = R.all l) (hl : l.length <= maxLen) : OwnR R T (w.alloc (.cells cs T)) (.slice (some ⟨w.heap.size, 0, none⟩) l.length l.length) l := by
  refine Or.inr ⟨w.heap.size, 0, l.length, cs, rfl, heap_alloc_new w _, Nat.le_refl _, hl, ?_, ?_⟩
  . rw [<- Array.length_toList, hc, R.all_len]; omega
  . rw [hc, List.drop_zero, <- R.all_len l, List.take_length]
theorem AtR.one_of (a : α) {b off c : Nat} (hc : 1 <= c) (hlt : b < w.heap.size) (hr : w.rangeAt b off (R.enc a)) : AtR R w (.slice (some ⟨b, off, none⟩) 1 c) [a] :=
  ⟨_, c, rfl, hc, by simp [maxLen], fun _ => ⟨b, off, rfl, hlt, fun i x hi => by
    cases i with
    | zero => simp at hi; subst hi; simpa using hr
    | succ i => simp at hi⟩⟩
theorem AtR.cells {b off c : Nat} (h : AtR R w (.slice (some ⟨b, off, none⟩) l.length c) l) : ∀ j u, (R.all l)[j]? = some u -> w.cell? ((⟨b, off, none⟩ : Addr).add j) = some u := by
  intro j u hj
  obtain ⟨oa, cap, e, h1, h2, h3⟩ := h
  have hlt : j < l.length * R.wid := by rw [<- R.all_len]; exact (List.getElem?_eq_some_iff.1 hj).1
  have hp := R.pos
  have hn : 0 < l.length := Nat.pos_of_ne_zero fun h => by rw [h] at hlt; omega
  obtain ⟨b', off', e', _, hc⟩ := h3 hn
  cases e
  cases e'
  have q1 : j / R.wid < l.length := (Nat.div_lt_iff_lt_mul hp).2 hlt
  have q2 : j % R.wid < R.wid := Nat.mod_lt _ hp
  have e : j / R.wid * R.wid + j % R.wid = j := Nat.div_add_mod' j R.wid
  have hi : l[j / R.wid]? = some l[j / R.wid] := List.getElem?_eq_getElem q1
  rw [Addr.add_mid, <- e, <- Nat.add_assoc]
  rw [<- e, R.all_at l _ _ _ hi q2] at hj
  exact hc _ _ hi _ _ hj
theorem OwnR.append {P : Program} (t ty : TypeId) (i : TypeInfo) (z : Value) (bytes : Nat) (ht : P.underlying t = some (.slice T)) (hi : P.info? T = some i) (hz : i.zero = some z) (hsize : i.size = R.wid) (hby : i.bytes = bytes) (hzs : z.cells.size = R.wid)
    (hown : OwnR R T w v l) (news : List α) (x : Value) (hx : AtR R w x news) (hlen : l.length + news.length <= maxLen) (hb : (l.length + news.length) * bytes <= 140737488355328) :
    ∃ v' w', (Builtin.append_ #[t, t] ty #[v, x]).run P w = .ok v' w' /\ OwnR R T w' v' (l ++ news) /\ w.grownBy w' v.ownBlock /\ (v'.ownBlock = v.ownBlock \/ ∀ g, v'.ownBlock = some g -> w.heap.size <= g) := by
  have hp := R.pos
  have hsmall : l.length + news.length <= 9223372036854775807 := by simp only [maxLen] at hlen; omega
  have hx0 := hx
  obtain ⟨oa, c, rfl, hc, hm, hr⟩ := hx
  by_cases hn : news.length = 0
  . obtain rfl : news = [] := List.eq_nil_of_length_eq_zero hn
    refine ⟨v, w, ?_, by simpa using hown, ⟨rfl, rfl, rfl, Nat.le_refl _, fun _ _ _ => rfl⟩, Or.inl rfl⟩
    rcases hown with ⟨rfl, rfl⟩ | ⟨g, off, cap, cur, rfl, hh, h1, h2, h3, h4⟩
    . cases oa <;> simp [Builtin.append_, run_underlying ht, sizeOf, typeInfo, hi, Builtin.lenOf, Builtin.firstCells, loadCells, loadCellsFrom]
    . cases oa <;> simp [Builtin.append_, run_underlying ht, sizeOf, typeInfo, hi, Builtin.lenOf, Builtin.firstCells, loadCells, loadCellsFrom, h1, storeCells]
  . obtain ⟨b, o, rfl, hlt, _⟩ := hr (by omega)
    have hcells := hx0.cells
    have grown : ∀ (old : Nat), old < l.length + news.length -> ∀ (row : Option Nat),
        OwnR R T (w.drew.alloc (.cells ((R.all l).toArray ++ (R.all news).toArray ++ Builtin.zeroCells z.cells (grownCap w (l.length + news.length) old T - (l.length + news.length))) T))
          (.slice (some ⟨w.heap.size, 0, none⟩) (l.length + news.length) (grownCap w (l.length + news.length) old T)) (l ++ news) /\
        w.grownBy (w.drew.alloc (.cells ((R.all l).toArray ++ (R.all news).toArray ++ Builtin.zeroCells z.cells (grownCap w (l.length + news.length) old T - (l.length + news.length))) T)) row := by
      intro old ho row
      have hge := grownCap_ge w (l.length + news.length) old T
      have hcm : grownCap w (l.length + news.length) old T <= maxLen := grownCap_le_maxLen w (l.length + news.length) old T hlen
      refine ⟨Or.inr ⟨w.heap.size, 0, _, _, by rw [List.length_append], heap_alloc_new w.drew _, by rw [List.length_append]; exact hge, hcm, ?_, ?_⟩, ⟨rfl, rfl, rfl, by simp, fun k hk _ => heap_alloc_old w.drew _ hk⟩⟩
      . simp only [Array.size_append, List.size_toArray, size_zeroCells, hzs, R.all_len, <- Nat.add_mul]
        rw [Nat.zero_add]
        exact Nat.mul_le_mul_right _ (by omega)
      . rw [List.drop_zero, Array.toList_append, Array.toList_append, R.all_app, List.length_append]
        rw [show (l.length + news.length) * R.wid = (R.all l ++ R.all news).length by rw [List.length_append, R.all_len, R.all_len, Nat.add_mul]]
        exact List.take_left
    rcases hown with ⟨rfl, rfl⟩ | ⟨g, off, cap, cur, rfl, hh, h1, h2, h3, h4⟩
    . have hr := run_append_nil (P := P) w t ty T i z ht hi hz ⟨b, o, none⟩ news.length c (R.all news) (by rw [R.all_len, hsize]) hcells (by omega) (by simp at hsmall; omega) (by rw [hby]; simp at hb; omega)
      have hgr := grown 0 (by omega) (Value.ownBlock (.slice none 0 0))
      simp only [List.length_nil, Nat.zero_add, Row.all_nil, List.nil_append, Array.empty_append] at hgr ⊢
      exact ⟨_, _, hr, hgr.1, hgr.2, Or.inr fun g hg => by simp [Value.ownBlock] at hg; omega⟩
    . by_cases hroom : l.length + news.length <= cap
      . have hfit : off + l.length * R.wid + (R.all news).length <= cur.size := by
          have := Nat.mul_le_mul_right R.wid hroom
          rw [Nat.add_mul] at this
          rw [R.all_len]
          omega
        have hf := run_firstCells_some (P := P) w i.size news.length ⟨b, o, none⟩ news.length c (R.all news) (by rw [R.all_len, hsize]) hcells
        have hst := run_storeCells_at P g (off + l.length * R.wid) T (R.all news) 0 cur w hh (by simpa using hfit) (R.all_one news)
        simp only [Nat.add_zero] at hst
        refine ⟨.slice (some ⟨g, off, none⟩) (l.length + news.length) cap, w.setRow g (cur.toList.take (off + l.length * R.wid) ++ R.all news ++ cur.toList.drop (off + l.length * R.wid + (R.all news).length)).toArray, ?_, Or.inr ⟨g, off, cap, _, by rw [List.length_append], setRow_heap w g cur _ T _ hh, by rw [List.length_append]; exact hroom, h2, ?_, ?_⟩, ⟨rfl, rfl, rfl, ?_, fun k _ hk => setRow_other w g k _ (fun e => hk (by simp [Value.ownBlock, e]))⟩, Or.inl rfl⟩
        . simp [Builtin.append_, run_underlying ht, sizeOf, typeInfo, hi, Builtin.lenOf, hroom, Addr.add_mid, hsize ▸ hf, hsize, hst]
        . simp only [List.size_toArray, List.length_append, List.length_take, List.length_drop, Array.length_toList]
          omega
        . have hcut : (cur.toList.take (off + l.length * R.wid)).drop off = R.all l := by
            rw [List.drop_take, Nat.add_sub_cancel_left]; exact h4
          have hle : off <= (cur.toList.take (off + l.length * R.wid)).length := by
            have : off <= cur.size := by omega
            rw [List.length_take, Array.length_toList]; exact Nat.le_min.2 ⟨Nat.le_add_right _ _, this⟩
          rw [List.append_assoc, List.drop_append_of_le_length hle, hcut, <- List.append_assoc, R.all_app, List.length_append, show (l.length + news.length) * R.wid = (R.all l ++ R.all news).length by rw [List.length_append, R.all_len, R.all_len, Nat.add_mul]]
          exact List.take_left
        . simp [World.setRow]
      . have holds : ∀ j u, (R.all l)[j]? = some u -> w.cell? ((⟨g, off, none⟩ : Addr).add j) = some u := AtR.cells (OwnR.at (Or.inr ⟨g, off, cap, cur, rfl, hh, h1, h2, h3, h4⟩))
        have hr := run_append_grow (P := P) w t ty T i z ht hi hz ⟨g, off, none⟩ l.length cap (R.all l) (by rw [R.all_len, hsize]) holds ⟨b, o, none⟩ news.length c (R.all news) (by rw [R.all_len, hsize]) hcells (by omega) (by omega) (by rw [hby]; exact growslice_fits (by omega) hb)
        have hgr := grown cap (by omega) (Value.ownBlock (.slice (some ⟨g, off, none⟩) l.length cap))
        exact ⟨_, _, hr, hgr.1, hgr.2, Or.inr fun g' hg => by simp [Value.ownBlock] at hg; omega⟩
end
structure K4 where
  l : Int
  z : Int
  x : Int
  y : Int
deriving DecidableEq
def K4.a (k : K4) : Array Value := #[.int .i64 k.l, .int .i64 k.z, .int .i64 k.x, .int .i64 k.y]
def rKey : Row K4 := ⟨4, fun k => k.a.toList, fun _ => rfl, fun k v hv => by simp [K4.a] at hv; rcases hv with rfl | rfl | rfl | rfl <;> rfl, by decide⟩
structure Req where
  who : Int
  k : K4
  asked : Int
  due : Int
structure Tile where
  k : K4
  body : ByteArray
  tag : ByteArray
structure Rep where
  who : Int
  st : Int
  body : ByteArray
  tag : ByteArray
def Rep.a (t : Rep) : Array Value := #[.int .i64 t.who, .int .i64 t.st, .string t.body, .string t.tag]
def rRep : Row Rep := ⟨4, fun r => r.a.toList, fun _ => rfl, fun k v hv => by simp [Rep.a] at hv; rcases hv with rfl | rfl | rfl | rfl <;> rfl, by decide⟩
structure Told where
  k : K4
  worker : Int
  reads : Int
  left : Int
  waiting : Int
def Told.a (t : Told) : Array Value := #[.int .i64 t.k.l, .int .i64 t.k.z, .int .i64 t.k.x, .int .i64 t.k.y, .int .i64 t.worker, .int .i64 t.reads, .int .i64 t.left, .int .i64 t.waiting]
def rTold : Row Told := ⟨8, fun r => r.a.toList, fun _ => rfl, fun k v hv => by simp [Told.a] at hv; rcases hv with rfl | rfl | rfl | rfl | rfl | rfl | rfl | rfl <;> rfl, by decide⟩
def ptr (o : Option Nat) : Value := .pointer (o.map fun b => ⟨b, 0, none⟩)
def rPtr : Row (Option Nat) := ⟨1, fun o => [ptr o], fun _ => rfl, fun o v hv => by simp at hv; subst hv; rfl, by decide⟩
structure Sli where
  at_ : Option Addr
  n : Nat
  cap : Nat
def Sli.v (s : Sli) : Value := .slice s.at_ s.n s.cap
def rSli : Row Sli := ⟨1, fun s => [s.v], fun _ => rfl, fun o v hv => by simp at hv; subst hv; rfl, by decide⟩
end Go.Proofs.YtpabpniaekldeaaGreatDoor
namespace Go.Proofs.YtpabpniaekldeaaGreatDoor
set_option maxRecDepth 20000
abbrev Ft := Nat -> Int
structure Ora where
  stamp : List Ft -> Int -> K4 -> Int
  body : List Ft -> K4 -> ByteArray
  tag : K4 -> Int -> ByteArray
structure Fl where
  b : K4
  reads : Nat
  left : Nat
  got : Nat
structure FM where
  queue : Nat
  wait : Nat
  chunk : Nat
  room : Nat
  now : Nat
  arrived : Nat
  started : Nat
  ver : Nat
  LS : List Ft
  FLs : Nat -> List Ft
  PI : List Int
  waiting : List Req
  line : List K4
  wks : List (Option Fl)
  tiles : List Tile
end Go.Proofs.YtpabpniaekldeaaGreatDoor
namespace Go.Proofs.YtpabpniaekldeaaGreatDoor
open Go.RowKit
set_option maxRecDepth 20000
theorem hide {p : Prop} (h : p) : Hid p := h
theorem unhide {p : Prop} (h : Hid p) : p := h
theorem ret_bool {a b : Bool} (h : a = b) : Ending.returned (.bool a) = .returned (.bool b) := by rw [h]
theorem ret_int {k : IntKind} {a b : Int} (h : a = b) : Ending.returned (.int k a) = .returned (.int k b) := by rw [h]
def fc (f : Nat -> Int) : Array Value := (Array.range 24).map fun i => .int .i64 (f i)
theorem fc_size (f : Nat -> Int) : (fc f).size = 24 := by simp [fc]
theorem fc_at (f : Nat -> Int) (i : Nat) (h : i < 24) : (fc f)[i]? = some (.int .i64 (f i)) := by simp [fc, h]
def inR (n lo hi : Int) : Bool := decide (lo <= n /\ n <= hi)
theorem inR_t {n lo hi : Int} (h : lo <= n) (h' : n <= hi) : inR n lo hi = true := by simp [inR, h, h']
theorem inR_f1 {n lo hi : Int} (h : n < lo) : inR n lo hi = false := by simp [inR]; omega
theorem inR_f2 {n lo hi : Int} (h : hi < n) : inR n lo hi = false := by simp [inR]; omega
theorem within_any (n lo hi : Int) (w : World) :
    Calls Tryz.prog 187 #[.int .i64 n, .int .i64 lo, .int .i64 hi] w fun e w' => e = .returned (.bool (inR n lo hi)) /\ w = w' := by
  by_cases h1 : lo <= n
  . by_cases h2 : n <= hi
    . have H := hide (inR_t h1 h2)
      go_enter Tryz.func187, Tryz.ntmps187
      go_wp2
      go_ret
      exact ⟨ret_bool (unhide H).symm, rfl⟩
    . have H := hide (inR_f2 (n := n) (lo := lo) (hi := hi) (by omega))
      go_enter Tryz.func187, Tryz.ntmps187
      go_wp2
      go_ret
      exact ⟨ret_bool (unhide H).symm, rfl⟩
  . have H := hide (inR_f1 (n := n) (lo := lo) (hi := hi) (by omega))
    go_enter Tryz.func187, Tryz.ntmps187
    go_wp2
    go_ret
    exact ⟨ret_bool (unhide H).symm, rfl⟩
theorem in_any (n lo hi : Int) (w : World) :
    Calls Tryz.prog 67 #[.int .i64 n, .int .i64 lo, .int .i64 hi] w fun e w' => e = .returned (.bool (inR n lo hi)) /\ w = w' := by
  by_cases h1 : lo <= n
  . by_cases h2 : n <= hi
    . have H := hide (inR_t h1 h2)
      go_enter Tryz.func67, Tryz.ntmps67
      go_wp2
      go_ret
      exact ⟨ret_bool (unhide H).symm, rfl⟩
    . have H := hide (inR_f2 (n := n) (lo := lo) (hi := hi) (by omega))
      go_enter Tryz.func67, Tryz.ntmps67
      go_wp2
      go_ret
      exact ⟨ret_bool (unhide H).symm, rfl⟩
  . have H := hide (inR_f1 (n := n) (lo := lo) (hi := hi) (by omega))
    go_enter Tryz.func67, Tryz.ntmps67
    go_wp2
    go_ret
    exact ⟨ret_bool (unhide H).symm, rfl⟩
theorem isPlace_any (n : Int) (w : World) :
    Calls Tryz.prog 159 #[.int .i64 n] w fun e w' => e = .returned (.bool (inR n 0 1073741824)) /\ w = w' := by
  go_enter Tryz.func159, Tryz.ntmps159
  go_wp2_with fail
  refine (within_any n _ _ _).mono ?_
  rintro e w1 ⟨rfl, rfl⟩
  go_wp2_with fail
  go_ret
  exact ⟨rfl, rfl⟩
def traits (f : Nat -> Int) : Bool := inR (f 0) 1 1000 && inR (f 1) 0 3 && inR (f 3) 1 15 && inR (f 4) 0 9 && inR (f 5) 0 22
theorem below_one (w : World) (o : Obj) : Below w.heap.size w (w.alloc o) := (Below.refl _ _).alloc (Nat.le_refl _) _
set_option maxHeartbeats 800000 in
theorem hasTraits_any (f : Nat -> Int) (w : World) :
    Calls Tryz.prog 156 #[.agg (fc f)] w fun e w' => e = .returned (.bool (traits f)) /\ Below w.heap.size w w' := by
  have c0 := fc_at f 0 (by decide)
  have c1 := fc_at f 1 (by decide)
  have c3 := fc_at f 3 (by decide)
  have c4 := fc_at f 4 (by decide)
  have c5 := fc_at f 5 (by decide)
  cases h0 : inR (f 0) 1 1000 with
  | false =>
    have H : Hid (traits f = false) := by show traits f = false; simp [traits, h0]
    go_enter Tryz.func156, Tryz.ntmps156
    go_wp2_with (go_at_call 187; refine (within_any _ _ _ _).mono ?_; rintro e w1 ⟨rfl, rfl⟩)
    go_ret
    exact ⟨ret_bool (unhide H).symm, below_one _ _⟩
  | true =>
  cases h1 : inR (f 1) 0 3 with
  | false =>
    have H : Hid (traits f = false) := by show traits f = false; simp [traits, h1]
    go_enter Tryz.func156, Tryz.ntmps156
    go_wp2_with (go_at_call 187; refine (within_any _ _ _ _).mono ?_; rintro e w1 ⟨rfl, rfl⟩)
    go_ret
    exact ⟨ret_bool (unhide H).symm, below_one _ _⟩
  | true =>
  cases h3 : inR (f 3) 1 15 with
  | false =>
    have H : Hid (traits f = false) := by show traits f = false; simp [traits, h3]
    go_enter Tryz.func156, Tryz.ntmps156
    go_wp2_with (go_at_call 187; refine (within_any _ _ _ _).mono ?_; rintro e w1 ⟨rfl, rfl⟩)
    go_ret
    exact ⟨ret_bool (unhide H).symm, below_one _ _⟩
  | true =>
  cases h4 : inR (f 4) 0 9 with
  | false =>
    have H : Hid (traits f = false) := by show traits f = false; simp [traits, h4]
    go_enter Tryz.func156, Tryz.ntmps156
    go_wp2_with (go_at_call 187; refine (within_any _ _ _ _).mono ?_; rintro e w1 ⟨rfl, rfl⟩)
    go_ret
    exact ⟨ret_bool (unhide H).symm, below_one _ _⟩
  | true =>
    have H : Hid (traits f = inR (f 5) 0 22) := by show traits f = _; simp [traits, h0, h1, h3, h4]
    go_enter Tryz.func156, Tryz.ntmps156
    go_wp2_with (go_at_call 187; refine (within_any _ _ _ _).mono ?_; rintro e w1 ⟨rfl, rfl⟩)
    go_ret
    exact ⟨ret_bool (unhide H).symm, below_one _ _⟩
def form (f : Nat -> Int) : Bool :=
  if f 2 = 0 then decide (f 6 = 0) && inR (f 7) 3 8 else if f 2 = 1 then inR (f 6) 1 3 && decide (f 7 = 1) else false
def pt (f : Nat -> Int) (i : Nat) : Bool :=
  inR (f (8 + i)) 0 1073741824 && inR (f (16 + i)) 0 1073741824 && !(decide (f 7 <= (i : Int)) && (decide (f (8 + i) ≠ 0) || decide (f (16 + i) ≠ 0)))
def pts (f : Nat -> Int) (k : Nat) : Bool := (List.range k).all (pt f)
def right (f : Nat -> Int) : Bool := traits f && form f && pts f 8
theorem pts_snoc (f : Nat -> Int) (k : Nat) (h : pts f k = true) (h' : pt f k = true) : pts f (k + 1) = true := by
  unfold pts at *; rw [List.range_succ, List.all_append, h]; simp [h']
theorem pts_false (f : Nat -> Int) (k : Nat) (hk : k < 8) (h : pt f k = false) : pts f 8 = false := by
  rw [Bool.eq_false_iff]; intro ht
  simp only [pts, List.all_eq_true, List.mem_range] at ht
  rw [ht k hk] at h; cases h
theorem pt_x {f : Nat -> Int} {k : Nat} {X : Int} (e : f (8 + k) = X) (h : inR X 0 1073741824 = false) : pt f k = false := by simp [pt, e, h]
theorem pt_y {f : Nat -> Int} {k : Nat} {X : Int} (e : f (16 + k) = X) (h : inR X 0 1073741824 = false) : pt f k = false := by simp [pt, e, h]
theorem pt_t {f : Nat -> Int} {k : Nat} {X Y N : Int} (e : f (8 + k) = X) (e' : f (16 + k) = Y) (en : f 7 = N) (h : inR X 0 1073741824 = true) (h' : inR Y 0 1073741824 = true) (hn : (k : Int) < N \/ (X = 0 /\ Y = 0)) : pt f k = true := by
  simp only [pt, e, e', en, h, h', Bool.true_and, Bool.not_eq_true', Bool.and_eq_false_iff, decide_eq_false_iff_not, Bool.or_eq_false_iff]
  rcases hn with hn | ⟨a, b⟩
  . left; omega
  . right; simp [a, b]
theorem pt_f {f : Nat -> Int} {k : Nat} {X Y N : Int} (e : f (8 + k) = X) (e' : f (16 + k) = Y) (en : f 7 = N) (hn : N <= (k : Int)) (h : ¬ X = 0 \/ ¬ Y = 0) : pt f k = false := by
  simp only [pt, e, e', en, Bool.and_eq_false_iff, Bool.not_eq_false', Bool.and_eq_true, Bool.or_eq_true, decide_eq_true_eq]
  right; exact ⟨hn, h⟩
set_option maxHeartbeats 800000 in
theorem hasForm_any (f : Nat -> Int) (w : World) :
    Calls Tryz.prog 157 #[.agg (fc f)] w fun e w' => e = .returned (.bool (form f)) /\ Below w.heap.size w w' := by
  have c2 := fc_at f 2 (by decide)
  have c6 := fc_at f 6 (by decide)
  have c7 := fc_at f 7 (by decide)
  obtain ⟨K, hK⟩ : ∃ K, f 2 = K := ⟨_, rfl⟩
  obtain ⟨S, hS⟩ : ∃ K, f 6 = K := ⟨_, rfl⟩
  obtain ⟨N, hN⟩ : ∃ K, f 7 = K := ⟨_, rfl⟩
  rw [hK] at c2; rw [hS] at c6; rw [hN] at c7
  by_cases h0 : K = 0
  . subst h0
    by_cases h6 : S = 0
    . subst h6
      have H : Hid (form f = inR N 3 8) := by show form f = _; simp [form, hK, hS, hN]
      clear hK hS hN
      go_enter Tryz.func157, Tryz.ntmps157
      go_wp2_with (go_at_call 187; refine (within_any _ _ _ _).mono ?_; rintro e w1 ⟨rfl, rfl⟩)
      go_ret
      exact ⟨ret_bool (unhide H).symm, below_one _ _⟩
    . have H : Hid (form f = false) := by show form f = _; simp [form, hK, hS, h6]
      clear hK hS hN
      go_enter Tryz.func157, Tryz.ntmps157
      go_wp2_with (go_at_call 187; refine (within_any _ _ _ _).mono ?_; rintro e w1 ⟨rfl, rfl⟩)
      go_ret
      exact ⟨ret_bool (unhide H).symm, below_one _ _⟩
  by_cases h1 : K = 1
  . subst h1
    cases hs : inR S 1 3 with
    | true =>
      have H : Hid (form f = (N == 1)) := by show form f = _; simp [form, hK, hS, hN, hs, BEq.beq]
      clear hK hS hN
      go_enter Tryz.func157, Tryz.ntmps157
      go_wp2_with (go_at_call 187; refine (within_any _ _ _ _).mono ?_; rintro e w1 ⟨rfl, rfl⟩)
      go_ret
      exact ⟨ret_bool (unhide H).symm, below_one _ _⟩
    | false =>
      have H : Hid (form f = false) := by show form f = _; simp [form, hK, hS, hs]
      clear hK hS hN
      go_enter Tryz.func157, Tryz.ntmps157
      go_wp2_with (go_at_call 187; refine (within_any _ _ _ _).mono ?_; rintro e w1 ⟨rfl, rfl⟩)
      go_ret
      exact ⟨ret_bool (unhide H).symm, below_one _ _⟩
  . have H : Hid (form f = false) := by show form f = _; simp [form, hK, h0, h1]
    clear hK hS hN
    go_enter Tryz.func157, Tryz.ntmps157
    go_wp2_with (go_at_call 187; refine (within_any _ _ _ _).mono ?_; rintro e w1 ⟨rfl, rfl⟩)
    go_ret
    exact ⟨ret_bool (unhide H).symm, below_one _ _⟩
set_option maxHeartbeats 800000 in
theorem hasPoints_any (f : Nat -> Int) (w : World) :
    Calls Tryz.prog 158 #[.agg (fc f)] w fun e w' => e = .returned (.bool (pts f 8)) /\ Below w.heap.size w w' := by
  have c7 := fc_at f 7 (by decide)
  obtain ⟨N, hN⟩ : ∃ K, f 7 = K := ⟨_, rfl⟩
  rw [hN] at c7
  have HN := hide hN
  clear hN
  go_enter Tryz.func158, Tryz.ntmps158
  go_wp2
  go_loop [3] (fun i => ∃ k : Nat, k <= 8 /\ i = .int .i64 k /\ Hid (pts f k = true)) (fun i => 8 - (intOf i).toNat)
  case atStart => exact ⟨0, by decide, rfl, hide rfl⟩
  case round =>
    obtain ⟨k, hk, rfl, hall⟩ := hrel
    by_cases hlt : k < 8
    . have cx := fc_at f (8 + k) (by omega)
      have cy := fc_at f (16 + k) (by omega)
      obtain ⟨X, hX⟩ : ∃ K, f (8 + k) = K := ⟨_, rfl⟩
      obtain ⟨Y, hY⟩ : ∃ K, f (16 + k) = K := ⟨_, rfl⟩
      rw [hX] at cx; rw [hY] at cy
      have HX := hide hX
      have HY := hide hY
      clear hX hY
      cases hx : inR X 0 1073741824 with
      | false =>
        go_wp2_with (go_at_call 159; refine (isPlace_any _ _).mono ?_; rintro e w1 ⟨rfl, rfl⟩)
        go_ret
        exact ⟨ret_bool (pts_false f k hlt (pt_x (unhide HX) hx)).symm, below_one _ _⟩
      | true =>
      cases hy : inR Y 0 1073741824 with
      | false =>
        go_wp2_with (go_at_call 159; refine (isPlace_any _ _).mono ?_; rintro e w1 ⟨rfl, rfl⟩)
        go_ret
        exact ⟨ret_bool (pts_false f k hlt (pt_y (unhide HY) hy)).symm, below_one _ _⟩
      | true =>
      by_cases hn : N <= (k : Int)
      . by_cases hx0 : X = 0
        . by_cases hy0 : Y = 0
          . subst hx0
            subst hy0
            go_wp2_with (go_at_call 159; refine (isPlace_any _ _).mono ?_; rintro e w1 ⟨rfl, rfl⟩)
            go_round
            case rel => exact ⟨k + 1, by omega, by go_num, hide (pts_snoc f k (unhide hall) (pt_t (unhide HX) (unhide HY) (unhide HN) rfl rfl (Or.inr ⟨rfl, rfl⟩)))⟩
            case measure => simp [intOf]; omega
          . subst hx0
            go_wp2_with (go_at_call 159; refine (isPlace_any _ _).mono ?_; rintro e w1 ⟨rfl, rfl⟩)
            go_ret
            exact ⟨ret_bool (pts_false f k hlt (pt_f (unhide HX) (unhide HY) (unhide HN) hn (Or.inr hy0))).symm, below_one _ _⟩
        . go_wp2_with (go_at_call 159; refine (isPlace_any _ _).mono ?_; rintro e w1 ⟨rfl, rfl⟩)
          go_ret
          exact ⟨ret_bool (pts_false f k hlt (pt_f (unhide HX) (unhide HY) (unhide HN) hn (Or.inl hx0))).symm, below_one _ _⟩
      . go_wp2_with (go_at_call 159; refine (isPlace_any _ _).mono ?_; rintro e w1 ⟨rfl, rfl⟩)
        go_round
        case rel => exact ⟨k + 1, by omega, by go_num, hide (pts_snoc f k (unhide hall) (pt_t (unhide HX) (unhide HY) (unhide HN) hx hy (Or.inl (by omega))))⟩
        case measure => simp [intOf]; omega
    . go_wp2
      go_ret
      have hk8 : k = 8 := by omega
      subst hk8
      exact ⟨ret_bool (unhide hall).symm, below_one _ _⟩
theorem blk_on {W W' : World} {b : Nat} {o : Obj} (h : W.heap[b]? = some o) (hb : Below W.heap.size W W') : W'.heap[b]? = some o := by
  have : b < W.heap.size := (Array.getElem?_eq_some_iff.1 h).1
  rw [hb.block b this, h]
theorem blk_cells {W : World} {b : Nat} {cs : Array Value} {t : TypeId} (h : W.heap[b]? = some (.cells cs t (0, 0))) (j : Nat) : W.cell? ⟨b, j, none⟩ = cs[j]? := cell_of_row W b j cs t (0, 0) h
theorem szf (f : Nat -> Int) : (Tryz.prog.info? 66).map (·.size) = some (fc f).size := by rw [fc_size]; kernel_rfl
theorem ld26 {ops : Array Oper} {rest : List Oper} {o : Oper} {a : Act} {w : World} {Q : Exit -> Act -> World -> Prop} (hw : Region.wanted o (yielded ops a.tmps) = true) (x : Operand) (ho : o.op = .load 66 x)
    (g : Nat) (hx : a.eval x = .pointer (some ⟨g, 0, none⟩)) (f : Nat -> Int) (hg : w.heap[g]? = some (.cells (fc f) 66 (0, 0)))
    (h : wpList Tryz.prog ops Q rest (a.put o.dst (.agg (fc f))) w) : wpList Tryz.prog ops Q (o :: rest) a w := by
  unfold wpList
  rw [if_pos hw]
  exact Or.inl (wp_load_row 66 x ho g hx 66 (fc f) (0, 0) _ hg Tryz.underlying66 rfl (szf f) h)
set_option maxHeartbeats 800000 in
theorem check_any (f : Nat -> Int) (w : World) :
    Calls Tryz.prog 102 #[.agg (fc f)] w fun e w' => e = .returned (.int .i64 (bif right f then 0 else 7)) /\ Below w.heap.size w w' := by
  have hg0 := heap_alloc_new w (.cells (fc f) 66 (0, 0))
  cases h1 : traits f with
  | false =>
    have H : Hid (right f = false) := by show right f = _; simp [right, h1]
    go_enter Tryz.func102, Tryz.ntmps102
    go_wp2_with (refine ld26 rfl _ rfl _ rfl f hg0 ?_)
    refine (hasTraits_any f _).mono ?_
    rintro e w1 ⟨rfl, hb1⟩
    have HB := hide ((below_one _ _).trans (hb1.mono (by simp)))
    clear hb1
    go_wp2_with fail
    go_ret
    exact ⟨ret_int (by rw [unhide H]; rfl), unhide HB⟩
  | true =>
  cases h2 : form f with
  | false =>
    have H : Hid (right f = false) := by show right f = _; simp [right, h2]
    go_enter Tryz.func102, Tryz.ntmps102
    go_wp2_with (refine ld26 rfl _ rfl _ rfl f hg0 ?_)
    refine (hasTraits_any f _).mono ?_
    rintro e w1 ⟨rfl, hb1⟩
    have hg1 := blk_on hg0 hb1
    have HB := hide ((below_one _ _).trans (hb1.mono (by simp)))
    clear hb1
    go_wp2_with (refine ld26 rfl _ rfl _ rfl f hg1 ?_)
    refine (hasForm_any f _).mono ?_
    rintro e w2 ⟨rfl, hb2⟩
    have HB2 := hide ((unhide HB).trans (hb2.mono (unhide HB).size))
    clear hb2 hg1
    go_wp2_with fail
    go_ret
    exact ⟨ret_int (by rw [unhide H]; rfl), unhide HB2⟩
  | true =>
    have H : Hid (right f = pts f 8) := by show right f = _; simp [right, h1, h2]
    cases h3 : pts f 8 with
    | false =>
      go_enter Tryz.func102, Tryz.ntmps102
      go_wp2_with (refine ld26 rfl _ rfl _ rfl f hg0 ?_)
      refine (hasTraits_any f _).mono ?_
      rintro e w1 ⟨rfl, hb1⟩
      have hg1 := blk_on hg0 hb1
      have HB := hide ((below_one _ _).trans (hb1.mono (by simp)))
      clear hb1
      go_wp2_with (refine ld26 rfl _ rfl _ rfl f hg1 ?_)
      refine (hasForm_any f _).mono ?_
      rintro e w2 ⟨rfl, hb2⟩
      have hg2 := blk_on hg1 hb2
      have HB2 := hide ((unhide HB).trans (hb2.mono (unhide HB).size))
      clear hb2 hg1
      go_wp2_with (refine ld26 rfl _ rfl _ rfl f hg2 ?_)
      refine (hasPoints_any f _).mono ?_
      rintro e w3 ⟨rfl, hb3⟩
      have HB3 := hide ((unhide HB2).trans (hb3.mono (unhide HB2).size))
      clear hb3 hg2
      go_wp2_with fail
      go_ret
      exact ⟨ret_int (by rw [unhide H, h3]; rfl), unhide HB3⟩
    | true =>
      go_enter Tryz.func102, Tryz.ntmps102
      go_wp2_with (refine ld26 rfl _ rfl _ rfl f hg0 ?_)
      refine (hasTraits_any f _).mono ?_
      rintro e w1 ⟨rfl, hb1⟩
      have hg1 := blk_on hg0 hb1
      have HB := hide ((below_one _ _).trans (hb1.mono (by simp)))
      clear hb1
      go_wp2_with (refine ld26 rfl _ rfl _ rfl f hg1 ?_)
      refine (hasForm_any f _).mono ?_
      rintro e w2 ⟨rfl, hb2⟩
      have hg2 := blk_on hg1 hb2
      have HB2 := hide ((unhide HB).trans (hb2.mono (unhide HB).size))
      clear hb2 hg1
      go_wp2_with (refine ld26 rfl _ rfl _ rfl f hg2 ?_)
      refine (hasPoints_any f _).mono ?_
      rintro e w3 ⟨rfl, hb3⟩
      have HB3 := hide ((unhide HB2).trans (hb3.mono (unhide HB2).size))
      clear hb3 hg2
      go_wp2_with fail
      go_ret
      exact ⟨ret_int (by rw [unhide H, h3]; rfl), unhide HB3⟩
set_option maxHeartbeats 3200000 in
theorem refRight_any (f : Nat -> Int) (w : World) :
    Calls Tryz.prog 116 #[.agg (fc f)] w fun e w' => e = .returned (.bool (right f)) /\ Below w.heap.size w w' := by
  have c0 := fc_at f 0 (by decide)
  have c1 := fc_at f 1 (by decide)
  have c3 := fc_at f 3 (by decide)
  have c4 := fc_at f 4 (by decide)
  have c5 := fc_at f 5 (by decide)
  have c2 := fc_at f 2 (by decide)
  have c6 := fc_at f 6 (by decide)
  have c7 := fc_at f 7 (by decide)
  obtain ⟨K, hK⟩ : ∃ K, f 2 = K := ⟨_, rfl⟩
  obtain ⟨S, hS⟩ : ∃ K, f 6 = K := ⟨_, rfl⟩
  obtain ⟨N, hN⟩ : ∃ K, f 7 = K := ⟨_, rfl⟩
  rw [hK] at c2; rw [hS] at c6; rw [hN] at c7
  cases h0 : inR (f 0) 1 1000 with
  | false =>
    have H : Hid (right f = false) := by show right f = _; simp [right, traits, h0]
    clear hK hS hN
    go_enter Tryz.func116, Tryz.ntmps116
    go_wp2_with (go_at_call 67; refine (in_any _ _ _ _).mono ?_; rintro e w1 ⟨rfl, rfl⟩)
    go_ret
    exact ⟨ret_bool (unhide H).symm, below_one _ _⟩
  | true =>
  cases h1 : inR (f 1) 0 3 with
  | false =>
    have H : Hid (right f = false) := by show right f = _; simp [right, traits, h1]
    clear hK hS hN
    go_enter Tryz.func116, Tryz.ntmps116
    go_wp2_with (go_at_call 67; refine (in_any _ _ _ _).mono ?_; rintro e w1 ⟨rfl, rfl⟩)
    go_ret
    exact ⟨ret_bool (unhide H).symm, below_one _ _⟩
  | true =>
  cases h3 : inR (f 3) 1 15 with
  | false =>
    have H : Hid (right f = false) := by show right f = _; simp [right, traits, h3]
    clear hK hS hN
    go_enter Tryz.func116, Tryz.ntmps116
    go_wp2_with (go_at_call 67; refine (in_any _ _ _ _).mono ?_; rintro e w1 ⟨rfl, rfl⟩)
    go_ret
    exact ⟨ret_bool (unhide H).symm, below_one _ _⟩
  | true =>
  cases h4 : inR (f 4) 0 9 with
  | false =>
    have H : Hid (right f = false) := by show right f = _; simp [right, traits, h4]
    clear hK hS hN
    go_enter Tryz.func116, Tryz.ntmps116
    go_wp2_with (go_at_call 67; refine (in_any _ _ _ _).mono ?_; rintro e w1 ⟨rfl, rfl⟩)
    go_ret
    exact ⟨ret_bool (unhide H).symm, below_one _ _⟩
  | true =>
  cases h5 : inR (f 5) 0 22 with
  | false =>
    have H : Hid (right f = false) := by show right f = _; simp [right, traits, h5]
    clear hK hS hN
    go_enter Tryz.func116, Tryz.ntmps116
    go_wp2_with (go_at_call 67; refine (in_any _ _ _ _).mono ?_; rintro e w1 ⟨rfl, rfl⟩)
    go_ret
    exact ⟨ret_bool (unhide H).symm, below_one _ _⟩
  | true =>
  by_cases hk0 : K = 0
  . subst hk0
    cases hq : inR N 3 8 with
    | false =>
      have H : Hid (right f = false) := by show right f = _; simp [right, form, hK, hN, hq]
      clear hK hS hN
      go_enter Tryz.func116, Tryz.ntmps116
      go_wp2_with (go_at_call 67; refine (in_any _ _ _ _).mono ?_; rintro e w1 ⟨rfl, rfl⟩)
      go_ret
      exact ⟨ret_bool (unhide H).symm, below_one _ _⟩
    | true =>
      by_cases h6 : S = 0
      . subst h6
        have H : Hid (right f = pts f 8) := by show right f = _; simp [right, traits, form, hK, hS, hN, h0, h1, h3, h4, h5, hq]
        have HN := hide hN
        clear hK hS hN
        go_enter Tryz.func116, Tryz.ntmps116
        go_wp2_with (go_at_call 67; refine (in_any _ _ _ _).mono ?_; rintro e w1 ⟨rfl, rfl⟩)
        go_loop [10, 11, 12] (fun i _ _ => ∃ k : Nat, k <= 8 /\ i = .int .i64 k /\ Hid (pts f k = true)) (fun i _ _ => 8 - (intOf i).toNat)
        case atStart => exact ⟨0, by decide, rfl, hide rfl⟩
        case round =>
          obtain ⟨k, hk, rfl, hall⟩ := hrel
          by_cases hlt : k < 8
          . have cx := fc_at f (8 + k) (by omega)
            have cy := fc_at f (16 + k) (by omega)
            obtain ⟨X, hX⟩ : ∃ K, f (8 + k) = K := ⟨_, rfl⟩
            obtain ⟨Y, hY⟩ : ∃ K, f (16 + k) = K := ⟨_, rfl⟩
            rw [hX] at cx; rw [hY] at cy
            have HX := hide hX
            have HY := hide hY
            clear hX hY
            cases hx : inR X 0 1073741824 with
            | false =>
              go_wp2_with (go_at_call 67; refine (in_any _ _ _ _).mono ?_; rintro e w1 ⟨rfl, rfl⟩)
              go_ret
              exact ⟨ret_bool ((unhide H).trans (pts_false f k hlt (pt_x (unhide HX) hx))).symm, below_one _ _⟩
            | true =>
            cases hy : inR Y 0 1073741824 with
            | false =>
              go_wp2_with (go_at_call 67; refine (in_any _ _ _ _).mono ?_; rintro e w1 ⟨rfl, rfl⟩)
              go_ret
              exact ⟨ret_bool ((unhide H).trans (pts_false f k hlt (pt_y (unhide HY) hy))).symm, below_one _ _⟩
            | true =>
            by_cases hn : N <= (k : Int)
            . by_cases hx0 : X = 0
              . by_cases hy0 : Y = 0
                . subst hx0
                  subst hy0
                  go_wp2_with (go_at_call 67; refine (in_any _ _ _ _).mono ?_; rintro e w1 ⟨rfl, rfl⟩)
                  go_round
                  case rel => exact ⟨k + 1, by omega, by go_num, hide (pts_snoc f k (unhide hall) (pt_t (unhide HX) (unhide HY) (unhide HN) rfl rfl (Or.inr ⟨rfl, rfl⟩)))⟩
                  case measure => simp [intOf]; omega
                . subst hx0
                  go_wp2_with (go_at_call 67; refine (in_any _ _ _ _).mono ?_; rintro e w1 ⟨rfl, rfl⟩)
                  go_ret
                  exact ⟨ret_bool ((unhide H).trans (pts_false f k hlt (pt_f (unhide HX) (unhide HY) (unhide HN) hn (Or.inr hy0)))).symm, below_one _ _⟩
              . go_wp2_with (go_at_call 67; refine (in_any _ _ _ _).mono ?_; rintro e w1 ⟨rfl, rfl⟩)
                go_ret
                exact ⟨ret_bool ((unhide H).trans (pts_false f k hlt (pt_f (unhide HX) (unhide HY) (unhide HN) hn (Or.inl hx0)))).symm, below_one _ _⟩
            . go_wp2_with (go_at_call 67; refine (in_any _ _ _ _).mono ?_; rintro e w1 ⟨rfl, rfl⟩)
              go_round
              case rel => exact ⟨k + 1, by omega, by go_num, hide (pts_snoc f k (unhide hall) (pt_t (unhide HX) (unhide HY) (unhide HN) hx hy (Or.inl (by omega))))⟩
              case measure => simp [intOf]; omega
          . go_wp2
            go_ret
            have hk8 : k = 8 := by omega
            subst hk8
            exact ⟨ret_bool ((unhide H).trans (unhide hall)).symm, below_one _ _⟩
      . have H : Hid (right f = false) := by show right f = _; simp [right, form, hK, hS, h6]
        clear hK hS hN
        go_enter Tryz.func116, Tryz.ntmps116
        go_wp2_with (go_at_call 67; refine (in_any _ _ _ _).mono ?_; rintro e w1 ⟨rfl, rfl⟩)
        go_ret
        exact ⟨ret_bool (unhide H).symm, below_one _ _⟩
  by_cases hk1 : K = 1
  . subst hk1
    cases hq : inR S 1 3 with
    | false =>
      have H : Hid (right f = false) := by show right f = _; simp [right, form, hK, hS, hq]
      clear hK hS hN
      go_enter Tryz.func116, Tryz.ntmps116
      go_wp2_with (go_at_call 67; refine (in_any _ _ _ _).mono ?_; rintro e w1 ⟨rfl, rfl⟩)
      go_ret
      exact ⟨ret_bool (unhide H).symm, below_one _ _⟩
    | true =>
      by_cases h7 : N = 1
      . subst h7
        have H : Hid (right f = pts f 8) := by show right f = _; simp [right, traits, form, hK, hS, hN, h0, h1, h3, h4, h5, hq]
        have HN := hide hN
        clear hK hS hN
        go_enter Tryz.func116, Tryz.ntmps116
        go_wp2_with (go_at_call 67; refine (in_any _ _ _ _).mono ?_; rintro e w1 ⟨rfl, rfl⟩)
        go_loop [10, 11, 12] (fun i _ _ => ∃ k : Nat, k <= 8 /\ i = .int .i64 k /\ Hid (pts f k = true)) (fun i _ _ => 8 - (intOf i).toNat)
        case atStart => exact ⟨0, by decide, rfl, hide rfl⟩
        case round =>
          obtain ⟨k, hk, rfl, hall⟩ := hrel
          by_cases hlt : k < 8
          . have cx := fc_at f (8 + k) (by omega)
            have cy := fc_at f (16 + k) (by omega)
            obtain ⟨X, hX⟩ : ∃ K, f (8 + k) = K := ⟨_, rfl⟩
            obtain ⟨Y, hY⟩ : ∃ K, f (16 + k) = K := ⟨_, rfl⟩
            rw [hX] at cx; rw [hY] at cy
            have HX := hide hX
            have HY := hide hY
            clear hX hY
            cases hx : inR X 0 1073741824 with
            | false =>
              go_wp2_with (go_at_call 67; refine (in_any _ _ _ _).mono ?_; rintro e w1 ⟨rfl, rfl⟩)
              go_ret
              exact ⟨ret_bool ((unhide H).trans (pts_false f k hlt (pt_x (unhide HX) hx))).symm, below_one _ _⟩
            | true =>
            cases hy : inR Y 0 1073741824 with
            | false =>
              go_wp2_with (go_at_call 67; refine (in_any _ _ _ _).mono ?_; rintro e w1 ⟨rfl, rfl⟩)
              go_ret
              exact ⟨ret_bool ((unhide H).trans (pts_false f k hlt (pt_y (unhide HY) hy))).symm, below_one _ _⟩
            | true =>
            by_cases hn : (1 : Int) <= (k : Int)
            . by_cases hx0 : X = 0
              . by_cases hy0 : Y = 0
                . subst hx0
                  subst hy0
                  go_wp2_with (go_at_call 67; refine (in_any _ _ _ _).mono ?_; rintro e w1 ⟨rfl, rfl⟩)
                  go_round
                  case rel => exact ⟨k + 1, by omega, by go_num, hide (pts_snoc f k (unhide hall) (pt_t (unhide HX) (unhide HY) (unhide HN) rfl rfl (Or.inr ⟨rfl, rfl⟩)))⟩
                  case measure => simp [intOf]; omega
                . subst hx0
                  go_wp2_with (go_at_call 67; refine (in_any _ _ _ _).mono ?_; rintro e w1 ⟨rfl, rfl⟩)
                  go_ret
                  exact ⟨ret_bool ((unhide H).trans (pts_false f k hlt (pt_f (unhide HX) (unhide HY) (unhide HN) hn (Or.inr hy0)))).symm, below_one _ _⟩
              . go_wp2_with (go_at_call 67; refine (in_any _ _ _ _).mono ?_; rintro e w1 ⟨rfl, rfl⟩)
                go_ret
                exact ⟨ret_bool ((unhide H).trans (pts_false f k hlt (pt_f (unhide HX) (unhide HY) (unhide HN) hn (Or.inl hx0)))).symm, below_one _ _⟩
            . go_wp2_with (go_at_call 67; refine (in_any _ _ _ _).mono ?_; rintro e w1 ⟨rfl, rfl⟩)
              go_round
              case rel => exact ⟨k + 1, by omega, by go_num, hide (pts_snoc f k (unhide hall) (pt_t (unhide HX) (unhide HY) (unhide HN) hx hy (Or.inl (by omega))))⟩
              case measure => simp [intOf]; omega
          . go_wp2
            go_ret
            have hk8 : k = 8 := by omega
            subst hk8
            exact ⟨ret_bool ((unhide H).trans (unhide hall)).symm, below_one _ _⟩
      . have H : Hid (right f = false) := by show right f = _; simp [right, form, hK, hN, h7]
        clear hK hS hN
        go_enter Tryz.func116, Tryz.ntmps116
        go_wp2_with (go_at_call 67; refine (in_any _ _ _ _).mono ?_; rintro e w1 ⟨rfl, rfl⟩)
        go_ret
        exact ⟨ret_bool (unhide H).symm, below_one _ _⟩
  . have H : Hid (right f = false) := by show right f = _; simp [right, form, hK, hk0, hk1]
    clear hK hS hN
    go_enter Tryz.func116, Tryz.ntmps116
    go_wp2_with (go_at_call 67; refine (in_any _ _ _ _).mono ?_; rintro e w1 ⟨rfl, rfl⟩)
    go_ret
    exact ⟨ret_bool (unhide H).symm, below_one _ _⟩
def keyErr (l z x y : Int) : Int :=
  if l < 0 \/ 3 < l then 2 else if z < 0 \/ 22 < z then 3
  else if x < 0 \/ (2 : Int) ^ z.toNat <= x \/ y < 0 \/ (2 : Int) ^ z.toNat <= y then 4 else 0
theorem isZoom_any (z : Int) (w : World) :
    Calls Tryz.prog 120 #[.int .i64 z] w fun e w' => e = .returned (.bool (inR z 0 22)) /\ w = w' := by
  by_cases h1 : 0 <= z
  . by_cases h2 : z <= 22
    . have H := hide (inR_t h1 h2)
      go_enter Tryz.func120, Tryz.ntmps120
      go_wp2
      go_ret
      exact ⟨ret_bool (unhide H).symm, rfl⟩
    . have H := hide (inR_f2 (n := z) (lo := 0) (hi := 22) (by omega))
      go_enter Tryz.func120, Tryz.ntmps120
      go_wp2
      go_ret
      exact ⟨ret_bool (unhide H).symm, rfl⟩
  . have H := hide (inR_f1 (n := z) (lo := 0) (hi := 22) (by omega))
    go_enter Tryz.func120, Tryz.ntmps120
    go_wp2
    go_ret
    exact ⟨ret_bool (unhide H).symm, rfl⟩
theorem pow_cap (z : Int) (h : z <= 22) : (1 : Int) <= (2 : Int) ^ z.toNat /\ (2 : Int) ^ z.toNat <= 4194304 := by
  have h1 : z.toNat <= 22 := by omega
  have h2 : (2 : Nat) ^ z.toNat <= 2 ^ 22 := Nat.pow_le_pow_right (by decide) h1
  have h3 : 1 <= (2 : Nat) ^ z.toNat := Nat.one_le_two_pow
  have e : ((2 : Int) ^ z.toNat) = (((2 : Nat) ^ z.toNat : Nat) : Int) := by simp
  rw [e]
  omega
theorem div_pos_iff (x N : Int) (h : 1 <= N) : 0 < x / N ↔ N <= x := by
  have := Int.le_ediv_iff_mul_le (a := 1) (b := x) (c := N) (by omega)
  omega
theorem keyErr_2 (l z x y : Int) (h : l < 0 \/ 3 < l) : keyErr l z x y = 2 := by unfold keyErr; rw [if_pos h]
theorem keyErr_3 (l z x y : Int) (h : ¬ (l < 0 \/ 3 < l)) (h' : z < 0 \/ 22 < z) : keyErr l z x y = 3 := by unfold keyErr; rw [if_neg h, if_pos h']
theorem keyErr_4 (l z x y : Int) (h : ¬ (l < 0 \/ 3 < l)) (h' : ¬ (z < 0 \/ 22 < z)) (h'' : x < 0 \/ (2 : Int) ^ z.toNat <= x \/ y < 0 \/ (2 : Int) ^ z.toNat <= y) : keyErr l z x y = 4 := by unfold keyErr; rw [if_neg h, if_neg h', if_pos h'']
theorem keyErr_0 (l z x y : Int) (h : ¬ (l < 0 \/ 3 < l)) (h' : ¬ (z < 0 \/ 22 < z)) (h'' : ¬ (x < 0 \/ (2 : Int) ^ z.toNat <= x \/ y < 0 \/ (2 : Int) ^ z.toNat <= y)) : keyErr l z x y = 0 := by unfold keyErr; rw [if_neg h, if_neg h', if_neg h'']
set_option maxHeartbeats 1600000 in
theorem keyError_any (l z x y : Int) (w : World) :
    Calls Tryz.prog 75 #[.agg #[.int .i64 l, .int .i64 z, .int .i64 x, .int .i64 y]] w fun e w' => e = .returned (.int .i64 (keyErr l z x y)) /\ Below w.heap.size w w' := by
  by_cases h1 : l < 0
  . have HK := hide (keyErr_2 l z x y (Or.inl h1))
    go_enter Tryz.func75, Tryz.ntmps75
    go_wp2_with (go_at_call 120; refine (isZoom_any _ _).mono ?_; rintro e w1 ⟨rfl, rfl⟩)
    go_ret
    exact ⟨ret_int (unhide HK).symm, (Below.refl _ _).alloc (Nat.le_refl _) _⟩
  by_cases h2 : 3 < l
  . have HK := hide (keyErr_2 l z x y (Or.inr h2))
    go_enter Tryz.func75, Tryz.ntmps75
    go_wp2_with (go_at_call 120; refine (isZoom_any _ _).mono ?_; rintro e w1 ⟨rfl, rfl⟩)
    go_ret
    exact ⟨ret_int (unhide HK).symm, (Below.refl _ _).alloc (Nat.le_refl _) _⟩
  have hl : ¬ (l < 0 \/ 3 < l) := by omega
  by_cases h3 : z < 0
  . have HK := hide (keyErr_3 l z x y hl (Or.inl h3))
    have hzz := inR_f1 (n := z) (lo := 0) (hi := 22) h3
    clear hl
    go_enter Tryz.func75, Tryz.ntmps75
    go_wp2_with (go_at_call 120; refine (isZoom_any _ _).mono ?_; rintro e w1 ⟨rfl, rfl⟩)
    go_ret
    exact ⟨ret_int (unhide HK).symm, (Below.refl _ _).alloc (Nat.le_refl _) _⟩
  by_cases h4 : 22 < z
  . have HK := hide (keyErr_3 l z x y hl (Or.inr h4))
    have hzz := inR_f2 (n := z) (lo := 0) (hi := 22) h4
    clear hl
    go_enter Tryz.func75, Tryz.ntmps75
    go_wp2_with (go_at_call 120; refine (isZoom_any _ _).mono ?_; rintro e w1 ⟨rfl, rfl⟩)
    go_ret
    exact ⟨ret_int (unhide HK).symm, (Below.refl _ _).alloc (Nat.le_refl _) _⟩
  have hz : ¬ (z < 0 \/ 22 < z) := by omega
  have hzz := inR_t (n := z) (lo := 0) (hi := 22) (by omega) (by omega)
  have K4 := hide (keyErr_4 l z x y hl hz)
  have K0 := hide (keyErr_0 l z x y hl hz)
  obtain ⟨p1, p2⟩ := pow_cap z (by omega)
  have hw : wrap64 ((2 : Int) ^ z.toNat) = (2 : Int) ^ z.toNat := IntWalk.wrap64_in _ ⟨by omega, by omega⟩
  obtain ⟨N, hN⟩ : ∃ N, (2 : Int) ^ z.toNat = N := ⟨_, rfl⟩
  rw [hN] at p1 p2 K4 K0
  have hw' : wrap64 ((2 : Int) ^ z.toNat) = N := hw.trans hN
  clear hN hw hl hz
  by_cases h5 : x < 0
  . have HK := hide (unhide K4 (Or.inl h5))
    clear K4 K0
    go_enter Tryz.func75, Tryz.ntmps75
    go_wp2_with (go_at_call 120; refine (isZoom_any _ _).mono ?_; rintro e w1 ⟨rfl, rfl⟩)
    go_ret
    exact ⟨ret_int (unhide HK).symm, (Below.refl _ _).alloc (Nat.le_refl _) _⟩
  by_cases h6 : N <= x
  . have HK := hide (unhide K4 (Or.inr (Or.inl h6)))
    clear K4 K0
    go_enter Tryz.func75, Tryz.ntmps75
    go_wp2_with (go_at_call 120; refine (isZoom_any _ _).mono ?_; rintro e w1 ⟨rfl, rfl⟩)
    go_ret
    exact ⟨ret_int (unhide HK).symm, (Below.refl _ _).alloc (Nat.le_refl _) _⟩
  by_cases h7 : y < 0
  . have HK := hide (unhide K4 (Or.inr (Or.inr (Or.inl h7))))
    clear K4 K0
    go_enter Tryz.func75, Tryz.ntmps75
    go_wp2_with (go_at_call 120; refine (isZoom_any _ _).mono ?_; rintro e w1 ⟨rfl, rfl⟩)
    go_ret
    exact ⟨ret_int (unhide HK).symm, (Below.refl _ _).alloc (Nat.le_refl _) _⟩
  by_cases h8 : N <= y
  . have HK := hide (unhide K4 (Or.inr (Or.inr (Or.inr h8))))
    clear K4 K0
    go_enter Tryz.func75, Tryz.ntmps75
    go_wp2_with (go_at_call 120; refine (isZoom_any _ _).mono ?_; rintro e w1 ⟨rfl, rfl⟩)
    go_ret
    exact ⟨ret_int (unhide HK).symm, (Below.refl _ _).alloc (Nat.le_refl _) _⟩
  have HK := hide (unhide K0 (by omega))
  clear K4 K0
  go_enter Tryz.func75, Tryz.ntmps75
  go_wp2_with (go_at_call 120; refine (isZoom_any _ _).mono ?_; rintro e w1 ⟨rfl, rfl⟩)
  go_ret
  exact ⟨ret_int (unhide HK).symm, (Below.refl _ _).alloc (Nat.le_refl _) _⟩
set_option maxHeartbeats 1600000 in
theorem refKeyError_any (l z x y : Int) (w : World) :
    Calls Tryz.prog 78 #[.agg #[.int .i64 l, .int .i64 z, .int .i64 x, .int .i64 y]] w fun e w' => e = .returned (.int .i64 (keyErr l z x y)) /\ Below w.heap.size w w' := by
  by_cases h1 : l < 0
  . have HK := hide (keyErr_2 l z x y (Or.inl h1))
    go_enter Tryz.func78, Tryz.ntmps78
    go_wp2
    go_ret
    exact ⟨ret_int (unhide HK).symm, (Below.refl _ _).alloc (Nat.le_refl _) _⟩
  by_cases h2 : 3 < l
  . have HK := hide (keyErr_2 l z x y (Or.inr h2))
    go_enter Tryz.func78, Tryz.ntmps78
    go_wp2
    go_ret
    exact ⟨ret_int (unhide HK).symm, (Below.refl _ _).alloc (Nat.le_refl _) _⟩
  have hl : ¬ (l < 0 \/ 3 < l) := by omega
  by_cases h3 : z < 0
  . have HK := hide (keyErr_3 l z x y hl (Or.inl h3))
    clear hl
    go_enter Tryz.func78, Tryz.ntmps78
    go_wp2
    go_ret
    exact ⟨ret_int (unhide HK).symm, (Below.refl _ _).alloc (Nat.le_refl _) _⟩
  by_cases h4 : 22 < z
  . have HK := hide (keyErr_3 l z x y hl (Or.inr h4))
    clear hl
    go_enter Tryz.func78, Tryz.ntmps78
    go_wp2
    go_ret
    exact ⟨ret_int (unhide HK).symm, (Below.refl _ _).alloc (Nat.le_refl _) _⟩
  have hz : ¬ (z < 0 \/ 22 < z) := by omega
  have K4 := hide (keyErr_4 l z x y hl hz)
  have K0 := hide (keyErr_0 l z x y hl hz)
  obtain ⟨p1, p2⟩ := pow_cap z (by omega)
  clear hl hz
  by_cases h5 : x < 0
  . have HK := hide (unhide K4 (Or.inl h5))
    clear K4 K0
    go_enter Tryz.func78, Tryz.ntmps78
    go_wp2
    go_ret
    exact ⟨ret_int (unhide HK).symm, (Below.refl _ _).alloc (Nat.le_refl _) _⟩
  by_cases h7 : y < 0
  . have HK := hide (unhide K4 (Or.inr (Or.inr (Or.inl h7))))
    clear K4 K0
    go_enter Tryz.func78, Tryz.ntmps78
    go_wp2
    go_ret
    exact ⟨ret_int (unhide HK).symm, (Below.refl _ _).alloc (Nat.le_refl _) _⟩
  have qx := div_pos_iff x _ p1
  have qy := div_pos_iff y _ p1
  have QX := hide qx
  have QY := hide qy
  clear qx qy p1 p2
  by_cases h6 : 0 < x / (2 : Int) ^ z.toNat
  . have HK := hide (unhide K4 (Or.inr (Or.inl ((unhide QX).1 h6))))
    clear K4 K0
    go_enter Tryz.func78, Tryz.ntmps78
    go_wp2
    go_ret
    exact ⟨ret_int (unhide HK).symm, (Below.refl _ _).alloc (Nat.le_refl _) _⟩
  by_cases h8 : 0 < y / (2 : Int) ^ z.toNat
  . have HK := hide (unhide K4 (Or.inr (Or.inr (Or.inr ((unhide QY).1 h8)))))
    clear K4 K0
    go_enter Tryz.func78, Tryz.ntmps78
    go_wp2
    go_ret
    exact ⟨ret_int (unhide HK).symm, (Below.refl _ _).alloc (Nat.le_refl _) _⟩
  have n6 : ¬ (2 : Int) ^ z.toNat <= x := fun e => h6 ((unhide QX).2 e)
  have n8 : ¬ (2 : Int) ^ z.toNat <= y := fun e => h8 ((unhide QY).2 e)
  have HK := hide (unhide K0 (by omega))
  clear K4 K0 n6 n8
  go_enter Tryz.func78, Tryz.ntmps78
  go_wp2
  go_ret
  exact ⟨ret_int (unhide HK).symm, (Below.refl _ _).alloc (Nat.le_refl _) _⟩
def un (z : Int) : Int := (2 : Int) ^ (27 - z.toNat)
theorem un_eq (n : Nat) (h : n <= 22) : (134217728 : Int) / (2 : Int) ^ n = (2 : Int) ^ (27 - n) /\ (32 : Int) <= (2 : Int) ^ (27 - n) /\ (2 : Int) ^ (27 - n) <= 134217728 /\ (2 : Int) ^ n * (2 : Int) ^ (27 - n) = 134217728 := by
  have : n ∈ List.range 23 := by simp; omega
  have key : ∀ m ∈ List.range 23, (134217728 : Int) / (2 : Int) ^ m = (2 : Int) ^ (27 - m) /\ (32 : Int) <= (2 : Int) ^ (27 - m) /\ (2 : Int) ^ (27 - m) <= 134217728 /\ (2 : Int) ^ m * (2 : Int) ^ (27 - m) = 134217728 := by decide
  exact key n this
theorem unit_yes (z : Int) (w : World) (h1 : 0 <= z) (h2 : z <= 22) :
    Calls Tryz.prog 122 #[.int .i64 z] w fun e w' => e = .returned (.int .i64 (un z)) /\ w = w' := by
  have h := inR_t h1 h2
  have H := hide (un_eq z.toNat (by omega)).1
  go_enter Tryz.func122, Tryz.ntmps122
  go_wp2_with (go_at_call 120; refine (isZoom_any _ _).mono ?_; rintro e w1 ⟨rfl, rfl⟩)
  go_ret
  exact ⟨ret_int (unhide H), rfl⟩
theorem refUnit_yes (z : Int) (w : World) (h1 : 0 <= z) (h2 : z <= 22) :
    Calls Tryz.prog 161 #[.int .i64 z] w fun e w' => e = .returned (.int .i64 (un z)) /\ w = w' := by
  have e1 : (27 - z).toNat = 27 - z.toNat := by omega
  obtain ⟨_, p1, p2, _⟩ := un_eq z.toNat (by omega)
  have hw : wrap64 ((2 : Int) ^ (27 - z.toNat)) = (2 : Int) ^ (27 - z.toNat) := IntWalk.wrap64_in _ ⟨by omega, by omega⟩
  rw [<- e1] at hw p1 p2
  have H : Hid ((2 : Int) ^ (27 - z).toNat = un z) := by show _ = un z; rw [e1]; rfl
  clear e1
  go_enter Tryz.func161, Tryz.ntmps161
  go_wp2
  go_ret
  exact ⟨ret_int (unhide H), rfl⟩
theorem i64_of (x : Int) (h : -9223372036854775808 <= x /\ x <= 9223372036854775807) : IntKind.i64.wrap x = x := by rw [IntKind.wrap_i64]; omega
theorem i64_in (x : Int) (h : -9223372036854775808 <= x /\ x <= 9223372036854775807) : IntKind.i64.wrap x = x := by rw [IntKind.wrap_i64]; omega
theorem below_alloc {B : Nat} {a w : World} (h : Below B a w) (hB : B <= a.heap.size) (o : Obj) : Below B a (w.alloc o) := h.alloc (Nat.le_trans hB h.size) o
theorem below_drewN {B : Nat} {a w : World} (h : Below B a w) (n : Nat) : Below B a (w.drewN n) := ⟨h.os, h.tape, h.output, h.size, h.block⟩
def cnt (ax ay bx yb x y : Int) : Bool :=
  if ay <= y /\ y < yb then decide ((x - ax) * (yb - ay) < (bx - ax) * (y - ay))
  else if yb <= y /\ y < ay then decide ((x - bx) * (ay - yb) < (ax - bx) * (y - yb)) else false
def W30 (a : Int) : Prop := 0 <= a /\ a <= 1073741824
abbrev Cq (w : World) : World -> Prop := fun w' => Below w.heap.size w w'
theorem region_bq {id : Nat} {Q : Exit -> Act -> World -> Prop} {a : Act} {w : World} {l : List Oper} (hm : Tryz.prog.follows .mixedOrders = true) (hB : Region.lexB .any l.toArray = true)
    (h : wpQuiet Tryz.prog l.toArray (Cq w) (fun a' => ∀ w', Below w.heap.size w w' -> Q .normal a' w') l a) : (Code.region id l.toArray true).wp Tryz.prog Q a w :=
  wp_region_quiet (C := Cq w) hm hB (Below.drew (Below.refl _ _)) (by simpa using h)
section
variable {ops : Array Oper} {w : World} {Q : Act -> Prop} {a : Act} {o : Oper} {rest : List Oper}
theorem q_val (hw : Region.wanted o (yielded ops a.tmps) = true) (v : Value) (h : ∀ w', Below w.heap.size w w' -> (execOp a.eval o).run Tryz.prog w' = .ok (.value v) w') (hk : wpQuiet Tryz.prog ops (Cq w) Q rest (a.put o.dst v)) :
    wpQuiet Tryz.prog ops (Cq w) Q (o :: rest) a :=
  BigFrame.wpQuiet_want hw fun _ hK => ⟨v, fun w' hw' => by unfold Oper.quietAt; rw [h w' hw']; exact ⟨rfl, rfl⟩, hK _ hk⟩
theorem q_move (hw : Region.wanted o (yielded ops a.tmps) = true) (x : Operand) (ho : o.op = .move x) (v : Value) (hv : a.eval x = v) (hk : wpQuiet Tryz.prog ops (Cq w) Q rest (a.put o.dst v)) :
    wpQuiet Tryz.prog ops (Cq w) Q (o :: rest) a :=
  BigFrame.wpQuiet_want hw fun _ hK => BigFrame.quiet_move x ho (by rw [hv]; exact hK _ hk)
theorem q_assign (hw : Region.wanted o (yielded ops a.tmps) = true) (x : Operand) (ho : o.op = .assign x) (v : Value) (hv : a.eval x = v) (hk : wpQuiet Tryz.prog ops (Cq w) Q rest (a.put o.dst v)) :
    wpQuiet Tryz.prog ops (Cq w) Q (o :: rest) a :=
  BigFrame.wpQuiet_want hw fun _ hK => BigFrame.quiet_assign x ho (by rw [hv]; exact hK _ hk)
theorem q_load (hw : Region.wanted o (yielded ops a.tmps) = true) (ty : TypeId) (x : Operand) (ho : o.op = .load ty x) (b off : Nat) (hx : a.eval x = .pointer (some ⟨b, off, none⟩)) (cs : Array Value) (d : TypeDesc)
    (hu : Tryz.prog.underlying ty = some d) (hd : d.isRow = true) (hi : (Tryz.prog.info? ty).map (·.size) = some cs.size)
    (hc : ∀ w', Below w.heap.size w w' -> w'.rangeAt b off cs.toList) (hk : wpQuiet Tryz.prog ops (Cq w) Q rest (a.put o.dst (.agg cs))) :
    wpQuiet Tryz.prog ops (Cq w) Q (o :: rest) a := by
  refine q_val hw _ (fun w' hw' => ?_) hk
  have := run_loadVar_mid (P := Tryz.prog) w' b off ty cs.toList d (hc w' hw') hu hd (by simpa using hi)
  unfold execOp
  simp only [ho, hx, Instr.loadAt, Instr.sureAddr, Sem.run_bind, Sem.run_pure, Result.andThen_ok, this, Array.toArray_toList]
theorem q_call (hw : Region.wanted o (yielded ops a.tmps) = true) (f : FuncId) (args : Array Value) (h0 : ∀ w', (execOp a.eval o).run Tryz.prog w' = .ok (.enter f args) w') (v : Value)
    (hc : ∀ w', Calls Tryz.prog f args w' fun e w'' => e = .returned v /\ Below w'.heap.size w' w'') (hk : wpQuiet Tryz.prog ops (Cq w) Q rest (a.put o.dst v)) :
    wpQuiet Tryz.prog ops (Cq w) Q (o :: rest) a :=
  BigFrame.wpQuiet_want hw fun _ hK => ⟨v, fun w' hw' => by
    unfold Oper.quietAt; rw [h0 w']
    exact ⟨rfl, (hc w').mono fun e w'' h => ⟨h.1, Below.trans hw' (h.2.mono hw'.size)⟩⟩, hK _ hk⟩
end
theorem rng_of {W : World} {b : Nat} {cs : Array Value} {t : TypeId} (h : W.heap[b]? = some (.cells cs t (0, 0))) : W.rangeAt b 0 cs.toList := by
  intro j v hv
  rw [Nat.zero_add, blk_cells h]
  simpa using hv
theorem rng_on {W W' : World} {b : Nat} {cs : Array Value} {t : TypeId} (h : W.heap[b]? = some (.cells cs t (0, 0))) (hb : Below W.heap.size W W') : W'.rangeAt b 0 cs.toList := rng_of (blk_on h hb)
theorem inR_out {n lo hi : Int} (h : inR n lo hi = true) : lo <= n /\ n <= hi := by simpa [inR] using h
structure Rt (f : Nat -> Int) : Prop where
  id : 1 <= f 0 /\ f 0 <= 1000
  la : 0 <= f 1 /\ f 1 <= 3
  ink : 1 <= f 3 /\ f 3 <= 15
  rk : 0 <= f 4 /\ f 4 <= 9
  fr : 0 <= f 5 /\ f 5 <= 22
  kind : (f 2 = 0 /\ f 6 = 0 /\ 3 <= f 7 /\ f 7 <= 8) \/ (f 2 = 1 /\ 1 <= f 6 /\ f 6 <= 3 /\ f 7 = 1)
  px : ∀ i, i < 8 -> W30 (f (8 + i))
  py : ∀ i, i < 8 -> W30 (f (16 + i))
  rest : ∀ i : Nat, i < 8 -> f 7 <= (i : Int) -> f (8 + i) = 0 /\ f (16 + i) = 0
theorem right_out {f : Nat -> Int} (h : right f = true) : Rt f := by
  simp only [right, traits, Bool.and_eq_true] at h
  obtain ⟨⟨⟨⟨⟨⟨h0, h1⟩, h3⟩, h4⟩, h5⟩, hf⟩, hp⟩ := h
  simp only [pts, List.all_eq_true, List.mem_range, pt, Bool.and_eq_true, Bool.not_eq_true', Bool.and_eq_false_iff, Bool.or_eq_false_iff, decide_eq_false_iff_not, Decidable.not_not] at hp
  refine ⟨inR_out h0, inR_out h1, inR_out h3, inR_out h4, inR_out h5, ?_, fun i hi => inR_out (hp i hi).1.1, fun i hi => inR_out (hp i hi).1.2, fun i hi hn => ?_⟩
  . unfold form at hf
    split at hf
    . rename_i e
      simp only [Bool.and_eq_true, decide_eq_true_eq] at hf
      have := inR_out hf.2
      exact Or.inl ⟨e, hf.1, this.1, this.2⟩
    . split at hf
      . rename_i e
        simp only [Bool.and_eq_true, decide_eq_true_eq] at hf
        have := inR_out hf.1
        exact Or.inr ⟨e, this.1, this.2, hf.2⟩
      . cases hf
  . rcases (hp i hi).2 with h | h
    . exact absurd hn h
    . exact h
theorem check_t {f : Nat -> Int} (h : right f = true) (w : World) : Calls Tryz.prog 102 #[.agg (fc f)] w fun e w' => e = .returned (.int .i64 0) /\ Below w.heap.size w w' := by
  have := check_any f w; rw [h] at this; exact this
theorem check_f {f : Nat -> Int} (h : right f = false) (w : World) : Calls Tryz.prog 102 #[.agg (fc f)] w fun e w' => e = .returned (.int .i64 7) /\ Below w.heap.size w w' := by
  have := check_any f w; rw [h] at this; exact this
theorem un_in (z : Int) (h1 : 0 <= z) (h2 : z <= 22) : 32 <= un z /\ un z <= 134217728 := by
  have := un_eq z.toNat (by omega)
  unfold un; exact ⟨this.2.1, this.2.2.1⟩
theorem refRight_t {f : Nat -> Int} (h : right f = true) (w : World) : Calls Tryz.prog 116 #[.agg (fc f)] w fun e w' => e = .returned (.bool true) /\ Below w.heap.size w w' := by
  have := refRight_any f w; rw [h] at this; exact this
theorem refRight_f {f : Nat -> Int} (h : right f = false) (w : World) : Calls Tryz.prog 116 #[.agg (fc f)] w fun e w' => e = .returned (.bool false) /\ Below w.heap.size w w' := by
  have := refRight_any f w; rw [h] at this; exact this
def shw (f : Nat -> Int) (l z : Int) : Bool := decide (f 1 = l) && decide (f 5 <= z)
set_option maxHeartbeats 800000 in
theorem shows48_any (f : Nat -> Int) (l z x y : Int) (w : World) :
    Calls Tryz.prog 121 #[.agg (fc f), .agg #[.int .i64 l, .int .i64 z, .int .i64 x, .int .i64 y]] w fun e w' => e = .returned (.bool (shw f l z)) /\ Below w.heap.size w w' := by
  have c1 := fc_at f 1 (by decide)
  have c5 := fc_at f 5 (by decide)
  obtain ⟨L, hL⟩ : ∃ S, f 1 = S := ⟨_, rfl⟩
  obtain ⟨F, hF⟩ : ∃ S, f 5 = S := ⟨_, rfl⟩
  rw [hL] at c1; rw [hF] at c5
  have H : Hid (shw f l z = (decide (L = l) && decide (F <= z))) := by show shw f l z = _; simp [shw, hL, hF]
  clear hL hF
  by_cases h1 : L = l
  . subst h1
    go_enter Tryz.func121, Tryz.ntmps121
    go_wp2
    go_ret
    refine ⟨ret_bool ?_, ?_⟩
    . rw [unhide H]; simp
    . repeat first | exact Below.refl _ _ | refine below_drewN ?_ _ | refine Below.drew ?_ | refine below_alloc ?_ (Nat.le_refl _) _
  . go_enter Tryz.func121, Tryz.ntmps121
    go_wp2
    go_ret
    refine ⟨ret_bool ?_, ?_⟩
    . rw [unhide H]; simp [h1]
    . repeat first | exact Below.refl _ _ | refine below_drewN ?_ _ | refine Below.drew ?_ | refine below_alloc ?_ (Nat.le_refl _) _
set_option maxHeartbeats 800000 in
theorem shows53_any (f : Nat -> Int) (l z x y : Int) (w : World) :
    Calls Tryz.prog 163 #[.agg (fc f), .agg #[.int .i64 l, .int .i64 z, .int .i64 x, .int .i64 y]] w fun e w' => e = .returned (.bool (shw f l z)) /\ Below w.heap.size w w' := by
  have c1 := fc_at f 1 (by decide)
  have c5 := fc_at f 5 (by decide)
  obtain ⟨L, hL⟩ : ∃ S, f 1 = S := ⟨_, rfl⟩
  obtain ⟨F, hF⟩ : ∃ S, f 5 = S := ⟨_, rfl⟩
  rw [hL] at c1; rw [hF] at c5
  have H : Hid (shw f l z = (decide (L = l) && decide (F <= z))) := by show shw f l z = _; simp [shw, hL, hF]
  clear hL hF
  by_cases h1 : L = l
  . subst h1
    go_enter Tryz.func163, Tryz.ntmps163
    go_wp2
    go_ret
    refine ⟨ret_bool ?_, ?_⟩
    . rw [unhide H]; simp
    . repeat first | exact Below.refl _ _ | refine below_drewN ?_ _ | refine Below.drew ?_ | refine below_alloc ?_ (Nat.le_refl _) _
  . go_enter Tryz.func163, Tryz.ntmps163
    go_wp2
    go_ret
    refine ⟨ret_bool ?_, ?_⟩
    . rw [unhide H]; simp [h1]
    . repeat first | exact Below.refl _ _ | refine below_drewN ?_ _ | refine Below.drew ?_ | refine below_alloc ?_ (Nat.le_refl _) _
set_option maxHeartbeats 800000 in
theorem meet_any (a b c d : Int) (w : World) :
    Calls Tryz.prog 123 #[.agg #[.int .i64 a, .int .i64 b], .agg #[.int .i64 c, .int .i64 d]] w fun e w' => e = .returned (.bool (decide (a <= d) && decide (c <= b))) /\ Below w.heap.size w w' := by
  by_cases h1 : a <= d
  . go_enter Tryz.func123, Tryz.ntmps123
    go_wp2
    go_ret
    refine ⟨ret_bool ?_, ?_⟩
    . simp [h1]
    . repeat first | exact Below.refl _ _ | refine below_drewN ?_ _ | refine Below.drew ?_ | refine below_alloc ?_ (Nat.le_refl _) _
  . go_enter Tryz.func123, Tryz.ntmps123
    go_wp2
    go_ret
    refine ⟨ret_bool ?_, ?_⟩
    . simp; intros; omega
    . repeat first | exact Below.refl _ _ | refine below_drewN ?_ _ | refine Below.drew ?_ | refine below_alloc ?_ (Nat.le_refl _) _
set_option maxHeartbeats 800000 in
theorem squareSide_any (p u : Int) (w : World) (hp : 0 <= p /\ p <= 4194304) (h1 : 0 <= 8 * p * u /\ 8 * p * u <= 1073741824) (h2 : 0 <= 8 * (p + 1) * u /\ 8 * (p + 1) * u <= 1073741824) :
    Calls Tryz.prog 125 #[.int .i64 p, .int .i64 u] w fun e w' => e = .returned (.agg #[.int .i64 (8 * p * u), .int .i64 (8 * (p + 1) * u)]) /\ Below w.heap.size w w' := by
  have q1 : wrap64 (8 * p * u) = 8 * p * u := IntWalk.wrap64_in _ ⟨by omega, by omega⟩
  have q2 : wrap64 (8 * (p + 1) * u) = 8 * (p + 1) * u := IntWalk.wrap64_in _ ⟨by omega, by omega⟩
  clear h1 h2
  go_enter Tryz.func125, Tryz.ntmps125
  go_wp2
  refine bodyPost_ret (v := .agg #[.int .i64 (8 * p * u), .int .i64 (8 * (p + 1) * u)]) (by simp [results, Tryz.results125, go_sem, q1, q2]) rfl ⟨rfl, ?_⟩
  repeat first | exact Below.refl _ _ | refine below_drewN ?_ _ | refine Below.drew ?_ | refine below_alloc ?_ (Nat.le_refl _) _
def ac (g : Nat -> Int) : Array Value := (Array.range 8).map fun i => .int .i64 (g i)
theorem ac_size (g : Nat -> Int) : (ac g).size = 8 := by simp [ac]
theorem ac_at (g : Nat -> Int) (i : Nat) (h : i < 8) : (ac g)[i]? = some (.int .i64 (g i)) := by simp [ac, h]
def mnC (g : Nat -> Int) : Nat -> Int
  | 0 => g 0
  | k + 1 => if g k < mnC g k then g k else mnC g k
def mxC (g : Nat -> Int) : Nat -> Int
  | 0 => g 0
  | k + 1 => if mxC g k < g k then g k else mxC g k
theorem st0 {X W : World} {n : Nat} {a b v : Int} (hn : n = X.heap.size) (h : ∃ q, W = (X.alloc (.cells #[.int .i64 a, .int .i64 b] 186)).drewN q) : ∃ q, W.setCell ⟨n, 0, none⟩ (.int .i64 v) = (X.alloc (.cells #[.int .i64 v, .int .i64 b] 186)).drewN q := by
  obtain ⟨q, rfl⟩ := h
  refine ⟨q, ?_⟩
  show ((X.alloc (.cells #[.int .i64 a, .int .i64 b] 186)).setCell ⟨n, 0, none⟩ (.int .i64 v)).drewN q = _
  rw [World.setCell_alloc_at _ _ _ _ _ hn]; rfl
theorem st1 {X W : World} {n : Nat} {a b v : Int} (hn : n = X.heap.size) (h : ∃ q, W = (X.alloc (.cells #[.int .i64 a, .int .i64 b] 186)).drewN q) : ∃ q, W.setCell ⟨n, 1, none⟩ (.int .i64 v) = (X.alloc (.cells #[.int .i64 a, .int .i64 v] 186)).drewN q := by
  obtain ⟨q, rfl⟩ := h
  refine ⟨q, ?_⟩
  show ((X.alloc (.cells #[.int .i64 a, .int .i64 b] 186)).setCell ⟨n, 1, none⟩ (.int .i64 v)).drewN q = _
  rw [World.setCell_alloc_at _ _ _ _ _ hn]; rfl
theorem dr {W Y : World} (h : ∃ q, W = Y.drewN q) (m : Nat) : ∃ q, W.drewN m = Y.drewN q := by
  obtain ⟨q, rfl⟩ := h
  exact ⟨_, World.drewN_drewN _ _ _⟩
set_option maxHeartbeats 3200000 in
theorem boxSide_any (f g : Nat -> Int) (u : Int) (w : World) (hn : 1 <= f 7 /\ f 7 <= 8) (hg : ∀ i, i < 8 -> W30 (g i)) (hu : W30 (f 6 * u)) :
    Calls Tryz.prog 124 #[.agg (fc f), .agg (ac g), .int .i64 u] w fun e w' => e = .returned (.agg #[.int .i64 (mnC g (f 7).toNat - f 6 * u), .int .i64 (mxC g (f 7).toNat + f 6 * u)]) /\ Below w.heap.size w w' := by
  have c6 := fc_at f 6 (by decide)
  have c7 := fc_at f 7 (by decide)
  have a0 := ac_at g 0 (by decide)
  obtain ⟨S, hS⟩ : ∃ S, f 6 = S := ⟨_, rfl⟩
  obtain ⟨N, hN⟩ : ∃ S, f 7 = S := ⟨_, rfl⟩
  rw [hS] at c6 hu
  rw [hN] at c7 hn
  rw [hS, hN]
  clear hS hN
  obtain ⟨n1, n2⟩ := hn
  unfold W30 at hu
  obtain ⟨R, hR⟩ : ∃ R, S * u = R := ⟨_, rfl⟩
  rw [hR] at hu
  have q1 : wrap64 (S * u) = R := by rw [hR]; exact IntWalk.wrap64_in _ ⟨by omega, by omega⟩
  rw [hR]
  clear hR
  have HG := hide hg
  clear hg
  go_enter Tryz.func124, Tryz.ntmps124
  go_wp2
  go_loopw [8] (fun i wr => ∃ (k : Nat) (a b : Int), 1 <= k /\ (k : Int) <= N /\ i = .int .i64 k /\ Hid (a = mnC g k) /\ Hid (b = mxC g k) /\ W30 a /\ W30 b /\ ∃ q, wr = (((((w.alloc (.cells (fc f) 66)).alloc (.cells (ac g) 64)).alloc (.cells #[.int .i64 0, .int .i64 0] 186)).alloc (.cells #[.int .i64 a, .int .i64 b] 186))).drewN q) (fun i _ => 8 - (intOf i).toNat)
  case atStart =>
    exact ⟨1, g 0, g 0, by omega, by omega, rfl, by simp [Hid, mnC], by simp [Hid, mxC], unhide HG 0 (by omega), unhide HG 0 (by omega), 0, rfl⟩
  case round =>
    obtain ⟨k, a, b, hk1, hk, rfl, ha, hb, wa, wb, q, rfl⟩ := hrel
    by_cases hlt : (k : Int) < N
    . have hk8 : (k : Int) < 8 := by omega
      have ak := ac_at g k (by omega)
      obtain ⟨G, hG⟩ : ∃ S, g k = S := ⟨_, rfl⟩
      rw [hG] at ak
      have HGk := hide hG
      clear hG
      have wG : W30 G := (unhide HGk) ▸ unhide HG k (by omega)
      have WG := hide wG
      by_cases h1 : G < a
      . by_cases h2 : b < G
        . go_wp2
          go_quiet (fail)
          go_wp2
          go_quiet (fail)
          go_wp2
          go_roundw
          case rel => exact ⟨k + 1, G, G, by omega, by omega, by go_num, hide (by simp only [mnC, <- unhide ha, unhide HGk]; rw [if_pos h1]), hide (by simp only [mxC, <- unhide hb, unhide HGk]; rw [if_pos h2]), wG, wG, st1 (by simp) (dr (st0 (by simp) ⟨_, rfl⟩) _)⟩
          case measure => simp [intOf]; omega
        . go_wp2
          go_quiet (fail)
          go_wp2
          go_quiet (fail)
          go_wp2
          go_roundw
          case rel => exact ⟨k + 1, G, b, by omega, by omega, by go_num, hide (by simp only [mnC, <- unhide ha, unhide HGk]; rw [if_pos h1]), hide (by simp only [mxC, <- unhide hb, unhide HGk]; rw [if_neg (by omega)]), wG, wb, dr (st0 (by simp) ⟨_, rfl⟩) _⟩
          case measure => simp [intOf]; omega
      . by_cases h2 : b < G
        . go_wp2
          go_quiet (fail)
          go_wp2
          go_quiet (fail)
          go_wp2
          go_roundw
          case rel => exact ⟨k + 1, a, G, by omega, by omega, by go_num, hide (by simp only [mnC, <- unhide ha, unhide HGk]; rw [if_neg (by omega)]), hide (by simp only [mxC, <- unhide hb, unhide HGk]; rw [if_pos h2]), wa, wG, st1 (by simp) ⟨_, rfl⟩⟩
          case measure => simp [intOf]; omega
        . go_wp2
          go_quiet (fail)
          go_wp2
          go_quiet (fail)
          go_wp2
          go_roundw
          case rel => exact ⟨k + 1, a, b, by omega, by omega, by go_num, hide (by simp only [mnC, <- unhide ha, unhide HGk]; rw [if_neg (by omega)]), hide (by simp only [mxC, <- unhide hb, unhide HGk]; rw [if_neg (by omega)]), wa, wb, ⟨_, rfl⟩⟩
          case measure => simp [intOf]; omega
    . have hkN : Hid (N.toNat = k) := by show N.toNat = k; omega
      unfold W30 at wa wb
      go_wp2
      refine bodyPost_ret (v := .agg #[.int .i64 (a - R), .int .i64 (b + R)]) (by simp [results, Tryz.results124, go_sem]) rfl ⟨?_, ?_⟩
      . rw [unhide hkN, <- unhide ha, <- unhide hb]
      . repeat first | exact Below.refl _ _ | refine below_drewN ?_ _ | refine Below.drew ?_ | refine below_alloc ?_ (Nat.le_refl _) _ | refine Below.setCell ?_ (by simp only []; omega) _
def apB (g : Nat -> Int) (r lo : Int) (n : Nat) : Bool := (List.range n).all fun i => decide (g i + r < lo)
def apA (g : Nat -> Int) (r hi : Int) (n : Nat) : Bool := (List.range n).all fun i => decide (hi < g i - r)
theorem apB_succ (g : Nat -> Int) (r lo : Int) (k : Nat) : apB g r lo (k + 1) = (apB g r lo k && decide (g k + r < lo)) := by simp [apB, List.range_succ]
theorem apA_succ (g : Nat -> Int) (r lo : Int) (k : Nat) : apA g r lo (k + 1) = (apA g r lo k && decide (lo < g k - r)) := by simp [apA, List.range_succ]
set_option maxHeartbeats 3200000 in
theorem apart_any (g : Nat -> Int) (n : Nat) (r lo hi : Int) (w : World) (hn : n <= 8) (hg : ∀ i, i < 8 -> W30 (g i)) (hr : W30 r) :
    Calls Tryz.prog 164 #[.agg (ac g), .int .i64 n, .int .i64 r, .int .i64 lo, .int .i64 hi] w fun e w' => e = .returned (.bool (apB g r lo n || apA g r hi n)) /\ Below w.heap.size w w' := by
  unfold W30 at hr
  have HG := hide hg
  clear hg
  go_enter Tryz.func164, Tryz.ntmps164
  go_wp2
  go_loop [11, 12, 13] (fun b a i => ∃ k : Nat, k <= n /\ i = .int .i64 k /\ b = .bool (apB g r lo k) /\ a = .bool (apA g r hi k)) (fun _ _ i => 8 - (intOf i).toNat)
  case atStart => exact ⟨0, by omega, rfl, rfl, rfl⟩
  case round =>
    obtain ⟨k, hk, rfl, rfl, rfl⟩ := hrel
    by_cases hlt : k < n
    . have hk8 : (k : Int) < 8 := by omega
      have ak := ac_at g k (by omega)
      obtain ⟨G, hG⟩ : ∃ S, g k = S := ⟨_, rfl⟩
      have wG := unhide HG k (by omega)
      rw [hG] at ak wG
      have HGk := hide hG
      clear hG
      unfold W30 at wG
      by_cases h1 : lo <= G + r
      . by_cases h2 : G - r <= hi
        . go_wp2
          go_round
          case rel => exact ⟨k + 1, by omega, by go_num, congrArg Value.bool (by rw [apB_succ, unhide HGk]; simp; omega), congrArg Value.bool (by rw [apA_succ, unhide HGk]; simp; omega)⟩
          case measure => simp [intOf]; omega
        . go_wp2
          go_round
          case rel => exact ⟨k + 1, by omega, by go_num, congrArg Value.bool (by rw [apB_succ, unhide HGk]; simp; omega), congrArg Value.bool (by rw [apA_succ, unhide HGk]; simp; omega)⟩
          case measure => simp [intOf]; omega
      . by_cases h2 : G - r <= hi
        . go_wp2
          go_round
          case rel => exact ⟨k + 1, by omega, by go_num, congrArg Value.bool (by rw [apB_succ, unhide HGk]; simp; omega), congrArg Value.bool (by rw [apA_succ, unhide HGk]; simp; omega)⟩
          case measure => simp [intOf]; omega
        . go_wp2
          go_round
          case rel => exact ⟨k + 1, by omega, by go_num, congrArg Value.bool (by rw [apB_succ, unhide HGk]; simp; omega), congrArg Value.bool (by rw [apA_succ, unhide HGk]; simp; omega)⟩
          case measure => simp [intOf]; omega
    . have hkn : k = n := by omega
      subst hkn
      cases hb : apB g r lo k with
      | true =>
        go_wp2
        go_ret
        refine ⟨ret_bool (by simp), ?_⟩
        repeat first | exact Below.refl _ _ | refine below_drewN ?_ _ | refine Below.drew ?_ | refine below_alloc ?_ (Nat.le_refl _) _
      | false =>
        go_wp2
        go_ret
        refine ⟨ret_bool (by simp), ?_⟩
        repeat first | exact Below.refl _ _ | refine below_drewN ?_ _ | refine Below.drew ?_ | refine below_alloc ?_ (Nat.le_refl _) _
theorem qA {α : Type} (l : List α) (i : Nat) (a : α) : l.toArray.setIfInBounds i a = (l.set i a).toArray := List.setIfInBounds_toArray ..
theorem qB {α : Type} (a b : α) (l : List α) (n : Nat) : (a :: l).set (n + 1) b = a :: l.set n b := List.set_cons_succ ..
theorem qC {α : Type} (a b : α) (l : List α) : (a :: l).set 0 b = b :: l := List.set_cons_zero ..
def axT (g : Nat -> Int) (n : Nat) (r lo hi : Int) : Bool := !(apB g r lo n || apA g r hi n)
def Tch (f : Nat -> Int) (l z x y : Int) : Bool :=
  right f && decide (keyErr l z x y = 0) && shw f l z && (axT (fun i => f (8 + i)) (f 7).toNat (f 6 * un z) (8 * x * un z) (8 * (x + 1) * un z) && axT (fun i => f (16 + i)) (f 7).toNat (f 6 * un z) (8 * y * un z) (8 * (y + 1) * un z))
theorem mnC_spec (g : Nat -> Int) : ∀ n, 1 <= n -> (∀ i, i < n -> mnC g n <= g i) /\ ∃ i, i < n /\ g i = mnC g n
  | 0, h => by omega
  | 1, _ => by
    refine ⟨fun i hi => ?_, 0, by omega, by simp [mnC]⟩
    have : i = 0 := by omega
    subst this; simp [mnC]
  | n + 2, _ => by
    obtain ⟨h1, i, hi, h2⟩ := mnC_spec g (n + 1) (by omega)
    rw [mnC]
    by_cases h : g (n + 1) < mnC g (n + 1)
    . rw [if_pos h]
      refine ⟨fun j hj => ?_, n + 1, by omega, rfl⟩
      rcases Nat.lt_or_ge j (n + 1) with h' | h'
      . have := h1 j h'; omega
      . have : j = n + 1 := by omega
        subst this; exact Int.le_refl _
    . rw [if_neg h]
      refine ⟨fun j hj => ?_, i, by omega, h2⟩
      rcases Nat.lt_or_ge j (n + 1) with h' | h'
      . exact h1 j h'
      . have : j = n + 1 := by omega
        subst this; omega
theorem mxC_spec (g : Nat -> Int) : ∀ n, 1 <= n -> (∀ i, i < n -> g i <= mxC g n) /\ ∃ i, i < n /\ g i = mxC g n
  | 0, h => by omega
  | 1, _ => by
    refine ⟨fun i hi => ?_, 0, by omega, by simp [mxC]⟩
    have : i = 0 := by omega
    subst this; simp [mxC]
  | n + 2, _ => by
    obtain ⟨h1, i, hi, h2⟩ := mxC_spec g (n + 1) (by omega)
    rw [mxC]
    by_cases h : mxC g (n + 1) < g (n + 1)
    . rw [if_pos h]
      refine ⟨fun j hj => ?_, n + 1, by omega, rfl⟩
      rcases Nat.lt_or_ge j (n + 1) with h' | h'
      . have := h1 j h'; omega
      . have : j = n + 1 := by omega
        subst this; exact Int.le_refl _
    . rw [if_neg h]
      refine ⟨fun j hj => ?_, i, by omega, h2⟩
      rcases Nat.lt_or_ge j (n + 1) with h' | h'
      . exact h1 j h'
      . have : j = n + 1 := by omega
        subst this; omega
theorem apB_eq (g : Nat -> Int) (n : Nat) (r lo : Int) (h : 1 <= n) : apB g r lo n = decide (mxC g n + r < lo) := by
  obtain ⟨b1, j, hj, b2⟩ := mxC_spec g n h
  rw [Bool.eq_iff_iff]
  simp only [apB, decide_eq_true_eq, List.all_eq_true, List.mem_range]
  constructor
  . intro H; have := H j hj; omega
  . intro H k hk; have := b1 k hk; omega
theorem apA_eq (g : Nat -> Int) (n : Nat) (r hi : Int) (h : 1 <= n) : apA g r hi n = decide (hi < mnC g n - r) := by
  obtain ⟨b1, j, hj, b2⟩ := mnC_spec g n h
  rw [Bool.eq_iff_iff]
  simp only [apA, decide_eq_true_eq, List.all_eq_true, List.mem_range]
  constructor
  . intro H; have := H j hj; omega
  . intro H k hk; have := b1 k hk; omega
theorem axT_eq (g : Nat -> Int) (n : Nat) (r lo hi : Int) (h : 1 <= n) : (decide (mnC g n - r <= hi) && decide (lo <= mxC g n + r)) = axT g n r lo hi := by
  rw [axT, apB_eq g n r lo h, apA_eq g n r hi h, Bool.eq_iff_iff]
  simp only [Bool.and_eq_true, decide_eq_true_eq, Bool.not_eq_true', Bool.or_eq_false_iff, decide_eq_false_iff_not]
  omega
theorem keyErr_zero {l z x y : Int} (h : keyErr l z x y = 0) : (0 <= l /\ l <= 3) /\ (0 <= z /\ z <= 22) /\ (0 <= x /\ x < (2 : Int) ^ z.toNat) /\ (0 <= y /\ y < (2 : Int) ^ z.toNat) := by
  unfold keyErr at h
  by_cases h1 : l < 0 \/ 3 < l
  . rw [if_pos h1] at h; cases h
  rw [if_neg h1] at h
  by_cases h2 : z < 0 \/ 22 < z
  . rw [if_pos h2] at h; cases h
  rw [if_neg h2] at h
  by_cases h3 : x < 0 \/ (2 : Int) ^ z.toNat <= x \/ y < 0 \/ (2 : Int) ^ z.toNat <= y
  . rw [if_pos h3] at h; cases h
  omega
theorem sq_in {z x : Int} (h1 : 0 <= z) (h2 : z <= 22) (h3 : 0 <= x) (h4 : x < (2 : Int) ^ z.toNat) : (0 <= x /\ x <= 4194304) /\ (0 <= 8 * x * un z /\ 8 * x * un z <= 1073741824) /\ (0 <= 8 * (x + 1) * un z /\ 8 * (x + 1) * un z <= 1073741824) := by
  obtain ⟨_, a, b, c⟩ := un_eq z.toNat (by omega)
  have hp := (pow_cap z h2).2
  unfold un
  generalize (2 : Int) ^ (27 - z.toNat) = u at *
  generalize (2 : Int) ^ z.toNat = p at *
  have m1 : (x + 1) * u <= p * u := Int.mul_le_mul_of_nonneg_right (by omega) (by omega)
  have m2 : 0 <= x * u := Int.mul_nonneg h3 (by omega)
  rw [c] at m1
  rw [Int.mul_assoc, Int.mul_assoc]
  rw [Int.add_mul] at m1 ⊢
  generalize x * u = v at *
  omega
theorem size_in {f : Nat -> Int} (h : Rt f) {u : Int} (hu : 0 <= u /\ u <= 134217728) : W30 (f 6 * u) := by
  have : f 6 = 0 \/ f 6 = 1 \/ f 6 = 2 \/ f 6 = 3 := by rcases h.kind with h | h <;> omega
  unfold W30
  rcases this with e | e | e | e <;> rw [e] <;> omega
theorem n_in {f : Nat -> Int} (h : Rt f) : 1 <= f 7 /\ f 7 <= 8 := by rcases h.kind with h | h <;> omega
theorem sza (g : Nat -> Int) : (Tryz.prog.info? 64).map (·.size) = some (ac g).size := by rw [ac_size]; kernel_rfl
theorem rng8 {W : World} {b : Nat} {f : Nat -> Int} (h : W.heap[b]? = some (.cells (fc f) 66 (0, 0))) : W.rangeAt b 8 (ac fun i => f (8 + i)).toList := by
  intro j v hv
  rw [blk_cells h]
  have hj : j < 8 := by
    have := (List.getElem?_eq_some_iff.1 hv).1
    simpa [ac_size] using this
  have e : (ac fun i => f (8 + i))[j]? = some v := by simpa using hv
  rw [ac_at _ j hj] at e
  rw [fc_at f (8 + j) (by omega)]; exact e
theorem rng16 {W : World} {b : Nat} {f : Nat -> Int} (h : W.heap[b]? = some (.cells (fc f) 66 (0, 0))) : W.rangeAt b 16 (ac fun i => f (16 + i)).toList := by
  intro j v hv
  rw [blk_cells h]
  have hj : j < 8 := by
    have := (List.getElem?_eq_some_iff.1 hv).1
    simpa [ac_size] using this
  have e : (ac fun i => f (16 + i))[j]? = some v := by simpa using hv
  rw [ac_at _ j hj] at e
  rw [fc_at f (16 + j) (by omega)]; exact e
theorem two_blocks (w : World) (o o' : Obj) : ((w.alloc o).alloc o').heap[w.heap.size]? = some o /\ ((w.alloc o).alloc o').heap[w.heap.size + 1]? = some o' /\ Below w.heap.size w ((w.alloc o).alloc o') := by
  refine ⟨?_, ?_, ?_⟩
  . rw [Below.heap_alloc _ _ _ (by simp)]; exact heap_alloc_new _ _
  . simpa using heap_alloc_new (w.alloc o) o'
  . repeat first | exact Below.refl _ _ | refine below_drewN ?_ _ | refine Below.drew ?_ | refine below_alloc ?_ (Nat.le_refl _) _
set_option maxHeartbeats 3200000 in
theorem Touches_no (f : Nat -> Int) (l z x y : Int) (w : World) (h : right f = false \/ ¬ keyErr l z x y = 0 \/ shw f l z = false) :
    Calls Tryz.prog 77 #[.agg (fc f), .agg #[.int .i64 l, .int .i64 z, .int .i64 x, .int .i64 y]] w fun e w' => e = .returned (.bool (Tch f l z x y)) /\ Below w.heap.size w w' := by
  obtain ⟨hg0, hk0, hb0⟩ := two_blocks w (.cells (fc f) 66 (0, 0)) (.cells #[.int .i64 l, .int .i64 z, .int .i64 x, .int .i64 y] 39 (0, 0))
  have HB0 := hide hb0
  clear hb0
  cases hr : right f with
  | false =>
    have H : Hid (Tch f l z x y = false) := by show Tch f l z x y = _; simp [Tch, hr]
    clear h
    go_enter Tryz.func77, Tryz.ntmps77
    go_wp2_with (refine ld26 rfl _ rfl _ rfl f hg0 ?_)
    refine (check_f hr _).mono ?_
    rintro e w1 ⟨rfl, hb1⟩
    have HB := hide ((unhide HB0).trans (hb1.mono (unhide HB0).size))
    clear hb1
    go_wp2_with fail
    go_ret
    exact ⟨ret_bool (unhide H).symm, unhide HB⟩
  | true =>
  by_cases he : keyErr l z x y = 0
  . have hs : shw f l z = false := by
      rcases h with h | h | h
      . rw [hr] at h; cases h
      . exact absurd he h
      . exact h
    have H : Hid (Tch f l z x y = false) := by show Tch f l z x y = _; simp [Tch, hs]
    have K := fun W => keyError_any l z x y W
    have S := fun W => shows48_any f l z x y W
    rw [he] at K
    rw [hs] at S
    clear h he
    go_enter Tryz.func77, Tryz.ntmps77
    go_wp2_with (refine ld26 rfl _ rfl _ rfl f hg0 ?_)
    refine (check_t hr _).mono ?_
    rintro e w1 ⟨rfl, hb1⟩
    have hg1 := blk_on hg0 hb1
    have hk1 := blk_on hk0 hb1
    have hc1 := blk_cells hk1
    have HB := hide ((unhide HB0).trans (hb1.mono (unhide HB0).size))
    clear hb1
    go_wp2_with fail
    refine (K _).mono ?_
    rintro e w2 ⟨rfl, hb2⟩
    have hg2 := blk_on hg1 hb2
    have hk2 := blk_on hk1 hb2
    have hc2 := blk_cells hk2
    have HB2 := hide ((unhide HB).trans (hb2.mono (unhide HB).size))
    clear hb2 hg1 hk1 hc1
    go_wp2_with (refine ld26 rfl _ rfl _ rfl f hg2 ?_)
    refine (S _).mono ?_
    rintro e w3 ⟨rfl, hb3⟩
    have HB3 := hide ((unhide HB2).trans (hb3.mono (unhide HB2).size))
    clear hb3 hg2 hk2 hc2
    go_wp2_with fail
    go_ret
    exact ⟨ret_bool (unhide H).symm, unhide HB3⟩
  . have H : Hid (Tch f l z x y = false) := by show Tch f l z x y = _; simp [Tch, he]
    have K := fun W => keyError_any l z x y W
    have hne : (keyErr l z x y == 0) = false := by simp [he]
    clear h he
    go_enter Tryz.func77, Tryz.ntmps77
    go_wp2_with (refine ld26 rfl _ rfl _ rfl f hg0 ?_)
    refine (check_t hr _).mono ?_
    rintro e w1 ⟨rfl, hb1⟩
    have hg1 := blk_on hg0 hb1
    have hk1 := blk_on hk0 hb1
    have hc1 := blk_cells hk1
    have HB := hide ((unhide HB0).trans (hb1.mono (unhide HB0).size))
    clear hb1
    go_wp2_with fail
    refine (K _).mono ?_
    rintro e w2 ⟨rfl, hb2⟩
    have HB2 := hide ((unhide HB).trans (hb2.mono (unhide HB).size))
    clear hb2 hg1 hk1 hc1
    go_wp2_with fail
    go_ret
    exact ⟨ret_bool (unhide H).symm, unhide HB2⟩
set_option maxHeartbeats 3200000 in
theorem Touches_yes (f : Nat -> Int) (l z x y : Int) (w : World) (hr : right f = true) (he : keyErr l z x y = 0) (hs : shw f l z = true) :
    Calls Tryz.prog 77 #[.agg (fc f), .agg #[.int .i64 l, .int .i64 z, .int .i64 x, .int .i64 y]] w fun e w' => e = .returned (.bool (Tch f l z x y)) /\ Below w.heap.size w w' := by
  obtain ⟨hg0, hk0, hb0⟩ := two_blocks w (.cells (fc f) 66 (0, 0)) (.cells #[.int .i64 l, .int .i64 z, .int .i64 x, .int .i64 y] 39 (0, 0))
  have HB0 := hide hb0
  clear hb0
  have hR := right_out hr
  have K := fun W => keyError_any l z x y W
  have S := fun W => shows48_any f l z x y W
  rw [he] at K
  rw [hs] at S
  obtain ⟨_, ⟨z1, z2⟩, ⟨x1, x2⟩, ⟨y1, y2⟩⟩ := keyErr_zero he
  have U := fun W => unit_yes z W z1 z2
  obtain ⟨sx1, sx2, sx3⟩ := sq_in z1 z2 x1 x2
  obtain ⟨sy1, sy2, sy3⟩ := sq_in z1 z2 y1 y2
  obtain ⟨u1, u2⟩ := un_in z z1 z2
  obtain ⟨n1, n2⟩ := n_in hR
  have H : Hid (Tch f l z x y = (axT (fun i => f (8 + i)) (f 7).toNat (f 6 * un z) (8 * x * un z) (8 * (x + 1) * un z) && axT (fun i => f (16 + i)) (f 7).toNat (f 6 * un z) (8 * y * un z) (8 * (y + 1) * un z))) := by show Tch f l z x y = _; simp [Tch, hr, he, hs]
  obtain ⟨u, hu⟩ : ∃ u, un z = u := ⟨_, rfl⟩
  rw [hu] at H U sx2 sx3 sy2 sy3 u1 u2
  have B1 := fun W => boxSide_any f (fun i => f (8 + i)) u W ⟨n1, n2⟩ hR.px (size_in hR ⟨by omega, by omega⟩)
  have B2 := fun W => boxSide_any f (fun i => f (16 + i)) u W ⟨n1, n2⟩ hR.py (size_in hR ⟨by omega, by omega⟩)
  have S1 := fun W => squareSide_any x u W sx1 sx2 sx3
  have S2 := fun W => squareSide_any y u W sy1 sy2 sy3
  have M1 := fun W => meet_any (mnC (fun i => f (8 + i)) (f 7).toNat - f 6 * u) (mxC (fun i => f (8 + i)) (f 7).toNat + f 6 * u) (8 * x * u) (8 * (x + 1) * u) W
  have M2 := fun W => meet_any (mnC (fun i => f (16 + i)) (f 7).toNat - f 6 * u) (mxC (fun i => f (16 + i)) (f 7).toNat + f 6 * u) (8 * y * u) (8 * (y + 1) * u) W
  rw [axT_eq _ _ _ _ _ (by omega)] at M1 M2
  obtain ⟨bx, hbx⟩ : ∃ b, axT (fun i => f (8 + i)) (f 7).toNat (f 6 * u) (8 * x * u) (8 * (x + 1) * u) = b := ⟨_, rfl⟩
  obtain ⟨bY, hby⟩ : ∃ b, axT (fun i => f (16 + i)) (f 7).toNat (f 6 * u) (8 * y * u) (8 * (y + 1) * u) = b := ⟨_, rfl⟩
  rw [hbx, hby] at H
  rw [hbx] at M1
  rw [hby] at M2
  clear hbx hby he hu hR
  cases bx with
  | true =>
    go_enter Tryz.func77, Tryz.ntmps77
    go_wp2_with (refine ld26 rfl _ rfl _ rfl f hg0 ?_)
    refine (check_t hr _).mono ?_
    rintro e w1 ⟨rfl, hb1⟩
    have hg1 := blk_on hg0 hb1
    have hk1 := blk_on hk0 hb1
    have hc1 := blk_cells hk1
    have HB := hide ((unhide HB0).trans (hb1.mono (unhide HB0).size))
    clear hb1
    go_wp2_with fail
    refine (K _).mono ?_
    rintro e w2 ⟨rfl, hb2⟩
    have hg2 := blk_on hg1 hb2
    have hk2 := blk_on hk1 hb2
    have hc2 := blk_cells hk2
    have HB2 := hide ((unhide HB).trans (hb2.mono (unhide HB).size))
    clear hb2 hg1 hk1 hc1
    go_wp2_with (refine ld26 rfl _ rfl _ rfl f hg2 ?_)
    refine (S _).mono ?_
    rintro e w3 ⟨rfl, hb3⟩
    have hg3 := blk_on hg2 hb3
    have hk3 := blk_on hk2 hb3
    have hc3 := blk_cells hk3
    have HB3 := hide ((unhide HB2).trans (hb3.mono (unhide HB2).size))
    clear hb3 hg2 hk2 hc2
    go_wp2_with (go_at_call 122; refine (U _).mono ?_; rintro e w9 ⟨rfl, rfl⟩)
    refine region_bq (by kernel_rfl) (by kernel_rfl) ?_
    refine q_load rfl 66 _ rfl w.heap.size 0 rfl (fc f) _ Tryz.underlying66 rfl (szf f) (fun w' h => rng_on hg3 h) ?_
    simp only [Act.put, qA, qB, qC]
    refine q_val rfl (.pointer (some ⟨w.heap.size, 8, none⟩)) (fun _ _ => by simp [go_sem]) ?_
    simp only [Act.put, qA, qB, qC]
    refine q_load rfl 64 _ rfl w.heap.size 8 rfl (ac fun i => f (8 + i)) _ Tryz.underlying64 rfl (sza _) (fun w' h => rng8 (blk_on hg3 h)) ?_
    simp only [Act.put, qA, qB, qC]
    refine q_move rfl _ rfl (.int .i64 u) rfl ?_
    simp only [Act.put, qA, qB, qC]
    refine q_call rfl 124 #[.agg (fc f), .agg (ac fun i => f (8 + i)), .int .i64 u] (fun _ => by simp [go_sem]) _ B1 ?_
    simp only [Act.put, qA, qB, qC]
    refine q_val rfl (.pointer (some ⟨w.heap.size + 1, 2, none⟩)) (fun _ _ => by simp [go_sem]) ?_
    simp only [Act.put, qA, qB, qC]
    refine q_val rfl (.int .i64 x) (fun w' h => by simp [go_sem, blk_cells (blk_on hk3 h)]) ?_
    simp only [Act.put, qA, qB, qC]
    refine q_move rfl _ rfl (.int .i64 u) rfl ?_
    simp only [Act.put, qA, qB, qC]
    refine q_call rfl 125 #[.int .i64 x, .int .i64 u] (fun _ => by simp [go_sem]) _ S1 ?_
    simp only [Act.put, qA, qB, qC]
    refine q_call rfl 123 #[.agg #[_, _], .agg #[_, _]] (fun _ => by simp [go_sem]) _ M1 ?_
    simp only [Act.put, qA, qB, qC]
    refine q_assign rfl _ rfl _ rfl ?_
    simp only [Act.put, qA, qB, qC]
    refine wpQuiet_nil ?_
    intro w4 hb_w4
    have hg4 := blk_on hg3 hb_w4
    have hk4 := blk_on hk3 hb_w4
    have HB4 := hide ((unhide HB3).trans (hb_w4.mono (unhide HB3).size))
    clear hb_w4 hg3 hk3 hc3
    go_wp2_with fail
    refine region_bq (by kernel_rfl) (by kernel_rfl) ?_
    refine q_load rfl 66 _ rfl w.heap.size 0 rfl (fc f) _ Tryz.underlying66 rfl (szf f) (fun w' h => rng_on hg4 h) ?_
    simp only [Act.put, qA, qB, qC]
    refine q_val rfl (.pointer (some ⟨w.heap.size, 16, none⟩)) (fun _ _ => by simp [go_sem]) ?_
    simp only [Act.put, qA, qB, qC]
    refine q_load rfl 64 _ rfl w.heap.size 16 rfl (ac fun i => f (16 + i)) _ Tryz.underlying64 rfl (sza _) (fun w' h => rng16 (blk_on hg4 h)) ?_
    simp only [Act.put, qA, qB, qC]
    refine q_move rfl _ rfl (.int .i64 u) rfl ?_
    simp only [Act.put, qA, qB, qC]
    refine q_call rfl 124 #[.agg (fc f), .agg (ac fun i => f (16 + i)), .int .i64 u] (fun _ => by simp [go_sem]) _ B2 ?_
    simp only [Act.put, qA, qB, qC]
    refine q_val rfl (.pointer (some ⟨w.heap.size + 1, 3, none⟩)) (fun _ _ => by simp [go_sem]) ?_
    simp only [Act.put, qA, qB, qC]
    refine q_val rfl (.int .i64 y) (fun w' h => by simp [go_sem, blk_cells (blk_on hk4 h)]) ?_
    simp only [Act.put, qA, qB, qC]
    refine q_move rfl _ rfl (.int .i64 u) rfl ?_
    simp only [Act.put, qA, qB, qC]
    refine q_call rfl 125 #[.int .i64 y, .int .i64 u] (fun _ => by simp [go_sem]) _ S2 ?_
    simp only [Act.put, qA, qB, qC]
    refine q_call rfl 123 #[.agg #[_, _], .agg #[_, _]] (fun _ => by simp [go_sem]) _ M2 ?_
    simp only [Act.put, qA, qB, qC]
    refine q_assign rfl _ rfl _ rfl ?_
    simp only [Act.put, qA, qB, qC]
    refine wpQuiet_nil ?_
    intro w5 hb_w5
    have HB5 := hide ((unhide HB4).trans (hb_w5.mono (unhide HB4).size))
    clear hb_w5 hg4 hk4
    go_wp2_with fail
    go_ret
    exact ⟨ret_bool (by rw [unhide H]; simp), unhide HB5⟩
  | false =>
    go_enter Tryz.func77, Tryz.ntmps77
    go_wp2_with (refine ld26 rfl _ rfl _ rfl f hg0 ?_)
    refine (check_t hr _).mono ?_
    rintro e w1 ⟨rfl, hb1⟩
    have hg1 := blk_on hg0 hb1
    have hk1 := blk_on hk0 hb1
    have hc1 := blk_cells hk1
    have HB := hide ((unhide HB0).trans (hb1.mono (unhide HB0).size))
    clear hb1
    go_wp2_with fail
    refine (K _).mono ?_
    rintro e w2 ⟨rfl, hb2⟩
    have hg2 := blk_on hg1 hb2
    have hk2 := blk_on hk1 hb2
    have hc2 := blk_cells hk2
    have HB2 := hide ((unhide HB).trans (hb2.mono (unhide HB).size))
    clear hb2 hg1 hk1 hc1
    go_wp2_with (refine ld26 rfl _ rfl _ rfl f hg2 ?_)
    refine (S _).mono ?_
    rintro e w3 ⟨rfl, hb3⟩
    have hg3 := blk_on hg2 hb3
    have hk3 := blk_on hk2 hb3
    have hc3 := blk_cells hk3
    have HB3 := hide ((unhide HB2).trans (hb3.mono (unhide HB2).size))
    clear hb3 hg2 hk2 hc2
    go_wp2_with (go_at_call 122; refine (U _).mono ?_; rintro e w9 ⟨rfl, rfl⟩)
    refine region_bq (by kernel_rfl) (by kernel_rfl) ?_
    refine q_load rfl 66 _ rfl w.heap.size 0 rfl (fc f) _ Tryz.underlying66 rfl (szf f) (fun w' h => rng_on hg3 h) ?_
    simp only [Act.put, qA, qB, qC]
    refine q_val rfl (.pointer (some ⟨w.heap.size, 8, none⟩)) (fun _ _ => by simp [go_sem]) ?_
    simp only [Act.put, qA, qB, qC]
    refine q_load rfl 64 _ rfl w.heap.size 8 rfl (ac fun i => f (8 + i)) _ Tryz.underlying64 rfl (sza _) (fun w' h => rng8 (blk_on hg3 h)) ?_
    simp only [Act.put, qA, qB, qC]
    refine q_move rfl _ rfl (.int .i64 u) rfl ?_
    simp only [Act.put, qA, qB, qC]
    refine q_call rfl 124 #[.agg (fc f), .agg (ac fun i => f (8 + i)), .int .i64 u] (fun _ => by simp [go_sem]) _ B1 ?_
    simp only [Act.put, qA, qB, qC]
    refine q_val rfl (.pointer (some ⟨w.heap.size + 1, 2, none⟩)) (fun _ _ => by simp [go_sem]) ?_
    simp only [Act.put, qA, qB, qC]
    refine q_val rfl (.int .i64 x) (fun w' h => by simp [go_sem, blk_cells (blk_on hk3 h)]) ?_
    simp only [Act.put, qA, qB, qC]
    refine q_move rfl _ rfl (.int .i64 u) rfl ?_
    simp only [Act.put, qA, qB, qC]
    refine q_call rfl 125 #[.int .i64 x, .int .i64 u] (fun _ => by simp [go_sem]) _ S1 ?_
    simp only [Act.put, qA, qB, qC]
    refine q_call rfl 123 #[.agg #[_, _], .agg #[_, _]] (fun _ => by simp [go_sem]) _ M1 ?_
    simp only [Act.put, qA, qB, qC]
    refine q_assign rfl _ rfl _ rfl ?_
    simp only [Act.put, qA, qB, qC]
    refine wpQuiet_nil ?_
    intro w4 hb_w4
    have hg4 := blk_on hg3 hb_w4
    have hk4 := blk_on hk3 hb_w4
    have HB4 := hide ((unhide HB3).trans (hb_w4.mono (unhide HB3).size))
    clear hb_w4 hg3 hk3 hc3
    go_wp2_with fail
    refine region_bq (by kernel_rfl) (by kernel_rfl) ?_
    refine q_load rfl 66 _ rfl w.heap.size 0 rfl (fc f) _ Tryz.underlying66 rfl (szf f) (fun w' h => rng_on hg4 h) ?_
    simp only [Act.put, qA, qB, qC]
    refine q_val rfl (.pointer (some ⟨w.heap.size, 16, none⟩)) (fun _ _ => by simp [go_sem]) ?_
    simp only [Act.put, qA, qB, qC]
    refine q_load rfl 64 _ rfl w.heap.size 16 rfl (ac fun i => f (16 + i)) _ Tryz.underlying64 rfl (sza _) (fun w' h => rng16 (blk_on hg4 h)) ?_
    simp only [Act.put, qA, qB, qC]
    refine q_move rfl _ rfl (.int .i64 u) rfl ?_
    simp only [Act.put, qA, qB, qC]
    refine q_call rfl 124 #[.agg (fc f), .agg (ac fun i => f (16 + i)), .int .i64 u] (fun _ => by simp [go_sem]) _ B2 ?_
    simp only [Act.put, qA, qB, qC]
    refine q_val rfl (.pointer (some ⟨w.heap.size + 1, 3, none⟩)) (fun _ _ => by simp [go_sem]) ?_
    simp only [Act.put, qA, qB, qC]
    refine q_val rfl (.int .i64 y) (fun w' h => by simp [go_sem, blk_cells (blk_on hk4 h)]) ?_
    simp only [Act.put, qA, qB, qC]
    refine q_move rfl _ rfl (.int .i64 u) rfl ?_
    simp only [Act.put, qA, qB, qC]
    refine q_call rfl 125 #[.int .i64 y, .int .i64 u] (fun _ => by simp [go_sem]) _ S2 ?_
    simp only [Act.put, qA, qB, qC]
    refine q_call rfl 123 #[.agg #[_, _], .agg #[_, _]] (fun _ => by simp [go_sem]) _ M2 ?_
    simp only [Act.put, qA, qB, qC]
    refine q_assign rfl _ rfl _ rfl ?_
    simp only [Act.put, qA, qB, qC]
    refine wpQuiet_nil ?_
    intro w5 hb_w5
    have HB5 := hide ((unhide HB4).trans (hb_w5.mono (unhide HB4).size))
    clear hb_w5 hg4 hk4
    go_wp2_with fail
    go_ret
    exact ⟨ret_bool (by rw [unhide H]; simp), unhide HB5⟩
theorem Touches_any (f : Nat -> Int) (l z x y : Int) (w : World) :
    Calls Tryz.prog 77 #[.agg (fc f), .agg #[.int .i64 l, .int .i64 z, .int .i64 x, .int .i64 y]] w fun e w' => e = .returned (.bool (Tch f l z x y)) /\ Below w.heap.size w w' := by
  cases hr : right f with
  | false => exact Touches_no f l z x y w (Or.inl hr)
  | true =>
  by_cases he : keyErr l z x y = 0
  . cases hs : shw f l z with
    | false => exact Touches_no f l z x y w (Or.inr (Or.inr hs))
    | true => exact Touches_yes f l z x y w hr he hs
  . exact Touches_no f l z x y w (Or.inr (Or.inl he))
theorem ld24 {ops : Array Oper} {rest : List Oper} {o : Oper} {a : Act} {w : World} {Q : Exit -> Act -> World -> Prop} (hw : Region.wanted o (yielded ops a.tmps) = true) (x : Operand) (ho : o.op = .load 64 x)
    (b off : Nat) (hx : a.eval x = .pointer (some ⟨b, off, none⟩)) (g : Nat -> Int) (hc : w.rangeAt b off (ac g).toList)
    (h : wpList Tryz.prog ops Q rest (a.put o.dst (.agg (ac g))) w) : wpList Tryz.prog ops Q (o :: rest) a w := by
  unfold wpList
  rw [if_pos hw]
  exact Or.inl (wp_load_mid 64 x ho b off hx (ac g).toList _ hc Tryz.underlying64 rfl (by rw [Array.length_toList]; exact sza g) h)
set_option maxHeartbeats 3200000 in
theorem refTouches_no (f : Nat -> Int) (l z x y : Int) (w : World) (h : right f = false \/ ¬ keyErr l z x y = 0 \/ shw f l z = false) :
    Calls Tryz.prog 106 #[.agg (fc f), .agg #[.int .i64 l, .int .i64 z, .int .i64 x, .int .i64 y]] w fun e w' => e = .returned (.bool (Tch f l z x y)) /\ Below w.heap.size w w' := by
  obtain ⟨hg0, hk0, hb0⟩ := two_blocks w (.cells (fc f) 66 (0, 0)) (.cells #[.int .i64 l, .int .i64 z, .int .i64 x, .int .i64 y] 39 (0, 0))
  have HB0 := hide hb0
  clear hb0
  cases hr : right f with
  | false =>
    have H : Hid (Tch f l z x y = false) := by show Tch f l z x y = _; simp [Tch, hr]
    have K := fun W => refKeyError_any l z x y W
    clear h
    go_enter Tryz.func106, Tryz.ntmps106
    go_wp2_with (refine ld26 rfl _ rfl _ rfl f hg0 ?_)
    refine (refRight_f hr _).mono ?_
    rintro e w1 ⟨rfl, hb1⟩
    have hg1 := blk_on hg0 hb1
    have hk1 := blk_on hk0 hb1
    have hc1 := blk_cells hk1
    have HB := hide ((unhide HB0).trans (hb1.mono (unhide HB0).size))
    clear hb1
    go_wp2_with fail
    refine (K _).mono ?_
    rintro e w2 ⟨rfl, hb2⟩
    have hg2 := blk_on hg1 hb2
    have hk2 := blk_on hk1 hb2
    have hc2 := blk_cells hk2
    have hd2 := blk_cells hg2
    have HB2 := hide ((unhide HB).trans (hb2.mono (unhide HB).size))
    clear hb2 hg1 hk1 hc1
    go_wp2_with fail
    go_ret
    exact ⟨ret_bool (unhide H).symm, unhide HB2⟩
  | true =>
  by_cases he : keyErr l z x y = 0
  . have hs : shw f l z = false := by
      rcases h with h | h | h
      . rw [hr] at h; cases h
      . exact absurd he h
      . exact h
    have H : Hid (Tch f l z x y = false) := by show Tch f l z x y = _; simp [Tch, hs]
    have K := fun W => refKeyError_any l z x y W
    have S := fun W => shows53_any f l z x y W
    rw [he] at K
    rw [hs] at S
    clear h he
    go_enter Tryz.func106, Tryz.ntmps106
    go_wp2_with (refine ld26 rfl _ rfl _ rfl f hg0 ?_)
    refine (refRight_t hr _).mono ?_
    rintro e w1 ⟨rfl, hb1⟩
    have hg1 := blk_on hg0 hb1
    have hk1 := blk_on hk0 hb1
    have hc1 := blk_cells hk1
    have HB := hide ((unhide HB0).trans (hb1.mono (unhide HB0).size))
    clear hb1
    go_wp2_with fail
    refine (K _).mono ?_
    rintro e w2 ⟨rfl, hb2⟩
    have hg2 := blk_on hg1 hb2
    have hk2 := blk_on hk1 hb2
    have hc2 := blk_cells hk2
    have hd2 := blk_cells hg2
    have HB2 := hide ((unhide HB).trans (hb2.mono (unhide HB).size))
    clear hb2 hg1 hk1 hc1
    go_wp2_with (refine ld26 rfl _ rfl _ rfl f hg2 ?_)
    refine (S _).mono ?_
    rintro e w3 ⟨rfl, hb3⟩
    have HB3 := hide ((unhide HB2).trans (hb3.mono (unhide HB2).size))
    clear hb3 hg2 hk2 hc2
    go_wp2_with fail
    go_ret
    exact ⟨ret_bool (unhide H).symm, unhide HB3⟩
  . have H : Hid (Tch f l z x y = false) := by show Tch f l z x y = _; simp [Tch, he]
    have K := fun W => refKeyError_any l z x y W
    have hne : (keyErr l z x y == 0) = false := by simp [he]
    clear h he
    go_enter Tryz.func106, Tryz.ntmps106
    go_wp2_with (refine ld26 rfl _ rfl _ rfl f hg0 ?_)
    refine (refRight_t hr _).mono ?_
    rintro e w1 ⟨rfl, hb1⟩
    have hg1 := blk_on hg0 hb1
    have hk1 := blk_on hk0 hb1
    have hc1 := blk_cells hk1
    have HB := hide ((unhide HB0).trans (hb1.mono (unhide HB0).size))
    clear hb1
    go_wp2_with fail
    refine (K _).mono ?_
    rintro e w2 ⟨rfl, hb2⟩
    have hg2 := blk_on hg1 hb2
    have hk2 := blk_on hk1 hb2
    have hc2 := blk_cells hk2
    have hd2 := blk_cells hg2
    have HB2 := hide ((unhide HB).trans (hb2.mono (unhide HB).size))
    clear hb2 hg1 hk1 hc1
    go_wp2_with fail
    go_ret
    exact ⟨ret_bool (unhide H).symm, unhide HB2⟩
set_option maxHeartbeats 3200000 in
theorem refTouches_yes (f : Nat -> Int) (l z x y : Int) (w : World) (hr : right f = true) (he : keyErr l z x y = 0) (hs : shw f l z = true) :
    Calls Tryz.prog 106 #[.agg (fc f), .agg #[.int .i64 l, .int .i64 z, .int .i64 x, .int .i64 y]] w fun e w' => e = .returned (.bool (Tch f l z x y)) /\ Below w.heap.size w w' := by
  obtain ⟨hg0, hk0, hb0⟩ := two_blocks w (.cells (fc f) 66 (0, 0)) (.cells #[.int .i64 l, .int .i64 z, .int .i64 x, .int .i64 y] 39 (0, 0))
  have HB0 := hide hb0
  clear hb0
  have hR := right_out hr
  have K := fun W => refKeyError_any l z x y W
  have S := fun W => shows53_any f l z x y W
  rw [he] at K
  rw [hs] at S
  obtain ⟨_, ⟨z1, z2⟩, ⟨x1, x2⟩, ⟨y1, y2⟩⟩ := keyErr_zero he
  have U := fun W => refUnit_yes z W z1 z2
  obtain ⟨⟨sx0, sx1⟩, sx2, sx3⟩ := sq_in z1 z2 x1 x2
  obtain ⟨⟨sy0, sy1⟩, sy2, sy3⟩ := sq_in z1 z2 y1 y2
  obtain ⟨u1, u2⟩ := un_in z z1 z2
  obtain ⟨n1, n2⟩ := n_in hR
  have c6 := fc_at f 6 (by decide)
  have c7 := fc_at f 7 (by decide)
  have H : Hid (Tch f l z x y = (axT (fun i => f (8 + i)) (f 7).toNat (f 6 * un z) (8 * x * un z) (8 * (x + 1) * un z) && axT (fun i => f (16 + i)) (f 7).toNat (f 6 * un z) (8 * y * un z) (8 * (y + 1) * un z))) := by show Tch f l z x y = _; simp [Tch, hr, he, hs]
  obtain ⟨u, hu⟩ : ∃ u, un z = u := ⟨_, rfl⟩
  rw [hu] at H U sx2 sx3 sy2 sy3 u1 u2
  have wS := size_in hR (u := u) ⟨by omega, by omega⟩
  obtain ⟨n, hn⟩ : ∃ n : Nat, f 7 = (n : Int) := ⟨(f 7).toNat, by omega⟩
  have hn' : (f 7).toNat = n := by omega
  have A1 := fun W => apart_any (fun i => f (8 + i)) n (f 6 * u) (8 * x * u) (8 * (x + 1) * u) W (by omega) hR.px wS
  have A2 := fun W => apart_any (fun i => f (16 + i)) n (f 6 * u) (8 * y * u) (8 * (y + 1) * u) W (by omega) hR.py wS
  rw [hn'] at H
  rw [hn] at c7
  unfold W30 at wS
  have q0 : wrap64 (f 6 * u) = f 6 * u := IntWalk.wrap64_in _ ⟨by omega, by omega⟩
  have q1 : wrap64 (8 * x * u) = 8 * x * u := IntWalk.wrap64_in _ ⟨by omega, by omega⟩
  have q2 : wrap64 (8 * (x + 1) * u) = 8 * (x + 1) * u := IntWalk.wrap64_in _ ⟨by omega, by omega⟩
  have q3 : wrap64 (8 * y * u) = 8 * y * u := IntWalk.wrap64_in _ ⟨by omega, by omega⟩
  have q4 : wrap64 (8 * (y + 1) * u) = 8 * (y + 1) * u := IntWalk.wrap64_in _ ⟨by omega, by omega⟩
  unfold axT at H
  obtain ⟨bx, hbx⟩ : ∃ b, (apB (fun i => f (8 + i)) (f 6 * u) (8 * x * u) n || apA (fun i => f (8 + i)) (f 6 * u) (8 * (x + 1) * u) n) = b := ⟨_, rfl⟩
  obtain ⟨bY, hby⟩ : ∃ b, (apB (fun i => f (16 + i)) (f 6 * u) (8 * y * u) n || apA (fun i => f (16 + i)) (f 6 * u) (8 * (y + 1) * u) n) = b := ⟨_, rfl⟩
  rw [hbx, hby] at H
  rw [hbx] at A1
  rw [hby] at A2
  clear hbx hby he hu hR hn hn' sx2 sx3 sy2 sy3 wS x2 y2
  cases bx with
  | true =>
    go_enter Tryz.func106, Tryz.ntmps106
    go_wp2_with (refine ld26 rfl _ rfl _ rfl f hg0 ?_)
    refine (refRight_t hr _).mono ?_
    rintro e w1 ⟨rfl, hb1⟩
    have hg1 := blk_on hg0 hb1
    have hk1 := blk_on hk0 hb1
    have hc1 := blk_cells hk1
    have HB := hide ((unhide HB0).trans (hb1.mono (unhide HB0).size))
    clear hb1
    go_wp2_with fail
    refine (K _).mono ?_
    rintro e w2 ⟨rfl, hb2⟩
    have hg2 := blk_on hg1 hb2
    have hk2 := blk_on hk1 hb2
    have hc2 := blk_cells hk2
    have hd2 := blk_cells hg2
    have HB2 := hide ((unhide HB).trans (hb2.mono (unhide HB).size))
    clear hb2 hg1 hk1 hc1
    go_wp2_with (refine ld26 rfl _ rfl _ rfl f hg2 ?_)
    refine (S _).mono ?_
    rintro e w3 ⟨rfl, hb3⟩
    have hg3 := blk_on hg2 hb3
    have hk3 := blk_on hk2 hb3
    have hc3 := blk_cells hk3
    have hd3 := blk_cells hg3
    have HB3 := hide ((unhide HB2).trans (hb3.mono (unhide HB2).size))
    clear hb3 hg2 hk2 hc2 hd2
    go_wp2_with (first | (go_at_call 161; refine (U _).mono ?_; rintro e w9 ⟨rfl, rfl⟩) | (refine ld24 rfl _ rfl w.heap.size 8 rfl (fun i => f (8 + i)) (rng8 hg3) ?_))
    refine (A1 _).mono ?_
    rintro e w4 ⟨rfl, hb4⟩
    have hg4 := blk_on hg3 hb4
    have hk4 := blk_on hk3 hb4
    have hc4 := blk_cells hk4
    have hd4 := blk_cells hg4
    have HB4 := hide ((unhide HB3).trans (hb4.mono (unhide HB3).size))
    clear hb4 hg3 hk3 hc3 hd3
    go_wp2_with (refine ld24 rfl _ rfl w.heap.size 16 rfl (fun i => f (16 + i)) (rng16 hg4) ?_)
    refine (A2 _).mono ?_
    rintro e w5 ⟨rfl, hb5⟩
    have HB5 := hide ((unhide HB4).trans (hb5.mono (unhide HB4).size))
    clear hb5 hg4 hk4 hc4 hd4
    go_wp2_with fail
    go_ret
    exact ⟨ret_bool (by rw [unhide H]; simp), unhide HB5⟩
  | false =>
    go_enter Tryz.func106, Tryz.ntmps106
    go_wp2_with (refine ld26 rfl _ rfl _ rfl f hg0 ?_)
    refine (refRight_t hr _).mono ?_
    rintro e w1 ⟨rfl, hb1⟩
    have hg1 := blk_on hg0 hb1
    have hk1 := blk_on hk0 hb1
    have hc1 := blk_cells hk1
    have HB := hide ((unhide HB0).trans (hb1.mono (unhide HB0).size))
    clear hb1
    go_wp2_with fail
    refine (K _).mono ?_
    rintro e w2 ⟨rfl, hb2⟩
    have hg2 := blk_on hg1 hb2
    have hk2 := blk_on hk1 hb2
    have hc2 := blk_cells hk2
    have hd2 := blk_cells hg2
    have HB2 := hide ((unhide HB).trans (hb2.mono (unhide HB).size))
    clear hb2 hg1 hk1 hc1
    go_wp2_with (refine ld26 rfl _ rfl _ rfl f hg2 ?_)
    refine (S _).mono ?_
    rintro e w3 ⟨rfl, hb3⟩
    have hg3 := blk_on hg2 hb3
    have hk3 := blk_on hk2 hb3
    have hc3 := blk_cells hk3
    have hd3 := blk_cells hg3
    have HB3 := hide ((unhide HB2).trans (hb3.mono (unhide HB2).size))
    clear hb3 hg2 hk2 hc2 hd2
    go_wp2_with (first | (go_at_call 161; refine (U _).mono ?_; rintro e w9 ⟨rfl, rfl⟩) | (refine ld24 rfl _ rfl w.heap.size 8 rfl (fun i => f (8 + i)) (rng8 hg3) ?_))
    refine (A1 _).mono ?_
    rintro e w4 ⟨rfl, hb4⟩
    have hg4 := blk_on hg3 hb4
    have hk4 := blk_on hk3 hb4
    have hc4 := blk_cells hk4
    have hd4 := blk_cells hg4
    have HB4 := hide ((unhide HB3).trans (hb4.mono (unhide HB3).size))
    clear hb4 hg3 hk3 hc3 hd3
    go_wp2_with (refine ld24 rfl _ rfl w.heap.size 16 rfl (fun i => f (16 + i)) (rng16 hg4) ?_)
    refine (A2 _).mono ?_
    rintro e w5 ⟨rfl, hb5⟩
    have HB5 := hide ((unhide HB4).trans (hb5.mono (unhide HB4).size))
    clear hb5 hg4 hk4 hc4 hd4
    go_wp2_with fail
    go_ret
    exact ⟨ret_bool (by rw [unhide H]; simp), unhide HB5⟩
theorem refTouches_any (f : Nat -> Int) (l z x y : Int) (w : World) :
    Calls Tryz.prog 106 #[.agg (fc f), .agg #[.int .i64 l, .int .i64 z, .int .i64 x, .int .i64 y]] w fun e w' => e = .returned (.bool (Tch f l z x y)) /\ Below w.heap.size w w' := by
  cases hr : right f with
  | false => exact refTouches_no f l z x y w (Or.inl hr)
  | true =>
  by_cases he : keyErr l z x y = 0
  . cases hs : shw f l z with
    | false => exact refTouches_no f l z x y w (Or.inr (Or.inr hs))
    | true => exact refTouches_yes f l z x y w hr he hs
  . exact refTouches_no f l z x y w (Or.inr (Or.inl he))
def FsAt (W : World) (v : Value) (n : Nat) (fs : Nat -> Nat -> Int) : Prop :=
  ∃ (oa : Option Addr) (cap : Nat), v = .slice oa n cap /\ n <= maxLen /\ (0 < n -> ∃ b off, oa = some ⟨b, off, none⟩ /\ b < W.heap.size /\ ∀ i, i < n -> ∀ j, j < 24 -> W.cell? ⟨b, off + i * 24 + j, none⟩ = some (.int .i64 (fs i j)))
def zf : Nat -> Int := fun _ => 0
theorem built26 : Tryz.prog.built 66 [] = some (fc zf) := by kernel_rfl
theorem run_alloc26 (ev : Operand -> Value) (o : Oper) (ho : o.op = .alloc 66) (w : World) : (execOp ev o).run Tryz.prog w = .ok (.value (.pointer (some ⟨w.heap.size, 0, none⟩))) (w.alloc (.cells (fc zf) 66)) := by
  unfold execOp
  simp only [ho]
  kernel_rfl
theorem fc_one (f : Nat -> Int) : (fc f).all (·.oneCell') = true := by
  rw [Array.all_eq_true_iff_forall_mem]
  intro v hv
  simp only [fc, Array.mem_map] at hv
  obtain ⟨i, _, rfl⟩ := hv
  rfl
section
variable {ops : Array Oper} {rest : List Oper} {o : Oper} {a : Act} {w : World} {Q : Exit -> Act -> World -> Prop}
theorem bld26 (hgd : o.guard = none) (ho : o.op = .build 66 #[]) (h : wpList Tryz.prog ops Q rest (a.put o.dst (.agg (fc zf))) w) : wpList Tryz.prog ops Q (o :: rest) a w := by
  refine wpList_build hgd 66 #[] ho (by simp [built26]) ?_
  simpa [built26] using h
theorem al26 (hgd : o.guard = none) (ho : o.op = .alloc 66) (n : Nat) (hn : w.heap.size = n) (h : wpList Tryz.prog ops Q rest (a.put o.dst (.pointer (some ⟨n, 0, none⟩))) (w.alloc (.cells (fc zf) 66))) : wpList Tryz.prog ops Q (o :: rest) a w :=
  wpList_plain hgd fun _ hK => by
    unfold Oper.wp
    rw [run_alloc26 _ _ ho, hn]
    exact hK _ _ h
theorem st26 (hgd : o.guard = none) (x y : Operand) (ho : o.op = .store 66 x y) (g : Nat) (T : Nat -> Int) (hx : a.eval x = .pointer (some ⟨g, 0, none⟩)) (hy : a.eval y = .agg (fc T)) (S : Nat -> Int) (hg : w.heap[g]? = some (.cells (fc S) 66 (0, 0)))
    (h : wpList Tryz.prog ops Q rest (a.put o.dst undef) (w.setRow g (fc T))) : wpList Tryz.prog ops Q (o :: rest) a w :=
  wpList_store_row hgd 66 x y ho g (fc T) hx hy 66 (fc S) hg (szf T) (by rw [fc_size, fc_size]) (fc_one T) h
theorem ldm26 (hw : Region.wanted o (yielded ops a.tmps) = true) (x : Operand) (ho : o.op = .load 66 x)
    (b off : Nat) (hx : a.eval x = .pointer (some ⟨b, off, none⟩)) (f : Nat -> Int) (hc : w.rangeAt b off (fc f).toList)
    (h : wpList Tryz.prog ops Q rest (a.put o.dst (.agg (fc f))) w) : wpList Tryz.prog ops Q (o :: rest) a w := by
  unfold wpList
  rw [if_pos hw]
  exact Or.inl (wp_load_mid 66 x ho b off hx (fc f).toList _ hc Tryz.underlying66 rfl (by rw [Array.length_toList]; exact szf f) h)
end
theorem below_setRow {B : Nat} {a w : World} (h : Below B a w) {g : Nat} (hg : B <= g) (cs : Array Value) : Below B a (w.setRow g cs) := by
  refine h.trans ⟨rfl, rfl, rfl, by simp [World.setRow], fun k hk => ?_⟩
  show (w.heap.modify g _)[k]? = _
  rw [Array.getElem?_modify, if_neg (by omega)]
theorem setRow_other {w : World} {g k : Nat} (h : g ≠ k) (cs : Array Value) : (w.setRow g cs).heap[k]? = w.heap[k]? := by
  show (w.heap.modify g _)[k]? = _
  rw [Array.getElem?_modify, if_neg h]
theorem fs_rng {W : World} {b off n : Nat} {fs : Nat -> Nat -> Int} (hc : ∀ i, i < n -> ∀ j, j < 24 -> W.cell? ⟨b, off + i * 24 + j, none⟩ = some (.int .i64 (fs i j))) {k : Nat} (hk : k < n) : W.rangeAt b (off + k * 24) (fc (fs k)).toList := by
  intro j v hv
  have hj : j < 24 := by
    have := (List.getElem?_eq_some_iff.1 hv).1
    simpa [fc_size] using this
  have e : (fc (fs k))[j]? = some v := by simpa using hv
  rw [fc_at _ j hj] at e
  rw [hc k hk j hj, e]
theorem sz28 (l z x y : Int) : (Tryz.prog.info? 39).map (·.size) = some (#[Value.int .i64 l, Value.int .i64 z, Value.int .i64 x, Value.int .i64 y] : Array Value).size := by kernel_rfl
def bv (b : UInt8) : Value := .int .u8 b.toNat
section
variable {ops : Array Oper} {rest : List Oper} {o : Oper} {a : Act} {w : World} {Q : Exit -> Act -> World -> Prop}
theorem ldG (ty : TypeId) (cs : Array Value) {d : TypeDesc} (hu : Tryz.prog.underlying ty = some d) (hd : d.isRow = true) (hi : (Tryz.prog.info? ty).map (·.size) = some cs.size) (b off : Nat) (hc : w.rangeAt b off cs.toList)
    (hw : Region.wanted o (yielded ops a.tmps) = true) (x : Operand) (ho : o.op = .load ty x) (hx : a.eval x = .pointer (some ⟨b, off, none⟩))
    (h : wpList Tryz.prog ops Q rest (a.put o.dst (.agg cs)) w) : wpList Tryz.prog ops Q (o :: rest) a w := by
  unfold wpList
  rw [if_pos hw]
  exact Or.inl (wp_load_mid ty x ho b off hx cs.toList _ hc hu hd (by simpa using hi) (by simpa using h))
end
theorem rng_blk {w : World} {g : Nat} {cs : Array Value} {t : TypeId} (h : w.heap[g]? = some (.cells cs t (0, 0))) : w.rangeAt g 0 cs.toList := fun j v hv => by
  rw [blk_cells h, Nat.zero_add]; simpa using hv
structure Frm (S : Nat -> Prop) (w w' : World) : Prop where
  os : w'.os = w.os
  tape : w'.tape = w.tape
  output : w'.output = w.output
  size : w.heap.size <= w'.heap.size
  block : ∀ k, k < w.heap.size -> ¬ S k -> w'.heap[k]? = w.heap[k]?
theorem Frm.rfl' (S : Nat -> Prop) (w : World) : Frm S w w := ⟨rfl, rfl, rfl, Nat.le_refl _, fun _ _ _ => rfl⟩
theorem Frm.mono {S S' : Nat -> Prop} {a b : World} (h : Frm S a b) (hS : ∀ k, k < a.heap.size -> S k -> S' k) : Frm S' a b := ⟨h.os, h.tape, h.output, h.size, fun i hi hn => h.block i hi (fun q => hn (hS i hi q))⟩
theorem Frm.then {S S' : Nat -> Prop} {a b c : World} (h : Frm S a b) (k : Frm S' b c) (hS : ∀ i, i < a.heap.size -> S' i -> S i) : Frm S a c :=
  ⟨k.os.trans h.os, k.tape.trans h.tape, k.output.trans h.output, Nat.le_trans h.size k.size, fun i hi hn => (k.block i (Nat.lt_of_lt_of_le hi h.size) (fun q => hn (hS i hi q))).trans (h.block i hi hn)⟩
theorem Frm.of_below {S : Nat -> Prop} {a b : World} (h : Below a.heap.size a b) : Frm S a b := ⟨h.os, h.tape, h.output, h.size, fun i hi _ => h.block i hi⟩
theorem Frm.grown {S : Nat -> Prop} {a b c : World} {row : Option Nat} (h : Frm S a b) (hg : b.grownBy c row) (hr : ∀ k, row = some k -> k < a.heap.size -> S k) : Frm S a c :=
  ⟨hg.os.trans h.os, hg.tape.trans h.tape, hg.output.trans h.output, Nat.le_trans h.size hg.size, fun i hi hn => (hg.block i (Nat.lt_of_lt_of_le hi h.size) (fun e => hn (hr i e.symm hi))).trans (h.block i hi hn)⟩
theorem Frm.setCell {S : Nat -> Prop} {a b : World} (h : Frm S a b) {p : Addr} (v : Value) (hp : p.block < a.heap.size -> S p.block) : Frm S a (b.setCell p v) :=
  ⟨h.os, h.tape, h.output, by simpa using h.size, fun i hi hn => by
    rw [Below.heap_setCell b p v i (fun e => hn (by rw [e] at hi ⊢; exact hp hi))]; exact h.block i hi hn⟩
theorem OwnR.frm {α : Type} {R : Row α} {T : TypeId} {w w' : World} {v : Value} {l : List α} {S : Nat -> Prop} (h : OwnR R T w v l) (hf : Frm S w w') (hS : ∀ g, v.ownBlock = some g -> ¬ S g) : OwnR R T w' v l := h.same fun g hg => hf.block g (h.lt hg) (hS g hg)
theorem blk_frm {w w' : World} {S : Nat -> Prop} {g : Nat} {o : Obj} (h : w.heap[g]? = some o) (hf : Frm S w w') (hS : ¬ S g) : w'.heap[g]? = some o := (hf.block g (Array.getElem?_eq_some_iff.1 h).1 hS).trans h
theorem blk_lt {w : World} {g : Nat} {o : Obj} (h : w.heap[g]? = some o) : g < w.heap.size := (Array.getElem?_eq_some_iff.1 h).1
section
variable {ops : Array Oper} {rest : List Oper} {o : Oper} {a : Act} {Q : Exit -> Act -> World -> Prop} {w w' : World} {v x' v' : Value}
theorem exR (t : TypeId) (hr : (Builtin.append_ #[t, t] t #[v, x']).run Tryz.prog w = .ok v' w') (a : Act) (o : Oper) (s x : Operand) (ho : o.op = .call { callee := .builtin .append, args := #[s, x], argTypes := #[t, t] }) (ht : o.type = t) (hs : a.eval s = v) (hx : a.eval x = x') : (execOp a.eval o).run Tryz.prog w = .ok (.value v') w' := by
  unfold execOp
  simp only [ho, resolve, invoke, builtin]
  simp [hs, hx, ht, hr, Result.andThen]
theorem wlR (t : TypeId) (hr : (Builtin.append_ #[t, t] t #[v, x']).run Tryz.prog w = .ok v' w') (hgd : o.guard = none) (s x : Operand) (ho : o.op = .call { callee := .builtin .append, args := #[s, x], argTypes := #[t, t] }) (ht : o.type = t) (hs : a.eval s = v) (hx : a.eval x = x')
    (h : wpList Tryz.prog ops Q rest (a.put o.dst v') w') : wpList Tryz.prog ops Q (o :: rest) a w :=
  wpList_plain hgd fun _ hK => by
    unfold Oper.wp
    rw [exR t hr a o s x ho ht hs hx]
    exact hK _ _ h
theorem wlV (u : Value) (w1 : World) (hr : (execOp a.eval o).run Tryz.prog w = .ok (.value u) w1) (hgd : o.guard = none) (h : wpList Tryz.prog ops Q rest (a.put o.dst u) w1) : wpList Tryz.prog ops Q (o :: rest) a w :=
  wpList_plain hgd fun _ hK => by
    unfold Oper.wp
    rw [hr]
    exact hK _ _ h
end
theorem infoP {t : TypeId} {z : Value} {s b : Nat} (h : (Tryz.prog.info? t).map (fun i => (i.zero, i.size, i.bytes)) = some (some z, s, b)) : ∃ i, Tryz.prog.info? t = some i /\ i.zero = some z /\ i.size = s /\ i.bytes = b := by
  cases e : Tryz.prog.info? t with
  | none => rw [e] at h; simp at h
  | some i => rw [e] at h; simp at h; exact ⟨i, rfl, h.1, h.2.1, h.2.2⟩
theorem at_new {α : Type} (R : Row α) (T : TypeId) (w : World) (a : α) (cs : Array Value) (hc : cs.toList = R.enc a) : AtR R (w.alloc (.cells cs T)) (.slice (some ⟨w.heap.size, 0, none⟩) 1 1) [a] :=
  AtR.one_of a (Nat.le_refl _) (by simp) (by rw [<- hc]; exact rng_blk (heap_alloc_new w (.cells cs T (0, 0))))
def pk (c n : Int) : Int := (if c < 0 then -(c + 1) else c) % n
theorem pk_in (c : Int) {n : Int} (h : 0 < n) : 0 <= pk c n /\ pk c n < n := ⟨Int.emod_nonneg _ (by omega), Int.emod_lt_of_pos _ h⟩
section
variable {ops : Array Oper} {Q : Exit -> Act -> World -> Prop} {S : World -> Prop} {listed : Array Bool} {a : Act} {w : World} {i fuel : Nat} {o : Oper}
theorem h_call (ho : ops[i]? = some o) (hw : Region.wanted o (yielded ops a.tmps) = true) (f : FuncId) (args : Array Value) (h0 : (execOp a.eval o).run Tryz.prog w = .ok (.enter f args) w) (v : Value)
    (hc : Calls Tryz.prog f args w fun e w' => e = .returned v /\ w = w') (hS : S w) (h : wpAnyH Tryz.prog .any ops Q S fuel (listed.setIfInBounds i true) (a.put o.dst v) w) :
    wpOp Tryz.prog ops Q i (fun a' w' => S w' /\ wpAnyH Tryz.prog .any ops Q S fuel (listed.setIfInBounds i true) a' w') a w := by
  unfold wpOp
  simp only [ho]
  rw [if_pos hw]
  left
  unfold Oper.wp
  rw [h0]
  exact hc.mono fun e w' ⟨e1, e2⟩ => by subst e1; subst e2; exact ⟨hS, h⟩
theorem h_op (ho : ops[i]? = some o) (hw : Region.wanted o (yielded ops a.tmps) = true) (v : Value) (w1 : World) (h0 : (execOp a.eval o).run Tryz.prog w = .ok (.value v) w1) (hS : S w1)
    (h : wpAnyH Tryz.prog .any ops Q S fuel (listed.setIfInBounds i true) (a.put o.dst v) w1) :
    wpOp Tryz.prog ops Q i (fun a' w' => S w' /\ wpAnyH Tryz.prog .any ops Q S fuel (listed.setIfInBounds i true) a' w') a w := by
  unfold wpOp
  simp only [ho]
  rw [if_pos hw]
  left
  unfold Oper.wp
  rw [h0]
  exact ⟨hS, h⟩
end
def upd (f : Nat -> Int) (i : Nat) (v : Int) : Nat -> Int := fun j => if j = i then v else f j
theorem frz_blk {w : World} {g : Nat} {c : Array Value} {t : TypeId} (h : w.heap[g]? = some (.cells c t (0, 0))) (o : Nat) : w.frozen? ⟨g, o, none⟩ = false := by
  simp [World.frozen?, h]
end Go.Proofs.YtpabpniaekldeaaGreatDoor
namespace Go.Proofs.YtpabpniaekldeaaGreatDoor
set_option maxRecDepth 20000
open Go.ChangeShapes Go.WideShapes Go.ChangeAt Go.RowKit Go.Joins
theorem Tryz.own : ownKnob Tryz.prog.godebug = none := by kernel_rfl
theorem Tryz.laidOut : laidOutB Tryz.prog = true := by kernel_rfl
theorem cells3 : Tryz.prog.cellsOf 3 = 1 := by kernel_rfl
theorem cells24 : Tryz.prog.cellsOf 64 = 8 := by kernel_rfl
theorem cells26 : Tryz.prog.cellsOf 66 = 24 := by kernel_rfl
theorem cells28 : Tryz.prog.cellsOf 39 = 4 := by kernel_rfl
section
variable {H : Type} {enc : TypeId × Value -> H}
theorem trodAll_on {P : Program} (hl : laidOutB P = true) {W W' : World} (hb : Below W.heap.size W W') : ∀ {ts : List TypeId} {vs : List Value} {ds : List (DataW H)} {ps : List MemPlace},
    DataW.TrodAll enc P W 0 (fun _ => true) true ts vs ds ps -> (∀ t ∈ ts, P.readableRec t = true /\ t < P.types.size) -> (∀ x ∈ ps, x.block < W.heap.size) ->
    DataW.TrodAll enc P W' 0 (fun b => decide (b < W.heap.size)) true ts vs ds ps
  | [], _, _, _, h, _, _ => by
    obtain ⟨rfl, rfl, rfl⟩ := trodAll_nil h
    exact trodAll_mk0
  | t :: ts, _, _, _, h, ht, hlt => by
    obtain ⟨v, vs', d, ds', p, q, rfl, rfl, rfl, h1, h2⟩ := trodAll_cons h
    have h0 := ht t List.mem_cons_self
    exact ⟨p, q, Below.trod hl h0.1 h0.2 h1 hb (fun x hx => hlt x (List.mem_append_left _ hx)), trodAll_on hl hb h2 (fun t' h' => ht t' (List.mem_cons_of_mem _ h')) (fun x hx => hlt x (List.mem_append_right _ hx)), rfl⟩
theorem law_post {f : Func} {s : ChangeSpec} {W W' : World} {args : Array Value} {ds gs : List (DataW H)} {before : List MemPlace}
    (hW : DataW.Whole enc Tryz.prog f.params.toList s.vars false W args.toList ds gs before) (hv : s.vars = []) (hres : f.resultTypes = #[4])
    (hts : (f.params.toList.all fun t => Tryz.prog.readableRec t && decide (t < Tryz.prog.types.size)) = true)
    (hfn : ∀ gs' : List (DataW H), gs' = [] -> s.fn H (ds ++ gs') = { results := [.lit (.bool true)], args := ds }) (bel : Below W.heap.size W W') :
    s.post enc Tryz.prog f false true false false W args (.bool true) W' := by
  have hW' := hW
  have hlt := hW.lt
  obtain ⟨p, q, hA, hV, rfl, _, _⟩ := hW
  rw [hv] at hV
  obtain ⟨rfl, rfl⟩ := trodVars_none hV
  have hf := hfn [] rfl
  refine ⟨ds, [], _, [], p, [], hW', ?_, ?_, ?_, bel.frame _, fun h => by cases h⟩
  . rw [hf, hres]
    exact trodAll_mk1 (shut_bool Tryz.underlying4 _)
  . rw [hf]
    exact trodAll_on Tryz.laidOut bel hA (fun t ht => by
      have := List.all_eq_true.1 hts t ht
      rw [Bool.and_eq_true] at this
      exact ⟨this.1, of_decide_eq_true this.2⟩) (fun x hx => hlt x (List.mem_append_left _ hx))
  . rw [hv, hf]; exact hV
theorem feat_cells {w : World} {base : Nat} {sp : Nat -> Bool} {held : Bool} {n : Nat} {cs : List Value} {x : DataW H × List MemPlace} (h : DataW.trod enc Tryz.prog w base sp held n 66 cs = some x) :
    cs.length = 24 /\ ∀ j, j < 24 -> ∃ m, cs[j]? = some (.int .i64 m) /\ (Lit.int .i64 m).wf = true := by
  obtain ⟨xs, n1, _, _, hlen, hn, hel⟩ := DataW.trod_struct Tryz.underlying66 h
  rw [cells26] at hlen
  have one : ∀ (m : Nat) (l : List Value) (y : Option (DataW H × List MemPlace)) , y.isSome = true -> DataW.trod enc Tryz.prog w base sp held m 3 l = y -> ∃ k, l = [.int .i64 k] /\ (Lit.int .i64 k).wf = true := by
    intro m l y hy he
    obtain ⟨z, hz⟩ := Option.isSome_iff_exists.1 hy
    rw [hz] at he
    obtain ⟨k, e1, _, e2⟩ := DataW.trod_int Tryz.underlying3 he
    exact ⟨k, e1, e2⟩
  have at_ : ∀ (l : List Value) (off : Nat) (k : Int), (l.drop off).take 1 = [.int .i64 k] -> l[off]? = some (.int .i64 k) := by
    intro l off k he
    have h1 : ((l.drop off).take 1)[0]? = some (.int .i64 k) := by rw [he]; rfl
    rw [List.getElem?_take_of_lt (by omega), List.getElem?_drop] at h1
    simpa using h1
  refine ⟨hlen, ?_⟩
  have hs : ∀ i, i < 10 -> (xs[i]?).isSome = true := by
    intro i hi
    have hx : xs.length = 10 := hn
    simp [hx, hi]
  have plain : ∀ i, i < 8 -> ∃ m, cs[i]? = some (.int .i64 m) /\ (Lit.int .i64 m).wf = true := by
    intro i hi
    have go : ∀ (fd : Field), fd.type = 3 -> fd.offset = i -> DataW.trod enc Tryz.prog w base sp held n1 fd.type ((cs.drop fd.offset).take (Tryz.prog.cellsOf fd.type)) = xs[i]? -> ∃ m, cs[i]? = some (.int .i64 m) /\ (Lit.int .i64 m).wf = true := by
      intro fd e1 e2 he
      rw [e1, e2, cells3] at he
      obtain ⟨k, hk, hw⟩ := one n1 _ _ (hs i (by omega)) he
      exact ⟨k, at_ cs i k hk, hw⟩
    match i, hi with
    | 0, _ => exact go _ rfl rfl (hel 0 _ rfl)
    | 1, _ => exact go _ rfl rfl (hel 1 _ rfl)
    | 2, _ => exact go _ rfl rfl (hel 2 _ rfl)
    | 3, _ => exact go _ rfl rfl (hel 3 _ rfl)
    | 4, _ => exact go _ rfl rfl (hel 4 _ rfl)
    | 5, _ => exact go _ rfl rfl (hel 5 _ rfl)
    | 6, _ => exact go _ rfl rfl (hel 6 _ rfl)
    | 7, _ => exact go _ rfl rfl (hel 7 _ rfl)
  have arr : ∀ (off k : Nat), (∃ y, DataW.trod enc Tryz.prog w base sp held n1 64 ((cs.drop off).take 8) = some y) -> k < 8 -> off + 8 <= 24 -> ∃ m, cs[off + k]? = some (.int .i64 m) /\ (Lit.int .i64 m).wf = true := by
    intro off k hy hk hoff
    obtain ⟨y, hy⟩ := hy
    obtain ⟨ys, n2, _, _, _, hny, hely⟩ := DataW.trod_array Tryz.underlying64 hy
    have he := hely k hk
    rw [cells3, Nat.mul_one] at he
    obtain ⟨m, hm, hw⟩ := one n2 _ _ (by simp [hny, hk]) he
    have := at_ _ k m hm
    rw [List.getElem?_take_of_lt hk, List.getElem?_drop] at this
    exact ⟨m, this, hw⟩
  have goA : ∀ (fd : Field) {off i : Nat} {y : DataW H × List MemPlace}, fd.type = 64 -> DataW.trod enc Tryz.prog w base sp held n1 fd.type ((cs.drop fd.offset).take (Tryz.prog.cellsOf fd.type)) = xs[i]? -> fd.offset = off -> xs[i]? = some y -> DataW.trod enc Tryz.prog w base sp held n1 64 ((cs.drop off).take 8) = some y := by
    intro fd off i y e1 he e2 e3
    rw [e1, e2, cells24, e3] at he
    exact he
  intro j hj
  by_cases h8 : j < 8
  . exact plain j h8
  . by_cases h16 : j < 16
    . obtain ⟨y, hy⟩ := Option.isSome_iff_exists.1 (hs 8 (by omega))
      have := arr 8 (j - 8) ⟨y, goA _ rfl (hel 8 _ rfl) rfl hy⟩ (by omega) (by omega)
      rwa [show 8 + (j - 8) = j by omega] at this
    . obtain ⟨y, hy⟩ := Option.isSome_iff_exists.1 (hs 9 (by omega))
      have := arr 16 (j - 16) ⟨y, goA _ rfl (hel 9 _ rfl) rfl hy⟩ (by omega) (by omega)
      rwa [show 16 + (j - 16) = j by omega] at this
theorem wf_64 {m : Int} (h : (Lit.int .i64 m).wf = true) : -9223372036854775808 <= m /\ m <= 9223372036854775807 := by
  have h' : (decide (IntKind.i64.min <= m) && decide (m <= IntKind.i64.max)) = true := h
  rw [Bool.and_eq_true] at h'
  have e1 : IntKind.i64.min = -9223372036854775808 := by decide
  have e2 : IntKind.i64.max = 9223372036854775807 := by decide
  have a := of_decide_eq_true h'.1
  have b := of_decide_eq_true h'.2
  omega
end
end Go.Proofs.YtpabpniaekldeaaGreatDoor
namespace Go.Proofs.YtpabpniaekldeaaGreatDoor
open Go.RowKit
set_option maxRecDepth 20000
def base (f : Nat -> Int) : Nat -> Int := fun j =>
  if j = 0 then 1 + pk (f 0) 1000 else if j = 1 then pk (f 1) 4 else if j = 2 then pk (f 2) 2 else if j = 3 then 1 + pk (f 3) 15 else if j = 4 then pk (f 4) 10 else if j = 5 then pk (f 5) 23 else 0
section
variable {l : List Oper} {Q : Exit -> Act -> World -> Prop} {S : World -> Prop} {listed : Array Bool} {a : Act} {w : World} {fuel : Nat} {o : Oper} {rest : List Oper}
theorem at_drop {i : Nat} (hd : l.drop i = o :: rest) : l.toArray[i]? = some o := by
  rw [List.getElem?_toArray, <- List.head?_drop, hd]; rfl
theorem t_take (i : Nat) (hd : l.drop i = o :: rest) (v : Value) (hs : Region.noSelect l.toArray = true) (hf : Region.free .any l.toArray listed i = true) (hr : (Region.ready .any l.toArray listed).contains i = true)
    (hQ : ∀ c a w, Q (.panic c) (a.put o.dst v) w -> Q (.panic c) a w) (hw : Region.wanted o (yielded l.toArray a.tmps) = true) (hy : ∀ w', S w' -> (execOp a.eval o).run Tryz.prog w' = .ok (.value v) w') (hS : S w)
    (h : wpAnyH Tryz.prog .any l.toArray Q S fuel (listed.setIfInBounds i true) (a.put o.dst v) w) : wpAnyH Tryz.prog .any l.toArray Q S (fuel + 1) listed a w :=
  wpAnyH_take (at_drop hd) hs hf hr hQ (Or.inl ⟨hw, hy⟩) hS h
theorem t_tk (i : Nat) (hd : l.drop i = o :: rest) (v : Value) (hb : (Region.noSelect l.toArray && Region.free .any l.toArray listed i && (Region.ready .any l.toArray listed).contains i) = true)
    (hQ : ∀ c a w, Q (.panic c) (a.put o.dst v) w -> Q (.panic c) a w) (hw : Region.wanted o (yielded l.toArray a.tmps) = true) (hy : ∀ w', S w' -> (execOp a.eval o).run Tryz.prog w' = .ok (.value v) w') (hS : S w)
    (h : wpAnyH Tryz.prog .any l.toArray Q S fuel (listed.setIfInBounds i true) (a.put o.dst v) w) : wpAnyH Tryz.prog .any l.toArray Q S (fuel + 1) listed a w := by
  rw [Bool.and_eq_true, Bool.and_eq_true] at hb
  exact t_take i hd v hb.1.1 hb.1.2 hb.2 hQ hw hy hS h
theorem t_call (i : Nat) (hd : l.drop i = o :: rest) (hw : Region.wanted o (yielded l.toArray a.tmps) = true) (f : FuncId) (args : Array Value) (h0 : (execOp a.eval o).run Tryz.prog w = .ok (.enter f args) w) (v : Value)
    (hc : Calls Tryz.prog f args w fun e w' => e = .returned v /\ w = w') (hS : S w) (h : wpAnyH Tryz.prog .any l.toArray Q S fuel (listed.setIfInBounds i true) (a.put o.dst v) w) :
    wpOp Tryz.prog l.toArray Q i (fun a' w' => S w' /\ wpAnyH Tryz.prog .any l.toArray Q S fuel (listed.setIfInBounds i true) a' w') a w := h_call (at_drop hd) hw f args h0 v hc hS h
theorem t_op (i : Nat) (hd : l.drop i = o :: rest) (hw : Region.wanted o (yielded l.toArray a.tmps) = true) (v : Value) (w1 : World) (h0 : (execOp a.eval o).run Tryz.prog w = .ok (.value v) w1) (hS : S w1)
    (h : wpAnyH Tryz.prog .any l.toArray Q S fuel (listed.setIfInBounds i true) (a.put o.dst v) w1) :
    wpOp Tryz.prog l.toArray Q i (fun a' w' => S w' /\ wpAnyH Tryz.prog .any l.toArray Q S fuel (listed.setIfInBounds i true) a' w') a w := h_op (at_drop hd) hw v w1 h0 hS h
end
theorem ap_own {ops : Array Oper} {rest : List Oper} {o : Oper} {a : Act} {Q : Exit -> Act -> World -> Prop} (w : World) (hgd : o.guard = none) (s x : Operand) (t : TypeId)
    (ho : o.op = .call { callee := .builtin .append, args := #[s, x], argTypes := #[t, t] })
    (B : Nat) (e : TypeId) (i : TypeInfo) (z : Value) (size bytes : Nat) (ht : Tryz.prog.underlying t = some (.slice e)) (hi : Tryz.prog.info? e = some i) (hz : i.zero = some z)
    (hsize : i.size = size) (hby : i.bytes = bytes) (hzs : z.cells.size = size) (hsz : 0 < size)
    (v : Value) (n : Nat) (xs : List Value) (hs : a.eval s = v) (hown : w.ownsRow B e size v n xs)
    (ad : Addr) (c : Nat) (news : List Value) (hx : a.eval x = .slice (some ad) 1 c) (hl : news.length = size) (hnews : ∀ j u, news[j]? = some u -> w.cell? (ad.add j) = some u) (h1 : ∀ u ∈ news, u.oneCell' = true)
    (hn : (n + 1) * bytes <= 1000000000) (hn' : n <= 1000000) (hB : B <= w.heap.size)
    (h : ∀ v' w', w'.ownsRow B e size v' (n + 1) (xs ++ news) -> w.grownBy w' v.ownBlock -> (v'.ownBlock = v.ownBlock \/ ∀ g, v'.ownBlock = some g -> w.heap.size <= g) -> wpList Tryz.prog ops Q rest (a.put o.dst v') w') : wpList Tryz.prog ops Q (o :: rest) a w := by
  have up : ∀ {v' : Value} {w' : World}, w'.ownsRow w.heap.size e size v' (n + 1) (xs ++ news) -> w'.ownsRow B e size v' (n + 1) (xs ++ news) := by
    intro v' w' hh
    obtain ⟨a1, a2⟩ := hh
    refine ⟨a1, ?_⟩
    rcases a2 with a2 | ⟨g, cap, cur, q1, q2, q3⟩
    . exact Or.inl a2
    . exact Or.inr ⟨g, cap, cur, q1, by omega, q3⟩
  have gn : ∀ {w' : World} {r : Option Nat}, w.grownBy w' none -> w.grownBy w' r := fun hg => ⟨hg.os, hg.tape, hg.output, hg.size, fun k hk _ => hg.block k hk (by simp)⟩
  rcases hown.2 with ⟨rfl, rfl⟩ | ⟨g, cap, cur, rfl, hg, hh, hnc, hcm, hcs, htk⟩
  . refine wpList_append_grows w hgd s x t ho e i z size bytes ht hi hz hsize hby hzs hsz none 0 0 xs hs (fun _ => ⟨rfl, rfl⟩) (by have := hown.1; simpa using this) (fun b hb => by cases hb) ad 1 c news hx (by simpa using hl) hnews h1 (by omega) (by unfold maxLen; omega) (by omega) ?_
    intro v' w' r1 r2
    exact h v' w' (up r1) (gn r2) (Or.inr fun g hg => (World.ownsRow.lt r1 g hg).1)
  . by_cases hf : n + 1 <= cap
    . refine wpList_append_fits w hgd s x t ho B e i size ht hi hsize g n cap xs hs hown ad 1 c news hx (by simpa using hl) hnews h1 hf ?_
      intro w' r1 r2
      exact h _ w' r1 r2 (Or.inl rfl)
    . refine wpList_append_grows w hgd s x t ho e i z size bytes ht hi hz hsize hby hzs hsz (some ⟨g, 0, none⟩) n cap xs hs (fun hb => by cases hb) hown.1 ?_ ad 1 c news hx (by simpa using hl) hnews h1 (by omega) (by unfold maxLen; omega) (by omega) ?_
      . intro b hb j u hj
        obtain rfl := Option.some.inj hb
        rw [Addr.add_mid, Nat.zero_add]
        have hjl : j < n * size := by
          have := (List.getElem?_eq_some_iff.1 hj).1
          rwa [hown.1] at this
        rw [World.ownsRow.cellAt hown j hjl, hj]
      . intro v' w' r1 r2
        exact h v' w' (up r1) (gn r2) (Or.inr fun g hg => (World.ownsRow.lt r1 g hg).1)
theorem right_in {f : Nat -> Int} (h : Rt f) : right f = true := by
  have hp : pts f 8 = true := by
    simp only [pts, List.all_eq_true, List.mem_range]
    intro i hi
    refine pt_t rfl rfl rfl (inR_t (h.px i hi).1 (h.px i hi).2) (inR_t (h.py i hi).1 (h.py i hi).2) ?_
    by_cases hn : f 7 <= (i : Int)
    . exact Or.inr (h.rest i hi hn)
    . exact Or.inl (by omega)
  have hf : form f = true := by
    unfold form
    rcases h.kind with ⟨a, b, c, d⟩ | ⟨a, b, c, d⟩
    . rw [if_pos a, inR_t c d]; simp [b]
    . rw [if_neg (by omega), if_pos a, inR_t b c]; simp [d]
  simp [right, traits, hp, hf, inR_t h.id.1 h.id.2, inR_t h.la.1 h.la.2, inR_t h.ink.1 h.ink.2, inR_t h.rk.1 h.rk.2, inR_t h.fr.1 h.fr.2]
theorem run_bs34 (ev : Operand -> Value) (o : Oper) (x : Operand) (ho : o.op = .buildSlice 62 1 #[(0, x)]) (f : Nat -> Int) (hx : ev x = .agg (fc f)) (w : World) : (execOp ev o).run Tryz.prog w = .ok (.value (.slice (some ⟨w.heap.size, 0, none⟩) 1 1)) (w.alloc (.cells (fc f) 66)) := by
  unfold execOp
  simp only [ho]
  simp only [List.map_toArray, List.map_cons, List.map_nil, hx]
  kernel_rfl
theorem bs34 {ops : Array Oper} {rest : List Oper} {o : Oper} {a : Act} {w : World} {Q : Exit -> Act -> World -> Prop} (hgd : o.guard = none) (x : Operand) (ho : o.op = .buildSlice 62 1 #[(0, x)]) (f : Nat -> Int) (hx : a.eval x = .agg (fc f)) (n : Nat) (hn : w.heap.size = n)
    (h : wpList Tryz.prog ops Q rest (a.put o.dst (.slice (some ⟨n, 0, none⟩) 1 1)) (w.alloc (.cells (fc f) 66))) : wpList Tryz.prog ops Q (o :: rest) a w :=
  wpList_plain hgd fun _ hK => by
    unfold Oper.wp
    rw [run_bs34 _ _ x ho f hx, hn]
    exact hK _ _ h
def gf (l : List (Nat -> Int)) (i : Nat) : Nat -> Int := (l[i]?).getD zf
theorem gf_cons (f : Nat -> Int) (l : List (Nat -> Int)) (i : Nat) : gf (f :: l) (i + 1) = gf l i := by simp [gf]
theorem gf_left {l : List (Nat -> Int)} {f : Nat -> Int} {i : Nat} (h : i < l.length) : gf (l ++ [f]) i = gf l i := by unfold gf; rw [List.getElem?_append_left h]
theorem gf_last (l : List (Nat -> Int)) (f : Nat -> Int) : gf (l ++ [f]) l.length = f := by simp [gf]
def cc (n : Nat) (f : Nat -> Int) : Array Value := (Array.range n).map fun i => .int .i64 (f i)
theorem cc_fc (f : Nat -> Int) : fc f = cc 24 f := rfl
theorem cc_size (n : Nat) (f : Nat -> Int) : (cc n f).size = n := by simp [cc]
theorem cc_at (n : Nat) (f : Nat -> Int) (i : Nat) (h : i < n) : (cc n f)[i]? = some (.int .i64 (f i)) := by simp [cc, h]
theorem cc_one (n : Nat) (f : Nat -> Int) : (cc n f).all (·.oneCell') = true := by
  rw [Array.all_eq_true_iff_forall_mem]
  intro v hv
  simp only [cc, Array.mem_map] at hv
  obtain ⟨i, _, rfl⟩ := hv
  rfl
theorem ccl_len (n : Nat) (f : Nat -> Int) : (cc n f).toList.length = n := by rw [Array.length_toList, cc_size]
theorem cc_ext {n : Nat} {f g : Nat -> Int} (h : ∀ i, i < n -> f i = g i) : cc n f = cc n g := by
  apply Array.ext_getElem?
  intro j
  by_cases hj : j < n
  . rw [cc_at _ _ j hj, cc_at _ _ j hj, h j hj]
  . rw [Array.getElem?_eq_none (by rw [cc_size]; omega), Array.getElem?_eq_none (by rw [cc_size]; omega)]
def fl (m : Nat) (l : List (Nat -> Int)) : List Value := l.flatMap fun f => (cc m f).toList
theorem fl_cons (m : Nat) (f : Nat -> Int) (l : List (Nat -> Int)) : fl m (f :: l) = (cc m f).toList ++ fl m l := rfl
theorem fl_app (m : Nat) (l l' : List (Nat -> Int)) : fl m (l ++ l') = fl m l ++ fl m l' := by simp [fl]
theorem fl_snoc (m : Nat) (l : List (Nat -> Int)) (f : Nat -> Int) : fl m (l ++ [f]) = fl m l ++ (cc m f).toList := by simp [fl]
theorem fl_len (m : Nat) : ∀ l : List (Nat -> Int), (fl m l).length = l.length * m
  | [] => by simp [fl]
  | f :: l => by rw [fl_cons, List.length_append, fl_len m l, ccl_len, List.length_cons, Nat.succ_mul]; omega
theorem fl_at (m : Nat) : ∀ (l : List (Nat -> Int)) (i j : Nat), i < l.length -> j < m -> (fl m l)[i * m + j]? = some (.int .i64 (gf l i j))
  | [], i, _, h, _ => by simp at h
  | f :: l, 0, j, _, hj => by
    rw [fl_cons, List.getElem?_append_left (by rw [ccl_len]; omega), Nat.zero_mul, Nat.zero_add, Array.getElem?_toList, cc_at m f j hj]; rfl
  | f :: l, i + 1, j, hi, hj => by
    rw [fl_cons, List.getElem?_append_right (by rw [ccl_len, Nat.succ_mul]; omega), ccl_len, gf_cons, show (i + 1) * m + j - m = i * m + j by rw [Nat.succ_mul]; omega]
    exact fl_at m l i j (by simpa using hi) hj
theorem fl_one (m : Nat) (l : List (Nat -> Int)) : ∀ v ∈ fl m l, v.oneCell' = true := by
  intro v hv
  simp only [fl, List.mem_flatMap] at hv
  obtain ⟨f, _, hf⟩ := hv
  have := cc_one m f
  rw [Array.all_eq_true_iff_forall_mem] at this
  exact this v (by simpa using hf)
def CsAt (m : Nat) (W : World) (v : Value) (n : Nat) (fs : Nat -> Nat -> Int) : Prop :=
  ∃ (oa : Option Addr) (cap : Nat), v = .slice oa n cap /\ n <= maxLen /\ (0 < n -> ∃ b off, oa = some ⟨b, off, none⟩ /\ b < W.heap.size /\ ∀ i, i < n -> ∀ j, j < m -> W.cell? ⟨b, off + i * m + j, none⟩ = some (.int .i64 (fs i j)))
theorem cs_rng {m : Nat} {W : World} {b off n : Nat} {fs : Nat -> Nat -> Int} (hc : ∀ i, i < n -> ∀ j, j < m -> W.cell? ⟨b, off + i * m + j, none⟩ = some (.int .i64 (fs i j))) {k : Nat} (hk : k < n) : W.rangeAt b (off + k * m) (cc m (fs k)).toList := by
  intro j v hv
  have hj : j < m := by
    have := (List.getElem?_eq_some_iff.1 hv).1
    simpa [cc_size] using this
  have e : (cc m (fs k))[j]? = some v := by simpa using hv
  rw [cc_at _ _ j hj] at e
  rw [hc k hk j hj, e]
def OwnC (T : TypeId) (m : Nat) (w : World) (B : Nat) (v : Value) (l : List (Nat -> Int)) : Prop := w.ownsRow B T m v l.length (fl m l)
section
variable {T : TypeId} {m : Nat} {w w' : World} {B : Nat} {v : Value} {l : List (Nat -> Int)}
theorem ownC_nil (T : TypeId) (m : Nat) (w : World) (B : Nat) : OwnC T m w B (.slice none 0 0) [] := World.ownsRow_nil _ _ _ _
theorem OwnC.same (h : OwnC T m w B v l) (hg : ∀ g, v.ownBlock = some g -> w'.heap[g]? = w.heap[g]?) : OwnC T m w' B v l := by
  obtain ⟨h1, h2⟩ := h
  refine ⟨h1, ?_⟩
  rcases h2 with h2 | ⟨g, cap, cur, hv, hg', hh, r⟩
  . exact Or.inl h2
  . exact Or.inr ⟨g, cap, cur, hv, hg', (hg g (by rw [hv]; rfl)).trans hh, r⟩
theorem OwnC.on (h : OwnC T m w B v l) (hb : Below w.heap.size w w') : OwnC T m w' B v l := h.same fun g hg => hb.block g (World.ownsRow.lt h g hg).2
theorem OwnC.alloc (h : OwnC T m w B v l) (o : Obj) : OwnC T m (w.alloc o) B v l := World.ownsRow.alloc h o
theorem OwnC.lt (h : OwnC T m w B v l) : ∀ k, v.ownBlock = some k -> B <= k /\ k < w.heap.size := World.ownsRow.lt h
theorem OwnC.mono {B' : Nat} (h : OwnC T m w B v l) (hB : B' <= B) : OwnC T m w B' v l := by
  obtain ⟨h1, h2⟩ := h
  refine ⟨h1, ?_⟩
  rcases h2 with h2 | ⟨g, cap, cur, hv, hg', hh, r⟩
  . exact Or.inl h2
  . exact Or.inr ⟨g, cap, cur, hv, by omega, hh, r⟩
theorem OwnC.at (h : OwnC T m w B v l) (hl : l.length <= maxLen) : CsAt m w v l.length (gf l) := by
  have h0 := h
  rcases h.2 with ⟨rfl, hn⟩ | ⟨g, cap, cur, rfl, _, hg, _⟩
  . rw [hn]; exact ⟨none, 0, rfl, Nat.zero_le _, fun h => absurd h (by omega)⟩
  . refine ⟨_, cap, rfl, hl, fun _ => ⟨g, 0, rfl, (Array.getElem?_eq_some_iff.1 hg).1, fun i hi j hj => ?_⟩⟩
    have hlt : i * m + j < l.length * m := by
      have : (i + 1) * m <= l.length * m := Nat.mul_le_mul_right _ hi
      rw [Nat.succ_mul] at this
      omega
    rw [Nat.zero_add, World.ownsRow.cellAt h0 (i * m + j) hlt, fl_at m l i j hi hj]
theorem OwnC.form (h : OwnC T m w B v l) (hn : 0 < l.length) : ∃ g cap, v = .slice (some ⟨g, 0, none⟩) l.length cap /\ B <= g /\ g < w.heap.size := by
  rcases h.2 with ⟨_, e⟩ | ⟨g, cap, cur, hv, hb, hh, _⟩
  . omega
  . exact ⟨g, cap, hv, hb, (Array.getElem?_eq_some_iff.1 hh).1⟩
end
def setL (l : List (Nat -> Int)) (i j : Nat) (x : Int) : List (Nat -> Int) := l.set i (upd (gf l i) j x)
theorem setL_len (l : List (Nat -> Int)) (i j : Nat) (x : Int) : (setL l i j x).length = l.length := by simp [setL]
theorem setL_gf (l : List (Nat -> Int)) (i j : Nat) (x : Int) (k : Nat) (hk : k < l.length) : gf (setL l i j x) k = if k = i then upd (gf l i) j x else gf l k := by
  unfold setL gf
  rw [List.getElem?_set]
  by_cases e : i = k
  . subst e; rw [if_pos rfl, if_pos hk, if_pos rfl]; rfl
  . rw [if_neg e, if_neg (fun h => e h.symm)]
theorem OwnC.stored {T : TypeId} {m : Nat} {w : World} {B g cap : Nat} {l : List (Nat -> Int)} (h : OwnC T m w B (.slice (some ⟨g, 0, none⟩) l.length cap) l) (i j : Nat) (hi : i < l.length) (hj : j < m) (x : Int) :
    OwnC T m (w.setCell ⟨g, i * m + j, none⟩ (.int .i64 x)) B (.slice (some ⟨g, 0, none⟩) l.length cap) (setL l i j x) /\ w.grownBy (w.setCell ⟨g, i * m + j, none⟩ (.int .i64 x)) (some g) := by
  have := World.ownsRow.stored h (i * m + j) (.int .i64 x)
  refine ⟨?_, this.2⟩
  unfold OwnC
  rw [setL_len]
  have e : fl m (setL l i j x) = (fl m l).set (i * m + j) (.int .i64 x) := by
    apply List.ext_getElem?
    intro k
    by_cases hk : k < l.length * m
    . have hm : 0 < m := by omega
      have h1 : k / m < l.length := (Nat.div_lt_iff_lt_mul hm).2 hk
      have h2 : k % m < m := Nat.mod_lt _ hm
      have e : k / m * m + k % m = k := Nat.div_add_mod' k m
      rw [List.getElem?_set]
      by_cases c : i * m + j = k
      . have q1 : k / m = i := by rw [<- c, Nat.add_comm, Nat.add_mul_div_right _ _ hm, Nat.div_eq_of_lt hj]; omega
        have q2 : k % m = j := by rw [<- c, Nat.add_comm, Nat.add_mul_mod_self_right, Nat.mod_eq_of_lt hj]
        rw [if_pos c, if_pos (by rw [fl_len, c]; exact hk), <- e, fl_at m _ _ _ (by rw [setL_len]; exact h1) h2, q1, q2, setL_gf _ _ _ _ _ hi, if_pos rfl]
        simp [upd]
      . rw [if_neg c, <- e, fl_at m _ _ _ (by rw [setL_len]; exact h1) h2, fl_at m _ _ _ h1 h2, setL_gf _ _ _ _ _ h1]
        by_cases d : k / m = i
        . rw [if_pos d]
          have : k % m ≠ j := fun d' => c (by rw [<- d, <- d']; exact e)
          simp only [upd, if_neg this, d]
        . rw [if_neg d]
    . rw [List.getElem?_eq_none (by rw [fl_len, setL_len]; omega), List.getElem?_eq_none (by rw [List.length_set, fl_len]; omega)]
  rw [e]
  exact this.1
theorem grown_drew {w w' : World} {r : Option Nat} (h : w.grownBy w' r) : w.grownBy w'.drew r := ⟨h.os, h.tape, h.output, h.size, h.block⟩
def Lv (g : Nat -> Int) (id : Int) : Prop := g 25 = 0 /\ g 0 = id
theorem dr_cells {w : World} {db : Nat} {ver : Int} {lv : Value} (hd : w.heap[db]? = some (.cells #[.int .i64 ver, lv] 137 (0, 0))) : w.cell? ⟨db, 0, none⟩ = some (.int .i64 ver) /\ w.cell? ⟨db, 1, none⟩ = some lv := by
  refine ⟨(blk_cells hd 0).trans rfl, (blk_cells hd 1).trans rfl⟩
set_option maxHeartbeats 3200000 in
theorem end_any (db B : Nat) (ver : Int) (lv : Value) (LS : List (Nat -> Int)) (id : Int) (w : World) (hd : w.heap[db]? = some (.cells #[.int .i64 ver, lv] 137 (0, 0))) (ho : OwnC 147 26 w B lv LS) (hl : LS.length <= 1000) :
    Calls Tryz.prog 167 #[.pointer (some ⟨db, 0, none⟩), .int .i64 id] w fun e w' => (e = .returned (.bool false) /\ w = w' /\ ∀ i, i < LS.length -> ¬ Lv (gf LS i) id) \/
      ∃ i, i < LS.length /\ Lv (gf LS i) id /\ (∀ j, j < i -> ¬ Lv (gf LS j) id) /\ e = .returned (.bool true) /\ OwnC 147 26 w' B lv (setL LS i 25 ver) /\ w.grownBy w' lv.ownBlock := by
  obtain ⟨oa, cap, rfl, _, hc⟩ := ho.at (by unfold maxLen; omega)
  have HO := hide ho
  have HC := hide hc
  obtain ⟨d0, d1⟩ := dr_cells hd
  clear ho hc hd
  go_enter Tryz.func167, Tryz.ntmps167
  go_wp2_with fail
  go_loop [5] (fun i => ∃ k : Nat, k <= LS.length /\ i = .int .i64 k /\ Hid (∀ i, i < k -> ¬ Lv (gf LS i) id)) (fun i => LS.length - (intOf i).toNat)
  case atStart => exact ⟨0, by omega, rfl, hide (fun i hi => absurd hi (by omega))⟩
  case round =>
    obtain ⟨k, hk, rfl, hno⟩ := hrel
    by_cases hlt : k < LS.length
    . have hkn : (k : Int) < LS.length := by omega
      obtain ⟨g, cap', e, hB, hgl⟩ := (unhide HO).form (by omega)
      simp only [Value.slice.injEq, true_and] at e
      obtain ⟨rfl, rfl⟩ := e
      obtain ⟨b, off, e, _, hc0⟩ := unhide HC (by omega)
      simp only [Option.some.injEq, Addr.mk.injEq, and_true] at e
      obtain ⟨rfl, rfl⟩ := e
      have c25 := hc0 k hlt 25 (by omega)
      have c0 := hc0 k hlt 0 (by omega)
      simp only [Nat.zero_add, Nat.add_zero] at c25 c0
      have hfz := World.ownsRow.frozenAt (unhide HO) (k * 26 + 25)
      have HS := hide ((unhide HO).stored k 25 hlt (by omega) ver)
      clear hc0
      obtain ⟨G, hG⟩ : ∃ I, gf LS k 25 = I := ⟨_, rfl⟩
      obtain ⟨I, hI⟩ : ∃ I, gf LS k 0 = I := ⟨_, rfl⟩
      rw [hG] at c25
      rw [hI] at c0
      by_cases h25 : G = 0
      . by_cases h0 : I = id
        . subst h25
          subst h0
          go_wp2_with fail
          go_region
          go_wp2_with fail
          go_ret
          exact Or.inr ⟨k, hlt, ⟨hG, hI⟩, unhide hno, rfl, (unhide HS).1, grown_drew (unhide HS).2⟩
        . subst h25
          go_wp2_with fail
          go_round
          case rel => exact ⟨k + 1, by omega, by go_num, hide (fun i hi => by
            by_cases e : i = k
            . subst e; intro h; exact h0 (hI.symm.trans h.2)
            . exact unhide hno i (by omega))⟩
          case measure => simp [intOf]; omega
      . go_wp2_with fail
        go_round
        case rel => exact ⟨k + 1, by omega, by go_num, hide (fun i hi => by
          by_cases e : i = k
          . subst e; intro h; exact h25 (hG.symm.trans h.1)
          . exact unhide hno i (by omega))⟩
        case measure => simp [intOf]; omega
    . have hkn : k = LS.length := by omega
      subst hkn
      go_wp2_with fail
      go_ret
      exact Or.inl ⟨rfl, rfl, unhide hno⟩
def cntL (LS : List (Nat -> Int)) : Nat -> Nat
  | 0 => 0
  | k + 1 => if gf LS k 25 = 0 then cntL LS k + 1 else cntL LS k
theorem cntL_le (LS : List (Nat -> Int)) : ∀ k, cntL LS k <= k
  | 0 => Nat.le_refl _
  | k + 1 => by rw [cntL]; have := cntL_le LS k; split <;> omega
set_option maxHeartbeats 1600000 in
theorem count_any (db B : Nat) (ver : Int) (lv : Value) (LS : List (Nat -> Int)) (w : World) (hd : w.heap[db]? = some (.cells #[.int .i64 ver, lv] 137 (0, 0))) (ho : OwnC 147 26 w B lv LS) (hl : LS.length <= 1000) :
    Calls Tryz.prog 168 #[.pointer (some ⟨db, 0, none⟩)] w fun e w' => e = .returned (.int .i64 (cntL LS LS.length)) /\ w = w' := by
  obtain ⟨oa, cap, rfl, _, hc⟩ := ho.at (by unfold maxLen; omega)
  have HC := hide hc
  obtain ⟨d0, d1⟩ := dr_cells hd
  clear ho hc hd
  go_enter Tryz.func168, Tryz.ntmps168
  go_wp2_with fail
  go_loop [3, 4] (fun c i => ∃ k n : Nat, k <= LS.length /\ n <= k /\ i = .int .i64 k /\ c = .int .i64 n /\ Hid (n = cntL LS k)) (fun _ i => LS.length - (intOf i).toNat)
  case atStart => exact ⟨0, 0, by omega, by omega, rfl, rfl, hide rfl⟩
  case round =>
    obtain ⟨k, n, hk, hnk, rfl, rfl, hn⟩ := hrel
    by_cases hlt : k < LS.length
    . have hkn : (k : Int) < LS.length := by omega
      obtain ⟨b, off, rfl, _, hc0⟩ := unhide HC (by omega)
      have c25 := hc0 k hlt 25 (by omega)
      clear hc0
      obtain ⟨G, hG⟩ : ∃ I, gf LS k 25 = I := ⟨_, rfl⟩
      rw [hG] at c25
      by_cases h25 : G = 0
      . have hn' : Hid (n + 1 = cntL LS (k + 1)) := by show n + 1 = _; rw [cntL, if_pos (hG.trans h25), unhide hn]
        subst h25
        go_wp2_with fail
        go_round
        case rel => exact ⟨k + 1, n + 1, by omega, by omega, by go_num, by go_num, hn'⟩
        case measure => simp [intOf]; omega
      . have hn' : Hid (n = cntL LS (k + 1)) := by show n = _; rw [cntL, if_neg (fun h => h25 (hG.symm.trans h)), unhide hn]
        go_wp2_with fail
        go_round
        case rel => exact ⟨k + 1, n, by omega, by omega, by go_num, rfl, hn'⟩
        case measure => simp [intOf]; omega
    . have hkn : k = LS.length := by omega
      subst hkn
      go_wp2_with fail
      go_ret
      exact ⟨ret_int (by rw [unhide hn]), rfl⟩
def Fst (LS : List (Nat -> Int)) (id : Int) (i : Nat) : Prop := i < LS.length /\ Lv (gf LS i) id /\ ∀ j, j < i -> ¬ Lv (gf LS j) id
def Non (LS : List (Nat -> Int)) (id : Int) : Prop := ∀ i, i < LS.length -> ¬ Lv (gf LS i) id
def lifeOf (f : Nat -> Int) (ver : Int) : Nat -> Int := fun j => if j < 24 then f j else if j = 24 then ver else 0
def PutR (ver : Int) (f : Nat -> Int) (LS : List (Nat -> Int)) (r : Int) (LS' : List (Nat -> Int)) : Prop :=
  (right f = false /\ r = 7 /\ LS' = LS) \/ (right f = true /\ ((∃ i, Fst LS (f 0) i /\ r = 0 /\ LS' = setL LS i 25 ver ++ [lifeOf f ver]) \/
    (Non LS (f 0) /\ 40 <= cntL LS LS.length /\ r = 11 /\ LS' = LS) \/ (Non LS (f 0) /\ cntL LS LS.length < 40 /\ r = 0 /\ LS' = LS ++ [lifeOf f ver])))
def DropR (ver : Int) (id : Int) (LS : List (Nat -> Int)) (r : Int) (LS' : List (Nat -> Int)) : Prop :=
  (∃ i, Fst LS id i /\ r = 0 /\ LS' = setL LS i 25 ver) \/ (Non LS id /\ r = 10 /\ LS' = LS)
def EditR (ver : Int) (e : Nat -> Int) (LS : List (Nat -> Int)) (r : Int) (LS' : List (Nat -> Int)) : Prop :=
  (e 0 = 0 /\ PutR ver (fun j => e (1 + j)) LS r LS') \/ (e 0 = 1 /\ DropR ver (e 1) LS r LS') \/ (e 0 ≠ 0 /\ e 0 ≠ 1 /\ r = 9 /\ LS' = LS)
theorem PutR.len {ver : Int} {f : Nat -> Int} {LS LS' : List (Nat -> Int)} {r : Int} (h : PutR ver f LS r LS') : LS'.length <= LS.length + 1 := by
  rcases h with ⟨_, _, rfl⟩ | ⟨_, ⟨i, _, _, rfl⟩ | ⟨_, _, _, rfl⟩ | ⟨_, _, _, rfl⟩⟩
  . omega
  . simp [setL_len]
  . omega
  . simp
theorem DropR.len {ver id : Int} {LS LS' : List (Nat -> Int)} {r : Int} (h : DropR ver id LS r LS') : LS'.length <= LS.length + 1 := by
  rcases h with ⟨i, _, _, rfl⟩ | ⟨_, _, rfl⟩
  . simp [setL_len]
  . omega
theorem EditR.len {ver : Int} {e : Nat -> Int} {LS LS' : List (Nat -> Int)} {r : Int} (h : EditR ver e LS r LS') : LS'.length <= LS.length + 1 := by
  rcases h with ⟨_, h⟩ | ⟨_, h⟩ | ⟨_, _, _, rfl⟩
  . exact h.len
  . exact h.len
  . omega
structure Dr (w : World) (db : Nat) (ver : Int) (LS : List (Nat -> Int)) (lv : Value) : Prop where
  blk : w.heap[db]? = some (.cells #[.int .i64 ver, lv] 137 (0, 0))
  own : OwnC 147 26 w (db + 1) lv LS
theorem Dr.lt {w : World} {db : Nat} {ver : Int} {LS : List (Nat -> Int)} {lv : Value} (h : Dr w db ver LS lv) : db < w.heap.size := (Array.getElem?_eq_some_iff.1 h.blk).1
theorem Dr.on {w w' : World} {db : Nat} {ver : Int} {LS : List (Nat -> Int)} {lv : Value} (h : Dr w db ver LS lv) (hb : Below w.heap.size w w') : Dr w' db ver LS lv := ⟨blk_on h.blk hb, h.own.on hb⟩
set_option maxHeartbeats 1600000 in
theorem drop_any (db : Nat) (ver : Int) (lv : Value) (LS : List (Nat -> Int)) (id : Int) (w : World) (hd : Dr w db ver LS lv) (hl : LS.length <= 900) :
    Calls Tryz.prog 114 #[.pointer (some ⟨db, 0, none⟩), .int .i64 id] w fun e w' => ∃ r LS' lv', e = .returned (.int .i64 r) /\ DropR ver id LS r LS' /\ Dr w' db ver LS' lv' /\ Below db w w' := by
  have E := end_any db (db + 1) ver lv LS id w hd.blk hd.own (by omega)
  have HD := hide hd
  clear hd
  go_enter Tryz.func114, Tryz.ntmps114
  go_wp2_with fail
  refine E.mono ?_
  rintro e w1 (⟨rfl, rfl, hno⟩ | ⟨i, hi, hlv, hfst, rfl, ho, hg⟩)
  . have HN := hide hno
    clear hno E
    go_wp2_with fail
    go_ret
    exact ⟨_, _, _, rfl, Or.inr ⟨unhide HN, rfl, rfl⟩, unhide HD, Below.refl _ _⟩
  . have HF := hide (And.intro hi (And.intro hlv hfst))
    have HO := hide ho
    have hb1 := (Below.refl db w).grown hg (Nat.le_of_lt (unhide HD).lt) (fun k hk => by have := ((unhide HD).own.lt k hk).1; omega)
    have hblk : w1.heap[db]? = some (.cells #[.int .i64 ver, lv] 137 (0, 0)) := (hg.block db (unhide HD).lt (fun e => by have := ((unhide HD).own.lt db e.symm).1; omega)).trans (unhide HD).blk
    have HB := hide hb1
    have HK := hide hblk
    clear E hi hlv hfst ho hg hb1 hblk
    go_wp2_with fail
    go_ret
    exact ⟨_, _, _, rfl, Or.inl ⟨i, unhide HF, rfl, rfl⟩, ⟨unhide HK, unhide HO⟩, unhide HB⟩
theorem built80 (f : Nat -> Int) (ver : Int) : Tryz.prog.built 147 [(0, .agg (fc f)), (1, .int .i64 ver)] = some (cc 26 (lifeOf f ver)) := by kernel_rfl
theorem run_build80 (f : Nat -> Int) (ver : Int) (A : Act) (o : Oper) (x y : Operand) (ho : o.op = .build 147 #[(0, x), (1, y)]) (hx : A.eval x = .agg (fc f)) (hy : A.eval y = .int .i64 ver) (w : World) :
    (execOp A.eval o).run Tryz.prog w = .ok (.value (.agg (cc 26 (lifeOf f ver)))) w := by
  have hb := run_build (P := Tryz.prog) w 147 #[(0, .agg (fc f)), (1, .int .i64 ver)] (cc 26 (lifeOf f ver)) (built80 f ver)
  unfold execOp
  simp [ho, hx, hy, hb]
theorem run_bs60 (ev : Operand -> Value) (o : Oper) (x : Operand) (ho : o.op = .buildSlice 117 1 #[(0, x)]) (f : Nat -> Int) (hx : ev x = .agg (cc 26 f)) (w : World) : (execOp ev o).run Tryz.prog w = .ok (.value (.slice (some ⟨w.heap.size, 0, none⟩) 1 1)) (w.alloc (.cells (cc 26 f) 147)) := by
  unfold execOp
  simp only [ho]
  simp only [List.map_toArray, List.map_cons, List.map_nil, hx]
  kernel_rfl
theorem Tryz.info147 : (Tryz.prog.info? 147).map (fun i => (i.zero, i.size, i.bytes)) = some (some (.agg (cc 26 zf)), 26, 208) := by kernel_rfl
theorem run_ap60 (w : World) (B : Nat) (v : Value) (l news : List (Nat -> Int)) (hown : OwnC 147 26 w B v l) (b off c : Nat) (hnews : ∀ i, i < news.length -> ∀ j, j < 26 -> w.cell? ⟨b, off + i * 26 + j, none⟩ = some (.int .i64 (gf news i j)))
    (hlen : l.length + news.length <= 10000) (hB : B <= w.heap.size) :
    ∃ v' w', (Builtin.append_ #[117, 117] 117 #[v, .slice (some ⟨b, off, none⟩) news.length c]).run Tryz.prog w = .ok v' w' /\ OwnC 147 26 w' B v' (l ++ news) /\ w.grownBy w' v.ownBlock := by
  obtain ⟨i0, hi, hz0, hz1, hz2⟩ := info_parts Tryz.info147
  obtain ⟨v', w', hrun, r1, r2, _⟩ := run_append_own (P := Tryz.prog) w B 117 117 147 i0 (.agg (cc 26 zf)) 26 208 Tryz.underlying117 hi hz0 hz1 hz2 (cc_size 26 zf) (by decide) v l.length (fl 26 l) hown ⟨b, off, none⟩ news.length c (fl 26 news) (fl_len 26 news)
    (fun j u hj => by
      have hlt : j < news.length * 26 := by
        have := (List.getElem?_eq_some_iff.1 hj).1
        rwa [fl_len] at this
      have h1 : j / 26 < news.length := by omega
      have e : j / 26 * 26 + j % 26 = j := by omega
      rw [<- e, fl_at 26 news _ _ h1 (by omega)] at hj
      rw [Addr.add_mid, <- Option.some.inj hj, show off + j = off + j / 26 * 26 + j % 26 by omega]
      exact hnews _ h1 _ (by omega))
    (fl_one 26 news) (by unfold maxLen; omega) (by omega) hB
  refine ⟨v', w', hrun, ?_, r2⟩
  unfold OwnC
  rw [fl_app]
  simpa using r1
theorem ex_ap60 {w w' : World} {v x' v' : Value} (hr : (Builtin.append_ #[117, 117] 117 #[v, x']).run Tryz.prog w = .ok v' w') (a : Act) (o : Oper) (s x : Operand) (ho : o.op = .call { callee := .builtin .append, args := #[s, x], argTypes := #[117, 117] }) (ht : o.type = 117) (hs : a.eval s = v) (hx : a.eval x = x') : (execOp a.eval o).run Tryz.prog w = .ok (.value v') w' := by
  unfold execOp
  simp only [ho, resolve, invoke, builtin]
  simp [hs, hx, ht, hr, Result.andThen]
theorem t_skip {l : List Oper} {Q : Exit -> Act -> World -> Prop} {S : World -> Prop} {listed : Array Bool} {a : Act} {w : World} {fuel : Nat} {o : Oper} {rest : List Oper} (i : Nat) (hd : l.drop i = o :: rest) (hw : Region.wanted o (yielded l.toArray a.tmps) = true) (w1 : World) (h0 : (execOp a.eval o).run Tryz.prog w = .ok .skip w1) (hS : S w1)
    (h : wpAnyH Tryz.prog .any l.toArray Q S fuel (listed.setIfInBounds i true) (a.put o.dst undef) w1) :
    wpOp Tryz.prog l.toArray Q i (fun a' w' => S w' /\ wpAnyH Tryz.prog .any l.toArray Q S fuel (listed.setIfInBounds i true) a' w') a w := by
  unfold wpOp
  simp only [at_drop hd]
  rw [if_pos hw]
  left
  unfold Oper.wp
  rw [h0]
  exact ⟨hS, h⟩
theorem blk_set {w : World} {g i : Nat} {cs : Array Value} {t : TypeId} (h : w.heap[g]? = some (.cells cs t (0, 0))) (v : Value) : (w.setCell ⟨g, i, none⟩ v).heap[g]? = some (.cells (cs.setIfInBounds i v) t (0, 0)) := by
  simp [World.setCell, Array.getElem?_modify, h]
theorem run_ld54 (ev : Operand -> Value) (o : Oper) (x : Operand) (ho : o.op = .load 66 x) (g : Nat) (hx : ev x = .pointer (some ⟨g, 0, none⟩)) (f : Nat -> Int) {w : World} (hg : w.heap[g]? = some (.cells (fc f) 66 (0, 0))) : (execOp ev o).run Tryz.prog w = .ok (.value (.agg (fc f))) w := by
  have hr : w.rangeAt g 0 (fc f).toList := fun j v hv => by
    rw [blk_cells hg, Nat.zero_add]
    simpa using hv
  have h := run_loadVar_mid w g 0 66 (fc f).toList _ hr Tryz.underlying66 rfl (by rw [Array.length_toList]; exact szf f)
  unfold execOp
  simp only [ho, hx, Instr.loadAt, Instr.sureAddr, Sem.run_bind, Sem.run_pure, Result.andThen_ok, h]
theorem run_st60 (ev : Operand -> Value) (o : Oper) (x y : Operand) (ho : o.op = .store 117 x y) (db : Nat) (v : Value) (hx : ev x = .pointer (some ⟨db, 1, none⟩)) (hy : ev y = v) (ver : Int) {lv : Value} {w : World} (hk : w.heap[db]? = some (.cells #[.int .i64 ver, lv] 137 (0, 0))) (l : List (Nat -> Int)) {B : Nat} (hv : OwnC 147 26 w B v l) : (execOp ev o).run Tryz.prog w = .ok .skip (w.setCell ⟨db, 1, none⟩ v) := by
  have hc := (dr_cells hk).2
  have hf := frz_blk hk 1
  obtain ⟨oa, n, cap, rfl⟩ : ∃ oa n cap, v = .slice oa n cap := by
    rcases hv.2 with ⟨rfl, _⟩ | ⟨g, cap, cur, rfl, _⟩
    . exact ⟨_, _, _, rfl⟩
    . exact ⟨_, _, _, rfl⟩
  unfold execOp
  simp only [ho, hx, hy]
  simp [go_sem, hc, hf]
set_option maxHeartbeats 6400000 in
theorem put_any (db : Nat) (ver : Int) (lv : Value) (LS : List (Nat -> Int)) (f : Nat -> Int) (w : World) (hd : Dr w db ver LS lv) (hl : LS.length <= 900) :
    Calls Tryz.prog 113 #[.pointer (some ⟨db, 0, none⟩), .agg (fc f)] w fun e w' => ∃ r LS' lv', e = .returned (.int .i64 r) /\ PutR ver f LS r LS' /\ Dr w' db ver LS' lv' /\ Below db w w' := by
  have hg0 := heap_alloc_new w (.cells (fc f) 66 (0, 0))
  have HD := hide hd
  clear hd
  cases hr : right f with
  | false =>
    go_enter Tryz.func113, Tryz.ntmps113
    go_wp2_with (refine ld26 rfl _ rfl _ rfl f hg0 ?_)
    refine (check_f hr _).mono ?_
    rintro e w1 ⟨rfl, hb1⟩
    have hb := (below_one w (.cells (fc f) 66)).trans (hb1.mono (by simp))
    have HDN := hide ((unhide HD).on hb)
    have HB := hide (hb.mono (Nat.le_of_lt (unhide HD).lt))
    clear hb1 hb
    go_wp2_with fail
    go_ret
    exact ⟨_, _, _, rfl, Or.inl ⟨hr, rfl, rfl⟩, unhide HDN, unhide HB⟩
  | true =>
    have f0 := fc_at f 0 (by decide)
    obtain ⟨I, hI⟩ : ∃ I, f 0 = I := ⟨_, rfl⟩
    rw [hI] at f0
    go_enter Tryz.func113, Tryz.ntmps113
    go_wp2_with (refine ld26 rfl _ rfl _ rfl f hg0 ?_)
    refine (check_t hr _).mono ?_
    rintro e w1 ⟨rfl, hb1⟩
    have hb := (below_one w (.cells (fc f) 66)).trans (hb1.mono (by simp))
    have hd1 := (unhide HD).on hb
    have HB1 := hide (hb.mono (Nat.le_of_lt (unhide HD).lt))
    have hg1 := blk_on hg0 hb1
    have hc1 := blk_cells hg1
    have hlw : db < w.heap.size := (unhide HD).lt
    clear hb1 hb hg0
    have E := end_any db (db + 1) ver lv LS I w1 hd1.blk hd1.own (by omega)
    have HD1 := hide hd1
    clear hd1
    go_wp2_with fail
    refine E.mono ?_
    rintro e w2 (⟨rfl, rfl, hno⟩ | ⟨i, hi, hlv, hfst, rfl, ho, hg⟩)
    . have HN := hide hno
      have C := count_any db (db + 1) ver lv LS w1 (unhide HD1).blk (unhide HD1).own (by omega)
      have hcl := cntL_le LS LS.length
      have HC := hide C
      clear hno E C
      obtain ⟨N, hN⟩ : ∃ N, cntL LS LS.length = N := ⟨_, rfl⟩
      rw [hN] at hcl
      by_cases h40 : 40 <= N
      . have h40' : (40 : Int) <= N := by omega
        go_wp2_with fail
        refine (unhide HC).mono ?_
        rintro e w9 ⟨rfl, rfl⟩
        rw [hN]
        go_wp2_with fail
        go_ret
        exact ⟨_, _, _, rfl, Or.inr ⟨hr, Or.inr (Or.inl ⟨by rw [hI]; exact unhide HN, by rw [hN]; exact h40, rfl, rfl⟩)⟩, unhide HD1, unhide HB1⟩
      . have h40' : ¬ (40 : Int) <= N := by omega
        go_wp2_with fail
        refine (unhide HC).mono ?_
        rintro e w9 ⟨rfl, rfl⟩
        rw [hN]
        go_wp2_with fail
        have HD2 := HD1
        have HB2 := HB1
        have hg2 := hg1
        have HL : Hid (LS.length <= 900) := hl
        have HPR : Hid (PutR ver f LS 0 (LS ++ [lifeOf f ver])) := Or.inr ⟨hr, Or.inr (Or.inr ⟨by rw [hI]; exact unhide HN, by rw [hN]; omega, rfl, rfl⟩)⟩
        clear hg1 hc1 h40 h40' hcl hN HC HN
        have HAP : Hid (lv.ownBlock ≠ some w.heap.size) := fun e => by have := ((unhide HD).own.lt _ e).2; omega
        have hblk := (unhide HD2).blk
        obtain ⟨dc0, dc1⟩ := dr_cells hblk
        refine wp_region_held (S := fun w' => w'.heap[w.heap.size]? = some (.cells (fc f) 66 (0, 0)) /\ w'.cell? ⟨db, 0, none⟩ = some (.int .i64 ver)) (by kernel_rfl) ?_
        change wpAnyH _ _ _ _ _ _ _ _ (World.drew _)
        have hS : (World.drew w1).heap[w.heap.size]? = some (.cells (fc f) 66 (0, 0)) /\ (World.drew w1).cell? ⟨db, 0, none⟩ = some (.int .i64 ver) := ⟨hg2, dc0⟩
        have hD3 : Dr (World.drew w1) db ver (LS) lv := ⟨hblk, (unhide HD2).own⟩
        have hB3 : Below db w (World.drew w1) := Below.drew (unhide HB2)
        have hC3 : (World.drew w1).cell? ⟨db, 1, none⟩ = some lv := dc1
        generalize World.drew w1 = w5 at hS hD3 hB3 hC3 ⊢
        clear hblk dc0 dc1 HD2 HB2 hg2
        have hl5 : db + 1 <= w5.heap.size := hD3.lt
        have hA6 := heap_alloc_new w5 (.cells (cc 26 (lifeOf f ver)) 147 (0, 0))
        have hS6 : (w5.alloc (.cells (cc 26 (lifeOf f ver)) 147)).heap[w.heap.size]? = some (.cells (fc f) 66 (0, 0)) /\ (w5.alloc (.cells (cc 26 (lifeOf f ver)) 147)).cell? ⟨db, 0, none⟩ = some (.int .i64 ver) := ⟨(Below.heap_alloc _ _ _ (Array.getElem?_eq_some_iff.1 hS.1).1).trans hS.1, (World.cell?_of_block (Below.heap_alloc _ _ _ hD3.lt)).trans hS.2⟩
        have hC6 : (w5.alloc (.cells (cc 26 (lifeOf f ver)) 147)).cell? ⟨db, 1, none⟩ = some lv := (World.cell?_of_block (Below.heap_alloc _ _ _ hD3.lt)).trans hC3
        have hO6 := hD3.own.alloc (.cells (cc 26 (lifeOf f ver)) 147)
        have hK6 := (Below.heap_alloc w5 (.cells (cc 26 (lifeOf f ver)) 147) db hD3.lt).trans hD3.blk
        have hB6 := hB3.alloc (by omega) (.cells (cc 26 (lifeOf f ver)) 147)
        have APP := run_ap60 (w5.alloc (.cells (cc 26 (lifeOf f ver)) 147)) (db + 1) lv (LS) [lifeOf f ver] hO6 w5.heap.size 0 1 (fun i hi j hj => by
          obtain rfl : i = 0 := by simp at hi; omega
          rw [blk_cells hA6]
          simpa [gf] using cc_at 26 (lifeOf f ver) j hj) (by have := unhide HL; simp; omega) (by simp; omega)
        refine t_tk 0 rfl (.pointer (some ⟨db, 0, none⟩)) (by kernel_rfl) (fun _ _ _ h => h) rfl (fun w' hw' => by simp [go_sem]) hS ?_
        simp only [Act.put, qA, qB, qC]
        refine t_tk 1 rfl (.pointer (some ⟨db, 0, none⟩)) (by kernel_rfl) (fun _ _ _ h => h) rfl (fun w' hw' => by simp [go_sem]) hS ?_
        simp only [Act.put, qA, qB, qC]
        refine t_tk 2 rfl (.pointer (some ⟨db, 0, none⟩)) (by kernel_rfl) (fun _ _ _ h => h) rfl (fun w' hw' => by simp [go_sem]) hS ?_
        simp only [Act.put, qA, qB, qC]
        refine t_tk 3 rfl (.pointer (some ⟨db, 1, none⟩)) (by kernel_rfl) (fun _ _ _ h => h) rfl (fun w' hw' => by simp [go_sem]) hS ?_
        simp only [Act.put, qA, qB, qC]
        refine t_tk 5 rfl (.agg (fc f)) (by kernel_rfl) (fun _ _ _ h => h) rfl (fun w' hw' => run_ld54 _ _ _ rfl _ rfl f hw'.1) hS ?_
        simp only [Act.put, qA, qB, qC]
        refine t_tk 6 rfl (.pointer (some ⟨db, 0, none⟩)) (by kernel_rfl) (fun _ _ _ h => h) rfl (fun w' hw' => by simp [go_sem]) hS ?_
        simp only [Act.put, qA, qB, qC]
        refine t_tk 7 rfl (.pointer (some ⟨db, 0, none⟩)) (by kernel_rfl) (fun _ _ _ h => h) rfl (fun w' hw' => by simp [go_sem]) hS ?_
        simp only [Act.put, qA, qB, qC]
        refine t_tk 8 rfl (.pointer (some ⟨db, 0, none⟩)) (by kernel_rfl) (fun _ _ _ h => h) rfl (fun w' hw' => by simp [go_sem]) hS ?_
        simp only [Act.put, qA, qB, qC]
        refine t_tk 9 rfl (.int .i64 ver) (by kernel_rfl) (fun _ _ _ h => h) rfl (fun w' hw' => by simp [go_sem, hw'.2]) hS ?_
        simp only [Act.put, qA, qB, qC]
        refine t_tk 10 rfl (.agg (cc 26 (lifeOf f ver))) (by kernel_rfl) (fun _ _ _ h => h) rfl (fun w' hw' => run_build80 f ver _ _ _ _ rfl rfl rfl w') hS ?_
        simp only [Act.put, qA, qB, qC]
        refine wpAnyH_all (rs := [4, 11]) (by kernel_rfl) (by simp) ?_
        intro i hi
        simp only [List.mem_cons, List.not_mem_nil, or_false] at hi
        rcases hi with rfl | rfl
        . refine t_op 4 rfl rfl lv w5 (by simp [go_sem, hC3]) hS ?_
          simp only [Act.put, qA, qB, qC]
          refine wpAnyH_all (rs := [11]) (by kernel_rfl) (by simp) ?_
          intro i hi
          simp only [List.mem_singleton] at hi
          subst hi
          refine t_op 11 rfl rfl (.slice (some ⟨w5.heap.size, 0, none⟩) 1 1) _ (run_bs60 _ _ _ rfl (lifeOf f ver) rfl w5) hS6 ?_
          simp only [Act.put, qA, qB, qC]
          obtain ⟨v7, w7, hr7, ho7, hg7⟩ := APP
          have hk7 : w7.heap[db]? = some (.cells #[.int .i64 ver, lv] 137 (0, 0)) := (hg7.block db (by simp; omega) (fun e => by have := (hO6.lt db e.symm).1; omega)).trans hK6
          have hf7 : w7.heap[w.heap.size]? = some (.cells (fc f) 66 (0, 0)) := (hg7.block w.heap.size (Array.getElem?_eq_some_iff.1 hS6.1).1 (fun e => unhide HAP e.symm)).trans hS6.1
          have hS7 : w7.heap[w.heap.size]? = some (.cells (fc f) 66 (0, 0)) /\ w7.cell? ⟨db, 0, none⟩ = some (.int .i64 ver) := ⟨hf7, (dr_cells hk7).1⟩
          have hB7 := hB6.grown hg7 (by simp; omega) (fun k hk => by have := (hO6.lt k hk).1; omega)
          refine wpAnyH_all (rs := [12]) (by kernel_rfl) (by simp) ?_
          intro i hi
          simp only [List.mem_singleton] at hi
          subst hi
          refine t_op 12 rfl rfl v7 w7 (ex_ap60 hr7 _ _ _ _ rfl rfl rfl rfl) hS7 ?_
          simp only [Act.put, qA, qB, qC]
          have hS := hS7
          refine t_tk 13 rfl (.pointer (some ⟨db, 0, none⟩)) (by kernel_rfl) (fun _ _ _ h => h) rfl (fun w' hw' => by simp [go_sem]) hS ?_
          simp only [Act.put, qA, qB, qC]
          refine t_tk 14 rfl (.pointer (some ⟨db, 1, none⟩)) (by kernel_rfl) (fun _ _ _ h => h) rfl (fun w' hw' => by simp [go_sem]) hS ?_
          simp only [Act.put, qA, qB, qC]
          refine wpAnyH_all (rs := [15]) (by kernel_rfl) (by simp) ?_
          intro i hi
          simp only [List.mem_singleton] at hi
          subst hi
          have hk8 : (w7.setCell ⟨db, 1, none⟩ v7).heap[db]? = some (.cells #[.int .i64 ver, v7] 137 (0, 0)) := blk_set hk7 v7
          have ho8 : OwnC 147 26 (w7.setCell ⟨db, 1, none⟩ v7) (db + 1) v7 (LS ++ [lifeOf f ver]) := ho7.same (fun g hg => Below.heap_setCell _ _ _ _ (by have := (ho7.lt g hg).1; simp; omega))
          have hB8 := hB7.setCell (p := ⟨db, 1, none⟩) (Nat.le_refl _) v7
          refine t_skip 15 rfl rfl (w7.setCell ⟨db, 1, none⟩ v7) (run_st60 _ _ _ _ rfl db v7 rfl rfl ver hk7 _ ho7) ⟨(Below.heap_setCell _ _ _ _ (by simp; omega)).trans hf7, (dr_cells hk8).1⟩ ?_
          simp only [Act.put]
          refine wpAnyH_done (by kernel_rfl) ?_ _
          have HF := hide (And.intro (Dr.mk hk8 ho8) hB8)
          clear hk8 ho8 hB8 hB7 hS hS7 hf7 hk7 hr7 ho7 hg7 hA6 hS6 hC6 hO6 hK6 hB6 hD3 hB3 hC3
          go_wp2_with fail
          go_ret
          exact ⟨_, _, _, rfl, unhide HPR, (unhide HF).1, (unhide HF).2⟩
        . refine t_op 11 rfl rfl (.slice (some ⟨w5.heap.size, 0, none⟩) 1 1) _ (run_bs60 _ _ _ rfl (lifeOf f ver) rfl w5) hS6 ?_
          simp only [Act.put, qA, qB, qC]
          refine wpAnyH_all (rs := [4]) (by kernel_rfl) (by simp) ?_
          intro i hi
          simp only [List.mem_singleton] at hi
          subst hi
          refine t_op 4 rfl rfl lv (w5.alloc (.cells (cc 26 (lifeOf f ver)) 147)) (by simp [go_sem, hC6]) hS6 ?_
          simp only [Act.put, qA, qB, qC]
          obtain ⟨v7, w7, hr7, ho7, hg7⟩ := APP
          have hk7 : w7.heap[db]? = some (.cells #[.int .i64 ver, lv] 137 (0, 0)) := (hg7.block db (by simp; omega) (fun e => by have := (hO6.lt db e.symm).1; omega)).trans hK6
          have hf7 : w7.heap[w.heap.size]? = some (.cells (fc f) 66 (0, 0)) := (hg7.block w.heap.size (Array.getElem?_eq_some_iff.1 hS6.1).1 (fun e => unhide HAP e.symm)).trans hS6.1
          have hS7 : w7.heap[w.heap.size]? = some (.cells (fc f) 66 (0, 0)) /\ w7.cell? ⟨db, 0, none⟩ = some (.int .i64 ver) := ⟨hf7, (dr_cells hk7).1⟩
          have hB7 := hB6.grown hg7 (by simp; omega) (fun k hk => by have := (hO6.lt k hk).1; omega)
          refine wpAnyH_all (rs := [12]) (by kernel_rfl) (by simp) ?_
          intro i hi
          simp only [List.mem_singleton] at hi
          subst hi
          refine t_op 12 rfl rfl v7 w7 (ex_ap60 hr7 _ _ _ _ rfl rfl rfl rfl) hS7 ?_
          simp only [Act.put, qA, qB, qC]
          have hS := hS7
          refine t_tk 13 rfl (.pointer (some ⟨db, 0, none⟩)) (by kernel_rfl) (fun _ _ _ h => h) rfl (fun w' hw' => by simp [go_sem]) hS ?_
          simp only [Act.put, qA, qB, qC]
          refine t_tk 14 rfl (.pointer (some ⟨db, 1, none⟩)) (by kernel_rfl) (fun _ _ _ h => h) rfl (fun w' hw' => by simp [go_sem]) hS ?_
          simp only [Act.put, qA, qB, qC]
          refine wpAnyH_all (rs := [15]) (by kernel_rfl) (by simp) ?_
          intro i hi
          simp only [List.mem_singleton] at hi
          subst hi
          have hk8 : (w7.setCell ⟨db, 1, none⟩ v7).heap[db]? = some (.cells #[.int .i64 ver, v7] 137 (0, 0)) := blk_set hk7 v7
          have ho8 : OwnC 147 26 (w7.setCell ⟨db, 1, none⟩ v7) (db + 1) v7 (LS ++ [lifeOf f ver]) := ho7.same (fun g hg => Below.heap_setCell _ _ _ _ (by have := (ho7.lt g hg).1; simp; omega))
          have hB8 := hB7.setCell (p := ⟨db, 1, none⟩) (Nat.le_refl _) v7
          refine t_skip 15 rfl rfl (w7.setCell ⟨db, 1, none⟩ v7) (run_st60 _ _ _ _ rfl db v7 rfl rfl ver hk7 _ ho7) ⟨(Below.heap_setCell _ _ _ _ (by simp; omega)).trans hf7, (dr_cells hk8).1⟩ ?_
          simp only [Act.put]
          refine wpAnyH_done (by kernel_rfl) ?_ _
          have HF := hide (And.intro (Dr.mk hk8 ho8) hB8)
          clear hk8 ho8 hB8 hB7 hS hS7 hf7 hk7 hr7 ho7 hg7 hA6 hS6 hC6 hO6 hK6 hB6 hD3 hB3 hC3
          go_wp2_with fail
          go_ret
          exact ⟨_, _, _, rfl, unhide HPR, (unhide HF).1, (unhide HF).2⟩
    . have hd2 : Dr w2 db ver (setL LS i 25 ver) lv := ⟨(hg.block db (unhide HD1).lt (fun e => by have := ((unhide HD1).own.lt db e.symm).1; omega)).trans (unhide HD1).blk, ho⟩
      have HAP : Hid (lv.ownBlock ≠ some w.heap.size) := fun e => by have := ((unhide HD).own.lt _ e).2; omega
      have hg2 : w2.heap[w.heap.size]? = some (.cells (fc f) 66 (0, 0)) := (hg.block w.heap.size (Array.getElem?_eq_some_iff.1 hg1).1 (fun e => unhide HAP e.symm)).trans hg1
      have HB2 := hide ((unhide HB1).grown hg (Nat.le_of_lt (unhide HD1).lt) (fun k hk => by have := ((unhide HD1).own.lt k hk).1; omega))
      have HD2 := hide hd2
      have HL : Hid (LS.length <= 900) := hl
      have HPR : Hid (PutR ver f LS 0 (setL LS i 25 ver ++ [lifeOf f ver])) := Or.inr ⟨hr, Or.inl ⟨i, by rw [hI]; exact ⟨hi, hlv, hfst⟩, rfl, rfl⟩⟩
      clear E hg hd2 ho hi hlv hfst hg1 hc1
      go_wp2_with fail
      have hblk := (unhide HD2).blk
      obtain ⟨dc0, dc1⟩ := dr_cells hblk
      refine wp_region_held (S := fun w' => w'.heap[w.heap.size]? = some (.cells (fc f) 66 (0, 0)) /\ w'.cell? ⟨db, 0, none⟩ = some (.int .i64 ver)) (by kernel_rfl) ?_
      change wpAnyH _ _ _ _ _ _ _ _ (World.drew _)
      have hS : (World.drew w2).heap[w.heap.size]? = some (.cells (fc f) 66 (0, 0)) /\ (World.drew w2).cell? ⟨db, 0, none⟩ = some (.int .i64 ver) := ⟨hg2, dc0⟩
      have hD3 : Dr (World.drew w2) db ver (setL LS i 25 ver) lv := ⟨hblk, (unhide HD2).own⟩
      have hB3 : Below db w (World.drew w2) := Below.drew (unhide HB2)
      have hC3 : (World.drew w2).cell? ⟨db, 1, none⟩ = some lv := dc1
      generalize World.drew w2 = w5 at hS hD3 hB3 hC3 ⊢
      clear hblk dc0 dc1 HD2 HB2 hg2
      have hl5 : db + 1 <= w5.heap.size := hD3.lt
      have hA6 := heap_alloc_new w5 (.cells (cc 26 (lifeOf f ver)) 147 (0, 0))
      have hS6 : (w5.alloc (.cells (cc 26 (lifeOf f ver)) 147)).heap[w.heap.size]? = some (.cells (fc f) 66 (0, 0)) /\ (w5.alloc (.cells (cc 26 (lifeOf f ver)) 147)).cell? ⟨db, 0, none⟩ = some (.int .i64 ver) := ⟨(Below.heap_alloc _ _ _ (Array.getElem?_eq_some_iff.1 hS.1).1).trans hS.1, (World.cell?_of_block (Below.heap_alloc _ _ _ hD3.lt)).trans hS.2⟩
      have hC6 : (w5.alloc (.cells (cc 26 (lifeOf f ver)) 147)).cell? ⟨db, 1, none⟩ = some lv := (World.cell?_of_block (Below.heap_alloc _ _ _ hD3.lt)).trans hC3
      have hO6 := hD3.own.alloc (.cells (cc 26 (lifeOf f ver)) 147)
      have hK6 := (Below.heap_alloc w5 (.cells (cc 26 (lifeOf f ver)) 147) db hD3.lt).trans hD3.blk
      have hB6 := hB3.alloc (by omega) (.cells (cc 26 (lifeOf f ver)) 147)
      have APP := run_ap60 (w5.alloc (.cells (cc 26 (lifeOf f ver)) 147)) (db + 1) lv (setL LS i 25 ver) [lifeOf f ver] hO6 w5.heap.size 0 1 (fun i hi j hj => by
        obtain rfl : i = 0 := by simp at hi; omega
        rw [blk_cells hA6]
        simpa [gf] using cc_at 26 (lifeOf f ver) j hj) (by have := unhide HL; simp [setL_len]; omega) (by simp; omega)
      refine t_tk 0 rfl (.pointer (some ⟨db, 0, none⟩)) (by kernel_rfl) (fun _ _ _ h => h) rfl (fun w' hw' => by simp [go_sem]) hS ?_
      simp only [Act.put, qA, qB, qC]
      refine t_tk 1 rfl (.pointer (some ⟨db, 0, none⟩)) (by kernel_rfl) (fun _ _ _ h => h) rfl (fun w' hw' => by simp [go_sem]) hS ?_
      simp only [Act.put, qA, qB, qC]
      refine t_tk 2 rfl (.pointer (some ⟨db, 0, none⟩)) (by kernel_rfl) (fun _ _ _ h => h) rfl (fun w' hw' => by simp [go_sem]) hS ?_
      simp only [Act.put, qA, qB, qC]
      refine t_tk 3 rfl (.pointer (some ⟨db, 1, none⟩)) (by kernel_rfl) (fun _ _ _ h => h) rfl (fun w' hw' => by simp [go_sem]) hS ?_
      simp only [Act.put, qA, qB, qC]
      refine t_tk 5 rfl (.agg (fc f)) (by kernel_rfl) (fun _ _ _ h => h) rfl (fun w' hw' => run_ld54 _ _ _ rfl _ rfl f hw'.1) hS ?_
      simp only [Act.put, qA, qB, qC]
      refine t_tk 6 rfl (.pointer (some ⟨db, 0, none⟩)) (by kernel_rfl) (fun _ _ _ h => h) rfl (fun w' hw' => by simp [go_sem]) hS ?_
      simp only [Act.put, qA, qB, qC]
      refine t_tk 7 rfl (.pointer (some ⟨db, 0, none⟩)) (by kernel_rfl) (fun _ _ _ h => h) rfl (fun w' hw' => by simp [go_sem]) hS ?_
      simp only [Act.put, qA, qB, qC]
      refine t_tk 8 rfl (.pointer (some ⟨db, 0, none⟩)) (by kernel_rfl) (fun _ _ _ h => h) rfl (fun w' hw' => by simp [go_sem]) hS ?_
      simp only [Act.put, qA, qB, qC]
      refine t_tk 9 rfl (.int .i64 ver) (by kernel_rfl) (fun _ _ _ h => h) rfl (fun w' hw' => by simp [go_sem, hw'.2]) hS ?_
      simp only [Act.put, qA, qB, qC]
      refine t_tk 10 rfl (.agg (cc 26 (lifeOf f ver))) (by kernel_rfl) (fun _ _ _ h => h) rfl (fun w' hw' => run_build80 f ver _ _ _ _ rfl rfl rfl w') hS ?_
      simp only [Act.put, qA, qB, qC]
      refine wpAnyH_all (rs := [4, 11]) (by kernel_rfl) (by simp) ?_
      intro i hi
      simp only [List.mem_cons, List.not_mem_nil, or_false] at hi
      rcases hi with rfl | rfl
      . refine t_op 4 rfl rfl lv w5 (by simp [go_sem, hC3]) hS ?_
        simp only [Act.put, qA, qB, qC]
        refine wpAnyH_all (rs := [11]) (by kernel_rfl) (by simp) ?_
        intro i hi
        simp only [List.mem_singleton] at hi
        subst hi
        refine t_op 11 rfl rfl (.slice (some ⟨w5.heap.size, 0, none⟩) 1 1) _ (run_bs60 _ _ _ rfl (lifeOf f ver) rfl w5) hS6 ?_
        simp only [Act.put, qA, qB, qC]
        obtain ⟨v7, w7, hr7, ho7, hg7⟩ := APP
        have hk7 : w7.heap[db]? = some (.cells #[.int .i64 ver, lv] 137 (0, 0)) := (hg7.block db (by simp; omega) (fun e => by have := (hO6.lt db e.symm).1; omega)).trans hK6
        have hf7 : w7.heap[w.heap.size]? = some (.cells (fc f) 66 (0, 0)) := (hg7.block w.heap.size (Array.getElem?_eq_some_iff.1 hS6.1).1 (fun e => unhide HAP e.symm)).trans hS6.1
        have hS7 : w7.heap[w.heap.size]? = some (.cells (fc f) 66 (0, 0)) /\ w7.cell? ⟨db, 0, none⟩ = some (.int .i64 ver) := ⟨hf7, (dr_cells hk7).1⟩
        have hB7 := hB6.grown hg7 (by simp; omega) (fun k hk => by have := (hO6.lt k hk).1; omega)
        refine wpAnyH_all (rs := [12]) (by kernel_rfl) (by simp) ?_
        intro i hi
        simp only [List.mem_singleton] at hi
        subst hi
        refine t_op 12 rfl rfl v7 w7 (ex_ap60 hr7 _ _ _ _ rfl rfl rfl rfl) hS7 ?_
        simp only [Act.put, qA, qB, qC]
        have hS := hS7
        refine t_tk 13 rfl (.pointer (some ⟨db, 0, none⟩)) (by kernel_rfl) (fun _ _ _ h => h) rfl (fun w' hw' => by simp [go_sem]) hS ?_
        simp only [Act.put, qA, qB, qC]
        refine t_tk 14 rfl (.pointer (some ⟨db, 1, none⟩)) (by kernel_rfl) (fun _ _ _ h => h) rfl (fun w' hw' => by simp [go_sem]) hS ?_
        simp only [Act.put, qA, qB, qC]
        refine wpAnyH_all (rs := [15]) (by kernel_rfl) (by simp) ?_
        intro i hi
        simp only [List.mem_singleton] at hi
        subst hi
        have hk8 : (w7.setCell ⟨db, 1, none⟩ v7).heap[db]? = some (.cells #[.int .i64 ver, v7] 137 (0, 0)) := blk_set hk7 v7
        have ho8 : OwnC 147 26 (w7.setCell ⟨db, 1, none⟩ v7) (db + 1) v7 (setL LS i 25 ver ++ [lifeOf f ver]) := ho7.same (fun g hg => Below.heap_setCell _ _ _ _ (by have := (ho7.lt g hg).1; simp; omega))
        have hB8 := hB7.setCell (p := ⟨db, 1, none⟩) (Nat.le_refl _) v7
        refine t_skip 15 rfl rfl (w7.setCell ⟨db, 1, none⟩ v7) (run_st60 _ _ _ _ rfl db v7 rfl rfl ver hk7 _ ho7) ⟨(Below.heap_setCell _ _ _ _ (by simp; omega)).trans hf7, (dr_cells hk8).1⟩ ?_
        simp only [Act.put]
        refine wpAnyH_done (by kernel_rfl) ?_ _
        have HF := hide (And.intro (Dr.mk hk8 ho8) hB8)
        clear hk8 ho8 hB8 hB7 hS hS7 hf7 hk7 hr7 ho7 hg7 hA6 hS6 hC6 hO6 hK6 hB6 hD3 hB3 hC3
        go_wp2_with fail
        go_ret
        exact ⟨_, _, _, rfl, unhide HPR, (unhide HF).1, (unhide HF).2⟩
      . refine t_op 11 rfl rfl (.slice (some ⟨w5.heap.size, 0, none⟩) 1 1) _ (run_bs60 _ _ _ rfl (lifeOf f ver) rfl w5) hS6 ?_
        simp only [Act.put, qA, qB, qC]
        refine wpAnyH_all (rs := [4]) (by kernel_rfl) (by simp) ?_
        intro i hi
        simp only [List.mem_singleton] at hi
        subst hi
        refine t_op 4 rfl rfl lv (w5.alloc (.cells (cc 26 (lifeOf f ver)) 147)) (by simp [go_sem, hC6]) hS6 ?_
        simp only [Act.put, qA, qB, qC]
        obtain ⟨v7, w7, hr7, ho7, hg7⟩ := APP
        have hk7 : w7.heap[db]? = some (.cells #[.int .i64 ver, lv] 137 (0, 0)) := (hg7.block db (by simp; omega) (fun e => by have := (hO6.lt db e.symm).1; omega)).trans hK6
        have hf7 : w7.heap[w.heap.size]? = some (.cells (fc f) 66 (0, 0)) := (hg7.block w.heap.size (Array.getElem?_eq_some_iff.1 hS6.1).1 (fun e => unhide HAP e.symm)).trans hS6.1
        have hS7 : w7.heap[w.heap.size]? = some (.cells (fc f) 66 (0, 0)) /\ w7.cell? ⟨db, 0, none⟩ = some (.int .i64 ver) := ⟨hf7, (dr_cells hk7).1⟩
        have hB7 := hB6.grown hg7 (by simp; omega) (fun k hk => by have := (hO6.lt k hk).1; omega)
        refine wpAnyH_all (rs := [12]) (by kernel_rfl) (by simp) ?_
        intro i hi
        simp only [List.mem_singleton] at hi
        subst hi
        refine t_op 12 rfl rfl v7 w7 (ex_ap60 hr7 _ _ _ _ rfl rfl rfl rfl) hS7 ?_
        simp only [Act.put, qA, qB, qC]
        have hS := hS7
        refine t_tk 13 rfl (.pointer (some ⟨db, 0, none⟩)) (by kernel_rfl) (fun _ _ _ h => h) rfl (fun w' hw' => by simp [go_sem]) hS ?_
        simp only [Act.put, qA, qB, qC]
        refine t_tk 14 rfl (.pointer (some ⟨db, 1, none⟩)) (by kernel_rfl) (fun _ _ _ h => h) rfl (fun w' hw' => by simp [go_sem]) hS ?_
        simp only [Act.put, qA, qB, qC]
        refine wpAnyH_all (rs := [15]) (by kernel_rfl) (by simp) ?_
        intro i hi
        simp only [List.mem_singleton] at hi
        subst hi
        have hk8 : (w7.setCell ⟨db, 1, none⟩ v7).heap[db]? = some (.cells #[.int .i64 ver, v7] 137 (0, 0)) := blk_set hk7 v7
        have ho8 : OwnC 147 26 (w7.setCell ⟨db, 1, none⟩ v7) (db + 1) v7 (setL LS i 25 ver ++ [lifeOf f ver]) := ho7.same (fun g hg => Below.heap_setCell _ _ _ _ (by have := (ho7.lt g hg).1; simp; omega))
        have hB8 := hB7.setCell (p := ⟨db, 1, none⟩) (Nat.le_refl _) v7
        refine t_skip 15 rfl rfl (w7.setCell ⟨db, 1, none⟩ v7) (run_st60 _ _ _ _ rfl db v7 rfl rfl ver hk7 _ ho7) ⟨(Below.heap_setCell _ _ _ _ (by simp; omega)).trans hf7, (dr_cells hk8).1⟩ ?_
        simp only [Act.put]
        refine wpAnyH_done (by kernel_rfl) ?_ _
        have HF := hide (And.intro (Dr.mk hk8 ho8) hB8)
        clear hk8 ho8 hB8 hB7 hS hS7 hf7 hk7 hr7 ho7 hg7 hA6 hS6 hC6 hO6 hK6 hB6 hD3 hB3 hC3
        go_wp2_with fail
        go_ret
        exact ⟨_, _, _, rfl, unhide HPR, (unhide HF).1, (unhide HF).2⟩
theorem ec_F (e : Nat -> Int) {w : World} {b : Nat} (h : w.heap[b]? = some (.cells (cc 25 e) 100 (0, 0))) : w.rangeAt b 1 (fc fun j => e (1 + j)).toList := by
  intro j v hv
  have hj : j < 24 := by
    have := (List.getElem?_eq_some_iff.1 hv).1
    simpa [fc_size] using this
  have q : (fc fun j => e (1 + j))[j]? = some v := by simpa using hv
  rw [fc_at _ j hj] at q
  rw [blk_cells h, cc_at 25 e (1 + j) (by omega), q]
set_option maxHeartbeats 1600000 in
theorem edit_any (db : Nat) (ver : Int) (lv : Value) (LS : List (Nat -> Int)) (e : Nat -> Int) (w : World) (hd : Dr w db ver LS lv) (hl : LS.length <= 900) :
    Calls Tryz.prog 68 #[.pointer (some ⟨db, 0, none⟩), .agg (cc 25 e)] w fun en w' => ∃ r LS' lv', en = .returned (.int .i64 r) /\ EditR ver e LS r LS' /\ Dr w' db ver LS' lv' /\ Below db w w' := by
  have hg0 := heap_alloc_new w (.cells (cc 25 e) 100 (0, 0))
  have e0 := cc_at 25 e 0 (by decide)
  have e1 := cc_at 25 e 1 (by decide)
  have hrg := ec_F e hg0
  have hb := below_one w (.cells (cc 25 e) 100)
  have hdb := Nat.le_of_lt hd.lt
  have hd1 := hd.on hb
  have HB := hide (hb.mono hdb)
  have HD1 := hide hd1
  have PA := put_any db ver lv LS (fun j => e (1 + j)) _ hd1 hl
  obtain ⟨O, hO⟩ : ∃ O, e 0 = O := ⟨_, rfl⟩
  obtain ⟨I, hI⟩ : ∃ O, e 1 = O := ⟨_, rfl⟩
  rw [hO] at e0
  rw [hI] at e1
  have DA := drop_any db ver lv LS I _ hd1 hl
  clear hd hd1 hb
  by_cases h0 : O = 0
  . subst h0
    go_enter Tryz.func68, Tryz.ntmps68
    go_wp2_with (refine ldm26 rfl _ rfl w.heap.size 1 rfl _ hrg ?_)
    refine PA.mono ?_
    rintro en w1 ⟨r, LS', lv', rfl, hP, hD, hb1⟩
    have H := hide (And.intro hP (And.intro hD ((unhide HB).trans hb1)))
    clear hP hD hb1 DA
    go_wp2_with fail
    go_ret
    exact ⟨_, _, _, rfl, Or.inl ⟨hO, (unhide H).1⟩, (unhide H).2.1, (unhide H).2.2⟩
  . by_cases h1 : O = 1
    . subst h1
      go_enter Tryz.func68, Tryz.ntmps68
      go_wp2_with fail
      refine DA.mono ?_
      rintro en w1 ⟨r, LS', lv', rfl, hP, hD, hb1⟩
      have H := hide (And.intro hP (And.intro hD ((unhide HB).trans hb1)))
      clear hP hD hb1 PA
      go_wp2_with fail
      go_ret
      exact ⟨_, _, _, rfl, Or.inr (Or.inl ⟨hO, by rw [hI]; exact (unhide H).1⟩), (unhide H).2.1, (unhide H).2.2⟩
    . go_enter Tryz.func68, Tryz.ntmps68
      go_wp2_with fail
      go_ret
      exact ⟨_, _, _, rfl, Or.inr (Or.inr ⟨by rw [hO]; exact h0, by rw [hO]; exact h1, rfl, rfl⟩), unhide HD1, unhide HB⟩
def AppK (ver : Int) (es : Nat -> Nat -> Int) (LS : List (Nat -> Int)) : Nat -> List (Nat -> Int) -> Prop
  | 0, LS' => LS' = LS
  | k + 1, LS' => ∃ LSm, AppK ver es LS k LSm /\ EditR ver (es k) LSm 0 LS'
theorem AppK.len {ver : Int} {es : Nat -> Nat -> Int} {LS : List (Nat -> Int)} : ∀ {k : Nat} {LS' : List (Nat -> Int)}, AppK ver es LS k LS' -> LS'.length <= LS.length + k
  | 0, _, h => by rw [show _ = LS from h]; omega
  | k + 1, _, h => by
    obtain ⟨LSm, h1, h2⟩ := h
    have := h1.len
    have := h2.len
    omega
theorem sz56 (f : Nat -> Int) : (Tryz.prog.info? 100).map (·.size) = some (cc 25 f).size := by rw [cc_size]; kernel_rfl
theorem ldm56 {ops : Array Oper} {rest : List Oper} {o : Oper} {a : Act} {w : World} {Q : Exit -> Act -> World -> Prop} (hw : Region.wanted o (yielded ops a.tmps) = true) (x : Operand) (ho : o.op = .load 100 x)
    (b off : Nat) (hx : a.eval x = .pointer (some ⟨b, off, none⟩)) (f : Nat -> Int) (hc : w.rangeAt b off (cc 25 f).toList)
    (h : wpList Tryz.prog ops Q rest (a.put o.dst (.agg (cc 25 f))) w) : wpList Tryz.prog ops Q (o :: rest) a w := by
  unfold wpList
  rw [if_pos hw]
  exact Or.inl (wp_load_mid 100 x ho b off hx (cc 25 f).toList _ hc Tryz.underlying100 rfl (by rw [Array.length_toList]; exact sz56 f) h)
theorem run_ap60_nil (w : World) : (Builtin.append_ #[117, 117] 117 #[.slice none 0 0, .slice none 0 0]).run Tryz.prog w = .ok (.slice none 0 0) w := by kernel_rfl
theorem run_ap60s (w : World) (B : Nat) (sl : Value) (LS : List (Nat -> Int)) {Bs : Nat} (ho : OwnC 147 26 w Bs sl LS) (hl : LS.length <= 1000) (hB : B <= w.heap.size) :
    ∃ v' w', (Builtin.append_ #[117, 117] 117 #[.slice none 0 0, sl]).run Tryz.prog w = .ok v' w' /\ OwnC 147 26 w' B v' LS /\ w.grownBy w' none := by
  have h0 := ho
  rcases ho.2 with ⟨rfl, hn⟩ | ⟨g, cap, cur, rfl, _, hg, _⟩
  . obtain rfl : LS = [] := List.eq_nil_of_length_eq_zero hn
    exact ⟨_, _, run_ap60_nil w, ownC_nil _ _ _ _, World.grownBy.refl _ _⟩
  . obtain ⟨v', w', r1, r2, r3⟩ := run_ap60 w B (.slice none 0 0) [] LS (ownC_nil _ _ _ _) g 0 cap (fun i hi j hj => by
      have hlt : i * 26 + j < LS.length * 26 := by omega
      rw [Nat.zero_add, World.ownsRow.cellAt h0 (i * 26 + j) hlt, fl_at 26 LS i j hi hj]) (by simp; omega) hB
    exact ⟨v', w', r1, by simpa using r2, r3⟩
def ApR (sb : Nat) (keep ver : Int) (pv : Value) (LS : List (Nat -> Int)) (n : Nat) (es : Nat -> Nat -> Int) (w : World) (e : Ending) (w' : World) : Prop :=
  (n = 0 /\ e = .returned (.tuple #[.int .i64 0, .int .i64 8]) /\ Below w.heap.size w w') \/ (0 < n /\ 100 <= ver /\ e = .returned (.tuple #[.int .i64 0, .int .i64 11]) /\ Below w.heap.size w w') \/
  (0 < n /\ ver < 100 /\ ∃ k LSk, AppK (ver + 1) es LS k LSk /\
    ((k = n /\ e = .returned (.tuple #[.int .i64 (ver + 1), .int .i64 0]) /\ w.grownBy w' (some sb) /\ ∃ sl', w'.heap[sb]? = some (.cells #[.int .i64 keep, .int .i64 (ver + 1), sl', pv] 119 (0, 0)) /\ OwnC 147 26 w' w.heap.size sl' LSk) \/
     (k < n /\ ∃ r LS', EditR (ver + 1) (es k) LSk r LS' /\ r ≠ 0 /\ e = .returned (.tuple #[.int .i64 0, .int .i64 r]) /\ Below w.heap.size w w')))
set_option maxHeartbeats 6400000 in
theorem Apply_any (sb : Nat) (keep ver : Int) (sl pv : Value) (LS : List (Nat -> Int)) (v : Value) (n : Nat) (es : Nat -> Nat -> Int) (w : World) (hs : w.heap[sb]? = some (.cells #[.int .i64 keep, .int .i64 ver, sl, pv] 119 (0, 0)))
    (ho : OwnC 147 26 w (sb + 1) sl LS) (hl : LS.length <= 800) (hv : CsAt 25 w v n es) (hn : n <= 8) (hver : 0 <= ver /\ ver <= 100) :
    Calls Tryz.prog 26 #[.pointer (some ⟨sb, 0, none⟩), v] w fun e w' => ApR sb keep ver pv LS n es w e w' := by
  obtain ⟨oa, cap, rfl, _, hc⟩ := hv
  have HC := hide hc
  have hlt : sb < w.heap.size := (Array.getElem?_eq_some_iff.1 hs).1
  have s1 := (blk_cells hs 1).trans (show _ = some (Value.int .i64 ver) from rfl)
  have HS := hide hs
  have HO := hide ho
  clear hs ho hc
  by_cases h0 : n = 0
  . have H : ApR sb keep ver pv LS n es w (.returned (.tuple #[.int .i64 0, .int .i64 8])) w := Or.inl ⟨h0, rfl, Below.refl _ _⟩
    have HH := hide H
    subst h0
    clear H
    go_enter Tryz.func26, Tryz.ntmps26
    go_wp2_with fail
    go_ret2
    exact unhide HH
  . have h1 : ¬ (n : Int) < 1 := by omega
    have h8 : ¬ (8 : Int) < n := by omega
    by_cases h100 : 100 <= ver
    . have HH : Hid (ApR sb keep ver pv LS n es w (.returned (.tuple #[.int .i64 0, .int .i64 11])) w) := Or.inr (Or.inl ⟨by omega, h100, rfl, Below.refl _ _⟩)
      go_enter Tryz.func26, Tryz.ntmps26
      go_wp2_with fail
      go_ret2
      exact unhide HH
    . obtain ⟨V, hV⟩ : ∃ V, ver + 1 = V := ⟨_, rfl⟩
      have hVr : 1 <= V /\ V <= 100 := by omega
      have hw : IntKind.i64.wrap (ver + 1) = V := by rw [hV]; exact i64_in _ (by omega)
      have hw' : wrap64 (ver + 1) = V := by rw [hV]; exact IntWalk.wrap64_in _ ⟨by omega, by omega⟩
      have HVE := hide hV
      clear hV
      have hvl : ¬ (100 : Int) <= ver := by omega
      go_enter Tryz.func26, Tryz.ntmps26
      go_wp2_with fail
      have hA := heap_alloc_new w (.cells #[.int .i64 V, .slice none 0 0] 137 (0, 0))
      have hB := below_one w (.cells #[.int .i64 V, .slice none 0 0] 137)
      have hs2 := blk_on (unhide HS) hB
      have ho2 := (unhide HO).on hB
      refine wp_region_held (S := fun w' => w'.heap[sb]? = some (.cells #[.int .i64 keep, .int .i64 ver, sl, pv] 119 (0, 0))) (by kernel_rfl) ?_
      change wpAnyH _ _ _ _ _ _ _ _ (World.drew _)
      have hS : (World.drew (w.alloc (.cells #[.int .i64 V, .slice none 0 0] 137))).heap[sb]? = some (.cells #[.int .i64 keep, .int .i64 ver, sl, pv] 119 (0, 0)) := hs2
      have hk : (World.drew (w.alloc (.cells #[.int .i64 V, .slice none 0 0] 137))).heap[w.heap.size]? = some (.cells #[.int .i64 V, .slice none 0 0] 137 (0, 0)) := hA
      have ho3 : OwnC 147 26 (World.drew (w.alloc (.cells #[.int .i64 V, .slice none 0 0] 137))) (sb + 1) sl LS := ho2
      have hB3 : Below w.heap.size w (World.drew (w.alloc (.cells #[.int .i64 V, .slice none 0 0] 137))) := Below.drew hB
      have hz3 : (World.drew (w.alloc (.cells #[.int .i64 V, .slice none 0 0] 137))).heap.size = w.heap.size + 1 := by simp [World.drew]
      generalize World.drew (w.alloc (.cells #[.int .i64 V, .slice none 0 0] 137)) = w3 at hS hk ho3 hB3 hz3 ⊢
      clear hA hB hs2 ho2
      obtain ⟨k0, k1⟩ := dr_cells hk
      obtain ⟨v4, w4, hr4, ho4, hg4⟩ := run_ap60s w3 (w.heap.size + 1) sl LS ho3 (by omega) (by omega)
      have hS4 : w4.heap[sb]? = some (.cells #[.int .i64 keep, .int .i64 ver, sl, pv] 119 (0, 0)) := (hg4.block sb (by omega) (by simp)).trans hS
      have hk4 : w4.heap[w.heap.size]? = some (.cells #[.int .i64 V, .slice none 0 0] 137 (0, 0)) := (hg4.block w.heap.size (by omega) (by simp)).trans hk
      have hB4 := hB3.grown hg4 (by omega) (fun k hk => by cases hk)
      refine t_tk 0 rfl (.pointer (some ⟨w.heap.size, 1, none⟩)) (by kernel_rfl) (fun _ _ _ h => h) rfl (fun w' hw' => by simp [go_sem]) hS ?_
      simp only [Act.put, qA, qB, qC]
      refine t_tk 2 rfl (.pointer (some ⟨sb, 0, none⟩)) (by kernel_rfl) (fun _ _ _ h => h) rfl (fun w' hw' => by simp [go_sem]) hS ?_
      simp only [Act.put, qA, qB, qC]
      refine t_tk 3 rfl (.pointer (some ⟨sb, 0, none⟩)) (by kernel_rfl) (fun _ _ _ h => h) rfl (fun w' hw' => by simp [go_sem]) hS ?_
      simp only [Act.put, qA, qB, qC]
      refine t_tk 4 rfl (.pointer (some ⟨sb, 2, none⟩)) (by kernel_rfl) (fun _ _ _ h => h) rfl (fun w' hw' => by simp [go_sem]) hS ?_
      simp only [Act.put, qA, qB, qC]
      refine t_tk 5 rfl (sl) (by kernel_rfl) (fun _ _ _ h => h) rfl (fun w' hw' => by simp [go_sem, (blk_cells hw' 2).trans (show _ = some sl from rfl)]) hS ?_
      simp only [Act.put, qA, qB, qC]
      refine wpAnyH_all (rs := [1]) (by kernel_rfl) (by simp) ?_
      intro i hi
      simp only [List.mem_singleton] at hi
      subst hi
      refine t_op 1 rfl rfl (.slice none 0 0) w3 (by simp [go_sem, k1]) hS ?_
      simp only [Act.put, qA, qB, qC]
      refine wpAnyH_all (rs := [6]) (by kernel_rfl) (by simp) ?_
      intro i hi
      simp only [List.mem_singleton] at hi
      subst hi
      refine t_op 6 rfl rfl v4 w4 (ex_ap60 hr4 _ _ _ _ rfl rfl rfl rfl) hS4 ?_
      simp only [Act.put, qA, qB, qC]
      have hS := hS4
      refine t_tk 7 rfl (.pointer (some ⟨w.heap.size, 1, none⟩)) (by kernel_rfl) (fun _ _ _ h => h) rfl (fun w' hw' => by simp [go_sem]) hS ?_
      simp only [Act.put, qA, qB, qC]
      refine wpAnyH_all (rs := [8]) (by kernel_rfl) (by simp) ?_
      intro i hi
      simp only [List.mem_singleton] at hi
      subst hi
      have hS5 := (Below.heap_setCell w4 ⟨w.heap.size, 1, none⟩ v4 sb (by simp; omega)).trans hS4
      have hD5 : Dr (w4.setCell ⟨w.heap.size, 1, none⟩ v4) w.heap.size V LS v4 := ⟨blk_set hk4 v4, ho4.same (fun g hg => Below.heap_setCell _ _ _ _ (by have := (ho4.lt g hg).1; simp; omega))⟩
      have hB5 := hB4.setCell (p := ⟨w.heap.size, 1, none⟩) (Nat.le_refl _) v4
      refine t_skip 8 rfl rfl (w4.setCell ⟨w.heap.size, 1, none⟩ v4) (run_st60 _ _ _ _ rfl w.heap.size v4 rfl rfl V hk4 _ ho4) hS5 ?_
      simp only [Act.put]
      refine wpAnyH_done (by kernel_rfl) ?_ _
      have HD5 := hide hD5
      have HB5 := hide hB5
      clear hS hS4 hk4 hB4 hS5 hD5 hB5 hr4 ho4 hg4 hk k0 k1 ho3 hB3 hz3 hw hw' h1 h8 h100
      go_wp2_with fail
      go_loopw [7, 8] (fun i _ wr => ∃ (k : Nat) (LSk : List (Nat -> Int)) (lv : Value), k <= n /\ i = .int .i64 k /\ Hid (AppK V es LS k LSk) /\ Hid (Dr wr w.heap.size V LSk lv) /\ Below w.heap.size w wr) (fun i _ _ => n - (intOf i).toNat)
      case atStart => exact ⟨0, LS, v4, by omega, rfl, hide rfl, HD5, unhide HB5⟩
      case round =>
        obtain ⟨k, LSk, lv, hkn, rfl, hA, hD, hb⟩ := hrel
        clear s1
        by_cases hlk : k < n
        . have hk8 : (k : Int) < n := by omega
          obtain ⟨b, off, rfl, hbl, hc0⟩ := unhide HC (by omega)
          have hrg := cs_rng (fun i hi j hj => (hb.cell (p := ⟨b, off + i * 25 + j, none⟩) hbl).trans (hc0 i hi j hj)) hlk
          have EA := edit_any w.heap.size V lv LSk (es k) wr (unhide hD) (by have := (unhide hA).len; omega)
          have HBr := hide hb
          have HEA := hide EA
          clear hc0 hb EA
          go_wp2_with (refine ldm56 rfl _ rfl b (off + k * 25) rfl (es k) hrg ?_)
          refine (unhide HEA).mono ?_
          rintro en w6 ⟨r, LS6, lv6, rfl, hE, hD6, hb6⟩
          have HE := hide hE
          have HD6 := hide hD6
          have HB6 := hide ((unhide HBr).trans hb6)
          clear hE hD6 hb6 hrg HEA
          by_cases hr : r = 0
          . subst hr
            go_wp2_with fail
            go_roundw
            case rel => exact ⟨k + 1, LS6, lv6, by omega, by go_num, hide ⟨LSk, unhide hA, unhide HE⟩, HD6, unhide HB6⟩
            case measure => simp [intOf]; omega
          . have HH : Hid (ApR sb keep ver pv LS n es w (.returned (.tuple #[.int .i64 0, .int .i64 r])) w6) := Or.inr (Or.inr ⟨by omega, by omega, k, LSk, by rw [unhide HVE]; exact unhide hA, Or.inr ⟨hlk, r, LS6, by rw [unhide HVE]; exact unhide HE, hr, rfl, unhide HB6⟩⟩)
            go_wp2_with fail
            go_ret2
            exact unhide HH
        . have hkn : k = n := by omega
          subst hkn
          have hdk := (unhide hD).blk
          have hsr := (hb.block sb hlt).trans (unhide HS)
          obtain ⟨d0, d1⟩ := dr_cells hdk
          obtain ⟨oa2, n2, cap2, hlv⟩ : ∃ oa n cap, lv = .slice oa n cap := by
            rcases (unhide hD).own.2 with ⟨h, _⟩ | ⟨g, cap, cur, h, _⟩
            . exact ⟨_, _, _, h⟩
            . exact ⟨_, _, _, h⟩
          subst hlv
          have q1 := blk_set (i := 2) hsr (.slice oa2 n2 cap2)
          have q2 := blk_set (i := 1) q1 (.int .i64 V)
          have fz1 := frz_blk hsr
          have fz2 := frz_blk q1
          have ce1 := (blk_cells hsr 2).trans (show _ = some sl from rfl)
          have ce2 := (blk_cells q1 1).trans (show _ = some (Value.int .i64 ver) from rfl)
          have ce3 := (blk_cells q2 1).trans (show _ = some (Value.int .i64 V) from rfl)
          have d0' := (World.cell?_of_block (a := ⟨w.heap.size, 0, none⟩) (Below.heap_setCell wr ⟨sb, 2, none⟩ (.slice oa2 n2 cap2) w.heap.size (by simp; omega))).trans d0
          have hown : OwnC 147 26 ((wr.setCell ⟨sb, 2, none⟩ (.slice oa2 n2 cap2)).setCell ⟨sb, 1, none⟩ (.int .i64 V)) w.heap.size (.slice oa2 n2 cap2) LSk := ((unhide hD).own.same (fun g hg => (Below.heap_setCell _ _ _ _ (by have := ((unhide hD).own.lt g hg).1; simp; omega)).trans (Below.heap_setCell _ _ _ _ (by have := ((unhide hD).own.lt g hg).1; simp; omega)))).mono (by omega)
          have HH : Hid (ApR sb keep ver pv LS k es w (.returned (.tuple #[.int .i64 V, .int .i64 0])) ((wr.setCell ⟨sb, 2, none⟩ (.slice oa2 n2 cap2)).setCell ⟨sb, 1, none⟩ (.int .i64 V))) := Or.inr (Or.inr ⟨by omega, by omega, k, LSk, by rw [unhide HVE]; exact unhide hA, Or.inl ⟨rfl, by rw [unhide HVE], ⟨hb.os, hb.tape, hb.output, by simpa [World.setCell] using hb.size, fun q hq hne => (Below.heap_setCell _ _ _ _ (fun e => hne (by rw [e]))).trans ((Below.heap_setCell _ _ _ _ (fun e => hne (by rw [e]))).trans (hb.block q hq))⟩, _, by rw [unhide HVE]; exact q2, hown⟩⟩)
          clear hb hdk hsr hown q1 q2
          go_wp2_with fail
          go_ret2
          exact unhide HH
def eF (e : Nat -> Int) : Nat -> Int := fun j => e (1 + j)
end Go.Proofs.YtpabpniaekldeaaGreatDoor
