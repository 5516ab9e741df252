/-
  The texts FrA, FrB, FrM, FrI, Leaf, LeafB, LeafC, LeafE, FaA, LeafF, LeafG, LeafH, LeafJ, LeafK, InkA, InkB, Own, InkC, FaG, FaB, FaC, InkD, MakeA.
-/
import Derived.Test.YtpopchckldbhdaaGreatDoorRows
import Derived.Deep.MidRow
import Derived.WalkSmall
import Derived.Laws.AppendOwn
import Derived.WalkKit
import Derived.WalkSpells
import Derived.WalkLawsBesides
import Derived.Deep.QuietTactic
import Derived.BigQuiet
import Derived.Deep.DeepCutAuto
import Derived.Laws.StructEq
import Derived.Laws.BytesArg
import Derived.Laws.IdiomStrings
import Derived.OrdersHeld
namespace Go.Proofs.YtpopchckldbhdaaGreatDoor
open Go.RowKit
structure Row (α : Type) where
  wid : Nat
  enc : α -> List Value
  len : ∀ a,(enc a).length = wid
  one : ∀ a,∀ v ∈ enc a,v.oneCell' = true
  pos : 0 < wid
section
variable {α : Type} (R : Row α)
def Row.all (l : List α) : List Value := l.flatMap R.enc
theorem Row.all_nil : R.all [] = [] := rfl
theorem Row.all_cons (a : α) (l : List α) : R.all (a :: l) = R.enc a ++ R.all l := rfl
theorem Row.all_app (l l' : List α) : R.all (l ++ l') = R.all l ++ R.all l' := by simp [Row.all]
theorem Row.all_len : ∀ l : List α,(R.all l).length = l.length * R.wid
  | [] => by simp [Row.all]
  | a :: l => by rw [Row.all_cons,List.length_append,Row.all_len l,R.len,List.length_cons,Nat.succ_mul]; omega
theorem Row.all_at : ∀ (l : List α) (i : Nat) (a : α) (j : Nat),l[i]? = some a -> j < R.wid -> (R.all l)[i * R.wid + j]? = (R.enc a)[j]?
  | [],i,a,_,h,_ => by simp at h
  | b :: l,0,a,j,h,hj => by
    simp only [List.getElem?_cons_zero,Option.some.injEq] at h
    subst h
    rw [Row.all_cons,List.getElem?_append_left (by rw [R.len]; omega),Nat.zero_mul,Nat.zero_add]
  | b :: l,i + 1,a,j,h,hj => by
    rw [Row.all_cons,List.getElem?_append_right (by rw [R.len,Nat.succ_mul]; omega),R.len,show (i + 1) * R.wid + j - R.wid = i * R.wid + j by rw [Nat.succ_mul]; omega]
    exact Row.all_at l i a j (by simpa using h) hj
theorem Row.all_one (l : List α) : ∀ v ∈ R.all l,v.oneCell' = true := by
  intro v hv
  simp only [Row.all,List.mem_flatMap] at hv
  obtain ⟨a,_,ha⟩ := hv
  exact R.one a v ha
def OwnR (T : TypeId) (w : World) (v : Value) (l : List α) : Prop :=
  (v = .slice none 0 0 /\ l = []) \/
  ∃ g off cap cur,v = .slice (some ⟨g,off,none⟩) l.length cap /\ w.heap[g]? = some (.cells cur T (0,0)) /\ l.length <= cap /\ cap <= maxLen /\ off + cap * R.wid <= cur.size /\ (cur.toList.drop off).take (l.length * R.wid) = R.all l
def AtR (w : World) (v : Value) (l : List α) : Prop :=
  ∃ oa cap,v = .slice oa l.length cap /\ l.length <= cap /\ l.length <= maxLen /\ (0 < l.length -> ∃ b off,oa = some ⟨b,off,none⟩ /\ b < w.heap.size /\ ∀ i a,l[i]? = some a -> w.rangeAt b (off + i * R.wid) (R.enc a))
end
section
variable {α : Type} {R : Row α} {T : TypeId} {w w' : World} {v : Value} {l : List α}
theorem ownR_nil : OwnR R T w (.slice none 0 0) [] := Or.inl ⟨rfl,rfl⟩
theorem OwnR.same (h : OwnR R T w v l) (hg : ∀ g,v.ownBlock = some g -> w'.heap[g]? = w.heap[g]?) : OwnR R T w' v l := by
  rcases h with h | ⟨g,off,cap,cur,hv,hh,r⟩
  . exact Or.inl h
  . exact Or.inr ⟨g,off,cap,cur,hv,(hg g (by rw [hv]; rfl)).trans hh,r⟩
theorem OwnR.lt (h : OwnR R T w v l) {g : Nat} (hg : v.ownBlock = some g) : g < w.heap.size := by
  rcases h with ⟨rfl,_⟩ | ⟨g',off,cap,cur,rfl,hh,r⟩
  . simp [Value.ownBlock] at hg
  . simp only [Value.ownBlock,Option.some.injEq] at hg
    subst hg
    exact (Array.getElem?_eq_some_iff.1 hh).1
theorem OwnR.on (h : OwnR R T w v l) (hb : Below w.heap.size w w') : OwnR R T w' v l := h.same fun g hg => hb.block g (h.lt hg)
theorem OwnR.ty (h : OwnR R T w v l) {g : Nat} (hg : v.ownBlock = some g) : ∃ cur,w.heap[g]? = some (.cells cur T (0,0)) := by
  rcases h with ⟨rfl,_⟩ | ⟨g',off,cap,cur,rfl,hh,r⟩
  . simp [Value.ownBlock] at hg
  . simp only [Value.ownBlock,Option.some.injEq] at hg
    subst hg; exact ⟨cur,hh⟩
theorem OwnR.cellAt {g off n cap : Nat} (h : OwnR R T w (.slice (some ⟨g,off,none⟩) n cap) l) (k : Nat) (hk : k < l.length * R.wid) : w.cell? ⟨g,off + k,none⟩ = (R.all l)[k]? := by
  rcases h with ⟨e,_⟩ | ⟨g',off',cap',cur,e,hh,h1,h2,h3,h4⟩
  . cases e
  . cases e
    have hs : off + k < cur.size := by
      have := Nat.mul_le_mul_right R.wid h1
      omega
    have : w.cell? ⟨g,off + k,none⟩ = cur[off + k]? := by simp [World.cell?,hh]
    rw [this,<- h4,List.getElem?_take_of_lt hk,List.getElem?_drop,Array.getElem?_toList]
theorem OwnR.len_le (h : OwnR R T w v l) : l.length <= maxLen := by
  rcases h with ⟨_,rfl⟩ | ⟨g',off',cap',cur,e,hh,h1,h2,h3,h4⟩
  . exact Nat.zero_le _
  . omega
theorem OwnR.at (h : OwnR R T w v l) : AtR R w v l := by
  have h0 := h
  rcases h with ⟨rfl,rfl⟩ | ⟨g,off,cap,cur,rfl,hh,h1,h2,h3,h4⟩
  . exact ⟨none,0,rfl,Nat.zero_le _,Nat.zero_le _,fun h => absurd h (by simp)⟩
  . refine ⟨_,cap,rfl,h1,by omega,fun _ => ⟨g,off,rfl,(Array.getElem?_eq_some_iff.1 hh).1,fun i a hi j x hx => ?_⟩⟩
    have hj : j < R.wid := by rw [<- R.len a]; exact (List.getElem?_eq_some_iff.1 hx).1
    have hi' : i < l.length := (List.getElem?_eq_some_iff.1 hi).1
    have hlt : i * R.wid + j < l.length * R.wid := by
      have : (i + 1) * R.wid <= l.length * R.wid := Nat.mul_le_mul_right _ hi'
      rw [Nat.succ_mul] at this
      omega
    rw [Nat.add_assoc,h0.cellAt _ hlt,R.all_at l i a j hi hj,hx]
theorem AtR.on (h : AtR R w v l) (hb : Below w.heap.size w w') : AtR R w' v l := by
  obtain ⟨oa,cap,e,h1,h2,h3⟩ := h
  refine ⟨oa,cap,e,h1,h2,fun hn => ?_⟩
  obtain ⟨b,off,e',hlt,hc⟩ := h3 hn
  exact ⟨b,off,e',Nat.lt_of_lt_of_le hlt hb.size,fun i a hi j x hx => (hb.cell (p := ⟨b,off + i * R.wid + j,none⟩) hlt).trans (hc i a hi j x hx)⟩
theorem ownR_lit (w : World) (l : List α) (cs : Array Value) (hc : cs.toList = R.all l) (hl : l.length <= maxLen) : OwnR R T (w.alloc (.cells cs T)) (.slice (some ⟨w.heap.size,0,none⟩) l.length l.length) l := by
  refine Or.inr ⟨w.heap.size,0,l.length,cs,rfl,heap_alloc_new w _,Nat.le_refl _,hl,?_,?_⟩
  . rw [<- Array.length_toList,hc,R.all_len]; omega
  . rw [hc,List.drop_zero,<- R.all_len l,List.take_length]
theorem OwnR.tail {g off cap : Nat} {a : α} (h : OwnR R T w (.slice (some ⟨g,off,none⟩) (a :: l).length cap) (a :: l)) : OwnR R T w (.slice (some ⟨g,off + R.wid,none⟩) l.length (cap - 1)) l := by
  rcases h with ⟨e,_⟩ | ⟨g',off',cap',cur,e,hh,h1,h2,h3,h4⟩
  . cases e
  . cases e
    simp only [List.length_cons] at h1
    refine Or.inr ⟨g,off + R.wid,cap - 1,cur,rfl,hh,by omega,by omega,?_,?_⟩
    . obtain ⟨c,rfl⟩ : ∃ c,cap = c + 1 := ⟨cap - 1,by omega⟩
      rw [Nat.succ_mul] at h3
      rw [Nat.add_sub_cancel]; omega
    . have := congrArg (List.drop R.wid) h4
      rw [R.all_cons,List.drop_left' (R.len a),List.drop_take,List.drop_drop,List.length_cons,Nat.succ_mul,Nat.add_sub_cancel] at this
      exact this
theorem OwnR.tail0 {g off : Nat} {a : α} (h : OwnR R T w (.slice (some ⟨g,off,none⟩) (a :: l).length 1) (a :: l)) : l = [] /\ OwnR R T w (.slice (some ⟨g,off,none⟩) 0 0) [] := by
  rcases h with ⟨e,_⟩ | ⟨g',off',cap',cur,e,hh,h1,h2,h3,h4⟩
  . cases e
  . cases e
    simp only [List.length_cons] at h1
    exact ⟨List.eq_nil_of_length_eq_zero (by omega),Or.inr ⟨g,off,0,cur,rfl,hh,Nat.le_refl _,Nat.zero_le _,by omega,by simp [Row.all]⟩⟩
theorem OwnR.set1 {g off n cap : Nat} (h : OwnR R T w (.slice (some ⟨g,off,none⟩) n cap) l) (h1 : R.wid = 1) (i : Nat) (hi : i < l.length) (a : α) (x : Value) (hx : R.enc a = [x]) :
    OwnR R T (w.setCell ⟨g,off + i,none⟩ x) (.slice (some ⟨g,off,none⟩) n cap) (l.set i a) := by
  rcases h with ⟨e,_⟩ | ⟨g',off',cap',cur,e,hh,h2,h3,h4,h5⟩
  . cases e
  . cases e
    have hblk : (w.setCell ⟨g,off + i,none⟩ x).heap[g]? = some (.cells (cur.setIfInBounds (off + i) x) T (0,0)) := by
      simp [World.setCell,Array.getElem?_modify,hh]
    have hall : ∀ (l : List α) (i : Nat),i < l.length -> R.all (l.set i a) = (R.all l).set i x := by
      intro l
      induction l with
      | nil => intro i hi; simp at hi
      | cons b l ih =>
        intro i hi
        obtain ⟨y,hy⟩ : ∃ y,R.enc b = [y] := by
          have := R.len b
          rw [h1] at this
          exact List.length_eq_one_iff.1 this
        cases i with
        | zero => rw [List.set_cons_zero,R.all_cons,R.all_cons,hx,hy]; rfl
        | succ i => rw [List.set_cons_succ,R.all_cons,R.all_cons,hy,ih i (by simpa using hi)]; rfl
    refine Or.inr ⟨g,off,cap,cur.setIfInBounds (off + i) x,by rw [List.length_set],hblk,by rw [List.length_set]; exact h2,h3,by rw [Array.size_setIfInBounds]; exact h4,?_⟩
    rw [List.length_set,hall l i hi,<- h5,Array.toList_setIfInBounds,List.drop_set,if_neg (by omega),Nat.add_sub_cancel_left,List.take_set]
theorem AtR.one_of (a : α) {b off c : Nat} (hc : 1 <= c) (hlt : b < w.heap.size) (hr : w.rangeAt b off (R.enc a)) : AtR R w (.slice (some ⟨b,off,none⟩) 1 c) [a] :=
  ⟨_,c,rfl,hc,by simp [maxLen],fun _ => ⟨b,off,rfl,hlt,fun i x hi => by
    cases i with
    | zero => simp at hi; subst hi; simpa using hr
    | succ i => simp at hi⟩⟩
theorem AtR.cells {b off c : Nat} (h : AtR R w (.slice (some ⟨b,off,none⟩) l.length c) l) : ∀ j u,(R.all l)[j]? = some u -> w.cell? ((⟨b,off,none⟩ : Addr).add j) = some u := by
  intro j u hj
  obtain ⟨oa,cap,e,h1,h2,h3⟩ := h
  have hlt : j < l.length * R.wid := by rw [<- R.all_len]; exact (List.getElem?_eq_some_iff.1 hj).1
  have hp := R.pos
  have hn : 0 < l.length := Nat.pos_of_ne_zero fun h => by rw [h] at hlt; omega
  obtain ⟨b',off',e',_,hc⟩ := h3 hn
  cases e
  cases e'
  have q1 : j / R.wid < l.length := (Nat.div_lt_iff_lt_mul hp).2 hlt
  have q2 : j % R.wid < R.wid := Nat.mod_lt _ hp
  have e : j / R.wid * R.wid + j % R.wid = j := Nat.div_add_mod' j R.wid
  have hi : l[j / R.wid]? = some l[j / R.wid] := List.getElem?_eq_getElem q1
  rw [Addr.add_mid,<- e,<- Nat.add_assoc]
  rw [<- e,R.all_at l _ _ _ hi q2] at hj
  exact hc _ _ hi _ _ hj
theorem OwnR.append {P : Program} (t ty : TypeId) (i : TypeInfo) (z : Value) (bytes : Nat) (ht : P.underlying t = some (.slice T)) (hi : P.info? T = some i) (hz : i.zero = some z) (hsize : i.size = R.wid) (hby : i.bytes = bytes) (hzs : z.cells.size = R.wid)
    (hown : OwnR R T w v l) (news : List α) (x : Value) (hx : AtR R w x news) (hlen : l.length + news.length <= maxLen) (hb : (l.length + news.length) * bytes <= 140737488355328) :
    ∃ v' w',(Builtin.append_ #[t,t] ty #[v,x]).run P w = .ok v' w' /\ OwnR R T w' v' (l ++ news) /\ w.grownBy w' v.ownBlock /\ (v'.ownBlock = v.ownBlock \/ ∀ g,v'.ownBlock = some g -> w.heap.size <= g) := by
  have hp := R.pos
  have hsmall : l.length + news.length <= 9223372036854775807 := by simp only [maxLen] at hlen; omega
  have hx0 := hx
  obtain ⟨oa,c,rfl,hc,hm,hr⟩ := hx
  by_cases hn : news.length = 0
  . obtain rfl : news = [] := List.eq_nil_of_length_eq_zero hn
    refine ⟨v,w,?_,by simpa using hown,⟨rfl,rfl,rfl,Nat.le_refl _,fun _ _ _ => rfl⟩,Or.inl rfl⟩
    rcases hown with ⟨rfl,rfl⟩ | ⟨g,off,cap,cur,rfl,hh,h1,h2,h3,h4⟩
    . cases oa <;> simp [Builtin.append_,run_underlying ht,sizeOf,typeInfo,hi,Builtin.lenOf,Builtin.firstCells,loadCells,loadCellsFrom]
    . cases oa <;> simp [Builtin.append_,run_underlying ht,sizeOf,typeInfo,hi,Builtin.lenOf,Builtin.firstCells,loadCells,loadCellsFrom,h1,storeCells]
  . obtain ⟨b,o,rfl,hlt,_⟩ := hr (by omega)
    have hcells := hx0.cells
    have grown : ∀ (old : Nat),old < l.length + news.length -> ∀ (row : Option Nat),
        OwnR R T (w.drew.alloc (.cells ((R.all l).toArray ++ (R.all news).toArray ++ Builtin.zeroCells z.cells (grownCap w (l.length + news.length) old T - (l.length + news.length))) T))
          (.slice (some ⟨w.heap.size,0,none⟩) (l.length + news.length) (grownCap w (l.length + news.length) old T)) (l ++ news) /\
        w.grownBy (w.drew.alloc (.cells ((R.all l).toArray ++ (R.all news).toArray ++ Builtin.zeroCells z.cells (grownCap w (l.length + news.length) old T - (l.length + news.length))) T)) row := by
      intro old ho row
      have hge := grownCap_ge w (l.length + news.length) old T
      have hcm : grownCap w (l.length + news.length) old T <= maxLen := grownCap_le_maxLen w (l.length + news.length) old T hlen
      refine ⟨Or.inr ⟨w.heap.size,0,_,_,by rw [List.length_append],heap_alloc_new w.drew _,by rw [List.length_append]; exact hge,hcm,?_,?_⟩,⟨rfl,rfl,rfl,by simp,fun k hk _ => heap_alloc_old w.drew _ hk⟩⟩
      . simp only [Array.size_append,List.size_toArray,size_zeroCells,hzs,R.all_len,<- Nat.add_mul]
        rw [Nat.zero_add]
        exact Nat.mul_le_mul_right _ (by omega)
      . rw [List.drop_zero,Array.toList_append,Array.toList_append,R.all_app,List.length_append]
        rw [show (l.length + news.length) * R.wid = (R.all l ++ R.all news).length by rw [List.length_append,R.all_len,R.all_len,Nat.add_mul]]
        exact List.take_left
    rcases hown with ⟨rfl,rfl⟩ | ⟨g,off,cap,cur,rfl,hh,h1,h2,h3,h4⟩
    . have hr := run_append_nil (P := P) w t ty T i z ht hi hz ⟨b,o,none⟩ news.length c (R.all news) (by rw [R.all_len,hsize]) hcells (by omega) (by simp at hsmall; omega) (by rw [hby]; simp at hb; omega)
      have hgr := grown 0 (by omega) (Value.ownBlock (.slice none 0 0))
      simp only [List.length_nil,Nat.zero_add,Row.all_nil,List.nil_append,Array.empty_append] at hgr ⊢
      exact ⟨_,_,hr,hgr.1,hgr.2,Or.inr fun g hg => by simp [Value.ownBlock] at hg; omega⟩
    . by_cases hroom : l.length + news.length <= cap
      . have hfit : off + l.length * R.wid + (R.all news).length <= cur.size := by
          have := Nat.mul_le_mul_right R.wid hroom
          rw [Nat.add_mul] at this
          rw [R.all_len]
          omega
        have hf := run_firstCells_some (P := P) w i.size news.length ⟨b,o,none⟩ news.length c (R.all news) (by rw [R.all_len,hsize]) hcells
        have hst := run_storeCells_at P g (off + l.length * R.wid) T (R.all news) 0 cur w hh (by simpa using hfit) (R.all_one news)
        simp only [Nat.add_zero] at hst
        refine ⟨.slice (some ⟨g,off,none⟩) (l.length + news.length) cap,w.setRow g (cur.toList.take (off + l.length * R.wid) ++ R.all news ++ cur.toList.drop (off + l.length * R.wid + (R.all news).length)).toArray,?_,Or.inr ⟨g,off,cap,_,by rw [List.length_append],setRow_heap w g cur _ T _ hh,by rw [List.length_append]; exact hroom,h2,?_,?_⟩,⟨rfl,rfl,rfl,?_,fun k _ hk => setRow_other w g k _ (fun e => hk (by simp [Value.ownBlock,e]))⟩,Or.inl rfl⟩
        . simp [Builtin.append_,run_underlying ht,sizeOf,typeInfo,hi,Builtin.lenOf,hroom,Addr.add_mid,hsize ▸ hf,hsize,hst]
        . simp only [List.size_toArray,List.length_append,List.length_take,List.length_drop,Array.length_toList]
          omega
        . have hcut : (cur.toList.take (off + l.length * R.wid)).drop off = R.all l := by
            rw [List.drop_take,Nat.add_sub_cancel_left]; exact h4
          have hle : off <= (cur.toList.take (off + l.length * R.wid)).length := by
            have : off <= cur.size := by omega
            rw [List.length_take,Array.length_toList]; exact Nat.le_min.2 ⟨Nat.le_add_right _ _,this⟩
          rw [List.append_assoc,List.drop_append_of_le_length hle,hcut,<- List.append_assoc,R.all_app,List.length_append,show (l.length + news.length) * R.wid = (R.all l ++ R.all news).length by rw [List.length_append,R.all_len,R.all_len,Nat.add_mul]]
          exact List.take_left
        . simp [World.setRow]
      . have holds : ∀ j u,(R.all l)[j]? = some u -> w.cell? ((⟨g,off,none⟩ : Addr).add j) = some u := AtR.cells (OwnR.at (Or.inr ⟨g,off,cap,cur,rfl,hh,h1,h2,h3,h4⟩))
        have hr := run_append_grow (P := P) w t ty T i z ht hi hz ⟨g,off,none⟩ l.length cap (R.all l) (by rw [R.all_len,hsize]) holds ⟨b,o,none⟩ news.length c (R.all news) (by rw [R.all_len,hsize]) hcells (by omega) (by omega) (by rw [hby]; exact growslice_fits (by omega) hb)
        have hgr := grown cap (by omega) (Value.ownBlock (.slice (some ⟨g,off,none⟩) l.length cap))
        exact ⟨_,_,hr,hgr.1,hgr.2,Or.inr fun g' hg => by simp [Value.ownBlock] at hg; omega⟩
end
structure K4 where
  l : Int
  z : Int
  x : Int
  y : Int
deriving DecidableEq
def K4.a (k : K4) : Array Value := #[.int .i64 k.l,.int .i64 k.z,.int .i64 k.x,.int .i64 k.y]
def rKey : Row K4 := ⟨4,fun k => k.a.toList,fun _ => rfl,fun k v hv => by simp [K4.a] at hv; rcases hv with rfl | rfl | rfl | rfl <;> rfl,by decide⟩
structure Req where
  who : Int
  k : K4
  asked : Int
  due : Int
def Req.a (r : Req) : Array Value := #[.int .i64 r.who,.int .i64 r.k.l,.int .i64 r.k.z,.int .i64 r.k.x,.int .i64 r.k.y,.int .i64 r.asked,.int .i64 r.due]
def rReq : Row Req := ⟨7,fun r => r.a.toList,fun _ => rfl,fun k v hv => by simp [Req.a] at hv; rcases hv with rfl | rfl | rfl | rfl | rfl | rfl | rfl <;> rfl,by decide⟩
structure Tile where
  k : K4
  body : ByteArray
  tag : ByteArray
def Tile.a (t : Tile) : Array Value := #[.int .i64 t.k.l,.int .i64 t.k.z,.int .i64 t.k.x,.int .i64 t.k.y,.string t.body,.string t.tag]
def rTile : Row Tile := ⟨6,fun r => r.a.toList,fun _ => rfl,fun k v hv => by simp [Tile.a] at hv; rcases hv with rfl | rfl | rfl | rfl | rfl | rfl <;> rfl,by decide⟩
structure Rep where
  who : Int
  st : Int
  body : ByteArray
  tag : ByteArray
def Rep.a (t : Rep) : Array Value := #[.int .i64 t.who,.int .i64 t.st,.string t.body,.string t.tag]
def rRep : Row Rep := ⟨4,fun r => r.a.toList,fun _ => rfl,fun k v hv => by simp [Rep.a] at hv; rcases hv with rfl | rfl | rfl | rfl <;> rfl,by decide⟩
structure Ask where
  tag : ByteArray
  k : K4
  e : Int
  ver : Int
  now : Int
  waiting : Int
  said : Int
def Ask.a (t : Ask) : Array Value := #[.string t.tag,.int .i64 t.k.l,.int .i64 t.k.z,.int .i64 t.k.x,.int .i64 t.k.y,.int .i64 t.e,.int .i64 t.ver,.int .i64 t.now,.int .i64 t.waiting,.int .i64 t.said]
def rAsk : Row Ask := ⟨10,fun r => r.a.toList,fun _ => rfl,fun k v hv => by simp [Ask.a] at hv; rcases hv with rfl | rfl | rfl | rfl | rfl | rfl | rfl | rfl | rfl | rfl <;> rfl,by decide⟩
structure Say where
  r : Rep
  ver : Int
  now : Int
  by_ : Int
def Say.a (t : Say) : Array Value := #[.int .i64 t.r.who,.int .i64 t.r.st,.string t.r.body,.string t.r.tag,.int .i64 t.ver,.int .i64 t.now,.int .i64 t.by_]
def rSay : Row Say := ⟨7,fun r => r.a.toList,fun _ => rfl,fun k v hv => by simp [Say.a] at hv; rcases hv with rfl | rfl | rfl | rfl | rfl | rfl | rfl <;> rfl,by decide⟩
def ptr (o : Option Nat) : Value := .pointer (o.map fun b => ⟨b,0,none⟩)
def rPtr : Row (Option Nat) := ⟨1,fun o => [ptr o],fun _ => rfl,fun o v hv => by simp at hv; subst hv; rfl,by decide⟩
structure Sli where
  at_ : Option Addr
  n : Nat
  cap : Nat
def Sli.v (s : Sli) : Value := .slice s.at_ s.n s.cap
def rSli : Row Sli := ⟨1,fun s => [s.v],fun _ => rfl,fun o v hv => by simp at hv; subst hv; rfl,by decide⟩
end Go.Proofs.YtpopchckldbhdaaGreatDoor
namespace Go.Proofs.YtpopchckldbhdaaGreatDoor
abbrev Ft := Nat -> Int
structure Ora where
  stamp : List Ft -> Int -> K4 -> Int
  body : List Ft -> K4 -> ByteArray
  tag : K4 -> Int -> ByteArray
structure Fl where
  b : K4
  reads : Nat
  left : Nat
  got : Nat
structure FM where
  queue : Nat
  wait : Nat
  chunk : Nat
  room : Nat
  now : Nat
  arrived : Nat
  started : Nat
  ver : Nat
  LS : List Ft
  FLs : Nat -> List Ft
  PI : List Int
  waiting : List Req
  line : List K4
  wks : List (Option Fl)
  tiles : List Tile
def K4.blk (k : K4) : K4 := ⟨k.l,k.z,k.x - k.x % 2,k.y - k.y % 2⟩
def K4.keys (b : K4) : List K4 := if b.z = 0 then [b] else [b,⟨b.l,b.z,b.x + 1,b.y⟩,⟨b.l,b.z,b.x,b.y + 1⟩,⟨b.l,b.z,b.x + 1,b.y + 1⟩]
def findT (ts : List Tile) (k : K4) : Option Tile := ts.find? fun t => decide (t.k = k)
def outT (ts : List Tile) (k : K4) : List Tile := ts.filter fun t => decide (t.k ≠ k)
def bytesT : List Tile -> Nat
  | [] => 0
  | t :: ts => t.body.size + bytesT ts
theorem outT_len (ts : List Tile) (k : K4) : (outT ts k).length <= ts.length := List.length_filter_le _ _
def evict (room n : Nat) : List Tile -> List Tile
  | [] => []
  | t :: ts => if room < bytesT (t :: ts) + n then evict room n (outT ts t.k) else t :: ts
termination_by ts => ts.length
decreasing_by have := outT_len ts t.k; simp only [List.length_cons]; omega
def layT (room : Nat) (ts : List Tile) (t : Tile) : List Tile := if room < t.body.size then ts else evict room t.body.size (outT ts t.k) ++ [t]
def countFor (ws : List Req) (b : K4) : Nat := ws.countP fun r => decide (r.k.blk = b)
def nsteps (n chunk : Nat) : Nat := if n = 0 then 1 else (n + chunk - 1) / chunk
section
variable (O : Ora)
def FM.stamp (F : FM) (v : Int) (k : K4) : Int := O.stamp F.LS v k
def FM.same (F : FM) (k : K4) (reads : Int) : Bool := decide (F.stamp O F.ver k <= reads)
def FM.tileOf (F : FM) (reads : Nat) (k : K4) : Tile := ⟨k,O.body (F.FLs reads) k,O.tag k (F.stamp O reads k)⟩
def FM.tilesOf (F : FM) (fl : Fl) : List Tile := fl.b.keys.map (F.tileOf O fl.reads)
def FM.good (F : FM) (ts : List Tile) (reads : Int) (r : Req) : Option Tile :=
  match findT ts r.k with
  | some t => if decide (r.asked <= reads) || F.same O r.k reads then some t else none
  | none => none
def FM.fineR (F : FM) (ts : List Tile) (reads : Int) : List Rep := F.waiting.filterMap fun r => (F.good O ts reads r).map fun t => ⟨r.who,200,t.body,t.tag⟩
def FM.fineL (F : FM) (ts : List Tile) (reads : Int) : List Req := F.waiting.filter fun r => (F.good O ts reads r).isNone
def FM.layU (F : FM) (reads : Int) (cs : List Tile) (ts : List Tile) : List Tile := ts.foldl (fun c t => if F.same O t.k reads then layT F.room c t else c) cs
def FM.hasFl (F : FM) (b : K4) : Bool := F.line.any (fun k => decide (k = b)) || F.wks.any fun o => match o with
  | some fl => decide (fl.b = b)
  | none => false
def FM.join (F : FM) (who : Int) (k : K4) : FM := { F with waiting := F.waiting ++ [⟨who,k,F.ver,F.now + F.wait⟩],line := if F.hasFl k.blk then F.line else F.line ++ [k.blk] }
def FM.arriveK (F : FM) (k : K4) (tag : ByteArray) : FM × List Rep :=
  let F1 := { F with arrived := F.arrived + 1 }
  let pt := O.tag k (F.stamp O F.ver k)
  if tag = pt then (F1,[⟨F.arrived,304,⟨#[]⟩,pt⟩])
  else match findT F.tiles k with
    | some t => ({ F1 with tiles := outT F.tiles t.k ++ [t] },[⟨F.arrived,200,t.body,t.tag⟩])
    | none => if F.queue <= F.waiting.length then (F1,[⟨F.arrived,503,⟨#[]⟩,⟨#[]⟩⟩]) else (F1.join F.arrived k,[])
def FM.arriveE (F : FM) (e : Int) : FM × List Rep := ({ F with arrived := F.arrived + 1 },[⟨F.arrived,if e = 1 then 400 else 404,⟨#[]⟩,⟨#[]⟩⟩])
def FM.takeW (F : FM) (i : Nat) : FM :=
  match F.line with
  | [] => F
  | b :: rest => { F with line := rest,started := F.started + 1,PI := F.PI ++ [(F.ver : Int)],wks := F.wks.set i (some ⟨b,F.ver,nsteps (F.FLs F.ver).length F.chunk,0⟩) }
def FM.finishW (F : FM) (i : Nat) (fl : Fl) : FM × List Rep :=
  let ts := F.tilesOf O fl
  let left := F.fineL O ts fl.reads
  ({ F with wks := F.wks.set i none,PI := F.PI.erase fl.reads,waiting := left,tiles := F.layU O fl.reads F.tiles ts,line := if 0 < countFor left fl.b then F.line ++ [fl.b] else F.line },F.fineR O ts fl.reads)
def Fl.step (fl : Fl) (n chunk : Nat) : Fl := { fl with left := fl.left - 1,got := min (fl.got + chunk) n }
def FM.work (F : FM) (i : Nat) : FM × List Rep :=
  match F.wks[i]? with
  | none => (F,[])
  | some none => (F.takeW i,[])
  | some (some fl) => if 1 < fl.left then ({ F with wks := F.wks.set i (some (fl.step (F.FLs fl.reads).length F.chunk)) },[]) else F.finishW O i fl
def FM.tick (F : FM) : FM × List Rep :=
  let now := F.now + 1
  let left := F.waiting.filter fun r => decide (¬ r.due <= (now : Int))
  ({ F with now := now,waiting := left,line := F.line.filter fun b => decide (0 < countFor left b) },(F.waiting.filter fun r => decide (r.due <= (now : Int))).map fun r => ⟨r.who,504,⟨#[]⟩,⟨#[]⟩⟩)
def FM.write (F : FM) (LS' : List Ft) (FL' : List Ft) : FM :=
  let F1 := { F with ver := F.ver + 1,LS := LS',FLs := fun v => if v = F.ver + 1 then FL' else F.FLs v }
  { F1 with tiles := F.tiles.filter fun t => F1.same O t.k F.ver }
end
structure KOk (k : K4) : Prop where
  l : 0 <= k.l /\ k.l <= 3
  z : 0 <= k.z /\ k.z <= 22
  x : 0 <= k.x /\ k.x < (2 : Int) ^ k.z.toNat
  y : 0 <= k.y /\ k.y < (2 : Int) ^ k.z.toNat
theorem pow_even {z : Int} (h : z ≠ 0) (h0 : 0 <= z) : ∃ m : Int,(2 : Int) ^ z.toNat = 2 * m := by
  obtain ⟨n,hn⟩ : ∃ n,z.toNat = n + 1 := ⟨z.toNat - 1,by omega⟩
  exact ⟨2 ^ n,by rw [hn,Int.pow_succ,Int.mul_comm]⟩
theorem k4_ext {a b : K4} (h1 : a.l = b.l) (h2 : a.z = b.z) (h3 : a.x = b.x) (h4 : a.y = b.y) : a = b := by cases a; cases b; simp_all
theorem KOk.zero {k : K4} (h : KOk k) (hz : k.z = 0) : k.x = 0 /\ k.y = 0 := by
  have hx := h.x
  have hy := h.y
  rw [hz] at hx hy
  simp at hx hy
  omega
theorem mem_keys {k k' : K4} (hk : KOk k) : k' ∈ k.blk.keys ↔ KOk k' /\ k'.blk = k.blk := by
  by_cases hz : k.z = 0
  . obtain ⟨hx,hy⟩ := hk.zero hz
    have hb : k.blk = k := by apply k4_ext <;> simp only [K4.blk] <;> omega
    have : k.blk.keys = [k] := by rw [hb]; simp [K4.keys,hz]
    rw [this,hb]
    constructor
    . intro h; simp at h; subst h; exact ⟨hk,hb⟩
    . rintro ⟨h1,h2⟩
      have e2 : k'.z = k.z := (show k'.blk.z = _ from congrArg K4.z h2)
      obtain ⟨hx',hy'⟩ := h1.zero (by omega)
      have e1 : k'.l = k.l := (show k'.blk.l = _ from congrArg K4.l h2)
      simp only [List.mem_singleton]
      apply k4_ext <;> omega
  . obtain ⟨m,hm⟩ := pow_even hz hk.z.1
    have hks : k.blk.keys = [k.blk,⟨k.l,k.z,k.blk.x + 1,k.blk.y⟩,⟨k.l,k.z,k.blk.x,k.blk.y + 1⟩,⟨k.l,k.z,k.blk.x + 1,k.blk.y + 1⟩] := by
      unfold K4.keys; rw [if_neg (show ¬ k.blk.z = 0 from hz)]; rfl
    have ex : k.blk.x = k.x - k.x % 2 := rfl
    have ey : k.blk.y = k.y - k.y % 2 := rfl
    have hx := hk.x
    have hy := hk.y
    rw [hm] at hx hy
    rw [hks]
    constructor
    . intro h
      have key : ∀ a b : Int,(a = k.blk.x \/ a = k.blk.x + 1) -> (b = k.blk.y \/ b = k.blk.y + 1) -> KOk ⟨k.l,k.z,a,b⟩ /\ (⟨k.l,k.z,a,b⟩ : K4).blk = k.blk := by
        intro a b ha hb
        refine ⟨⟨hk.l,hk.z,?_,?_⟩,?_⟩
        . show 0 <= a /\ a < (2 : Int) ^ k.z.toNat
          rw [hm]; omega
        . show 0 <= b /\ b < (2 : Int) ^ k.z.toNat
          rw [hm]; omega
        . apply k4_ext
          . rfl
          . rfl
          . show a - a % 2 = k.blk.x; omega
          . show b - b % 2 = k.blk.y; omega
      simp only [List.mem_cons,List.not_mem_nil,or_false] at h
      rcases h with rfl | rfl | rfl | rfl
      . exact key _ _ (Or.inl rfl) (Or.inl rfl)
      . exact key _ _ (Or.inr rfl) (Or.inl rfl)
      . exact key _ _ (Or.inl rfl) (Or.inr rfl)
      . exact key _ _ (Or.inr rfl) (Or.inr rfl)
    . rintro ⟨h1,h2⟩
      have e1 : k'.l = k.l := (show k'.blk.l = k.blk.l from congrArg K4.l h2)
      have e2 : k'.z = k.z := (show k'.blk.z = k.blk.z from congrArg K4.z h2)
      have e3 : k'.x - k'.x % 2 = k.blk.x := (show k'.blk.x = _ from congrArg K4.x h2)
      have e4 : k'.y - k'.y % 2 = k.blk.y := (show k'.blk.y = _ from congrArg K4.y h2)
      have hk' : k' = ⟨k.l,k.z,k'.x,k'.y⟩ := k4_ext e1 e2 rfl rfl
      have cx : k'.x = k.blk.x \/ k'.x = k.blk.x + 1 := by omega
      have cy : k'.y = k.blk.y \/ k'.y = k.blk.y + 1 := by omega
      rw [hk']
      simp only [List.mem_cons,List.not_mem_nil,or_false]
      rcases cx with cx | cx <;> rcases cy with cy | cy <;> rw [cx,cy]
      . exact Or.inl rfl
      . exact Or.inr (Or.inr (Or.inl rfl))
      . exact Or.inr (Or.inl rfl)
      . exact Or.inr (Or.inr (Or.inr rfl))
structure Hi (O : Ora) (LS : List Ft) (n : Nat) (FLs : Nat -> List Ft) : Prop where
  rng : ∀ v : Nat,v <= n -> ∀ k,KOk k -> 0 <= O.stamp LS v k /\ O.stamp LS v k <= v
  still : ∀ v v' : Nat,v <= v' -> v' <= n -> ∀ k,KOk k -> O.stamp LS v' k <= v -> O.body (FLs v) k = O.body (FLs v') k /\ O.stamp LS v k = O.stamp LS v' k
  bod : ∀ v : Nat,v <= n -> ∀ k,KOk k -> 7 <= (O.body (FLs v) k).size /\ (O.body (FLs v) k).size <= 67
  le40 : ∀ v : Nat,v <= n -> (FLs v).length <= 40
def FlOk (n chunk : Nat) (f : Fl) : Prop := (n = 0 /\ f.left = 1 /\ f.got = 0) \/ (1 <= f.left /\ f.got + (f.left - 1) * chunk < n /\ n <= f.got + f.left * chunk)
theorem FlOk.pos {n chunk : Nat} {f : Fl} (h : FlOk n chunk f) : 1 <= f.left := by rcases h with h | h <;> omega
theorem FlOk.le {n chunk : Nat} {f : Fl} (h : FlOk n chunk f) (hn : n <= 40) (hc : 1 <= chunk) : f.left <= 40 := by
  rcases h with h | ⟨h1,h2,_⟩
  . omega
  . have := Nat.mul_le_mul_left (f.left - 1) hc
    omega
theorem flOk_start (n chunk : Nat) (b : K4) (reads : Nat) (hc : 1 <= chunk) : FlOk n chunk ⟨b,reads,nsteps n chunk,0⟩ := by
  unfold FlOk nsteps
  by_cases h : n = 0
  . left; simp [h]
  . right
    simp only [h,if_false,Nat.zero_add]
    have h1 : 1 <= (n + chunk - 1) / chunk := (Nat.le_div_iff_mul_le (by omega)).2 (by omega)
    have h2 := Nat.div_add_mod (n + chunk - 1) chunk
    have h3 := Nat.mod_lt (n + chunk - 1) (show 0 < chunk by omega)
    obtain ⟨s,hs⟩ : ∃ s,(n + chunk - 1) / chunk = s + 1 := ⟨(n + chunk - 1) / chunk - 1,by omega⟩
    rw [hs] at h2 ⊢
    rw [Nat.mul_succ] at h2
    rw [Nat.add_sub_cancel,Nat.succ_mul,Nat.mul_comm s chunk]
    omega
theorem FlOk.next {n chunk : Nat} {f : Fl} (h : FlOk n chunk f) (h1 : 1 < f.left) : FlOk n chunk (f.step n chunk) /\ (f.step n chunk).got = f.got + chunk /\ f.got + chunk <= n := by
  rcases h with h | ⟨_,h2,h3⟩
  . omega
  . obtain ⟨s,hs⟩ : ∃ s,f.left = s + 2 := ⟨f.left - 2,by omega⟩
    rw [hs] at h2 h3
    have e1 : (s + 2 - 1) * chunk = s * chunk + chunk := by rw [show s + 2 - 1 = s + 1 by omega,Nat.succ_mul]
    have e2 : (s + 2) * chunk = s * chunk + chunk + chunk := by rw [Nat.succ_mul,Nat.succ_mul]
    rw [e1] at h2
    rw [e2] at h3
    have hm : min (f.got + chunk) n = f.got + chunk := Nat.min_eq_left (by omega)
    refine ⟨Or.inr ?_,hm,by omega⟩
    simp only [Fl.step,hm,hs]
    refine ⟨by omega,?_,?_⟩
    . rw [show s + 2 - 1 - 1 = s by omega]; omega
    . rw [show s + 2 - 1 = s + 1 by omega,Nat.succ_mul]; omega
theorem FlOk.end_ {n chunk : Nat} {f : Fl} (h : FlOk n chunk f) (h1 : f.left = 1) : min (f.got + chunk) n = n := by
  rcases h with ⟨h,_,_⟩ | ⟨_,h2,h3⟩
  . omega
  . rw [h1] at h3; omega
def FM.fls (F : FM) : List Fl := F.wks.filterMap id
theorem fls_set : ∀ (ws : List (Option Fl)) (i : Nat) (o : Option Fl),i < ws.length -> ((ws.set i o).filterMap id).Perm (o.toList ++ (ws.set i none).filterMap id)
  | [],i,o,h => by simp at h
  | a :: ws,0,o,_ => by cases o <;> simp
  | a :: ws,i + 1,o,h => by
    have ih := fls_set ws i o (by simpa using h)
    cases a with
    | none => simpa using ih
    | some f =>
      simp only [List.set_cons_succ,List.filterMap_cons,id]
      exact (List.Perm.cons f ih).trans (List.perm_middle.symm)
theorem set_self (ws : List (Option Fl)) (i : Nat) (o : Option Fl) (h : ws[i]? = some o) : ws.set i o = ws := by
  apply List.ext_getElem?
  intro j
  rw [List.getElem?_set]
  by_cases e : i = j
  . subst e; rw [if_pos rfl,if_pos (List.getElem?_eq_some_iff.1 h).1,h]
  . rw [if_neg e]
theorem fls_at {ws : List (Option Fl)} {i : Nat} {o : Option Fl} (h : ws[i]? = some o) : (ws.filterMap id).Perm (o.toList ++ (ws.set i none).filterMap id) := by
  have := fls_set ws i o (List.getElem?_eq_some_iff.1 h).1
  rwa [set_self ws i o h] at this
theorem hasFl_iff (F : FM) (b : K4) : F.hasFl b = true ↔ b ∈ F.line \/ b ∈ F.fls.map Fl.b := by
  unfold FM.hasFl FM.fls
  simp only [Bool.or_eq_true,List.any_eq_true,decide_eq_true_eq,List.mem_map,List.mem_filterMap,id]
  constructor
  . rintro (⟨k,hk,rfl⟩ | ⟨o,ho,h⟩)
    . exact Or.inl hk
    . cases o with
      | none => simp at h
      | some f => exact Or.inr ⟨f,⟨_,ho,rfl⟩,by simpa using h⟩
  . rintro (h | ⟨f,⟨o,ho,rfl⟩,rfl⟩)
    . exact Or.inl ⟨b,h,rfl⟩
    . exact Or.inr ⟨_,ho,by simp⟩
theorem countFor_pos (ws : List Req) (b : K4) : 0 < countFor ws b ↔ ∃ r ∈ ws,r.k.blk = b := by
  unfold countFor
  rw [List.countP_pos_iff]
  simp
structure Ok (O : Ora) (F : FM) : Prop where
  q : 1 <= F.queue /\ F.queue <= 8
  wt : 1 <= F.wait /\ F.wait <= 50
  ch : 1 <= F.chunk /\ F.chunk <= 8
  rm : F.room <= 2000
  wn : 1 <= F.wks.length /\ F.wks.length <= 4
  v100 : F.ver <= 100
  wq : F.waiting.length <= F.queue
  req : ∀ r ∈ F.waiting,(F.now : Int) < r.due /\ 0 <= r.asked /\ r.asked <= F.ver /\ KOk r.k /\ 0 <= r.who /\ r.who < F.arrived /\ r.due <= F.now + F.wait
  srt : F.waiting.Pairwise fun a b => a.who < b.who
  fl : ∀ r ∈ F.waiting,r.k.blk ∈ F.line \/ r.k.blk ∈ F.fls.map Fl.b
  lin : ∀ b ∈ F.line,∃ r ∈ F.waiting,r.k.blk = b
  nod : (F.line ++ F.fls.map Fl.b).Nodup
  flt : ∀ f ∈ F.fls,f.reads <= F.ver /\ FlOk (F.FLs f.reads).length F.chunk f /\ ∃ k,KOk k /\ f.b = k.blk
  pin : F.PI.Perm (F.fls.map fun f => (f.reads : Int))
  bus : F.fls.length <= F.started
  hi : Hi O F.LS F.ver F.FLs
  byt : bytesT F.tiles <= F.room
  til : ∀ t ∈ F.tiles,KOk t.k /\ t = F.tileOf O F.ver t.k
  tno : (F.tiles.map Tile.k).Nodup
theorem fls_len (F : FM) : F.fls.length <= F.wks.length := List.length_filterMap_le _ _
theorem nodup_len : ∀ (l l' : List K4),l.Nodup -> l ⊆ l' -> l.length <= l'.length
  | [],_,_,_ => by simp
  | a :: l,l',hn,hs => by
    have ha : a ∈ l' := hs (List.mem_cons_self ..)
    have hn' := List.nodup_cons.1 hn
    have := nodup_len l (l'.erase a) hn'.2 fun b hb => (List.mem_erase_of_ne (fun e : b = a => hn'.1 (e ▸ hb))).2 (hs (List.mem_cons_of_mem _ hb))
    rw [List.length_erase_of_mem ha] at this
    have := List.length_pos_of_mem ha
    simp only [List.length_cons]; omega
section
variable {O : Ora} {F : FM}
theorem Ok.linLe (h : Ok O F) : F.line.length <= F.waiting.length := by
  have hn : F.line.Nodup := (List.nodup_append.1 h.nod).1
  have hs : F.line ⊆ F.waiting.map fun r => r.k.blk := by
    intro b hb
    obtain ⟨r,hr,e⟩ := h.lin b hb
    exact List.mem_map.2 ⟨r,hr,e⟩
  simpa using nodup_len _ _ hn hs
theorem Ok.arriveE (h : Ok O F) (e : Int) : Ok O (F.arriveE e).1 :=
  { h with req := fun r hr => by have := h.req r hr; simp only [FM.arriveE]; exact ⟨this.1,this.2.1,this.2.2.1,this.2.2.2.1,this.2.2.2.2.1,by omega,this.2.2.2.2.2.2⟩ }
theorem bytesT_app (a b : List Tile) : bytesT (a ++ b) = bytesT a + bytesT b := by
  induction a with
  | nil => simp [bytesT]
  | cons t a ih => simp only [List.cons_append,bytesT,ih]; omega
theorem bytesT_sub {a b : List Tile} (h : a.Sublist b) : bytesT a <= bytesT b := by
  induction h with
  | slnil => simp
  | cons t _ ih => simp only [bytesT]; omega
  | cons_cons t _ ih => simp only [bytesT]; omega
theorem outT_sub (ts : List Tile) (k : K4) : (outT ts k).Sublist ts := List.filter_sublist
theorem outT_not (ts : List Tile) (k : K4) : k ∉ (outT ts k).map Tile.k := by
  intro h
  obtain ⟨t,ht,e⟩ := List.mem_map.1 h
  unfold outT at ht
  rw [List.mem_filter] at ht
  simp [e] at ht
theorem outT_bytes {ts : List Tile} {t : Tile} (ht : t ∈ ts) : bytesT (outT ts t.k) + t.body.size <= bytesT ts := by
  induction ts with
  | nil => simp at ht
  | cons a ts ih =>
    rcases List.mem_cons.1 ht with rfl | ht
    . have : outT (t :: ts) t.k = outT ts t.k := by simp [outT]
      rw [this]
      have := bytesT_sub (outT_sub ts t.k)
      simp only [bytesT]; omega
    . have := ih ht
      by_cases e : a.k = t.k
      . have : outT (a :: ts) t.k = outT ts t.k := by simp [outT,e]
        rw [this]; simp only [bytesT]; omega
      . have : outT (a :: ts) t.k = a :: outT ts t.k := by simp [outT,e]
        rw [this]; simp only [bytesT]; omega
theorem findT_some {ts : List Tile} {k : K4} {t : Tile} (h : findT ts k = some t) : t ∈ ts /\ t.k = k := by
  unfold findT at h
  exact ⟨List.mem_of_find?_eq_some h,by simpa using List.find?_some h⟩
theorem findT_none {ts : List Tile} {k : K4} (h : findT ts k = none) : ∀ t ∈ ts,t.k ≠ k := by
  unfold findT at h
  rw [List.find?_eq_none] at h
  intro t ht e
  exact h t ht (by simp [e])
theorem nodup_out {ts : List Tile} (h : (ts.map Tile.k).Nodup) (t : Tile) {us : List Tile} (hu : us.Sublist (outT ts t.k)) : ((us ++ [t]).map Tile.k).Nodup := by
  rw [List.map_append,List.map_cons,List.map_nil,List.nodup_append]
  refine ⟨(hu.trans (outT_sub ts t.k)).map _ |>.nodup h,by simp,?_⟩
  intro a ha b hb
  simp at hb
  subst hb
  intro e
  subst e
  exact outT_not ts t.k ((hu.map _).subset ha)
theorem Ok.used (h : Ok O F) {t : Tile} (ht : t ∈ F.tiles) : Ok O { F with arrived := F.arrived + 1,tiles := outT F.tiles t.k ++ [t] } :=
  { h with
    req := fun r hr => by have := h.req r hr; exact ⟨this.1,this.2.1,this.2.2.1,this.2.2.2.1,this.2.2.2.2.1,by show r.who < ((F.arrived + 1 : Nat) : Int); omega,this.2.2.2.2.2.2⟩
    byt := by
      show bytesT (outT F.tiles t.k ++ [t]) <= F.room
      rw [bytesT_app]
      have := outT_bytes ht
      have := h.byt
      simp only [bytesT]; omega
    til := fun u hu => by
      rcases List.mem_append.1 hu with hu | hu
      . exact h.til u ((outT_sub _ _).subset hu)
      . simp at hu; subst hu; exact h.til u ht
    tno := nodup_out h.tno t (List.Sublist.refl _) }
theorem Ok.join (h : Ok O F) {k : K4} (hk : KOk k) (hq : F.waiting.length < F.queue) : Ok O (FM.join { F with arrived := F.arrived + 1 } F.arrived k) := by
  have hfl : ({ F with arrived := F.arrived + 1 } : FM).hasFl k.blk = F.hasFl k.blk := rfl
  have hiff := hasFl_iff F k.blk
  refine { h with
    wq := ?_,req := ?_,srt := ?_,fl := ?_,lin := ?_,nod := ?_ }
  . show (F.waiting ++ [_]).length <= F.queue
    simp; omega
  . intro r hr
    rcases List.mem_append.1 hr with hr | hr
    . have := h.req r hr
      exact ⟨this.1,this.2.1,this.2.2.1,this.2.2.2.1,this.2.2.2.2.1,by show r.who < ((F.arrived + 1 : Nat) : Int); omega,this.2.2.2.2.2.2⟩
    . simp at hr
      subst hr
      have := h.wt
      refine ⟨by show (F.now : Int) < (F.now : Int) + F.wait; omega,by show (0 : Int) <= F.ver; omega,by show (F.ver : Int) <= F.ver; omega,hk,by show (0 : Int) <= F.arrived; omega,by show (F.arrived : Int) < ((F.arrived + 1 : Nat) : Int); omega,by show (F.now : Int) + F.wait <= F.now + F.wait; omega⟩
  . show (F.waiting ++ [_]).Pairwise _
    rw [List.pairwise_append]
    refine ⟨h.srt,by simp,fun a ha b hb => ?_⟩
    simp at hb
    subst hb
    have := h.req a ha
    show a.who < F.arrived
    omega
  . intro r hr
    show r.k.blk ∈ (if ({ F with arrived := F.arrived + 1 } : FM).hasFl k.blk then F.line else F.line ++ [k.blk]) \/ r.k.blk ∈ F.fls.map Fl.b
    rw [hfl]
    rcases List.mem_append.1 hr with hr | hr
    . rcases h.fl r hr with q | q
      . left; split
        . exact q
        . exact List.mem_append_left _ q
      . exact Or.inr q
    . simp at hr
      subst hr
      show k.blk ∈ _ \/ k.blk ∈ _
      split
      . rename_i q; exact hiff.1 q
      . left; simp
  . intro b hb
    have hb' : b ∈ (if F.hasFl k.blk then F.line else F.line ++ [k.blk]) := hb
    show ∃ r ∈ F.waiting ++ [_],_
    by_cases c : b ∈ F.line
    . obtain ⟨r,hr,e⟩ := h.lin b c
      exact ⟨r,List.mem_append_left _ hr,e⟩
    . refine ⟨_,List.mem_append_right _ (List.mem_singleton.2 rfl),?_⟩
      split at hb'
      . exact absurd hb' c
      . rcases List.mem_append.1 hb' with q | q
        . exact absurd q c
        . simp at q; exact q.symm
  . show ((if F.hasFl k.blk then F.line else F.line ++ [k.blk]) ++ F.fls.map Fl.b).Nodup
    split
    . exact h.nod
    . rename_i q
      have hno : k.blk ∉ F.line ++ F.fls.map Fl.b := by
        intro hm
        exact q (hiff.2 (List.mem_append.1 hm))
      rw [List.append_assoc]
      exact (List.perm_middle.nodup_iff).2 (List.nodup_cons.2 ⟨hno,h.nod⟩)
end
end Go.Proofs.YtpopchckldbhdaaGreatDoor
namespace Go.Proofs.YtpopchckldbhdaaGreatDoor
open Go.RowKit
set_option maxRecDepth 20000
theorem hide {p : Prop} (h : p) : Hid p := h
theorem unhide {p : Prop} (h : Hid p) : p := h
theorem ret_bool {a b : Bool} (h : a = b) : Ending.returned (.bool a) = .returned (.bool b) := by rw [h]
theorem ret_int {k : IntKind} {a b : Int} (h : a = b) : Ending.returned (.int k a) = .returned (.int k b) := by rw [h]
def fc (f : Nat -> Int) : Array Value := (Array.range 24).map fun i => .int .i64 (f i)
theorem fc_size (f : Nat -> Int) : (fc f).size = 24 := by simp [fc]
theorem fc_at (f : Nat -> Int) (i : Nat) (h : i < 24) : (fc f)[i]? = some (.int .i64 (f i)) := by simp [fc,h]
def inR (n lo hi : Int) : Bool := decide (lo <= n /\ n <= hi)
theorem inR_t {n lo hi : Int} (h : lo <= n) (h' : n <= hi) : inR n lo hi = true := by simp [inR,h,h']
theorem inR_f1 {n lo hi : Int} (h : n < lo) : inR n lo hi = false := by simp [inR]; omega
theorem inR_f2 {n lo hi : Int} (h : hi < n) : inR n lo hi = false := by simp [inR]; omega
theorem within_any (n lo hi : Int) (w : World) :
    Calls Tryz.prog 113 #[.int .i64 n,.int .i64 lo,.int .i64 hi] w fun e w' => e = .returned (.bool (inR n lo hi)) /\ w = w' := by
  by_cases h1 : lo <= n
  . by_cases h2 : n <= hi
    . have H := hide (inR_t h1 h2)
      go_enter Tryz.func113,Tryz.ntmps113
      go_wp2
      go_ret
      exact ⟨ret_bool (unhide H).symm,rfl⟩
    . have H := hide (inR_f2 (n := n) (lo := lo) (hi := hi) (by omega))
      go_enter Tryz.func113,Tryz.ntmps113
      go_wp2
      go_ret
      exact ⟨ret_bool (unhide H).symm,rfl⟩
  . have H := hide (inR_f1 (n := n) (lo := lo) (hi := hi) (by omega))
    go_enter Tryz.func113,Tryz.ntmps113
    go_wp2
    go_ret
    exact ⟨ret_bool (unhide H).symm,rfl⟩
theorem isPlace_any (n : Int) (w : World) :
    Calls Tryz.prog 114 #[.int .i64 n] w fun e w' => e = .returned (.bool (inR n 0 1073741824)) /\ w = w' := by
  go_enter Tryz.func114,Tryz.ntmps114
  go_wp2_with fail
  refine (within_any n _ _ _).mono ?_
  rintro e w1 ⟨rfl,rfl⟩
  go_wp2_with fail
  go_ret
  exact ⟨rfl,rfl⟩
def traits (f : Nat -> Int) : Bool := inR (f 0) 1 1000 && inR (f 1) 0 3 && inR (f 3) 1 15 && inR (f 4) 0 9 && inR (f 5) 0 22
theorem below_one (w : World) (o : Obj) : Below w.heap.size w (w.alloc o) := (Below.refl _ _).alloc (Nat.le_refl _) _
set_option maxHeartbeats 800000 in
theorem hasTraits_any (f : Nat -> Int) (w : World) :
    Calls Tryz.prog 84 #[.agg (fc f)] w fun e w' => e = .returned (.bool (traits f)) /\ Below w.heap.size w w' := by
  have c0 := fc_at f 0 (by decide)
  have c1 := fc_at f 1 (by decide)
  have c3 := fc_at f 3 (by decide)
  have c4 := fc_at f 4 (by decide)
  have c5 := fc_at f 5 (by decide)
  cases h0 : inR (f 0) 1 1000 with
  | false =>
    have H : Hid (traits f = false) := by show traits f = false; simp [traits,h0]
    go_enter Tryz.func84,Tryz.ntmps84
    go_wp2_with (go_at_call 113; refine (within_any _ _ _ _).mono ?_; rintro e w1 ⟨rfl,rfl⟩)
    go_ret
    exact ⟨ret_bool (unhide H).symm,below_one _ _⟩
  | true =>
  cases h1 : inR (f 1) 0 3 with
  | false =>
    have H : Hid (traits f = false) := by show traits f = false; simp [traits,h1]
    go_enter Tryz.func84,Tryz.ntmps84
    go_wp2_with (go_at_call 113; refine (within_any _ _ _ _).mono ?_; rintro e w1 ⟨rfl,rfl⟩)
    go_ret
    exact ⟨ret_bool (unhide H).symm,below_one _ _⟩
  | true =>
  cases h3 : inR (f 3) 1 15 with
  | false =>
    have H : Hid (traits f = false) := by show traits f = false; simp [traits,h3]
    go_enter Tryz.func84,Tryz.ntmps84
    go_wp2_with (go_at_call 113; refine (within_any _ _ _ _).mono ?_; rintro e w1 ⟨rfl,rfl⟩)
    go_ret
    exact ⟨ret_bool (unhide H).symm,below_one _ _⟩
  | true =>
  cases h4 : inR (f 4) 0 9 with
  | false =>
    have H : Hid (traits f = false) := by show traits f = false; simp [traits,h4]
    go_enter Tryz.func84,Tryz.ntmps84
    go_wp2_with (go_at_call 113; refine (within_any _ _ _ _).mono ?_; rintro e w1 ⟨rfl,rfl⟩)
    go_ret
    exact ⟨ret_bool (unhide H).symm,below_one _ _⟩
  | true =>
    have H : Hid (traits f = inR (f 5) 0 22) := by show traits f = _; simp [traits,h0,h1,h3,h4]
    go_enter Tryz.func84,Tryz.ntmps84
    go_wp2_with (go_at_call 113; refine (within_any _ _ _ _).mono ?_; rintro e w1 ⟨rfl,rfl⟩)
    go_ret
    exact ⟨ret_bool (unhide H).symm,below_one _ _⟩
def form (f : Nat -> Int) : Bool :=
  if f 2 = 0 then decide (f 6 = 0) && inR (f 7) 3 8 else if f 2 = 1 then inR (f 6) 1 3 && decide (f 7 = 1) else false
def pt (f : Nat -> Int) (i : Nat) : Bool :=
  inR (f (8 + i)) 0 1073741824 && inR (f (16 + i)) 0 1073741824 && !(decide (f 7 <= (i : Int)) && (decide (f (8 + i) ≠ 0) || decide (f (16 + i) ≠ 0)))
def pts (f : Nat -> Int) (k : Nat) : Bool := (List.range k).all (pt f)
def right (f : Nat -> Int) : Bool := traits f && form f && pts f 8
theorem pts_snoc (f : Nat -> Int) (k : Nat) (h : pts f k = true) (h' : pt f k = true) : pts f (k + 1) = true := by
  unfold pts at *; rw [List.range_succ,List.all_append,h]; simp [h']
theorem pts_false (f : Nat -> Int) (k : Nat) (hk : k < 8) (h : pt f k = false) : pts f 8 = false := by
  rw [Bool.eq_false_iff]; intro ht
  simp only [pts,List.all_eq_true,List.mem_range] at ht
  rw [ht k hk] at h; cases h
theorem pt_x {f : Nat -> Int} {k : Nat} {X : Int} (e : f (8 + k) = X) (h : inR X 0 1073741824 = false) : pt f k = false := by simp [pt,e,h]
theorem pt_y {f : Nat -> Int} {k : Nat} {X : Int} (e : f (16 + k) = X) (h : inR X 0 1073741824 = false) : pt f k = false := by simp [pt,e,h]
theorem pt_t {f : Nat -> Int} {k : Nat} {X Y N : Int} (e : f (8 + k) = X) (e' : f (16 + k) = Y) (en : f 7 = N) (h : inR X 0 1073741824 = true) (h' : inR Y 0 1073741824 = true) (hn : (k : Int) < N \/ (X = 0 /\ Y = 0)) : pt f k = true := by
  simp only [pt,e,e',en,h,h',Bool.true_and,Bool.not_eq_true',Bool.and_eq_false_iff,decide_eq_false_iff_not,Bool.or_eq_false_iff]
  rcases hn with hn | ⟨a,b⟩
  . left; omega
  . right; simp [a,b]
theorem pt_f {f : Nat -> Int} {k : Nat} {X Y N : Int} (e : f (8 + k) = X) (e' : f (16 + k) = Y) (en : f 7 = N) (hn : N <= (k : Int)) (h : ¬ X = 0 \/ ¬ Y = 0) : pt f k = false := by
  simp only [pt,e,e',en,Bool.and_eq_false_iff,Bool.not_eq_false',Bool.and_eq_true,Bool.or_eq_true,decide_eq_true_eq]
  right; exact ⟨hn,h⟩
set_option maxHeartbeats 800000 in
theorem hasForm_any (f : Nat -> Int) (w : World) :
    Calls Tryz.prog 85 #[.agg (fc f)] w fun e w' => e = .returned (.bool (form f)) /\ Below w.heap.size w w' := by
  have c2 := fc_at f 2 (by decide)
  have c6 := fc_at f 6 (by decide)
  have c7 := fc_at f 7 (by decide)
  obtain ⟨K,hK⟩ : ∃ K,f 2 = K := ⟨_,rfl⟩
  obtain ⟨S,hS⟩ : ∃ K,f 6 = K := ⟨_,rfl⟩
  obtain ⟨N,hN⟩ : ∃ K,f 7 = K := ⟨_,rfl⟩
  rw [hK] at c2; rw [hS] at c6; rw [hN] at c7
  by_cases h0 : K = 0
  . subst h0
    by_cases h6 : S = 0
    . subst h6
      have H : Hid (form f = inR N 3 8) := by show form f = _; simp [form,hK,hS,hN]
      clear hK hS hN
      go_enter Tryz.func85,Tryz.ntmps85
      go_wp2_with (go_at_call 113; refine (within_any _ _ _ _).mono ?_; rintro e w1 ⟨rfl,rfl⟩)
      go_ret
      exact ⟨ret_bool (unhide H).symm,below_one _ _⟩
    . have H : Hid (form f = false) := by show form f = _; simp [form,hK,hS,h6]
      clear hK hS hN
      go_enter Tryz.func85,Tryz.ntmps85
      go_wp2_with (go_at_call 113; refine (within_any _ _ _ _).mono ?_; rintro e w1 ⟨rfl,rfl⟩)
      go_ret
      exact ⟨ret_bool (unhide H).symm,below_one _ _⟩
  by_cases h1 : K = 1
  . subst h1
    cases hs : inR S 1 3 with
    | true =>
      have H : Hid (form f = (N == 1)) := by show form f = _; simp [form,hK,hS,hN,hs,BEq.beq]
      clear hK hS hN
      go_enter Tryz.func85,Tryz.ntmps85
      go_wp2_with (go_at_call 113; refine (within_any _ _ _ _).mono ?_; rintro e w1 ⟨rfl,rfl⟩)
      go_ret
      exact ⟨ret_bool (unhide H).symm,below_one _ _⟩
    | false =>
      have H : Hid (form f = false) := by show form f = _; simp [form,hK,hS,hs]
      clear hK hS hN
      go_enter Tryz.func85,Tryz.ntmps85
      go_wp2_with (go_at_call 113; refine (within_any _ _ _ _).mono ?_; rintro e w1 ⟨rfl,rfl⟩)
      go_ret
      exact ⟨ret_bool (unhide H).symm,below_one _ _⟩
  . have H : Hid (form f = false) := by show form f = _; simp [form,hK,h0,h1]
    clear hK hS hN
    go_enter Tryz.func85,Tryz.ntmps85
    go_wp2_with (go_at_call 113; refine (within_any _ _ _ _).mono ?_; rintro e w1 ⟨rfl,rfl⟩)
    go_ret
    exact ⟨ret_bool (unhide H).symm,below_one _ _⟩
set_option maxHeartbeats 800000 in
theorem hasPoints_any (f : Nat -> Int) (w : World) :
    Calls Tryz.prog 86 #[.agg (fc f)] w fun e w' => e = .returned (.bool (pts f 8)) /\ Below w.heap.size w w' := by
  have c7 := fc_at f 7 (by decide)
  obtain ⟨N,hN⟩ : ∃ K,f 7 = K := ⟨_,rfl⟩
  rw [hN] at c7
  have HN := hide hN
  clear hN
  go_enter Tryz.func86,Tryz.ntmps86
  go_wp2
  go_loop [3] (fun i => ∃ k : Nat,k <= 8 /\ i = .int .i64 k /\ Hid (pts f k = true)) (fun i => 8 - (intOf i).toNat)
  case atStart => exact ⟨0,by decide,rfl,hide rfl⟩
  case round =>
    obtain ⟨k,hk,rfl,hall⟩ := hrel
    by_cases hlt : k < 8
    . have cx := fc_at f (8 + k) (by omega)
      have cy := fc_at f (16 + k) (by omega)
      obtain ⟨X,hX⟩ : ∃ K,f (8 + k) = K := ⟨_,rfl⟩
      obtain ⟨Y,hY⟩ : ∃ K,f (16 + k) = K := ⟨_,rfl⟩
      rw [hX] at cx; rw [hY] at cy
      have HX := hide hX
      have HY := hide hY
      clear hX hY
      cases hx : inR X 0 1073741824 with
      | false =>
        go_wp2_with (go_at_call 114; refine (isPlace_any _ _).mono ?_; rintro e w1 ⟨rfl,rfl⟩)
        go_ret
        exact ⟨ret_bool (pts_false f k hlt (pt_x (unhide HX) hx)).symm,below_one _ _⟩
      | true =>
      cases hy : inR Y 0 1073741824 with
      | false =>
        go_wp2_with (go_at_call 114; refine (isPlace_any _ _).mono ?_; rintro e w1 ⟨rfl,rfl⟩)
        go_ret
        exact ⟨ret_bool (pts_false f k hlt (pt_y (unhide HY) hy)).symm,below_one _ _⟩
      | true =>
      by_cases hn : N <= (k : Int)
      . by_cases hx0 : X = 0
        . by_cases hy0 : Y = 0
          . subst hx0
            subst hy0
            go_wp2_with (go_at_call 114; refine (isPlace_any _ _).mono ?_; rintro e w1 ⟨rfl,rfl⟩)
            go_round
            case rel => exact ⟨k + 1,by omega,by go_num,hide (pts_snoc f k (unhide hall) (pt_t (unhide HX) (unhide HY) (unhide HN) rfl rfl (Or.inr ⟨rfl,rfl⟩)))⟩
            case measure => simp [intOf]; omega
          . subst hx0
            go_wp2_with (go_at_call 114; refine (isPlace_any _ _).mono ?_; rintro e w1 ⟨rfl,rfl⟩)
            go_ret
            exact ⟨ret_bool (pts_false f k hlt (pt_f (unhide HX) (unhide HY) (unhide HN) hn (Or.inr hy0))).symm,below_one _ _⟩
        . go_wp2_with (go_at_call 114; refine (isPlace_any _ _).mono ?_; rintro e w1 ⟨rfl,rfl⟩)
          go_ret
          exact ⟨ret_bool (pts_false f k hlt (pt_f (unhide HX) (unhide HY) (unhide HN) hn (Or.inl hx0))).symm,below_one _ _⟩
      . go_wp2_with (go_at_call 114; refine (isPlace_any _ _).mono ?_; rintro e w1 ⟨rfl,rfl⟩)
        go_round
        case rel => exact ⟨k + 1,by omega,by go_num,hide (pts_snoc f k (unhide hall) (pt_t (unhide HX) (unhide HY) (unhide HN) hx hy (Or.inl (by omega))))⟩
        case measure => simp [intOf]; omega
    . go_wp2
      go_ret
      have hk8 : k = 8 := by omega
      subst hk8
      exact ⟨ret_bool (unhide hall).symm,below_one _ _⟩
theorem blk_on {W W' : World} {b : Nat} {o : Obj} (h : W.heap[b]? = some o) (hb : Below W.heap.size W W') : W'.heap[b]? = some o := by
  have : b < W.heap.size := (Array.getElem?_eq_some_iff.1 h).1
  rw [hb.block b this,h]
theorem blk_cells {W : World} {b : Nat} {cs : Array Value} {t : TypeId} (h : W.heap[b]? = some (.cells cs t (0,0))) (j : Nat) : W.cell? ⟨b,j,none⟩ = cs[j]? := cell_of_row W b j cs t (0,0) h
theorem szf (f : Nat -> Int) : (Tryz.prog.info? 86).map (·.size) = some (fc f).size := by rw [fc_size]; kernel_rfl
theorem ld26 {ops : Array Oper} {rest : List Oper} {o : Oper} {a : Act} {w : World} {Q : Exit -> Act -> World -> Prop} (hw : Region.wanted o (yielded ops a.tmps) = true) (x : Operand) (ho : o.op = .load 86 x)
    (g : Nat) (hx : a.eval x = .pointer (some ⟨g,0,none⟩)) (f : Nat -> Int) (hg : w.heap[g]? = some (.cells (fc f) 86 (0,0)))
    (h : wpList Tryz.prog ops Q rest (a.put o.dst (.agg (fc f))) w) : wpList Tryz.prog ops Q (o :: rest) a w := by
  unfold wpList
  rw [if_pos hw]
  exact Or.inl (wp_load_row 86 x ho g hx 86 (fc f) (0,0) _ hg Tryz.underlying86 rfl (szf f) h)
set_option maxHeartbeats 800000 in
theorem check_any (f : Nat -> Int) (w : World) :
    Calls Tryz.prog 52 #[.agg (fc f)] w fun e w' => e = .returned (.int .i64 (bif right f then 0 else 7)) /\ Below w.heap.size w w' := by
  have hg0 := heap_alloc_new w (.cells (fc f) 86 (0,0))
  cases h1 : traits f with
  | false =>
    have H : Hid (right f = false) := by show right f = _; simp [right,h1]
    go_enter Tryz.func52,Tryz.ntmps52
    go_wp2_with (refine ld26 rfl _ rfl _ rfl f hg0 ?_)
    refine (hasTraits_any f _).mono ?_
    rintro e w1 ⟨rfl,hb1⟩
    have HB := hide ((below_one _ _).trans (hb1.mono (by simp)))
    clear hb1
    go_wp2_with fail
    go_ret
    exact ⟨ret_int (by rw [unhide H]; rfl),unhide HB⟩
  | true =>
  cases h2 : form f with
  | false =>
    have H : Hid (right f = false) := by show right f = _; simp [right,h2]
    go_enter Tryz.func52,Tryz.ntmps52
    go_wp2_with (refine ld26 rfl _ rfl _ rfl f hg0 ?_)
    refine (hasTraits_any f _).mono ?_
    rintro e w1 ⟨rfl,hb1⟩
    have hg1 := blk_on hg0 hb1
    have HB := hide ((below_one _ _).trans (hb1.mono (by simp)))
    clear hb1
    go_wp2_with (refine ld26 rfl _ rfl _ rfl f hg1 ?_)
    refine (hasForm_any f _).mono ?_
    rintro e w2 ⟨rfl,hb2⟩
    have HB2 := hide ((unhide HB).trans (hb2.mono (unhide HB).size))
    clear hb2 hg1
    go_wp2_with fail
    go_ret
    exact ⟨ret_int (by rw [unhide H]; rfl),unhide HB2⟩
  | true =>
    have H : Hid (right f = pts f 8) := by show right f = _; simp [right,h1,h2]
    cases h3 : pts f 8 with
    | false =>
      go_enter Tryz.func52,Tryz.ntmps52
      go_wp2_with (refine ld26 rfl _ rfl _ rfl f hg0 ?_)
      refine (hasTraits_any f _).mono ?_
      rintro e w1 ⟨rfl,hb1⟩
      have hg1 := blk_on hg0 hb1
      have HB := hide ((below_one _ _).trans (hb1.mono (by simp)))
      clear hb1
      go_wp2_with (refine ld26 rfl _ rfl _ rfl f hg1 ?_)
      refine (hasForm_any f _).mono ?_
      rintro e w2 ⟨rfl,hb2⟩
      have hg2 := blk_on hg1 hb2
      have HB2 := hide ((unhide HB).trans (hb2.mono (unhide HB).size))
      clear hb2 hg1
      go_wp2_with (refine ld26 rfl _ rfl _ rfl f hg2 ?_)
      refine (hasPoints_any f _).mono ?_
      rintro e w3 ⟨rfl,hb3⟩
      have HB3 := hide ((unhide HB2).trans (hb3.mono (unhide HB2).size))
      clear hb3 hg2
      go_wp2_with fail
      go_ret
      exact ⟨ret_int (by rw [unhide H,h3]; rfl),unhide HB3⟩
    | true =>
      go_enter Tryz.func52,Tryz.ntmps52
      go_wp2_with (refine ld26 rfl _ rfl _ rfl f hg0 ?_)
      refine (hasTraits_any f _).mono ?_
      rintro e w1 ⟨rfl,hb1⟩
      have hg1 := blk_on hg0 hb1
      have HB := hide ((below_one _ _).trans (hb1.mono (by simp)))
      clear hb1
      go_wp2_with (refine ld26 rfl _ rfl _ rfl f hg1 ?_)
      refine (hasForm_any f _).mono ?_
      rintro e w2 ⟨rfl,hb2⟩
      have hg2 := blk_on hg1 hb2
      have HB2 := hide ((unhide HB).trans (hb2.mono (unhide HB).size))
      clear hb2 hg1
      go_wp2_with (refine ld26 rfl _ rfl _ rfl f hg2 ?_)
      refine (hasPoints_any f _).mono ?_
      rintro e w3 ⟨rfl,hb3⟩
      have HB3 := hide ((unhide HB2).trans (hb3.mono (unhide HB2).size))
      clear hb3 hg2
      go_wp2_with fail
      go_ret
      exact ⟨ret_int (by rw [unhide H,h3]; rfl),unhide HB3⟩
def keyErr (l z x y : Int) : Int :=
  if l < 0 \/ 3 < l then 2 else if z < 0 \/ 22 < z then 3
  else if x < 0 \/ (2 : Int) ^ z.toNat <= x \/ y < 0 \/ (2 : Int) ^ z.toNat <= y then 4 else 0
theorem isZoom_any (z : Int) (w : World) :
    Calls Tryz.prog 56 #[.int .i64 z] w fun e w' => e = .returned (.bool (inR z 0 22)) /\ w = w' := by
  by_cases h1 : 0 <= z
  . by_cases h2 : z <= 22
    . have H := hide (inR_t h1 h2)
      go_enter Tryz.func56,Tryz.ntmps56
      go_wp2
      go_ret
      exact ⟨ret_bool (unhide H).symm,rfl⟩
    . have H := hide (inR_f2 (n := z) (lo := 0) (hi := 22) (by omega))
      go_enter Tryz.func56,Tryz.ntmps56
      go_wp2
      go_ret
      exact ⟨ret_bool (unhide H).symm,rfl⟩
  . have H := hide (inR_f1 (n := z) (lo := 0) (hi := 22) (by omega))
    go_enter Tryz.func56,Tryz.ntmps56
    go_wp2
    go_ret
    exact ⟨ret_bool (unhide H).symm,rfl⟩
theorem pow_cap (z : Int) (h : z <= 22) : (1 : Int) <= (2 : Int) ^ z.toNat /\ (2 : Int) ^ z.toNat <= 4194304 := by
  have h1 : z.toNat <= 22 := by omega
  have h2 : (2 : Nat) ^ z.toNat <= 2 ^ 22 := Nat.pow_le_pow_right (by decide) h1
  have h3 : 1 <= (2 : Nat) ^ z.toNat := Nat.one_le_two_pow
  have e : ((2 : Int) ^ z.toNat) = (((2 : Nat) ^ z.toNat : Nat) : Int) := by simp
  rw [e]
  omega
theorem keyErr_2 (l z x y : Int) (h : l < 0 \/ 3 < l) : keyErr l z x y = 2 := by unfold keyErr; rw [if_pos h]
theorem keyErr_3 (l z x y : Int) (h : ¬ (l < 0 \/ 3 < l)) (h' : z < 0 \/ 22 < z) : keyErr l z x y = 3 := by unfold keyErr; rw [if_neg h,if_pos h']
theorem keyErr_4 (l z x y : Int) (h : ¬ (l < 0 \/ 3 < l)) (h' : ¬ (z < 0 \/ 22 < z)) (h'' : x < 0 \/ (2 : Int) ^ z.toNat <= x \/ y < 0 \/ (2 : Int) ^ z.toNat <= y) : keyErr l z x y = 4 := by unfold keyErr; rw [if_neg h,if_neg h',if_pos h'']
theorem keyErr_0 (l z x y : Int) (h : ¬ (l < 0 \/ 3 < l)) (h' : ¬ (z < 0 \/ 22 < z)) (h'' : ¬ (x < 0 \/ (2 : Int) ^ z.toNat <= x \/ y < 0 \/ (2 : Int) ^ z.toNat <= y)) : keyErr l z x y = 0 := by unfold keyErr; rw [if_neg h,if_neg h',if_neg h'']
set_option maxHeartbeats 1600000 in
theorem keyError_any (l z x y : Int) (w : World) :
    Calls Tryz.prog 33 #[.agg #[.int .i64 l,.int .i64 z,.int .i64 x,.int .i64 y]] w fun e w' => e = .returned (.int .i64 (keyErr l z x y)) /\ Below w.heap.size w w' := by
  by_cases h1 : l < 0
  . have HK := hide (keyErr_2 l z x y (Or.inl h1))
    go_enter Tryz.func33,Tryz.ntmps33
    go_wp2_with (go_at_call 56; refine (isZoom_any _ _).mono ?_; rintro e w1 ⟨rfl,rfl⟩)
    go_ret
    exact ⟨ret_int (unhide HK).symm,(Below.refl _ _).alloc (Nat.le_refl _) _⟩
  by_cases h2 : 3 < l
  . have HK := hide (keyErr_2 l z x y (Or.inr h2))
    go_enter Tryz.func33,Tryz.ntmps33
    go_wp2_with (go_at_call 56; refine (isZoom_any _ _).mono ?_; rintro e w1 ⟨rfl,rfl⟩)
    go_ret
    exact ⟨ret_int (unhide HK).symm,(Below.refl _ _).alloc (Nat.le_refl _) _⟩
  have hl : ¬ (l < 0 \/ 3 < l) := by omega
  by_cases h3 : z < 0
  . have HK := hide (keyErr_3 l z x y hl (Or.inl h3))
    have hzz := inR_f1 (n := z) (lo := 0) (hi := 22) h3
    clear hl
    go_enter Tryz.func33,Tryz.ntmps33
    go_wp2_with (go_at_call 56; refine (isZoom_any _ _).mono ?_; rintro e w1 ⟨rfl,rfl⟩)
    go_ret
    exact ⟨ret_int (unhide HK).symm,(Below.refl _ _).alloc (Nat.le_refl _) _⟩
  by_cases h4 : 22 < z
  . have HK := hide (keyErr_3 l z x y hl (Or.inr h4))
    have hzz := inR_f2 (n := z) (lo := 0) (hi := 22) h4
    clear hl
    go_enter Tryz.func33,Tryz.ntmps33
    go_wp2_with (go_at_call 56; refine (isZoom_any _ _).mono ?_; rintro e w1 ⟨rfl,rfl⟩)
    go_ret
    exact ⟨ret_int (unhide HK).symm,(Below.refl _ _).alloc (Nat.le_refl _) _⟩
  have hz : ¬ (z < 0 \/ 22 < z) := by omega
  have hzz := inR_t (n := z) (lo := 0) (hi := 22) (by omega) (by omega)
  have K4 := hide (keyErr_4 l z x y hl hz)
  have K0 := hide (keyErr_0 l z x y hl hz)
  obtain ⟨p1,p2⟩ := pow_cap z (by omega)
  have hw : wrap64 ((2 : Int) ^ z.toNat) = (2 : Int) ^ z.toNat := IntWalk.wrap64_in _ ⟨by omega,by omega⟩
  obtain ⟨N,hN⟩ : ∃ N,(2 : Int) ^ z.toNat = N := ⟨_,rfl⟩
  rw [hN] at p1 p2 K4 K0
  have hw' : wrap64 ((2 : Int) ^ z.toNat) = N := hw.trans hN
  clear hN hw hl hz
  by_cases h5 : x < 0
  . have HK := hide (unhide K4 (Or.inl h5))
    clear K4 K0
    go_enter Tryz.func33,Tryz.ntmps33
    go_wp2_with (go_at_call 56; refine (isZoom_any _ _).mono ?_; rintro e w1 ⟨rfl,rfl⟩)
    go_ret
    exact ⟨ret_int (unhide HK).symm,(Below.refl _ _).alloc (Nat.le_refl _) _⟩
  by_cases h6 : N <= x
  . have HK := hide (unhide K4 (Or.inr (Or.inl h6)))
    clear K4 K0
    go_enter Tryz.func33,Tryz.ntmps33
    go_wp2_with (go_at_call 56; refine (isZoom_any _ _).mono ?_; rintro e w1 ⟨rfl,rfl⟩)
    go_ret
    exact ⟨ret_int (unhide HK).symm,(Below.refl _ _).alloc (Nat.le_refl _) _⟩
  by_cases h7 : y < 0
  . have HK := hide (unhide K4 (Or.inr (Or.inr (Or.inl h7))))
    clear K4 K0
    go_enter Tryz.func33,Tryz.ntmps33
    go_wp2_with (go_at_call 56; refine (isZoom_any _ _).mono ?_; rintro e w1 ⟨rfl,rfl⟩)
    go_ret
    exact ⟨ret_int (unhide HK).symm,(Below.refl _ _).alloc (Nat.le_refl _) _⟩
  by_cases h8 : N <= y
  . have HK := hide (unhide K4 (Or.inr (Or.inr (Or.inr h8))))
    clear K4 K0
    go_enter Tryz.func33,Tryz.ntmps33
    go_wp2_with (go_at_call 56; refine (isZoom_any _ _).mono ?_; rintro e w1 ⟨rfl,rfl⟩)
    go_ret
    exact ⟨ret_int (unhide HK).symm,(Below.refl _ _).alloc (Nat.le_refl _) _⟩
  have HK := hide (unhide K0 (by omega))
  clear K4 K0
  go_enter Tryz.func33,Tryz.ntmps33
  go_wp2_with (go_at_call 56; refine (isZoom_any _ _).mono ?_; rintro e w1 ⟨rfl,rfl⟩)
  go_ret
  exact ⟨ret_int (unhide HK).symm,(Below.refl _ _).alloc (Nat.le_refl _) _⟩
def un (z : Int) : Int := (2 : Int) ^ (27 - z.toNat)
theorem un_eq (n : Nat) (h : n <= 22) : (134217728 : Int) / (2 : Int) ^ n = (2 : Int) ^ (27 - n) /\ (32 : Int) <= (2 : Int) ^ (27 - n) /\ (2 : Int) ^ (27 - n) <= 134217728 /\ (2 : Int) ^ n * (2 : Int) ^ (27 - n) = 134217728 := by
  have : n ∈ List.range 23 := by simp; omega
  have key : ∀ m ∈ List.range 23,(134217728 : Int) / (2 : Int) ^ m = (2 : Int) ^ (27 - m) /\ (32 : Int) <= (2 : Int) ^ (27 - m) /\ (2 : Int) ^ (27 - m) <= 134217728 /\ (2 : Int) ^ m * (2 : Int) ^ (27 - m) = 134217728 := by decide
  exact key n this
theorem unit_yes (z : Int) (w : World) (h1 : 0 <= z) (h2 : z <= 22) :
    Calls Tryz.prog 87 #[.int .i64 z] w fun e w' => e = .returned (.int .i64 (un z)) /\ w = w' := by
  have h := inR_t h1 h2
  have H := hide (un_eq z.toNat (by omega)).1
  go_enter Tryz.func87,Tryz.ntmps87
  go_wp2_with (go_at_call 56; refine (isZoom_any _ _).mono ?_; rintro e w1 ⟨rfl,rfl⟩)
  go_ret
  exact ⟨ret_int (unhide H),rfl⟩
theorem held39 : Tryz.prog.stoodInHeld 39 = false := by kernel_rfl
theorem flds39 : Tryz.prog.underlying 39 = some (.struct (Tryz.prog.fieldsOf 39)) := by kernel_rfl
theorem flds39' : (Tryz.prog.fieldsOf 39).toList.map (fun f => (f.type, f.offset, f.name == "_")) = [(3, 0, false), (3, 1, false), (3, 2, false), (3, 3, false)] := by kernel_rfl
theorem eq_struct39 (w : World) (l z x y l' z' x' y' : Int) : (Op.equalIn 10000 39 (.agg #[.int .i64 l,.int .i64 z,.int .i64 x,.int .i64 y]) (.agg #[.int .i64 l',.int .i64 z',.int .i64 x',.int .i64 y'])).run Tryz.prog w = .ok (decide ((⟨l,z,x,y⟩ : K4) = ⟨l',z',x',y'⟩)) w := by
  rw [run_equalIn_agg w 9999 39 _ _ flds39 held39]
  have h := flds39'
  rcases hf : (Tryz.prog.fieldsOf 39).toList with _ | ⟨f0,_ | ⟨f1,_ | ⟨f2,_ | ⟨f3,_ | ⟨f4,r⟩⟩⟩⟩⟩ <;> rw [hf] at h <;> simp at h
  obtain ⟨⟨a1,a2,a3⟩,⟨b1,b2,b3⟩,⟨c1,c2,c3⟩,⟨d1,d2,d3⟩⟩ := h
  have E : ∀ (a b : Int),(Op.equalIn 9999 3 (.int .i64 a) (.int .i64 b)).run Tryz.prog w = .ok (a == b) w := fun a b => run_equalIn_int w 9998 3 _ _ a b Tryz.underlying3
  have P0 : ∀ (a b c d : Int),(part 3 #[.int .i64 a,.int .i64 b,.int .i64 c,.int .i64 d] 0).run Tryz.prog w = .ok (.int .i64 a) w := fun a b c d => by simp [go_sem]
  have P1 : ∀ (a b c d : Int),(part 3 #[.int .i64 a,.int .i64 b,.int .i64 c,.int .i64 d] 1).run Tryz.prog w = .ok (.int .i64 b) w := fun a b c d => by simp [go_sem]
  have P2 : ∀ (a b c d : Int),(part 3 #[.int .i64 a,.int .i64 b,.int .i64 c,.int .i64 d] 2).run Tryz.prog w = .ok (.int .i64 c) w := fun a b c d => by simp [go_sem]
  have P3 : ∀ (a b c d : Int),(part 3 #[.int .i64 a,.int .i64 b,.int .i64 c,.int .i64 d] 3).run Tryz.prog w = .ok (.int .i64 d) w := fun a b c d => by simp [go_sem]
  by_cases e0 : l = l' <;> by_cases e1 : z = z' <;> by_cases e2 : x = x' <;> by_cases e3 : y = y' <;>
  simp only [Op.eqFields,a1,a2,a3,b1,b2,b3,c1,c2,c3,d1,d2,d3,ne_eq,not_false_eq_true,if_true,Sem.run_bind,Sem.run_ite,P0,P1,P2,P3,E,Result.andThen_ok,K4.mk.injEq] <;> simp [e0,e1,e2,e3]
theorem eql39 (w : World) (l z x y l' z' x' y' : Int) : (binOp .eql 39 (.agg #[.int .i64 l,.int .i64 z,.int .i64 x,.int .i64 y]) (.agg #[.int .i64 l',.int .i64 z',.int .i64 x',.int .i64 y'])).run Tryz.prog w = .ok (.bool (decide ((⟨l,z,x,y⟩ : K4) = ⟨l',z',x',y'⟩))) w := by
  rw [run_eql_struct,eq_struct39]; rfl
theorem neq39 (w : World) (l z x y l' z' x' y' : Int) : (binOp .neq 39 (.agg #[.int .i64 l,.int .i64 z,.int .i64 x,.int .i64 y]) (.agg #[.int .i64 l',.int .i64 z',.int .i64 x',.int .i64 y'])).run Tryz.prog w = .ok (.bool (!decide ((⟨l,z,x,y⟩ : K4) = ⟨l',z',x',y'⟩))) w := by
  rw [run_neq_struct,eq_struct39]; rfl
theorem i64_of (x : Int) (h : -9223372036854775808 <= x /\ x <= 9223372036854775807) : IntKind.i64.wrap x = x := by rw [IntKind.wrap_i64]; omega
theorem sz39 (l z x y : Int) : (Tryz.prog.info? 39).map (·.size) = some (#[Value.int .i64 l,Value.int .i64 z,Value.int .i64 x,Value.int .i64 y] : Array Value).size := by kernel_rfl
set_option maxHeartbeats 1600000 in
theorem blockOf_any (l z x y : Int) (w : World) (hx : 0 <= x /\ x <= 9223372036854775807) (hy : 0 <= y /\ y <= 9223372036854775807) :
    Calls Tryz.prog 68 #[.agg #[.int .i64 l,.int .i64 z,.int .i64 x,.int .i64 y]] w fun e w' => e = .returned (.agg #[.int .i64 l,.int .i64 z,.int .i64 (x - x % 2),.int .i64 (y - y % 2)]) /\ Below w.heap.size w w' := by
  have hX : IntKind.i64.wrap (x - Int.tmod x 2) = x - x % 2 := by rw [Int.tmod_eq_emod_of_nonneg hx.1]; exact i64_of _ (by omega)
  have hY : IntKind.i64.wrap (y - Int.tmod y 2) = y - y % 2 := by rw [Int.tmod_eq_emod_of_nonneg hy.1]; exact i64_of _ (by omega)
  go_enter Tryz.func68,Tryz.ntmps68
  go_wp2_with fail
  have HZ := heap_alloc_new (w.alloc (.cells #[.int .i64 l,.int .i64 z,.int .i64 (x - x % 2),.int .i64 (y - y % 2)] 39)) (.cells #[.int .i64 l,.int .i64 z,.int .i64 (x - x % 2),.int .i64 (y - y % 2)] 39 (0,0))
  rw [show (w.alloc (.cells #[.int .i64 l,.int .i64 z,.int .i64 (x - x % 2),.int .i64 (y - y % 2)] 39)).heap.size = w.heap.size + 1 by simp] at HZ
  refine bodyPost_ret (v := .agg #[.int .i64 l,.int .i64 z,.int .i64 (x - x % 2),.int .i64 (y - y % 2)]) (results_cell_row Tryz.results68 _ _ (w.heap.size + 1) 39 _ (0,0) _ rfl HZ Tryz.underlying39 rfl (sz39 _ _ _ _)) rfl ⟨rfl,?_⟩
  exact ((Below.refl _ _).alloc (Nat.le_refl _) _).alloc (by simp) _
theorem mul_in (a b : Int) (ha : -1073741824 <= a /\ a <= 1073741824) (hb : -1073741824 <= b /\ b <= 1073741824) : -1152921504606846976 <= a * b /\ a * b <= 1152921504606846976 := by
  have h := Nat.mul_le_mul (show a.natAbs <= 1073741824 by omega) (show b.natAbs <= 1073741824 by omega)
  rw [<- Int.natAbs_mul] at h
  generalize a * b = c at *
  omega
theorem mul_w (a b : Int) (ha : -1073741824 <= a /\ a <= 1073741824) (hb : -1073741824 <= b /\ b <= 1073741824) : wrap64 (a * b) = a * b := by
  have := mul_in a b ha hb
  exact IntWalk.wrap64_in _ ⟨by omega,by omega⟩
theorem i64_in (x : Int) (h : -9223372036854775808 <= x /\ x <= 9223372036854775807) : IntKind.i64.wrap x = x := by rw [IntKind.wrap_i64]; omega
theorem below_alloc {B : Nat} {a w : World} (h : Below B a w) (hB : B <= a.heap.size) (o : Obj) : Below B a (w.alloc o) := h.alloc (Nat.le_trans hB h.size) o
theorem below_drewN {B : Nat} {a w : World} (h : Below B a w) (n : Nat) : Below B a (w.drewN n) := ⟨h.os,h.tape,h.output,h.size,h.block⟩
theorem product_any (a b : Int) (w : World) (ha : -1073741824 <= a /\ a <= 1073741824) (hb : -1073741824 <= b /\ b <= 1073741824) :
    Calls Tryz.prog 128 #[.int .i64 a,.int .i64 b] w fun e w' => e = .returned (.int .i64 (a * b)) /\ w = w' := by
  have h := mul_w a b ha hb
  clear ha hb
  go_enter Tryz.func128,Tryz.ntmps128
  go_wp2
  go_ret
  exact ⟨ret_int h,rfl⟩
def cnt (ax ay bx yb x y : Int) : Bool :=
  if ay <= y /\ y < yb then decide ((x - ax) * (yb - ay) < (bx - ax) * (y - ay))
  else if yb <= y /\ y < ay then decide ((x - bx) * (ay - yb) < (ax - bx) * (y - yb)) else false
def W30 (a : Int) : Prop := 0 <= a /\ a <= 1073741824
set_option maxHeartbeats 1600000 in
theorem counts_up (ax ay bx yb x y : Int) (w : World) (h1 : W30 ax) (h2 : W30 ay) (h3 : W30 bx) (h4 : W30 yb) (h5 : W30 x) (h6 : W30 y) (c1 : ay <= y) (c2 : y < yb) :
    Calls Tryz.prog 116 #[.agg #[.int .i64 ax,.int .i64 ay],.agg #[.int .i64 bx,.int .i64 yb],.agg #[.int .i64 x,.int .i64 y]] w fun e w' => e = .returned (.bool (cnt ax ay bx yb x y)) /\ Below w.heap.size w w' := by
  unfold W30 at h1 h2 h3 h4 h5 h6
  have H : Hid (cnt ax ay bx yb x y = decide ((x - ax) * (yb - ay) < (bx - ax) * (y - ay))) := by show cnt ax ay bx yb x y = _; simp [cnt,c1,c2]
  have c3 : ¬ yb < ay := by omega
  have c4 : decide (y < ay) = false := decide_eq_false (by omega)
  have e1 := i64_in (bx - ax) (by omega)
  have e2 := i64_in (y - ay) (by omega)
  have e3 := i64_in (x - ax) (by omega)
  have e4 := i64_in (yb - ay) (by omega)
  have P1 := fun W => product_any (bx - ax) (y - ay) W (by omega) (by omega)
  have P2 := fun W => product_any (x - ax) (yb - ay) W (by omega) (by omega)
  go_enter Tryz.func116,Tryz.ntmps116
  go_wp2
  go_region
  all_goals
    go_wp2
    go_quiet (first | exact (P1 _).mono fun e w' h => ⟨h.1,_,h.2.symm⟩ | exact (P2 _).mono fun e w' h => ⟨h.1,_,h.2.symm⟩)
    go_wp2
    go_ret
    refine ⟨ret_bool (unhide H).symm,?_⟩
    repeat first | exact Below.refl _ _ | refine below_drewN ?_ _ | refine Below.drew ?_ | refine below_alloc ?_ (Nat.le_refl _) _
set_option maxHeartbeats 1600000 in
theorem counts_down (ax ay bx yb x y : Int) (w : World) (h1 : W30 ax) (h2 : W30 ay) (h3 : W30 bx) (h4 : W30 yb) (h5 : W30 x) (h6 : W30 y) (c1 : yb <= y) (c2 : y < ay) :
    Calls Tryz.prog 116 #[.agg #[.int .i64 ax,.int .i64 ay],.agg #[.int .i64 bx,.int .i64 yb],.agg #[.int .i64 x,.int .i64 y]] w fun e w' => e = .returned (.bool (cnt ax ay bx yb x y)) /\ Below w.heap.size w w' := by
  unfold W30 at h1 h2 h3 h4 h5 h6
  have H : Hid (cnt ax ay bx yb x y = decide ((x - bx) * (ay - yb) < (ax - bx) * (y - yb))) := by show cnt ax ay bx yb x y = _; simp [cnt,c1,c2]; intros; omega
  have c3 : yb < ay := by omega
  have c4 : decide (y < yb) = false := decide_eq_false (by omega)
  have e1 := i64_in (ax - bx) (by omega)
  have e2 := i64_in (y - yb) (by omega)
  have e3 := i64_in (x - bx) (by omega)
  have e4 := i64_in (ay - yb) (by omega)
  have P1 := fun W => product_any (ax - bx) (y - yb) W (by omega) (by omega)
  have P2 := fun W => product_any (x - bx) (ay - yb) W (by omega) (by omega)
  go_enter Tryz.func116,Tryz.ntmps116
  go_wp2
  go_region
  all_goals
    go_wp2
    go_region
    all_goals
      go_wp2
      go_quiet (first | exact (P1 _).mono fun e w' h => ⟨h.1,_,h.2.symm⟩ | exact (P2 _).mono fun e w' h => ⟨h.1,_,h.2.symm⟩)
      go_wp2
      go_ret
      refine ⟨ret_bool (unhide H).symm,?_⟩
      repeat first | exact Below.refl _ _ | refine below_drewN ?_ _ | refine Below.drew ?_ | refine below_alloc ?_ (Nat.le_refl _) _
set_option maxHeartbeats 1600000 in
theorem counts_no (ax ay bx yb x y : Int) (w : World) (h : (y < ay /\ y < yb) \/ (ay <= y /\ yb <= y)) :
    Calls Tryz.prog 116 #[.agg #[.int .i64 ax,.int .i64 ay],.agg #[.int .i64 bx,.int .i64 yb],.agg #[.int .i64 x,.int .i64 y]] w fun e w' => e = .returned (.bool (cnt ax ay bx yb x y)) /\ Below w.heap.size w w' := by
  have H : Hid (cnt ax ay bx yb x y = false) := by
    show cnt ax ay bx yb x y = _
    unfold cnt
    rw [if_neg (by omega),if_neg (by omega)]
  rcases h with ⟨c1,c2⟩ | ⟨c1,c2⟩
  . have d1 : decide (y < ay) = true := decide_eq_true c1
    have d2 : decide (y < yb) = true := decide_eq_true c2
    clear c1 c2
    go_enter Tryz.func116,Tryz.ntmps116
    go_wp2
    go_ret
    refine ⟨ret_bool (unhide H).symm,?_⟩
    repeat first | exact Below.refl _ _ | refine below_drewN ?_ _ | refine Below.drew ?_ | refine below_alloc ?_ (Nat.le_refl _) _
  . have d1 : decide (y < ay) = false := decide_eq_false (by omega)
    have d2 : decide (y < yb) = false := decide_eq_false (by omega)
    clear c1 c2
    go_enter Tryz.func116,Tryz.ntmps116
    go_wp2
    go_ret
    refine ⟨ret_bool (unhide H).symm,?_⟩
    repeat first | exact Below.refl _ _ | refine below_drewN ?_ _ | refine Below.drew ?_ | refine below_alloc ?_ (Nat.le_refl _) _
theorem counts_any (ax ay bx yb x y : Int) (w : World) (h1 : W30 ax) (h2 : W30 ay) (h3 : W30 bx) (h4 : W30 yb) (h5 : W30 x) (h6 : W30 y) :
    Calls Tryz.prog 116 #[.agg #[.int .i64 ax,.int .i64 ay],.agg #[.int .i64 bx,.int .i64 yb],.agg #[.int .i64 x,.int .i64 y]] w fun e w' => e = .returned (.bool (cnt ax ay bx yb x y)) /\ Below w.heap.size w w' := by
  by_cases c1 : ay <= y
  . by_cases c2 : y < yb
    . exact counts_up ax ay bx yb x y w h1 h2 h3 h4 h5 h6 c1 c2
    . exact counts_no ax ay bx yb x y w (by omega)
  . by_cases c2 : yb <= y
    . exact counts_down ax ay bx yb x y w h1 h2 h3 h4 h5 h6 c2 (by omega)
    . exact counts_no ax ay bx yb x y w (by omega)
def near (mx my r x y : Int) : Bool := decide ((x - mx) * (x - mx) + (y - my) * (y - my) <= r * r)
set_option maxHeartbeats 1600000 in
theorem isNear_any (mx my r x y : Int) (w : World) (h1 : W30 mx) (h2 : W30 my) (h5 : W30 x) (h6 : W30 y) (h7 : W30 r) :
    Calls Tryz.prog 115 #[.agg #[.int .i64 mx,.int .i64 my],.int .i64 r,.agg #[.int .i64 x,.int .i64 y]] w fun e w' => e = .returned (.bool (near mx my r x y)) /\ Below w.heap.size w w' := by
  unfold W30 at h1 h2 h5 h6 h7
  have m1 := mul_in (x - mx) (x - mx) (by omega) (by omega)
  have m2 := mul_in (y - my) (y - my) (by omega) (by omega)
  have m3 : wrap64 ((x - mx) * (x - mx) + (y - my) * (y - my)) = (x - mx) * (x - mx) + (y - my) * (y - my) := IntWalk.wrap64_in _ ⟨by omega,by omega⟩
  clear m1 m2
  go_enter Tryz.func115,Tryz.ntmps115
  go_wp2_with (go_at_call 128; refine (product_any _ _ _ ⟨by omega,by omega⟩ ⟨by omega,by omega⟩).mono ?_; rintro e w1 ⟨rfl,rfl⟩)
  go_ret
  refine ⟨ret_bool ?_,?_⟩
  . rfl
  . repeat first | exact Below.refl _ _ | refine below_drewN ?_ _ | refine Below.drew ?_ | refine below_alloc ?_ (Nat.le_refl _) _
theorem qA {α : Type} (l : List α) (i : Nat) (a : α) : l.toArray.setIfInBounds i a = (l.set i a).toArray := List.setIfInBounds_toArray ..
theorem qB {α : Type} (a b : α) (l : List α) (n : Nat) : (a :: l).set (n + 1) b = a :: l.set n b := List.set_cons_succ ..
theorem qC {α : Type} (a b : α) (l : List α) : (a :: l).set 0 b = b :: l := List.set_cons_zero ..
abbrev Cq (w : World) : World -> Prop := fun w' => Below w.heap.size w w'
theorem region_bq {id : Nat} {Q : Exit -> Act -> World -> Prop} {a : Act} {w : World} {l : List Oper} (hm : Tryz.prog.follows .mixedOrders = true) (hB : Region.lexB .any l.toArray = true)
    (h : wpQuiet Tryz.prog l.toArray (Cq w) (fun a' => ∀ w',Below w.heap.size w w' -> Q .normal a' w') l a) : (Code.region id l.toArray true).wp Tryz.prog Q a w :=
  wp_region_quiet (C := Cq w) hm hB (Below.drew (Below.refl _ _)) (by simpa using h)
section
variable {ops : Array Oper} {w : World} {Q : Act -> Prop} {a : Act} {o : Oper} {rest : List Oper}
theorem q_val (hw : Region.wanted o (yielded ops a.tmps) = true) (v : Value) (h : ∀ w',Below w.heap.size w w' -> (execOp a.eval o).run Tryz.prog w' = .ok (.value v) w') (hk : wpQuiet Tryz.prog ops (Cq w) Q rest (a.put o.dst v)) :
    wpQuiet Tryz.prog ops (Cq w) Q (o :: rest) a :=
  BigFrame.wpQuiet_want hw fun _ hK => ⟨v,fun w' hw' => by unfold Oper.quietAt; rw [h w' hw']; exact ⟨rfl,rfl⟩,hK _ hk⟩
theorem q_move (hw : Region.wanted o (yielded ops a.tmps) = true) (x : Operand) (ho : o.op = .move x) (v : Value) (hv : a.eval x = v) (hk : wpQuiet Tryz.prog ops (Cq w) Q rest (a.put o.dst v)) :
    wpQuiet Tryz.prog ops (Cq w) Q (o :: rest) a :=
  BigFrame.wpQuiet_want hw fun _ hK => BigFrame.quiet_move x ho (by rw [hv]; exact hK _ hk)
theorem q_assign (hw : Region.wanted o (yielded ops a.tmps) = true) (x : Operand) (ho : o.op = .assign x) (v : Value) (hv : a.eval x = v) (hk : wpQuiet Tryz.prog ops (Cq w) Q rest (a.put o.dst v)) :
    wpQuiet Tryz.prog ops (Cq w) Q (o :: rest) a :=
  BigFrame.wpQuiet_want hw fun _ hK => BigFrame.quiet_assign x ho (by rw [hv]; exact hK _ hk)
theorem q_skip (hw : Region.wanted o (yielded ops a.tmps) = false) (hk : wpQuiet Tryz.prog ops (Cq w) Q rest (a.put o.dst undef)) :
    wpQuiet Tryz.prog ops (Cq w) Q (o :: rest) a := BigFrame.wpQuiet_skip hw hk
theorem q_load (hw : Region.wanted o (yielded ops a.tmps) = true) (ty : TypeId) (x : Operand) (ho : o.op = .load ty x) (b off : Nat) (hx : a.eval x = .pointer (some ⟨b,off,none⟩)) (cs : Array Value) (d : TypeDesc)
    (hu : Tryz.prog.underlying ty = some d) (hd : d.isRow = true) (hi : (Tryz.prog.info? ty).map (·.size) = some cs.size)
    (hc : ∀ w',Below w.heap.size w w' -> w'.rangeAt b off cs.toList) (hk : wpQuiet Tryz.prog ops (Cq w) Q rest (a.put o.dst (.agg cs))) :
    wpQuiet Tryz.prog ops (Cq w) Q (o :: rest) a := by
  refine q_val hw _ (fun w' hw' => ?_) hk
  have := run_loadVar_mid (P := Tryz.prog) w' b off ty cs.toList d (hc w' hw') hu hd (by simpa using hi)
  unfold execOp
  simp only [ho,hx,Instr.loadAt,Instr.sureAddr,Sem.run_bind,Sem.run_pure,Result.andThen_ok,this,Array.toArray_toList]
theorem q_call (hw : Region.wanted o (yielded ops a.tmps) = true) (f : FuncId) (args : Array Value) (h0 : ∀ w',(execOp a.eval o).run Tryz.prog w' = .ok (.enter f args) w') (v : Value)
    (hc : ∀ w',Calls Tryz.prog f args w' fun e w'' => e = .returned v /\ Below w'.heap.size w' w'') (hk : wpQuiet Tryz.prog ops (Cq w) Q rest (a.put o.dst v)) :
    wpQuiet Tryz.prog ops (Cq w) Q (o :: rest) a :=
  BigFrame.wpQuiet_want hw fun _ hK => ⟨v,fun w' hw' => by
    unfold Oper.quietAt; rw [h0 w']
    exact ⟨rfl,(hc w').mono fun e w'' h => ⟨h.1,Below.trans hw' (h.2.mono hw'.size)⟩⟩,hK _ hk⟩
end
theorem rng_of {W : World} {b : Nat} {cs : Array Value} {t : TypeId} (h : W.heap[b]? = some (.cells cs t (0,0))) : W.rangeAt b 0 cs.toList := by
  intro j v hv
  rw [Nat.zero_add,blk_cells h]
  simpa using hv
theorem rng_on {W W' : World} {b : Nat} {cs : Array Value} {t : TypeId} (h : W.heap[b]? = some (.cells cs t (0,0))) (hb : Below W.heap.size W W') : W'.rangeAt b 0 cs.toList := rng_of (blk_on h hb)
theorem sz59 (x y : Int) : (Tryz.prog.info? 155).map (·.size) = some (#[Value.int .i64 x,Value.int .i64 y] : Array Value).size := by kernel_rfl
def cix (f : Nat -> Int) (i : Int) : Nat := if i < 0 \/ f 7 <= i \/ 8 <= i then 0 else i.toNat
set_option maxHeartbeats 1600000 in
theorem corner_any (f : Nat -> Int) (i : Int) (w : World) :
    Calls Tryz.prog 117 #[.agg (fc f),.int .i64 i] w fun e w' => e = .returned (.agg #[.int .i64 (f (8 + cix f i)),.int .i64 (f (16 + cix f i))]) /\ Below w.heap.size w w' := by
  have c7 := fc_at f 7 (by decide)
  have c8 := fc_at f 8 (by decide)
  have c16 := fc_at f 16 (by decide)
  obtain ⟨N,hN⟩ : ∃ K,f 7 = K := ⟨_,rfl⟩
  rw [hN] at c7
  by_cases h1 : i < 0
  . have H : Hid (cix f i = 0) := by show cix f i = 0; simp [cix,h1]
    clear hN
    go_enter Tryz.func117,Tryz.ntmps117
    go_wp2
    refine bodyPost_ret (v := .agg #[.int .i64 (f 8),.int .i64 (f 16)]) (by simp [results,Tryz.results117,go_sem]) rfl ⟨by rw [unhide H],?_⟩
    repeat first | exact Below.refl _ _ | refine below_drewN ?_ _ | refine Below.drew ?_ | refine below_alloc ?_ (Nat.le_refl _) _
  by_cases h2 : N <= i
  . have H : Hid (cix f i = 0) := by show cix f i = 0; simp [cix,h2,hN]
    clear hN
    go_enter Tryz.func117,Tryz.ntmps117
    go_wp2
    refine bodyPost_ret (v := .agg #[.int .i64 (f 8),.int .i64 (f 16)]) (by simp [results,Tryz.results117,go_sem]) rfl ⟨by rw [unhide H],?_⟩
    repeat first | exact Below.refl _ _ | refine below_drewN ?_ _ | refine Below.drew ?_ | refine below_alloc ?_ (Nat.le_refl _) _
  by_cases h3 : 8 <= i
  . have H : Hid (cix f i = 0) := by show cix f i = 0; simp [cix,h3]
    clear hN
    go_enter Tryz.func117,Tryz.ntmps117
    go_wp2
    refine bodyPost_ret (v := .agg #[.int .i64 (f 8),.int .i64 (f 16)]) (by simp [results,Tryz.results117,go_sem]) rfl ⟨by rw [unhide H],?_⟩
    repeat first | exact Below.refl _ _ | refine below_drewN ?_ _ | refine Below.drew ?_ | refine below_alloc ?_ (Nat.le_refl _) _
  obtain ⟨k,rfl⟩ := Int.eq_ofNat_of_zero_le (show 0 <= i by omega)
  have H : Hid (cix f (k : Int) = k) := by show cix f (k : Int) = k; unfold cix; rw [if_neg (by rw [hN]; omega)]; simp
  have cx := fc_at f (8 + k) (by omega)
  have cy := fc_at f (16 + k) (by omega)
  have hk8 : k < 8 := by omega
  clear hN
  go_enter Tryz.func117,Tryz.ntmps117
  go_wp2
  go_region
  all_goals
    go_wp2
    refine bodyPost_ret (v := .agg #[.int .i64 (f (8 + k)),.int .i64 (f (16 + k))]) (by simp [results,Tryz.results117,go_sem]) rfl ⟨by rw [unhide H],?_⟩
    repeat first | exact Below.refl _ _ | refine below_drewN ?_ _ | refine Below.drew ?_ | refine below_alloc ?_ (Nat.le_refl _) _
def edge (f : Nat -> Int) (n : Int) (k : Nat) (x y : Int) : Bool :=
  cnt (f (8 + k)) (f (16 + k)) (f (8 + (if n <= (k : Int) + 1 then 0 else k + 1))) (f (16 + (if n <= (k : Int) + 1 then 0 else k + 1))) x y
def par (f : Nat -> Int) (n : Int) (x y : Int) : Nat -> Bool
  | 0 => false
  | k + 1 => par f n x y k != edge f n k x y
def cov (f : Nat -> Int) (u x y : Int) : Bool := if f 2 = 1 then near (f 8) (f 16) (f 6 * u) x y else par f (f 7) x y (f 7).toNat
theorem inR_out {n lo hi : Int} (h : inR n lo hi = true) : lo <= n /\ n <= hi := by simpa [inR] using h
structure Rt (f : Nat -> Int) : Prop where
  id : 1 <= f 0 /\ f 0 <= 1000
  la : 0 <= f 1 /\ f 1 <= 3
  ink : 1 <= f 3 /\ f 3 <= 15
  rk : 0 <= f 4 /\ f 4 <= 9
  fr : 0 <= f 5 /\ f 5 <= 22
  kind : (f 2 = 0 /\ f 6 = 0 /\ 3 <= f 7 /\ f 7 <= 8) \/ (f 2 = 1 /\ 1 <= f 6 /\ f 6 <= 3 /\ f 7 = 1)
  px : ∀ i,i < 8 -> W30 (f (8 + i))
  py : ∀ i,i < 8 -> W30 (f (16 + i))
  rest : ∀ i : Nat,i < 8 -> f 7 <= (i : Int) -> f (8 + i) = 0 /\ f (16 + i) = 0
theorem right_out {f : Nat -> Int} (h : right f = true) : Rt f := by
  simp only [right,traits,Bool.and_eq_true] at h
  obtain ⟨⟨⟨⟨⟨⟨h0,h1⟩,h3⟩,h4⟩,h5⟩,hf⟩,hp⟩ := h
  simp only [pts,List.all_eq_true,List.mem_range,pt,Bool.and_eq_true,Bool.not_eq_true',Bool.and_eq_false_iff,Bool.or_eq_false_iff,decide_eq_false_iff_not,Decidable.not_not] at hp
  refine ⟨inR_out h0,inR_out h1,inR_out h3,inR_out h4,inR_out h5,?_,fun i hi => inR_out (hp i hi).1.1,fun i hi => inR_out (hp i hi).1.2,fun i hi hn => ?_⟩
  . unfold form at hf
    split at hf
    . rename_i e
      simp only [Bool.and_eq_true,decide_eq_true_eq] at hf
      have := inR_out hf.2
      exact Or.inl ⟨e,hf.1,this.1,this.2⟩
    . split at hf
      . rename_i e
        simp only [Bool.and_eq_true,decide_eq_true_eq] at hf
        have := inR_out hf.1
        exact Or.inr ⟨e,this.1,this.2,hf.2⟩
      . cases hf
  . rcases (hp i hi).2 with h | h
    . exact absurd hn h
    . exact h
theorem cix_at {f : Nat -> Int} (k : Nat) (h1 : (k : Int) < f 7) (h2 : f 7 <= 8) : cix f (k : Int) = k := by
  unfold cix; rw [if_neg (by omega)]; simp
theorem cix_next {f : Nat -> Int} (k : Nat) (h2 : f 7 <= 8) : cix f ((k : Int) + 1) = if f 7 <= (k : Int) + 1 then 0 else k + 1 := by
  unfold cix
  by_cases h : f 7 <= (k : Int) + 1
  . rw [if_pos (Or.inr (Or.inl h)),if_pos h]
  . rw [if_neg (by omega),if_neg h]; omega
set_option maxHeartbeats 1600000 in
theorem covers_any (f : Nat -> Int) (u x y : Int) (w : World) (hr : Rt f) (hx : W30 x) (hy : W30 y) (hu : 0 <= u /\ u <= 134217728) :
    Calls Tryz.prog 91 #[.agg (fc f),.int .i64 u,.agg #[.int .i64 x,.int .i64 y]] w fun e w' => e = .returned (.bool (cov f u x y)) /\ Below w.heap.size w w' := by
  have c2 := fc_at f 2 (by decide)
  have c6 := fc_at f 6 (by decide)
  have c7 := fc_at f 7 (by decide)
  have c8 := fc_at f 8 (by decide)
  have c16 := fc_at f 16 (by decide)
  have HR := hide hr
  rcases hr.kind with ⟨k2,k6,n1,n2⟩ | ⟨k2,k6,k6',k7⟩
  . have H : Hid (cov f u x y = par f (f 7) x y (f 7).toNat) := by show cov f u x y = _; simp [cov,k2]
    rw [k2] at c2
    obtain ⟨N,hN⟩ : ∃ N,f 7 = N := ⟨_,rfl⟩
    rw [hN] at c7 n1 n2
    have HN := hide hN
    clear k2 k6 hr hN
    go_enter Tryz.func91,Tryz.ntmps91
    go_wp2
    go_loopw [7,8] (fun v i wr => ∃ k : Nat,(k : Int) <= N /\ i = .int .i64 k /\ v = .bool (par f N x y k) /\ wr.heap[w.heap.size]? = some (.cells (fc f) 86 (0,0)) /\ wr.heap[w.heap.size + 1]? = some (.cells #[.int .i64 x,.int .i64 y] 155 (0,0)) /\ Below w.heap.size w wr) (fun _ i _ => 8 - (intOf i).toNat)
    case atStart =>
      refine ⟨0,by omega,rfl,rfl,?_,?_,?_⟩
      . rw [Below.heap_alloc _ _ _ (by simp)]; exact heap_alloc_new _ _
      . simpa using heap_alloc_new (w.alloc (.cells (fc f) 86 (0,0))) (.cells #[.int .i64 x,.int .i64 y] 155 (0,0))
      . repeat first | exact Below.refl _ _ | refine below_drewN ?_ _ | refine Below.drew ?_ | refine below_alloc ?_ (Nat.le_refl _) _
    case round =>
      obtain ⟨k,hk,rfl,rfl,hg,hp,hb⟩ := hrel
      have hcell := blk_cells hg
      have hbw := hb.size
      by_cases hlt : (k : Int) < N
      . have e1 := cix_at (f := f) k (by rw [unhide HN]; omega) (by rw [unhide HN]; omega)
        have e2 := cix_next (f := f) k (by rw [unhide HN]; omega)
        rw [unhide HN] at e2
        obtain ⟨j,hj⟩ : ∃ j,(if N <= (k : Int) + 1 then 0 else k + 1) = j := ⟨_,rfl⟩
        have hj8 : j < 8 := by rw [<- hj]; split <;> omega
        have C1 := fun W => corner_any f (k : Int) W
        have C2 := fun W => corner_any f ((k : Int) + 1) W
        rw [e1] at C1
        rw [e2,hj] at C2
        have C3 := fun W => counts_any (f (8 + k)) (f (16 + k)) (f (8 + j)) (f (16 + j)) x y W ((unhide HR).px k (by omega)) ((unhide HR).py k (by omega)) ((unhide HR).px j hj8) ((unhide HR).py j hj8) hx hy
        have he' : Hid (edge f N k x y = cnt (f (8 + k)) (f (16 + k)) (f (8 + j)) (f (16 + j)) x y) := by show edge f N k x y = _; unfold edge; rw [hj]
        have hw1 := i64_in ((k : Int) + 1) (by omega)
        clear e1 e2 hj
        cases he : edge f N k x y with
        | true =>
          rw [<- unhide he',he] at C3
          go_wp2
          refine region_bq (by kernel_rfl) (by kernel_rfl) ?_
          refine q_load rfl 86 _ rfl w.heap.size 0 rfl (fc f) _ Tryz.underlying86 rfl (szf f) (fun w' h => rng_on hg h) ?_
          simp only [Act.put,qA,qB,qC]
          refine q_move rfl _ rfl (.int .i64 k) rfl ?_
          simp only [Act.put,qA,qB,qC]
          refine q_call rfl 117 #[.agg (fc f),.int .i64 k] (fun _ => by simp [go_sem]) _ C1 ?_
          simp only [Act.put,qA,qB,qC]
          refine q_load rfl 86 _ rfl w.heap.size 0 rfl (fc f) _ Tryz.underlying86 rfl (szf f) (fun w' h => rng_on hg h) ?_
          simp only [Act.put,qA,qB,qC]
          refine q_move rfl _ rfl (.int .i64 k) rfl ?_
          simp only [Act.put,qA,qB,qC]
          refine q_val rfl (.int .i64 ((k : Int) + 1)) (fun _ _ => by simp [go_sem,hw1]) ?_
          simp only [Act.put,qA,qB,qC]
          refine q_call rfl 117 #[.agg (fc f),.int .i64 ((k : Int) + 1)] (fun _ => by simp [go_sem]) _ C2 ?_
          simp only [Act.put,qA,qB,qC]
          refine q_load rfl 155 _ rfl (w.heap.size + 1) 0 rfl #[.int .i64 x,.int .i64 y] _ Tryz.underlying155 rfl (sz59 x y) (fun w' h => rng_on hp h) ?_
          simp only [Act.put,qA,qB,qC]
          refine q_call rfl 116 #[.agg #[.int .i64 (f (8 + k)),.int .i64 (f (16 + k))],.agg #[.int .i64 (f (8 + j)),.int .i64 (f (16 + j))],.agg #[.int .i64 x,.int .i64 y]] (fun _ => by simp [go_sem]) _ C3 ?_
          simp only [Act.put,qA,qB,qC]
          refine wpQuiet_nil ?_
          intro w' hw'
          go_wp2
          go_roundw
          case rel => exact ⟨k + 1,by omega,by go_num,congrArg Value.bool (by simp [par,he]),blk_on hg hw',blk_on hp hw',hb.trans (hw'.mono hbw)⟩
          case measure => simp [intOf]; omega
        | false =>
          rw [<- unhide he',he] at C3
          go_wp2
          refine region_bq (by kernel_rfl) (by kernel_rfl) ?_
          refine q_load rfl 86 _ rfl w.heap.size 0 rfl (fc f) _ Tryz.underlying86 rfl (szf f) (fun w' h => rng_on hg h) ?_
          simp only [Act.put,qA,qB,qC]
          refine q_move rfl _ rfl (.int .i64 k) rfl ?_
          simp only [Act.put,qA,qB,qC]
          refine q_call rfl 117 #[.agg (fc f),.int .i64 k] (fun _ => by simp [go_sem]) _ C1 ?_
          simp only [Act.put,qA,qB,qC]
          refine q_load rfl 86 _ rfl w.heap.size 0 rfl (fc f) _ Tryz.underlying86 rfl (szf f) (fun w' h => rng_on hg h) ?_
          simp only [Act.put,qA,qB,qC]
          refine q_move rfl _ rfl (.int .i64 k) rfl ?_
          simp only [Act.put,qA,qB,qC]
          refine q_val rfl (.int .i64 ((k : Int) + 1)) (fun _ _ => by simp [go_sem,hw1]) ?_
          simp only [Act.put,qA,qB,qC]
          refine q_call rfl 117 #[.agg (fc f),.int .i64 ((k : Int) + 1)] (fun _ => by simp [go_sem]) _ C2 ?_
          simp only [Act.put,qA,qB,qC]
          refine q_load rfl 155 _ rfl (w.heap.size + 1) 0 rfl #[.int .i64 x,.int .i64 y] _ Tryz.underlying155 rfl (sz59 x y) (fun w' h => rng_on hp h) ?_
          simp only [Act.put,qA,qB,qC]
          refine q_call rfl 116 #[.agg #[.int .i64 (f (8 + k)),.int .i64 (f (16 + k))],.agg #[.int .i64 (f (8 + j)),.int .i64 (f (16 + j))],.agg #[.int .i64 x,.int .i64 y]] (fun _ => by simp [go_sem]) _ C3 ?_
          simp only [Act.put,qA,qB,qC]
          refine wpQuiet_nil ?_
          intro w' hw'
          go_wp2
          go_roundw
          case rel => exact ⟨k + 1,by omega,by go_num,congrArg Value.bool (by simp [par,he]),blk_on hg hw',blk_on hp hw',hb.trans (hw'.mono hbw)⟩
          case measure => simp [intOf]; omega
      . have hkN : (k : Int) = N := by omega
        have HK : Hid ((f 7).toNat = k /\ f 7 = N) := by show (f 7).toNat = k /\ f 7 = N; rw [unhide HN]; omega
        clear hkN
        go_wp2
        go_ret
        refine ⟨ret_bool ?_,hb⟩
        rw [unhide H,(unhide HK).1,(unhide HK).2]
  . have H : Hid (cov f u x y = near (f 8) (f 16) (f 6 * u) x y) := by show cov f u x y = _; simp [cov,k2]
    rw [k2] at c2
    obtain ⟨S,hS⟩ : ∃ S,f 6 = S := ⟨_,rfl⟩
    rw [hS] at c6 k6 k6'
    have HS := hide hS
    have hSu : W30 (S * u) := by
      have : S = 1 \/ S = 2 \/ S = 3 := by omega
      unfold W30
      rcases this with rfl | rfl | rfl <;> omega
    have hm : wrap64 (S * u) = S * u := by unfold W30 at hSu; exact IntWalk.wrap64_in _ ⟨by omega,by omega⟩
    have HA : Hid (W30 (f 8) /\ W30 (f 16)) := ⟨hr.px 0 (by omega),hr.py 0 (by omega)⟩
    have HW := hide hSu
    clear k2 k6 k6' k7 hr hS hSu
    go_enter Tryz.func91,Tryz.ntmps91
    go_wp2_with (go_at_call 115; refine (isNear_any _ _ _ _ _ _ ?_ ?_ ?_ ?_ ?_).mono ?_)
    all_goals first | exact (unhide HA).1 | exact (unhide HA).2 | exact hx | exact hy | exact unhide HW | skip
    rintro e w1 ⟨rfl,hb1⟩
    have HB : Hid (Below w.heap.size w w1) := by
      refine Below.trans ?_ (hb1.mono ?_)
      . repeat first | exact Below.refl _ _ | refine below_drewN ?_ _ | refine Below.drew ?_ | refine below_alloc ?_ (Nat.le_refl _) _
      . simp; omega
    clear hb1
    go_wp2_with fail
    go_ret
    refine ⟨ret_bool ?_,unhide HB⟩
    rw [unhide H,unhide HS]
theorem check_t {f : Nat -> Int} (h : right f = true) (w : World) : Calls Tryz.prog 52 #[.agg (fc f)] w fun e w' => e = .returned (.int .i64 0) /\ Below w.heap.size w w' := by
  have := check_any f w; rw [h] at this; exact this
theorem check_f {f : Nat -> Int} (h : right f = false) (w : World) : Calls Tryz.prog 52 #[.agg (fc f)] w fun e w' => e = .returned (.int .i64 7) /\ Below w.heap.size w w' := by
  have := check_any f w; rw [h] at this; exact this
theorem un_in (z : Int) (h1 : 0 <= z) (h2 : z <= 22) : 32 <= un z /\ un z <= 134217728 := by
  have := un_eq z.toNat (by omega)
  unfold un; exact ⟨this.2.1,this.2.2.1⟩
def shw (f : Nat -> Int) (l z : Int) : Bool := decide (f 1 = l) && decide (f 5 <= z)
set_option maxHeartbeats 800000 in
theorem shows48_any (f : Nat -> Int) (l z x y : Int) (w : World) :
    Calls Tryz.prog 89 #[.agg (fc f),.agg #[.int .i64 l,.int .i64 z,.int .i64 x,.int .i64 y]] w fun e w' => e = .returned (.bool (shw f l z)) /\ Below w.heap.size w w' := by
  have c1 := fc_at f 1 (by decide)
  have c5 := fc_at f 5 (by decide)
  obtain ⟨L,hL⟩ : ∃ S,f 1 = S := ⟨_,rfl⟩
  obtain ⟨F,hF⟩ : ∃ S,f 5 = S := ⟨_,rfl⟩
  rw [hL] at c1; rw [hF] at c5
  have H : Hid (shw f l z = (decide (L = l) && decide (F <= z))) := by show shw f l z = _; simp [shw,hL,hF]
  clear hL hF
  by_cases h1 : L = l
  . subst h1
    go_enter Tryz.func89,Tryz.ntmps89
    go_wp2
    go_ret
    refine ⟨ret_bool ?_,?_⟩
    . rw [unhide H]; simp
    . repeat first | exact Below.refl _ _ | refine below_drewN ?_ _ | refine Below.drew ?_ | refine below_alloc ?_ (Nat.le_refl _) _
  . go_enter Tryz.func89,Tryz.ntmps89
    go_wp2
    go_ret
    refine ⟨ret_bool ?_,?_⟩
    . rw [unhide H]; simp [h1]
    . repeat first | exact Below.refl _ _ | refine below_drewN ?_ _ | refine Below.drew ?_ | refine below_alloc ?_ (Nat.le_refl _) _
set_option maxHeartbeats 800000 in
theorem meet_any (a b c d : Int) (w : World) :
    Calls Tryz.prog 140 #[.agg #[.int .i64 a,.int .i64 b],.agg #[.int .i64 c,.int .i64 d]] w fun e w' => e = .returned (.bool (decide (a <= d) && decide (c <= b))) /\ Below w.heap.size w w' := by
  by_cases h1 : a <= d
  . go_enter Tryz.func140,Tryz.ntmps140
    go_wp2
    go_ret
    refine ⟨ret_bool ?_,?_⟩
    . simp [h1]
    . repeat first | exact Below.refl _ _ | refine below_drewN ?_ _ | refine Below.drew ?_ | refine below_alloc ?_ (Nat.le_refl _) _
  . go_enter Tryz.func140,Tryz.ntmps140
    go_wp2
    go_ret
    refine ⟨ret_bool ?_,?_⟩
    . simp; intros; omega
    . repeat first | exact Below.refl _ _ | refine below_drewN ?_ _ | refine Below.drew ?_ | refine below_alloc ?_ (Nat.le_refl _) _
set_option maxHeartbeats 800000 in
theorem squareSide_any (p u : Int) (w : World) (hp : 0 <= p /\ p <= 4194304) (h1 : 0 <= 8 * p * u /\ 8 * p * u <= 1073741824) (h2 : 0 <= 8 * (p + 1) * u /\ 8 * (p + 1) * u <= 1073741824) :
    Calls Tryz.prog 142 #[.int .i64 p,.int .i64 u] w fun e w' => e = .returned (.agg #[.int .i64 (8 * p * u),.int .i64 (8 * (p + 1) * u)]) /\ Below w.heap.size w w' := by
  have q1 : wrap64 (8 * p * u) = 8 * p * u := IntWalk.wrap64_in _ ⟨by omega,by omega⟩
  have q2 : wrap64 (8 * (p + 1) * u) = 8 * (p + 1) * u := IntWalk.wrap64_in _ ⟨by omega,by omega⟩
  clear h1 h2
  go_enter Tryz.func142,Tryz.ntmps142
  go_wp2
  refine bodyPost_ret (v := .agg #[.int .i64 (8 * p * u),.int .i64 (8 * (p + 1) * u)]) (by simp [results,Tryz.results142,go_sem,q1,q2]) rfl ⟨rfl,?_⟩
  repeat first | exact Below.refl _ _ | refine below_drewN ?_ _ | refine Below.drew ?_ | refine below_alloc ?_ (Nat.le_refl _) _
def ac (g : Nat -> Int) : Array Value := (Array.range 8).map fun i => .int .i64 (g i)
theorem ac_size (g : Nat -> Int) : (ac g).size = 8 := by simp [ac]
theorem ac_at (g : Nat -> Int) (i : Nat) (h : i < 8) : (ac g)[i]? = some (.int .i64 (g i)) := by simp [ac,h]
def mnC (g : Nat -> Int) : Nat -> Int
  | 0 => g 0
  | k + 1 => if g k < mnC g k then g k else mnC g k
def mxC (g : Nat -> Int) : Nat -> Int
  | 0 => g 0
  | k + 1 => if mxC g k < g k then g k else mxC g k
theorem st0 {X W : World} {n : Nat} {a b v : Int} (hn : n = X.heap.size) (h : ∃ q,W = (X.alloc (.cells #[.int .i64 a,.int .i64 b] 207)).drewN q) : ∃ q,W.setCell ⟨n,0,none⟩ (.int .i64 v) = (X.alloc (.cells #[.int .i64 v,.int .i64 b] 207)).drewN q := by
  obtain ⟨q,rfl⟩ := h
  refine ⟨q,?_⟩
  show ((X.alloc (.cells #[.int .i64 a,.int .i64 b] 207)).setCell ⟨n,0,none⟩ (.int .i64 v)).drewN q = _
  rw [World.setCell_alloc_at _ _ _ _ _ hn]; rfl
theorem st1 {X W : World} {n : Nat} {a b v : Int} (hn : n = X.heap.size) (h : ∃ q,W = (X.alloc (.cells #[.int .i64 a,.int .i64 b] 207)).drewN q) : ∃ q,W.setCell ⟨n,1,none⟩ (.int .i64 v) = (X.alloc (.cells #[.int .i64 a,.int .i64 v] 207)).drewN q := by
  obtain ⟨q,rfl⟩ := h
  refine ⟨q,?_⟩
  show ((X.alloc (.cells #[.int .i64 a,.int .i64 b] 207)).setCell ⟨n,1,none⟩ (.int .i64 v)).drewN q = _
  rw [World.setCell_alloc_at _ _ _ _ _ hn]; rfl
theorem dr {W Y : World} (h : ∃ q,W = Y.drewN q) (m : Nat) : ∃ q,W.drewN m = Y.drewN q := by
  obtain ⟨q,rfl⟩ := h
  exact ⟨_,World.drewN_drewN _ _ _⟩
set_option maxHeartbeats 3200000 in
theorem boxSide_any (f g : Nat -> Int) (u : Int) (w : World) (hn : 1 <= f 7 /\ f 7 <= 8) (hg : ∀ i,i < 8 -> W30 (g i)) (hu : W30 (f 6 * u)) :
    Calls Tryz.prog 141 #[.agg (fc f),.agg (ac g),.int .i64 u] w fun e w' => e = .returned (.agg #[.int .i64 (mnC g (f 7).toNat - f 6 * u),.int .i64 (mxC g (f 7).toNat + f 6 * u)]) /\ Below w.heap.size w w' := by
  have c6 := fc_at f 6 (by decide)
  have c7 := fc_at f 7 (by decide)
  have a0 := ac_at g 0 (by decide)
  obtain ⟨S,hS⟩ : ∃ S,f 6 = S := ⟨_,rfl⟩
  obtain ⟨N,hN⟩ : ∃ S,f 7 = S := ⟨_,rfl⟩
  rw [hS] at c6 hu
  rw [hN] at c7 hn
  rw [hS,hN]
  clear hS hN
  obtain ⟨n1,n2⟩ := hn
  unfold W30 at hu
  obtain ⟨R,hR⟩ : ∃ R,S * u = R := ⟨_,rfl⟩
  rw [hR] at hu
  have q1 : wrap64 (S * u) = R := by rw [hR]; exact IntWalk.wrap64_in _ ⟨by omega,by omega⟩
  rw [hR]
  clear hR
  have HG := hide hg
  clear hg
  go_enter Tryz.func141,Tryz.ntmps141
  go_wp2
  go_loopw [8] (fun i wr => ∃ (k : Nat) (a b : Int),1 <= k /\ (k : Int) <= N /\ i = .int .i64 k /\ Hid (a = mnC g k) /\ Hid (b = mxC g k) /\ W30 a /\ W30 b /\ ∃ q,wr = (((((w.alloc (.cells (fc f) 86)).alloc (.cells (ac g) 84)).alloc (.cells #[.int .i64 0,.int .i64 0] 207)).alloc (.cells #[.int .i64 a,.int .i64 b] 207))).drewN q) (fun i _ => 8 - (intOf i).toNat)
  case atStart =>
    exact ⟨1,g 0,g 0,by omega,by omega,rfl,by simp [Hid,mnC],by simp [Hid,mxC],unhide HG 0 (by omega),unhide HG 0 (by omega),0,rfl⟩
  case round =>
    obtain ⟨k,a,b,hk1,hk,rfl,ha,hb,wa,wb,q,rfl⟩ := hrel
    by_cases hlt : (k : Int) < N
    . have hk8 : (k : Int) < 8 := by omega
      have ak := ac_at g k (by omega)
      obtain ⟨G,hG⟩ : ∃ S,g k = S := ⟨_,rfl⟩
      rw [hG] at ak
      have HGk := hide hG
      clear hG
      have wG : W30 G := (unhide HGk) ▸ unhide HG k (by omega)
      have WG := hide wG
      by_cases h1 : G < a
      . by_cases h2 : b < G
        . go_wp2
          go_quiet (fail)
          go_wp2
          go_quiet (fail)
          go_wp2
          go_roundw
          case rel => exact ⟨k + 1,G,G,by omega,by omega,by go_num,hide (by simp only [mnC,<- unhide ha,unhide HGk]; rw [if_pos h1]),hide (by simp only [mxC,<- unhide hb,unhide HGk]; rw [if_pos h2]),wG,wG,st1 (by simp) (dr (st0 (by simp) ⟨_,rfl⟩) _)⟩
          case measure => simp [intOf]; omega
        . go_wp2
          go_quiet (fail)
          go_wp2
          go_quiet (fail)
          go_wp2
          go_roundw
          case rel => exact ⟨k + 1,G,b,by omega,by omega,by go_num,hide (by simp only [mnC,<- unhide ha,unhide HGk]; rw [if_pos h1]),hide (by simp only [mxC,<- unhide hb,unhide HGk]; rw [if_neg (by omega)]),wG,wb,dr (st0 (by simp) ⟨_,rfl⟩) _⟩
          case measure => simp [intOf]; omega
      . by_cases h2 : b < G
        . go_wp2
          go_quiet (fail)
          go_wp2
          go_quiet (fail)
          go_wp2
          go_roundw
          case rel => exact ⟨k + 1,a,G,by omega,by omega,by go_num,hide (by simp only [mnC,<- unhide ha,unhide HGk]; rw [if_neg (by omega)]),hide (by simp only [mxC,<- unhide hb,unhide HGk]; rw [if_pos h2]),wa,wG,st1 (by simp) ⟨_,rfl⟩⟩
          case measure => simp [intOf]; omega
        . go_wp2
          go_quiet (fail)
          go_wp2
          go_quiet (fail)
          go_wp2
          go_roundw
          case rel => exact ⟨k + 1,a,b,by omega,by omega,by go_num,hide (by simp only [mnC,<- unhide ha,unhide HGk]; rw [if_neg (by omega)]),hide (by simp only [mxC,<- unhide hb,unhide HGk]; rw [if_neg (by omega)]),wa,wb,⟨_,rfl⟩⟩
          case measure => simp [intOf]; omega
    . have hkN : Hid (N.toNat = k) := by show N.toNat = k; omega
      unfold W30 at wa wb
      go_wp2
      refine bodyPost_ret (v := .agg #[.int .i64 (a - R),.int .i64 (b + R)]) (by simp [results,Tryz.results141,go_sem]) rfl ⟨?_,?_⟩
      . rw [unhide hkN,<- unhide ha,<- unhide hb]
      . repeat first | exact Below.refl _ _ | refine below_drewN ?_ _ | refine Below.drew ?_ | refine below_alloc ?_ (Nat.le_refl _) _ | refine Below.setCell ?_ (by simp only []; omega) _
def apB (g : Nat -> Int) (r lo : Int) (n : Nat) : Bool := (List.range n).all fun i => decide (g i + r < lo)
def apA (g : Nat -> Int) (r hi : Int) (n : Nat) : Bool := (List.range n).all fun i => decide (hi < g i - r)
def axT (g : Nat -> Int) (n : Nat) (r lo hi : Int) : Bool := !(apB g r lo n || apA g r hi n)
def Tch (f : Nat -> Int) (l z x y : Int) : Bool :=
  right f && decide (keyErr l z x y = 0) && shw f l z && (axT (fun i => f (8 + i)) (f 7).toNat (f 6 * un z) (8 * x * un z) (8 * (x + 1) * un z) && axT (fun i => f (16 + i)) (f 7).toNat (f 6 * un z) (8 * y * un z) (8 * (y + 1) * un z))
theorem mnC_spec (g : Nat -> Int) : ∀ n,1 <= n -> (∀ i,i < n -> mnC g n <= g i) /\ ∃ i,i < n /\ g i = mnC g n
  | 0,h => by omega
  | 1,_ => by
    refine ⟨fun i hi => ?_,0,by omega,by simp [mnC]⟩
    have : i = 0 := by omega
    subst this; simp [mnC]
  | n + 2,_ => by
    obtain ⟨h1,i,hi,h2⟩ := mnC_spec g (n + 1) (by omega)
    rw [mnC]
    by_cases h : g (n + 1) < mnC g (n + 1)
    . rw [if_pos h]
      refine ⟨fun j hj => ?_,n + 1,by omega,rfl⟩
      rcases Nat.lt_or_ge j (n + 1) with h' | h'
      . have := h1 j h'; omega
      . have : j = n + 1 := by omega
        subst this; exact Int.le_refl _
    . rw [if_neg h]
      refine ⟨fun j hj => ?_,i,by omega,h2⟩
      rcases Nat.lt_or_ge j (n + 1) with h' | h'
      . exact h1 j h'
      . have : j = n + 1 := by omega
        subst this; omega
theorem mxC_spec (g : Nat -> Int) : ∀ n,1 <= n -> (∀ i,i < n -> g i <= mxC g n) /\ ∃ i,i < n /\ g i = mxC g n
  | 0,h => by omega
  | 1,_ => by
    refine ⟨fun i hi => ?_,0,by omega,by simp [mxC]⟩
    have : i = 0 := by omega
    subst this; simp [mxC]
  | n + 2,_ => by
    obtain ⟨h1,i,hi,h2⟩ := mxC_spec g (n + 1) (by omega)
    rw [mxC]
    by_cases h : mxC g (n + 1) < g (n + 1)
    . rw [if_pos h]
      refine ⟨fun j hj => ?_,n + 1,by omega,rfl⟩
      rcases Nat.lt_or_ge j (n + 1) with h' | h'
      . have := h1 j h'; omega
      . have : j = n + 1 := by omega
        subst this; exact Int.le_refl _
    . rw [if_neg h]
      refine ⟨fun j hj => ?_,i,by omega,h2⟩
      rcases Nat.lt_or_ge j (n + 1) with h' | h'
      . exact h1 j h'
      . have : j = n + 1 := by omega
        subst this; omega
theorem apB_eq (g : Nat -> Int) (n : Nat) (r lo : Int) (h : 1 <= n) : apB g r lo n = decide (mxC g n + r < lo) := by
  obtain ⟨b1,j,hj,b2⟩ := mxC_spec g n h
  rw [Bool.eq_iff_iff]
  simp only [apB,decide_eq_true_eq,List.all_eq_true,List.mem_range]
  constructor
  . intro H; have := H j hj; omega
  . intro H k hk; have := b1 k hk; omega
theorem apA_eq (g : Nat -> Int) (n : Nat) (r hi : Int) (h : 1 <= n) : apA g r hi n = decide (hi < mnC g n - r) := by
  obtain ⟨b1,j,hj,b2⟩ := mnC_spec g n h
  rw [Bool.eq_iff_iff]
  simp only [apA,decide_eq_true_eq,List.all_eq_true,List.mem_range]
  constructor
  . intro H; have := H j hj; omega
  . intro H k hk; have := b1 k hk; omega
theorem axT_eq (g : Nat -> Int) (n : Nat) (r lo hi : Int) (h : 1 <= n) : (decide (mnC g n - r <= hi) && decide (lo <= mxC g n + r)) = axT g n r lo hi := by
  rw [axT,apB_eq g n r lo h,apA_eq g n r hi h,Bool.eq_iff_iff]
  simp only [Bool.and_eq_true,decide_eq_true_eq,Bool.not_eq_true',Bool.or_eq_false_iff,decide_eq_false_iff_not]
  omega
theorem keyErr_zero {l z x y : Int} (h : keyErr l z x y = 0) : (0 <= l /\ l <= 3) /\ (0 <= z /\ z <= 22) /\ (0 <= x /\ x < (2 : Int) ^ z.toNat) /\ (0 <= y /\ y < (2 : Int) ^ z.toNat) := by
  unfold keyErr at h
  by_cases h1 : l < 0 \/ 3 < l
  . rw [if_pos h1] at h; cases h
  rw [if_neg h1] at h
  by_cases h2 : z < 0 \/ 22 < z
  . rw [if_pos h2] at h; cases h
  rw [if_neg h2] at h
  by_cases h3 : x < 0 \/ (2 : Int) ^ z.toNat <= x \/ y < 0 \/ (2 : Int) ^ z.toNat <= y
  . rw [if_pos h3] at h; cases h
  omega
theorem sq_in {z x : Int} (h1 : 0 <= z) (h2 : z <= 22) (h3 : 0 <= x) (h4 : x < (2 : Int) ^ z.toNat) : (0 <= x /\ x <= 4194304) /\ (0 <= 8 * x * un z /\ 8 * x * un z <= 1073741824) /\ (0 <= 8 * (x + 1) * un z /\ 8 * (x + 1) * un z <= 1073741824) := by
  obtain ⟨_,a,b,c⟩ := un_eq z.toNat (by omega)
  have hp := (pow_cap z h2).2
  unfold un
  generalize (2 : Int) ^ (27 - z.toNat) = u at *
  generalize (2 : Int) ^ z.toNat = p at *
  have m1 : (x + 1) * u <= p * u := Int.mul_le_mul_of_nonneg_right (by omega) (by omega)
  have m2 : 0 <= x * u := Int.mul_nonneg h3 (by omega)
  rw [c] at m1
  rw [Int.mul_assoc,Int.mul_assoc]
  rw [Int.add_mul] at m1 ⊢
  generalize x * u = v at *
  omega
theorem size_in {f : Nat -> Int} (h : Rt f) {u : Int} (hu : 0 <= u /\ u <= 134217728) : W30 (f 6 * u) := by
  have : f 6 = 0 \/ f 6 = 1 \/ f 6 = 2 \/ f 6 = 3 := by rcases h.kind with h | h <;> omega
  unfold W30
  rcases this with e | e | e | e <;> rw [e] <;> omega
theorem n_in {f : Nat -> Int} (h : Rt f) : 1 <= f 7 /\ f 7 <= 8 := by rcases h.kind with h | h <;> omega
theorem sza (g : Nat -> Int) : (Tryz.prog.info? 84).map (·.size) = some (ac g).size := by rw [ac_size]; kernel_rfl
theorem rng8 {W : World} {b : Nat} {f : Nat -> Int} (h : W.heap[b]? = some (.cells (fc f) 86 (0,0))) : W.rangeAt b 8 (ac fun i => f (8 + i)).toList := by
  intro j v hv
  rw [blk_cells h]
  have hj : j < 8 := by
    have := (List.getElem?_eq_some_iff.1 hv).1
    simpa [ac_size] using this
  have e : (ac fun i => f (8 + i))[j]? = some v := by simpa using hv
  rw [ac_at _ j hj] at e
  rw [fc_at f (8 + j) (by omega)]; exact e
theorem rng16 {W : World} {b : Nat} {f : Nat -> Int} (h : W.heap[b]? = some (.cells (fc f) 86 (0,0))) : W.rangeAt b 16 (ac fun i => f (16 + i)).toList := by
  intro j v hv
  rw [blk_cells h]
  have hj : j < 8 := by
    have := (List.getElem?_eq_some_iff.1 hv).1
    simpa [ac_size] using this
  have e : (ac fun i => f (16 + i))[j]? = some v := by simpa using hv
  rw [ac_at _ j hj] at e
  rw [fc_at f (16 + j) (by omega)]; exact e
theorem two_blocks (w : World) (o o' : Obj) : ((w.alloc o).alloc o').heap[w.heap.size]? = some o /\ ((w.alloc o).alloc o').heap[w.heap.size + 1]? = some o' /\ Below w.heap.size w ((w.alloc o).alloc o') := by
  refine ⟨?_,?_,?_⟩
  . rw [Below.heap_alloc _ _ _ (by simp)]; exact heap_alloc_new _ _
  . simpa using heap_alloc_new (w.alloc o) o'
  . repeat first | exact Below.refl _ _ | refine below_drewN ?_ _ | refine Below.drew ?_ | refine below_alloc ?_ (Nat.le_refl _) _
set_option maxHeartbeats 3200000 in
theorem Touches_no (f : Nat -> Int) (l z x y : Int) (w : World) (h : right f = false \/ ¬ keyErr l z x y = 0 \/ shw f l z = false) :
    Calls Tryz.prog 135 #[.agg (fc f),.agg #[.int .i64 l,.int .i64 z,.int .i64 x,.int .i64 y]] w fun e w' => e = .returned (.bool (Tch f l z x y)) /\ Below w.heap.size w w' := by
  obtain ⟨hg0,hk0,hb0⟩ := two_blocks w (.cells (fc f) 86 (0,0)) (.cells #[.int .i64 l,.int .i64 z,.int .i64 x,.int .i64 y] 39 (0,0))
  have HB0 := hide hb0
  clear hb0
  cases hr : right f with
  | false =>
    have H : Hid (Tch f l z x y = false) := by show Tch f l z x y = _; simp [Tch,hr]
    clear h
    go_enter Tryz.func135,Tryz.ntmps135
    go_wp2_with (refine ld26 rfl _ rfl _ rfl f hg0 ?_)
    refine (check_f hr _).mono ?_
    rintro e w1 ⟨rfl,hb1⟩
    have HB := hide ((unhide HB0).trans (hb1.mono (unhide HB0).size))
    clear hb1
    go_wp2_with fail
    go_ret
    exact ⟨ret_bool (unhide H).symm,unhide HB⟩
  | true =>
  by_cases he : keyErr l z x y = 0
  . have hs : shw f l z = false := by
      rcases h with h | h | h
      . rw [hr] at h; cases h
      . exact absurd he h
      . exact h
    have H : Hid (Tch f l z x y = false) := by show Tch f l z x y = _; simp [Tch,hs]
    have K := fun W => keyError_any l z x y W
    have S := fun W => shows48_any f l z x y W
    rw [he] at K
    rw [hs] at S
    clear h he
    go_enter Tryz.func135,Tryz.ntmps135
    go_wp2_with (refine ld26 rfl _ rfl _ rfl f hg0 ?_)
    refine (check_t hr _).mono ?_
    rintro e w1 ⟨rfl,hb1⟩
    have hg1 := blk_on hg0 hb1
    have hk1 := blk_on hk0 hb1
    have hc1 := blk_cells hk1
    have HB := hide ((unhide HB0).trans (hb1.mono (unhide HB0).size))
    clear hb1
    go_wp2_with fail
    refine (K _).mono ?_
    rintro e w2 ⟨rfl,hb2⟩
    have hg2 := blk_on hg1 hb2
    have hk2 := blk_on hk1 hb2
    have hc2 := blk_cells hk2
    have HB2 := hide ((unhide HB).trans (hb2.mono (unhide HB).size))
    clear hb2 hg1 hk1 hc1
    go_wp2_with (refine ld26 rfl _ rfl _ rfl f hg2 ?_)
    refine (S _).mono ?_
    rintro e w3 ⟨rfl,hb3⟩
    have HB3 := hide ((unhide HB2).trans (hb3.mono (unhide HB2).size))
    clear hb3 hg2 hk2 hc2
    go_wp2_with fail
    go_ret
    exact ⟨ret_bool (unhide H).symm,unhide HB3⟩
  . have H : Hid (Tch f l z x y = false) := by show Tch f l z x y = _; simp [Tch,he]
    have K := fun W => keyError_any l z x y W
    have hne : (keyErr l z x y == 0) = false := by simp [he]
    clear h he
    go_enter Tryz.func135,Tryz.ntmps135
    go_wp2_with (refine ld26 rfl _ rfl _ rfl f hg0 ?_)
    refine (check_t hr _).mono ?_
    rintro e w1 ⟨rfl,hb1⟩
    have hg1 := blk_on hg0 hb1
    have hk1 := blk_on hk0 hb1
    have hc1 := blk_cells hk1
    have HB := hide ((unhide HB0).trans (hb1.mono (unhide HB0).size))
    clear hb1
    go_wp2_with fail
    refine (K _).mono ?_
    rintro e w2 ⟨rfl,hb2⟩
    have HB2 := hide ((unhide HB).trans (hb2.mono (unhide HB).size))
    clear hb2 hg1 hk1 hc1
    go_wp2_with fail
    go_ret
    exact ⟨ret_bool (unhide H).symm,unhide HB2⟩
set_option maxHeartbeats 3200000 in
theorem Touches_yes (f : Nat -> Int) (l z x y : Int) (w : World) (hr : right f = true) (he : keyErr l z x y = 0) (hs : shw f l z = true) :
    Calls Tryz.prog 135 #[.agg (fc f),.agg #[.int .i64 l,.int .i64 z,.int .i64 x,.int .i64 y]] w fun e w' => e = .returned (.bool (Tch f l z x y)) /\ Below w.heap.size w w' := by
  obtain ⟨hg0,hk0,hb0⟩ := two_blocks w (.cells (fc f) 86 (0,0)) (.cells #[.int .i64 l,.int .i64 z,.int .i64 x,.int .i64 y] 39 (0,0))
  have HB0 := hide hb0
  clear hb0
  have hR := right_out hr
  have K := fun W => keyError_any l z x y W
  have S := fun W => shows48_any f l z x y W
  rw [he] at K
  rw [hs] at S
  obtain ⟨_,⟨z1,z2⟩,⟨x1,x2⟩,⟨y1,y2⟩⟩ := keyErr_zero he
  have U := fun W => unit_yes z W z1 z2
  obtain ⟨sx1,sx2,sx3⟩ := sq_in z1 z2 x1 x2
  obtain ⟨sy1,sy2,sy3⟩ := sq_in z1 z2 y1 y2
  obtain ⟨u1,u2⟩ := un_in z z1 z2
  obtain ⟨n1,n2⟩ := n_in hR
  have H : Hid (Tch f l z x y = (axT (fun i => f (8 + i)) (f 7).toNat (f 6 * un z) (8 * x * un z) (8 * (x + 1) * un z) && axT (fun i => f (16 + i)) (f 7).toNat (f 6 * un z) (8 * y * un z) (8 * (y + 1) * un z))) := by show Tch f l z x y = _; simp [Tch,hr,he,hs]
  obtain ⟨u,hu⟩ : ∃ u,un z = u := ⟨_,rfl⟩
  rw [hu] at H U sx2 sx3 sy2 sy3 u1 u2
  have B1 := fun W => boxSide_any f (fun i => f (8 + i)) u W ⟨n1,n2⟩ hR.px (size_in hR ⟨by omega,by omega⟩)
  have B2 := fun W => boxSide_any f (fun i => f (16 + i)) u W ⟨n1,n2⟩ hR.py (size_in hR ⟨by omega,by omega⟩)
  have S1 := fun W => squareSide_any x u W sx1 sx2 sx3
  have S2 := fun W => squareSide_any y u W sy1 sy2 sy3
  have M1 := fun W => meet_any (mnC (fun i => f (8 + i)) (f 7).toNat - f 6 * u) (mxC (fun i => f (8 + i)) (f 7).toNat + f 6 * u) (8 * x * u) (8 * (x + 1) * u) W
  have M2 := fun W => meet_any (mnC (fun i => f (16 + i)) (f 7).toNat - f 6 * u) (mxC (fun i => f (16 + i)) (f 7).toNat + f 6 * u) (8 * y * u) (8 * (y + 1) * u) W
  rw [axT_eq _ _ _ _ _ (by omega)] at M1 M2
  obtain ⟨bx,hbx⟩ : ∃ b,axT (fun i => f (8 + i)) (f 7).toNat (f 6 * u) (8 * x * u) (8 * (x + 1) * u) = b := ⟨_,rfl⟩
  obtain ⟨bY,hby⟩ : ∃ b,axT (fun i => f (16 + i)) (f 7).toNat (f 6 * u) (8 * y * u) (8 * (y + 1) * u) = b := ⟨_,rfl⟩
  rw [hbx,hby] at H
  rw [hbx] at M1
  rw [hby] at M2
  clear hbx hby he hu hR
  cases bx with
  | true =>
    go_enter Tryz.func135,Tryz.ntmps135
    go_wp2_with (refine ld26 rfl _ rfl _ rfl f hg0 ?_)
    refine (check_t hr _).mono ?_
    rintro e w1 ⟨rfl,hb1⟩
    have hg1 := blk_on hg0 hb1
    have hk1 := blk_on hk0 hb1
    have hc1 := blk_cells hk1
    have HB := hide ((unhide HB0).trans (hb1.mono (unhide HB0).size))
    clear hb1
    go_wp2_with fail
    refine (K _).mono ?_
    rintro e w2 ⟨rfl,hb2⟩
    have hg2 := blk_on hg1 hb2
    have hk2 := blk_on hk1 hb2
    have hc2 := blk_cells hk2
    have HB2 := hide ((unhide HB).trans (hb2.mono (unhide HB).size))
    clear hb2 hg1 hk1 hc1
    go_wp2_with (refine ld26 rfl _ rfl _ rfl f hg2 ?_)
    refine (S _).mono ?_
    rintro e w3 ⟨rfl,hb3⟩
    have hg3 := blk_on hg2 hb3
    have hk3 := blk_on hk2 hb3
    have hc3 := blk_cells hk3
    have HB3 := hide ((unhide HB2).trans (hb3.mono (unhide HB2).size))
    clear hb3 hg2 hk2 hc2
    go_wp2_with (go_at_call 87; refine (U _).mono ?_; rintro e w9 ⟨rfl,rfl⟩)
    refine region_bq (by kernel_rfl) (by kernel_rfl) ?_
    refine q_load rfl 86 _ rfl w.heap.size 0 rfl (fc f) _ Tryz.underlying86 rfl (szf f) (fun w' h => rng_on hg3 h) ?_
    simp only [Act.put,qA,qB,qC]
    refine q_val rfl (.pointer (some ⟨w.heap.size,8,none⟩)) (fun _ _ => by simp [go_sem]) ?_
    simp only [Act.put,qA,qB,qC]
    refine q_load rfl 84 _ rfl w.heap.size 8 rfl (ac fun i => f (8 + i)) _ Tryz.underlying84 rfl (sza _) (fun w' h => rng8 (blk_on hg3 h)) ?_
    simp only [Act.put,qA,qB,qC]
    refine q_move rfl _ rfl (.int .i64 u) rfl ?_
    simp only [Act.put,qA,qB,qC]
    refine q_call rfl 141 #[.agg (fc f),.agg (ac fun i => f (8 + i)),.int .i64 u] (fun _ => by simp [go_sem]) _ B1 ?_
    simp only [Act.put,qA,qB,qC]
    refine q_val rfl (.pointer (some ⟨w.heap.size + 1,2,none⟩)) (fun _ _ => by simp [go_sem]) ?_
    simp only [Act.put,qA,qB,qC]
    refine q_val rfl (.int .i64 x) (fun w' h => by simp [go_sem,blk_cells (blk_on hk3 h)]) ?_
    simp only [Act.put,qA,qB,qC]
    refine q_move rfl _ rfl (.int .i64 u) rfl ?_
    simp only [Act.put,qA,qB,qC]
    refine q_call rfl 142 #[.int .i64 x,.int .i64 u] (fun _ => by simp [go_sem]) _ S1 ?_
    simp only [Act.put,qA,qB,qC]
    refine q_call rfl 140 #[.agg #[_,_],.agg #[_,_]] (fun _ => by simp [go_sem]) _ M1 ?_
    simp only [Act.put,qA,qB,qC]
    refine q_assign rfl _ rfl _ rfl ?_
    simp only [Act.put,qA,qB,qC]
    refine wpQuiet_nil ?_
    intro w4 hb_w4
    have hg4 := blk_on hg3 hb_w4
    have hk4 := blk_on hk3 hb_w4
    have HB4 := hide ((unhide HB3).trans (hb_w4.mono (unhide HB3).size))
    clear hb_w4 hg3 hk3 hc3
    go_wp2_with fail
    refine region_bq (by kernel_rfl) (by kernel_rfl) ?_
    refine q_load rfl 86 _ rfl w.heap.size 0 rfl (fc f) _ Tryz.underlying86 rfl (szf f) (fun w' h => rng_on hg4 h) ?_
    simp only [Act.put,qA,qB,qC]
    refine q_val rfl (.pointer (some ⟨w.heap.size,16,none⟩)) (fun _ _ => by simp [go_sem]) ?_
    simp only [Act.put,qA,qB,qC]
    refine q_load rfl 84 _ rfl w.heap.size 16 rfl (ac fun i => f (16 + i)) _ Tryz.underlying84 rfl (sza _) (fun w' h => rng16 (blk_on hg4 h)) ?_
    simp only [Act.put,qA,qB,qC]
    refine q_move rfl _ rfl (.int .i64 u) rfl ?_
    simp only [Act.put,qA,qB,qC]
    refine q_call rfl 141 #[.agg (fc f),.agg (ac fun i => f (16 + i)),.int .i64 u] (fun _ => by simp [go_sem]) _ B2 ?_
    simp only [Act.put,qA,qB,qC]
    refine q_val rfl (.pointer (some ⟨w.heap.size + 1,3,none⟩)) (fun _ _ => by simp [go_sem]) ?_
    simp only [Act.put,qA,qB,qC]
    refine q_val rfl (.int .i64 y) (fun w' h => by simp [go_sem,blk_cells (blk_on hk4 h)]) ?_
    simp only [Act.put,qA,qB,qC]
    refine q_move rfl _ rfl (.int .i64 u) rfl ?_
    simp only [Act.put,qA,qB,qC]
    refine q_call rfl 142 #[.int .i64 y,.int .i64 u] (fun _ => by simp [go_sem]) _ S2 ?_
    simp only [Act.put,qA,qB,qC]
    refine q_call rfl 140 #[.agg #[_,_],.agg #[_,_]] (fun _ => by simp [go_sem]) _ M2 ?_
    simp only [Act.put,qA,qB,qC]
    refine q_assign rfl _ rfl _ rfl ?_
    simp only [Act.put,qA,qB,qC]
    refine wpQuiet_nil ?_
    intro w5 hb_w5
    have HB5 := hide ((unhide HB4).trans (hb_w5.mono (unhide HB4).size))
    clear hb_w5 hg4 hk4
    go_wp2_with fail
    go_ret
    exact ⟨ret_bool (by rw [unhide H]; simp),unhide HB5⟩
  | false =>
    go_enter Tryz.func135,Tryz.ntmps135
    go_wp2_with (refine ld26 rfl _ rfl _ rfl f hg0 ?_)
    refine (check_t hr _).mono ?_
    rintro e w1 ⟨rfl,hb1⟩
    have hg1 := blk_on hg0 hb1
    have hk1 := blk_on hk0 hb1
    have hc1 := blk_cells hk1
    have HB := hide ((unhide HB0).trans (hb1.mono (unhide HB0).size))
    clear hb1
    go_wp2_with fail
    refine (K _).mono ?_
    rintro e w2 ⟨rfl,hb2⟩
    have hg2 := blk_on hg1 hb2
    have hk2 := blk_on hk1 hb2
    have hc2 := blk_cells hk2
    have HB2 := hide ((unhide HB).trans (hb2.mono (unhide HB).size))
    clear hb2 hg1 hk1 hc1
    go_wp2_with (refine ld26 rfl _ rfl _ rfl f hg2 ?_)
    refine (S _).mono ?_
    rintro e w3 ⟨rfl,hb3⟩
    have hg3 := blk_on hg2 hb3
    have hk3 := blk_on hk2 hb3
    have hc3 := blk_cells hk3
    have HB3 := hide ((unhide HB2).trans (hb3.mono (unhide HB2).size))
    clear hb3 hg2 hk2 hc2
    go_wp2_with (go_at_call 87; refine (U _).mono ?_; rintro e w9 ⟨rfl,rfl⟩)
    refine region_bq (by kernel_rfl) (by kernel_rfl) ?_
    refine q_load rfl 86 _ rfl w.heap.size 0 rfl (fc f) _ Tryz.underlying86 rfl (szf f) (fun w' h => rng_on hg3 h) ?_
    simp only [Act.put,qA,qB,qC]
    refine q_val rfl (.pointer (some ⟨w.heap.size,8,none⟩)) (fun _ _ => by simp [go_sem]) ?_
    simp only [Act.put,qA,qB,qC]
    refine q_load rfl 84 _ rfl w.heap.size 8 rfl (ac fun i => f (8 + i)) _ Tryz.underlying84 rfl (sza _) (fun w' h => rng8 (blk_on hg3 h)) ?_
    simp only [Act.put,qA,qB,qC]
    refine q_move rfl _ rfl (.int .i64 u) rfl ?_
    simp only [Act.put,qA,qB,qC]
    refine q_call rfl 141 #[.agg (fc f),.agg (ac fun i => f (8 + i)),.int .i64 u] (fun _ => by simp [go_sem]) _ B1 ?_
    simp only [Act.put,qA,qB,qC]
    refine q_val rfl (.pointer (some ⟨w.heap.size + 1,2,none⟩)) (fun _ _ => by simp [go_sem]) ?_
    simp only [Act.put,qA,qB,qC]
    refine q_val rfl (.int .i64 x) (fun w' h => by simp [go_sem,blk_cells (blk_on hk3 h)]) ?_
    simp only [Act.put,qA,qB,qC]
    refine q_move rfl _ rfl (.int .i64 u) rfl ?_
    simp only [Act.put,qA,qB,qC]
    refine q_call rfl 142 #[.int .i64 x,.int .i64 u] (fun _ => by simp [go_sem]) _ S1 ?_
    simp only [Act.put,qA,qB,qC]
    refine q_call rfl 140 #[.agg #[_,_],.agg #[_,_]] (fun _ => by simp [go_sem]) _ M1 ?_
    simp only [Act.put,qA,qB,qC]
    refine q_assign rfl _ rfl _ rfl ?_
    simp only [Act.put,qA,qB,qC]
    refine wpQuiet_nil ?_
    intro w4 hb_w4
    have hg4 := blk_on hg3 hb_w4
    have hk4 := blk_on hk3 hb_w4
    have HB4 := hide ((unhide HB3).trans (hb_w4.mono (unhide HB3).size))
    clear hb_w4 hg3 hk3 hc3
    go_wp2_with fail
    refine region_bq (by kernel_rfl) (by kernel_rfl) ?_
    refine q_load rfl 86 _ rfl w.heap.size 0 rfl (fc f) _ Tryz.underlying86 rfl (szf f) (fun w' h => rng_on hg4 h) ?_
    simp only [Act.put,qA,qB,qC]
    refine q_val rfl (.pointer (some ⟨w.heap.size,16,none⟩)) (fun _ _ => by simp [go_sem]) ?_
    simp only [Act.put,qA,qB,qC]
    refine q_load rfl 84 _ rfl w.heap.size 16 rfl (ac fun i => f (16 + i)) _ Tryz.underlying84 rfl (sza _) (fun w' h => rng16 (blk_on hg4 h)) ?_
    simp only [Act.put,qA,qB,qC]
    refine q_move rfl _ rfl (.int .i64 u) rfl ?_
    simp only [Act.put,qA,qB,qC]
    refine q_call rfl 141 #[.agg (fc f),.agg (ac fun i => f (16 + i)),.int .i64 u] (fun _ => by simp [go_sem]) _ B2 ?_
    simp only [Act.put,qA,qB,qC]
    refine q_val rfl (.pointer (some ⟨w.heap.size + 1,3,none⟩)) (fun _ _ => by simp [go_sem]) ?_
    simp only [Act.put,qA,qB,qC]
    refine q_val rfl (.int .i64 y) (fun w' h => by simp [go_sem,blk_cells (blk_on hk4 h)]) ?_
    simp only [Act.put,qA,qB,qC]
    refine q_move rfl _ rfl (.int .i64 u) rfl ?_
    simp only [Act.put,qA,qB,qC]
    refine q_call rfl 142 #[.int .i64 y,.int .i64 u] (fun _ => by simp [go_sem]) _ S2 ?_
    simp only [Act.put,qA,qB,qC]
    refine q_call rfl 140 #[.agg #[_,_],.agg #[_,_]] (fun _ => by simp [go_sem]) _ M2 ?_
    simp only [Act.put,qA,qB,qC]
    refine q_assign rfl _ rfl _ rfl ?_
    simp only [Act.put,qA,qB,qC]
    refine wpQuiet_nil ?_
    intro w5 hb_w5
    have HB5 := hide ((unhide HB4).trans (hb_w5.mono (unhide HB4).size))
    clear hb_w5 hg4 hk4
    go_wp2_with fail
    go_ret
    exact ⟨ret_bool (by rw [unhide H]; simp),unhide HB5⟩
theorem Touches_any (f : Nat -> Int) (l z x y : Int) (w : World) :
    Calls Tryz.prog 135 #[.agg (fc f),.agg #[.int .i64 l,.int .i64 z,.int .i64 x,.int .i64 y]] w fun e w' => e = .returned (.bool (Tch f l z x y)) /\ Below w.heap.size w w' := by
  cases hr : right f with
  | false => exact Touches_no f l z x y w (Or.inl hr)
  | true =>
  by_cases he : keyErr l z x y = 0
  . cases hs : shw f l z with
    | false => exact Touches_no f l z x y w (Or.inr (Or.inr hs))
    | true => exact Touches_yes f l z x y w hr he hs
  . exact Touches_no f l z x y w (Or.inr (Or.inl he))
def isAb (a b : Nat -> Int) : Bool := if a 4 = b 4 then decide (b 0 < a 0) else decide (b 4 < a 4)
set_option maxHeartbeats 800000 in
theorem isAbove_any (a b : Nat -> Int) (w : World) :
    Calls Tryz.prog 90 #[.agg (fc a),.agg (fc b)] w fun e w' => e = .returned (.bool (isAb a b)) /\ Below w.heap.size w w' := by
  have a0 := fc_at a 0 (by decide)
  have a4 := fc_at a 4 (by decide)
  have b0 := fc_at b 0 (by decide)
  have b4 := fc_at b 4 (by decide)
  obtain ⟨R,hR⟩ : ∃ S,a 4 = S := ⟨_,rfl⟩
  obtain ⟨S,hS⟩ : ∃ S,b 4 = S := ⟨_,rfl⟩
  rw [hR] at a4; rw [hS] at b4
  have HR := hide hR
  have HS := hide hS
  clear hR hS
  by_cases h : R = S
  . subst h
    go_enter Tryz.func90,Tryz.ntmps90
    go_wp2
    go_ret
    refine ⟨ret_bool ?_,?_⟩
    . simp [isAb,unhide HR,unhide HS]
    . repeat first | exact Below.refl _ _ | refine below_drewN ?_ _ | refine Below.drew ?_ | refine below_alloc ?_ (Nat.le_refl _) _
  . go_enter Tryz.func90,Tryz.ntmps90
    go_wp2
    go_ret
    refine ⟨ret_bool ?_,?_⟩
    . simp [isAb,unhide HR,unhide HS,h]
    . repeat first | exact Below.refl _ _ | refine below_drewN ?_ _ | refine Below.drew ?_ | refine below_alloc ?_ (Nat.le_refl _) _
def cen (x u c : Int) : Int := (8 * x + c) * u + u / 2
theorem cen_in {z x c : Int} (h1 : 0 <= z) (h2 : z <= 22) (h3 : 0 <= x) (h4 : x < (2 : Int) ^ z.toNat) (c1 : 0 <= c) (c2 : c <= 7) :
    (0 <= x /\ x <= 4194304) /\ (0 <= (8 * x + c) * un z /\ (8 * x + c) * un z <= 1073741824) /\ W30 (cen x (un z) c) /\ (0 <= 8 * x * un z /\ 8 * x * un z <= 1073741824) /\ (0 <= c * un z /\ c * un z <= 1073741824) /\ cen x (un z) c = 8 * x * un z + c * un z + un z / 2 /\ 8 * x * un z <= cen x (un z) c /\ cen x (un z) c <= 8 * (x + 1) * un z := by
  obtain ⟨_,a,b,d⟩ := un_eq z.toNat (by omega)
  have hp := (pow_cap z h2).2
  unfold cen un
  generalize (2 : Int) ^ (27 - z.toNat) = u at *
  generalize (2 : Int) ^ z.toNat = p at *
  have m1 : (x + 1) * u <= p * u := Int.mul_le_mul_of_nonneg_right (by omega) (by omega)
  have m2 : 0 <= x * u := Int.mul_nonneg h3 (by omega)
  have m3 : 0 <= c * u := Int.mul_nonneg c1 (by omega)
  have m4 : c * u <= 7 * u := Int.mul_le_mul_of_nonneg_right c2 (by omega)
  rw [d] at m1
  have e1 : 8 * x * u = 8 * (x * u) := Int.mul_assoc _ _ _
  have e2 : 8 * (x + 1) * u = 8 * (x * u) + 8 * u := by rw [Int.mul_assoc,Int.add_mul,Int.one_mul,Int.mul_add]
  have e3 : (8 * x + c) * u = 8 * (x * u) + c * u := by rw [Int.add_mul,Int.mul_assoc]
  rw [Int.add_mul,Int.one_mul] at m1
  rw [e1,e2,e3]
  unfold W30
  generalize x * u = v at *
  generalize c * u = t at *
  omega
theorem mod8 (p : Nat) (h : p < 64) : 0 <= (p : Int) % 8 /\ (p : Int) % 8 <= 7 /\ 0 <= (p : Int) / 8 /\ (p : Int) / 8 <= 7 := by omega
set_option maxHeartbeats 800000 in
theorem centre_any (l z x y : Int) (p : Nat) (w : World) (he : keyErr l z x y = 0) (hp : p < 64) :
    Calls Tryz.prog 88 #[.agg #[.int .i64 l,.int .i64 z,.int .i64 x,.int .i64 y],.int .i64 (un z),.int .i64 p] w fun e w' => e = .returned (.agg #[.int .i64 (cen x (un z) ((p : Int) % 8)),.int .i64 (cen y (un z) ((p : Int) / 8))]) /\ Below w.heap.size w w' := by
  obtain ⟨_,⟨z1,z2⟩,⟨x1,x2⟩,⟨y1,y2⟩⟩ := keyErr_zero he
  obtain ⟨p1,p2,p3,p4⟩ := mod8 p hp
  obtain ⟨⟨kx1,kx2⟩,ax,bx,_⟩ := cen_in z1 z2 x1 x2 p1 p2
  obtain ⟨⟨ky1,ky2⟩,ay,by_,_⟩ := cen_in z1 z2 y1 y2 p3 p4
  obtain ⟨u1,u2⟩ := un_in z z1 z2
  generalize un z = u at *
  unfold W30 cen at bx by_
  have q1 : wrap64 ((8 * x + (p : Int) % 8) * u) = (8 * x + (p : Int) % 8) * u := IntWalk.wrap64_in _ ⟨by omega,by omega⟩
  have q2 : wrap64 ((8 * y + (p : Int) / 8) * u) = (8 * y + (p : Int) / 8) * u := IntWalk.wrap64_in _ ⟨by omega,by omega⟩
  have q3 : wrap64 ((8 * x + (p : Int) % 8) * u + u / 2) = (8 * x + (p : Int) % 8) * u + u / 2 := IntWalk.wrap64_in _ ⟨by omega,by omega⟩
  have q4 : wrap64 ((8 * y + (p : Int) / 8) * u + u / 2) = (8 * y + (p : Int) / 8) * u + u / 2 := IntWalk.wrap64_in _ ⟨by omega,by omega⟩
  clear he ax ay bx by_ x2 y2
  go_enter Tryz.func88,Tryz.ntmps88
  go_wp2
  refine bodyPost_ret (v := .agg #[.int .i64 (cen x u ((p : Int) % 8)),.int .i64 (cen y u ((p : Int) / 8))]) (by simp [results,Tryz.results88,go_sem,cen,q1,q2,q3,q4]) rfl ⟨rfl,?_⟩
  repeat first | exact Below.refl _ _ | refine below_drewN ?_ _ | refine Below.drew ?_ | refine below_alloc ?_ (Nat.le_refl _) _
def FsAt (W : World) (v : Value) (n : Nat) (fs : Nat -> Nat -> Int) : Prop :=
  ∃ (oa : Option Addr) (cap : Nat),v = .slice oa n cap /\ n <= maxLen /\ (0 < n -> ∃ b off,oa = some ⟨b,off,none⟩ /\ b < W.heap.size /\ ∀ i,i < n -> ∀ j,j < 24 -> W.cell? ⟨b,off + i * 24 + j,none⟩ = some (.int .i64 (fs i j)))
theorem FsAt.on {W W' : World} {v : Value} {n : Nat} {fs : Nat -> Nat -> Int} (h : FsAt W v n fs) (hb : Below W.heap.size W W') : FsAt W' v n fs := by
  obtain ⟨oa,cap,e,hm,h⟩ := h
  refine ⟨oa,cap,e,hm,fun hn => ?_⟩
  obtain ⟨b,off,e',hlt,hc⟩ := h hn
  exact ⟨b,off,e',Nat.lt_of_lt_of_le hlt hb.size,fun i hi j hj => (hb.cell (p := ⟨b,off + i * 24 + j,none⟩) hlt).trans (hc i hi j hj)⟩
def top (fs : Nat -> Nat -> Int) (l z u px py : Int) : Nat -> Nat -> Int
  | 0 => fun _ => 0
  | k + 1 => bif shw (fs k) l z && !isAb (top fs l z u px py k) (fs k) && cov (fs k) u px py then fs k else top fs l z u px py k
def zf : Nat -> Int := fun _ => 0
theorem built26 : Tryz.prog.built 86 [] = some (fc zf) := by kernel_rfl
theorem run_alloc26 (ev : Operand -> Value) (o : Oper) (ho : o.op = .alloc 86) (w : World) : (execOp ev o).run Tryz.prog w = .ok (.value (.pointer (some ⟨w.heap.size,0,none⟩))) (w.alloc (.cells (fc zf) 86)) := by
  unfold execOp
  simp only [ho]
  kernel_rfl
theorem fc_one (f : Nat -> Int) : (fc f).all (·.oneCell') = true := by
  rw [Array.all_eq_true_iff_forall_mem]
  intro v hv
  simp only [fc,Array.mem_map] at hv
  obtain ⟨i,_,rfl⟩ := hv
  rfl
section
variable {ops : Array Oper} {rest : List Oper} {o : Oper} {a : Act} {w : World} {Q : Exit -> Act -> World -> Prop}
theorem bld26 (hgd : o.guard = none) (ho : o.op = .build 86 #[]) (h : wpList Tryz.prog ops Q rest (a.put o.dst (.agg (fc zf))) w) : wpList Tryz.prog ops Q (o :: rest) a w := by
  refine wpList_build hgd 86 #[] ho (by simp [built26]) ?_
  simpa [built26] using h
theorem al26 (hgd : o.guard = none) (ho : o.op = .alloc 86) (n : Nat) (hn : w.heap.size = n) (h : wpList Tryz.prog ops Q rest (a.put o.dst (.pointer (some ⟨n,0,none⟩))) (w.alloc (.cells (fc zf) 86))) : wpList Tryz.prog ops Q (o :: rest) a w :=
  wpList_plain hgd fun _ hK => by
    unfold Oper.wp
    rw [run_alloc26 _ _ ho,hn]
    exact hK _ _ h
theorem st26 (hgd : o.guard = none) (x y : Operand) (ho : o.op = .store 86 x y) (g : Nat) (T : Nat -> Int) (hx : a.eval x = .pointer (some ⟨g,0,none⟩)) (hy : a.eval y = .agg (fc T)) (S : Nat -> Int) (hg : w.heap[g]? = some (.cells (fc S) 86 (0,0)))
    (h : wpList Tryz.prog ops Q rest (a.put o.dst undef) (w.setRow g (fc T))) : wpList Tryz.prog ops Q (o :: rest) a w :=
  wpList_store_row hgd 86 x y ho g (fc T) hx hy 86 (fc S) hg (szf T) (by rw [fc_size,fc_size]) (fc_one T) h
theorem ldm26 (hw : Region.wanted o (yielded ops a.tmps) = true) (x : Operand) (ho : o.op = .load 86 x)
    (b off : Nat) (hx : a.eval x = .pointer (some ⟨b,off,none⟩)) (f : Nat -> Int) (hc : w.rangeAt b off (fc f).toList)
    (h : wpList Tryz.prog ops Q rest (a.put o.dst (.agg (fc f))) w) : wpList Tryz.prog ops Q (o :: rest) a w := by
  unfold wpList
  rw [if_pos hw]
  exact Or.inl (wp_load_mid 86 x ho b off hx (fc f).toList _ hc Tryz.underlying86 rfl (by rw [Array.length_toList]; exact szf f) h)
end
theorem below_setRow {B : Nat} {a w : World} (h : Below B a w) {g : Nat} (hg : B <= g) (cs : Array Value) : Below B a (w.setRow g cs) := by
  refine h.trans ⟨rfl,rfl,rfl,by simp [World.setRow],fun k hk => ?_⟩
  show (w.heap.modify g _)[k]? = _
  rw [Array.getElem?_modify,if_neg (by omega)]
theorem setRow_other {w : World} {g k : Nat} (h : g ≠ k) (cs : Array Value) : (w.setRow g cs).heap[k]? = w.heap[k]? := by
  show (w.heap.modify g _)[k]? = _
  rw [Array.getElem?_modify,if_neg h]
theorem fs_rng {W : World} {b off n : Nat} {fs : Nat -> Nat -> Int} (hc : ∀ i,i < n -> ∀ j,j < 24 -> W.cell? ⟨b,off + i * 24 + j,none⟩ = some (.int .i64 (fs i j))) {k : Nat} (hk : k < n) : W.rangeAt b (off + k * 24) (fc (fs k)).toList := by
  intro j v hv
  have hj : j < 24 := by
    have := (List.getElem?_eq_some_iff.1 hv).1
    simpa [fc_size] using this
  have e : (fc (fs k))[j]? = some v := by simpa using hv
  rw [fc_at _ j hj] at e
  rw [hc k hk j hj,e]
theorem sz28 (l z x y : Int) : (Tryz.prog.info? 39).map (·.size) = some (#[Value.int .i64 l,Value.int .i64 z,Value.int .i64 x,Value.int .i64 y] : Array Value).size := by kernel_rfl
theorem top_no {fs : Nat -> Nat -> Int} {l z u px py : Int} {k : Nat} (h : (shw (fs k) l z && !isAb (top fs l z u px py k) (fs k) && cov (fs k) u px py) = false) : top fs l z u px py k = top fs l z u px py (k + 1) := by
  rw [top,h]; rfl
theorem top_yes {fs : Nat -> Nat -> Int} {l z u px py : Int} {k : Nat} (h : (shw (fs k) l z && !isAb (top fs l z u px py k) (fs k) && cov (fs k) u px py) = true) : fs k = top fs l z u px py (k + 1) := by
  rw [top,h]; rfl
theorem top_or (fs : Nat -> Nat -> Int) (l z u px py : Int) : ∀ k,top fs l z u px py k = zf \/ ∃ i,i < k /\ top fs l z u px py k = fs i
  | 0 => Or.inl rfl
  | k + 1 => by
    rw [top]
    cases (shw (fs k) l z && !isAb (top fs l z u px py k) (fs k) && cov (fs k) u px py) with
    | true => exact Or.inr ⟨k,by omega,rfl⟩
    | false =>
      rcases top_or fs l z u px py k with h | ⟨i,hi,h⟩
      . exact Or.inl h
      . exact Or.inr ⟨i,by omega,h⟩
theorem top_ink {fs : Nat -> Nat -> Int} {n : Nat} (hr : ∀ i,i < n -> right (fs i) = true) (l z u px py : Int) : 0 <= top fs l z u px py n 3 /\ top fs l z u px py n 3 <= 15 := by
  rcases top_or fs l z u px py n with h | ⟨i,hi,h⟩
  . rw [h]; simp [zf]
  . rw [h]; have := (right_out (hr i hi)).ink; omega
theorem top_small {fs : Nat -> Nat -> Int} {n : Nat} {l z u px py : Int} (T : Nat -> Int) (_ : True) (h : T 3 = top fs l z u px py n 3) (hr : ∀ i,i < n -> right (fs i) = true) : IntKind.u8.wrap (T 3) = T 3 := by
  have := top_ink hr l z u px py
  rw [h]
  generalize top fs l z u px py n 3 = v at *
  have e : v = 0 \/ v = 1 \/ v = 2 \/ v = 3 \/ v = 4 \/ v = 5 \/ v = 6 \/ v = 7 \/ v = 8 \/ v = 9 \/ v = 10 \/ v = 11 \/ v = 12 \/ v = 13 \/ v = 14 \/ v = 15 := by omega
  rcases e with rfl | rfl | rfl | rfl | rfl | rfl | rfl | rfl | rfl | rfl | rfl | rfl | rfl | rfl | rfl | rfl <;> rfl
set_option maxHeartbeats 3200000 in
theorem inkOf_any (v : Value) (n : Nat) (fs : Nat -> Nat -> Int) (l z x y : Int) (p : Nat) (w : World) (hv : FsAt w v n fs) (he : keyErr l z x y = 0) (hp : p < 64) (hn40 : n <= 40) (hr : ∀ i,i < n -> right (fs i) = true) :
    Calls Tryz.prog 53 #[v,.agg #[.int .i64 l,.int .i64 z,.int .i64 x,.int .i64 y],.int .i64 p] w fun e w' => e = .returned (.int .u8 (top fs l z (un z) (cen x (un z) ((p : Int) % 8)) (cen y (un z) ((p : Int) / 8)) n 3)) /\ Below w.heap.size w w' := by
  obtain ⟨_,⟨z1,z2⟩,⟨x1,x2⟩,⟨y1,y2⟩⟩ := keyErr_zero he
  have U := fun W => unit_yes z W z1 z2
  have CE := fun W => centre_any l z x y p W he hp
  obtain ⟨p1,p2,p3,p4⟩ := mod8 p hp
  have bX := (cen_in z1 z2 x1 x2 p1 p2).2.2.1
  have bY := (cen_in z1 z2 y1 y2 p3 p4).2.2.1
  obtain ⟨u1,u2⟩ := un_in z z1 z2
  obtain ⟨u,hu⟩ : ∃ u,un z = u := ⟨_,rfl⟩
  rw [hu] at U CE bX bY u1 u2
  rw [hu]
  obtain ⟨X,hX⟩ : ∃ X,cen x u ((p : Int) % 8) = X := ⟨_,rfl⟩
  obtain ⟨Y,hY⟩ : ∃ X,cen y u ((p : Int) / 8) = X := ⟨_,rfl⟩
  rw [hX] at CE bX
  rw [hY] at CE bY
  rw [hX,hY]
  clear hu hX hY he x2 y2 p1 p2 p3 p4
  have HV := hide hv
  obtain ⟨oa,cap,rfl,hm,hn⟩ := hv
  have HN := hide hn
  clear hn
  go_enter Tryz.func53,Tryz.ntmps53
  go_wp2_with (go_at_call 87; refine (U _).mono ?_; rintro e w9 ⟨rfl,rfl⟩)
  refine (CE _).mono ?_
  rintro e w1 ⟨rfl,hb1⟩
  have hk1 := blk_on (heap_alloc_new w (.cells #[.int .i64 l,.int .i64 z,.int .i64 x,.int .i64 y] 39 (0,0))) hb1
  have HB := hide ((below_one _ _).trans (hb1.mono (by simp)))
  clear hb1
  have hz0 : ((w1.alloc (.cells #[.int .i64 X,.int .i64 Y] 155)).alloc (.cells (fc zf) 86)).heap[w1.heap.size + 1]? = some (.cells (fc zf) 86 (0,0)) := by
    simpa using heap_alloc_new (w1.alloc (.cells #[.int .i64 X,.int .i64 Y] 155 (0,0))) (.cells (fc zf) 86 (0,0))
  have hsz : (w1.alloc (.cells #[.int .i64 X,.int .i64 Y] 155)).heap.size = w1.heap.size + 1 := by simp
  go_wp2_with (first | refine bld26 rfl rfl ?_ | refine al26 rfl rfl (w1.heap.size + 1) hsz ?_ | (refine st26 rfl _ _ rfl (w1.heap.size + 1) zf rfl rfl zf hz0 ?_))
  clear hz0 hsz
  have hlw : w.heap.size < w1.heap.size := (Array.getElem?_eq_some_iff.1 hk1).1
  go_loopw [10] (fun i wr => ∃ (k : Nat) (T : Nat -> Int),k <= n /\ i = .int .i64 k /\ Hid (T = top fs l z u X Y k) /\ wr.heap[w.heap.size]? = some (.cells #[.int .i64 l,.int .i64 z,.int .i64 x,.int .i64 y] 39 (0,0)) /\ wr.heap[w1.heap.size]? = some (.cells #[.int .i64 X,.int .i64 Y] 155 (0,0)) /\ wr.heap[w1.heap.size + 1]? = some (.cells (fc T) 86 (0,0)) /\ Below w.heap.size w wr) (fun i _ => n - (intOf i).toNat)
  case atStart =>
    have hA := heap_alloc_new (w1.alloc (.cells #[.int .i64 X,.int .i64 Y] 155 (0,0))) (.cells (fc zf) 86 (0,0))
    refine ⟨0,zf,by omega,rfl,hide rfl,?_,?_,?_,?_⟩
    . rw [setRow_other (by omega),Below.heap_alloc _ _ _ (by simp; omega),Below.heap_alloc _ _ _ hlw]; exact hk1
    . rw [setRow_other (by omega),Below.heap_alloc _ _ _ (by simp)]; exact heap_alloc_new _ _
    . exact setRow_heap _ _ (fc zf) _ 86 (0,0) (by simpa using hA)
    . refine below_setRow (below_alloc (below_alloc (unhide HB) (Nat.le_refl _) _) (Nat.le_refl _) _) (by omega) _
  case round =>
    obtain ⟨k,T,hk,rfl,hT,hk1,hp1,ht,hb⟩ := hrel
    by_cases hlt : k < n
    . obtain ⟨b,off,rfl,hbl,hc0⟩ := unhide HN (by omega)
      have hcs : ∀ i,i < n -> ∀ j,j < 24 -> wr.cell? ⟨b,off + i * 24 + j,none⟩ = some (.int .i64 (fs i j)) := fun i hi j hj => (hb.cell (p := ⟨b,off + i * 24 + j,none⟩) hbl).trans (hc0 i hi j hj)
      have hbw : b < wr.heap.size := Nat.lt_of_lt_of_le hbl hb.size
      clear hc0
      have hk := hlt
      have hkn : (k : Int) < n := by omega
      have S1 := fun W => shows48_any (fs k) l z x y W
      have A1 := fun W => isAbove_any T (fs k) W
      have C1 := fun W => covers_any (fs k) u X Y W (right_out (hr k hlt)) bX bY ⟨by omega,by omega⟩
      cases hs : shw (fs k) l z with
      | false =>
        rw [hs] at S1
        clear hlt
        go_wp2
        refine region_bq (by kernel_rfl) (by kernel_rfl) ?_
        refine q_move rfl _ rfl (.slice (some ⟨b,off,none⟩) n cap) rfl ?_
        simp only [Act.put,qA,qB,qC]
        refine q_move rfl _ rfl (.int .i64 k) rfl ?_
        simp only [Act.put,qA,qB,qC]
        refine q_val rfl (.pointer (some ⟨b,off + k * 24,none⟩)) (fun _ _ => by simp [go_sem,hkn]) ?_
        simp only [Act.put,qA,qB,qC]
        refine q_load rfl 86 _ rfl b (off + k * 24) rfl (fc (fs k)) _ Tryz.underlying86 rfl (szf _) (fun w' h => fs_rng (fun i hi j hj => (h.cell (p := ⟨b,off + i * 24 + j,none⟩) hbw).trans (hcs i hi j hj)) hk) ?_
        simp only [Act.put,qA,qB,qC]
        refine q_load rfl 39 _ rfl w.heap.size 0 rfl #[.int .i64 l,.int .i64 z,.int .i64 x,.int .i64 y] _ Tryz.underlying39 rfl (sz28 l z x y) (fun w' h => rng_on hk1 h) ?_
        simp only [Act.put,qA,qB,qC]
        refine q_call rfl 89 #[.agg (fc (fs k)),.agg #[.int .i64 l,.int .i64 z,.int .i64 x,.int .i64 y]] (fun _ => by simp [go_sem]) _ S1 ?_
        simp only [Act.put,qA,qB,qC]
        refine q_move rfl _ rfl (.bool false) rfl ?_
        simp only [Act.put,qA,qB,qC]
        go_big_quiet_skip
        go_big_quiet_skip
        go_big_quiet_skip
        go_big_quiet_skip
        go_big_quiet_skip
        go_big_quiet_skip
        go_big_quiet_skip
        refine q_val rfl (.bool false) (fun _ _ => by simp [go_sem]) ?_
        simp only [Act.put,qA,qB,qC]
        refine q_move rfl _ rfl (.bool false) rfl ?_
        simp only [Act.put,qA,qB,qC]
        go_big_quiet_skip
        go_big_quiet_skip
        go_big_quiet_skip
        go_big_quiet_skip
        go_big_quiet_skip
        go_big_quiet_skip
        go_big_quiet_skip
        refine q_val rfl (.bool false) (fun _ _ => by simp [go_sem]) ?_
        simp only [Act.put,qA,qB,qC]
        refine wpQuiet_nil ?_
        intro w' hw'
        have hg2 := blk_on hk1 hw'
        have hp2 := blk_on hp1 hw'
        have ht2 := blk_on ht hw'
        have hb2 := hb.trans (hw'.mono hb.size)
        have hs2 := hw'.size
        clear hk1 hp1 ht hb hcs
        go_wp2
        go_roundw
        case rel => exact ⟨k + 1,T,by omega,by go_num,hide ((unhide hT).trans (top_no (by rw [hs]; rfl))),hg2,hp2,ht2,hb2⟩
        case measure => simp [intOf]; omega
      | true =>
      rw [hs] at S1
      cases ha : isAb T (fs k) with
      | true =>
        rw [ha] at A1
        clear hlt
        go_wp2
        refine region_bq (by kernel_rfl) (by kernel_rfl) ?_
        refine q_move rfl _ rfl (.slice (some ⟨b,off,none⟩) n cap) rfl ?_
        simp only [Act.put,qA,qB,qC]
        refine q_move rfl _ rfl (.int .i64 k) rfl ?_
        simp only [Act.put,qA,qB,qC]
        refine q_val rfl (.pointer (some ⟨b,off + k * 24,none⟩)) (fun _ _ => by simp [go_sem,hkn]) ?_
        simp only [Act.put,qA,qB,qC]
        refine q_load rfl 86 _ rfl b (off + k * 24) rfl (fc (fs k)) _ Tryz.underlying86 rfl (szf _) (fun w' h => fs_rng (fun i hi j hj => (h.cell (p := ⟨b,off + i * 24 + j,none⟩) hbw).trans (hcs i hi j hj)) hk) ?_
        simp only [Act.put,qA,qB,qC]
        refine q_load rfl 39 _ rfl w.heap.size 0 rfl #[.int .i64 l,.int .i64 z,.int .i64 x,.int .i64 y] _ Tryz.underlying39 rfl (sz28 l z x y) (fun w' h => rng_on hk1 h) ?_
        simp only [Act.put,qA,qB,qC]
        refine q_call rfl 89 #[.agg (fc (fs k)),.agg #[.int .i64 l,.int .i64 z,.int .i64 x,.int .i64 y]] (fun _ => by simp [go_sem]) _ S1 ?_
        simp only [Act.put,qA,qB,qC]
        refine q_move rfl _ rfl (.bool true) rfl ?_
        simp only [Act.put,qA,qB,qC]
        refine q_load (by kernel_rfl) 86 _ rfl (w1.heap.size + 1) 0 rfl (fc T) _ Tryz.underlying86 rfl (szf _) (fun w' h => rng_on ht h) ?_
        simp only [Act.put,qA,qB,qC]
        refine q_move (by kernel_rfl) _ rfl (.slice (some ⟨b,off,none⟩) n cap) rfl ?_
        simp only [Act.put,qA,qB,qC]
        refine q_move (by kernel_rfl) _ rfl (.int .i64 k) rfl ?_
        simp only [Act.put,qA,qB,qC]
        refine q_val (by kernel_rfl) (.pointer (some ⟨b,off + k * 24,none⟩)) (fun _ _ => by simp [go_sem,hkn]) ?_
        simp only [Act.put,qA,qB,qC]
        refine q_load (by kernel_rfl) 86 _ rfl b (off + k * 24) rfl (fc (fs k)) _ Tryz.underlying86 rfl (szf _) (fun w' h => fs_rng (fun i hi j hj => (h.cell (p := ⟨b,off + i * 24 + j,none⟩) hbw).trans (hcs i hi j hj)) hk) ?_
        simp only [Act.put,qA,qB,qC]
        refine q_call (by kernel_rfl) 90 #[.agg (fc T),.agg (fc (fs k))] (fun _ => by simp [go_sem]) _ A1 ?_
        simp only [Act.put,qA,qB,qC]
        refine q_val (by kernel_rfl) (.bool false) (fun _ _ => by simp [go_sem]) ?_
        simp only [Act.put,qA,qB,qC]
        refine q_val (by kernel_rfl) (.bool false) (fun _ _ => by simp [go_sem]) ?_
        simp only [Act.put,qA,qB,qC]
        refine q_move (by kernel_rfl) _ rfl (.bool false) rfl ?_
        simp only [Act.put,qA,qB,qC]
        go_big_quiet_skip
        go_big_quiet_skip
        go_big_quiet_skip
        go_big_quiet_skip
        go_big_quiet_skip
        go_big_quiet_skip
        go_big_quiet_skip
        refine q_val (by kernel_rfl) (.bool false) (fun _ _ => by simp [go_sem]) ?_
        simp only [Act.put,qA,qB,qC]
        refine wpQuiet_nil ?_
        intro w' hw'
        have hg2 := blk_on hk1 hw'
        have hp2 := blk_on hp1 hw'
        have ht2 := blk_on ht hw'
        have hb2 := hb.trans (hw'.mono hb.size)
        have hs2 := hw'.size
        clear hk1 hp1 ht hb hcs
        go_wp2
        go_roundw
        case rel => exact ⟨k + 1,T,by omega,by go_num,hide ((unhide hT).trans (top_no (by rw [<- unhide hT,ha]; simp))),hg2,hp2,ht2,hb2⟩
        case measure => simp [intOf]; omega
      | false =>
      rw [ha] at A1
      cases hcv : cov (fs k) u X Y with
      | false =>
        rw [hcv] at C1
        clear hlt
        go_wp2
        refine region_bq (by kernel_rfl) (by kernel_rfl) ?_
        refine q_move rfl _ rfl (.slice (some ⟨b,off,none⟩) n cap) rfl ?_
        simp only [Act.put,qA,qB,qC]
        refine q_move rfl _ rfl (.int .i64 k) rfl ?_
        simp only [Act.put,qA,qB,qC]
        refine q_val rfl (.pointer (some ⟨b,off + k * 24,none⟩)) (fun _ _ => by simp [go_sem,hkn]) ?_
        simp only [Act.put,qA,qB,qC]
        refine q_load rfl 86 _ rfl b (off + k * 24) rfl (fc (fs k)) _ Tryz.underlying86 rfl (szf _) (fun w' h => fs_rng (fun i hi j hj => (h.cell (p := ⟨b,off + i * 24 + j,none⟩) hbw).trans (hcs i hi j hj)) hk) ?_
        simp only [Act.put,qA,qB,qC]
        refine q_load rfl 39 _ rfl w.heap.size 0 rfl #[.int .i64 l,.int .i64 z,.int .i64 x,.int .i64 y] _ Tryz.underlying39 rfl (sz28 l z x y) (fun w' h => rng_on hk1 h) ?_
        simp only [Act.put,qA,qB,qC]
        refine q_call rfl 89 #[.agg (fc (fs k)),.agg #[.int .i64 l,.int .i64 z,.int .i64 x,.int .i64 y]] (fun _ => by simp [go_sem]) _ S1 ?_
        simp only [Act.put,qA,qB,qC]
        refine q_move rfl _ rfl (.bool true) rfl ?_
        simp only [Act.put,qA,qB,qC]
        refine q_load (by kernel_rfl) 86 _ rfl (w1.heap.size + 1) 0 rfl (fc T) _ Tryz.underlying86 rfl (szf _) (fun w' h => rng_on ht h) ?_
        simp only [Act.put,qA,qB,qC]
        refine q_move (by kernel_rfl) _ rfl (.slice (some ⟨b,off,none⟩) n cap) rfl ?_
        simp only [Act.put,qA,qB,qC]
        refine q_move (by kernel_rfl) _ rfl (.int .i64 k) rfl ?_
        simp only [Act.put,qA,qB,qC]
        refine q_val (by kernel_rfl) (.pointer (some ⟨b,off + k * 24,none⟩)) (fun _ _ => by simp [go_sem,hkn]) ?_
        simp only [Act.put,qA,qB,qC]
        refine q_load (by kernel_rfl) 86 _ rfl b (off + k * 24) rfl (fc (fs k)) _ Tryz.underlying86 rfl (szf _) (fun w' h => fs_rng (fun i hi j hj => (h.cell (p := ⟨b,off + i * 24 + j,none⟩) hbw).trans (hcs i hi j hj)) hk) ?_
        simp only [Act.put,qA,qB,qC]
        refine q_call (by kernel_rfl) 90 #[.agg (fc T),.agg (fc (fs k))] (fun _ => by simp [go_sem]) _ A1 ?_
        simp only [Act.put,qA,qB,qC]
        refine q_val (by kernel_rfl) (.bool true) (fun _ _ => by simp [go_sem]) ?_
        simp only [Act.put,qA,qB,qC]
        refine q_val (by kernel_rfl) (.bool true) (fun _ _ => by simp [go_sem]) ?_
        simp only [Act.put,qA,qB,qC]
        refine q_move (by kernel_rfl) _ rfl (.bool true) rfl ?_
        simp only [Act.put,qA,qB,qC]
        refine q_move (by kernel_rfl) _ rfl (.slice (some ⟨b,off,none⟩) n cap) rfl ?_
        simp only [Act.put,qA,qB,qC]
        refine q_move (by kernel_rfl) _ rfl (.int .i64 k) rfl ?_
        simp only [Act.put,qA,qB,qC]
        refine q_val (by kernel_rfl) (.pointer (some ⟨b,off + k * 24,none⟩)) (fun _ _ => by simp [go_sem,hkn]) ?_
        simp only [Act.put,qA,qB,qC]
        refine q_load (by kernel_rfl) 86 _ rfl b (off + k * 24) rfl (fc (fs k)) _ Tryz.underlying86 rfl (szf _) (fun w' h => fs_rng (fun i hi j hj => (h.cell (p := ⟨b,off + i * 24 + j,none⟩) hbw).trans (hcs i hi j hj)) hk) ?_
        simp only [Act.put,qA,qB,qC]
        refine q_move (by kernel_rfl) _ rfl (.int .i64 u) rfl ?_
        simp only [Act.put,qA,qB,qC]
        refine q_load (by kernel_rfl) 155 _ rfl w1.heap.size 0 rfl #[.int .i64 X,.int .i64 Y] _ Tryz.underlying155 rfl (sz59 X Y) (fun w' h => rng_on hp1 h) ?_
        simp only [Act.put,qA,qB,qC]
        refine q_call (by kernel_rfl) 91 #[.agg (fc (fs k)),.int .i64 u,.agg #[.int .i64 X,.int .i64 Y]] (fun _ => by simp [go_sem]) _ C1 ?_
        simp only [Act.put,qA,qB,qC]
        refine q_val (by kernel_rfl) (.bool false) (fun _ _ => by simp [go_sem]) ?_
        simp only [Act.put,qA,qB,qC]
        refine wpQuiet_nil ?_
        intro w' hw'
        have hg2 := blk_on hk1 hw'
        have hp2 := blk_on hp1 hw'
        have ht2 := blk_on ht hw'
        have hb2 := hb.trans (hw'.mono hb.size)
        have hs2 := hw'.size
        clear hk1 hp1 ht hb hcs
        go_wp2
        go_roundw
        case rel => exact ⟨k + 1,T,by omega,by go_num,hide ((unhide hT).trans (top_no (by rw [hcv]; simp))),hg2,hp2,ht2,hb2⟩
        case measure => simp [intOf]; omega
      | true =>
        rw [hcv] at C1
        clear hlt
        go_wp2
        refine region_bq (by kernel_rfl) (by kernel_rfl) ?_
        refine q_move rfl _ rfl (.slice (some ⟨b,off,none⟩) n cap) rfl ?_
        simp only [Act.put,qA,qB,qC]
        refine q_move rfl _ rfl (.int .i64 k) rfl ?_
        simp only [Act.put,qA,qB,qC]
        refine q_val rfl (.pointer (some ⟨b,off + k * 24,none⟩)) (fun _ _ => by simp [go_sem,hkn]) ?_
        simp only [Act.put,qA,qB,qC]
        refine q_load rfl 86 _ rfl b (off + k * 24) rfl (fc (fs k)) _ Tryz.underlying86 rfl (szf _) (fun w' h => fs_rng (fun i hi j hj => (h.cell (p := ⟨b,off + i * 24 + j,none⟩) hbw).trans (hcs i hi j hj)) hk) ?_
        simp only [Act.put,qA,qB,qC]
        refine q_load rfl 39 _ rfl w.heap.size 0 rfl #[.int .i64 l,.int .i64 z,.int .i64 x,.int .i64 y] _ Tryz.underlying39 rfl (sz28 l z x y) (fun w' h => rng_on hk1 h) ?_
        simp only [Act.put,qA,qB,qC]
        refine q_call rfl 89 #[.agg (fc (fs k)),.agg #[.int .i64 l,.int .i64 z,.int .i64 x,.int .i64 y]] (fun _ => by simp [go_sem]) _ S1 ?_
        simp only [Act.put,qA,qB,qC]
        refine q_move rfl _ rfl (.bool true) rfl ?_
        simp only [Act.put,qA,qB,qC]
        refine q_load (by kernel_rfl) 86 _ rfl (w1.heap.size + 1) 0 rfl (fc T) _ Tryz.underlying86 rfl (szf _) (fun w' h => rng_on ht h) ?_
        simp only [Act.put,qA,qB,qC]
        refine q_move (by kernel_rfl) _ rfl (.slice (some ⟨b,off,none⟩) n cap) rfl ?_
        simp only [Act.put,qA,qB,qC]
        refine q_move (by kernel_rfl) _ rfl (.int .i64 k) rfl ?_
        simp only [Act.put,qA,qB,qC]
        refine q_val (by kernel_rfl) (.pointer (some ⟨b,off + k * 24,none⟩)) (fun _ _ => by simp [go_sem,hkn]) ?_
        simp only [Act.put,qA,qB,qC]
        refine q_load (by kernel_rfl) 86 _ rfl b (off + k * 24) rfl (fc (fs k)) _ Tryz.underlying86 rfl (szf _) (fun w' h => fs_rng (fun i hi j hj => (h.cell (p := ⟨b,off + i * 24 + j,none⟩) hbw).trans (hcs i hi j hj)) hk) ?_
        simp only [Act.put,qA,qB,qC]
        refine q_call (by kernel_rfl) 90 #[.agg (fc T),.agg (fc (fs k))] (fun _ => by simp [go_sem]) _ A1 ?_
        simp only [Act.put,qA,qB,qC]
        refine q_val (by kernel_rfl) (.bool true) (fun _ _ => by simp [go_sem]) ?_
        simp only [Act.put,qA,qB,qC]
        refine q_val (by kernel_rfl) (.bool true) (fun _ _ => by simp [go_sem]) ?_
        simp only [Act.put,qA,qB,qC]
        refine q_move (by kernel_rfl) _ rfl (.bool true) rfl ?_
        simp only [Act.put,qA,qB,qC]
        refine q_move (by kernel_rfl) _ rfl (.slice (some ⟨b,off,none⟩) n cap) rfl ?_
        simp only [Act.put,qA,qB,qC]
        refine q_move (by kernel_rfl) _ rfl (.int .i64 k) rfl ?_
        simp only [Act.put,qA,qB,qC]
        refine q_val (by kernel_rfl) (.pointer (some ⟨b,off + k * 24,none⟩)) (fun _ _ => by simp [go_sem,hkn]) ?_
        simp only [Act.put,qA,qB,qC]
        refine q_load (by kernel_rfl) 86 _ rfl b (off + k * 24) rfl (fc (fs k)) _ Tryz.underlying86 rfl (szf _) (fun w' h => fs_rng (fun i hi j hj => (h.cell (p := ⟨b,off + i * 24 + j,none⟩) hbw).trans (hcs i hi j hj)) hk) ?_
        simp only [Act.put,qA,qB,qC]
        refine q_move (by kernel_rfl) _ rfl (.int .i64 u) rfl ?_
        simp only [Act.put,qA,qB,qC]
        refine q_load (by kernel_rfl) 155 _ rfl w1.heap.size 0 rfl #[.int .i64 X,.int .i64 Y] _ Tryz.underlying155 rfl (sz59 X Y) (fun w' h => rng_on hp1 h) ?_
        simp only [Act.put,qA,qB,qC]
        refine q_call (by kernel_rfl) 91 #[.agg (fc (fs k)),.int .i64 u,.agg #[.int .i64 X,.int .i64 Y]] (fun _ => by simp [go_sem]) _ C1 ?_
        simp only [Act.put,qA,qB,qC]
        refine q_val (by kernel_rfl) (.bool true) (fun _ _ => by simp [go_sem]) ?_
        simp only [Act.put,qA,qB,qC]
        refine wpQuiet_nil ?_
        intro w' hw'
        have hg2 := blk_on hk1 hw'
        have hp2 := blk_on hp1 hw'
        have ht2 := blk_on ht hw'
        have hb2 := hb.trans (hw'.mono hb.size)
        have hcs2 : ∀ i,i < n -> ∀ j,j < 24 -> w'.cell? ⟨b,off + i * 24 + j,none⟩ = some (.int .i64 (fs i j)) := fun i hi j hj => (hw'.cell (p := ⟨b,off + i * 24 + j,none⟩) hbw).trans (hcs i hi j hj)
        have hrg := fs_rng hcs2 hk
        have HW := hide hw'.size
        clear hk1 hp1 ht hb hcs hcs2 hw'
        go_wp2_with (first | refine ldm26 rfl _ rfl b (off + k * 24) rfl (fs k) hrg ?_ | refine st26 rfl _ _ rfl (w1.heap.size + 1) (fs k) rfl rfl T ht2 ?_)
        go_roundw
        case rel => exact ⟨k + 1,fs k,by omega,by go_num,hide (top_yes (by rw [<- unhide hT,hs,ha,hcv]; rfl)),(setRow_other (by omega) _).trans hg2,(setRow_other (by omega) _).trans hp2,setRow_heap _ _ _ _ _ _ ht2,below_setRow hb2 (by omega) _⟩
        case measure => simp [intOf]; omega
    . have hkn : k = n := by omega
      subst hkn
      have hct := blk_cells ht
      have ct3 := fc_at T 3 (by decide)
      have HT3 : Hid (T 3 = top fs l z u X Y k 3) := by show T 3 = _; rw [unhide hT]
      have hw3 : IntKind.u8.wrap (T 3) = T 3 := top_small _ trivial (unhide HT3) hr
      go_wp2
      go_ret
      exact ⟨ret_int (unhide HT3),hb⟩
theorem Tryz.info5 : (Tryz.prog.info? 5).map (fun i => (i.zero,i.size,i.bytes)) = some (some (.int .u8 0),1,1) := by kernel_rfl
def bv (b : UInt8) : Value := .int .u8 b.toNat
def OwnB (w : World) (B : Nat) (v : Value) (l : List UInt8) : Prop := w.ownsRow B 5 1 v l.length (l.map bv)
theorem ownB_none (w : World) (B : Nat) (hB : B <= w.heap.size) : OwnB (w.alloc (.cells #[] 5)) B (.slice (some ⟨w.heap.size,0,none⟩) 0 0) [] :=
  World.ownsRow_lit w #[] 0 hB (Nat.zero_le _) rfl
theorem ownB_one (w : World) (B : Nat) (hB : B <= w.heap.size) (b : UInt8) (n : Int) (hn : n = b.toNat) : OwnB (w.alloc (.cells #[.int .u8 n] 5)) B (.slice (some ⟨w.heap.size,0,none⟩) 1 1) [b] := by
  subst hn
  exact World.ownsRow_lit w #[bv b] 1 hB (by decide) rfl
theorem OwnB.alloc {w : World} {B : Nat} {v : Value} {l : List UInt8} (h : OwnB w B v l) (o : Obj) : OwnB (w.alloc o) B v l := World.ownsRow.alloc h o
theorem OwnB.drewN {w : World} {B : Nat} {v : Value} {l : List UInt8} (h : OwnB w B v l) (q : Nat) : OwnB (w.drewN q) B v l := h
theorem OwnB.str {w : World} {B : Nat} {v : Value} {l : List UInt8} (h : OwnB w B v l) (q : Nat) : (convert 114 9 v).run Tryz.prog (w.drewN q) = .ok (.string ⟨l.toArray⟩) (w.drewN q) := by
  have h0 := h
  rcases h.2 with ⟨rfl,hn⟩ | ⟨g,cap,cur,rfl,_,hg,_,_,_,htake⟩
  . have : l = [] := List.length_eq_zero_iff.1 hn
    subst this
    exact run_convert_bytes_nil (P := Tryz.prog) (w.drewN q) 114 5 Tryz.underlying114 Tryz.underlying5 0 0 9 Tryz.underlying9
  . refine run_convert_bytes_back (w.drewN q) 114 9 5 ⟨g,0,none⟩ cap l Tryz.underlying114 Tryz.underlying5 Tryz.underlying9 ?_
    intro j hj
    have := World.ownsRow.cellAt h0 j (by simpa using hj)
    rw [World.cell?_drewN]
    have e : (⟨g,0,none⟩ : Addr).add j = ⟨g,j,none⟩ := by simp [Addr.add]; exact fun h => h.symm
    rw [e,this]
    simp [hj,bv]
theorem wp_append_byte {ops : Array Oper} {rest : List Oper} {o : Oper} {a : Act} {Q : Exit -> Act -> World -> Prop} (hgd : o.guard = none) (s x : Operand)
    (ho : o.op = .call { callee := .builtin .append,args := #[s,x],argTypes := #[114,114] })
    (W : World) (B : Nat) (v : Value) (l : List UInt8) (b : UInt8) (n : Int) (hs : a.eval s = v) (hown : OwnB W B v l) (hx : a.eval x = .slice (some ⟨W.heap.size,0,none⟩) 1 1)
    (hb : n = b.toNat) (hlen : l.length <= 1000000) (hB : B <= W.heap.size)
    (h : ∀ v' w',OwnB w' B v' (l ++ [b]) -> Below B W w' -> wpList Tryz.prog ops Q rest (a.put o.dst v') w') :
    wpList Tryz.prog ops Q (o :: rest) a (W.alloc (.cells #[.int .u8 n] 5)) := by
  subst hb
  obtain ⟨i0,hi,hz0,hz1,hz2⟩ := info_parts Tryz.info5
  refine wpList_append_own _ hgd s x 114 ho B 5 i0 (.int .u8 0) 1 1 Tryz.underlying114 hi hz0 hz1 hz2 rfl (by decide) v l.length (l.map bv) hs (hown.alloc _) ⟨W.heap.size,0,none⟩ 1 1 [bv b] hx rfl (cell_one_new _ _ _) ?_ ?_ ?_ ?_ ?_
  . intro u hu; simp at hu; subst hu; rfl
  . unfold maxLen; omega
  . omega
  . simp; omega
  . intro v' w1 hown' hgrow _
    refine h v' w1 ?_ ?_
    . unfold OwnB
      simpa using hown'
    . exact ((Below.refl B W).alloc hB _).grown hgrow (by simp; omega) (fun k hk => (World.ownsRow.lt hown k hk).1)
theorem OwnB.on {w w' : World} {B : Nat} {v : Value} {l : List UInt8} (h : OwnB w B v l) (hb : Below w.heap.size w w') : OwnB w' B v l := by
  obtain ⟨h1,h2⟩ := h
  refine ⟨h1,?_⟩
  rcases h2 with h2 | ⟨g,cap,cur,hv,hg,hh,r⟩
  . exact Or.inl h2
  . exact Or.inr ⟨g,cap,cur,hv,hg,blk_on hh hb,r⟩
theorem size_of_len (l : List UInt8) : (⟨l.toArray⟩ : ByteArray).size = l.length := rfl
theorem ret_str2 {a b : List UInt8} {m n : Int} (h : a = b) (h' : m = n) : Ending.returned (.tuple #[.string ⟨a.toArray⟩,.int .i64 m]) = .returned (.tuple #[.string ⟨b.toArray⟩,.int .i64 n]) := by rw [h,h']
def allR (fs : Nat -> Nat -> Int) (k : Nat) : Bool := (List.range k).all fun i => right (fs i)
theorem allR_snoc {fs : Nat -> Nat -> Int} {k : Nat} (h : allR fs k = true) (h' : right (fs k) = true) : allR fs (k + 1) = true := by
  unfold allR at *; rw [List.range_succ,List.all_append,h]; simp [h']
theorem allR_bad {fs : Nat -> Nat -> Int} {k n : Nat} (hk : k < n) (h : right (fs k) = false) : allR fs n = false := by
  rw [Bool.eq_false_iff]; intro ht
  simp only [allR,List.all_eq_true,List.mem_range] at ht
  rw [ht k hk] at h; cases h
theorem allR_at {fs : Nat -> Nat -> Int} {n : Nat} (h : allR fs n = true) (i : Nat) (hi : i < n) : right (fs i) = true := by
  simp only [allR,List.all_eq_true,List.mem_range] at h
  exact h i hi
def ink (fs : Nat -> Nat -> Int) (n : Nat) (l z x y : Int) (p : Nat) : Int := top fs l z (un z) (cen x (un z) ((p : Int) % 8)) (cen y (un z) ((p : Int) / 8)) n 3
def pic (fs : Nat -> Nat -> Int) (n : Nat) (l z x y : Int) (k : Nat) : List UInt8 := (List.range k).map fun p => UInt8.ofNat (ink fs n l z x y p).toNat
theorem pic_succ (fs : Nat -> Nat -> Int) (n : Nat) (l z x y : Int) (k : Nat) : pic fs n l z x y (k + 1) = pic fs n l z x y k ++ [UInt8.ofNat (ink fs n l z x y k).toNat] := by simp [pic,List.range_succ]
theorem pic_len (fs : Nat -> Nat -> Int) (n : Nat) (l z x y : Int) (k : Nat) : (pic fs n l z x y k).length = k := by simp [pic]
theorem ink_byte {fs : Nat -> Nat -> Int} {n : Nat} (hr : allR fs n = true) (l z x y : Int) (p : Nat) : ink fs n l z x y p = ((UInt8.ofNat (ink fs n l z x y p).toNat).toNat : Int) := by
  have := top_ink (allR_at hr) l z (un z) (cen x (un z) ((p : Int) % 8)) (cen y (un z) ((p : Int) / 8))
  unfold ink
  generalize top fs l z (un z) (cen x (un z) ((p : Int) % 8)) (cen y (un z) ((p : Int) / 8)) n 3 = v at *
  rw [UInt8.toNat_ofNat']
  omega
def pErr (fs : Nat -> Nat -> Int) (n : Nat) (l z x y : Int) : Int := if keyErr l z x y = 0 then (if 40 < n then 11 else bif allR fs n then 0 else 7) else keyErr l z x y
def pPic (fs : Nat -> Nat -> Int) (n : Nat) (l z x y : Int) : List UInt8 := if keyErr l z x y = 0 then (if 40 < n then [] else bif allR fs n then pic fs n l z x y 64 else []) else []
set_option maxHeartbeats 3200000 in
theorem Paint_key (v : Value) (n : Nat) (fs : Nat -> Nat -> Int) (l z x y : Int) (w : World) (hv : FsAt w v n fs) (h : ¬ keyErr l z x y = 0 \/ 40 < n) :
    Calls Tryz.prog 28 #[v,.agg #[.int .i64 l,.int .i64 z,.int .i64 x,.int .i64 y]] w fun e w' => e = .returned (.tuple #[.string ⟨(pPic fs n l z x y).toArray⟩,.int .i64 (pErr fs n l z x y)]) /\ Below w.heap.size w w' := by
  have hg0 := heap_alloc_new w (.cells #[.int .i64 l,.int .i64 z,.int .i64 x,.int .i64 y] 39 (0,0))
  have K := fun W => keyError_any l z x y W
  obtain ⟨oa,cap,rfl,hm,hn⟩ := hv
  clear hn
  by_cases he : keyErr l z x y = 0
  . have h40 : 40 < n := by rcases h with h | h; exact absurd he h; exact h
    have H : Hid (pPic fs n l z x y = [] /\ pErr fs n l z x y = 11) := by show pPic fs n l z x y = [] /\ pErr fs n l z x y = 11; simp [pPic,pErr,he,h40]
    rw [he] at K
    have h40' : (40 : Int) < (n : Int) := by omega
    clear h he h40
    go_enter Tryz.func28,Tryz.ntmps28
    go_wp2_with fail
    refine (K _).mono ?_
    rintro e w1 ⟨rfl,hb1⟩
    have HB := hide ((below_one _ _).trans (hb1.mono (by simp)))
    clear hb1
    go_wp2_with fail
    go_ret2
    exact ⟨ret_str2 (unhide H).1.symm (unhide H).2.symm,unhide HB⟩
  . have H : Hid (pPic fs n l z x y = [] /\ pErr fs n l z x y = keyErr l z x y) := by show pPic fs n l z x y = [] /\ pErr fs n l z x y = _; simp [pPic,pErr,he]
    have he' : (keyErr l z x y == 0) = false := by simp [he]
    clear h he
    go_enter Tryz.func28,Tryz.ntmps28
    go_wp2_with fail
    refine (K _).mono ?_
    rintro e w1 ⟨rfl,hb1⟩
    have HB := hide ((below_one _ _).trans (hb1.mono (by simp)))
    clear hb1
    go_wp2_with fail
    go_ret2
    exact ⟨ret_str2 (unhide H).1.symm (unhide H).2.symm,unhide HB⟩
set_option maxHeartbeats 3200000 in
theorem Paint_in (v : Value) (n : Nat) (fs : Nat -> Nat -> Int) (l z x y : Int) (w : World) (hv : FsAt w v n fs) (he : keyErr l z x y = 0) (hn : n <= 40) :
    Calls Tryz.prog 28 #[v,.agg #[.int .i64 l,.int .i64 z,.int .i64 x,.int .i64 y]] w fun e w' => e = .returned (.tuple #[.string ⟨(pPic fs n l z x y).toArray⟩,.int .i64 (pErr fs n l z x y)]) /\ Below w.heap.size w w' := by
  have hg0 := heap_alloc_new w (.cells #[.int .i64 l,.int .i64 z,.int .i64 x,.int .i64 y] 39 (0,0))
  have K := fun W => keyError_any l z x y W
  rw [he] at K
  have HV := hide hv
  have HE := hide he
  have H7 : Hid (allR fs n = false -> pPic fs n l z x y = [] /\ pErr fs n l z x y = 7) := fun h => by simp [pPic,pErr,he,h,show ¬ 40 < n by omega]
  have H0 : Hid (allR fs n = true -> pPic fs n l z x y = pic fs n l z x y 64 /\ pErr fs n l z x y = 0) := fun h => by simp [pPic,pErr,he,h,show ¬ 40 < n by omega]
  obtain ⟨oa,cap,rfl,hm,hc⟩ := hv
  have HC := hide hc
  have hn' : (n : Int) <= 40 := by omega
  clear hc he
  go_enter Tryz.func28,Tryz.ntmps28
  go_wp2_with fail
  refine (K _).mono ?_
  rintro e w1 ⟨rfl,hb1⟩
  have hg1 := blk_on hg0 hb1
  have HB := hide ((below_one _ _).trans (hb1.mono (by simp)))
  clear hb1
  go_wp2_with fail
  go_loopw [7] (fun i wr => ∃ k : Nat,k <= n /\ i = .int .i64 k /\ Hid (allR fs k = true) /\ wr.heap[w.heap.size]? = some (.cells #[.int .i64 l,.int .i64 z,.int .i64 x,.int .i64 y] 39 (0,0)) /\ Below w.heap.size w wr) (fun i _ => n - (intOf i).toNat)
  case atStart => exact ⟨0,by omega,rfl,hide rfl,hg1,unhide HB⟩
  case round =>
    obtain ⟨k,hk,rfl,hall,hgk,hb⟩ := hrel
    have HBr := hide hb
    by_cases hlt : k < n
    . obtain ⟨b,off,rfl,hbl,hc0⟩ := unhide HC (by omega)
      have hcs : ∀ i,i < n -> ∀ j,j < 24 -> wr.cell? ⟨b,off + i * 24 + j,none⟩ = some (.int .i64 (fs i j)) := fun i hi j hj => (hb.cell (p := ⟨b,off + i * 24 + j,none⟩) hbl).trans (hc0 i hi j hj)
      have hrg := fs_rng hcs hlt
      have hkn : (k : Int) < n := by omega
      clear hc0 hcs hb
      cases hr : right (fs k) with
      | true =>
        go_wp2_with (refine ldm26 rfl _ rfl b (off + k * 24) rfl (fs k) hrg ?_)
        refine (check_t hr _).mono ?_
        rintro e w2 ⟨rfl,hb2⟩
        have hg2 := blk_on hgk hb2
        have HB2 := hide ((unhide HBr).trans (hb2.mono (unhide HBr).size))
        clear hb2 hrg
        go_wp2_with fail
        go_roundw
        case rel => exact ⟨k + 1,by omega,by go_num,hide (allR_snoc (unhide hall) hr),hg2,unhide HB2⟩
        case measure => simp [intOf]; omega
      | false =>
        go_wp2_with (refine ldm26 rfl _ rfl b (off + k * 24) rfl (fs k) hrg ?_)
        refine (check_f hr _).mono ?_
        rintro e w2 ⟨rfl,hb2⟩
        have HB2 := hide ((unhide HBr).trans (hb2.mono (unhide HBr).size))
        clear hb2 hrg
        go_wp2_with fail
        go_ret2
        have H := unhide H7 (allR_bad hlt hr)
        exact ⟨ret_str2 H.1.symm H.2.symm,unhide HB2⟩
    . have hkn : k = n := by omega
      subst hkn
      have hgl := (Array.getElem?_eq_some_iff.1 hgk).1
      have HO := hide (ownB_none wr (w.heap.size + 1) hgl)
      clear hb
      go_wp2_with fail
      go_loopw [8,9] (fun v i wx => ∃ p : Nat,p <= 64 /\ i = .int .i64 p /\ OwnB wx (w.heap.size + 1) v (pic fs k l z x y p) /\ wx.heap[w.heap.size]? = some (.cells #[.int .i64 l,.int .i64 z,.int .i64 x,.int .i64 y] 39 (0,0)) /\ Below w.heap.size w wx) (fun _ i _ => 64 - (intOf i).toNat)
      case atStart => exact ⟨0,by omega,rfl,unhide HO,(Below.heap_alloc _ _ _ (Array.getElem?_eq_some_iff.1 hgk).1).trans hgk,below_alloc (unhide HBr) (Nat.le_refl _) _⟩
      case round =>
        obtain ⟨p,hp,rfl,hown,hgp,hbp⟩ := hrel
        have hcp := blk_cells hgp
        have HBp := hide hbp
        have HOW := hide hown
        by_cases hlt : p < 64
        . have hlt' : (p : Int) < 64 := by omega
          have IK := fun W h => inkOf_any (.slice oa k cap) k fs l z x y p W h (unhide HE) hlt hn (allR_at (unhide hall))
          have hiv := (unhide HV).on hbp
          have hby := hide (ink_byte (unhide hall) l z x y p)
          clear hown hbp
          go_wp2_with fail
          refine (IK _ hiv).mono ?_
          rintro e w2 ⟨rfl,hb2⟩
          have hg2 := blk_on hgp hb2
          have hown2 := (unhide HOW).on hb2
          have HB2 := hide ((unhide HBp).trans (hb2.mono (unhide HBp).size))
          have hsz := (Array.getElem?_eq_some_iff.1 hg2).1
          have hbl := hide (pic_len fs k l z x y p)
          clear hb2 hgp hcp IK hiv
          go_wp2_with (at_builtin; refine wp_append_byte rfl (.tmp 35) (.tmp 40) rfl _ (w.heap.size + 1) _ (pic fs k l z x y p) (UInt8.ofNat (ink fs k l z x y p).toNat) _ rfl hown2 rfl ?_ ?_ ?_ ?_)
          . exact unhide hby
          . have := unhide hbl; omega
          . exact hsz
          . intro v' w3 hown3 hb3
            have hg3 : w3.heap[w.heap.size]? = some (.cells #[.int .i64 l,.int .i64 z,.int .i64 x,.int .i64 y] 39 (0,0)) := (hb3.block _ (by omega)).trans hg2
            have HB3 := hide ((unhide HB2).trans (hb3.mono (by omega)))
            clear hb3 hown2 hg2
            go_wp2_with fail
            go_roundw
            case rel => exact ⟨p + 1,by omega,by go_num,by rw [pic_succ]; exact hown3,hg3,unhide HB3⟩
            case measure => simp [intOf]; omega
        . have hp64 : p = 64 := by omega
          subst hp64
          have hcv := hown.str 0
          rw [World.drewN_zero] at hcv
          go_wp2_with fail
          go_ret2
          have H := unhide H0 (unhide hall)
          exact ⟨ret_str2 H.1.symm H.2.symm,unhide HBp⟩
section
variable {ops : Array Oper} {rest : List Oper} {o : Oper} {a : Act} {w : World} {Q : Exit -> Act -> World -> Prop}
theorem ldG (ty : TypeId) (cs : Array Value) {d : TypeDesc} (hu : Tryz.prog.underlying ty = some d) (hd : d.isRow = true) (hi : (Tryz.prog.info? ty).map (·.size) = some cs.size) (b off : Nat) (hc : w.rangeAt b off cs.toList)
    (hw : Region.wanted o (yielded ops a.tmps) = true) (x : Operand) (ho : o.op = .load ty x) (hx : a.eval x = .pointer (some ⟨b,off,none⟩))
    (h : wpList Tryz.prog ops Q rest (a.put o.dst (.agg cs)) w) : wpList Tryz.prog ops Q (o :: rest) a w := by
  unfold wpList
  rw [if_pos hw]
  exact Or.inl (wp_load_mid ty x ho b off hx cs.toList _ hc hu hd (by simpa using hi) (by simpa using h))
theorem stG (ty : TypeId) (cs old : Array Value) (hi : (Tryz.prog.info? ty).map (·.size) = some cs.size) (h1 : cs.all (·.oneCell') = true) (hs : old.size = cs.size) (g : Nat) (hg : w.heap[g]? = some (.cells old ty (0,0)))
    (hgd : o.guard = none) (x y : Operand) (ho : o.op = .store ty x y) (hx : a.eval x = .pointer (some ⟨g,0,none⟩)) (hy : a.eval y = .agg cs)
    (h : wpList Tryz.prog ops Q rest (a.put o.dst undef) (w.setRow g cs)) : wpList Tryz.prog ops Q (o :: rest) a w :=
  wpList_store_row hgd ty x y ho g cs hx hy ty old hg hi hs h1 h
end
theorem rng_blk {w : World} {g : Nat} {cs : Array Value} {t : TypeId} (h : w.heap[g]? = some (.cells cs t (0,0))) : w.rangeAt g 0 cs.toList := fun j v hv => by
  rw [blk_cells h,Nat.zero_add]; simpa using hv
def tv : Option Tile -> Array Value
  | some t => #[.int .i64 t.k.l,.int .i64 t.k.z,.int .i64 t.k.x,.int .i64 t.k.y,.string t.body,.string t.tag]
  | none => #[.int .i64 0,.int .i64 0,.int .i64 0,.int .i64 0,.string ⟨#[]⟩,.string ⟨#[]⟩]
theorem sz136 (o : Option Tile) : (Tryz.prog.info? 136).map (·.size) = some (tv o).size := by cases o <;> kernel_rfl
theorem tv_one (o : Option Tile) : (tv o).all (·.oneCell') = true := by cases o <;> simp [tv,Value.oneCell']
theorem rct {P : Program} {fn : Func} {p q : Tmp} {ty : TypeId} (h : fn.results = #[.cell p ty,.tmp q]) (tmps : Array Value) (w : World) (g : Nat) (t : TypeId) (cs : Array Value) (fr : Nat × Nat) (d : TypeDesc) (b : Value)
    (hp : tmps.getD p undef = .pointer (some ⟨g,0,none⟩)) (hq : tmps.getD q undef = b) (hg : w.heap[g]? = some (.cells cs t fr))
    (hu : P.underlying ty = some d) (hd : (match d with | .struct _ | .array _ _ => true | _ => false) = true) (hi : (P.info? ty).map (·.size) = some cs.size) :
    (results fn tmps).run P w = .ok (.tuple #[.agg cs,b]) w := by
  have hp' : tmps[p]?.getD undef = .pointer (some ⟨g,0,none⟩) := by simpa using hp
  have hq' : tmps[q]?.getD undef = b := by simpa using hq
  simp [results,h,hp',hq',asAddr,run_loadVar_row w g t ty cs fr d hg hu hd hi]
theorem findT_at {ts : List Tile} {k : Nat} {t : Tile} {key : K4} (hk : ts[k]? = some t) (he : t.k = key) (hno : ∀ i u,i < k -> ts[i]? = some u -> u.k ≠ key) : findT ts key = some t := by
  unfold findT
  rw [List.find?_eq_some_iff_getElem]
  obtain ⟨hlt,e⟩ := List.getElem?_eq_some_iff.1 hk
  refine ⟨by simp [he],k,hlt,e,fun j hj => ?_⟩
  have := hno j ts[j] hj (List.getElem?_eq_getElem (by omega))
  simp [this]
theorem findT_no {ts : List Tile} {key : K4} (hno : ∀ i u,i < ts.length -> ts[i]? = some u -> u.k ≠ key) : findT ts key = none := by
  unfold findT
  rw [List.find?_eq_none]
  intro t ht
  obtain ⟨i,hi⟩ := List.mem_iff_getElem?.1 ht
  have := hno i t (List.getElem?_eq_some_iff.1 hi).1 hi
  simp [this]
theorem AtR.tile {W : World} {b off : Nat} {ts : List Tile} {k : Nat} {t : Tile} (h : ∀ i a,ts[i]? = some a -> W.rangeAt b (off + i * rTile.wid) (rTile.enc a)) (hk : ts[k]? = some t) : W.rangeAt b (off + k * 6) (tv (some t)).toList := h k t hk
theorem rng4 {W : World} {b o : Nat} {t : Tile} (h : W.rangeAt b o (tv (some t)).toList) : W.rangeAt b o #[Value.int .i64 t.k.l,.int .i64 t.k.z,.int .i64 t.k.x,.int .i64 t.k.y].toList := by
  intro j v hv
  refine h j v ?_
  rcases j with _ | _ | _ | _ | j
  . exact hv
  . exact hv
  . exact hv
  . exact hv
  . simp at hv
set_option maxHeartbeats 3200000 in
theorem find_any (v : Value) (ts : List Tile) (l z x y : Int) (w : World) (hv : AtR rTile w v ts) :
    Calls Tryz.prog 97 #[v,.agg #[.int .i64 l,.int .i64 z,.int .i64 x,.int .i64 y]] w fun e w' => e = .returned (.tuple #[.agg (tv (findT ts ⟨l,z,x,y⟩)),.bool (findT ts ⟨l,z,x,y⟩).isSome]) /\ Below w.heap.size w w' := by
  obtain ⟨oa,cap,rfl,hcap,hm,hc⟩ := hv
  have HC := hide hc
  unfold maxLen at hm
  clear hc
  have hA := heap_alloc_new w (.cells #[.int .i64 l,.int .i64 z,.int .i64 x,.int .i64 y] 39 (0,0))
  have hB := heap_alloc_new (w.alloc (.cells #[.int .i64 l,.int .i64 z,.int .i64 x,.int .i64 y] 39)) (.cells (tv none) 136 (0,0))
  have hz1 : (w.alloc (.cells #[.int .i64 l,.int .i64 z,.int .i64 x,.int .i64 y] 39)).heap.size = w.heap.size + 1 := by simp
  rw [hz1] at hB
  have hA2 := (heap_alloc_old (w.alloc (.cells #[.int .i64 l,.int .i64 z,.int .i64 x,.int .i64 y] 39)) (.cells (tv none) 136) (show w.heap.size < _ by simp)).trans hA
  have hbl := ((Below.refl w.heap.size w).alloc (Nat.le_refl _) (.cells #[.int .i64 l,.int .i64 z,.int .i64 x,.int .i64 y] 39)).alloc (by simp) (.cells (tv none) 136)
  have HA := hide hA2
  have HB := hide hB
  have HBL := hide hbl
  clear hA hB hA2 hbl
  go_enter Tryz.func97,Tryz.ntmps97
  go_wp2_with fail
  go_loopw [6] (fun i wr => ∃ k : Nat,k <= ts.length /\ i = .int .i64 k /\ Hid (∀ i u,i < k -> ts[i]? = some u -> u.k ≠ ⟨l,z,x,y⟩) /\ wr.heap[w.heap.size]? = some (.cells #[.int .i64 l,.int .i64 z,.int .i64 x,.int .i64 y] 39 (0,0)) /\ wr.heap[w.heap.size + 1]? = some (.cells (tv none) 136 (0,0)) /\ Below w.heap.size w wr) (fun i _ => ts.length - (intOf i).toNat)
  case atStart => exact ⟨0,by omega,rfl,hide (fun i u hi => absurd hi (by omega)),unhide HA,unhide HB,unhide HBL⟩
  case round =>
    obtain ⟨k,hk,rfl,hno,h0,h1,hb⟩ := hrel
    have hl1 : w.heap.size + 1 < wr.heap.size := (Array.getElem?_eq_some_iff.1 h1).1
    by_cases hlt : k < ts.length
    . have hkn : (k : Int) < ts.length := by omega
      obtain ⟨b,off,rfl,hbl,hc0⟩ := unhide HC (by omega)
      obtain ⟨⟨⟨tl,tz,tx,ty⟩,tb,tt⟩,ht⟩ : ∃ t,ts[k]? = some t := ⟨_,List.getElem?_eq_getElem hlt⟩
      have hrg := AtR.tile hc0 ht
      have hW : ∀ W,Below wr.heap.size wr W -> W.rangeAt b (off + k * 6) (tv (some ⟨⟨tl,tz,tx,ty⟩,tb,tt⟩)).toList := fun W h j u hu => ((hb.trans (h.mono hb.size)).cell (p := ⟨b,off + k * 6 + j,none⟩) hbl).trans (hrg j u hu)
      have hW4 := fun W h => rng4 (hW W h)
      have hK : ∀ W,Below wr.heap.size wr W -> W.rangeAt w.heap.size 0 #[.int .i64 l,.int .i64 z,.int .i64 x,.int .i64 y].toList := fun W h j u hu => by
        rw [blk_cells (blk_on h0 h),Nat.zero_add]; simpa using hu
      go_wp2_with fail
      refine region_bq (by kernel_rfl) (by kernel_rfl) ?_
      refine q_move rfl _ rfl (.slice (some ⟨b,off,none⟩) ts.length cap) rfl ?_
      simp only [Act.put,qA,qB,qC]
      refine q_move rfl _ rfl (.int .i64 k) rfl ?_
      simp only [Act.put,qA,qB,qC]
      refine q_val rfl (.pointer (some ⟨b,off + k * 6,none⟩)) (fun w' hw' => by simp [go_sem,hkn]) ?_
      simp only [Act.put,qA,qB,qC]
      refine q_val rfl (.pointer (some ⟨b,off + k * 6,none⟩)) (fun w' hw' => by simp [go_sem]) ?_
      simp only [Act.put,qA,qB,qC]
      refine q_load rfl 39 _ rfl (b) (off + k * 6) rfl (#[.int .i64 tl,.int .i64 tz,.int .i64 tx,.int .i64 ty]) _ Tryz.underlying39 rfl (sz39 _ _ _ _) (hW4) ?_
      simp only [Act.put,qA,qB,qC]
      refine q_load rfl 39 _ rfl (w.heap.size) (0) rfl (#[.int .i64 l,.int .i64 z,.int .i64 x,.int .i64 y]) _ Tryz.underlying39 rfl (sz39 _ _ _ _) (hK) ?_
      simp only [Act.put,qA,qB,qC]
      refine q_val rfl (.bool (decide ((⟨tl,tz,tx,ty⟩ : K4) = ⟨l,z,x,y⟩))) (fun w' hw' => by simp [go_sem,eql39]) ?_
      simp only [Act.put,qA,qB,qC]
      refine wpQuiet_nil ?_
      intro w2 hw2
      have hw0 := blk_on h0 hw2
      have hw1 := blk_on h1 hw2
      have hrg2 := hW w2 hw2
      have HB2 := hide (hb.trans (hw2.mono hb.size))
      have HW0 := hide hw0
      have HW1 := hide hw1
      clear hW hW4 hK hrg hc0 hb h0 hw0 hw2
      by_cases he : (⟨tl,tz,tx,ty⟩ : K4) = ⟨l,z,x,y⟩
      . have hs1 := setRow_heap _ _ _ (tv (some ⟨⟨tl,tz,tx,ty⟩,tb,tt⟩)) _ _ hw1
        have HS1 := hide hs1
        have HS3 := hide (below_setRow (unhide HB2) (show w.heap.size <= w.heap.size + 1 by omega) (tv (some ⟨⟨tl,tz,tx,ty⟩,tb,tt⟩)))
        have hde : decide ((⟨tl,tz,tx,ty⟩ : K4) = ⟨l,z,x,y⟩) = true := by simp [he]
        have HF := hide (findT_at ht he (unhide hno))
        clear hs1 he
        simp only [hde]
        go_wp2_with (first | refine ldG 136 (tv (some ⟨⟨tl,tz,tx,ty⟩,tb,tt⟩)) Tryz.underlying136 rfl (sz136 _) b (off + k * 6) hrg2 rfl _ rfl rfl ?_ | refine stG 136 (tv (some ⟨⟨tl,tz,tx,ty⟩,tb,tt⟩)) (tv none) (sz136 _) (tv_one _) rfl (w.heap.size + 1) hw1 rfl _ _ rfl rfl rfl ?_)
        refine bodyPost_ret (v := .tuple #[.agg (tv (some ⟨⟨tl,tz,tx,ty⟩,tb,tt⟩)),.bool true]) (rct Tryz.results97 _ _ (w.heap.size + 1) 136 (tv (some ⟨⟨tl,tz,tx,ty⟩,tb,tt⟩)) (0,0) _ (.bool true) rfl rfl (unhide HS1) Tryz.underlying136 rfl (sz136 _)) rfl ⟨?_,unhide HS3⟩
        rw [unhide HF]
        rfl
      . have hde : decide ((⟨tl,tz,tx,ty⟩ : K4) = ⟨l,z,x,y⟩) = false := by simp [he]
        simp only [hde]
        go_wp2_with fail
        go_roundw
        case rel => exact ⟨k + 1,by omega,by go_num,hide (fun i u hi hu => by
          by_cases e : i = k
          . subst e; rw [ht] at hu; simp only [Option.some.injEq] at hu; subst hu; exact he
          . exact unhide hno i u (by omega) hu),unhide HW0,unhide HW1,unhide HB2⟩
        case measure => simp [intOf]; omega
    . have hkn : k = ts.length := by omega
      have HF := hide (findT_no (key := ⟨l,z,x,y⟩) (by rw [<- hkn]; exact unhide hno))
      have hs1 := setRow_heap _ _ _ (tv none) _ _ h1
      have HS1 := hide hs1
      have HS3 := hide (below_setRow hb (show w.heap.size <= w.heap.size + 1 by omega) (tv none))
      clear hs1 hb
      subst hkn
      go_wp2_with (refine stG 136 (tv none) (tv none) (sz136 none) (tv_one none) rfl (w.heap.size + 1) h1 rfl _ _ rfl rfl rfl ?_)
      refine bodyPost_ret (v := .tuple #[.agg (tv none),.bool false]) (rct Tryz.results97 _ _ (w.heap.size + 1) 136 (tv none) (0,0) _ (.bool false) rfl rfl (unhide HS1) Tryz.underlying136 rfl (sz136 _)) rfl ⟨?_,unhide HS3⟩
      rw [unhide HF]
      rfl
structure Frm (S : Nat -> Prop) (w w' : World) : Prop where
  os : w'.os = w.os
  tape : w'.tape = w.tape
  output : w'.output = w.output
  size : w.heap.size <= w'.heap.size
  block : ∀ k,k < w.heap.size -> ¬ S k -> w'.heap[k]? = w.heap[k]?
theorem Frm.rfl' (S : Nat -> Prop) (w : World) : Frm S w w := ⟨rfl,rfl,rfl,Nat.le_refl _,fun _ _ _ => rfl⟩
theorem Frm.trans {S : Nat -> Prop} {a b c : World} (h : Frm S a b) (k : Frm S b c) : Frm S a c :=
  ⟨k.os.trans h.os,k.tape.trans h.tape,k.output.trans h.output,Nat.le_trans h.size k.size,fun i hi hS => (k.block i (Nat.lt_of_lt_of_le hi h.size) hS).trans (h.block i hi hS)⟩
theorem Frm.mono {S S' : Nat -> Prop} {a b : World} (h : Frm S a b) (hS : ∀ k,k < a.heap.size -> S k -> S' k) : Frm S' a b := ⟨h.os,h.tape,h.output,h.size,fun i hi hn => h.block i hi (fun q => hn (hS i hi q))⟩
theorem Frm.then {S S' : Nat -> Prop} {a b c : World} (h : Frm S a b) (k : Frm S' b c) (hS : ∀ i,i < a.heap.size -> S' i -> S i) : Frm S a c :=
  ⟨k.os.trans h.os,k.tape.trans h.tape,k.output.trans h.output,Nat.le_trans h.size k.size,fun i hi hn => (k.block i (Nat.lt_of_lt_of_le hi h.size) (fun q => hn (hS i hi q))).trans (h.block i hi hn)⟩
theorem Frm.of_below {S : Nat -> Prop} {a b : World} (h : Below a.heap.size a b) : Frm S a b := ⟨h.os,h.tape,h.output,h.size,fun i hi _ => h.block i hi⟩
theorem Frm.grown {S : Nat -> Prop} {a b c : World} {row : Option Nat} (h : Frm S a b) (hg : b.grownBy c row) (hr : ∀ k,row = some k -> k < a.heap.size -> S k) : Frm S a c :=
  ⟨hg.os.trans h.os,hg.tape.trans h.tape,hg.output.trans h.output,Nat.le_trans h.size hg.size,fun i hi hn => (hg.block i (Nat.lt_of_lt_of_le hi h.size) (fun e => hn (hr i e.symm hi))).trans (h.block i hi hn)⟩
theorem Frm.setCell {S : Nat -> Prop} {a b : World} (h : Frm S a b) {p : Addr} (v : Value) (hp : p.block < a.heap.size -> S p.block) : Frm S a (b.setCell p v) :=
  ⟨h.os,h.tape,h.output,by simpa using h.size,fun i hi hn => by
    rw [Below.heap_setCell b p v i (fun e => hn (by rw [e] at hi ⊢; exact hp hi))]; exact h.block i hi hn⟩
theorem OwnR.frm {α : Type} {R : Row α} {T : TypeId} {w w' : World} {v : Value} {l : List α} {S : Nat -> Prop} (h : OwnR R T w v l) (hf : Frm S w w') (hS : ∀ g,v.ownBlock = some g -> ¬ S g) : OwnR R T w' v l := h.same fun g hg => hf.block g (h.lt hg) (hS g hg)
theorem blk_frm {w w' : World} {S : Nat -> Prop} {g : Nat} {o : Obj} (h : w.heap[g]? = some o) (hf : Frm S w w') (hS : ¬ S g) : w'.heap[g]? = some o := (hf.block g (Array.getElem?_eq_some_iff.1 h).1 hS).trans h
theorem blk_lt {w : World} {g : Nat} {o : Obj} (h : w.heap[g]? = some o) : g < w.heap.size := (Array.getElem?_eq_some_iff.1 h).1
section
variable {ops : Array Oper} {rest : List Oper} {o : Oper} {a : Act} {Q : Exit -> Act -> World -> Prop} {w w' : World} {v x' v' : Value}
theorem exR (t : TypeId) (hr : (Builtin.append_ #[t,t] t #[v,x']).run Tryz.prog w = .ok v' w') (a : Act) (o : Oper) (s x : Operand) (ho : o.op = .call { callee := .builtin .append,args := #[s,x],argTypes := #[t,t] }) (ht : o.type = t) (hs : a.eval s = v) (hx : a.eval x = x') : (execOp a.eval o).run Tryz.prog w = .ok (.value v') w' := by
  unfold execOp
  simp only [ho,resolve,invoke,builtin]
  simp [hs,hx,ht,hr,Result.andThen]
theorem wlR (t : TypeId) (hr : (Builtin.append_ #[t,t] t #[v,x']).run Tryz.prog w = .ok v' w') (hgd : o.guard = none) (s x : Operand) (ho : o.op = .call { callee := .builtin .append,args := #[s,x],argTypes := #[t,t] }) (ht : o.type = t) (hs : a.eval s = v) (hx : a.eval x = x')
    (h : wpList Tryz.prog ops Q rest (a.put o.dst v') w') : wpList Tryz.prog ops Q (o :: rest) a w :=
  wpList_plain hgd fun _ hK => by
    unfold Oper.wp
    rw [exR t hr a o s x ho ht hs hx]
    exact hK _ _ h
theorem wlV (u : Value) (w1 : World) (hr : (execOp a.eval o).run Tryz.prog w = .ok (.value u) w1) (hgd : o.guard = none) (h : wpList Tryz.prog ops Q rest (a.put o.dst u) w1) : wpList Tryz.prog ops Q (o :: rest) a w :=
  wpList_plain hgd fun _ hK => by
    unfold Oper.wp
    rw [hr]
    exact hK _ _ h
end
theorem infoP {t : TypeId} {z : Value} {s b : Nat} (h : (Tryz.prog.info? t).map (fun i => (i.zero,i.size,i.bytes)) = some (some z,s,b)) : ∃ i,Tryz.prog.info? t = some i /\ i.zero = some z /\ i.size = s /\ i.bytes = b := by
  cases e : Tryz.prog.info? t with
  | none => rw [e] at h; simp at h
  | some i => rw [e] at h; simp at h; exact ⟨i,rfl,h.1,h.2.1,h.2.2⟩
theorem inf136 : (Tryz.prog.info? 136).map (fun i => (i.zero,i.size,i.bytes)) = some (some (.agg #[.int .i64 0,.int .i64 0,.int .i64 0,.int .i64 0,.string ⟨#[]⟩,.string ⟨#[]⟩]),6,64) := by kernel_rfl
theorem apTile {w : World} {v x : Value} {l news : List Tile} (ho : OwnR rTile 136 w v l) (hx : AtR rTile w x news) (hl : l.length + news.length <= 100000000) :
    ∃ v' w',(Builtin.append_ #[95,95] 95 #[v,x]).run Tryz.prog w = .ok v' w' /\ OwnR rTile 136 w' v' (l ++ news) /\ w.grownBy w' v.ownBlock /\ (v'.ownBlock = v.ownBlock \/ ∀ g,v'.ownBlock = some g -> w.heap.size <= g) := by
  obtain ⟨i,h1,h2,h3,h4⟩ := infoP inf136
  exact OwnR.append (P := Tryz.prog) 95 95 i _ 64 Tryz.underlying95 h1 h2 h3 h4 rfl ho news x hx (by unfold maxLen; omega) (by omega)
theorem inf138 : (Tryz.prog.info? 138).map (fun i => (i.zero,i.size,i.bytes)) = some (some (.agg #[.int .i64 0,.int .i64 0,.int .i64 0,.int .i64 0,.int .i64 0,.int .i64 0,.int .i64 0]),7,56) := by kernel_rfl
theorem apReq {w : World} {v x : Value} {l news : List Req} (ho : OwnR rReq 138 w v l) (hx : AtR rReq w x news) (hl : l.length + news.length <= 100000000) :
    ∃ v' w',(Builtin.append_ #[92,92] 92 #[v,x]).run Tryz.prog w = .ok v' w' /\ OwnR rReq 138 w' v' (l ++ news) /\ w.grownBy w' v.ownBlock /\ (v'.ownBlock = v.ownBlock \/ ∀ g,v'.ownBlock = some g -> w.heap.size <= g) := by
  obtain ⟨i,h1,h2,h3,h4⟩ := infoP inf138
  exact OwnR.append (P := Tryz.prog) 92 92 i _ 56 Tryz.underlying92 h1 h2 h3 h4 rfl ho news x hx (by unfold maxLen; omega) (by omega)
theorem inf39 : (Tryz.prog.info? 39).map (fun i => (i.zero,i.size,i.bytes)) = some (some (.agg #[.int .i64 0,.int .i64 0,.int .i64 0,.int .i64 0]),4,32) := by kernel_rfl
theorem apKey {w : World} {v x : Value} {l news : List K4} (ho : OwnR rKey 39 w v l) (hx : AtR rKey w x news) (hl : l.length + news.length <= 100000000) :
    ∃ v' w',(Builtin.append_ #[93,93] 93 #[v,x]).run Tryz.prog w = .ok v' w' /\ OwnR rKey 39 w' v' (l ++ news) /\ w.grownBy w' v.ownBlock /\ (v'.ownBlock = v.ownBlock \/ ∀ g,v'.ownBlock = some g -> w.heap.size <= g) := by
  obtain ⟨i,h1,h2,h3,h4⟩ := infoP inf39
  exact OwnR.append (P := Tryz.prog) 93 93 i _ 32 Tryz.underlying93 h1 h2 h3 h4 rfl ho news x hx (by unfold maxLen; omega) (by omega)
theorem inf35 : (Tryz.prog.info? 35).map (fun i => (i.zero,i.size,i.bytes)) = some (some (.agg #[.int .i64 0,.int .i64 0,.string ⟨#[]⟩,.string ⟨#[]⟩]),4,48) := by kernel_rfl
theorem apRep {w : World} {v x : Value} {l news : List Rep} (ho : OwnR rRep 35 w v l) (hx : AtR rRep w x news) (hl : l.length + news.length <= 100000000) :
    ∃ v' w',(Builtin.append_ #[64,64] 64 #[v,x]).run Tryz.prog w = .ok v' w' /\ OwnR rRep 35 w' v' (l ++ news) /\ w.grownBy w' v.ownBlock /\ (v'.ownBlock = v.ownBlock \/ ∀ g,v'.ownBlock = some g -> w.heap.size <= g) := by
  obtain ⟨i,h1,h2,h3,h4⟩ := infoP inf35
  exact OwnR.append (P := Tryz.prog) 64 64 i _ 48 Tryz.underlying64 h1 h2 h3 h4 rfl ho news x hx (by unfold maxLen; omega) (by omega)
theorem inf42 : (Tryz.prog.info? 42).map (fun i => (i.zero,i.size,i.bytes)) = some (some (.agg #[.string ⟨#[]⟩,.int .i64 0,.int .i64 0,.int .i64 0,.int .i64 0,.int .i64 0,.int .i64 0,.int .i64 0,.int .i64 0,.int .i64 0]),10,88) := by kernel_rfl
theorem apAsk {w : World} {v x : Value} {l news : List Ask} (ho : OwnR rAsk 42 w v l) (hx : AtR rAsk w x news) (hl : l.length + news.length <= 1500000000000) :
    ∃ v' w',(Builtin.append_ #[30,30] 30 #[v,x]).run Tryz.prog w = .ok v' w' /\ OwnR rAsk 42 w' v' (l ++ news) /\ w.grownBy w' v.ownBlock /\ (v'.ownBlock = v.ownBlock \/ ∀ g,v'.ownBlock = some g -> w.heap.size <= g) := by
  obtain ⟨i,h1,h2,h3,h4⟩ := infoP inf42
  exact OwnR.append (P := Tryz.prog) 30 30 i _ 88 Tryz.underlying30 h1 h2 h3 h4 rfl ho news x hx (by unfold maxLen; omega) (by omega)
theorem inf37 : (Tryz.prog.info? 37).map (fun i => (i.zero,i.size,i.bytes)) = some (some (.agg #[.int .i64 0,.int .i64 0,.string ⟨#[]⟩,.string ⟨#[]⟩,.int .i64 0,.int .i64 0,.int .i64 0]),7,72) := by kernel_rfl
theorem apSay {w : World} {v x : Value} {l news : List Say} (ho : OwnR rSay 37 w v l) (hx : AtR rSay w x news) (hl : l.length + news.length <= 1500000000000) :
    ∃ v' w',(Builtin.append_ #[31,31] 31 #[v,x]).run Tryz.prog w = .ok v' w' /\ OwnR rSay 37 w' v' (l ++ news) /\ w.grownBy w' v.ownBlock /\ (v'.ownBlock = v.ownBlock \/ ∀ g,v'.ownBlock = some g -> w.heap.size <= g) := by
  obtain ⟨i,h1,h2,h3,h4⟩ := infoP inf37
  exact OwnR.append (P := Tryz.prog) 31 31 i _ 72 Tryz.underlying31 h1 h2 h3 h4 rfl ho news x hx (by unfold maxLen; omega) (by omega)
theorem bsTile (l z x0 y : Int) (b t : ByteArray) (ev : Operand -> Value) (o : Oper) (x : Operand) (ho : o.op = .buildSlice 95 1 #[(0,x)]) (hx : ev x = .agg #[.int .i64 l,.int .i64 z,.int .i64 x0,.int .i64 y,.string b,.string t]) (w : World) : (execOp ev o).run Tryz.prog w = .ok (.value (.slice (some ⟨w.heap.size,0,none⟩) 1 1)) (w.alloc (.cells #[.int .i64 l,.int .i64 z,.int .i64 x0,.int .i64 y,.string b,.string t] 136)) := by
  unfold execOp
  simp only [ho]
  simp only [List.map_toArray,List.map_cons,List.map_nil,hx]
  kernel_rfl
theorem bsKey (l z x0 y : Int) (ev : Operand -> Value) (o : Oper) (x : Operand) (ho : o.op = .buildSlice 93 1 #[(0,x)]) (hx : ev x = .agg #[.int .i64 l,.int .i64 z,.int .i64 x0,.int .i64 y]) (w : World) : (execOp ev o).run Tryz.prog w = .ok (.value (.slice (some ⟨w.heap.size,0,none⟩) 1 1)) (w.alloc (.cells #[.int .i64 l,.int .i64 z,.int .i64 x0,.int .i64 y] 39)) := by
  unfold execOp
  simp only [ho]
  simp only [List.map_toArray,List.map_cons,List.map_nil,hx]
  kernel_rfl
theorem bsReq (n l z x0 y a d : Int) (ev : Operand -> Value) (o : Oper) (x : Operand) (ho : o.op = .buildSlice 92 1 #[(0,x)]) (hx : ev x = .agg #[.int .i64 n,.int .i64 l,.int .i64 z,.int .i64 x0,.int .i64 y,.int .i64 a,.int .i64 d]) (w : World) : (execOp ev o).run Tryz.prog w = .ok (.value (.slice (some ⟨w.heap.size,0,none⟩) 1 1)) (w.alloc (.cells #[.int .i64 n,.int .i64 l,.int .i64 z,.int .i64 x0,.int .i64 y,.int .i64 a,.int .i64 d] 138)) := by
  unfold execOp
  simp only [ho]
  simp only [List.map_toArray,List.map_cons,List.map_nil,hx]
  kernel_rfl
theorem bsRep (n s : Int) (b t : ByteArray) (ev : Operand -> Value) (o : Oper) (x : Operand) (ho : o.op = .buildSlice 64 1 #[(0,x)]) (hx : ev x = .agg #[.int .i64 n,.int .i64 s,.string b,.string t]) (w : World) : (execOp ev o).run Tryz.prog w = .ok (.value (.slice (some ⟨w.heap.size,0,none⟩) 1 1)) (w.alloc (.cells #[.int .i64 n,.int .i64 s,.string b,.string t] 35)) := by
  unfold execOp
  simp only [ho]
  simp only [List.map_toArray,List.map_cons,List.map_nil,hx]
  kernel_rfl
theorem bsAsk (t : ByteArray) (l z x0 y e v n a s : Int) (ev : Operand -> Value) (o : Oper) (x : Operand) (ho : o.op = .buildSlice 30 1 #[(0,x)]) (hx : ev x = .agg #[.string t,.int .i64 l,.int .i64 z,.int .i64 x0,.int .i64 y,.int .i64 e,.int .i64 v,.int .i64 n,.int .i64 a,.int .i64 s]) (w : World) : (execOp ev o).run Tryz.prog w = .ok (.value (.slice (some ⟨w.heap.size,0,none⟩) 1 1)) (w.alloc (.cells #[.string t,.int .i64 l,.int .i64 z,.int .i64 x0,.int .i64 y,.int .i64 e,.int .i64 v,.int .i64 n,.int .i64 a,.int .i64 s] 42)) := by
  unfold execOp
  simp only [ho]
  simp only [List.map_toArray,List.map_cons,List.map_nil,hx]
  kernel_rfl
theorem bsSay (n s : Int) (b t : ByteArray) (v m y : Int) (ev : Operand -> Value) (o : Oper) (x : Operand) (ho : o.op = .buildSlice 31 1 #[(0,x)]) (hx : ev x = .agg #[.int .i64 n,.int .i64 s,.string b,.string t,.int .i64 v,.int .i64 m,.int .i64 y]) (w : World) : (execOp ev o).run Tryz.prog w = .ok (.value (.slice (some ⟨w.heap.size,0,none⟩) 1 1)) (w.alloc (.cells #[.int .i64 n,.int .i64 s,.string b,.string t,.int .i64 v,.int .i64 m,.int .i64 y] 37)) := by
  unfold execOp
  simp only [ho]
  simp only [List.map_toArray,List.map_cons,List.map_nil,hx]
  kernel_rfl
theorem at_new {α : Type} (R : Row α) (T : TypeId) (w : World) (a : α) (cs : Array Value) (hc : cs.toList = R.enc a) : AtR R (w.alloc (.cells cs T)) (.slice (some ⟨w.heap.size,0,none⟩) 1 1) [a] :=
  AtR.one_of a (Nat.le_refl _) (by simp) (by rw [<- hc]; exact rng_blk (heap_alloc_new w (.cells cs T (0,0))))
theorem Paint_any (v : Value) (n : Nat) (fs : Nat -> Nat -> Int) (l z x y : Int) (w : World) (hv : FsAt w v n fs) :
    Calls Tryz.prog 28 #[v,.agg #[.int .i64 l,.int .i64 z,.int .i64 x,.int .i64 y]] w fun e w' => e = .returned (.tuple #[.string ⟨(pPic fs n l z x y).toArray⟩,.int .i64 (pErr fs n l z x y)]) /\ Below w.heap.size w w' := by
  by_cases he : keyErr l z x y = 0
  . by_cases hn : n <= 40
    . exact Paint_in v n fs l z x y w hv he hn
    . exact Paint_key v n fs l z x y w hv (Or.inr (by omega))
  . exact Paint_key v n fs l z x y w hv (Or.inl he)
def pk (c n : Int) : Int := (if c < 0 then -(c + 1) else c) % n
theorem pk_in (c : Int) {n : Int} (h : 0 < n) : 0 <= pk c n /\ pk c n < n := ⟨Int.emod_nonneg _ (by omega),Int.emod_lt_of_pos _ h⟩
theorem pick_any (c n : Int) (w : World) (hc : -9223372036854775808 <= c /\ c <= 9223372036854775807) (hn : 0 < n /\ n <= 9223372036854775807) :
    Calls Tryz.prog 31 #[.int .i64 c,.int .i64 n] w fun e w' => e = .returned (.int .i64 (pk c n)) /\ w = w' := by
  by_cases h : c < 0
  . have H : Hid (pk c n = (-(c + 1)) % n) := by show pk c n = _; simp [pk,h]
    go_enter Tryz.func31,Tryz.ntmps31
    go_wp2
    go_ret
    refine ⟨ret_int ?_,rfl⟩
    rw [unhide H,<- Int.neg_tmod,Int.tmod_eq_emod_of_nonneg (by omega)]
  . have H : Hid (pk c n = c % n) := by show pk c n = _; simp [pk,h]
    go_enter Tryz.func31,Tryz.ntmps31
    go_wp2
    go_ret
    refine ⟨ret_int ?_,rfl⟩
    rw [unhide H]
theorem un8 (n : Nat) (h : n <= 22) : (8 : Int) * (2 : Int) ^ n <= 33554432 /\ 8 <= (8 : Int) * (2 : Int) ^ n /\ (1073741824 : Int) / (8 * (2 : Int) ^ n) = (2 : Int) ^ (27 - n) := by
  have : n ∈ List.range 23 := by simp; omega
  have key : ∀ m ∈ List.range 23,(8 : Int) * (2 : Int) ^ m <= 33554432 /\ 8 <= (8 : Int) * (2 : Int) ^ m /\ (1073741824 : Int) / (8 * (2 : Int) ^ m) = (2 : Int) ^ (27 - m) := by decide
  exact key n this
theorem across_any (z : Int) (w : World) (h1 : 0 <= z) (h2 : z <= 22) :
    Calls Tryz.prog 32 #[.int .i64 z] w fun e w' => e = .returned (.int .i64 ((2 : Int) ^ z.toNat)) /\ w = w' := by
  obtain ⟨p1,p2⟩ := pow_cap z h2
  have hw : wrap64 ((2 : Int) ^ z.toNat) = (2 : Int) ^ z.toNat := IntWalk.wrap64_in _ ⟨by omega,by omega⟩
  go_enter Tryz.func32,Tryz.ntmps32
  go_wp2
  go_ret
  exact ⟨ret_int (by first | rfl | exact hw),rfl⟩
section
variable {ops : Array Oper} {Q : Exit -> Act -> World -> Prop} {S : World -> Prop} {listed : Array Bool} {a : Act} {w : World} {i fuel : Nat} {o : Oper}
theorem h_call (ho : ops[i]? = some o) (hw : Region.wanted o (yielded ops a.tmps) = true) (f : FuncId) (args : Array Value) (h0 : (execOp a.eval o).run Tryz.prog w = .ok (.enter f args) w) (v : Value)
    (hc : Calls Tryz.prog f args w fun e w' => e = .returned v /\ w = w') (hS : S w) (h : wpAnyH Tryz.prog .any ops Q S fuel (listed.setIfInBounds i true) (a.put o.dst v) w) :
    wpOp Tryz.prog ops Q i (fun a' w' => S w' /\ wpAnyH Tryz.prog .any ops Q S fuel (listed.setIfInBounds i true) a' w') a w := by
  unfold wpOp
  simp only [ho]
  rw [if_pos hw]
  left
  unfold Oper.wp
  rw [h0]
  exact hc.mono fun e w' ⟨e1,e2⟩ => by subst e1; subst e2; exact ⟨hS,h⟩
theorem h_op (ho : ops[i]? = some o) (hw : Region.wanted o (yielded ops a.tmps) = true) (v : Value) (w1 : World) (h0 : (execOp a.eval o).run Tryz.prog w = .ok (.value v) w1) (hS : S w1)
    (h : wpAnyH Tryz.prog .any ops Q S fuel (listed.setIfInBounds i true) (a.put o.dst v) w1) :
    wpOp Tryz.prog ops Q i (fun a' w' => S w' /\ wpAnyH Tryz.prog .any ops Q S fuel (listed.setIfInBounds i true) a' w') a w := by
  unfold wpOp
  simp only [ho]
  rw [if_pos hw]
  left
  unfold Oper.wp
  rw [h0]
  exact ⟨hS,h⟩
theorem h_st26 (ho : ops[i]? = some o) (hw : Region.wanted o (yielded ops a.tmps) = true) (x y : Operand) (hop : o.op = .store 86 x y) (g : Nat) (T : Nat -> Int) (hx : a.eval x = .pointer (some ⟨g,0,none⟩)) (hy : a.eval y = .agg (fc T)) (old : Nat -> Int) (hg : w.heap[g]? = some (.cells (fc old) 86 (0,0)))
    (hS : S (w.setRow g (fc T))) (h : wpAnyH Tryz.prog .any ops Q S fuel (listed.setIfInBounds i true) (a.put o.dst undef) (w.setRow g (fc T))) :
    wpOp Tryz.prog ops Q i (fun a' w' => S w' /\ wpAnyH Tryz.prog .any ops Q S fuel (listed.setIfInBounds i true) a' w') a w := by
  unfold wpOp
  simp only [ho]
  rw [if_pos hw]
  left
  exact wp_store_row 86 x y hop g (fc T) hx hy 86 (fc old) hg (szf T) (by rw [fc_size,fc_size]) (fc_one T) ⟨hS,h⟩
end
def upd (f : Nat -> Int) (i : Nat) (v : Int) : Nat -> Int := fun j => if j = i then v else f j
theorem fc_set (f : Nat -> Int) (i : Nat) (v : Int) (h : i < 24) : (fc f).setIfInBounds i (.int .i64 v) = fc (upd f i v) := by
  apply Array.ext_getElem?
  intro j
  by_cases hj : j < 24
  . rw [fc_at _ j hj]
    by_cases e : i = j
    . subst e; rw [Array.getElem?_setIfInBounds_self_of_lt (by rw [fc_size]; exact h)]; simp [upd]
    . rw [Array.getElem?_setIfInBounds_ne e,fc_at _ j hj]; simp [upd,Ne.symm e]
  . rw [Array.getElem?_eq_none (by simp [fc_size]; omega),Array.getElem?_eq_none (by rw [fc_size]; omega)]
theorem set_blk {w : World} {g i : Nat} {f : Nat -> Int} (h : w.heap[g]? = some (.cells (fc f) 86 (0,0))) (hi : i < 24) (v : Int) : (w.setCell ⟨g,i,none⟩ (.int .i64 v)).heap[g]? = some (.cells (fc (upd f i v)) 86 (0,0)) := by
  rw [<- fc_set f i v hi]
  simp [World.setCell,Array.getElem?_modify,h]
theorem frz_blk {w : World} {g : Nat} {c : Array Value} {t : TypeId} (h : w.heap[g]? = some (.cells c t (0,0))) (o : Nat) : w.frozen? ⟨g,o,none⟩ = false := by
  simp [World.frozen?,h]
end Go.Proofs.YtpopchckldbhdaaGreatDoor
