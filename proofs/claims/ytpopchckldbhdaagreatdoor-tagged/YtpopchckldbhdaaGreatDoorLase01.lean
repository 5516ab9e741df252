/-
  The texts Open, MakeB, MakeC, MakeD, LocM, LocA, LocB, StA, StB, StC, StD, StE, StF, FaD, FaE, FaF.
-/
import Derived.Test.YtpopchckldbhdaaGreatDoorLase00
import Derived.Test.YtpopchckldbhdaaGreatDoorRows
import Derived.ProofKit
import Derived.OpenShut
import Derived.ShutString
import Derived.Carry
import Derived.Lib.SmallJoins
import Derived.OwnWalk
import Derived.ArgAppend
import Derived.Deep.MidRow
import Derived.WalkSmall
namespace Go.Proofs.YtpopchckldbhdaaGreatDoor
set_option maxRecDepth 20000
open Go.ChangeShapes Go.WideShapes Go.ChangeAt Go.RowKit Go.Joins
theorem Tryz.own : ownKnob Tryz.prog.godebug = none := by kernel_rfl
theorem Tryz.laidOut : laidOutB Tryz.prog = true := by kernel_rfl
theorem cells3 : Tryz.prog.cellsOf 3 = 1 := by kernel_rfl
theorem cells24 : Tryz.prog.cellsOf 84 = 8 := by kernel_rfl
theorem cells26 : Tryz.prog.cellsOf 86 = 24 := by kernel_rfl
theorem cells28 : Tryz.prog.cellsOf 39 = 4 := by kernel_rfl
section
variable {H : Type} {enc : TypeId × Value -> H}
theorem trodAll_on {P : Program} (hl : laidOutB P = true) {W W' : World} (hb : Below W.heap.size W W') : ∀ {ts : List TypeId} {vs : List Value} {ds : List (DataW H)} {ps : List MemPlace},
    DataW.TrodAll enc P W 0 (fun _ => true) true ts vs ds ps -> (∀ t ∈ ts,P.readableRec t = true /\ t < P.types.size) -> (∀ x ∈ ps,x.block < W.heap.size) ->
    DataW.TrodAll enc P W' 0 (fun b => decide (b < W.heap.size)) true ts vs ds ps
  | [],_,_,_,h,_,_ => by
    obtain ⟨rfl,rfl,rfl⟩ := trodAll_nil h
    exact trodAll_mk0
  | t :: ts,_,_,_,h,ht,hlt => by
    obtain ⟨v,vs',d,ds',p,q,rfl,rfl,rfl,h1,h2⟩ := trodAll_cons h
    have h0 := ht t List.mem_cons_self
    exact ⟨p,q,Below.trod hl h0.1 h0.2 h1 hb (fun x hx => hlt x (List.mem_append_left _ hx)),trodAll_on hl hb h2 (fun t' h' => ht t' (List.mem_cons_of_mem _ h')) (fun x hx => hlt x (List.mem_append_right _ hx)),rfl⟩
theorem law_post {f : Func} {s : ChangeSpec} {W W' : World} {args : Array Value} {ds gs : List (DataW H)} {before : List MemPlace}
    (hW : DataW.Whole enc Tryz.prog f.params.toList s.vars false W args.toList ds gs before) (hv : s.vars = []) (hres : f.resultTypes = #[4])
    (hts : (f.params.toList.all fun t => Tryz.prog.readableRec t && decide (t < Tryz.prog.types.size)) = true)
    (hfn : ∀ gs' : List (DataW H),gs' = [] -> s.fn H (ds ++ gs') = { results := [.lit (.bool true)],args := ds }) (bel : Below W.heap.size W W') :
    s.post enc Tryz.prog f false true false false W args (.bool true) W' := by
  have hW' := hW
  have hlt := hW.lt
  obtain ⟨p,q,hA,hV,rfl,_,_⟩ := hW
  rw [hv] at hV
  obtain ⟨rfl,rfl⟩ := trodVars_none hV
  have hf := hfn [] rfl
  refine ⟨ds,[],_,[],p,[],hW',?_,?_,?_,bel.frame _,fun h => by cases h⟩
  . rw [hf,hres]
    exact trodAll_mk1 (shut_bool Tryz.underlying4 _)
  . rw [hf]
    exact trodAll_on Tryz.laidOut bel hA (fun t ht => by
      have := List.all_eq_true.1 hts t ht
      rw [Bool.and_eq_true] at this
      exact ⟨this.1,of_decide_eq_true this.2⟩) (fun x hx => hlt x (List.mem_append_left _ hx))
  . rw [hv,hf]; exact hV
theorem feat_cells {w : World} {base : Nat} {sp : Nat -> Bool} {held : Bool} {n : Nat} {cs : List Value} {x : DataW H × List MemPlace} (h : DataW.trod enc Tryz.prog w base sp held n 86 cs = some x) :
    cs.length = 24 /\ ∀ j,j < 24 -> ∃ m,cs[j]? = some (.int .i64 m) /\ (Lit.int .i64 m).wf = true := by
  obtain ⟨xs,n1,_,_,hlen,hn,hel⟩ := DataW.trod_struct Tryz.underlying86 h
  rw [cells26] at hlen
  have one : ∀ (m : Nat) (l : List Value) (y : Option (DataW H × List MemPlace)) ,y.isSome = true -> DataW.trod enc Tryz.prog w base sp held m 3 l = y -> ∃ k,l = [.int .i64 k] /\ (Lit.int .i64 k).wf = true := by
    intro m l y hy he
    obtain ⟨z,hz⟩ := Option.isSome_iff_exists.1 hy
    rw [hz] at he
    obtain ⟨k,e1,_,e2⟩ := DataW.trod_int Tryz.underlying3 he
    exact ⟨k,e1,e2⟩
  have at_ : ∀ (l : List Value) (off : Nat) (k : Int),(l.drop off).take 1 = [.int .i64 k] -> l[off]? = some (.int .i64 k) := by
    intro l off k he
    have h1 : ((l.drop off).take 1)[0]? = some (.int .i64 k) := by rw [he]; rfl
    rw [List.getElem?_take_of_lt (by omega),List.getElem?_drop] at h1
    simpa using h1
  refine ⟨hlen,?_⟩
  have hs : ∀ i,i < 10 -> (xs[i]?).isSome = true := by
    intro i hi
    have hx : xs.length = 10 := hn
    simp [hx,hi]
  have plain : ∀ i,i < 8 -> ∃ m,cs[i]? = some (.int .i64 m) /\ (Lit.int .i64 m).wf = true := by
    intro i hi
    have go : ∀ (fd : Field),fd.type = 3 -> fd.offset = i -> DataW.trod enc Tryz.prog w base sp held n1 fd.type ((cs.drop fd.offset).take (Tryz.prog.cellsOf fd.type)) = xs[i]? -> ∃ m,cs[i]? = some (.int .i64 m) /\ (Lit.int .i64 m).wf = true := by
      intro fd e1 e2 he
      rw [e1,e2,cells3] at he
      obtain ⟨k,hk,hw⟩ := one n1 _ _ (hs i (by omega)) he
      exact ⟨k,at_ cs i k hk,hw⟩
    match i,hi with
    | 0,_ => exact go _ rfl rfl (hel 0 _ rfl)
    | 1,_ => exact go _ rfl rfl (hel 1 _ rfl)
    | 2,_ => exact go _ rfl rfl (hel 2 _ rfl)
    | 3,_ => exact go _ rfl rfl (hel 3 _ rfl)
    | 4,_ => exact go _ rfl rfl (hel 4 _ rfl)
    | 5,_ => exact go _ rfl rfl (hel 5 _ rfl)
    | 6,_ => exact go _ rfl rfl (hel 6 _ rfl)
    | 7,_ => exact go _ rfl rfl (hel 7 _ rfl)
  have arr : ∀ (off k : Nat),(∃ y,DataW.trod enc Tryz.prog w base sp held n1 84 ((cs.drop off).take 8) = some y) -> k < 8 -> off + 8 <= 24 -> ∃ m,cs[off + k]? = some (.int .i64 m) /\ (Lit.int .i64 m).wf = true := by
    intro off k hy hk hoff
    obtain ⟨y,hy⟩ := hy
    obtain ⟨ys,n2,_,_,_,hny,hely⟩ := DataW.trod_array Tryz.underlying84 hy
    have he := hely k hk
    rw [cells3,Nat.mul_one] at he
    obtain ⟨m,hm,hw⟩ := one n2 _ _ (by simp [hny,hk]) he
    have := at_ _ k m hm
    rw [List.getElem?_take_of_lt hk,List.getElem?_drop] at this
    exact ⟨m,this,hw⟩
  have goA : ∀ (fd : Field) {off i : Nat} {y : DataW H × List MemPlace},fd.type = 84 -> DataW.trod enc Tryz.prog w base sp held n1 fd.type ((cs.drop fd.offset).take (Tryz.prog.cellsOf fd.type)) = xs[i]? -> fd.offset = off -> xs[i]? = some y -> DataW.trod enc Tryz.prog w base sp held n1 84 ((cs.drop off).take 8) = some y := by
    intro fd off i y e1 he e2 e3
    rw [e1,e2,cells24,e3] at he
    exact he
  intro j hj
  by_cases h8 : j < 8
  . exact plain j h8
  . by_cases h16 : j < 16
    . obtain ⟨y,hy⟩ := Option.isSome_iff_exists.1 (hs 8 (by omega))
      have := arr 8 (j - 8) ⟨y,goA _ rfl (hel 8 _ rfl) rfl hy⟩ (by omega) (by omega)
      rwa [show 8 + (j - 8) = j by omega] at this
    . obtain ⟨y,hy⟩ := Option.isSome_iff_exists.1 (hs 9 (by omega))
      have := arr 16 (j - 16) ⟨y,goA _ rfl (hel 9 _ rfl) rfl hy⟩ (by omega) (by omega)
      rwa [show 16 + (j - 16) = j by omega] at this
def F64 (f : Nat -> Int) : Prop := ∀ i,i < 24 -> -9223372036854775808 <= f i /\ f i <= 9223372036854775807
theorem wf_64 {m : Int} (h : (Lit.int .i64 m).wf = true) : -9223372036854775808 <= m /\ m <= 9223372036854775807 := by
  have h' : (decide (IntKind.i64.min <= m) && decide (m <= IntKind.i64.max)) = true := h
  rw [Bool.and_eq_true] at h'
  have e1 : IntKind.i64.min = -9223372036854775808 := by decide
  have e2 : IntKind.i64.max = 9223372036854775807 := by decide
  have a := of_decide_eq_true h'.1
  have b := of_decide_eq_true h'.2
  omega
theorem open_key {W : World} {r : Reach} {b0 base : Nat} {sp : Nat -> Bool} {held : Bool} {v : Value} {d : DataW H} {p : List MemPlace} (hv : Value.okWide Tryz.prog W r b0 39 v) (h : DataW.Trod enc Tryz.prog W base sp held 39 v d p) :
    ∃ l z x y : Int,v = .agg #[.int .i64 l,.int .i64 z,.int .i64 x,.int .i64 y] /\ (-9223372036854775808 <= l /\ l <= 9223372036854775807) /\ (-9223372036854775808 <= z /\ z <= 9223372036854775807) /\ (-9223372036854775808 <= x /\ x <= 9223372036854775807) /\ (-9223372036854775808 <= y /\ y <= 9223372036854775807) := by
  obtain ⟨u0,u1,u2,u3,y0,y1,y2,y3,n,rfl,rfl,rfl,t0,t1,t2,t3⟩ := open_agg4 Tryz.underlying39 (by kernel_rfl) cells28 hv h
  obtain ⟨l,e0,rfl,wl⟩ := DataW.trod_int Tryz.underlying3 t0
  obtain ⟨z,e1,rfl,wz⟩ := DataW.trod_int Tryz.underlying3 t1
  obtain ⟨x,e2,rfl,wx⟩ := DataW.trod_int Tryz.underlying3 t2
  obtain ⟨y,e3,rfl,wy⟩ := DataW.trod_int Tryz.underlying3 t3
  simp only [List.cons.injEq,and_true] at e0 e1 e2 e3
  subst e0 e1 e2 e3
  exact ⟨l,z,x,y,rfl,wf_64 wl,wf_64 wz,wf_64 wx,wf_64 wy⟩
end
end Go.Proofs.YtpopchckldbhdaaGreatDoor
namespace Go.Proofs.YtpopchckldbhdaaGreatDoor
open Go.RowKit
set_option maxRecDepth 20000
def base (f : Nat -> Int) : Nat -> Int := fun j =>
  if j = 0 then 1 + pk (f 0) 1000 else if j = 1 then pk (f 1) 4 else if j = 2 then pk (f 2) 2 else if j = 3 then 1 + pk (f 3) 15 else if j = 4 then pk (f 4) 10 else if j = 5 then pk (f 5) 23 else 0
theorem built_base (a b c d e g : Int) : Tryz.prog.built 86 [(0,.int .i64 a),(1,.int .i64 b),(2,.int .i64 c),(3,.int .i64 d),(4,.int .i64 e),(5,.int .i64 g)] = some (fc fun j => if j = 0 then a else if j = 1 then b else if j = 2 then c else if j = 3 then d else if j = 4 then e else if j = 5 then g else 0) := by kernel_rfl
theorem bld_run (f : Nat -> Int) (A : Act) (o : Oper) (ho : o.op = .build 86 #[(0,.tmp 8),(1,.tmp 11),(2,.tmp 14),(3,.tmp 18),(4,.tmp 21),(5,.tmp 24)]) (h0 : A.eval (.tmp 8) = .int .i64 (1 + pk (f 0) 1000)) (h1 : A.eval (.tmp 11) = .int .i64 (pk (f 1) 4)) (h2 : A.eval (.tmp 14) = .int .i64 (pk (f 2) 2)) (h3 : A.eval (.tmp 18) = .int .i64 (1 + pk (f 3) 15)) (h4 : A.eval (.tmp 21) = .int .i64 (pk (f 4) 10)) (h5 : A.eval (.tmp 24) = .int .i64 (pk (f 5) 23)) (w : World) :
    (execOp A.eval o).run Tryz.prog w = .ok (.value (.agg (fc (base f)))) w := by
  have hb := run_build (P := Tryz.prog) w 86 #[(0,.int .i64 (1 + pk (f 0) 1000)),(1,.int .i64 (pk (f 1) 4)),(2,.int .i64 (pk (f 2) 2)),(3,.int .i64 (1 + pk (f 3) 15)),(4,.int .i64 (pk (f 4) 10)),(5,.int .i64 (pk (f 5) 23))] (fc (base f)) (built_base _ _ _ _ _ _)
  unfold execOp
  simp [ho,h0,h1,h2,h3,h4,h5,hb]
section
variable {l : List Oper} {Q : Exit -> Act -> World -> Prop} {S : World -> Prop} {listed : Array Bool} {a : Act} {w : World} {fuel : Nat} {o : Oper} {rest : List Oper}
theorem at_drop {i : Nat} (hd : l.drop i = o :: rest) : l.toArray[i]? = some o := by
  rw [List.getElem?_toArray,<- List.head?_drop,hd]; rfl
theorem t_take (i : Nat) (hd : l.drop i = o :: rest) (v : Value) (hs : Region.noSelect l.toArray = true) (hf : Region.free .any l.toArray listed i = true) (hr : (Region.ready .any l.toArray listed).contains i = true)
    (hQ : ∀ c a w,Q (.panic c) (a.put o.dst v) w -> Q (.panic c) a w) (hw : Region.wanted o (yielded l.toArray a.tmps) = true) (hy : ∀ w',S w' -> (execOp a.eval o).run Tryz.prog w' = .ok (.value v) w') (hS : S w)
    (h : wpAnyH Tryz.prog .any l.toArray Q S fuel (listed.setIfInBounds i true) (a.put o.dst v) w) : wpAnyH Tryz.prog .any l.toArray Q S (fuel + 1) listed a w :=
  wpAnyH_take (at_drop hd) hs hf hr hQ (Or.inl ⟨hw,hy⟩) hS h
theorem t_tk (i : Nat) (hd : l.drop i = o :: rest) (v : Value) (hb : (Region.noSelect l.toArray && Region.free .any l.toArray listed i && (Region.ready .any l.toArray listed).contains i) = true)
    (hQ : ∀ c a w, Q (.panic c) (a.put o.dst v) w -> Q (.panic c) a w) (hw : Region.wanted o (yielded l.toArray a.tmps) = true) (hy : ∀ w', S w' -> (execOp a.eval o).run Tryz.prog w' = .ok (.value v) w') (hS : S w)
    (h : wpAnyH Tryz.prog .any l.toArray Q S fuel (listed.setIfInBounds i true) (a.put o.dst v) w) : wpAnyH Tryz.prog .any l.toArray Q S (fuel + 1) listed a w := by
  rw [Bool.and_eq_true, Bool.and_eq_true] at hb
  exact t_take i hd v hb.1.1 hb.1.2 hb.2 hQ hw hy hS h
theorem t_call (i : Nat) (hd : l.drop i = o :: rest) (hw : Region.wanted o (yielded l.toArray a.tmps) = true) (f : FuncId) (args : Array Value) (h0 : (execOp a.eval o).run Tryz.prog w = .ok (.enter f args) w) (v : Value)
    (hc : Calls Tryz.prog f args w fun e w' => e = .returned v /\ w = w') (hS : S w) (h : wpAnyH Tryz.prog .any l.toArray Q S fuel (listed.setIfInBounds i true) (a.put o.dst v) w) :
    wpOp Tryz.prog l.toArray Q i (fun a' w' => S w' /\ wpAnyH Tryz.prog .any l.toArray Q S fuel (listed.setIfInBounds i true) a' w') a w := h_call (at_drop hd) hw f args h0 v hc hS h
theorem t_op (i : Nat) (hd : l.drop i = o :: rest) (hw : Region.wanted o (yielded l.toArray a.tmps) = true) (v : Value) (w1 : World) (h0 : (execOp a.eval o).run Tryz.prog w = .ok (.value v) w1) (hS : S w1)
    (h : wpAnyH Tryz.prog .any l.toArray Q S fuel (listed.setIfInBounds i true) (a.put o.dst v) w1) :
    wpOp Tryz.prog l.toArray Q i (fun a' w' => S w' /\ wpAnyH Tryz.prog .any l.toArray Q S fuel (listed.setIfInBounds i true) a' w') a w := h_op (at_drop hd) hw v w1 h0 hS h
theorem t_st26 (i : Nat) (hd : l.drop i = o :: rest) (hw : Region.wanted o (yielded l.toArray a.tmps) = true) (x y : Operand) (hop : o.op = .store 86 x y) (g : Nat) (T : Nat -> Int) (hx : a.eval x = .pointer (some ⟨g,0,none⟩)) (hy : a.eval y = .agg (fc T)) (old : Nat -> Int) (hg : w.heap[g]? = some (.cells (fc old) 86 (0,0)))
    (hS : S (w.setRow g (fc T))) (h : wpAnyH Tryz.prog .any l.toArray Q S fuel (listed.setIfInBounds i true) (a.put o.dst undef) (w.setRow g (fc T))) :
    wpOp Tryz.prog l.toArray Q i (fun a' w' => S w' /\ wpAnyH Tryz.prog .any l.toArray Q S fuel (listed.setIfInBounds i true) a' w') a w := h_st26 (at_drop hd) hw x y hop g T hx hy old hg hS h
end
def mkN (f : Nat -> Int) : Int := if pk (f 2) 2 = 1 then 1 else 3 + pk (f 7) 6
def mk0 (f : Nat -> Int) : Nat -> Int := if pk (f 2) 2 = 1 then upd (upd (base f) 6 (1 + pk (f 6) 3)) 7 1 else upd (base f) 7 (3 + pk (f 7) 6)
def mkS (f : Nat -> Int) : Nat -> Nat -> Int
  | 0 => mk0 f
  | k + 1 => upd (upd (mkS f k) (8 + k) (pk (f (8 + k)) 1073741825)) (16 + k) (pk (f (16 + k)) 1073741825)
def mk (f : Nat -> Int) : Nat -> Int := mkS f (mkN f).toNat
theorem mk0_7 (f : Nat -> Int) : mk0 f 7 = mkN f := by unfold mk0 mkN; split <;> simp [upd]
theorem mkS_7 (f : Nat -> Int) : ∀ k,mkS f k 7 = mkN f
  | 0 => mk0_7 f
  | k + 1 => by
    rw [mkS,upd,if_neg (by omega),upd,if_neg (by omega)]
    exact mkS_7 f k
theorem mkN_in (f : Nat -> Int) : 1 <= mkN f /\ mkN f <= 8 := by
  have := pk_in (f 7) (n := 6) (by omega)
  unfold mkN; split <;> omega
set_option maxHeartbeats 6400000 in
theorem right_any (f : Nat -> Int) (w : World) (hF : F64 f) :
    Calls Tryz.prog 100 #[.agg (fc f)] w fun e w' => e = .returned (.agg (fc (mk f))) /\ Below w.heap.size w w' := by
  have c0 := fc_at f 0 (by decide)
  have c1 := fc_at f 1 (by decide)
  have c2 := fc_at f 2 (by decide)
  have c3 := fc_at f 3 (by decide)
  have c4 := fc_at f 4 (by decide)
  have c5 := fc_at f 5 (by decide)
  have K0 := fun W => pick_any (f 0) 1000 W (hF 0 (by omega)) (by omega)
  have K1 := fun W => pick_any (f 1) 4 W (hF 1 (by omega)) (by omega)
  have K2 := fun W => pick_any (f 2) 2 W (hF 2 (by omega)) (by omega)
  have K3 := fun W => pick_any (f 3) 15 W (hF 3 (by omega)) (by omega)
  have K4 := fun W => pick_any (f 4) 10 W (hF 4 (by omega)) (by omega)
  have K5 := fun W => pick_any (f 5) 23 W (hF 5 (by omega)) (by omega)
  have b0 := pk_in (f 0) (n := 1000) (by omega)
  have b3 := pk_in (f 3) (n := 15) (by omega)
  have a0 := i64_in (1 + pk (f 0) 1000) (by omega)
  have a3 := i64_in (1 + pk (f 3) 15) (by omega)
  have hsz0 : (w.alloc (.cells (fc f) 86)).heap.size = w.heap.size + 1 := by simp
  go_enter Tryz.func100,Tryz.ntmps100
  go_wp2_with (refine al26 rfl rfl (w.heap.size + 1) hsz0 ?_)
  simp only [Act.put,qA,qB,qC]
  go_cut [3] (fun p wr => p = .pointer (some ⟨w.heap.size + 2,0,none⟩) /\ wr.heap[w.heap.size]? = some (.cells (fc f) 86 (0,0)) /\ wr.heap[w.heap.size + 1]? = some (.cells (fc zf) 86 (0,0)) /\ wr.heap[w.heap.size + 2]? = some (.cells (fc (base f)) 86 (0,0)) /\ Below w.heap.size w wr)
  case first =>
    refine wp_region_held (S := fun w' => w'.heap[w.heap.size]? = some (.cells (fc f) 86 (0,0))) (by kernel_rfl) ?_
    change wpAnyH _ _ _ _ _ _ _ _ (World.drew _)
    obtain ⟨t1,t2,t3⟩ := two_blocks w (.cells (fc f) 86 (0,0)) (.cells (fc zf) 86 (0,0))
    have hS : (World.drew ((w.alloc (.cells (fc f) 86)).alloc (.cells (fc zf) 86))).heap[w.heap.size]? = some (.cells (fc f) 86 (0,0)) := t1
    have hZ : (World.drew ((w.alloc (.cells (fc f) 86)).alloc (.cells (fc zf) 86))).heap[w.heap.size + 1]? = some (.cells (fc zf) 86 (0,0)) := t2
    have hN : (World.drew ((w.alloc (.cells (fc f) 86)).alloc (.cells (fc zf) 86))).heap.size = w.heap.size + 2 := by simp [World.drew]
    have hB : Below w.heap.size w (World.drew ((w.alloc (.cells (fc f) 86)).alloc (.cells (fc zf) 86))) := Below.drew t3
    generalize World.drew ((w.alloc (.cells (fc f) 86)).alloc (.cells (fc zf) 86)) = w1 at hS hZ hN hB ⊢
    clear t1 t2 t3 hsz0
    have RA : ∀ (ev : Operand -> Value) (o : Oper),o.op = .alloc 86 -> (execOp ev o).run Tryz.prog w1 = .ok (.value (.pointer (some ⟨w.heap.size + 2,0,none⟩))) (w1.alloc (.cells (fc zf) 86)) := fun ev o ho => by rw [run_alloc26 ev o ho,hN]
    have hS1 : (w1.alloc (.cells (fc zf) 86)).heap[w.heap.size]? = some (.cells (fc f) 86 (0,0)) := by rw [Below.heap_alloc _ _ _ (by omega)]; exact hS
    have hZ1 : (w1.alloc (.cells (fc zf) 86)).heap[w.heap.size + 1]? = some (.cells (fc zf) 86 (0,0)) := by rw [Below.heap_alloc _ _ _ (by omega)]; exact hZ
    have HG : (w1.alloc (.cells (fc zf) 86)).heap[w.heap.size + 2]? = some (.cells (fc zf) 86 (0,0)) := by rw [<- hN]; exact heap_alloc_new _ _
    have HS2 := (setRow_other (show w.heap.size + 2 ≠ w.heap.size by omega) (fc (base f))).trans hS1
    have HZ2 := (setRow_other (show w.heap.size + 2 ≠ w.heap.size + 1 by omega) (fc (base f))).trans hZ1
    have HG2 := setRow_heap _ _ _ (fc (base f)) _ _ HG
    have HB2 := below_setRow (below_alloc hB (Nat.le_refl _) (.cells (fc zf) 86)) (show w.heap.size <= w.heap.size + 2 by omega) (fc (base f))
    refine t_tk 0 rfl ((.pointer (some ⟨w.heap.size,0,none⟩))) (by kernel_rfl) (fun _ _ _ h => h) rfl (fun w' hw' => by simp [go_sem]) hS ?_
    simp only [Act.put,qA,qB,qC]
    refine t_tk 1 rfl ((.int .i64 (f 0))) (by kernel_rfl) (fun _ _ _ h => h) rfl (fun w' hw' => by simp [go_sem,blk_cells hw',c0]) hS ?_
    simp only [Act.put,qA,qB,qC]
    refine t_tk 4 rfl ((.pointer (some ⟨w.heap.size,1,none⟩))) (by kernel_rfl) (fun _ _ _ h => h) rfl (fun w' hw' => by simp [go_sem]) hS ?_
    simp only [Act.put,qA,qB,qC]
    refine t_tk 5 rfl ((.int .i64 (f 1))) (by kernel_rfl) (fun _ _ _ h => h) rfl (fun w' hw' => by simp [go_sem,blk_cells hw',c1]) hS ?_
    simp only [Act.put,qA,qB,qC]
    refine t_tk 7 rfl ((.pointer (some ⟨w.heap.size,2,none⟩))) (by kernel_rfl) (fun _ _ _ h => h) rfl (fun w' hw' => by simp [go_sem]) hS ?_
    simp only [Act.put,qA,qB,qC]
    refine t_tk 8 rfl ((.int .i64 (f 2))) (by kernel_rfl) (fun _ _ _ h => h) rfl (fun w' hw' => by simp [go_sem,blk_cells hw',c2]) hS ?_
    simp only [Act.put,qA,qB,qC]
    refine t_tk 10 rfl ((.pointer (some ⟨w.heap.size,3,none⟩))) (by kernel_rfl) (fun _ _ _ h => h) rfl (fun w' hw' => by simp [go_sem]) hS ?_
    simp only [Act.put,qA,qB,qC]
    refine t_tk 11 rfl ((.int .i64 (f 3))) (by kernel_rfl) (fun _ _ _ h => h) rfl (fun w' hw' => by simp [go_sem,blk_cells hw',c3]) hS ?_
    simp only [Act.put,qA,qB,qC]
    refine t_tk 14 rfl ((.pointer (some ⟨w.heap.size,4,none⟩))) (by kernel_rfl) (fun _ _ _ h => h) rfl (fun w' hw' => by simp [go_sem]) hS ?_
    simp only [Act.put,qA,qB,qC]
    refine t_tk 15 rfl ((.int .i64 (f 4))) (by kernel_rfl) (fun _ _ _ h => h) rfl (fun w' hw' => by simp [go_sem,blk_cells hw',c4]) hS ?_
    simp only [Act.put,qA,qB,qC]
    refine t_tk 17 rfl ((.pointer (some ⟨w.heap.size,5,none⟩))) (by kernel_rfl) (fun _ _ _ h => h) rfl (fun w' hw' => by simp [go_sem]) hS ?_
    simp only [Act.put,qA,qB,qC]
    refine t_tk 18 rfl ((.int .i64 (f 5))) (by kernel_rfl) (fun _ _ _ h => h) rfl (fun w' hw' => by simp [go_sem,blk_cells hw',c5]) hS ?_
    simp only [Act.put,qA,qB,qC]
    refine wpAnyH_all (rs := [2,21]) (by kernel_rfl) (by simp) ?_
    intro i hi
    simp only [List.mem_cons,List.not_mem_nil,or_false] at hi
    rcases hi with rfl | rfl
    . refine t_call 2 rfl rfl 31 #[.int .i64 (f 0),.int .i64 1000] (by simp [go_sem]) (.int .i64 (pk (f 0) 1000)) (K0 _) hS ?_
      simp only [Act.put,qA,qB,qC]
      refine t_tk 3 rfl ((.int .i64 (1 + pk (f 0) 1000))) (by kernel_rfl) (fun _ _ _ h => h) rfl (fun w' hw' => by simp [go_sem,a0]) hS ?_
      simp only [Act.put,qA,qB,qC]
      refine wpAnyH_all (rs := [6,21]) (by kernel_rfl) (by simp) ?_
      intro i hi
      simp only [List.mem_cons,List.not_mem_nil,or_false] at hi
      rcases hi with rfl | rfl
      . refine t_call 6 rfl rfl 31 #[.int .i64 (f 1),.int .i64 4] (by simp [go_sem]) (.int .i64 (pk (f 1) 4)) (K1 _) hS ?_
        simp only [Act.put,qA,qB,qC]
        refine wpAnyH_all (rs := [9,21]) (by kernel_rfl) (by simp) ?_
        intro i hi
        simp only [List.mem_cons,List.not_mem_nil,or_false] at hi
        rcases hi with rfl | rfl
        . refine t_call 9 rfl rfl 31 #[.int .i64 (f 2),.int .i64 2] (by simp [go_sem]) (.int .i64 (pk (f 2) 2)) (K2 _) hS ?_
          simp only [Act.put,qA,qB,qC]
          refine wpAnyH_all (rs := [12,21]) (by kernel_rfl) (by simp) ?_
          intro i hi
          simp only [List.mem_cons,List.not_mem_nil,or_false] at hi
          rcases hi with rfl | rfl
          . refine t_call 12 rfl rfl 31 #[.int .i64 (f 3),.int .i64 15] (by simp [go_sem]) (.int .i64 (pk (f 3) 15)) (K3 _) hS ?_
            simp only [Act.put,qA,qB,qC]
            refine t_tk 13 rfl ((.int .i64 (1 + pk (f 3) 15))) (by kernel_rfl) (fun _ _ _ h => h) rfl (fun w' hw' => by simp [go_sem,a3]) hS ?_
            simp only [Act.put,qA,qB,qC]
            refine wpAnyH_all (rs := [16,21]) (by kernel_rfl) (by simp) ?_
            intro i hi
            simp only [List.mem_cons,List.not_mem_nil,or_false] at hi
            rcases hi with rfl | rfl
            . refine t_call 16 rfl rfl 31 #[.int .i64 (f 4),.int .i64 10] (by simp [go_sem]) (.int .i64 (pk (f 4) 10)) (K4 _) hS ?_
              simp only [Act.put,qA,qB,qC]
              refine wpAnyH_all (rs := [19,21]) (by kernel_rfl) (by simp) ?_
              intro i hi
              simp only [List.mem_cons,List.not_mem_nil,or_false] at hi
              rcases hi with rfl | rfl
              . refine t_call 19 rfl rfl 31 #[.int .i64 (f 5),.int .i64 23] (by simp [go_sem]) (.int .i64 (pk (f 5) 23)) (K5 _) hS ?_
                simp only [Act.put,qA,qB,qC]
                refine t_tk 20 rfl ((.agg (fc (base f)))) (by kernel_rfl) (fun _ _ _ h => h) rfl (fun w' hw' => bld_run f _ _ rfl rfl rfl rfl rfl rfl rfl w') hS ?_
                simp only [Act.put,qA,qB,qC]
                refine wpAnyH_all (rs := [21]) (by kernel_rfl) (by simp) ?_
                intro i hi
                simp only [List.mem_singleton] at hi
                subst hi
                refine t_op 21 rfl rfl (.pointer (some ⟨w.heap.size + 2,0,none⟩)) _ (RA _ _ rfl) hS1 ?_
                simp only [Act.put,qA,qB,qC]
                have hS := hS1
                refine wpAnyH_all (rs := [22]) (by kernel_rfl) (by simp) ?_
                intro i hi
                simp only [List.mem_singleton] at hi
                subst hi
                refine t_st26 22 rfl rfl _ _ rfl (w.heap.size + 2) (base f) rfl rfl zf HG HS2 ?_
                simp only [Act.put]
                refine wpAnyH_done (by kernel_rfl) ?_ _
                go_wp2_with fail
                go_meet
                exact ⟨rfl,HS2,HZ2,HG2,HB2⟩
              . refine t_op 21 rfl rfl (.pointer (some ⟨w.heap.size + 2,0,none⟩)) _ (RA _ _ rfl) hS1 ?_
                simp only [Act.put,qA,qB,qC]
                have hS := hS1
                refine wpAnyH_all (rs := [19]) (by kernel_rfl) (by simp) ?_
                intro i hi
                simp only [List.mem_singleton] at hi
                subst hi
                refine t_call 19 rfl rfl 31 #[.int .i64 (f 5),.int .i64 23] (by simp [go_sem]) (.int .i64 (pk (f 5) 23)) (K5 _) hS ?_
                simp only [Act.put,qA,qB,qC]
                refine t_tk 20 rfl ((.agg (fc (base f)))) (by kernel_rfl) (fun _ _ _ h => h) rfl (fun w' hw' => bld_run f _ _ rfl rfl rfl rfl rfl rfl rfl w') hS ?_
                simp only [Act.put,qA,qB,qC]
                refine wpAnyH_all (rs := [22]) (by kernel_rfl) (by simp) ?_
                intro i hi
                simp only [List.mem_singleton] at hi
                subst hi
                refine t_st26 22 rfl rfl _ _ rfl (w.heap.size + 2) (base f) rfl rfl zf HG HS2 ?_
                simp only [Act.put]
                refine wpAnyH_done (by kernel_rfl) ?_ _
                go_wp2_with fail
                go_meet
                exact ⟨rfl,HS2,HZ2,HG2,HB2⟩
            . refine t_op 21 rfl rfl (.pointer (some ⟨w.heap.size + 2,0,none⟩)) _ (RA _ _ rfl) hS1 ?_
              simp only [Act.put,qA,qB,qC]
              have hS := hS1
              refine wpAnyH_all (rs := [16]) (by kernel_rfl) (by simp) ?_
              intro i hi
              simp only [List.mem_singleton] at hi
              subst hi
              refine t_call 16 rfl rfl 31 #[.int .i64 (f 4),.int .i64 10] (by simp [go_sem]) (.int .i64 (pk (f 4) 10)) (K4 _) hS ?_
              simp only [Act.put,qA,qB,qC]
              refine wpAnyH_all (rs := [19]) (by kernel_rfl) (by simp) ?_
              intro i hi
              simp only [List.mem_singleton] at hi
              subst hi
              refine t_call 19 rfl rfl 31 #[.int .i64 (f 5),.int .i64 23] (by simp [go_sem]) (.int .i64 (pk (f 5) 23)) (K5 _) hS ?_
              simp only [Act.put,qA,qB,qC]
              refine t_tk 20 rfl ((.agg (fc (base f)))) (by kernel_rfl) (fun _ _ _ h => h) rfl (fun w' hw' => bld_run f _ _ rfl rfl rfl rfl rfl rfl rfl w') hS ?_
              simp only [Act.put,qA,qB,qC]
              refine wpAnyH_all (rs := [22]) (by kernel_rfl) (by simp) ?_
              intro i hi
              simp only [List.mem_singleton] at hi
              subst hi
              refine t_st26 22 rfl rfl _ _ rfl (w.heap.size + 2) (base f) rfl rfl zf HG HS2 ?_
              simp only [Act.put]
              refine wpAnyH_done (by kernel_rfl) ?_ _
              go_wp2_with fail
              go_meet
              exact ⟨rfl,HS2,HZ2,HG2,HB2⟩
          . refine t_op 21 rfl rfl (.pointer (some ⟨w.heap.size + 2,0,none⟩)) _ (RA _ _ rfl) hS1 ?_
            simp only [Act.put,qA,qB,qC]
            have hS := hS1
            refine wpAnyH_all (rs := [12]) (by kernel_rfl) (by simp) ?_
            intro i hi
            simp only [List.mem_singleton] at hi
            subst hi
            refine t_call 12 rfl rfl 31 #[.int .i64 (f 3),.int .i64 15] (by simp [go_sem]) (.int .i64 (pk (f 3) 15)) (K3 _) hS ?_
            simp only [Act.put,qA,qB,qC]
            refine t_tk 13 rfl ((.int .i64 (1 + pk (f 3) 15))) (by kernel_rfl) (fun _ _ _ h => h) rfl (fun w' hw' => by simp [go_sem,a3]) hS ?_
            simp only [Act.put,qA,qB,qC]
            refine wpAnyH_all (rs := [16]) (by kernel_rfl) (by simp) ?_
            intro i hi
            simp only [List.mem_singleton] at hi
            subst hi
            refine t_call 16 rfl rfl 31 #[.int .i64 (f 4),.int .i64 10] (by simp [go_sem]) (.int .i64 (pk (f 4) 10)) (K4 _) hS ?_
            simp only [Act.put,qA,qB,qC]
            refine wpAnyH_all (rs := [19]) (by kernel_rfl) (by simp) ?_
            intro i hi
            simp only [List.mem_singleton] at hi
            subst hi
            refine t_call 19 rfl rfl 31 #[.int .i64 (f 5),.int .i64 23] (by simp [go_sem]) (.int .i64 (pk (f 5) 23)) (K5 _) hS ?_
            simp only [Act.put,qA,qB,qC]
            refine t_tk 20 rfl ((.agg (fc (base f)))) (by kernel_rfl) (fun _ _ _ h => h) rfl (fun w' hw' => bld_run f _ _ rfl rfl rfl rfl rfl rfl rfl w') hS ?_
            simp only [Act.put,qA,qB,qC]
            refine wpAnyH_all (rs := [22]) (by kernel_rfl) (by simp) ?_
            intro i hi
            simp only [List.mem_singleton] at hi
            subst hi
            refine t_st26 22 rfl rfl _ _ rfl (w.heap.size + 2) (base f) rfl rfl zf HG HS2 ?_
            simp only [Act.put]
            refine wpAnyH_done (by kernel_rfl) ?_ _
            go_wp2_with fail
            go_meet
            exact ⟨rfl,HS2,HZ2,HG2,HB2⟩
        . refine t_op 21 rfl rfl (.pointer (some ⟨w.heap.size + 2,0,none⟩)) _ (RA _ _ rfl) hS1 ?_
          simp only [Act.put,qA,qB,qC]
          have hS := hS1
          refine wpAnyH_all (rs := [9]) (by kernel_rfl) (by simp) ?_
          intro i hi
          simp only [List.mem_singleton] at hi
          subst hi
          refine t_call 9 rfl rfl 31 #[.int .i64 (f 2),.int .i64 2] (by simp [go_sem]) (.int .i64 (pk (f 2) 2)) (K2 _) hS ?_
          simp only [Act.put,qA,qB,qC]
          refine wpAnyH_all (rs := [12]) (by kernel_rfl) (by simp) ?_
          intro i hi
          simp only [List.mem_singleton] at hi
          subst hi
          refine t_call 12 rfl rfl 31 #[.int .i64 (f 3),.int .i64 15] (by simp [go_sem]) (.int .i64 (pk (f 3) 15)) (K3 _) hS ?_
          simp only [Act.put,qA,qB,qC]
          refine t_tk 13 rfl ((.int .i64 (1 + pk (f 3) 15))) (by kernel_rfl) (fun _ _ _ h => h) rfl (fun w' hw' => by simp [go_sem,a3]) hS ?_
          simp only [Act.put,qA,qB,qC]
          refine wpAnyH_all (rs := [16]) (by kernel_rfl) (by simp) ?_
          intro i hi
          simp only [List.mem_singleton] at hi
          subst hi
          refine t_call 16 rfl rfl 31 #[.int .i64 (f 4),.int .i64 10] (by simp [go_sem]) (.int .i64 (pk (f 4) 10)) (K4 _) hS ?_
          simp only [Act.put,qA,qB,qC]
          refine wpAnyH_all (rs := [19]) (by kernel_rfl) (by simp) ?_
          intro i hi
          simp only [List.mem_singleton] at hi
          subst hi
          refine t_call 19 rfl rfl 31 #[.int .i64 (f 5),.int .i64 23] (by simp [go_sem]) (.int .i64 (pk (f 5) 23)) (K5 _) hS ?_
          simp only [Act.put,qA,qB,qC]
          refine t_tk 20 rfl ((.agg (fc (base f)))) (by kernel_rfl) (fun _ _ _ h => h) rfl (fun w' hw' => bld_run f _ _ rfl rfl rfl rfl rfl rfl rfl w') hS ?_
          simp only [Act.put,qA,qB,qC]
          refine wpAnyH_all (rs := [22]) (by kernel_rfl) (by simp) ?_
          intro i hi
          simp only [List.mem_singleton] at hi
          subst hi
          refine t_st26 22 rfl rfl _ _ rfl (w.heap.size + 2) (base f) rfl rfl zf HG HS2 ?_
          simp only [Act.put]
          refine wpAnyH_done (by kernel_rfl) ?_ _
          go_wp2_with fail
          go_meet
          exact ⟨rfl,HS2,HZ2,HG2,HB2⟩
      . refine t_op 21 rfl rfl (.pointer (some ⟨w.heap.size + 2,0,none⟩)) _ (RA _ _ rfl) hS1 ?_
        simp only [Act.put,qA,qB,qC]
        have hS := hS1
        refine wpAnyH_all (rs := [6]) (by kernel_rfl) (by simp) ?_
        intro i hi
        simp only [List.mem_singleton] at hi
        subst hi
        refine t_call 6 rfl rfl 31 #[.int .i64 (f 1),.int .i64 4] (by simp [go_sem]) (.int .i64 (pk (f 1) 4)) (K1 _) hS ?_
        simp only [Act.put,qA,qB,qC]
        refine wpAnyH_all (rs := [9]) (by kernel_rfl) (by simp) ?_
        intro i hi
        simp only [List.mem_singleton] at hi
        subst hi
        refine t_call 9 rfl rfl 31 #[.int .i64 (f 2),.int .i64 2] (by simp [go_sem]) (.int .i64 (pk (f 2) 2)) (K2 _) hS ?_
        simp only [Act.put,qA,qB,qC]
        refine wpAnyH_all (rs := [12]) (by kernel_rfl) (by simp) ?_
        intro i hi
        simp only [List.mem_singleton] at hi
        subst hi
        refine t_call 12 rfl rfl 31 #[.int .i64 (f 3),.int .i64 15] (by simp [go_sem]) (.int .i64 (pk (f 3) 15)) (K3 _) hS ?_
        simp only [Act.put,qA,qB,qC]
        refine t_tk 13 rfl ((.int .i64 (1 + pk (f 3) 15))) (by kernel_rfl) (fun _ _ _ h => h) rfl (fun w' hw' => by simp [go_sem,a3]) hS ?_
        simp only [Act.put,qA,qB,qC]
        refine wpAnyH_all (rs := [16]) (by kernel_rfl) (by simp) ?_
        intro i hi
        simp only [List.mem_singleton] at hi
        subst hi
        refine t_call 16 rfl rfl 31 #[.int .i64 (f 4),.int .i64 10] (by simp [go_sem]) (.int .i64 (pk (f 4) 10)) (K4 _) hS ?_
        simp only [Act.put,qA,qB,qC]
        refine wpAnyH_all (rs := [19]) (by kernel_rfl) (by simp) ?_
        intro i hi
        simp only [List.mem_singleton] at hi
        subst hi
        refine t_call 19 rfl rfl 31 #[.int .i64 (f 5),.int .i64 23] (by simp [go_sem]) (.int .i64 (pk (f 5) 23)) (K5 _) hS ?_
        simp only [Act.put,qA,qB,qC]
        refine t_tk 20 rfl ((.agg (fc (base f)))) (by kernel_rfl) (fun _ _ _ h => h) rfl (fun w' hw' => bld_run f _ _ rfl rfl rfl rfl rfl rfl rfl w') hS ?_
        simp only [Act.put,qA,qB,qC]
        refine wpAnyH_all (rs := [22]) (by kernel_rfl) (by simp) ?_
        intro i hi
        simp only [List.mem_singleton] at hi
        subst hi
        refine t_st26 22 rfl rfl _ _ rfl (w.heap.size + 2) (base f) rfl rfl zf HG HS2 ?_
        simp only [Act.put]
        refine wpAnyH_done (by kernel_rfl) ?_ _
        go_wp2_with fail
        go_meet
        exact ⟨rfl,HS2,HZ2,HG2,HB2⟩
    . refine t_op 21 rfl rfl (.pointer (some ⟨w.heap.size + 2,0,none⟩)) _ (RA _ _ rfl) hS1 ?_
      simp only [Act.put,qA,qB,qC]
      have hS := hS1
      refine wpAnyH_all (rs := [2]) (by kernel_rfl) (by simp) ?_
      intro i hi
      simp only [List.mem_singleton] at hi
      subst hi
      refine t_call 2 rfl rfl 31 #[.int .i64 (f 0),.int .i64 1000] (by simp [go_sem]) (.int .i64 (pk (f 0) 1000)) (K0 _) hS ?_
      simp only [Act.put,qA,qB,qC]
      refine t_tk 3 rfl ((.int .i64 (1 + pk (f 0) 1000))) (by kernel_rfl) (fun _ _ _ h => h) rfl (fun w' hw' => by simp [go_sem,a0]) hS ?_
      simp only [Act.put,qA,qB,qC]
      refine wpAnyH_all (rs := [6]) (by kernel_rfl) (by simp) ?_
      intro i hi
      simp only [List.mem_singleton] at hi
      subst hi
      refine t_call 6 rfl rfl 31 #[.int .i64 (f 1),.int .i64 4] (by simp [go_sem]) (.int .i64 (pk (f 1) 4)) (K1 _) hS ?_
      simp only [Act.put,qA,qB,qC]
      refine wpAnyH_all (rs := [9]) (by kernel_rfl) (by simp) ?_
      intro i hi
      simp only [List.mem_singleton] at hi
      subst hi
      refine t_call 9 rfl rfl 31 #[.int .i64 (f 2),.int .i64 2] (by simp [go_sem]) (.int .i64 (pk (f 2) 2)) (K2 _) hS ?_
      simp only [Act.put,qA,qB,qC]
      refine wpAnyH_all (rs := [12]) (by kernel_rfl) (by simp) ?_
      intro i hi
      simp only [List.mem_singleton] at hi
      subst hi
      refine t_call 12 rfl rfl 31 #[.int .i64 (f 3),.int .i64 15] (by simp [go_sem]) (.int .i64 (pk (f 3) 15)) (K3 _) hS ?_
      simp only [Act.put,qA,qB,qC]
      refine t_tk 13 rfl ((.int .i64 (1 + pk (f 3) 15))) (by kernel_rfl) (fun _ _ _ h => h) rfl (fun w' hw' => by simp [go_sem,a3]) hS ?_
      simp only [Act.put,qA,qB,qC]
      refine wpAnyH_all (rs := [16]) (by kernel_rfl) (by simp) ?_
      intro i hi
      simp only [List.mem_singleton] at hi
      subst hi
      refine t_call 16 rfl rfl 31 #[.int .i64 (f 4),.int .i64 10] (by simp [go_sem]) (.int .i64 (pk (f 4) 10)) (K4 _) hS ?_
      simp only [Act.put,qA,qB,qC]
      refine wpAnyH_all (rs := [19]) (by kernel_rfl) (by simp) ?_
      intro i hi
      simp only [List.mem_singleton] at hi
      subst hi
      refine t_call 19 rfl rfl 31 #[.int .i64 (f 5),.int .i64 23] (by simp [go_sem]) (.int .i64 (pk (f 5) 23)) (K5 _) hS ?_
      simp only [Act.put,qA,qB,qC]
      refine t_tk 20 rfl ((.agg (fc (base f)))) (by kernel_rfl) (fun _ _ _ h => h) rfl (fun w' hw' => bld_run f _ _ rfl rfl rfl rfl rfl rfl rfl w') hS ?_
      simp only [Act.put,qA,qB,qC]
      refine wpAnyH_all (rs := [22]) (by kernel_rfl) (by simp) ?_
      intro i hi
      simp only [List.mem_singleton] at hi
      subst hi
      refine t_st26 22 rfl rfl _ _ rfl (w.heap.size + 2) (base f) rfl rfl zf HG HS2 ?_
      simp only [Act.put]
      refine wpAnyH_done (by kernel_rfl) ?_ _
      go_wp2_with fail
      go_meet
      exact ⟨rfl,HS2,HZ2,HG2,HB2⟩
  case rest =>
    obtain ⟨rfl,hf1,hz1,hg1,hb1⟩ := hcut
    clear c0 c1 c3 c4 c5 K0 K1 K2 K3 K4 K5 b0 b3 a0 a3 hsz0
    have c6 := fc_at f 6 (by decide)
    have c7 := fc_at f 7 (by decide)
    have K6 := fun W => pick_any (f 6) 3 W (hF 6 (by omega)) (by omega)
    have K7 := fun W => pick_any (f 7) 6 W (hF 7 (by omega)) (by omega)
    have b6 := pk_in (f 6) (n := 3) (by omega)
    have b7 := pk_in (f 7) (n := 6) (by omega)
    have HF := hide hF
    clear hF c2
    have d2 := fc_at (base f) 2 (by decide)
    have e2 : base f 2 = pk (f 2) 2 := by simp [base]
    rw [e2] at d2
    have d6 := fc_at (base f) 6 (by decide)
    have d7 := fc_at (base f) 7 (by decide)
    have q1 := blk_cells hf1
    have q2 := blk_cells hg1
    have r2 := frz_blk hg1
    clear e2
    by_cases hk : pk (f 2) 2 = 1
    . have H0 : Hid (mk0 f = upd (upd (base f) 6 (1 + pk (f 6) 3)) 7 1) := by show mk0 f = _; simp [mk0,hk]
      have g2 := set_blk hg1 (show 6 < 24 by omega) (1 + pk (f 6) 3)
      have g3 := set_blk g2 (show 7 < 24 by omega) 1
      have q3 := blk_cells g2
      have r3 := frz_blk g2
      have d7' := fc_at (upd (base f) 6 (1 + pk (f 6) 3)) 7 (by decide)
      rw [<- unhide H0] at g3
      have HG3 := hide g3
      have hk' : (pk (f 2) 2 == 1) = true := by simp [hk]
      clear g3
      go_wp2_with (go_at_call 31; refine (K6 _).mono ?_; rintro e w9 ⟨rfl,rfl⟩)
      have SF := (Below.heap_setCell (wc.setCell ⟨w.heap.size + 2,6,none⟩ (.int .i64 (1 + pk (f 6) 3))) ⟨w.heap.size + 2,7,none⟩ (.int .i64 1) w.heap.size (by simp)).trans ((Below.heap_setCell wc ⟨w.heap.size + 2,6,none⟩ (.int .i64 (1 + pk (f 6) 3)) w.heap.size (by simp)).trans hf1)
      have SZ := (Below.heap_setCell (wc.setCell ⟨w.heap.size + 2,6,none⟩ (.int .i64 (1 + pk (f 6) 3))) ⟨w.heap.size + 2,7,none⟩ (.int .i64 1) (w.heap.size + 1) (by simp)).trans ((Below.heap_setCell wc ⟨w.heap.size + 2,6,none⟩ (.int .i64 (1 + pk (f 6) 3)) (w.heap.size + 1) (by simp)).trans hz1)
      have SB := (hb1.setCell (p := ⟨w.heap.size + 2,6,none⟩) (by simp) (.int .i64 (1 + pk (f 6) 3))).setCell (p := ⟨w.heap.size + 2,7,none⟩) (by simp) (.int .i64 1)
      have HMK : Hid (mk f = mkS f (mkN f).toNat) := rfl
      clear hg1 g2 q1 q2 q3 r2 r3 d2 d6 d7 d7' K6 K7 hk hk' hf1 hz1 hb1 c6 c7
      go_loopw [4] (fun i wr => ∃ k : Nat,(k : Int) <= mkN f /\ i = .int .i64 k /\ wr.heap[w.heap.size]? = some (.cells (fc f) 86 (0,0)) /\ wr.heap[w.heap.size + 1]? = some (.cells (fc zf) 86 (0,0)) /\ wr.heap[w.heap.size + 2]? = some (.cells (fc (mkS f k)) 86 (0,0)) /\ Below w.heap.size w wr) (fun i _ => 8 - (intOf i).toNat)
      case atStart => exact ⟨0,by have := mkN_in f; omega,rfl,SF,SZ,unhide HG3,SB⟩
      case round =>
        obtain ⟨k,hk0,rfl,hf1,hz1,hg1,hb1⟩ := hrel
        have p1 := blk_cells hf1
        have p2 := blk_cells hg1
        have s7 := fc_at (mkS f k) 7 (by decide)
        rw [mkS_7] at s7
        obtain ⟨n1,n2⟩ := mkN_in f
        generalize mkN f = N at s7 n1 n2 hk0 HMK ⊢
        by_cases hlt : (k : Int) < N
        . have hk8 : (k : Int) < 8 := by omega
          have cx := fc_at f (8 + k) (by omega)
          have cy := fc_at f (16 + k) (by omega)
          have KX := fun W => pick_any (f (8 + k)) 1073741825 W (unhide HF (8 + k) (by omega)) (by omega)
          have KY := fun W => pick_any (f (16 + k)) 1073741825 W (unhide HF (16 + k) (by omega)) (by omega)
          have m1 := fc_at (mkS f k) (8 + k) (by omega)
          have g2 := set_blk hg1 (show 8 + k < 24 by omega) (pk (f (8 + k)) 1073741825)
          have m2 := fc_at (upd (mkS f k) (8 + k) (pk (f (8 + k)) 1073741825)) (16 + k) (by omega)
          have g3 := set_blk g2 (show 16 + k < 24 by omega) (pk (f (16 + k)) 1073741825)
          have p3 := blk_cells g2
          have r1 := frz_blk hg1
          have r3 := frz_blk g2
          have f2 := (Below.heap_setCell wr ⟨w.heap.size + 2,8 + k,none⟩ (.int .i64 (pk (f (8 + k)) 1073741825)) w.heap.size (by simp)).trans hf1
          have z2 := (Below.heap_setCell wr ⟨w.heap.size + 2,8 + k,none⟩ (.int .i64 (pk (f (8 + k)) 1073741825)) (w.heap.size + 1) (by simp)).trans hz1
          have f3 := (Below.heap_setCell (wr.setCell ⟨w.heap.size + 2,8 + k,none⟩ (.int .i64 (pk (f (8 + k)) 1073741825))) ⟨w.heap.size + 2,16 + k,none⟩ (.int .i64 (pk (f (16 + k)) 1073741825)) w.heap.size (by simp)).trans f2
          have z3 := (Below.heap_setCell (wr.setCell ⟨w.heap.size + 2,8 + k,none⟩ (.int .i64 (pk (f (8 + k)) 1073741825))) ⟨w.heap.size + 2,16 + k,none⟩ (.int .i64 (pk (f (16 + k)) 1073741825)) (w.heap.size + 1) (by simp)).trans z2
          have p4 := blk_cells f2
          have HB := hide ((hb1.setCell (p := ⟨w.heap.size + 2,8 + k,none⟩) (by simp) (.int .i64 (pk (f (8 + k)) 1073741825))).setCell (p := ⟨w.heap.size + 2,16 + k,none⟩) (by simp) (.int .i64 (pk (f (16 + k)) 1073741825)))
          have HE := hide (And.intro g3 (And.intro f3 z3))
          clear g3 f3 z3 hb1
          go_wp2_with fail
          refine (KX _).mono ?_
          rintro e w9 ⟨rfl,rfl⟩
          go_wp2_with fail
          refine (KY _).mono ?_
          rintro e w9 ⟨rfl,rfl⟩
          go_wp2_with fail
          go_roundw
          case rel => exact ⟨k + 1,by omega,by go_num,(unhide HE).2.1,(unhide HE).2.2,(unhide HE).1,unhide HB⟩
          case measure => simp [intOf]; omega
        . have hkN : Hid (mkS f k = mk f) := by
            show mkS f k = mk f
            rw [unhide HMK,show N.toNat = k by omega]
          have HZ := setRow_heap _ _ _ (fc (mkS f k)) _ _ hz1
          have HB := hide (below_setRow hb1 (show w.heap.size <= w.heap.size + 1 by omega) (fc (mkS f k)))
          go_wp2_with (first | (refine ld26 rfl _ rfl _ rfl (mkS f k) hg1 ?_) | (refine st26 rfl _ _ rfl (w.heap.size + 1) (mkS f k) rfl rfl zf hz1 ?_))
          refine bodyPost_ret (v := .agg (fc (mkS f k))) (results_cell_row Tryz.results100 _ _ (w.heap.size + 1) 86 (fc (mkS f k)) (0,0) _ rfl HZ Tryz.underlying86 rfl (szf _)) rfl ⟨by rw [unhide hkN],unhide HB⟩
    . have H0 : Hid (mk0 f = upd (base f) 7 (3 + pk (f 7) 6)) := by show mk0 f = _; simp [mk0,hk]
      have g3 := set_blk hg1 (show 7 < 24 by omega) (3 + pk (f 7) 6)
      rw [<- unhide H0] at g3
      have HG3 := hide g3
      have hk' : (pk (f 2) 2 == 1) = false := by simp [hk]
      clear g3
      go_wp2_with (go_at_call 31; refine (K7 _).mono ?_; rintro e w9 ⟨rfl,rfl⟩)
      have SF := (Below.heap_setCell wc ⟨w.heap.size + 2,7,none⟩ (.int .i64 (3 + pk (f 7) 6)) w.heap.size (by simp)).trans hf1
      have SZ := (Below.heap_setCell wc ⟨w.heap.size + 2,7,none⟩ (.int .i64 (3 + pk (f 7) 6)) (w.heap.size + 1) (by simp)).trans hz1
      have SB := hb1.setCell (p := ⟨w.heap.size + 2,7,none⟩) (by simp) (.int .i64 (3 + pk (f 7) 6))
      have HMK : Hid (mk f = mkS f (mkN f).toNat) := rfl
      clear hg1 q1 q2 r2 d2 d6 d7 K6 K7 hk hk' hf1 hz1 hb1 c6 c7
      go_loopw [4] (fun i wr => ∃ k : Nat,(k : Int) <= mkN f /\ i = .int .i64 k /\ wr.heap[w.heap.size]? = some (.cells (fc f) 86 (0,0)) /\ wr.heap[w.heap.size + 1]? = some (.cells (fc zf) 86 (0,0)) /\ wr.heap[w.heap.size + 2]? = some (.cells (fc (mkS f k)) 86 (0,0)) /\ Below w.heap.size w wr) (fun i _ => 8 - (intOf i).toNat)
      case atStart => exact ⟨0,by have := mkN_in f; omega,rfl,SF,SZ,unhide HG3,SB⟩
      case round =>
        obtain ⟨k,hk0,rfl,hf1,hz1,hg1,hb1⟩ := hrel
        have p1 := blk_cells hf1
        have p2 := blk_cells hg1
        have s7 := fc_at (mkS f k) 7 (by decide)
        rw [mkS_7] at s7
        obtain ⟨n1,n2⟩ := mkN_in f
        generalize mkN f = N at s7 n1 n2 hk0 HMK ⊢
        by_cases hlt : (k : Int) < N
        . have hk8 : (k : Int) < 8 := by omega
          have cx := fc_at f (8 + k) (by omega)
          have cy := fc_at f (16 + k) (by omega)
          have KX := fun W => pick_any (f (8 + k)) 1073741825 W (unhide HF (8 + k) (by omega)) (by omega)
          have KY := fun W => pick_any (f (16 + k)) 1073741825 W (unhide HF (16 + k) (by omega)) (by omega)
          have m1 := fc_at (mkS f k) (8 + k) (by omega)
          have g2 := set_blk hg1 (show 8 + k < 24 by omega) (pk (f (8 + k)) 1073741825)
          have m2 := fc_at (upd (mkS f k) (8 + k) (pk (f (8 + k)) 1073741825)) (16 + k) (by omega)
          have g3 := set_blk g2 (show 16 + k < 24 by omega) (pk (f (16 + k)) 1073741825)
          have p3 := blk_cells g2
          have r1 := frz_blk hg1
          have r3 := frz_blk g2
          have f2 := (Below.heap_setCell wr ⟨w.heap.size + 2,8 + k,none⟩ (.int .i64 (pk (f (8 + k)) 1073741825)) w.heap.size (by simp)).trans hf1
          have z2 := (Below.heap_setCell wr ⟨w.heap.size + 2,8 + k,none⟩ (.int .i64 (pk (f (8 + k)) 1073741825)) (w.heap.size + 1) (by simp)).trans hz1
          have f3 := (Below.heap_setCell (wr.setCell ⟨w.heap.size + 2,8 + k,none⟩ (.int .i64 (pk (f (8 + k)) 1073741825))) ⟨w.heap.size + 2,16 + k,none⟩ (.int .i64 (pk (f (16 + k)) 1073741825)) w.heap.size (by simp)).trans f2
          have z3 := (Below.heap_setCell (wr.setCell ⟨w.heap.size + 2,8 + k,none⟩ (.int .i64 (pk (f (8 + k)) 1073741825))) ⟨w.heap.size + 2,16 + k,none⟩ (.int .i64 (pk (f (16 + k)) 1073741825)) (w.heap.size + 1) (by simp)).trans z2
          have p4 := blk_cells f2
          have HB := hide ((hb1.setCell (p := ⟨w.heap.size + 2,8 + k,none⟩) (by simp) (.int .i64 (pk (f (8 + k)) 1073741825))).setCell (p := ⟨w.heap.size + 2,16 + k,none⟩) (by simp) (.int .i64 (pk (f (16 + k)) 1073741825)))
          have HE := hide (And.intro g3 (And.intro f3 z3))
          clear g3 f3 z3 hb1
          go_wp2_with fail
          refine (KX _).mono ?_
          rintro e w9 ⟨rfl,rfl⟩
          go_wp2_with fail
          refine (KY _).mono ?_
          rintro e w9 ⟨rfl,rfl⟩
          go_wp2_with fail
          go_roundw
          case rel => exact ⟨k + 1,by omega,by go_num,(unhide HE).2.1,(unhide HE).2.2,(unhide HE).1,unhide HB⟩
          case measure => simp [intOf]; omega
        . have hkN : Hid (mkS f k = mk f) := by
            show mkS f k = mk f
            rw [unhide HMK,show N.toNat = k by omega]
          have HZ := setRow_heap _ _ _ (fc (mkS f k)) _ _ hz1
          have HB := hide (below_setRow hb1 (show w.heap.size <= w.heap.size + 1 by omega) (fc (mkS f k)))
          go_wp2_with (first | (refine ld26 rfl _ rfl _ rfl (mkS f k) hg1 ?_) | (refine st26 rfl _ _ rfl (w.heap.size + 1) (mkS f k) rfl rfl zf hz1 ?_))
          refine bodyPost_ret (v := .agg (fc (mkS f k))) (results_cell_row Tryz.results100 _ _ (w.heap.size + 1) 86 (fc (mkS f k)) (0,0) _ rfl HZ Tryz.underlying86 rfl (szf _)) rfl ⟨by rw [unhide hkN],unhide HB⟩
theorem ap_own {ops : Array Oper} {rest : List Oper} {o : Oper} {a : Act} {Q : Exit -> Act -> World -> Prop} (w : World) (hgd : o.guard = none) (s x : Operand) (t : TypeId)
    (ho : o.op = .call { callee := .builtin .append,args := #[s,x],argTypes := #[t,t] })
    (B : Nat) (e : TypeId) (i : TypeInfo) (z : Value) (size bytes : Nat) (ht : Tryz.prog.underlying t = some (.slice e)) (hi : Tryz.prog.info? e = some i) (hz : i.zero = some z)
    (hsize : i.size = size) (hby : i.bytes = bytes) (hzs : z.cells.size = size) (hsz : 0 < size)
    (v : Value) (n : Nat) (xs : List Value) (hs : a.eval s = v) (hown : w.ownsRow B e size v n xs)
    (ad : Addr) (c : Nat) (news : List Value) (hx : a.eval x = .slice (some ad) 1 c) (hl : news.length = size) (hnews : ∀ j u,news[j]? = some u -> w.cell? (ad.add j) = some u) (h1 : ∀ u ∈ news,u.oneCell' = true)
    (hn : (n + 1) * bytes <= 1000000000) (hn' : n <= 1000000) (hB : B <= w.heap.size)
    (h : ∀ v' w',w'.ownsRow B e size v' (n + 1) (xs ++ news) -> w.grownBy w' v.ownBlock -> (v'.ownBlock = v.ownBlock \/ ∀ g,v'.ownBlock = some g -> w.heap.size <= g) -> wpList Tryz.prog ops Q rest (a.put o.dst v') w') : wpList Tryz.prog ops Q (o :: rest) a w := by
  have up : ∀ {v' : Value} {w' : World},w'.ownsRow w.heap.size e size v' (n + 1) (xs ++ news) -> w'.ownsRow B e size v' (n + 1) (xs ++ news) := by
    intro v' w' hh
    obtain ⟨a1,a2⟩ := hh
    refine ⟨a1,?_⟩
    rcases a2 with a2 | ⟨g,cap,cur,q1,q2,q3⟩
    . exact Or.inl a2
    . exact Or.inr ⟨g,cap,cur,q1,by omega,q3⟩
  have gn : ∀ {w' : World} {r : Option Nat},w.grownBy w' none -> w.grownBy w' r := fun hg => ⟨hg.os,hg.tape,hg.output,hg.size,fun k hk _ => hg.block k hk (by simp)⟩
  rcases hown.2 with ⟨rfl,rfl⟩ | ⟨g,cap,cur,rfl,hg,hh,hnc,hcm,hcs,htk⟩
  . refine wpList_append_grows w hgd s x t ho e i z size bytes ht hi hz hsize hby hzs hsz none 0 0 xs hs (fun _ => ⟨rfl,rfl⟩) (by have := hown.1; simpa using this) (fun b hb => by cases hb) ad 1 c news hx (by simpa using hl) hnews h1 (by omega) (by unfold maxLen; omega) (by omega) ?_
    intro v' w' r1 r2
    exact h v' w' (up r1) (gn r2) (Or.inr fun g hg => (World.ownsRow.lt r1 g hg).1)
  . by_cases hf : n + 1 <= cap
    . refine wpList_append_fits w hgd s x t ho B e i size ht hi hsize g n cap xs hs hown ad 1 c news hx (by simpa using hl) hnews h1 hf ?_
      intro w' r1 r2
      exact h _ w' r1 r2 (Or.inl rfl)
    . refine wpList_append_grows w hgd s x t ho e i z size bytes ht hi hz hsize hby hzs hsz (some ⟨g,0,none⟩) n cap xs hs (fun hb => by cases hb) hown.1 ?_ ad 1 c news hx (by simpa using hl) hnews h1 (by omega) (by unfold maxLen; omega) (by omega) ?_
      . intro b hb j u hj
        obtain rfl := Option.some.inj hb
        rw [Addr.add_mid,Nat.zero_add]
        have hjl : j < n * size := by
          have := (List.getElem?_eq_some_iff.1 hj).1
          rwa [hown.1] at this
        rw [World.ownsRow.cellAt hown j hjl,hj]
      . intro v' w' r1 r2
        exact h v' w' (up r1) (gn r2) (Or.inr fun g hg => (World.ownsRow.lt r1 g hg).1)
theorem right_in {f : Nat -> Int} (h : Rt f) : right f = true := by
  have hp : pts f 8 = true := by
    simp only [pts,List.all_eq_true,List.mem_range]
    intro i hi
    refine pt_t rfl rfl rfl (inR_t (h.px i hi).1 (h.px i hi).2) (inR_t (h.py i hi).1 (h.py i hi).2) ?_
    by_cases hn : f 7 <= (i : Int)
    . exact Or.inr (h.rest i hi hn)
    . exact Or.inl (by omega)
  have hf : form f = true := by
    unfold form
    rcases h.kind with ⟨a,b,c,d⟩ | ⟨a,b,c,d⟩
    . rw [if_pos a,inR_t c d]; simp [b]
    . rw [if_neg (by omega),if_pos a,inR_t b c]; simp [d]
  simp [right,traits,hp,hf,inR_t h.id.1 h.id.2,inR_t h.la.1 h.la.2,inR_t h.ink.1 h.ink.2,inR_t h.rk.1 h.rk.2,inR_t h.fr.1 h.fr.2]
theorem mkS_lo (f : Nat -> Int) (j : Nat) (hj : j < 8) : ∀ k,mkS f k j = mk0 f j
  | 0 => rfl
  | k + 1 => by
    rw [mkS,upd,if_neg (by omega),upd,if_neg (by omega)]
    exact mkS_lo f j hj k
theorem base_hi (f : Nat -> Int) (j : Nat) (hj : 6 <= j) : base f j = 0 := by
  unfold base
  rw [if_neg (by omega),if_neg (by omega),if_neg (by omega),if_neg (by omega),if_neg (by omega),if_neg (by omega)]
theorem mk0_hi (f : Nat -> Int) (j : Nat) (hj : 8 <= j) : mk0 f j = 0 := by
  unfold mk0
  split
  . rw [upd,if_neg (by omega),upd,if_neg (by omega)]; exact base_hi f j (by omega)
  . rw [upd,if_neg (by omega)]; exact base_hi f j (by omega)
theorem mkS_x (f : Nat -> Int) (i : Nat) (hi : i < 8) : ∀ k,k <= 8 -> mkS f k (8 + i) = if i < k then pk (f (8 + i)) 1073741825 else 0
  | 0,_ => by rw [if_neg (by omega)]; exact mk0_hi f _ (by omega)
  | k + 1,h => by
    rw [mkS,upd,if_neg (by omega),upd]
    by_cases e : 8 + i = 8 + k
    . rw [if_pos e,if_pos (by omega),e]
    . rw [if_neg e,mkS_x f i hi k (by omega)]
      by_cases e' : i < k
      . rw [if_pos e',if_pos (by omega)]
      . rw [if_neg e',if_neg (by omega)]
theorem mkS_y (f : Nat -> Int) (i : Nat) (hi : i < 8) : ∀ k,k <= 8 -> mkS f k (16 + i) = if i < k then pk (f (16 + i)) 1073741825 else 0
  | 0,_ => by rw [if_neg (by omega)]; exact mk0_hi f _ (by omega)
  | k + 1,h => by
    rw [mkS,upd]
    by_cases e : 16 + i = 16 + k
    . rw [if_pos e,if_pos (by omega),e]
    . rw [if_neg e,upd,if_neg (by omega),mkS_y f i hi k (by omega)]
      by_cases e' : i < k
      . rw [if_pos e',if_pos (by omega)]
      . rw [if_neg e',if_neg (by omega)]
theorem mk0_lo (f : Nat -> Int) (j : Nat) (hj : j < 6) : mk0 f j = base f j := by
  unfold mk0
  split
  . rw [upd,if_neg (by omega),upd,if_neg (by omega)]
  . rw [upd,if_neg (by omega)]
theorem mk_lo (f : Nat -> Int) (j : Nat) (hj : j < 6) : mk f j = base f j := (mkS_lo f j (by omega) _).trans (mk0_lo f j hj)
theorem mk_rt (f : Nat -> Int) : Rt (mk f) := by
  have n := mkN_in f
  have W : ∀ c : Int,W30 (pk c 1073741825) := fun c => by have := pk_in c (n := 1073741825) (by omega); unfold W30; omega
  have q0 := pk_in (f 0) (n := 1000) (by omega)
  have q1 := pk_in (f 1) (n := 4) (by omega)
  have q2 := pk_in (f 2) (n := 2) (by omega)
  have q3 := pk_in (f 3) (n := 15) (by omega)
  have q4 := pk_in (f 4) (n := 10) (by omega)
  have q5 := pk_in (f 5) (n := 23) (by omega)
  have q6 := pk_in (f 6) (n := 3) (by omega)
  have q7 := pk_in (f 7) (n := 6) (by omega)
  have e7 : mk f 7 = mkN f := mkS_7 f _
  refine ⟨?_,?_,?_,?_,?_,?_,fun i hi => ?_,fun i hi => ?_,fun i hi hn => ?_⟩
  . rw [mk_lo f 0 (by omega)]; simp [base]; omega
  . rw [mk_lo f 1 (by omega)]; simp [base]; omega
  . rw [mk_lo f 3 (by omega)]; simp [base]; omega
  . rw [mk_lo f 4 (by omega)]; simp [base]; omega
  . rw [mk_lo f 5 (by omega)]; simp [base]; omega
  . rw [mk_lo f 2 (by omega),e7,show mk f 6 = mk0 f 6 from mkS_lo f 6 (by omega) _]
    have e2 : base f 2 = pk (f 2) 2 := by simp [base]
    rw [e2]
    unfold mk0 mkN
    by_cases h : pk (f 2) 2 = 1
    . right
      simp only [if_pos h,upd]
      simp; omega
    . left
      simp only [if_neg h,upd]
      simp [base]; omega
  . rw [show mk f (8 + i) = _ from mkS_x f i hi _ (by omega)]
    split
    . exact W _
    . unfold W30; omega
  . rw [show mk f (16 + i) = _ from mkS_y f i hi _ (by omega)]
    split
    . exact W _
    . unfold W30; omega
  . rw [e7] at hn
    rw [show mk f (8 + i) = _ from mkS_x f i hi _ (by omega),show mk f (16 + i) = _ from mkS_y f i hi _ (by omega),if_neg (by omega),if_neg (by omega)]
    exact ⟨rfl,rfl⟩
theorem cnt_left {ax ay bx yb x y : Int} (h1 : ax < x) (h2 : bx < x) : cnt ax ay bx yb x y = false := by
  have key : ∀ a p b q : Int,a < x -> b < x -> p <= y -> y < q -> ¬ (x - a) * (q - p) < (b - a) * (y - p) := by
    intro a p b q ha hb hp hq h
    have m1 : 0 < (x - a) * (q - y) := Int.mul_pos (by omega) (by omega)
    have m2 : 0 <= (x - b) * (y - p) := Int.mul_nonneg (by omega) (by omega)
    have e1 : (x - a) * (q - p) = (x - a) * (q - y) + (x - a) * (y - p) := by rw [<- Int.mul_add]; congr 1; omega
    have e2 : (x - a) * (y - p) = (x - b) * (y - p) + (b - a) * (y - p) := by rw [<- Int.add_mul]; congr 1; omega
    omega
  unfold cnt
  split
  . next h => exact decide_eq_false (key ax ay bx yb h1 h2 h.1 h.2)
  . split
    . next h => exact decide_eq_false (key bx yb ax ay h2 h1 h.1 h.2)
    . rfl
theorem cnt_right {ax ay bx yb x y : Int} (h1 : x < ax) (h2 : x < bx) : cnt ax ay bx yb x y = (decide (ay <= y) != decide (yb <= y)) := by
  have key : ∀ a p b q : Int,x < a -> x < b -> p <= y -> y < q -> (x - a) * (q - p) < (b - a) * (y - p) := by
    intro a p b q ha hb hp hq
    have m1 : 0 < (a - x) * (q - y) := Int.mul_pos (by omega) (by omega)
    have m2 : 0 <= (b - x) * (y - p) := Int.mul_nonneg (by omega) (by omega)
    have e1 : (x - a) * (q - p) = - ((a - x) * (q - y)) - (a - x) * (y - p) := by simp only [Int.mul_sub,Int.sub_mul]; omega
    have e2 : (b - a) * (y - p) = (b - x) * (y - p) - (a - x) * (y - p) := by rw [<- Int.sub_mul]; congr 1; omega
    omega
  unfold cnt
  split
  . next h => rw [decide_eq_true (key ax ay bx yb h1 h2 h.1 h.2),decide_eq_true h.1,decide_eq_false (by omega : ¬ yb <= y)]; rfl
  . split
    . next h => rw [decide_eq_true (key bx yb ax ay h2 h1 h.1 h.2),decide_eq_true h.1,decide_eq_false (by omega : ¬ ay <= y)]; rfl
    . next h h' =>
      by_cases c : ay <= y
      . rw [decide_eq_true c,decide_eq_true (by omega : yb <= y)]; rfl
      . rw [decide_eq_false c,decide_eq_false (by omega : ¬ yb <= y)]; rfl
theorem cnt_off {ax ay bx yb x y : Int} (h : (ay < y /\ yb < y) \/ (y < ay /\ y < yb)) : cnt ax ay bx yb x y = false := by
  unfold cnt; rw [if_neg (by omega),if_neg (by omega)]
theorem par_no {f : Nat -> Int} {n : Int} {x y : Int} : ∀ k : Nat,(∀ i,i < k -> edge f n i x y = false) -> par f n x y k = false
  | 0,_ => rfl
  | k + 1,h => by rw [par,par_no k fun i hi => h i (by omega),h k (by omega)]; rfl
theorem par_tel {f : Nat -> Int} {x y : Int} {n : Nat} (h : ∀ i,i < n -> x < f (8 + i)) (hn : 1 <= n) : ∀ k : Nat,k < n -> par f n x y k = (decide (f 16 <= y) != decide (f (16 + k) <= y))
  | 0,_ => by simp [par]
  | k + 1,hk => by
    rw [par,par_tel h hn k (by omega),edge,if_neg (by omega),cnt_right (h k (by omega)) (h (k + 1) hk)]
    cases decide (f 16 <= y) <;> cases decide (f (16 + k) <= y) <;> cases decide (f (16 + (k + 1)) <= y) <;> rfl
theorem par_right {f : Nat -> Int} {x y : Int} {n : Nat} (h : ∀ i,i < n -> x < f (8 + i)) (hn : 1 <= n) : par f n x y n = false := by
  obtain ⟨m,rfl⟩ : ∃ m,n = m + 1 := ⟨n - 1,by omega⟩
  rw [par,par_tel h hn m (by omega),edge,if_pos (by omega),cnt_right (h m (by omega)) (h 0 hn)]
  cases decide (f 16 <= y) <;> cases decide (f (16 + m) <= y) <;> simp_all
theorem sq_lt {a r : Int} (hr : 0 <= r) (h : r < a \/ a < -r) : r * r < a * a := by
  rcases h with h | h
  . have m1 : 0 <= r * (a - r) := Int.mul_nonneg hr (by omega)
    have m2 : 0 < a * (a - r) := Int.mul_pos (by omega) (by omega)
    rw [Int.mul_sub] at m1 m2
    have := Int.mul_comm a r
    omega
  . have m1 : 0 <= r * (-a - r) := Int.mul_nonneg hr (by omega)
    have m2 : 0 < -a * (-a - r) := Int.mul_pos (by omega) (by omega)
    rw [Int.mul_sub] at m1 m2
    rw [Int.neg_mul_neg,Int.neg_mul] at m2
    rw [Int.mul_neg] at m1
    have := Int.mul_comm a r
    omega
theorem near_x {mx my r x y : Int} (hr : 0 <= r) (h : r < x - mx \/ x - mx < -r) : near mx my r x y = false := by
  have a := sq_lt hr h
  have b : 0 <= (y - my) * (y - my) := by
    rcases Int.le_total 0 (y - my) with h | h
    . exact Int.mul_nonneg h h
    . exact Int.mul_nonneg_of_nonpos_of_nonpos h h
  unfold near; exact decide_eq_false (by omega)
theorem near_y {mx my r x y : Int} (hr : 0 <= r) (h : r < y - my \/ y - my < -r) : near mx my r x y = false := by
  have a := sq_lt hr h
  have b : 0 <= (x - mx) * (x - mx) := by
    rcases Int.le_total 0 (x - mx) with h | h
    . exact Int.mul_nonneg h h
    . exact Int.mul_nonneg_of_nonpos_of_nonpos h h
  unfold near; exact decide_eq_false (by omega)
theorem nx_lt {n : Nat} (i : Nat) (hi : i < n) : (if (n : Int) <= (i : Int) + 1 then 0 else i + 1) < n := by split <;> omega
theorem far_x {f : Nat -> Int} {u x y : Int} (hR : Rt f) (hu : 0 <= u) (h : (∀ i,i < (f 7).toNat -> f (8 + i) + f 6 * u < x) \/ ∀ i,i < (f 7).toNat -> x < f (8 + i) - f 6 * u) : cov f u x y = false := by
  unfold cov
  rcases hR.kind with ⟨k2,k6,n1,n2⟩ | ⟨k2,k6,k6',k7⟩
  . rw [if_neg (by omega)]
    simp only [k6,Int.zero_mul,Int.add_zero,Int.sub_zero] at h
    obtain ⟨n,hn⟩ : ∃ n : Nat,f 7 = n := ⟨(f 7).toNat,by omega⟩
    simp only [hn,Int.toNat_natCast] at h ⊢
    rcases h with h | h
    . exact par_no n fun i hi => cnt_left (h i hi) (h _ (nx_lt i hi))
    . exact par_right h (by omega)
  . rw [if_pos k2]
    have hs : 0 <= f 6 * u := Int.mul_nonneg (by omega) hu
    have e : (f 7).toNat = 1 := by omega
    simp only [e] at h
    refine near_x hs ?_
    rcases h with h | h
    . have := h 0 (by omega); left; simp only [Nat.add_zero] at this; omega
    . have := h 0 (by omega); right; simp only [Nat.add_zero] at this; omega
theorem far_y {f : Nat -> Int} {u x y : Int} (hR : Rt f) (hu : 0 <= u) (h : (∀ i,i < (f 7).toNat -> f (16 + i) + f 6 * u < y) \/ ∀ i,i < (f 7).toNat -> y < f (16 + i) - f 6 * u) : cov f u x y = false := by
  unfold cov
  rcases hR.kind with ⟨k2,k6,n1,n2⟩ | ⟨k2,k6,k6',k7⟩
  . rw [if_neg (by omega)]
    simp only [k6,Int.zero_mul,Int.add_zero,Int.sub_zero] at h
    obtain ⟨n,hn⟩ : ∃ n : Nat,f 7 = n := ⟨(f 7).toNat,by omega⟩
    simp only [hn,Int.toNat_natCast] at h ⊢
    rcases h with h | h
    . exact par_no n fun i hi => cnt_off (Or.inl ⟨h i hi,h _ (nx_lt i hi)⟩)
    . exact par_no n fun i hi => cnt_off (Or.inr ⟨h i hi,h _ (nx_lt i hi)⟩)
  . rw [if_pos k2]
    have hs : 0 <= f 6 * u := Int.mul_nonneg (by omega) hu
    have e : (f 7).toNat = 1 := by omega
    simp only [e] at h
    refine near_y hs ?_
    rcases h with h | h
    . have := h 0 (by omega); left; simp only [Nat.add_zero] at this; omega
    . have := h 0 (by omega); right; simp only [Nat.add_zero] at this; omega
theorem ax_no {g : Nat -> Int} {n : Nat} {r lo hi x : Int} (h : axT g n r lo hi = false) (h1 : lo <= x) (h2 : x <= hi) : (∀ i,i < n -> g i + r < x) \/ ∀ i,i < n -> x < g i - r := by
  simp only [axT,Bool.not_eq_false',Bool.or_eq_true,apB,apA,List.all_eq_true,List.mem_range,decide_eq_true_eq] at h
  rcases h with h | h
  . exact Or.inl fun i hi => by have := h i hi; omega
  . exact Or.inr fun i hi => by have := h i hi; omega
theorem cov_touch {f : Nat -> Int} {u x y l1 h1 l2 h2 : Int} (hR : Rt f) (hu : 0 <= u) (hc : cov f u x y = true) (a1 : l1 <= x) (a2 : x <= h1) (b1 : l2 <= y) (b2 : y <= h2) :
    (axT (fun i => f (8 + i)) (f 7).toNat (f 6 * u) l1 h1 && axT (fun i => f (16 + i)) (f 7).toNat (f 6 * u) l2 h2) = true := by
  cases h : axT (fun i => f (8 + i)) (f 7).toNat (f 6 * u) l1 h1 with
  | false => rw [far_x hR hu (ax_no h a1 a2)] at hc; cases hc
  | true =>
    cases h' : axT (fun i => f (16 + i)) (f 7).toNat (f 6 * u) l2 h2 with
    | false => rw [far_y hR hu (ax_no h' b1 b2)] at hc; cases hc
    | true => rfl
def hgt (f : Nat -> Int) : Int := f 4 * 2000 + f 0
def vis (f : Nat -> Int) (l z u px py : Int) : Bool := shw f l z && cov f u px py
theorem isAb_hgt {a b : Nat -> Int} (ha : 0 <= a 0 /\ a 0 <= 1000) (hb : 0 <= b 0 /\ b 0 <= 1000) : isAb a b = decide (hgt b < hgt a) := by
  unfold isAb hgt
  split
  . next h => rw [h]; congr 1; exact propext ⟨fun _ => by omega,fun _ => by omega⟩
  . congr 1; exact propext ⟨fun _ => by omega,fun _ => by omega⟩
theorem top_skip {fs : Nat -> Nat -> Int} {l z u px py : Int} {k : Nat} (h : vis (fs k) l z u px py = false) : top fs l z u px py (k + 1) = top fs l z u px py k := by
  rw [top]
  unfold vis at h
  cases hs : shw (fs k) l z with
  | false => rfl
  | true => rw [hs,Bool.true_and] at h; rw [h,Bool.and_false]; rfl
theorem top_spec {fs : Nat -> Nat -> Int} (l z u px py : Int) : ∀ n,(∀ i,i < n -> Rt (fs i)) ->
    (top fs l z u px py n = zf /\ ∀ i,i < n -> vis (fs i) l z u px py = false) \/ ∃ i,i < n /\ top fs l z u px py n = fs i /\ vis (fs i) l z u px py = true /\ ∀ j,j < n -> vis (fs j) l z u px py = true -> hgt (fs j) <= hgt (fs i)
  | 0,_ => Or.inl ⟨rfl,fun i hi => by omega⟩
  | n + 1,hr => by
    have ih := top_spec (fs := fs) l z u px py n fun i hi => hr i (by omega)
    have rn := hr n (by omega)
    cases hv : vis (fs n) l z u px py with
    | false =>
      rw [top_skip hv]
      rcases ih with ⟨a,b⟩ | ⟨i,hi,a,b,c⟩
      . refine Or.inl ⟨a,fun i hi => ?_⟩
        by_cases e : i = n
        . rw [e]; exact hv
        . exact b i (by omega)
      . refine Or.inr ⟨i,by omega,a,b,fun j hj hvj => ?_⟩
        by_cases e : j = n
        . rw [e,hv] at hvj; cases hvj
        . exact c j (by omega) hvj
    | true =>
      have hv' := hv
      unfold vis at hv
      rw [Bool.and_eq_true] at hv
      rcases ih with ⟨a,b⟩ | ⟨i,hi,a,b,c⟩
      . refine Or.inr ⟨n,by omega,?_,hv',fun j hj hvj => ?_⟩
        . have i0 := rn.id
          have r0 := rn.rk
          rw [top,a,isAb_hgt (a := zf) (by simp [zf]) (by omega),hv.1,hv.2,decide_eq_false (by simp only [hgt,zf]; omega)]; rfl
        . by_cases e : j = n
          . rw [e]; omega
          . rw [b j (by omega)] at hvj; cases hvj
      . have ri := hr i (by omega)
        have i0 := rn.id
        have i1 := ri.id
        by_cases hh : hgt (fs n) < hgt (fs i)
        . refine Or.inr ⟨i,by omega,?_,b,fun j hj hvj => ?_⟩
          . rw [top,a,isAb_hgt (by omega) (by omega),hv.1,hv.2,decide_eq_true hh]; rfl
          . by_cases e : j = n
            . rw [e]; omega
            . exact c j (by omega) hvj
        . refine Or.inr ⟨n,by omega,?_,hv',fun j hj hvj => ?_⟩
          . rw [top,a,isAb_hgt (by omega) (by omega),hv.1,hv.2,decide_eq_false hh]; rfl
          . by_cases e : j = n
            . rw [e]; omega
            . have := c j (by omega) hvj; omega
theorem top_set {fs gs : Nat -> Nat -> Int} {n m : Nat} (l z u px py : Int) (hr : ∀ i,i < n -> Rt (fs i)) (hg : ∀ i,i < m -> Rt (gs i))
    (h1 : ∀ i,i < n -> vis (fs i) l z u px py = true -> ∃ j,j < m /\ gs j = fs i) (h2 : ∀ j,j < m -> vis (gs j) l z u px py = true -> ∃ i,i < n /\ fs i = gs j)
    (hd : ∀ i j,i < n -> j < n -> fs i 0 = fs j 0 -> fs i = fs j) : top gs l z u px py m = top fs l z u px py n := by
  rcases top_spec (fs := fs) l z u px py n hr with ⟨a,b⟩ | ⟨i,hi,a,b,c⟩
  . rcases top_spec (fs := gs) l z u px py m hg with ⟨a',_⟩ | ⟨j,hj,_,b',_⟩
    . rw [a,a']
    . obtain ⟨i,hi,e⟩ := h2 j hj b'
      rw [<- e,b i hi] at b'; cases b'
  . rcases top_spec (fs := gs) l z u px py m hg with ⟨_,b'⟩ | ⟨j,hj,a',b',c'⟩
    . obtain ⟨j,hj,e⟩ := h1 i hi b
      have := b' j hj
      rw [e,b] at this; cases this
    . obtain ⟨i',hi',e'⟩ := h2 j hj b'
      obtain ⟨j',hj',e⟩ := h1 i hi b
      have q1 := c i' hi' (by rw [e']; exact b')
      have q2 := c' j' hj' (by rw [e]; exact b)
      rw [e,<- e'] at q2
      have i0 := (hr i hi).id
      have j0 := (hr i' hi').id
      rw [a,a',<- e']
      exact hd i' i hi' hi (by unfold hgt at q1 q2; omega)
theorem far_vis {f : Nat -> Int} {l z x y : Int} (hR : Rt f) (he : keyErr l z x y = 0) (h : Tch f l z x y = false) (p : Nat) (hp : p < 64) :
    vis f l z (un z) (cen x (un z) ((p : Int) % 8)) (cen y (un z) ((p : Int) / 8)) = false := by
  obtain ⟨_,⟨z1,z2⟩,⟨x1,x2⟩,⟨y1,y2⟩⟩ := keyErr_zero he
  obtain ⟨p1,p2,p3,p4⟩ := mod8 p hp
  obtain ⟨_,_,_,_,_,_,a1,a2⟩ := cen_in z1 z2 x1 x2 p1 p2
  obtain ⟨_,_,_,_,_,_,b1,b2⟩ := cen_in z1 z2 y1 y2 p3 p4
  have hu := un_in z z1 z2
  unfold Tch at h
  rw [right_in hR,he] at h
  unfold vis
  cases hs : shw f l z with
  | false => rfl
  | true =>
    rw [hs] at h
    cases hc : cov f (un z) (cen x (un z) ((p : Int) % 8)) (cen y (un z) ((p : Int) / 8)) with
    | false => rfl
    | true => rw [cov_touch hR (by omega) hc a1 a2 b1 b2] at h; simp at h
theorem ink_of_top {fs gs : Nat -> Nat -> Int} {n m : Nat} {l z x y : Int} (h : ∀ p : Nat,p < 64 -> top gs l z (un z) (cen x (un z) ((p : Int) % 8)) (cen y (un z) ((p : Int) / 8)) m = top fs l z (un z) (cen x (un z) ((p : Int) % 8)) (cen y (un z) ((p : Int) / 8)) n) : pic gs m l z x y 64 = pic fs n l z x y 64 := by
  unfold pic
  refine List.map_congr_left fun p hp => ?_
  unfold ink
  rw [h p (List.mem_range.1 hp)]
theorem run_bs34 (ev : Operand -> Value) (o : Oper) (x : Operand) (ho : o.op = .buildSlice 69 1 #[(0,x)]) (f : Nat -> Int) (hx : ev x = .agg (fc f)) (w : World) : (execOp ev o).run Tryz.prog w = .ok (.value (.slice (some ⟨w.heap.size,0,none⟩) 1 1)) (w.alloc (.cells (fc f) 86)) := by
  unfold execOp
  simp only [ho]
  simp only [List.map_toArray,List.map_cons,List.map_nil,hx]
  kernel_rfl
theorem bs34 {ops : Array Oper} {rest : List Oper} {o : Oper} {a : Act} {w : World} {Q : Exit -> Act -> World -> Prop} (hgd : o.guard = none) (x : Operand) (ho : o.op = .buildSlice 69 1 #[(0,x)]) (f : Nat -> Int) (hx : a.eval x = .agg (fc f)) (n : Nat) (hn : w.heap.size = n)
    (h : wpList Tryz.prog ops Q rest (a.put o.dst (.slice (some ⟨n,0,none⟩) 1 1)) (w.alloc (.cells (fc f) 86))) : wpList Tryz.prog ops Q (o :: rest) a w :=
  wpList_plain hgd fun _ hK => by
    unfold Oper.wp
    rw [run_bs34 _ _ x ho f hx,hn]
    exact hK _ _ h
def gf (l : List (Nat -> Int)) (i : Nat) : Nat -> Int := (l[i]?).getD zf
theorem gf_cons (f : Nat -> Int) (l : List (Nat -> Int)) (i : Nat) : gf (f :: l) (i + 1) = gf l i := by simp [gf]
theorem gf_left {l : List (Nat -> Int)} {f : Nat -> Int} {i : Nat} (h : i < l.length) : gf (l ++ [f]) i = gf l i := by unfold gf; rw [List.getElem?_append_left h]
theorem gf_last (l : List (Nat -> Int)) (f : Nat -> Int) : gf (l ++ [f]) l.length = f := by simp [gf]
set_option maxHeartbeats 1600000 in
theorem has_any (v : Value) (n : Nat) (fs : Nat -> Nat -> Int) (id : Int) (w : World) (hv : FsAt w v n fs) :
    Calls Tryz.prog 101 #[v,.int .i64 id] w fun e w' => (∃ r : Int,e = .returned (.int .i64 r) /\ ((r = -1 /\ ∀ i,i < n -> fs i 0 ≠ id) \/ ∃ m : Nat,r = m /\ m < n /\ fs m 0 = id /\ ∀ i,i < m -> fs i 0 ≠ id)) /\ w = w' := by
  obtain ⟨oa,cap,rfl,hm,hc⟩ := hv
  have HC := hide hc
  unfold maxLen at hm
  clear hc
  go_enter Tryz.func101,Tryz.ntmps101
  go_wp2_with fail
  go_loop [5] (fun i => ∃ k : Nat,k <= n /\ i = .int .i64 k /\ Hid (∀ i,i < k -> fs i 0 ≠ id)) (fun i => n - (intOf i).toNat)
  case atStart => exact ⟨0,by omega,rfl,hide (fun i hi => absurd hi (by omega))⟩
  case round =>
    obtain ⟨k,hk,rfl,hno⟩ := hrel
    by_cases hlt : k < n
    . have hkn : (k : Int) < n := by omega
      obtain ⟨b,off,rfl,hbl,hc0⟩ := unhide HC (by omega)
      have hc1 := hc0 k hlt 0 (by omega)
      simp only [Nat.add_zero] at hc1
      clear hc0
      obtain ⟨I,hI⟩ : ∃ I,fs k 0 = I := ⟨_,rfl⟩
      rw [hI] at hc1
      by_cases he : I = id
      . subst he
        go_wp2_with fail
        go_ret
        exact ⟨⟨k,rfl,Or.inr ⟨k,rfl,hlt,hI,unhide hno⟩⟩,rfl⟩
      . go_wp2_with fail
        go_round
        case rel => exact ⟨k + 1,by omega,by go_num,hide (fun i hi => by
          by_cases e : i = k
          . subst e; rw [hI]; exact he
          . exact unhide hno i (by omega))⟩
        case measure => simp [intOf]; omega
    . have hkn : k = n := by omega
      subst hkn
      go_wp2_with fail
      go_ret
      exact ⟨⟨-1,rfl,Or.inl ⟨rfl,unhide hno⟩⟩,rfl⟩
theorem t_st28 {l : List Oper} {Q : Exit -> Act -> World -> Prop} {S : World -> Prop} {listed : Array Bool} {a : Act} {w : World} {fuel : Nat} {o : Oper} {rest : List Oper} (i : Nat) (hd : l.drop i = o :: rest) (hw : Region.wanted o (yielded l.toArray a.tmps) = true) (x y : Operand) (hop : o.op = .store 39 x y) (g : Nat) (b1 b2 b3 b4 : Int) (hx : a.eval x = .pointer (some ⟨g,0,none⟩)) (hy : a.eval y = .agg #[.int .i64 b1,.int .i64 b2,.int .i64 b3,.int .i64 b4]) (c1 c2 c3 c4 : Int) (hg : w.heap[g]? = some (.cells #[.int .i64 c1,.int .i64 c2,.int .i64 c3,.int .i64 c4] 39 (0,0)))
    (hS : S (w.setRow g #[.int .i64 b1,.int .i64 b2,.int .i64 b3,.int .i64 b4])) (h : wpAnyH Tryz.prog .any l.toArray Q S fuel (listed.setIfInBounds i true) (a.put o.dst undef) (w.setRow g #[.int .i64 b1,.int .i64 b2,.int .i64 b3,.int .i64 b4])) :
    wpOp Tryz.prog l.toArray Q i (fun a' w' => S w' /\ wpAnyH Tryz.prog .any l.toArray Q S fuel (listed.setIfInBounds i true) a' w') a w := by
  unfold wpOp
  simp only [at_drop hd]
  rw [if_pos hw]
  left
  exact wp_store_row 39 x y hop g _ hx hy 39 _ hg (sz28 b1 b2 b3 b4) rfl (by simp only [List.all_toArray,List.all_cons,List.all_nil]; rfl) ⟨hS,h⟩
set_option maxHeartbeats 6400000 in
theorem place_any (l z x y : Int) (w : World) (r1 : -9223372036854775808 <= l /\ l <= 9223372036854775807) (r2 : -9223372036854775808 <= z /\ z <= 9223372036854775807) (r3 : -9223372036854775808 <= x /\ x <= 9223372036854775807) (r4 : -9223372036854775808 <= y /\ y <= 9223372036854775807) :
    Calls Tryz.prog 15 #[.agg #[.int .i64 l,.int .i64 z,.int .i64 x,.int .i64 y]] w fun e w' => e = .returned (.agg #[.int .i64 (pk l 4),.int .i64 (pk z 23),.int .i64 (pk x ((2 : Int) ^ (pk z 23).toNat)),.int .i64 (pk y ((2 : Int) ^ (pk z 23).toNat))]) /\ Below w.heap.size w w' := by
  have K0 := fun W => pick_any l 4 W r1 (by omega)
  have K1 := fun W => pick_any z 23 W r2 (by omega)
  have bz := pk_in z (n := 23) (by omega)
  generalize pk z 23 = Z at K1 bz
  have KA := fun W => across_any Z W bz.1 (by omega)
  have bp := pow_cap Z (by omega)
  generalize (2 : Int) ^ Z.toNat = N at KA bp
  have K2 := fun W => pick_any x N W r3 (by omega)
  have K3 := fun W => pick_any y N W r4 (by omega)
  generalize pk x N = X at K2
  generalize pk y N = Y at K3
  generalize pk l 4 = L at K0
  obtain ⟨t1,t2,t3⟩ := two_blocks w (.cells #[.int .i64 l,.int .i64 z,.int .i64 x,.int .i64 y] 39 (0,0)) (.cells #[.int .i64 0,.int .i64 0,.int .i64 0,.int .i64 0] 39 (0,0))
  have HZ := hide t2
  have HB := hide t3
  clear t2 t3 bp r1 r2 r3 r4
  go_enter Tryz.func15,Tryz.ntmps15
  go_wp2_with fail
  refine (K1 _).mono ?_
  rintro e w9 ⟨rfl,rfl⟩
  go_wp2_with fail
  refine wp_region_held (S := fun w' => w'.heap[w.heap.size]? = some (.cells #[.int .i64 l,.int .i64 z,.int .i64 x,.int .i64 y] 39 (0,0))) (by kernel_rfl) ?_
  change wpAnyH _ _ _ _ _ _ _ _ (World.drew _)
  have hS : (World.drew ((w.alloc (.cells #[.int .i64 l,.int .i64 z,.int .i64 x,.int .i64 y] 39)).alloc (.cells #[.int .i64 0,.int .i64 0,.int .i64 0,.int .i64 0] 39))).heap[w.heap.size]? = some (.cells #[.int .i64 l,.int .i64 z,.int .i64 x,.int .i64 y] 39 (0,0)) := t1
  have hZ : (World.drew ((w.alloc (.cells #[.int .i64 l,.int .i64 z,.int .i64 x,.int .i64 y] 39)).alloc (.cells #[.int .i64 0,.int .i64 0,.int .i64 0,.int .i64 0] 39))).heap[w.heap.size + 1]? = some (.cells #[.int .i64 0,.int .i64 0,.int .i64 0,.int .i64 0] 39 (0,0)) := unhide HZ
  have hB : Below w.heap.size w (World.drew ((w.alloc (.cells #[.int .i64 l,.int .i64 z,.int .i64 x,.int .i64 y] 39)).alloc (.cells #[.int .i64 0,.int .i64 0,.int .i64 0,.int .i64 0] 39))) := Below.drew (unhide HB)
  generalize World.drew ((w.alloc (.cells #[.int .i64 l,.int .i64 z,.int .i64 x,.int .i64 y] 39)).alloc (.cells #[.int .i64 0,.int .i64 0,.int .i64 0,.int .i64 0] 39)) = w1 at hS hZ hB ⊢
  have HS2 := (setRow_other (w := w1) (show w.heap.size + 1 ≠ w.heap.size by omega) #[.int .i64 L,.int .i64 Z,.int .i64 X,.int .i64 Y]).trans hS
  have HZ2 := setRow_heap _ _ _ #[.int .i64 L,.int .i64 Z,.int .i64 X,.int .i64 Y] _ _ hZ
  have HB2 := below_setRow hB (show w.heap.size <= w.heap.size + 1 by omega) #[.int .i64 L,.int .i64 Z,.int .i64 X,.int .i64 Y]
  refine t_tk 0 rfl (.pointer (some ⟨w.heap.size,0,none⟩)) (by kernel_rfl) (fun _ _ _ h => h) rfl (fun w' hw' => by simp [go_sem]) hS ?_
  simp only [Act.put,qA,qB,qC]
  refine t_tk 1 rfl (.int .i64 l) (by kernel_rfl) (fun _ _ _ h => h) rfl (fun w' hw' => by simp [go_sem,blk_cells hw']) hS ?_
  simp only [Act.put,qA,qB,qC]
  refine t_tk 3 rfl (.int .i64 Z) (by kernel_rfl) (fun _ _ _ h => h) rfl (fun w' hw' => by simp [go_sem]) hS ?_
  simp only [Act.put,qA,qB,qC]
  refine t_tk 4 rfl (.pointer (some ⟨w.heap.size,2,none⟩)) (by kernel_rfl) (fun _ _ _ h => h) rfl (fun w' hw' => by simp [go_sem]) hS ?_
  simp only [Act.put,qA,qB,qC]
  refine t_tk 5 rfl (.int .i64 x) (by kernel_rfl) (fun _ _ _ h => h) rfl (fun w' hw' => by simp [go_sem,blk_cells hw']) hS ?_
  simp only [Act.put,qA,qB,qC]
  refine t_tk 6 rfl (.int .i64 Z) (by kernel_rfl) (fun _ _ _ h => h) rfl (fun w' hw' => by simp [go_sem]) hS ?_
  simp only [Act.put,qA,qB,qC]
  refine t_tk 9 rfl (.pointer (some ⟨w.heap.size,3,none⟩)) (by kernel_rfl) (fun _ _ _ h => h) rfl (fun w' hw' => by simp [go_sem]) hS ?_
  simp only [Act.put,qA,qB,qC]
  refine t_tk 10 rfl (.int .i64 y) (by kernel_rfl) (fun _ _ _ h => h) rfl (fun w' hw' => by simp [go_sem,blk_cells hw']) hS ?_
  simp only [Act.put,qA,qB,qC]
  refine t_tk 11 rfl (.int .i64 Z) (by kernel_rfl) (fun _ _ _ h => h) rfl (fun w' hw' => by simp [go_sem]) hS ?_
  simp only [Act.put,qA,qB,qC]
  refine wpAnyH_all (rs := [2]) (by kernel_rfl) (by simp) ?_
  intro i hi
  simp only [List.mem_singleton] at hi
  subst hi
  refine t_call 2 rfl rfl 31 #[.int .i64 l,.int .i64 4] (by simp [go_sem]) (.int .i64 L) (K0 _) hS ?_
  simp only [Act.put,qA,qB,qC]
  refine wpAnyH_all (rs := [7]) (by kernel_rfl) (by simp) ?_
  intro i hi
  simp only [List.mem_singleton] at hi
  subst hi
  refine t_call 7 rfl rfl 32 #[.int .i64 Z] (by simp [go_sem]) (.int .i64 N) (KA _) hS ?_
  simp only [Act.put,qA,qB,qC]
  refine wpAnyH_all (rs := [8]) (by kernel_rfl) (by simp) ?_
  intro i hi
  simp only [List.mem_singleton] at hi
  subst hi
  refine t_call 8 rfl rfl 31 #[.int .i64 x,.int .i64 N] (by simp [go_sem]) (.int .i64 X) (K2 _) hS ?_
  simp only [Act.put,qA,qB,qC]
  refine wpAnyH_all (rs := [12]) (by kernel_rfl) (by simp) ?_
  intro i hi
  simp only [List.mem_singleton] at hi
  subst hi
  refine t_call 12 rfl rfl 32 #[.int .i64 Z] (by simp [go_sem]) (.int .i64 N) (KA _) hS ?_
  simp only [Act.put,qA,qB,qC]
  refine wpAnyH_all (rs := [13]) (by kernel_rfl) (by simp) ?_
  intro i hi
  simp only [List.mem_singleton] at hi
  subst hi
  refine t_call 13 rfl rfl 31 #[.int .i64 y,.int .i64 N] (by simp [go_sem]) (.int .i64 Y) (K3 _) hS ?_
  simp only [Act.put,qA,qB,qC]
  refine t_tk 14 rfl (.agg #[.int .i64 L,.int .i64 Z,.int .i64 X,.int .i64 Y]) (by kernel_rfl) (fun _ _ _ h => h) rfl (fun w' hw' => by simp [go_sem]) hS ?_
  simp only [Act.put,qA,qB,qC]
  refine wpAnyH_all (rs := [15]) (by kernel_rfl) (by simp) ?_
  intro i hi
  simp only [List.mem_singleton] at hi
  subst hi
  refine t_st28 15 rfl rfl _ _ rfl (w.heap.size + 1) L Z X Y rfl rfl 0 0 0 0 hZ HS2 ?_
  simp only [Act.put]
  refine wpAnyH_done (by kernel_rfl) ?_ _
  go_wp2_with fail
  refine bodyPost_ret (v := .agg #[.int .i64 L,.int .i64 Z,.int .i64 X,.int .i64 Y]) (results_cell_row Tryz.results15 _ _ (w.heap.size + 1) 39 _ (0,0) _ rfl HZ2 Tryz.underlying39 rfl (sz28 _ _ _ _)) rfl ⟨rfl,HB2⟩
def cc (n : Nat) (f : Nat -> Int) : Array Value := (Array.range n).map fun i => .int .i64 (f i)
theorem cc_size (n : Nat) (f : Nat -> Int) : (cc n f).size = n := by simp [cc]
theorem cc_at (n : Nat) (f : Nat -> Int) (i : Nat) (h : i < n) : (cc n f)[i]? = some (.int .i64 (f i)) := by simp [cc,h]
theorem cc_one (n : Nat) (f : Nat -> Int) : (cc n f).all (·.oneCell') = true := by
  rw [Array.all_eq_true_iff_forall_mem]
  intro v hv
  simp only [cc,Array.mem_map] at hv
  obtain ⟨i,_,rfl⟩ := hv
  rfl
theorem ccl_len (n : Nat) (f : Nat -> Int) : (cc n f).toList.length = n := by rw [Array.length_toList,cc_size]
theorem cc_ext {n : Nat} {f g : Nat -> Int} (h : ∀ i,i < n -> f i = g i) : cc n f = cc n g := by
  apply Array.ext_getElem?
  intro j
  by_cases hj : j < n
  . rw [cc_at _ _ j hj,cc_at _ _ j hj,h j hj]
  . rw [Array.getElem?_eq_none (by rw [cc_size]; omega),Array.getElem?_eq_none (by rw [cc_size]; omega)]
def fl (m : Nat) (l : List (Nat -> Int)) : List Value := l.flatMap fun f => (cc m f).toList
theorem fl_cons (m : Nat) (f : Nat -> Int) (l : List (Nat -> Int)) : fl m (f :: l) = (cc m f).toList ++ fl m l := rfl
theorem fl_app (m : Nat) (l l' : List (Nat -> Int)) : fl m (l ++ l') = fl m l ++ fl m l' := by simp [fl]
theorem fl_snoc (m : Nat) (l : List (Nat -> Int)) (f : Nat -> Int) : fl m (l ++ [f]) = fl m l ++ (cc m f).toList := by simp [fl]
theorem fl_len (m : Nat) : ∀ l : List (Nat -> Int),(fl m l).length = l.length * m
  | [] => by simp [fl]
  | f :: l => by rw [fl_cons,List.length_append,fl_len m l,ccl_len,List.length_cons,Nat.succ_mul]; omega
theorem fl_at (m : Nat) : ∀ (l : List (Nat -> Int)) (i j : Nat),i < l.length -> j < m -> (fl m l)[i * m + j]? = some (.int .i64 (gf l i j))
  | [],i,_,h,_ => by simp at h
  | f :: l,0,j,_,hj => by
    rw [fl_cons,List.getElem?_append_left (by rw [ccl_len]; omega),Nat.zero_mul,Nat.zero_add,Array.getElem?_toList,cc_at m f j hj]; rfl
  | f :: l,i + 1,j,hi,hj => by
    rw [fl_cons,List.getElem?_append_right (by rw [ccl_len,Nat.succ_mul]; omega),ccl_len,gf_cons,show (i + 1) * m + j - m = i * m + j by rw [Nat.succ_mul]; omega]
    exact fl_at m l i j (by simpa using hi) hj
theorem fl_one (m : Nat) (l : List (Nat -> Int)) : ∀ v ∈ fl m l,v.oneCell' = true := by
  intro v hv
  simp only [fl,List.mem_flatMap] at hv
  obtain ⟨f,_,hf⟩ := hv
  have := cc_one m f
  rw [Array.all_eq_true_iff_forall_mem] at this
  exact this v (by simpa using hf)
def CsAt (m : Nat) (W : World) (v : Value) (n : Nat) (fs : Nat -> Nat -> Int) : Prop :=
  ∃ (oa : Option Addr) (cap : Nat),v = .slice oa n cap /\ n <= maxLen /\ (0 < n -> ∃ b off,oa = some ⟨b,off,none⟩ /\ b < W.heap.size /\ ∀ i,i < n -> ∀ j,j < m -> W.cell? ⟨b,off + i * m + j,none⟩ = some (.int .i64 (fs i j)))
theorem csAt_fs (W : World) (v : Value) (n : Nat) (fs : Nat -> Nat -> Int) : CsAt 24 W v n fs ↔ FsAt W v n fs := Iff.rfl
theorem CsAt.on {m : Nat} {W W' : World} {v : Value} {n : Nat} {fs : Nat -> Nat -> Int} (h : CsAt m W v n fs) (hb : Below W.heap.size W W') : CsAt m W' v n fs := by
  obtain ⟨oa,cap,e,hm,h⟩ := h
  refine ⟨oa,cap,e,hm,fun hn => ?_⟩
  obtain ⟨b,off,e',hlt,hc⟩ := h hn
  exact ⟨b,off,e',Nat.lt_of_lt_of_le hlt hb.size,fun i hi j hj => (hb.cell (p := ⟨b,off + i * m + j,none⟩) hlt).trans (hc i hi j hj)⟩
theorem cs_rng {m : Nat} {W : World} {b off n : Nat} {fs : Nat -> Nat -> Int} (hc : ∀ i,i < n -> ∀ j,j < m -> W.cell? ⟨b,off + i * m + j,none⟩ = some (.int .i64 (fs i j))) {k : Nat} (hk : k < n) : W.rangeAt b (off + k * m) (cc m (fs k)).toList := by
  intro j v hv
  have hj : j < m := by
    have := (List.getElem?_eq_some_iff.1 hv).1
    simpa [cc_size] using this
  have e : (cc m (fs k))[j]? = some v := by simpa using hv
  rw [cc_at _ _ j hj] at e
  rw [hc k hk j hj,e]
def OwnC (T : TypeId) (m : Nat) (w : World) (B : Nat) (v : Value) (l : List (Nat -> Int)) : Prop := w.ownsRow B T m v l.length (fl m l)
section
variable {T : TypeId} {m : Nat} {w w' : World} {B : Nat} {v : Value} {l : List (Nat -> Int)}
theorem ownC_nil (T : TypeId) (m : Nat) (w : World) (B : Nat) : OwnC T m w B (.slice none 0 0) [] := World.ownsRow_nil _ _ _ _
theorem OwnC.same (h : OwnC T m w B v l) (hg : ∀ g,v.ownBlock = some g -> w'.heap[g]? = w.heap[g]?) : OwnC T m w' B v l := by
  obtain ⟨h1,h2⟩ := h
  refine ⟨h1,?_⟩
  rcases h2 with h2 | ⟨g,cap,cur,hv,hg',hh,r⟩
  . exact Or.inl h2
  . exact Or.inr ⟨g,cap,cur,hv,hg',(hg g (by rw [hv]; rfl)).trans hh,r⟩
theorem OwnC.on (h : OwnC T m w B v l) (hb : Below w.heap.size w w') : OwnC T m w' B v l := h.same fun g hg => hb.block g (World.ownsRow.lt h g hg).2
theorem OwnC.alloc (h : OwnC T m w B v l) (o : Obj) : OwnC T m (w.alloc o) B v l := World.ownsRow.alloc h o
theorem OwnC.lt (h : OwnC T m w B v l) : ∀ k,v.ownBlock = some k -> B <= k /\ k < w.heap.size := World.ownsRow.lt h
theorem OwnC.mono {B' : Nat} (h : OwnC T m w B v l) (hB : B' <= B) : OwnC T m w B' v l := by
  obtain ⟨h1,h2⟩ := h
  refine ⟨h1,?_⟩
  rcases h2 with h2 | ⟨g,cap,cur,hv,hg',hh,r⟩
  . exact Or.inl h2
  . exact Or.inr ⟨g,cap,cur,hv,by omega,hh,r⟩
theorem OwnC.at (h : OwnC T m w B v l) (hl : l.length <= maxLen) : CsAt m w v l.length (gf l) := by
  have h0 := h
  rcases h.2 with ⟨rfl,hn⟩ | ⟨g,cap,cur,rfl,_,hg,_⟩
  . rw [hn]; exact ⟨none,0,rfl,Nat.zero_le _,fun h => absurd h (by omega)⟩
  . refine ⟨_,cap,rfl,hl,fun _ => ⟨g,0,rfl,(Array.getElem?_eq_some_iff.1 hg).1,fun i hi j hj => ?_⟩⟩
    have hlt : i * m + j < l.length * m := by
      have : (i + 1) * m <= l.length * m := Nat.mul_le_mul_right _ hi
      rw [Nat.succ_mul] at this
      omega
    rw [Nat.zero_add,World.ownsRow.cellAt h0 (i * m + j) hlt,fl_at m l i j hi hj]
theorem OwnC.form (h : OwnC T m w B v l) (hn : 0 < l.length) : ∃ g cap,v = .slice (some ⟨g,0,none⟩) l.length cap /\ B <= g /\ g < w.heap.size := by
  rcases h.2 with ⟨_,e⟩ | ⟨g,cap,cur,hv,hb,hh,_⟩
  . omega
  . exact ⟨g,cap,hv,hb,(Array.getElem?_eq_some_iff.1 hh).1⟩
end
def setL (l : List (Nat -> Int)) (i j : Nat) (x : Int) : List (Nat -> Int) := l.set i (upd (gf l i) j x)
theorem setL_len (l : List (Nat -> Int)) (i j : Nat) (x : Int) : (setL l i j x).length = l.length := by simp [setL]
theorem setL_gf (l : List (Nat -> Int)) (i j : Nat) (x : Int) (k : Nat) (hk : k < l.length) : gf (setL l i j x) k = if k = i then upd (gf l i) j x else gf l k := by
  unfold setL gf
  rw [List.getElem?_set]
  by_cases e : i = k
  . subst e; rw [if_pos rfl,if_pos hk,if_pos rfl]; rfl
  . rw [if_neg e,if_neg (fun h => e h.symm)]
theorem OwnC.stored {T : TypeId} {m : Nat} {w : World} {B g cap : Nat} {l : List (Nat -> Int)} (h : OwnC T m w B (.slice (some ⟨g,0,none⟩) l.length cap) l) (i j : Nat) (hi : i < l.length) (hj : j < m) (x : Int) :
    OwnC T m (w.setCell ⟨g,i * m + j,none⟩ (.int .i64 x)) B (.slice (some ⟨g,0,none⟩) l.length cap) (setL l i j x) /\ w.grownBy (w.setCell ⟨g,i * m + j,none⟩ (.int .i64 x)) (some g) := by
  have := World.ownsRow.stored h (i * m + j) (.int .i64 x)
  refine ⟨?_,this.2⟩
  unfold OwnC
  rw [setL_len]
  have e : fl m (setL l i j x) = (fl m l).set (i * m + j) (.int .i64 x) := by
    apply List.ext_getElem?
    intro k
    by_cases hk : k < l.length * m
    . have hm : 0 < m := by omega
      have h1 : k / m < l.length := (Nat.div_lt_iff_lt_mul hm).2 hk
      have h2 : k % m < m := Nat.mod_lt _ hm
      have e : k / m * m + k % m = k := Nat.div_add_mod' k m
      rw [List.getElem?_set]
      by_cases c : i * m + j = k
      . have q1 : k / m = i := by rw [<- c,Nat.add_comm,Nat.add_mul_div_right _ _ hm,Nat.div_eq_of_lt hj]; omega
        have q2 : k % m = j := by rw [<- c,Nat.add_comm,Nat.add_mul_mod_self_right,Nat.mod_eq_of_lt hj]
        rw [if_pos c,if_pos (by rw [fl_len,c]; exact hk),<- e,fl_at m _ _ _ (by rw [setL_len]; exact h1) h2,q1,q2,setL_gf _ _ _ _ _ hi,if_pos rfl]
        simp [upd]
      . rw [if_neg c,<- e,fl_at m _ _ _ (by rw [setL_len]; exact h1) h2,fl_at m _ _ _ h1 h2,setL_gf _ _ _ _ _ h1]
        by_cases d : k / m = i
        . rw [if_pos d]
          have : k % m ≠ j := fun d' => c (by rw [<- d,<- d']; exact e)
          simp only [upd,if_neg this,d]
        . rw [if_neg d]
    . rw [List.getElem?_eq_none (by rw [fl_len,setL_len]; omega),List.getElem?_eq_none (by rw [List.length_set,fl_len]; omega)]
  rw [e]
  exact this.1
theorem grown_drew {w w' : World} {r : Option Nat} (h : w.grownBy w' r) : w.grownBy w'.drew r := ⟨h.os,h.tape,h.output,h.size,h.block⟩
def Lv (g : Nat -> Int) (id : Int) : Prop := g 25 = 0 /\ g 0 = id
theorem dr_cells {w : World} {db : Nat} {ver : Int} {lv : Value} (hd : w.heap[db]? = some (.cells #[.int .i64 ver,lv] 192 (0,0))) : w.cell? ⟨db,0,none⟩ = some (.int .i64 ver) /\ w.cell? ⟨db,1,none⟩ = some lv := by
  refine ⟨(blk_cells hd 0).trans rfl,(blk_cells hd 1).trans rfl⟩
set_option maxHeartbeats 3200000 in
theorem end_any (db B : Nat) (ver : Int) (lv : Value) (LS : List (Nat -> Int)) (id : Int) (w : World) (hd : w.heap[db]? = some (.cells #[.int .i64 ver,lv] 192 (0,0))) (ho : OwnC 195 26 w B lv LS) (hl : LS.length <= 1000) :
    Calls Tryz.prog 143 #[.pointer (some ⟨db,0,none⟩),.int .i64 id] w fun e w' => (e = .returned (.bool false) /\ w = w' /\ ∀ i,i < LS.length -> ¬ Lv (gf LS i) id) \/
      ∃ i,i < LS.length /\ Lv (gf LS i) id /\ (∀ j,j < i -> ¬ Lv (gf LS j) id) /\ e = .returned (.bool true) /\ OwnC 195 26 w' B lv (setL LS i 25 ver) /\ w.grownBy w' lv.ownBlock := by
  obtain ⟨oa,cap,rfl,_,hc⟩ := ho.at (by unfold maxLen; omega)
  have HO := hide ho
  have HC := hide hc
  obtain ⟨d0,d1⟩ := dr_cells hd
  clear ho hc hd
  go_enter Tryz.func143,Tryz.ntmps143
  go_wp2_with fail
  go_loop [5] (fun i => ∃ k : Nat,k <= LS.length /\ i = .int .i64 k /\ Hid (∀ i,i < k -> ¬ Lv (gf LS i) id)) (fun i => LS.length - (intOf i).toNat)
  case atStart => exact ⟨0,by omega,rfl,hide (fun i hi => absurd hi (by omega))⟩
  case round =>
    obtain ⟨k,hk,rfl,hno⟩ := hrel
    by_cases hlt : k < LS.length
    . have hkn : (k : Int) < LS.length := by omega
      obtain ⟨g,cap',e,hB,hgl⟩ := (unhide HO).form (by omega)
      simp only [Value.slice.injEq,true_and] at e
      obtain ⟨rfl,rfl⟩ := e
      obtain ⟨b,off,e,_,hc0⟩ := unhide HC (by omega)
      simp only [Option.some.injEq,Addr.mk.injEq,and_true] at e
      obtain ⟨rfl,rfl⟩ := e
      have c25 := hc0 k hlt 25 (by omega)
      have c0 := hc0 k hlt 0 (by omega)
      simp only [Nat.zero_add,Nat.add_zero] at c25 c0
      have hfz := World.ownsRow.frozenAt (unhide HO) (k * 26 + 25)
      have HS := hide ((unhide HO).stored k 25 hlt (by omega) ver)
      clear hc0
      obtain ⟨G,hG⟩ : ∃ I,gf LS k 25 = I := ⟨_,rfl⟩
      obtain ⟨I,hI⟩ : ∃ I,gf LS k 0 = I := ⟨_,rfl⟩
      rw [hG] at c25
      rw [hI] at c0
      by_cases h25 : G = 0
      . by_cases h0 : I = id
        . subst h25
          subst h0
          go_wp2_with fail
          go_region
          go_wp2_with fail
          go_ret
          exact Or.inr ⟨k,hlt,⟨hG,hI⟩,unhide hno,rfl,(unhide HS).1,grown_drew (unhide HS).2⟩
        . subst h25
          go_wp2_with fail
          go_round
          case rel => exact ⟨k + 1,by omega,by go_num,hide (fun i hi => by
            by_cases e : i = k
            . subst e; intro h; exact h0 (hI.symm.trans h.2)
            . exact unhide hno i (by omega))⟩
          case measure => simp [intOf]; omega
      . go_wp2_with fail
        go_round
        case rel => exact ⟨k + 1,by omega,by go_num,hide (fun i hi => by
          by_cases e : i = k
          . subst e; intro h; exact h25 (hG.symm.trans h.1)
          . exact unhide hno i (by omega))⟩
        case measure => simp [intOf]; omega
    . have hkn : k = LS.length := by omega
      subst hkn
      go_wp2_with fail
      go_ret
      exact Or.inl ⟨rfl,rfl,unhide hno⟩
def cntL (LS : List (Nat -> Int)) : Nat -> Nat
  | 0 => 0
  | k + 1 => if gf LS k 25 = 0 then cntL LS k + 1 else cntL LS k
theorem cntL_le (LS : List (Nat -> Int)) : ∀ k,cntL LS k <= k
  | 0 => Nat.le_refl _
  | k + 1 => by rw [cntL]; have := cntL_le LS k; split <;> omega
set_option maxHeartbeats 1600000 in
theorem count_any (db B : Nat) (ver : Int) (lv : Value) (LS : List (Nat -> Int)) (w : World) (hd : w.heap[db]? = some (.cells #[.int .i64 ver,lv] 192 (0,0))) (ho : OwnC 195 26 w B lv LS) (hl : LS.length <= 1000) :
    Calls Tryz.prog 144 #[.pointer (some ⟨db,0,none⟩)] w fun e w' => e = .returned (.int .i64 (cntL LS LS.length)) /\ w = w' := by
  obtain ⟨oa,cap,rfl,_,hc⟩ := ho.at (by unfold maxLen; omega)
  have HC := hide hc
  obtain ⟨d0,d1⟩ := dr_cells hd
  clear ho hc hd
  go_enter Tryz.func144,Tryz.ntmps144
  go_wp2_with fail
  go_loop [3,4] (fun c i => ∃ k n : Nat,k <= LS.length /\ n <= k /\ i = .int .i64 k /\ c = .int .i64 n /\ Hid (n = cntL LS k)) (fun _ i => LS.length - (intOf i).toNat)
  case atStart => exact ⟨0,0,by omega,by omega,rfl,rfl,hide rfl⟩
  case round =>
    obtain ⟨k,n,hk,hnk,rfl,rfl,hn⟩ := hrel
    by_cases hlt : k < LS.length
    . have hkn : (k : Int) < LS.length := by omega
      obtain ⟨b,off,rfl,_,hc0⟩ := unhide HC (by omega)
      have c25 := hc0 k hlt 25 (by omega)
      clear hc0
      obtain ⟨G,hG⟩ : ∃ I,gf LS k 25 = I := ⟨_,rfl⟩
      rw [hG] at c25
      by_cases h25 : G = 0
      . have hn' : Hid (n + 1 = cntL LS (k + 1)) := by show n + 1 = _; rw [cntL,if_pos (hG.trans h25),unhide hn]
        subst h25
        go_wp2_with fail
        go_round
        case rel => exact ⟨k + 1,n + 1,by omega,by omega,by go_num,by go_num,hn'⟩
        case measure => simp [intOf]; omega
      . have hn' : Hid (n = cntL LS (k + 1)) := by show n = _; rw [cntL,if_neg (fun h => h25 (hG.symm.trans h)),unhide hn]
        go_wp2_with fail
        go_round
        case rel => exact ⟨k + 1,n,by omega,by omega,by go_num,rfl,hn'⟩
        case measure => simp [intOf]; omega
    . have hkn : k = LS.length := by omega
      subst hkn
      go_wp2_with fail
      go_ret
      exact ⟨ret_int (by rw [unhide hn]),rfl⟩
def Fst (LS : List (Nat -> Int)) (id : Int) (i : Nat) : Prop := i < LS.length /\ Lv (gf LS i) id /\ ∀ j,j < i -> ¬ Lv (gf LS j) id
def Non (LS : List (Nat -> Int)) (id : Int) : Prop := ∀ i,i < LS.length -> ¬ Lv (gf LS i) id
def lifeOf (f : Nat -> Int) (ver : Int) : Nat -> Int := fun j => if j < 24 then f j else if j = 24 then ver else 0
def PutR (ver : Int) (f : Nat -> Int) (LS : List (Nat -> Int)) (r : Int) (LS' : List (Nat -> Int)) : Prop :=
  (right f = false /\ r = 7 /\ LS' = LS) \/ (right f = true /\ ((∃ i,Fst LS (f 0) i /\ r = 0 /\ LS' = setL LS i 25 ver ++ [lifeOf f ver]) \/
    (Non LS (f 0) /\ 40 <= cntL LS LS.length /\ r = 11 /\ LS' = LS) \/ (Non LS (f 0) /\ cntL LS LS.length < 40 /\ r = 0 /\ LS' = LS ++ [lifeOf f ver])))
def DropR (ver : Int) (id : Int) (LS : List (Nat -> Int)) (r : Int) (LS' : List (Nat -> Int)) : Prop :=
  (∃ i,Fst LS id i /\ r = 0 /\ LS' = setL LS i 25 ver) \/ (Non LS id /\ r = 10 /\ LS' = LS)
def EditR (ver : Int) (e : Nat -> Int) (LS : List (Nat -> Int)) (r : Int) (LS' : List (Nat -> Int)) : Prop :=
  (e 0 = 0 /\ PutR ver (fun j => e (1 + j)) LS r LS') \/ (e 0 = 1 /\ DropR ver (e 1) LS r LS') \/ (e 0 ≠ 0 /\ e 0 ≠ 1 /\ r = 9 /\ LS' = LS)
theorem PutR.len {ver : Int} {f : Nat -> Int} {LS LS' : List (Nat -> Int)} {r : Int} (h : PutR ver f LS r LS') : LS'.length <= LS.length + 1 := by
  rcases h with ⟨_,_,rfl⟩ | ⟨_,⟨i,_,_,rfl⟩ | ⟨_,_,_,rfl⟩ | ⟨_,_,_,rfl⟩⟩
  . omega
  . simp [setL_len]
  . omega
  . simp
theorem DropR.len {ver id : Int} {LS LS' : List (Nat -> Int)} {r : Int} (h : DropR ver id LS r LS') : LS'.length <= LS.length + 1 := by
  rcases h with ⟨i,_,_,rfl⟩ | ⟨_,_,rfl⟩
  . simp [setL_len]
  . omega
theorem EditR.len {ver : Int} {e : Nat -> Int} {LS LS' : List (Nat -> Int)} {r : Int} (h : EditR ver e LS r LS') : LS'.length <= LS.length + 1 := by
  rcases h with ⟨_,h⟩ | ⟨_,h⟩ | ⟨_,_,_,rfl⟩
  . exact h.len
  . exact h.len
  . omega
structure Dr (w : World) (db : Nat) (ver : Int) (LS : List (Nat -> Int)) (lv : Value) : Prop where
  blk : w.heap[db]? = some (.cells #[.int .i64 ver,lv] 192 (0,0))
  own : OwnC 195 26 w (db + 1) lv LS
theorem Dr.lt {w : World} {db : Nat} {ver : Int} {LS : List (Nat -> Int)} {lv : Value} (h : Dr w db ver LS lv) : db < w.heap.size := (Array.getElem?_eq_some_iff.1 h.blk).1
theorem Dr.on {w w' : World} {db : Nat} {ver : Int} {LS : List (Nat -> Int)} {lv : Value} (h : Dr w db ver LS lv) (hb : Below w.heap.size w w') : Dr w' db ver LS lv := ⟨blk_on h.blk hb,h.own.on hb⟩
set_option maxHeartbeats 1600000 in
theorem drop_any (db : Nat) (ver : Int) (lv : Value) (LS : List (Nat -> Int)) (id : Int) (w : World) (hd : Dr w db ver LS lv) (hl : LS.length <= 900) :
    Calls Tryz.prog 137 #[.pointer (some ⟨db,0,none⟩),.int .i64 id] w fun e w' => ∃ r LS' lv',e = .returned (.int .i64 r) /\ DropR ver id LS r LS' /\ Dr w' db ver LS' lv' /\ Below db w w' := by
  have E := end_any db (db + 1) ver lv LS id w hd.blk hd.own (by omega)
  have HD := hide hd
  clear hd
  go_enter Tryz.func137,Tryz.ntmps137
  go_wp2_with fail
  refine E.mono ?_
  rintro e w1 (⟨rfl,rfl,hno⟩ | ⟨i,hi,hlv,hfst,rfl,ho,hg⟩)
  . have HN := hide hno
    clear hno E
    go_wp2_with fail
    go_ret
    exact ⟨_,_,_,rfl,Or.inr ⟨unhide HN,rfl,rfl⟩,unhide HD,Below.refl _ _⟩
  . have HF := hide (And.intro hi (And.intro hlv hfst))
    have HO := hide ho
    have hb1 := (Below.refl db w).grown hg (Nat.le_of_lt (unhide HD).lt) (fun k hk => by have := ((unhide HD).own.lt k hk).1; omega)
    have hblk : w1.heap[db]? = some (.cells #[.int .i64 ver,lv] 192 (0,0)) := (hg.block db (unhide HD).lt (fun e => by have := ((unhide HD).own.lt db e.symm).1; omega)).trans (unhide HD).blk
    have HB := hide hb1
    have HK := hide hblk
    clear E hi hlv hfst ho hg hb1 hblk
    go_wp2_with fail
    go_ret
    exact ⟨_,_,_,rfl,Or.inl ⟨i,unhide HF,rfl,rfl⟩,⟨unhide HK,unhide HO⟩,unhide HB⟩
theorem built80 (f : Nat -> Int) (ver : Int) : Tryz.prog.built 195 [(0,.agg (fc f)),(1,.int .i64 ver)] = some (cc 26 (lifeOf f ver)) := by kernel_rfl
theorem run_build80 (f : Nat -> Int) (ver : Int) (A : Act) (o : Oper) (x y : Operand) (ho : o.op = .build 195 #[(0,x),(1,y)]) (hx : A.eval x = .agg (fc f)) (hy : A.eval y = .int .i64 ver) (w : World) :
    (execOp A.eval o).run Tryz.prog w = .ok (.value (.agg (cc 26 (lifeOf f ver)))) w := by
  have hb := run_build (P := Tryz.prog) w 195 #[(0,.agg (fc f)),(1,.int .i64 ver)] (cc 26 (lifeOf f ver)) (built80 f ver)
  unfold execOp
  simp [ho,hx,hy,hb]
theorem run_bs60 (ev : Operand -> Value) (o : Oper) (x : Operand) (ho : o.op = .buildSlice 130 1 #[(0,x)]) (f : Nat -> Int) (hx : ev x = .agg (cc 26 f)) (w : World) : (execOp ev o).run Tryz.prog w = .ok (.value (.slice (some ⟨w.heap.size,0,none⟩) 1 1)) (w.alloc (.cells (cc 26 f) 195)) := by
  unfold execOp
  simp only [ho]
  simp only [List.map_toArray,List.map_cons,List.map_nil,hx]
  kernel_rfl
theorem Tryz.info195 : (Tryz.prog.info? 195).map (fun i => (i.zero,i.size,i.bytes)) = some (some (.agg (cc 26 zf)),26,208) := by kernel_rfl
theorem run_ap60 (w : World) (B : Nat) (v : Value) (l news : List (Nat -> Int)) (hown : OwnC 195 26 w B v l) (b off c : Nat) (hnews : ∀ i,i < news.length -> ∀ j,j < 26 -> w.cell? ⟨b,off + i * 26 + j,none⟩ = some (.int .i64 (gf news i j)))
    (hlen : l.length + news.length <= 10000) (hB : B <= w.heap.size) :
    ∃ v' w',(Builtin.append_ #[130,130] 130 #[v,.slice (some ⟨b,off,none⟩) news.length c]).run Tryz.prog w = .ok v' w' /\ OwnC 195 26 w' B v' (l ++ news) /\ w.grownBy w' v.ownBlock := by
  obtain ⟨i0,hi,hz0,hz1,hz2⟩ := info_parts Tryz.info195
  obtain ⟨v',w',hrun,r1,r2,_⟩ := run_append_own (P := Tryz.prog) w B 130 130 195 i0 (.agg (cc 26 zf)) 26 208 Tryz.underlying130 hi hz0 hz1 hz2 (cc_size 26 zf) (by decide) v l.length (fl 26 l) hown ⟨b,off,none⟩ news.length c (fl 26 news) (fl_len 26 news)
    (fun j u hj => by
      have hlt : j < news.length * 26 := by
        have := (List.getElem?_eq_some_iff.1 hj).1
        rwa [fl_len] at this
      have h1 : j / 26 < news.length := by omega
      have e : j / 26 * 26 + j % 26 = j := by omega
      rw [<- e,fl_at 26 news _ _ h1 (by omega)] at hj
      rw [Addr.add_mid,<- Option.some.inj hj,show off + j = off + j / 26 * 26 + j % 26 by omega]
      exact hnews _ h1 _ (by omega))
    (fl_one 26 news) (by unfold maxLen; omega) (by omega) hB
  refine ⟨v',w',hrun,?_,r2⟩
  unfold OwnC
  rw [fl_app]
  simpa using r1
theorem ex_ap60 {w w' : World} {v x' v' : Value} (hr : (Builtin.append_ #[130,130] 130 #[v,x']).run Tryz.prog w = .ok v' w') (a : Act) (o : Oper) (s x : Operand) (ho : o.op = .call { callee := .builtin .append,args := #[s,x],argTypes := #[130,130] }) (ht : o.type = 130) (hs : a.eval s = v) (hx : a.eval x = x') : (execOp a.eval o).run Tryz.prog w = .ok (.value v') w' := by
  unfold execOp
  simp only [ho,resolve,invoke,builtin]
  simp [hs,hx,ht,hr,Result.andThen]
theorem t_skip {l : List Oper} {Q : Exit -> Act -> World -> Prop} {S : World -> Prop} {listed : Array Bool} {a : Act} {w : World} {fuel : Nat} {o : Oper} {rest : List Oper} (i : Nat) (hd : l.drop i = o :: rest) (hw : Region.wanted o (yielded l.toArray a.tmps) = true) (w1 : World) (h0 : (execOp a.eval o).run Tryz.prog w = .ok .skip w1) (hS : S w1)
    (h : wpAnyH Tryz.prog .any l.toArray Q S fuel (listed.setIfInBounds i true) (a.put o.dst undef) w1) :
    wpOp Tryz.prog l.toArray Q i (fun a' w' => S w' /\ wpAnyH Tryz.prog .any l.toArray Q S fuel (listed.setIfInBounds i true) a' w') a w := by
  unfold wpOp
  simp only [at_drop hd]
  rw [if_pos hw]
  left
  unfold Oper.wp
  rw [h0]
  exact ⟨hS,h⟩
theorem blk_set {w : World} {g i : Nat} {cs : Array Value} {t : TypeId} (h : w.heap[g]? = some (.cells cs t (0,0))) (v : Value) : (w.setCell ⟨g,i,none⟩ v).heap[g]? = some (.cells (cs.setIfInBounds i v) t (0,0)) := by
  simp [World.setCell,Array.getElem?_modify,h]
theorem run_ld54 (ev : Operand -> Value) (o : Oper) (x : Operand) (ho : o.op = .load 86 x) (g : Nat) (hx : ev x = .pointer (some ⟨g,0,none⟩)) (f : Nat -> Int) {w : World} (hg : w.heap[g]? = some (.cells (fc f) 86 (0,0))) : (execOp ev o).run Tryz.prog w = .ok (.value (.agg (fc f))) w := by
  have hr : w.rangeAt g 0 (fc f).toList := fun j v hv => by
    rw [blk_cells hg,Nat.zero_add]
    simpa using hv
  have h := run_loadVar_mid w g 0 86 (fc f).toList _ hr Tryz.underlying86 rfl (by rw [Array.length_toList]; exact szf f)
  unfold execOp
  simp only [ho,hx,Instr.loadAt,Instr.sureAddr,Sem.run_bind,Sem.run_pure,Result.andThen_ok,h]
theorem run_st60 (ev : Operand -> Value) (o : Oper) (x y : Operand) (ho : o.op = .store 130 x y) (db : Nat) (v : Value) (hx : ev x = .pointer (some ⟨db,1,none⟩)) (hy : ev y = v) (ver : Int) {lv : Value} {w : World} (hk : w.heap[db]? = some (.cells #[.int .i64 ver,lv] 192 (0,0))) (l : List (Nat -> Int)) {B : Nat} (hv : OwnC 195 26 w B v l) : (execOp ev o).run Tryz.prog w = .ok .skip (w.setCell ⟨db,1,none⟩ v) := by
  have hc := (dr_cells hk).2
  have hf := frz_blk hk 1
  obtain ⟨oa,n,cap,rfl⟩ : ∃ oa n cap,v = .slice oa n cap := by
    rcases hv.2 with ⟨rfl,_⟩ | ⟨g,cap,cur,rfl,_⟩
    . exact ⟨_,_,_,rfl⟩
    . exact ⟨_,_,_,rfl⟩
  unfold execOp
  simp only [ho,hx,hy]
  simp [go_sem,hc,hf]
set_option maxHeartbeats 6400000 in
theorem put_any (db : Nat) (ver : Int) (lv : Value) (LS : List (Nat -> Int)) (f : Nat -> Int) (w : World) (hd : Dr w db ver LS lv) (hl : LS.length <= 900) :
    Calls Tryz.prog 136 #[.pointer (some ⟨db,0,none⟩),.agg (fc f)] w fun e w' => ∃ r LS' lv',e = .returned (.int .i64 r) /\ PutR ver f LS r LS' /\ Dr w' db ver LS' lv' /\ Below db w w' := by
  have hg0 := heap_alloc_new w (.cells (fc f) 86 (0,0))
  have HD := hide hd
  clear hd
  cases hr : right f with
  | false =>
    go_enter Tryz.func136,Tryz.ntmps136
    go_wp2_with (refine ld26 rfl _ rfl _ rfl f hg0 ?_)
    refine (check_f hr _).mono ?_
    rintro e w1 ⟨rfl,hb1⟩
    have hb := (below_one w (.cells (fc f) 86)).trans (hb1.mono (by simp))
    have HDN := hide ((unhide HD).on hb)
    have HB := hide (hb.mono (Nat.le_of_lt (unhide HD).lt))
    clear hb1 hb
    go_wp2_with fail
    go_ret
    exact ⟨_,_,_,rfl,Or.inl ⟨hr,rfl,rfl⟩,unhide HDN,unhide HB⟩
  | true =>
    have f0 := fc_at f 0 (by decide)
    obtain ⟨I,hI⟩ : ∃ I,f 0 = I := ⟨_,rfl⟩
    rw [hI] at f0
    go_enter Tryz.func136,Tryz.ntmps136
    go_wp2_with (refine ld26 rfl _ rfl _ rfl f hg0 ?_)
    refine (check_t hr _).mono ?_
    rintro e w1 ⟨rfl,hb1⟩
    have hb := (below_one w (.cells (fc f) 86)).trans (hb1.mono (by simp))
    have hd1 := (unhide HD).on hb
    have HB1 := hide (hb.mono (Nat.le_of_lt (unhide HD).lt))
    have hg1 := blk_on hg0 hb1
    have hc1 := blk_cells hg1
    have hlw : db < w.heap.size := (unhide HD).lt
    clear hb1 hb hg0
    have E := end_any db (db + 1) ver lv LS I w1 hd1.blk hd1.own (by omega)
    have HD1 := hide hd1
    clear hd1
    go_wp2_with fail
    refine E.mono ?_
    rintro e w2 (⟨rfl,rfl,hno⟩ | ⟨i,hi,hlv,hfst,rfl,ho,hg⟩)
    . have HN := hide hno
      have C := count_any db (db + 1) ver lv LS w1 (unhide HD1).blk (unhide HD1).own (by omega)
      have hcl := cntL_le LS LS.length
      have HC := hide C
      clear hno E C
      obtain ⟨N,hN⟩ : ∃ N,cntL LS LS.length = N := ⟨_,rfl⟩
      rw [hN] at hcl
      by_cases h40 : 40 <= N
      . have h40' : (40 : Int) <= N := by omega
        go_wp2_with fail
        refine (unhide HC).mono ?_
        rintro e w9 ⟨rfl,rfl⟩
        rw [hN]
        go_wp2_with fail
        go_ret
        exact ⟨_,_,_,rfl,Or.inr ⟨hr,Or.inr (Or.inl ⟨by rw [hI]; exact unhide HN,by rw [hN]; exact h40,rfl,rfl⟩)⟩,unhide HD1,unhide HB1⟩
      . have h40' : ¬ (40 : Int) <= N := by omega
        go_wp2_with fail
        refine (unhide HC).mono ?_
        rintro e w9 ⟨rfl,rfl⟩
        rw [hN]
        go_wp2_with fail
        have HD2 := HD1
        have HB2 := HB1
        have hg2 := hg1
        have HL : Hid (LS.length <= 900) := hl
        have HPR : Hid (PutR ver f LS 0 (LS ++ [lifeOf f ver])) := Or.inr ⟨hr,Or.inr (Or.inr ⟨by rw [hI]; exact unhide HN,by rw [hN]; omega,rfl,rfl⟩)⟩
        clear hg1 hc1 h40 h40' hcl hN HC HN
        have HAP : Hid (lv.ownBlock ≠ some w.heap.size) := fun e => by have := ((unhide HD).own.lt _ e).2; omega
        have hblk := (unhide HD2).blk
        obtain ⟨dc0,dc1⟩ := dr_cells hblk
        refine wp_region_held (S := fun w' => w'.heap[w.heap.size]? = some (.cells (fc f) 86 (0,0)) /\ w'.cell? ⟨db,0,none⟩ = some (.int .i64 ver)) (by kernel_rfl) ?_
        change wpAnyH _ _ _ _ _ _ _ _ (World.drew _)
        have hS : (World.drew w1).heap[w.heap.size]? = some (.cells (fc f) 86 (0,0)) /\ (World.drew w1).cell? ⟨db,0,none⟩ = some (.int .i64 ver) := ⟨hg2,dc0⟩
        have hD3 : Dr (World.drew w1) db ver (LS) lv := ⟨hblk,(unhide HD2).own⟩
        have hB3 : Below db w (World.drew w1) := Below.drew (unhide HB2)
        have hC3 : (World.drew w1).cell? ⟨db,1,none⟩ = some lv := dc1
        generalize World.drew w1 = w5 at hS hD3 hB3 hC3 ⊢
        clear hblk dc0 dc1 HD2 HB2 hg2
        have hl5 : db + 1 <= w5.heap.size := hD3.lt
        have hA6 := heap_alloc_new w5 (.cells (cc 26 (lifeOf f ver)) 195 (0,0))
        have hS6 : (w5.alloc (.cells (cc 26 (lifeOf f ver)) 195)).heap[w.heap.size]? = some (.cells (fc f) 86 (0,0)) /\ (w5.alloc (.cells (cc 26 (lifeOf f ver)) 195)).cell? ⟨db,0,none⟩ = some (.int .i64 ver) := ⟨(Below.heap_alloc _ _ _ (Array.getElem?_eq_some_iff.1 hS.1).1).trans hS.1,(World.cell?_of_block (Below.heap_alloc _ _ _ hD3.lt)).trans hS.2⟩
        have hC6 : (w5.alloc (.cells (cc 26 (lifeOf f ver)) 195)).cell? ⟨db,1,none⟩ = some lv := (World.cell?_of_block (Below.heap_alloc _ _ _ hD3.lt)).trans hC3
        have hO6 := hD3.own.alloc (.cells (cc 26 (lifeOf f ver)) 195)
        have hK6 := (Below.heap_alloc w5 (.cells (cc 26 (lifeOf f ver)) 195) db hD3.lt).trans hD3.blk
        have hB6 := hB3.alloc (by omega) (.cells (cc 26 (lifeOf f ver)) 195)
        have APP := run_ap60 (w5.alloc (.cells (cc 26 (lifeOf f ver)) 195)) (db + 1) lv (LS) [lifeOf f ver] hO6 w5.heap.size 0 1 (fun i hi j hj => by
          obtain rfl : i = 0 := by simp at hi; omega
          rw [blk_cells hA6]
          simpa [gf] using cc_at 26 (lifeOf f ver) j hj) (by have := unhide HL; simp; omega) (by simp; omega)
        refine t_tk 0 rfl (.pointer (some ⟨db,0,none⟩)) (by kernel_rfl) (fun _ _ _ h => h) rfl (fun w' hw' => by simp [go_sem]) hS ?_
        simp only [Act.put,qA,qB,qC]
        refine t_tk 1 rfl (.pointer (some ⟨db,0,none⟩)) (by kernel_rfl) (fun _ _ _ h => h) rfl (fun w' hw' => by simp [go_sem]) hS ?_
        simp only [Act.put,qA,qB,qC]
        refine t_tk 2 rfl (.pointer (some ⟨db,0,none⟩)) (by kernel_rfl) (fun _ _ _ h => h) rfl (fun w' hw' => by simp [go_sem]) hS ?_
        simp only [Act.put,qA,qB,qC]
        refine t_tk 3 rfl (.pointer (some ⟨db,1,none⟩)) (by kernel_rfl) (fun _ _ _ h => h) rfl (fun w' hw' => by simp [go_sem]) hS ?_
        simp only [Act.put,qA,qB,qC]
        refine t_tk 5 rfl (.agg (fc f)) (by kernel_rfl) (fun _ _ _ h => h) rfl (fun w' hw' => run_ld54 _ _ _ rfl _ rfl f hw'.1) hS ?_
        simp only [Act.put,qA,qB,qC]
        refine t_tk 6 rfl (.pointer (some ⟨db,0,none⟩)) (by kernel_rfl) (fun _ _ _ h => h) rfl (fun w' hw' => by simp [go_sem]) hS ?_
        simp only [Act.put,qA,qB,qC]
        refine t_tk 7 rfl (.pointer (some ⟨db,0,none⟩)) (by kernel_rfl) (fun _ _ _ h => h) rfl (fun w' hw' => by simp [go_sem]) hS ?_
        simp only [Act.put,qA,qB,qC]
        refine t_tk 8 rfl (.pointer (some ⟨db,0,none⟩)) (by kernel_rfl) (fun _ _ _ h => h) rfl (fun w' hw' => by simp [go_sem]) hS ?_
        simp only [Act.put,qA,qB,qC]
        refine t_tk 9 rfl (.int .i64 ver) (by kernel_rfl) (fun _ _ _ h => h) rfl (fun w' hw' => by simp [go_sem,hw'.2]) hS ?_
        simp only [Act.put,qA,qB,qC]
        refine t_tk 10 rfl (.agg (cc 26 (lifeOf f ver))) (by kernel_rfl) (fun _ _ _ h => h) rfl (fun w' hw' => run_build80 f ver _ _ _ _ rfl rfl rfl w') hS ?_
        simp only [Act.put,qA,qB,qC]
        refine wpAnyH_all (rs := [4,11]) (by kernel_rfl) (by simp) ?_
        intro i hi
        simp only [List.mem_cons,List.not_mem_nil,or_false] at hi
        rcases hi with rfl | rfl
        . refine t_op 4 rfl rfl lv w5 (by simp [go_sem,hC3]) hS ?_
          simp only [Act.put,qA,qB,qC]
          refine wpAnyH_all (rs := [11]) (by kernel_rfl) (by simp) ?_
          intro i hi
          simp only [List.mem_singleton] at hi
          subst hi
          refine t_op 11 rfl rfl (.slice (some ⟨w5.heap.size,0,none⟩) 1 1) _ (run_bs60 _ _ _ rfl (lifeOf f ver) rfl w5) hS6 ?_
          simp only [Act.put,qA,qB,qC]
          obtain ⟨v7,w7,hr7,ho7,hg7⟩ := APP
          have hk7 : w7.heap[db]? = some (.cells #[.int .i64 ver,lv] 192 (0,0)) := (hg7.block db (by simp; omega) (fun e => by have := (hO6.lt db e.symm).1; omega)).trans hK6
          have hf7 : w7.heap[w.heap.size]? = some (.cells (fc f) 86 (0,0)) := (hg7.block w.heap.size (Array.getElem?_eq_some_iff.1 hS6.1).1 (fun e => unhide HAP e.symm)).trans hS6.1
          have hS7 : w7.heap[w.heap.size]? = some (.cells (fc f) 86 (0,0)) /\ w7.cell? ⟨db,0,none⟩ = some (.int .i64 ver) := ⟨hf7,(dr_cells hk7).1⟩
          have hB7 := hB6.grown hg7 (by simp; omega) (fun k hk => by have := (hO6.lt k hk).1; omega)
          refine wpAnyH_all (rs := [12]) (by kernel_rfl) (by simp) ?_
          intro i hi
          simp only [List.mem_singleton] at hi
          subst hi
          refine t_op 12 rfl rfl v7 w7 (ex_ap60 hr7 _ _ _ _ rfl rfl rfl rfl) hS7 ?_
          simp only [Act.put,qA,qB,qC]
          have hS := hS7
          refine t_tk 13 rfl (.pointer (some ⟨db,0,none⟩)) (by kernel_rfl) (fun _ _ _ h => h) rfl (fun w' hw' => by simp [go_sem]) hS ?_
          simp only [Act.put,qA,qB,qC]
          refine t_tk 14 rfl (.pointer (some ⟨db,1,none⟩)) (by kernel_rfl) (fun _ _ _ h => h) rfl (fun w' hw' => by simp [go_sem]) hS ?_
          simp only [Act.put,qA,qB,qC]
          refine wpAnyH_all (rs := [15]) (by kernel_rfl) (by simp) ?_
          intro i hi
          simp only [List.mem_singleton] at hi
          subst hi
          have hk8 : (w7.setCell ⟨db,1,none⟩ v7).heap[db]? = some (.cells #[.int .i64 ver,v7] 192 (0,0)) := blk_set hk7 v7
          have ho8 : OwnC 195 26 (w7.setCell ⟨db,1,none⟩ v7) (db + 1) v7 (LS ++ [lifeOf f ver]) := ho7.same (fun g hg => Below.heap_setCell _ _ _ _ (by have := (ho7.lt g hg).1; simp; omega))
          have hB8 := hB7.setCell (p := ⟨db,1,none⟩) (Nat.le_refl _) v7
          refine t_skip 15 rfl rfl (w7.setCell ⟨db,1,none⟩ v7) (run_st60 _ _ _ _ rfl db v7 rfl rfl ver hk7 _ ho7) ⟨(Below.heap_setCell _ _ _ _ (by simp; omega)).trans hf7,(dr_cells hk8).1⟩ ?_
          simp only [Act.put]
          refine wpAnyH_done (by kernel_rfl) ?_ _
          have HF := hide (And.intro (Dr.mk hk8 ho8) hB8)
          clear hk8 ho8 hB8 hB7 hS hS7 hf7 hk7 hr7 ho7 hg7 hA6 hS6 hC6 hO6 hK6 hB6 hD3 hB3 hC3
          go_wp2_with fail
          go_ret
          exact ⟨_,_,_,rfl,unhide HPR,(unhide HF).1,(unhide HF).2⟩
        . refine t_op 11 rfl rfl (.slice (some ⟨w5.heap.size,0,none⟩) 1 1) _ (run_bs60 _ _ _ rfl (lifeOf f ver) rfl w5) hS6 ?_
          simp only [Act.put,qA,qB,qC]
          refine wpAnyH_all (rs := [4]) (by kernel_rfl) (by simp) ?_
          intro i hi
          simp only [List.mem_singleton] at hi
          subst hi
          refine t_op 4 rfl rfl lv (w5.alloc (.cells (cc 26 (lifeOf f ver)) 195)) (by simp [go_sem,hC6]) hS6 ?_
          simp only [Act.put,qA,qB,qC]
          obtain ⟨v7,w7,hr7,ho7,hg7⟩ := APP
          have hk7 : w7.heap[db]? = some (.cells #[.int .i64 ver,lv] 192 (0,0)) := (hg7.block db (by simp; omega) (fun e => by have := (hO6.lt db e.symm).1; omega)).trans hK6
          have hf7 : w7.heap[w.heap.size]? = some (.cells (fc f) 86 (0,0)) := (hg7.block w.heap.size (Array.getElem?_eq_some_iff.1 hS6.1).1 (fun e => unhide HAP e.symm)).trans hS6.1
          have hS7 : w7.heap[w.heap.size]? = some (.cells (fc f) 86 (0,0)) /\ w7.cell? ⟨db,0,none⟩ = some (.int .i64 ver) := ⟨hf7,(dr_cells hk7).1⟩
          have hB7 := hB6.grown hg7 (by simp; omega) (fun k hk => by have := (hO6.lt k hk).1; omega)
          refine wpAnyH_all (rs := [12]) (by kernel_rfl) (by simp) ?_
          intro i hi
          simp only [List.mem_singleton] at hi
          subst hi
          refine t_op 12 rfl rfl v7 w7 (ex_ap60 hr7 _ _ _ _ rfl rfl rfl rfl) hS7 ?_
          simp only [Act.put,qA,qB,qC]
          have hS := hS7
          refine t_tk 13 rfl (.pointer (some ⟨db,0,none⟩)) (by kernel_rfl) (fun _ _ _ h => h) rfl (fun w' hw' => by simp [go_sem]) hS ?_
          simp only [Act.put,qA,qB,qC]
          refine t_tk 14 rfl (.pointer (some ⟨db,1,none⟩)) (by kernel_rfl) (fun _ _ _ h => h) rfl (fun w' hw' => by simp [go_sem]) hS ?_
          simp only [Act.put,qA,qB,qC]
          refine wpAnyH_all (rs := [15]) (by kernel_rfl) (by simp) ?_
          intro i hi
          simp only [List.mem_singleton] at hi
          subst hi
          have hk8 : (w7.setCell ⟨db,1,none⟩ v7).heap[db]? = some (.cells #[.int .i64 ver,v7] 192 (0,0)) := blk_set hk7 v7
          have ho8 : OwnC 195 26 (w7.setCell ⟨db,1,none⟩ v7) (db + 1) v7 (LS ++ [lifeOf f ver]) := ho7.same (fun g hg => Below.heap_setCell _ _ _ _ (by have := (ho7.lt g hg).1; simp; omega))
          have hB8 := hB7.setCell (p := ⟨db,1,none⟩) (Nat.le_refl _) v7
          refine t_skip 15 rfl rfl (w7.setCell ⟨db,1,none⟩ v7) (run_st60 _ _ _ _ rfl db v7 rfl rfl ver hk7 _ ho7) ⟨(Below.heap_setCell _ _ _ _ (by simp; omega)).trans hf7,(dr_cells hk8).1⟩ ?_
          simp only [Act.put]
          refine wpAnyH_done (by kernel_rfl) ?_ _
          have HF := hide (And.intro (Dr.mk hk8 ho8) hB8)
          clear hk8 ho8 hB8 hB7 hS hS7 hf7 hk7 hr7 ho7 hg7 hA6 hS6 hC6 hO6 hK6 hB6 hD3 hB3 hC3
          go_wp2_with fail
          go_ret
          exact ⟨_,_,_,rfl,unhide HPR,(unhide HF).1,(unhide HF).2⟩
    . have hd2 : Dr w2 db ver (setL LS i 25 ver) lv := ⟨(hg.block db (unhide HD1).lt (fun e => by have := ((unhide HD1).own.lt db e.symm).1; omega)).trans (unhide HD1).blk,ho⟩
      have HAP : Hid (lv.ownBlock ≠ some w.heap.size) := fun e => by have := ((unhide HD).own.lt _ e).2; omega
      have hg2 : w2.heap[w.heap.size]? = some (.cells (fc f) 86 (0,0)) := (hg.block w.heap.size (Array.getElem?_eq_some_iff.1 hg1).1 (fun e => unhide HAP e.symm)).trans hg1
      have HB2 := hide ((unhide HB1).grown hg (Nat.le_of_lt (unhide HD1).lt) (fun k hk => by have := ((unhide HD1).own.lt k hk).1; omega))
      have HD2 := hide hd2
      have HL : Hid (LS.length <= 900) := hl
      have HPR : Hid (PutR ver f LS 0 (setL LS i 25 ver ++ [lifeOf f ver])) := Or.inr ⟨hr,Or.inl ⟨i,by rw [hI]; exact ⟨hi,hlv,hfst⟩,rfl,rfl⟩⟩
      clear E hg hd2 ho hi hlv hfst hg1 hc1
      go_wp2_with fail
      have hblk := (unhide HD2).blk
      obtain ⟨dc0,dc1⟩ := dr_cells hblk
      refine wp_region_held (S := fun w' => w'.heap[w.heap.size]? = some (.cells (fc f) 86 (0,0)) /\ w'.cell? ⟨db,0,none⟩ = some (.int .i64 ver)) (by kernel_rfl) ?_
      change wpAnyH _ _ _ _ _ _ _ _ (World.drew _)
      have hS : (World.drew w2).heap[w.heap.size]? = some (.cells (fc f) 86 (0,0)) /\ (World.drew w2).cell? ⟨db,0,none⟩ = some (.int .i64 ver) := ⟨hg2,dc0⟩
      have hD3 : Dr (World.drew w2) db ver (setL LS i 25 ver) lv := ⟨hblk,(unhide HD2).own⟩
      have hB3 : Below db w (World.drew w2) := Below.drew (unhide HB2)
      have hC3 : (World.drew w2).cell? ⟨db,1,none⟩ = some lv := dc1
      generalize World.drew w2 = w5 at hS hD3 hB3 hC3 ⊢
      clear hblk dc0 dc1 HD2 HB2 hg2
      have hl5 : db + 1 <= w5.heap.size := hD3.lt
      have hA6 := heap_alloc_new w5 (.cells (cc 26 (lifeOf f ver)) 195 (0,0))
      have hS6 : (w5.alloc (.cells (cc 26 (lifeOf f ver)) 195)).heap[w.heap.size]? = some (.cells (fc f) 86 (0,0)) /\ (w5.alloc (.cells (cc 26 (lifeOf f ver)) 195)).cell? ⟨db,0,none⟩ = some (.int .i64 ver) := ⟨(Below.heap_alloc _ _ _ (Array.getElem?_eq_some_iff.1 hS.1).1).trans hS.1,(World.cell?_of_block (Below.heap_alloc _ _ _ hD3.lt)).trans hS.2⟩
      have hC6 : (w5.alloc (.cells (cc 26 (lifeOf f ver)) 195)).cell? ⟨db,1,none⟩ = some lv := (World.cell?_of_block (Below.heap_alloc _ _ _ hD3.lt)).trans hC3
      have hO6 := hD3.own.alloc (.cells (cc 26 (lifeOf f ver)) 195)
      have hK6 := (Below.heap_alloc w5 (.cells (cc 26 (lifeOf f ver)) 195) db hD3.lt).trans hD3.blk
      have hB6 := hB3.alloc (by omega) (.cells (cc 26 (lifeOf f ver)) 195)
      have APP := run_ap60 (w5.alloc (.cells (cc 26 (lifeOf f ver)) 195)) (db + 1) lv (setL LS i 25 ver) [lifeOf f ver] hO6 w5.heap.size 0 1 (fun i hi j hj => by
        obtain rfl : i = 0 := by simp at hi; omega
        rw [blk_cells hA6]
        simpa [gf] using cc_at 26 (lifeOf f ver) j hj) (by have := unhide HL; simp [setL_len]; omega) (by simp; omega)
      refine t_tk 0 rfl (.pointer (some ⟨db,0,none⟩)) (by kernel_rfl) (fun _ _ _ h => h) rfl (fun w' hw' => by simp [go_sem]) hS ?_
      simp only [Act.put,qA,qB,qC]
      refine t_tk 1 rfl (.pointer (some ⟨db,0,none⟩)) (by kernel_rfl) (fun _ _ _ h => h) rfl (fun w' hw' => by simp [go_sem]) hS ?_
      simp only [Act.put,qA,qB,qC]
      refine t_tk 2 rfl (.pointer (some ⟨db,0,none⟩)) (by kernel_rfl) (fun _ _ _ h => h) rfl (fun w' hw' => by simp [go_sem]) hS ?_
      simp only [Act.put,qA,qB,qC]
      refine t_tk 3 rfl (.pointer (some ⟨db,1,none⟩)) (by kernel_rfl) (fun _ _ _ h => h) rfl (fun w' hw' => by simp [go_sem]) hS ?_
      simp only [Act.put,qA,qB,qC]
      refine t_tk 5 rfl (.agg (fc f)) (by kernel_rfl) (fun _ _ _ h => h) rfl (fun w' hw' => run_ld54 _ _ _ rfl _ rfl f hw'.1) hS ?_
      simp only [Act.put,qA,qB,qC]
      refine t_tk 6 rfl (.pointer (some ⟨db,0,none⟩)) (by kernel_rfl) (fun _ _ _ h => h) rfl (fun w' hw' => by simp [go_sem]) hS ?_
      simp only [Act.put,qA,qB,qC]
      refine t_tk 7 rfl (.pointer (some ⟨db,0,none⟩)) (by kernel_rfl) (fun _ _ _ h => h) rfl (fun w' hw' => by simp [go_sem]) hS ?_
      simp only [Act.put,qA,qB,qC]
      refine t_tk 8 rfl (.pointer (some ⟨db,0,none⟩)) (by kernel_rfl) (fun _ _ _ h => h) rfl (fun w' hw' => by simp [go_sem]) hS ?_
      simp only [Act.put,qA,qB,qC]
      refine t_tk 9 rfl (.int .i64 ver) (by kernel_rfl) (fun _ _ _ h => h) rfl (fun w' hw' => by simp [go_sem,hw'.2]) hS ?_
      simp only [Act.put,qA,qB,qC]
      refine t_tk 10 rfl (.agg (cc 26 (lifeOf f ver))) (by kernel_rfl) (fun _ _ _ h => h) rfl (fun w' hw' => run_build80 f ver _ _ _ _ rfl rfl rfl w') hS ?_
      simp only [Act.put,qA,qB,qC]
      refine wpAnyH_all (rs := [4,11]) (by kernel_rfl) (by simp) ?_
      intro i hi
      simp only [List.mem_cons,List.not_mem_nil,or_false] at hi
      rcases hi with rfl | rfl
      . refine t_op 4 rfl rfl lv w5 (by simp [go_sem,hC3]) hS ?_
        simp only [Act.put,qA,qB,qC]
        refine wpAnyH_all (rs := [11]) (by kernel_rfl) (by simp) ?_
        intro i hi
        simp only [List.mem_singleton] at hi
        subst hi
        refine t_op 11 rfl rfl (.slice (some ⟨w5.heap.size,0,none⟩) 1 1) _ (run_bs60 _ _ _ rfl (lifeOf f ver) rfl w5) hS6 ?_
        simp only [Act.put,qA,qB,qC]
        obtain ⟨v7,w7,hr7,ho7,hg7⟩ := APP
        have hk7 : w7.heap[db]? = some (.cells #[.int .i64 ver,lv] 192 (0,0)) := (hg7.block db (by simp; omega) (fun e => by have := (hO6.lt db e.symm).1; omega)).trans hK6
        have hf7 : w7.heap[w.heap.size]? = some (.cells (fc f) 86 (0,0)) := (hg7.block w.heap.size (Array.getElem?_eq_some_iff.1 hS6.1).1 (fun e => unhide HAP e.symm)).trans hS6.1
        have hS7 : w7.heap[w.heap.size]? = some (.cells (fc f) 86 (0,0)) /\ w7.cell? ⟨db,0,none⟩ = some (.int .i64 ver) := ⟨hf7,(dr_cells hk7).1⟩
        have hB7 := hB6.grown hg7 (by simp; omega) (fun k hk => by have := (hO6.lt k hk).1; omega)
        refine wpAnyH_all (rs := [12]) (by kernel_rfl) (by simp) ?_
        intro i hi
        simp only [List.mem_singleton] at hi
        subst hi
        refine t_op 12 rfl rfl v7 w7 (ex_ap60 hr7 _ _ _ _ rfl rfl rfl rfl) hS7 ?_
        simp only [Act.put,qA,qB,qC]
        have hS := hS7
        refine t_tk 13 rfl (.pointer (some ⟨db,0,none⟩)) (by kernel_rfl) (fun _ _ _ h => h) rfl (fun w' hw' => by simp [go_sem]) hS ?_
        simp only [Act.put,qA,qB,qC]
        refine t_tk 14 rfl (.pointer (some ⟨db,1,none⟩)) (by kernel_rfl) (fun _ _ _ h => h) rfl (fun w' hw' => by simp [go_sem]) hS ?_
        simp only [Act.put,qA,qB,qC]
        refine wpAnyH_all (rs := [15]) (by kernel_rfl) (by simp) ?_
        intro i hi
        simp only [List.mem_singleton] at hi
        subst hi
        have hk8 : (w7.setCell ⟨db,1,none⟩ v7).heap[db]? = some (.cells #[.int .i64 ver,v7] 192 (0,0)) := blk_set hk7 v7
        have ho8 : OwnC 195 26 (w7.setCell ⟨db,1,none⟩ v7) (db + 1) v7 (setL LS i 25 ver ++ [lifeOf f ver]) := ho7.same (fun g hg => Below.heap_setCell _ _ _ _ (by have := (ho7.lt g hg).1; simp; omega))
        have hB8 := hB7.setCell (p := ⟨db,1,none⟩) (Nat.le_refl _) v7
        refine t_skip 15 rfl rfl (w7.setCell ⟨db,1,none⟩ v7) (run_st60 _ _ _ _ rfl db v7 rfl rfl ver hk7 _ ho7) ⟨(Below.heap_setCell _ _ _ _ (by simp; omega)).trans hf7,(dr_cells hk8).1⟩ ?_
        simp only [Act.put]
        refine wpAnyH_done (by kernel_rfl) ?_ _
        have HF := hide (And.intro (Dr.mk hk8 ho8) hB8)
        clear hk8 ho8 hB8 hB7 hS hS7 hf7 hk7 hr7 ho7 hg7 hA6 hS6 hC6 hO6 hK6 hB6 hD3 hB3 hC3
        go_wp2_with fail
        go_ret
        exact ⟨_,_,_,rfl,unhide HPR,(unhide HF).1,(unhide HF).2⟩
      . refine t_op 11 rfl rfl (.slice (some ⟨w5.heap.size,0,none⟩) 1 1) _ (run_bs60 _ _ _ rfl (lifeOf f ver) rfl w5) hS6 ?_
        simp only [Act.put,qA,qB,qC]
        refine wpAnyH_all (rs := [4]) (by kernel_rfl) (by simp) ?_
        intro i hi
        simp only [List.mem_singleton] at hi
        subst hi
        refine t_op 4 rfl rfl lv (w5.alloc (.cells (cc 26 (lifeOf f ver)) 195)) (by simp [go_sem,hC6]) hS6 ?_
        simp only [Act.put,qA,qB,qC]
        obtain ⟨v7,w7,hr7,ho7,hg7⟩ := APP
        have hk7 : w7.heap[db]? = some (.cells #[.int .i64 ver,lv] 192 (0,0)) := (hg7.block db (by simp; omega) (fun e => by have := (hO6.lt db e.symm).1; omega)).trans hK6
        have hf7 : w7.heap[w.heap.size]? = some (.cells (fc f) 86 (0,0)) := (hg7.block w.heap.size (Array.getElem?_eq_some_iff.1 hS6.1).1 (fun e => unhide HAP e.symm)).trans hS6.1
        have hS7 : w7.heap[w.heap.size]? = some (.cells (fc f) 86 (0,0)) /\ w7.cell? ⟨db,0,none⟩ = some (.int .i64 ver) := ⟨hf7,(dr_cells hk7).1⟩
        have hB7 := hB6.grown hg7 (by simp; omega) (fun k hk => by have := (hO6.lt k hk).1; omega)
        refine wpAnyH_all (rs := [12]) (by kernel_rfl) (by simp) ?_
        intro i hi
        simp only [List.mem_singleton] at hi
        subst hi
        refine t_op 12 rfl rfl v7 w7 (ex_ap60 hr7 _ _ _ _ rfl rfl rfl rfl) hS7 ?_
        simp only [Act.put,qA,qB,qC]
        have hS := hS7
        refine t_tk 13 rfl (.pointer (some ⟨db,0,none⟩)) (by kernel_rfl) (fun _ _ _ h => h) rfl (fun w' hw' => by simp [go_sem]) hS ?_
        simp only [Act.put,qA,qB,qC]
        refine t_tk 14 rfl (.pointer (some ⟨db,1,none⟩)) (by kernel_rfl) (fun _ _ _ h => h) rfl (fun w' hw' => by simp [go_sem]) hS ?_
        simp only [Act.put,qA,qB,qC]
        refine wpAnyH_all (rs := [15]) (by kernel_rfl) (by simp) ?_
        intro i hi
        simp only [List.mem_singleton] at hi
        subst hi
        have hk8 : (w7.setCell ⟨db,1,none⟩ v7).heap[db]? = some (.cells #[.int .i64 ver,v7] 192 (0,0)) := blk_set hk7 v7
        have ho8 : OwnC 195 26 (w7.setCell ⟨db,1,none⟩ v7) (db + 1) v7 (setL LS i 25 ver ++ [lifeOf f ver]) := ho7.same (fun g hg => Below.heap_setCell _ _ _ _ (by have := (ho7.lt g hg).1; simp; omega))
        have hB8 := hB7.setCell (p := ⟨db,1,none⟩) (Nat.le_refl _) v7
        refine t_skip 15 rfl rfl (w7.setCell ⟨db,1,none⟩ v7) (run_st60 _ _ _ _ rfl db v7 rfl rfl ver hk7 _ ho7) ⟨(Below.heap_setCell _ _ _ _ (by simp; omega)).trans hf7,(dr_cells hk8).1⟩ ?_
        simp only [Act.put]
        refine wpAnyH_done (by kernel_rfl) ?_ _
        have HF := hide (And.intro (Dr.mk hk8 ho8) hB8)
        clear hk8 ho8 hB8 hB7 hS hS7 hf7 hk7 hr7 ho7 hg7 hA6 hS6 hC6 hO6 hK6 hB6 hD3 hB3 hC3
        go_wp2_with fail
        go_ret
        exact ⟨_,_,_,rfl,unhide HPR,(unhide HF).1,(unhide HF).2⟩
theorem ec_F (e : Nat -> Int) {w : World} {b : Nat} (h : w.heap[b]? = some (.cells (cc 25 e) 90 (0,0))) : w.rangeAt b 1 (fc fun j => e (1 + j)).toList := by
  intro j v hv
  have hj : j < 24 := by
    have := (List.getElem?_eq_some_iff.1 hv).1
    simpa [fc_size] using this
  have q : (fc fun j => e (1 + j))[j]? = some v := by simpa using hv
  rw [fc_at _ j hj] at q
  rw [blk_cells h,cc_at 25 e (1 + j) (by omega),q]
set_option maxHeartbeats 1600000 in
theorem edit_any (db : Nat) (ver : Int) (lv : Value) (LS : List (Nat -> Int)) (e : Nat -> Int) (w : World) (hd : Dr w db ver LS lv) (hl : LS.length <= 900) :
    Calls Tryz.prog 125 #[.pointer (some ⟨db,0,none⟩),.agg (cc 25 e)] w fun en w' => ∃ r LS' lv',en = .returned (.int .i64 r) /\ EditR ver e LS r LS' /\ Dr w' db ver LS' lv' /\ Below db w w' := by
  have hg0 := heap_alloc_new w (.cells (cc 25 e) 90 (0,0))
  have e0 := cc_at 25 e 0 (by decide)
  have e1 := cc_at 25 e 1 (by decide)
  have hrg := ec_F e hg0
  have hb := below_one w (.cells (cc 25 e) 90)
  have hdb := Nat.le_of_lt hd.lt
  have hd1 := hd.on hb
  have HB := hide (hb.mono hdb)
  have HD1 := hide hd1
  have PA := put_any db ver lv LS (fun j => e (1 + j)) _ hd1 hl
  obtain ⟨O,hO⟩ : ∃ O,e 0 = O := ⟨_,rfl⟩
  obtain ⟨I,hI⟩ : ∃ O,e 1 = O := ⟨_,rfl⟩
  rw [hO] at e0
  rw [hI] at e1
  have DA := drop_any db ver lv LS I _ hd1 hl
  clear hd hd1 hb
  by_cases h0 : O = 0
  . subst h0
    go_enter Tryz.func125,Tryz.ntmps125
    go_wp2_with (refine ldm26 rfl _ rfl w.heap.size 1 rfl _ hrg ?_)
    refine PA.mono ?_
    rintro en w1 ⟨r,LS',lv',rfl,hP,hD,hb1⟩
    have H := hide (And.intro hP (And.intro hD ((unhide HB).trans hb1)))
    clear hP hD hb1 DA
    go_wp2_with fail
    go_ret
    exact ⟨_,_,_,rfl,Or.inl ⟨hO,(unhide H).1⟩,(unhide H).2.1,(unhide H).2.2⟩
  . by_cases h1 : O = 1
    . subst h1
      go_enter Tryz.func125,Tryz.ntmps125
      go_wp2_with fail
      refine DA.mono ?_
      rintro en w1 ⟨r,LS',lv',rfl,hP,hD,hb1⟩
      have H := hide (And.intro hP (And.intro hD ((unhide HB).trans hb1)))
      clear hP hD hb1 PA
      go_wp2_with fail
      go_ret
      exact ⟨_,_,_,rfl,Or.inr (Or.inl ⟨hO,by rw [hI]; exact (unhide H).1⟩),(unhide H).2.1,(unhide H).2.2⟩
    . go_enter Tryz.func125,Tryz.ntmps125
      go_wp2_with fail
      go_ret
      exact ⟨_,_,_,rfl,Or.inr (Or.inr ⟨by rw [hO]; exact h0,by rw [hO]; exact h1,rfl,rfl⟩),unhide HD1,unhide HB⟩
def AppK (ver : Int) (es : Nat -> Nat -> Int) (LS : List (Nat -> Int)) : Nat -> List (Nat -> Int) -> Prop
  | 0,LS' => LS' = LS
  | k + 1,LS' => ∃ LSm,AppK ver es LS k LSm /\ EditR ver (es k) LSm 0 LS'
theorem AppK.len {ver : Int} {es : Nat -> Nat -> Int} {LS : List (Nat -> Int)} : ∀ {k : Nat} {LS' : List (Nat -> Int)},AppK ver es LS k LS' -> LS'.length <= LS.length + k
  | 0,_,h => by rw [show _ = LS from h]; omega
  | k + 1,_,h => by
    obtain ⟨LSm,h1,h2⟩ := h
    have := h1.len
    have := h2.len
    omega
theorem sz56 (f : Nat -> Int) : (Tryz.prog.info? 90).map (·.size) = some (cc 25 f).size := by rw [cc_size]; kernel_rfl
theorem ldm56 {ops : Array Oper} {rest : List Oper} {o : Oper} {a : Act} {w : World} {Q : Exit -> Act -> World -> Prop} (hw : Region.wanted o (yielded ops a.tmps) = true) (x : Operand) (ho : o.op = .load 90 x)
    (b off : Nat) (hx : a.eval x = .pointer (some ⟨b,off,none⟩)) (f : Nat -> Int) (hc : w.rangeAt b off (cc 25 f).toList)
    (h : wpList Tryz.prog ops Q rest (a.put o.dst (.agg (cc 25 f))) w) : wpList Tryz.prog ops Q (o :: rest) a w := by
  unfold wpList
  rw [if_pos hw]
  exact Or.inl (wp_load_mid 90 x ho b off hx (cc 25 f).toList _ hc Tryz.underlying90 rfl (by rw [Array.length_toList]; exact sz56 f) h)
theorem run_ap60_nil (w : World) : (Builtin.append_ #[130,130] 130 #[.slice none 0 0,.slice none 0 0]).run Tryz.prog w = .ok (.slice none 0 0) w := by kernel_rfl
theorem run_ap60s (w : World) (B : Nat) (sl : Value) (LS : List (Nat -> Int)) {Bs : Nat} (ho : OwnC 195 26 w Bs sl LS) (hl : LS.length <= 1000) (hB : B <= w.heap.size) :
    ∃ v' w',(Builtin.append_ #[130,130] 130 #[.slice none 0 0,sl]).run Tryz.prog w = .ok v' w' /\ OwnC 195 26 w' B v' LS /\ w.grownBy w' none := by
  have h0 := ho
  rcases ho.2 with ⟨rfl,hn⟩ | ⟨g,cap,cur,rfl,_,hg,_⟩
  . obtain rfl : LS = [] := List.eq_nil_of_length_eq_zero hn
    exact ⟨_,_,run_ap60_nil w,ownC_nil _ _ _ _,World.grownBy.refl _ _⟩
  . obtain ⟨v',w',r1,r2,r3⟩ := run_ap60 w B (.slice none 0 0) [] LS (ownC_nil _ _ _ _) g 0 cap (fun i hi j hj => by
      have hlt : i * 26 + j < LS.length * 26 := by omega
      rw [Nat.zero_add,World.ownsRow.cellAt h0 (i * 26 + j) hlt,fl_at 26 LS i j hi hj]) (by simp; omega) hB
    exact ⟨v',w',r1,by simpa using r2,r3⟩
def ApR (sb : Nat) (keep ver : Int) (pv : Value) (LS : List (Nat -> Int)) (n : Nat) (es : Nat -> Nat -> Int) (w : World) (e : Ending) (w' : World) : Prop :=
  (n = 0 /\ e = .returned (.tuple #[.int .i64 0,.int .i64 8]) /\ Below w.heap.size w w') \/ (0 < n /\ 100 <= ver /\ e = .returned (.tuple #[.int .i64 0,.int .i64 11]) /\ Below w.heap.size w w') \/
  (0 < n /\ ver < 100 /\ ∃ k LSk,AppK (ver + 1) es LS k LSk /\
    ((k = n /\ e = .returned (.tuple #[.int .i64 (ver + 1),.int .i64 0]) /\ w.grownBy w' (some sb) /\ ∃ sl',w'.heap[sb]? = some (.cells #[.int .i64 keep,.int .i64 (ver + 1),sl',pv] 133 (0,0)) /\ OwnC 195 26 w' w.heap.size sl' LSk) \/
     (k < n /\ ∃ r LS',EditR (ver + 1) (es k) LSk r LS' /\ r ≠ 0 /\ e = .returned (.tuple #[.int .i64 0,.int .i64 r]) /\ Below w.heap.size w w')))
set_option maxHeartbeats 6400000 in
theorem Apply_any (sb : Nat) (keep ver : Int) (sl pv : Value) (LS : List (Nat -> Int)) (v : Value) (n : Nat) (es : Nat -> Nat -> Int) (w : World) (hs : w.heap[sb]? = some (.cells #[.int .i64 keep,.int .i64 ver,sl,pv] 133 (0,0)))
    (ho : OwnC 195 26 w (sb + 1) sl LS) (hl : LS.length <= 800) (hv : CsAt 25 w v n es) (hn : n <= 8) (hver : 0 <= ver /\ ver <= 100) :
    Calls Tryz.prog 102 #[.pointer (some ⟨sb,0,none⟩),v] w fun e w' => ApR sb keep ver pv LS n es w e w' := by
  obtain ⟨oa,cap,rfl,_,hc⟩ := hv
  have HC := hide hc
  have hlt : sb < w.heap.size := (Array.getElem?_eq_some_iff.1 hs).1
  have s1 := (blk_cells hs 1).trans (show _ = some (Value.int .i64 ver) from rfl)
  have HS := hide hs
  have HO := hide ho
  clear hs ho hc
  by_cases h0 : n = 0
  . have H : ApR sb keep ver pv LS n es w (.returned (.tuple #[.int .i64 0,.int .i64 8])) w := Or.inl ⟨h0,rfl,Below.refl _ _⟩
    have HH := hide H
    subst h0
    clear H
    go_enter Tryz.func102,Tryz.ntmps102
    go_wp2_with fail
    go_ret2
    exact unhide HH
  . have h1 : ¬ (n : Int) < 1 := by omega
    have h8 : ¬ (8 : Int) < n := by omega
    by_cases h100 : 100 <= ver
    . have HH : Hid (ApR sb keep ver pv LS n es w (.returned (.tuple #[.int .i64 0,.int .i64 11])) w) := Or.inr (Or.inl ⟨by omega,h100,rfl,Below.refl _ _⟩)
      go_enter Tryz.func102,Tryz.ntmps102
      go_wp2_with fail
      go_ret2
      exact unhide HH
    . obtain ⟨V,hV⟩ : ∃ V,ver + 1 = V := ⟨_,rfl⟩
      have hVr : 1 <= V /\ V <= 100 := by omega
      have hw : IntKind.i64.wrap (ver + 1) = V := by rw [hV]; exact i64_in _ (by omega)
      have hw' : wrap64 (ver + 1) = V := by rw [hV]; exact IntWalk.wrap64_in _ ⟨by omega,by omega⟩
      have HVE := hide hV
      clear hV
      have hvl : ¬ (100 : Int) <= ver := by omega
      go_enter Tryz.func102,Tryz.ntmps102
      go_wp2_with fail
      have hA := heap_alloc_new w (.cells #[.int .i64 V,.slice none 0 0] 192 (0,0))
      have hB := below_one w (.cells #[.int .i64 V,.slice none 0 0] 192)
      have hs2 := blk_on (unhide HS) hB
      have ho2 := (unhide HO).on hB
      refine wp_region_held (S := fun w' => w'.heap[sb]? = some (.cells #[.int .i64 keep,.int .i64 ver,sl,pv] 133 (0,0))) (by kernel_rfl) ?_
      change wpAnyH _ _ _ _ _ _ _ _ (World.drew _)
      have hS : (World.drew (w.alloc (.cells #[.int .i64 V,.slice none 0 0] 192))).heap[sb]? = some (.cells #[.int .i64 keep,.int .i64 ver,sl,pv] 133 (0,0)) := hs2
      have hk : (World.drew (w.alloc (.cells #[.int .i64 V,.slice none 0 0] 192))).heap[w.heap.size]? = some (.cells #[.int .i64 V,.slice none 0 0] 192 (0,0)) := hA
      have ho3 : OwnC 195 26 (World.drew (w.alloc (.cells #[.int .i64 V,.slice none 0 0] 192))) (sb + 1) sl LS := ho2
      have hB3 : Below w.heap.size w (World.drew (w.alloc (.cells #[.int .i64 V,.slice none 0 0] 192))) := Below.drew hB
      have hz3 : (World.drew (w.alloc (.cells #[.int .i64 V,.slice none 0 0] 192))).heap.size = w.heap.size + 1 := by simp [World.drew]
      generalize World.drew (w.alloc (.cells #[.int .i64 V,.slice none 0 0] 192)) = w3 at hS hk ho3 hB3 hz3 ⊢
      clear hA hB hs2 ho2
      obtain ⟨k0,k1⟩ := dr_cells hk
      obtain ⟨v4,w4,hr4,ho4,hg4⟩ := run_ap60s w3 (w.heap.size + 1) sl LS ho3 (by omega) (by omega)
      have hS4 : w4.heap[sb]? = some (.cells #[.int .i64 keep,.int .i64 ver,sl,pv] 133 (0,0)) := (hg4.block sb (by omega) (by simp)).trans hS
      have hk4 : w4.heap[w.heap.size]? = some (.cells #[.int .i64 V,.slice none 0 0] 192 (0,0)) := (hg4.block w.heap.size (by omega) (by simp)).trans hk
      have hB4 := hB3.grown hg4 (by omega) (fun k hk => by cases hk)
      refine t_tk 0 rfl (.pointer (some ⟨w.heap.size,1,none⟩)) (by kernel_rfl) (fun _ _ _ h => h) rfl (fun w' hw' => by simp [go_sem]) hS ?_
      simp only [Act.put,qA,qB,qC]
      refine t_tk 2 rfl (.pointer (some ⟨sb,0,none⟩)) (by kernel_rfl) (fun _ _ _ h => h) rfl (fun w' hw' => by simp [go_sem]) hS ?_
      simp only [Act.put,qA,qB,qC]
      refine t_tk 3 rfl (.pointer (some ⟨sb,0,none⟩)) (by kernel_rfl) (fun _ _ _ h => h) rfl (fun w' hw' => by simp [go_sem]) hS ?_
      simp only [Act.put,qA,qB,qC]
      refine t_tk 4 rfl (.pointer (some ⟨sb,2,none⟩)) (by kernel_rfl) (fun _ _ _ h => h) rfl (fun w' hw' => by simp [go_sem]) hS ?_
      simp only [Act.put,qA,qB,qC]
      refine t_tk 5 rfl (sl) (by kernel_rfl) (fun _ _ _ h => h) rfl (fun w' hw' => by simp [go_sem,(blk_cells hw' 2).trans (show _ = some sl from rfl)]) hS ?_
      simp only [Act.put,qA,qB,qC]
      refine wpAnyH_all (rs := [1]) (by kernel_rfl) (by simp) ?_
      intro i hi
      simp only [List.mem_singleton] at hi
      subst hi
      refine t_op 1 rfl rfl (.slice none 0 0) w3 (by simp [go_sem,k1]) hS ?_
      simp only [Act.put,qA,qB,qC]
      refine wpAnyH_all (rs := [6]) (by kernel_rfl) (by simp) ?_
      intro i hi
      simp only [List.mem_singleton] at hi
      subst hi
      refine t_op 6 rfl rfl v4 w4 (ex_ap60 hr4 _ _ _ _ rfl rfl rfl rfl) hS4 ?_
      simp only [Act.put,qA,qB,qC]
      have hS := hS4
      refine t_tk 7 rfl (.pointer (some ⟨w.heap.size,1,none⟩)) (by kernel_rfl) (fun _ _ _ h => h) rfl (fun w' hw' => by simp [go_sem]) hS ?_
      simp only [Act.put,qA,qB,qC]
      refine wpAnyH_all (rs := [8]) (by kernel_rfl) (by simp) ?_
      intro i hi
      simp only [List.mem_singleton] at hi
      subst hi
      have hS5 := (Below.heap_setCell w4 ⟨w.heap.size,1,none⟩ v4 sb (by simp; omega)).trans hS4
      have hD5 : Dr (w4.setCell ⟨w.heap.size,1,none⟩ v4) w.heap.size V LS v4 := ⟨blk_set hk4 v4,ho4.same (fun g hg => Below.heap_setCell _ _ _ _ (by have := (ho4.lt g hg).1; simp; omega))⟩
      have hB5 := hB4.setCell (p := ⟨w.heap.size,1,none⟩) (Nat.le_refl _) v4
      refine t_skip 8 rfl rfl (w4.setCell ⟨w.heap.size,1,none⟩ v4) (run_st60 _ _ _ _ rfl w.heap.size v4 rfl rfl V hk4 _ ho4) hS5 ?_
      simp only [Act.put]
      refine wpAnyH_done (by kernel_rfl) ?_ _
      have HD5 := hide hD5
      have HB5 := hide hB5
      clear hS hS4 hk4 hB4 hS5 hD5 hB5 hr4 ho4 hg4 hk k0 k1 ho3 hB3 hz3 hw hw' h1 h8 h100
      go_wp2_with fail
      go_loopw [7,8] (fun i _ wr => ∃ (k : Nat) (LSk : List (Nat -> Int)) (lv : Value),k <= n /\ i = .int .i64 k /\ Hid (AppK V es LS k LSk) /\ Hid (Dr wr w.heap.size V LSk lv) /\ Below w.heap.size w wr) (fun i _ _ => n - (intOf i).toNat)
      case atStart => exact ⟨0,LS,v4,by omega,rfl,hide rfl,HD5,unhide HB5⟩
      case round =>
        obtain ⟨k,LSk,lv,hkn,rfl,hA,hD,hb⟩ := hrel
        clear s1
        by_cases hlk : k < n
        . have hk8 : (k : Int) < n := by omega
          obtain ⟨b,off,rfl,hbl,hc0⟩ := unhide HC (by omega)
          have hrg := cs_rng (fun i hi j hj => (hb.cell (p := ⟨b,off + i * 25 + j,none⟩) hbl).trans (hc0 i hi j hj)) hlk
          have EA := edit_any w.heap.size V lv LSk (es k) wr (unhide hD) (by have := (unhide hA).len; omega)
          have HBr := hide hb
          have HEA := hide EA
          clear hc0 hb EA
          go_wp2_with (refine ldm56 rfl _ rfl b (off + k * 25) rfl (es k) hrg ?_)
          refine (unhide HEA).mono ?_
          rintro en w6 ⟨r,LS6,lv6,rfl,hE,hD6,hb6⟩
          have HE := hide hE
          have HD6 := hide hD6
          have HB6 := hide ((unhide HBr).trans hb6)
          clear hE hD6 hb6 hrg HEA
          by_cases hr : r = 0
          . subst hr
            go_wp2_with fail
            go_roundw
            case rel => exact ⟨k + 1,LS6,lv6,by omega,by go_num,hide ⟨LSk,unhide hA,unhide HE⟩,HD6,unhide HB6⟩
            case measure => simp [intOf]; omega
          . have HH : Hid (ApR sb keep ver pv LS n es w (.returned (.tuple #[.int .i64 0,.int .i64 r])) w6) := Or.inr (Or.inr ⟨by omega,by omega,k,LSk,by rw [unhide HVE]; exact unhide hA,Or.inr ⟨hlk,r,LS6,by rw [unhide HVE]; exact unhide HE,hr,rfl,unhide HB6⟩⟩)
            go_wp2_with fail
            go_ret2
            exact unhide HH
        . have hkn : k = n := by omega
          subst hkn
          have hdk := (unhide hD).blk
          have hsr := (hb.block sb hlt).trans (unhide HS)
          obtain ⟨d0,d1⟩ := dr_cells hdk
          obtain ⟨oa2,n2,cap2,hlv⟩ : ∃ oa n cap,lv = .slice oa n cap := by
            rcases (unhide hD).own.2 with ⟨h,_⟩ | ⟨g,cap,cur,h,_⟩
            . exact ⟨_,_,_,h⟩
            . exact ⟨_,_,_,h⟩
          subst hlv
          have q1 := blk_set (i := 2) hsr (.slice oa2 n2 cap2)
          have q2 := blk_set (i := 1) q1 (.int .i64 V)
          have fz1 := frz_blk hsr
          have fz2 := frz_blk q1
          have ce1 := (blk_cells hsr 2).trans (show _ = some sl from rfl)
          have ce2 := (blk_cells q1 1).trans (show _ = some (Value.int .i64 ver) from rfl)
          have ce3 := (blk_cells q2 1).trans (show _ = some (Value.int .i64 V) from rfl)
          have d0' := (World.cell?_of_block (a := ⟨w.heap.size,0,none⟩) (Below.heap_setCell wr ⟨sb,2,none⟩ (.slice oa2 n2 cap2) w.heap.size (by simp; omega))).trans d0
          have hown : OwnC 195 26 ((wr.setCell ⟨sb,2,none⟩ (.slice oa2 n2 cap2)).setCell ⟨sb,1,none⟩ (.int .i64 V)) w.heap.size (.slice oa2 n2 cap2) LSk := ((unhide hD).own.same (fun g hg => (Below.heap_setCell _ _ _ _ (by have := ((unhide hD).own.lt g hg).1; simp; omega)).trans (Below.heap_setCell _ _ _ _ (by have := ((unhide hD).own.lt g hg).1; simp; omega)))).mono (by omega)
          have HH : Hid (ApR sb keep ver pv LS k es w (.returned (.tuple #[.int .i64 V,.int .i64 0])) ((wr.setCell ⟨sb,2,none⟩ (.slice oa2 n2 cap2)).setCell ⟨sb,1,none⟩ (.int .i64 V))) := Or.inr (Or.inr ⟨by omega,by omega,k,LSk,by rw [unhide HVE]; exact unhide hA,Or.inl ⟨rfl,by rw [unhide HVE],⟨hb.os,hb.tape,hb.output,by simpa [World.setCell] using hb.size,fun q hq hne => (Below.heap_setCell _ _ _ _ (fun e => hne (by rw [e]))).trans ((Below.heap_setCell _ _ _ _ (fun e => hne (by rw [e]))).trans (hb.block q hq))⟩,_,by rw [unhide HVE]; exact q2,hown⟩⟩)
          clear hb hdk hsr hown q1 q2
          go_wp2_with fail
          go_ret2
          exact unhide HH
def eF (e : Nat -> Int) : Nat -> Int := fun j => e (1 + j)
def editOf (o : Int) (f : Nat -> Int) : Nat -> Int := fun j => if j = 0 then o else f (j - 1)
def mkE (e : Nat -> Int) : Nat -> Int := editOf (pk (e 0) 2) (mk (eF e))
def mkEs (es : Nat -> Nat -> Int) (k : Nat) : List (Nat -> Int) := (List.range k).map fun i => mkE (es i)
theorem mkEs_succ (es : Nat -> Nat -> Int) (k : Nat) : mkEs es (k + 1) = mkEs es k ++ [mkE (es k)] := by simp [mkEs,List.range_succ]
theorem mkEs_len (es : Nat -> Nat -> Int) (k : Nat) : (mkEs es k).length = k := by simp [mkEs]
theorem gf_mkEs (es : Nat -> Nat -> Int) (k i : Nat) (h : i < k) : gf (mkEs es k) i = mkE (es i) := by simp [gf,mkEs,h]
theorem built56 (x : Int) (f : Nat -> Int) : Tryz.prog.built 90 [(0,.int .i64 x),(1,.agg (fc f))] = some (cc 25 (editOf x f)) := by kernel_rfl
theorem run_build56 (f : Nat -> Int) (z : Int) (A : Act) (o : Oper) (x y : Operand) (ho : o.op = .build 90 #[(0,x),(1,y)]) (hx : A.eval x = .int .i64 z) (hy : A.eval y = .agg (fc f)) (w : World) :
    (execOp A.eval o).run Tryz.prog w = .ok (.value (.agg (cc 25 (editOf z f)))) w := by
  have hb := run_build (P := Tryz.prog) w 90 #[(0,.int .i64 z),(1,.agg (fc f))] (cc 25 (editOf z f)) (built56 z f)
  unfold execOp
  simp [ho,hx,hy,hb]
theorem run_bsE (ev : Operand -> Value) (o : Oper) (x : Operand) (ho : o.op = .buildSlice 61 1 #[(0,x)]) (f : Nat -> Int) (hx : ev x = .agg (cc 25 f)) (w : World) : (execOp ev o).run Tryz.prog w = .ok (.value (.slice (some ⟨w.heap.size,0,none⟩) 1 1)) (w.alloc (.cells (cc 25 f) 90)) := by
  unfold execOp
  simp only [ho]
  simp only [List.map_toArray,List.map_cons,List.map_nil,hx]
  kernel_rfl
theorem Tryz.info90 : (Tryz.prog.info? 90).map (fun i => (i.zero,i.size,i.bytes)) = some (some (.agg (cc 25 zf)),25,200) := by kernel_rfl
theorem run_apE (w : World) (B : Nat) (v : Value) (l news : List (Nat -> Int)) (hown : OwnC 90 25 w B v l) (b off c : Nat) (hnews : ∀ i,i < news.length -> ∀ j,j < 25 -> w.cell? ⟨b,off + i * 25 + j,none⟩ = some (.int .i64 (gf news i j)))
    (hlen : (l.length + news.length) * 200 <= 140737488355328) (hB : B <= w.heap.size) :
    ∃ v' w',(Builtin.append_ #[61,61] 61 #[v,.slice (some ⟨b,off,none⟩) news.length c]).run Tryz.prog w = .ok v' w' /\ OwnC 90 25 w' B v' (l ++ news) /\ w.grownBy w' v.ownBlock := by
  obtain ⟨i0,hi,hz0,hz1,hz2⟩ := info_parts Tryz.info90
  obtain ⟨v',w',hrun,r1,r2,_⟩ := run_append_own (P := Tryz.prog) w B 61 61 90 i0 (.agg (cc 25 zf)) 25 200 Tryz.underlying61 hi hz0 hz1 hz2 (cc_size 25 zf) (by decide) v l.length (fl 25 l) hown ⟨b,off,none⟩ news.length c (fl 25 news) (fl_len 25 news)
    (fun j u hj => by
      have hlt : j < news.length * 25 := by
        have := (List.getElem?_eq_some_iff.1 hj).1
        rwa [fl_len] at this
      have h1 : j / 25 < news.length := by omega
      have e : j / 25 * 25 + j % 25 = j := by omega
      rw [<- e,fl_at 25 news _ _ h1 (by omega)] at hj
      rw [Addr.add_mid,<- Option.some.inj hj,show off + j = off + j / 25 * 25 + j % 25 by omega]
      exact hnews _ h1 _ (by omega))
    (fl_one 25 news) (by unfold maxLen; omega) hlen hB
  refine ⟨v',w',hrun,?_,r2⟩
  unfold OwnC
  rw [fl_app]
  simpa using r1
theorem ex_apE {w w' : World} {v x' v' : Value} (hr : (Builtin.append_ #[61,61] 61 #[v,x']).run Tryz.prog w = .ok v' w') (a : Act) (o : Oper) (s x : Operand) (ho : o.op = .call { callee := .builtin .append,args := #[s,x],argTypes := #[61,61] }) (ht : o.type = 61) (hs : a.eval s = v) (hx : a.eval x = x') : (execOp a.eval o).run Tryz.prog w = .ok (.value v') w' := by
  unfold execOp
  simp only [ho,resolve,invoke,builtin]
  simp [hs,hx,ht,hr,Result.andThen]
theorem F64_eF {e : Nat -> Int} (h : ∀ j,j < 25 -> -9223372036854775808 <= e j /\ e j <= 9223372036854775807) : F64 (eF e) := fun i hi => h (1 + i) (by omega)
theorem eF_rng {W : World} {b off n : Nat} {es : Nat -> Nat -> Int} (hc : ∀ i,i < n -> ∀ j,j < 25 -> W.cell? ⟨b,off + i * 25 + j,none⟩ = some (.int .i64 (es i j))) {k : Nat} (hk : k < n) : W.rangeAt b (off + k * 25 + 1) (fc (eF (es k))).toList := by
  intro j v hv
  have hj : j < 24 := by
    have := (List.getElem?_eq_some_iff.1 hv).1
    simpa [fc_size] using this
  have e : (fc (eF (es k)))[j]? = some v := by simpa using hv
  rw [fc_at _ j hj] at e
  have := hc k hk (1 + j) (by omega)
  rw [<- Nat.add_assoc] at this
  rw [this,<- e]
  rfl
set_option maxHeartbeats 6400000 in
theorem edits_any (v : Value) (n : Nat) (es : Nat -> Nat -> Int) (w : World) (hv : CsAt 25 w v n es) (hF : ∀ i,i < n -> ∀ j,j < 25 -> -9223372036854775808 <= es i j /\ es i j <= 9223372036854775807) :
    Calls Tryz.prog 64 #[v] w fun e w' => (∃ v',e = .returned v' /\ OwnC 90 25 w' w.heap.size v' (mkEs es (min n 8))) /\ Below w.heap.size w w' := by
  obtain ⟨oa,cap,rfl,hm,hc⟩ := hv
  have HC := hide hc
  have HF := hide hF
  clear hc hF
  go_enter Tryz.func64,Tryz.ntmps64
  go_wp2_with fail
  go_loopw [3,4] (fun xv i wr => ∃ k : Nat,k <= min n 8 /\ i = .int .i64 k /\ OwnC 90 25 wr w.heap.size xv (mkEs es k) /\ Below w.heap.size w wr) (fun _ i _ => 8 - (intOf i).toNat)
  case atStart => exact ⟨0,by omega,rfl,ownC_nil _ _ _ _,Below.refl _ _⟩
  case round =>
    obtain ⟨k,hk,rfl,hown,hb⟩ := hrel
    have hsz := hb.size
    by_cases hlt : k < n
    . have hkn : (k : Int) < n := by omega
      by_cases h40 : k < 8
      . have hk4 : (k : Int) < 8 := by omega
        obtain ⟨b,off,rfl,hbl,hc0⟩ := unhide HC (by omega)
        have hcs : ∀ i,i < n -> ∀ j,j < 25 -> wr.cell? ⟨b,off + i * 25 + j,none⟩ = some (.int .i64 (es i j)) := fun i hi j hj => (hb.cell (p := ⟨b,off + i * 25 + j,none⟩) hbl).trans (hc0 i hi j hj)
        have hrg := eF_rng hcs hlt
        have HOW := hide hown
        have HBr := hide hb
        have HC0 := hide hc0
        have PK := fun W => pick_any (es k 0) 2 W (unhide HF k hlt 0 (by omega)) (by omega)
        clear hc0 hcs hb hown
        go_wp2_with (refine ldm26 rfl _ rfl b (off + k * 25 + 1) rfl (eF (es k)) hrg ?_)
        refine (right_any (eF (es k)) _ (F64_eF (unhide HF k hlt))).mono ?_
        rintro e w2 ⟨rfl,hb2⟩
        have hA := heap_alloc_new w2 (.cells (fc zf) 86 (0,0))
        have hA1 := setRow_heap _ _ _ (fc (mk (eF (es k)))) _ _ hA
        have ho2 := ((unhide HOW).on hb2).alloc (.cells (fc zf) 86)
        have hb3 := below_setRow (below_alloc ((unhide HBr).trans (hb2.mono (unhide HBr).size)) (Nat.le_refl _) (.cells (fc zf) 86)) (Nat.le_trans hsz hb2.size) (fc (mk (eF (es k))))
        have hne2 : ∀ g,u3.ownBlock = some g -> g < w2.heap.size := fun g hg => (((unhide HOW).on hb2).lt g hg).2
        have ho3 : OwnC 90 25 ((w2.alloc (.cells (fc zf) 86)).setRow w2.heap.size (fc (mk (eF (es k))))) w.heap.size u3 (mkEs es k) :=
          ho2.same (fun g hg => setRow_other (by have := hne2 g hg; omega) _)
        have hs2 := Nat.le_trans hsz hb2.size
        clear hb2 ho2 hrg
        go_wp2_with (first | refine al26 rfl rfl w2.heap.size rfl ?_ | refine st26 rfl _ _ rfl w2.heap.size (mk (eF (es k))) rfl rfl zf hA ?_)
        refine wp_region_held (S := fun w' => w'.cell? ⟨b,off + k * 25,none⟩ = some (.int .i64 (es k 0)) /\ w'.heap[w2.heap.size]? = some (.cells (fc (mk (eF (es k)))) 86 (0,0))) (by kernel_rfl) ?_
        change wpAnyH _ _ _ _ _ _ _ _ (World.drew _)
        have hS : (World.drew ((w2.alloc (.cells (fc zf) 86)).setRow w2.heap.size (fc (mk (eF (es k)))))).cell? ⟨b,off + k * 25,none⟩ = some (.int .i64 (es k 0)) /\ (World.drew ((w2.alloc (.cells (fc zf) 86)).setRow w2.heap.size (fc (mk (eF (es k)))))).heap[w2.heap.size]? = some (.cells (fc (mk (eF (es k)))) 86 (0,0)) := ⟨(hb3.cell (p := ⟨b,off + k * 25,none⟩) hbl).trans (by simpa using unhide HC0 k hlt 0 (by omega)),hA1⟩
        have ho4 : OwnC 90 25 (World.drew ((w2.alloc (.cells (fc zf) 86)).setRow w2.heap.size (fc (mk (eF (es k)))))) w.heap.size u3 (mkEs es k) := ho3
        have hb4 : Below w.heap.size w (World.drew ((w2.alloc (.cells (fc zf) 86)).setRow w2.heap.size (fc (mk (eF (es k)))))) := Below.drew hb3
        have hz4 : w2.heap.size < (World.drew ((w2.alloc (.cells (fc zf) 86)).setRow w2.heap.size (fc (mk (eF (es k)))))).heap.size := (Array.getElem?_eq_some_iff.1 hS.2).1
        generalize World.drew ((w2.alloc (.cells (fc zf) 86)).setRow w2.heap.size (fc (mk (eF (es k))))) = w4 at hS ho4 hb4 hz4 ⊢
        clear hA hA1 hb3 ho3
        have hl4 : b < w4.heap.size := Nat.lt_of_lt_of_le hbl hb4.size
        have hA6 := heap_alloc_new w4 (.cells (cc 25 (mkE (es k))) 90 (0,0))
        have hS6 : (w4.alloc (.cells (cc 25 (mkE (es k))) 90)).cell? ⟨b,off + k * 25,none⟩ = some (.int .i64 (es k 0)) /\ (w4.alloc (.cells (cc 25 (mkE (es k))) 90)).heap[w2.heap.size]? = some (.cells (fc (mk (eF (es k)))) 86 (0,0)) := ⟨(World.cell?_of_block (Below.heap_alloc _ _ _ hl4)).trans hS.1,(Below.heap_alloc _ _ _ hz4).trans hS.2⟩
        have hO6 := ho4.alloc (.cells (cc 25 (mkE (es k))) 90)
        have hB6 := hb4.alloc hb4.size (.cells (cc 25 (mkE (es k))) 90)
        obtain ⟨v7,w7,hr7,ho7,hg7⟩ := run_apE (w4.alloc (.cells (cc 25 (mkE (es k))) 90)) w.heap.size u3 (mkEs es k) [mkE (es k)] hO6 w4.heap.size 0 1 (fun i hi j hj => by
          obtain rfl : i = 0 := by simp at hi; omega
          rw [blk_cells hA6]
          simpa [gf] using cc_at 25 (mkE (es k)) j hj) (by rw [mkEs_len]; simp; omega) (by have := hb4.size; simp; omega)
        have hS7 : w7.cell? ⟨b,off + k * 25,none⟩ = some (.int .i64 (es k 0)) /\ w7.heap[w2.heap.size]? = some (.cells (fc (mk (eF (es k)))) 86 (0,0)) := ⟨hg7.cell hS6.1 (fun e => by have := (hO6.lt b e.symm).1; omega),(hg7.block w2.heap.size (Array.getElem?_eq_some_iff.1 hS6.2).1 (fun e => by have := hne2 _ e.symm; omega)).trans hS6.2⟩
        have hB7 := hB6.grown hg7 (by have := hb4.size; simp; omega) (fun q hq => (hO6.lt q hq).1)
        refine t_tk 0 rfl (u3) (by kernel_rfl) (fun _ _ _ h => h) rfl (fun w' hw' => by simp [go_sem]) hS ?_
        simp only [Act.put,qA,qB,qC]
        refine t_tk 1 rfl (.slice (some ⟨b,off,none⟩) n cap) (by kernel_rfl) (fun _ _ _ h => h) rfl (fun w' hw' => by simp [go_sem]) hS ?_
        simp only [Act.put,qA,qB,qC]
        refine t_tk 2 rfl (.int .i64 k) (by kernel_rfl) (fun _ _ _ h => h) rfl (fun w' hw' => by simp [go_sem]) hS ?_
        simp only [Act.put,qA,qB,qC]
        refine t_tk 3 rfl (.pointer (some ⟨b,off + k * 25,none⟩)) (by kernel_rfl) (fun _ _ _ h => h) rfl (fun w' hw' => by simp [go_sem,hkn]) hS ?_
        simp only [Act.put,qA,qB,qC]
        refine t_tk 4 rfl (.pointer (some ⟨b,off + k * 25,none⟩)) (by kernel_rfl) (fun _ _ _ h => h) rfl (fun w' hw' => by simp [go_sem]) hS ?_
        simp only [Act.put,qA,qB,qC]
        refine t_tk 5 rfl (.int .i64 (es k 0)) (by kernel_rfl) (fun _ _ _ h => h) rfl (fun w' hw' => by simp [go_sem,hw'.1]) hS ?_
        simp only [Act.put,qA,qB,qC]
        refine t_tk 7 rfl (.agg (fc (mk (eF (es k))))) (by kernel_rfl) (fun _ _ _ h => h) rfl (fun w' hw' => run_ld54 _ _ _ rfl _ rfl _ hw'.2) hS ?_
        simp only [Act.put,qA,qB,qC]
        refine wpAnyH_all (rs := [6]) (by kernel_rfl) (by simp) ?_
        intro i hi
        simp only [List.mem_singleton] at hi
        subst hi
        refine t_call 6 rfl rfl 31 #[.int .i64 (es k 0),.int .i64 2] (by simp [go_sem]) (.int .i64 (pk (es k 0) 2)) (PK _) hS ?_
        simp only [Act.put,qA,qB,qC]
        refine t_tk 8 rfl (.agg (cc 25 (mkE (es k)))) (by kernel_rfl) (fun _ _ _ h => h) rfl (fun w' hw' => run_build56 _ _ _ _ _ _ rfl rfl rfl w') hS ?_
        simp only [Act.put,qA,qB,qC]
        refine wpAnyH_all (rs := [9]) (by kernel_rfl) (by simp) ?_
        intro i hi
        simp only [List.mem_singleton] at hi
        subst hi
        refine t_op 9 rfl rfl (.slice (some ⟨w4.heap.size,0,none⟩) 1 1) _ (run_bsE _ _ _ rfl (mkE (es k)) rfl w4) hS6 ?_
        simp only [Act.put,qA,qB,qC]
        refine wpAnyH_all (rs := [10]) (by kernel_rfl) (by simp) ?_
        intro i hi
        simp only [List.mem_singleton] at hi
        subst hi
        refine t_op 10 rfl rfl v7 w7 (ex_apE hr7 _ _ _ _ rfl rfl rfl rfl) hS7 ?_
        simp only [Act.put,qA,qB,qC]
        have hS := hS7
        refine wpAnyH_all (rs := [11]) (by kernel_rfl) (by simp) ?_
        intro i hi
        simp only [List.mem_singleton] at hi
        subst hi
        refine t_op 11 rfl rfl v7 w7 (by simp [go_sem]) hS7 ?_
        simp only [Act.put,qA,qB,qC]
        refine wpAnyH_done (by kernel_rfl) ?_ _
        clear hS hS7 hS6 hO6 hB6 hg7 hr7 ho4 hb4 hz4 hA6
        go_wp2_with fail
        go_roundw
        case rel => exact ⟨k + 1,by omega,by go_num,by rw [mkEs_succ]; exact ho7,hB7⟩
        case measure => simp [intOf]; omega
      . have hk4 : ¬ (k : Int) < 8 := by omega
        have e : k = min n 8 := by omega
        go_wp2_with fail
        go_ret
        exact ⟨⟨_,rfl,e ▸ hown⟩,hb⟩
    . have hkn : ¬ (k : Int) < n := by omega
      have e : k = min n 8 := by omega
      go_wp2_with fail
      go_ret
      exact ⟨⟨_,rfl,e ▸ hown⟩,hb⟩
def setR (xs : List Value) : Nat -> List Value -> List Value
  | _,[] => xs
  | o,v :: r => setR (xs.set o v) (o + 1) r
theorem setR_at : ∀ (vs xs : List Value) (o k : Nat),o + vs.length <= xs.length -> (setR xs o vs)[k]? = if o <= k /\ k < o + vs.length then vs[k - o]? else xs[k]?
  | [],xs,o,k,_ => by rw [setR,if_neg (by simp only [List.length_nil]; omega)]
  | v :: r,xs,o,k,h => by
    simp only [List.length_cons] at h
    rw [setR,setR_at r (xs.set o v) (o + 1) k (by simp; omega)]
    by_cases h1 : o + 1 <= k /\ k < o + 1 + r.length
    . rw [if_pos h1,if_pos (by simp only [List.length_cons]; omega),show k - o = (k - (o + 1)) + 1 by omega,List.getElem?_cons_succ]
    . rw [if_neg h1,List.getElem?_set]
      by_cases h2 : o = k
      . subst h2; rw [if_pos rfl,if_pos (by omega),if_pos (by simp only [List.length_cons]; omega)]; simp
      . rw [if_neg h2,if_neg (by simp only [List.length_cons]; omega)]
theorem own_setCells {base : Nat} {e : TypeId} {size g n cap : Nat} : ∀ (vs : List Value) (o : Nat) (w : World) (xs : List Value),w.ownsRow base e size (.slice (some ⟨g,0,none⟩) n cap) n xs ->
    (w.setCells g o vs).ownsRow base e size (.slice (some ⟨g,0,none⟩) n cap) n (setR xs o vs) /\ w.grownBy (w.setCells g o vs) (some g)
  | [],_,w,_,h => ⟨h,World.grownBy.refl _ _⟩
  | v :: r,o,w,xs,h => by
    obtain ⟨h1,h2⟩ := World.ownsRow.stored h o v
    obtain ⟨h3,h4⟩ := own_setCells r (o + 1) _ _ h1
    exact ⟨h3,h4.os.trans h2.os,h4.tape.trans h2.tape,h4.output.trans h2.output,Nat.le_trans h2.size h4.size,fun k hk hne => (h4.block k (Nat.lt_of_lt_of_le hk h2.size) hne).trans (h2.block k hk hne)⟩
theorem set_gf (l : List (Nat -> Int)) (i : Nat) (f : Nat -> Int) (k : Nat) (hk : k < l.length) : gf (l.set i f) k = if k = i then f else gf l k := by
  unfold gf
  rw [List.getElem?_set]
  by_cases e : i = k
  . subst e; rw [if_pos rfl,if_pos hk,if_pos rfl]; rfl
  . rw [if_neg e,if_neg (fun h => e h.symm)]
theorem OwnC.row {T : TypeId} {m : Nat} {w : World} {B g cap : Nat} {l : List (Nat -> Int)} (h : OwnC T m w B (.slice (some ⟨g,0,none⟩) l.length cap) l) (i : Nat) (hi : i < l.length) (hm : 0 < m) (f : Nat -> Int) :
    OwnC T m (w.setCells g (i * m) (cc m f).toList) B (.slice (some ⟨g,0,none⟩) l.length cap) (l.set i f) /\ w.grownBy (w.setCells g (i * m) (cc m f).toList) (some g) := by
  obtain ⟨h1,h2⟩ := own_setCells (cc m f).toList (i * m) w _ h
  refine ⟨?_,h2⟩
  unfold OwnC
  rw [List.length_set]
  have hle : i * m + m <= l.length * m := by rw [<- Nat.succ_mul]; exact Nat.mul_le_mul_right _ hi
  have e : fl m (l.set i f) = setR (fl m l) (i * m) (cc m f).toList := by
    apply List.ext_getElem?
    intro k
    rw [setR_at _ _ _ _ (by rw [ccl_len,fl_len]; exact hle),ccl_len]
    by_cases hk : k < l.length * m
    . have q1 : k / m < l.length := (Nat.div_lt_iff_lt_mul hm).2 hk
      have q2 : k % m < m := Nat.mod_lt _ hm
      have e : k / m * m + k % m = k := Nat.div_add_mod' k m
      by_cases c : k / m = i
      . rw [if_pos (by rw [<- c]; omega)]
        have : k - i * m = k % m := by rw [<- c]; omega
        rw [this,<- e,fl_at m _ _ _ (by rw [List.length_set]; exact q1) q2,set_gf _ _ _ _ q1,if_pos c,e,Array.getElem?_toList,cc_at m f _ q2]
      . rw [if_neg (fun hh => c (by
          have a1 : i <= k / m := (Nat.le_div_iff_mul_le hm).2 hh.1
          have a2 : k / m < i + 1 := (Nat.div_lt_iff_lt_mul hm).2 (by rw [Nat.succ_mul]; exact hh.2)
          omega))]
        rw [<- e,fl_at m _ _ _ (by rw [List.length_set]; exact q1) q2,set_gf _ _ _ _ q1,if_neg c,fl_at m _ _ _ q1 q2]
    . rw [if_neg (by omega),List.getElem?_eq_none (by rw [fl_len,List.length_set]; omega),List.getElem?_eq_none (by rw [fl_len]; omega)]
  rw [e]
  exact h1
theorem OwnC.there {T : TypeId} {m : Nat} {w : World} {B g cap : Nat} {l : List (Nat -> Int)} (h : OwnC T m w B (.slice (some ⟨g,0,none⟩) l.length cap) l) (i : Nat) (hi : i < l.length) : w.there g (i * m) m := by
  intro j hj
  have hlt : i * m + j < l.length * m := by
    have : (i + 1) * m <= l.length * m := Nat.mul_le_mul_right _ hi
    rw [Nat.succ_mul] at this
    omega
  refine ⟨?_,World.ownsRow.frozenAt h _⟩
  rw [World.ownsRow.cellAt h _ hlt,fl_at m l i j hi hj]
  rfl
theorem st_row {ops : Array Oper} {rest : List Oper} {o : Oper} {a : Act} {w : World} {Q : Exit -> Act -> World -> Prop} (hgd : o.guard = none) (x y : Operand) (ho : o.op = .store 86 x y) {B g cap : Nat} {l : List (Nat -> Int)} (hown : OwnC 86 24 w B (.slice (some ⟨g,0,none⟩) l.length cap) l) (i : Nat) (hi : i < l.length) (f : Nat -> Int)
    (hx : a.eval x = .pointer (some ⟨g,i * 24,none⟩)) (hy : a.eval y = .agg (fc f)) (h : wpList Tryz.prog ops Q rest (a.put o.dst undef) (w.setCells g (i * 24) (cc 24 f).toList)) : wpList Tryz.prog ops Q (o :: rest) a w :=
  wpList_store_mid hgd 86 x y ho g (i * 24) (fc f) hx hy (by rw [fc_size]; exact hown.there i hi) (szf f) (fc_one f) h
theorem OwnC.pop {T : TypeId} {m : Nat} {w : World} {B g cap n : Nat} {l : List (Nat -> Int)} (h : OwnC T m w B (.slice (some ⟨g,0,none⟩) (n + 1) cap) l) (hl : l.length = n + 1) : OwnC T m w B (.slice (some ⟨g,0,none⟩) n cap) l.dropLast := by
  have hne : l ≠ [] := fun e => by rw [e] at hl; simp at hl
  have hd : l.dropLast.length = n := by simp [hl]
  unfold OwnC at *
  rw [hd]
  rw [hl] at h
  refine ownsRow_pop (last := (cc m (l.getLast hne)).toList) (by rw [fl_len,hd]) ?_
  rw [<- fl_snoc,List.dropLast_concat_getLast]
  exact h
theorem Tryz.info86 : (Tryz.prog.info? 86).map (fun i => (i.zero,i.size,i.bytes)) = some (some (.agg (fc zf)),24,192) := by kernel_rfl
theorem run_ap43_nil (w : World) : (Builtin.append_ #[69,69] 69 #[.slice none 0 0,.slice none 0 0]).run Tryz.prog w = .ok (.slice none 0 0) w := by kernel_rfl
theorem run_apF (w : World) (B : Nat) (v : Value) (l news : List (Nat -> Int)) (hown : OwnC 86 24 w B v l) (b off c : Nat) (hnews : ∀ i,i < news.length -> ∀ j,j < 24 -> w.cell? ⟨b,off + i * 24 + j,none⟩ = some (.int .i64 (gf news i j)))
    (hlen : l.length + news.length <= 10000) (hB : B <= w.heap.size) :
    ∃ v' w',(Builtin.append_ #[69,69] 69 #[v,.slice (some ⟨b,off,none⟩) news.length c]).run Tryz.prog w = .ok v' w' /\ OwnC 86 24 w' B v' (l ++ news) /\ w.grownBy w' v.ownBlock := by
  obtain ⟨i0,hi,hz0,hz1,hz2⟩ := info_parts Tryz.info86
  obtain ⟨v',w',hrun,r1,r2,_⟩ := run_append_own (P := Tryz.prog) w B 69 69 86 i0 (.agg (fc zf)) 24 192 Tryz.underlying69 hi hz0 hz1 hz2 (fc_size zf) (by decide) v l.length (fl 24 l) hown ⟨b,off,none⟩ news.length c (fl 24 news) (fl_len 24 news)
    (fun j u hj => by
      have hlt : j < news.length * 24 := by
        have := (List.getElem?_eq_some_iff.1 hj).1
        rwa [fl_len] at this
      have h1 : j / 24 < news.length := by omega
      have e : j / 24 * 24 + j % 24 = j := by omega
      rw [<- e,fl_at 24 news _ _ h1 (by omega)] at hj
      rw [Addr.add_mid,<- Option.some.inj hj,show off + j = off + j / 24 * 24 + j % 24 by omega]
      exact hnews _ h1 _ (by omega))
    (fl_one 24 news) (by unfold maxLen; omega) (by omega) hB
  refine ⟨v',w',hrun,?_,r2⟩
  unfold OwnC
  rw [fl_app]
  simpa using r1
theorem ex_apF {w w' : World} {v x' v' : Value} (hr : (Builtin.append_ #[69,69] 69 #[v,x']).run Tryz.prog w = .ok v' w') (a : Act) (o : Oper) (s x : Operand) (ho : o.op = .call { callee := .builtin .append,args := #[s,x],argTypes := #[69,69] }) (ht : o.type = 69) (hs : a.eval s = v) (hx : a.eval x = x') : (execOp a.eval o).run Tryz.prog w = .ok (.value v') w' := by
  unfold execOp
  simp only [ho,resolve,invoke,builtin]
  simp [hs,hx,ht,hr,Result.andThen]
theorem wl_apF {ops : Array Oper} {rest : List Oper} {o : Oper} {a : Act} {Q : Exit -> Act -> World -> Prop} {W w' : World} {v x' v' : Value} (hr : (Builtin.append_ #[69,69] 69 #[v,x']).run Tryz.prog W = .ok v' w') (hgd : o.guard = none) (s x : Operand) (ho : o.op = .call { callee := .builtin .append,args := #[s,x],argTypes := #[69,69] }) (ht : o.type = 69) (hs : a.eval s = v) (hx : a.eval x = x')
    (h : wpList Tryz.prog ops Q rest (a.put o.dst v') w') : wpList Tryz.prog ops Q (o :: rest) a W :=
  wpList_plain hgd fun _ hK => by
    unfold Oper.wp
    rw [ex_apF hr a o s x ho ht hs hx]
    exact hK _ _ h
theorem run_apFs (w : World) (B : Nat) (v : Value) (L : List (Nat -> Int)) (hv : CsAt 24 w v L.length (gf L)) (hne : v = .slice none 0 0 \/ ∃ b off c,v = .slice (some ⟨b,off,none⟩) L.length c) (hl : L.length <= 1000) (hB : B <= w.heap.size) :
    ∃ v' w',(Builtin.append_ #[69,69] 69 #[.slice none 0 0,v]).run Tryz.prog w = .ok v' w' /\ OwnC 86 24 w' B v' L /\ w.grownBy w' none := by
  obtain ⟨oa,cap,rfl,_,hc⟩ := hv
  rcases hne with e | ⟨b,off,c,e⟩
  . simp only [Value.slice.injEq] at e
    obtain ⟨rfl,hn,rfl⟩ := e
    obtain rfl : L = [] := List.eq_nil_of_length_eq_zero hn
    exact ⟨_,_,run_ap43_nil w,ownC_nil _ _ _ _,World.grownBy.refl _ _⟩
  . simp only [Value.slice.injEq,true_and] at e
    obtain ⟨rfl,rfl⟩ := e
    obtain ⟨v',w',r1,r2,r3⟩ := run_apF w B (.slice none 0 0) [] L (ownC_nil _ _ _ _) b off cap (fun i hi j hj => by
      obtain ⟨b',off',e,_,hc'⟩ := hc (by omega)
      simp only [Option.some.injEq,Addr.mk.injEq,and_true] at e
      obtain ⟨rfl,rfl⟩ := e
      exact hc' i hi j hj) (by simp; omega) hB
    exact ⟨v',w',r1,by simpa using r2,r3⟩
structure FV where
  q : Int
  wt : Int
  ch : Int
  nw : Int
  ar : Int
  st : Int
  sb : Nat
  wv : Value
  lv : Value
  kv : Value
  rm : Int
  tv : Value
def FV.a (X : FV) : Array Value := #[.int .i64 X.q,.int .i64 X.wt,.int .i64 X.ch,.int .i64 X.nw,.int .i64 X.ar,.int .i64 X.st,.pointer (some ⟨X.sb,0,none⟩),X.wv,X.lv,X.kv,.int .i64 X.rm,X.tv]
abbrev FBlk (w : World) (fb : Nat) (X : FV) : Prop := w.heap[fb]? = some (.cells X.a 99 (0,0))
theorem FV.set_tv (X : FV) (v : Value) : X.a.setIfInBounds 11 v = ({ X with tv := v } : FV).a := rfl
theorem FV.set_lv (X : FV) (v : Value) : X.a.setIfInBounds 8 v = ({ X with lv := v } : FV).a := rfl
theorem FV.set_wv (X : FV) (v : Value) : X.a.setIfInBounds 7 v = ({ X with wv := v } : FV).a := rfl
theorem FV.set_st (X : FV) (v : Int) : X.a.setIfInBounds 5 (.int .i64 v) = ({ X with st := v } : FV).a := rfl
theorem FV.set_ar (X : FV) (v : Int) : X.a.setIfInBounds 4 (.int .i64 v) = ({ X with ar := v } : FV).a := rfl
theorem FV.set_nw (X : FV) (v : Int) : X.a.setIfInBounds 3 (.int .i64 v) = ({ X with nw := v } : FV).a := rfl
theorem FBlk.cells {w : World} {fb : Nat} {X : FV} (h : FBlk w fb X) : w.cell? ⟨fb,0,none⟩ = some (.int .i64 X.q) /\ w.cell? ⟨fb,1,none⟩ = some (.int .i64 X.wt) /\ w.cell? ⟨fb,2,none⟩ = some (.int .i64 X.ch) /\ w.cell? ⟨fb,3,none⟩ = some (.int .i64 X.nw) /\ w.cell? ⟨fb,4,none⟩ = some (.int .i64 X.ar) /\ w.cell? ⟨fb,5,none⟩ = some (.int .i64 X.st) /\
    w.cell? ⟨fb,6,none⟩ = some (.pointer (some ⟨X.sb,0,none⟩)) /\ w.cell? ⟨fb,7,none⟩ = some X.wv /\ w.cell? ⟨fb,8,none⟩ = some X.lv /\ w.cell? ⟨fb,9,none⟩ = some X.kv /\ w.cell? ⟨fb,10,none⟩ = some (.int .i64 X.rm) /\ w.cell? ⟨fb,11,none⟩ = some X.tv :=
  ⟨(blk_cells h 0).trans rfl,(blk_cells h 1).trans rfl,(blk_cells h 2).trans rfl,(blk_cells h 3).trans rfl,(blk_cells h 4).trans rfl,(blk_cells h 5).trans rfl,(blk_cells h 6).trans rfl,(blk_cells h 7).trans rfl,(blk_cells h 8).trans rfl,(blk_cells h 9).trans rfl,(blk_cells h 10).trans rfl,(blk_cells h 11).trans rfl⟩
theorem FBlk.set {w : World} {fb : Nat} {X : FV} (h : FBlk w fb X) (i : Nat) (v : Value) {Y : FV} (e : X.a.setIfInBounds i v = Y.a) : FBlk (w.setCell ⟨fb,i,none⟩ v) fb Y := by
  show (w.setCell ⟨fb,i,none⟩ v).heap[fb]? = _
  rw [<- e]
  have h' : w.heap[fb]? = some (.cells X.a 99 (0,0)) := h
  simp [World.setCell,Array.getElem?_modify,h']
theorem frzF {w : World} {fb : Nat} {X : FV} (h : FBlk w fb X) (i : Nat) : w.frozen? ⟨fb,i,none⟩ = false := frz_blk h i
theorem own_ne {α : Type} {R : Row α} {T T' : TypeId} {w : World} {v : Value} {l : List α} {fb : Nat} {cs : Array Value} {fr : Nat × Nat} (ho : OwnR R T w v l) (hf : w.heap[fb]? = some (.cells cs T' fr)) (hT : T ≠ T') : ∀ g,v.ownBlock = some g -> g ≠ fb := by
  intro g hg e
  obtain ⟨cur,hc⟩ := ho.ty hg
  subst e
  rw [hc] at hf
  simp only [Option.some.injEq,Obj.cells.injEq] at hf
  exact hT hf.2.1
theorem take_succ {α : Type} {l : List α} {k : Nat} {a : α} (h : l[k]? = some a) : l.take (k + 1) = l.take k ++ [a] := by
  rw [List.take_add_one,h]; rfl
theorem outT_app (a b : List Tile) (k : K4) : outT (a ++ b) k = outT a k ++ outT b k := by simp [outT]
theorem outT_yes {t : Tile} {k : K4} (h : t.k = k) : outT [t] k = [] := by simp [outT,h]
theorem outT_keep {t : Tile} {k : K4} (h : t.k ≠ k) : outT [t] k = [t] := by simp [outT,h]
theorem bytesT_take {ts : List Tile} {k : Nat} {t : Tile} (h : ts[k]? = some t) : bytesT (ts.take (k + 1)) = bytesT (ts.take k) + t.body.size := by
  rw [take_succ h,bytesT_app]; simp [bytesT]
set_option maxHeartbeats 3200000 in
theorem bytes_any (fb : Nat) (X : FV) (ts : List Tile) (w : World) (hf : FBlk w fb X) (hv : AtR rTile w X.tv ts) (hb : bytesT ts <= 1000000000) (hl : ts.length <= 100000000) :
    Calls Tryz.prog 41 #[.pointer (some ⟨fb,10,none⟩)] w fun e w' => e = .returned (.int .i64 (bytesT ts)) /\ w = w' := by
  obtain ⟨_,_,_,_,_,_,_,_,_,_,_,c11⟩ := hf.cells
  obtain ⟨oa,cap,e,hcap,hm,hc⟩ := hv
  rw [e] at c11
  have HC := hide hc
  have HB := hide hb
  clear hf hc hm hb e
  go_enter Tryz.func41,Tryz.ntmps41
  go_wp2_with fail
  go_loop [3,4] (fun s i => ∃ k : Nat,k <= ts.length /\ i = .int .i64 k /\ s = .int .i64 (bytesT (ts.take k))) (fun _ i => ts.length - (intOf i).toNat)
  case atStart => exact ⟨0,by omega,rfl,by simp [bytesT]⟩
  case round =>
    obtain ⟨k,hk,rfl,rfl⟩ := hrel
    by_cases hlt : k < ts.length
    . have hkn : (k : Int) < ts.length := by omega
      obtain ⟨b,off,rfl,hbl,hc0⟩ := unhide HC (by omega)
      obtain ⟨⟨⟨tl,tz,tx,ty⟩,tb,tt⟩,ht⟩ : ∃ t,ts[k]? = some t := ⟨_,List.getElem?_eq_getElem hlt⟩
      have hrg := AtR.tile hc0 ht
      have c4 := hrg 4 (.string tb) rfl
      have hsum : bytesT (ts.take (k + 1)) = bytesT (ts.take k) + tb.size := bytesT_take ht
      have hle := bytesT_sub (List.take_sublist (k + 1) ts)
      have hbb := unhide HB
      have hw : IntKind.i64.wrap ((bytesT (ts.take k) : Int) + (tb.size : Int)) = ((bytesT (ts.take k) + tb.size : Nat) : Int) := by
        rw [i64_of _ (by omega)]; omega
      have HS := hide hsum
      clear hrg hc0 hsum hle hbb
      go_wp2_with fail
      go_round
      case rel => exact ⟨k + 1,by omega,by go_num,by rw [unhide HS]; rfl⟩
      case measure => simp [intOf]; omega
    . have hkn : k = ts.length := by omega
      subst hkn
      go_wp2_with fail
      go_ret
      exact ⟨rfl,rfl⟩
set_option maxHeartbeats 6400000 in
theorem takeOut_any (fb : Nat) (X : FV) (ts : List Tile) (l z x y : Int) (w : World) (hf : FBlk w fb X) (ho : OwnR rTile 136 w X.tv ts) (hl : ts.length <= 10000000) :
    Calls Tryz.prog 124 #[.pointer (some ⟨fb,10,none⟩),.agg #[.int .i64 l,.int .i64 z,.int .i64 x,.int .i64 y]] w fun e w' => e = .returned (.tuple #[]) /\ (∃ tv',FBlk w' fb { X with tv := tv' } /\ OwnR rTile 136 w' tv' (outT ts ⟨l,z,x,y⟩) /\ ∀ g,tv'.ownBlock = some g -> w.heap.size <= g) /\ Frm (fun k => k = fb) w w' := by
  have hlt0 := blk_lt hf
  obtain ⟨oa,cap,e,hcap,hm,hc⟩ := ho.at
  have HC := hide hc
  have HF := hide hf
  unfold maxLen at hm
  have hA := heap_alloc_new w (.cells #[.int .i64 l,.int .i64 z,.int .i64 x,.int .i64 y] 39 (0,0))
  have hB0 := (Below.refl w.heap.size w).alloc (Nat.le_refl _) (.cells #[.int .i64 l,.int .i64 z,.int .i64 x,.int .i64 y] 39)
  have hN := ownR_lit (R := rTile) (T := 136) (w.alloc (.cells #[.int .i64 l,.int .i64 z,.int .i64 x,.int .i64 y] 39)) [] #[] rfl (by simp)
  have hB1 := hB0.alloc (by simp) (.cells #[] 136)
  have hA1 := (heap_alloc_old (w.alloc (.cells #[.int .i64 l,.int .i64 z,.int .i64 x,.int .i64 y] 39)) (.cells #[] 136) (show w.heap.size < _ by simp)).trans hA
  have HN := hide hN
  have HA1 := hide hA1
  have HB1 := hide hB1
  have c11 : w.cell? ⟨fb,11,none⟩ = some (.slice oa ts.length cap) := by rw [<- e]; exact hf.cells.2.2.2.2.2.2.2.2.2.2.2
  have HC11 := hide c11
  clear hf ho hc hN hB0 hB1 hA hA1 e c11
  go_enter Tryz.func124,Tryz.ntmps124
  go_wp2_with fail
  go_loopw [4,5] (fun lv i wr => ∃ k : Nat,k <= ts.length /\ i = .int .i64 k /\ OwnR rTile 136 wr lv (outT (ts.take k) ⟨l,z,x,y⟩) /\ Hid (∀ g,lv.ownBlock = some g -> w.heap.size <= g) /\ wr.heap[w.heap.size]? = some (.cells #[.int .i64 l,.int .i64 z,.int .i64 x,.int .i64 y] 39 (0,0)) /\ Below w.heap.size w wr) (fun _ i _ => ts.length - (intOf i).toNat)
  case atStart => exact ⟨0,by omega,rfl,by simpa [outT] using unhide HN,hide (fun g hg => by simp [Value.ownBlock] at hg; omega),unhide HA1,unhide HB1⟩
  case round =>
    obtain ⟨k,hk,rfl,hown,hfr,h0,hb⟩ := hrel
    have hsz := hb.size
    have r11 := (hb.cell (p := ⟨fb,11,none⟩) hlt0).trans (unhide HC11)
    by_cases hlt : k < ts.length
    . have hkn : (k : Int) < ts.length := by omega
      obtain ⟨b,off,rfl,hbl,hc0⟩ := unhide HC (by omega)
      obtain ⟨⟨⟨tl,tz,tx,ty⟩,tb,tt⟩,ht⟩ : ∃ t,ts[k]? = some t := ⟨_,List.getElem?_eq_getElem hlt⟩
      have hrg := AtR.tile hc0 ht
      have hW : ∀ W,Below wr.heap.size wr W -> W.rangeAt b (off + k * 6) (tv (some ⟨⟨tl,tz,tx,ty⟩,tb,tt⟩)).toList := fun W h j u hu => ((hb.trans (h.mono hb.size)).cell (p := ⟨b,off + k * 6 + j,none⟩) hbl).trans (hrg j u hu)
      have hW4 := fun W h => rng4 (hW W h)
      have hK : ∀ W,Below wr.heap.size wr W -> W.rangeAt w.heap.size 0 #[.int .i64 l,.int .i64 z,.int .i64 x,.int .i64 y].toList := fun W h => rng_blk (blk_on h0 h)
      have hF11 : ∀ W,Below wr.heap.size wr W -> W.cell? ⟨fb,11,none⟩ = some (.slice (some ⟨b,off,none⟩) ts.length cap) := fun W h => (h.cell (p := ⟨fb,11,none⟩) (by show fb < _; omega)).trans r11
      go_wp2_with fail
      refine region_bq (by kernel_rfl) (by kernel_rfl) ?_
      refine q_move rfl _ rfl (.pointer (some ⟨fb,10,none⟩)) rfl ?_
      simp only [Act.put,qA,qB,qC]
      refine q_val rfl (.pointer (some ⟨fb,10,none⟩)) (fun w' hw' => by simp [go_sem]) ?_
      simp only [Act.put,qA,qB,qC]
      refine q_val rfl (.pointer (some ⟨fb,11,none⟩)) (fun w' hw' => by simp [go_sem]) ?_
      simp only [Act.put,qA,qB,qC]
      refine q_val rfl (.slice (some ⟨b,off,none⟩) ts.length cap) (fun w' hw' => by simp [go_sem,hF11 w' hw']) ?_
      simp only [Act.put,qA,qB,qC]
      refine q_move rfl _ rfl (.int .i64 k) rfl ?_
      simp only [Act.put,qA,qB,qC]
      refine q_val rfl (.pointer (some ⟨b,off + k * 6,none⟩)) (fun w' hw' => by simp [go_sem,hkn]) ?_
      simp only [Act.put,qA,qB,qC]
      refine q_val rfl (.pointer (some ⟨b,off + k * 6,none⟩)) (fun w' hw' => by simp [go_sem]) ?_
      simp only [Act.put,qA,qB,qC]
      refine q_load rfl 39 _ rfl (b) (off + k * 6) rfl (#[.int .i64 tl,.int .i64 tz,.int .i64 tx,.int .i64 ty]) _ Tryz.underlying39 rfl (sz39 _ _ _ _) (hW4) ?_
      simp only [Act.put,qA,qB,qC]
      refine q_load rfl 39 _ rfl (w.heap.size) (0) rfl (#[.int .i64 l,.int .i64 z,.int .i64 x,.int .i64 y]) _ Tryz.underlying39 rfl (sz39 _ _ _ _) (hK) ?_
      simp only [Act.put,qA,qB,qC]
      refine q_val rfl (.bool (!decide ((⟨tl,tz,tx,ty⟩ : K4) = ⟨l,z,x,y⟩))) (fun w' hw' => by simp [go_sem,neq39]) ?_
      simp only [Act.put,qA,qB,qC]
      refine wpQuiet_nil ?_
      intro w2 hw2
      have hw0 := blk_on h0 hw2
      have hrg2 := hW w2 hw2
      have hown2 := hown.on hw2
      have f11 := hF11 w2 hw2
      have hb2 := hb.trans (hw2.mono hb.size)
      have hsz2 := hb2.size
      have HB2 := hide hb2
      have HW0 := hide hw0
      clear hW hW4 hK hF11 hrg hc0 hb h0 hw0 hw2 hown r11 hb2
      have htk := take_succ ht
      by_cases he : (⟨tl,tz,tx,ty⟩ : K4) = ⟨l,z,x,y⟩
      . have hde : (!decide ((⟨tl,tz,tx,ty⟩ : K4) = ⟨l,z,x,y⟩)) = false := by simp [he]
        have HO := hide (show OwnR rTile 136 w2 u4 (outT (ts.take (k + 1)) ⟨l,z,x,y⟩) by rw [htk,outT_app,outT_yes (t := ⟨⟨tl,tz,tx,ty⟩,tb,tt⟩) he,List.append_nil]; exact hown2)
        clear he hown2 htk
        simp only [hde]
        go_wp2_with fail
        go_roundw
        case rel => exact ⟨k + 1,by omega,by go_num,unhide HO,hfr,unhide HW0,unhide HB2⟩
        case measure => simp [intOf]; omega
      . have hde : (!decide ((⟨tl,tz,tx,ty⟩ : K4) = ⟨l,z,x,y⟩)) = true := by simp [he]
        have hat := at_new rTile 136 w2 ⟨⟨tl,tz,tx,ty⟩,tb,tt⟩ (tv (some ⟨⟨tl,tz,tx,ty⟩,tb,tt⟩)) rfl
        have hownA : OwnR rTile 136 (w2.alloc (.cells (tv (some ⟨⟨tl,tz,tx,ty⟩,tb,tt⟩)) 136)) u4 (outT (ts.take k) ⟨l,z,x,y⟩) := hown2.on ((Below.refl _ _).alloc (Nat.le_refl _) _)
        obtain ⟨v3,w3,r1,r2,r3,r4⟩ := apTile hownA hat (by have := outT_len (ts.take k) ⟨l,z,x,y⟩; simp at this ⊢; omega)
        have HO := hide (show OwnR rTile 136 w3 v3 (outT (ts.take (k + 1)) ⟨l,z,x,y⟩) by rw [htk,outT_app,outT_keep (t := ⟨⟨tl,tz,tx,ty⟩,tb,tt⟩) he]; exact r2)
        have HB3 := hide (((unhide HB2).alloc hsz2 (.cells (tv (some ⟨⟨tl,tz,tx,ty⟩,tb,tt⟩)) 136)).grown r3 (by simp; omega) (fun g hg => unhide hfr g hg))
        have HW3 := hide ((r3.block w.heap.size (by have := blk_lt (unhide HW0); simp; omega) (fun q => by have := own_ne hown2 (unhide HW0) (by decide) w.heap.size q.symm; exact this rfl)).trans ((heap_alloc_old w2 (.cells (tv (some ⟨⟨tl,tz,tx,ty⟩,tb,tt⟩)) 136) (blk_lt (unhide HW0))).trans (unhide HW0)))
        have HFR := hide (show ∀ g,v3.ownBlock = some g -> w.heap.size <= g from fun g hg => by
          rcases r4 with r4 | r4
          . exact unhide hfr g (r4 ▸ hg)
          . have := r4 g hg; simp at this; omega)
        clear he hown2 htk hat hownA r2 r3 r4
        simp only [hde]
        go_wp2_with (first | refine ldG 136 (tv (some ⟨⟨tl,tz,tx,ty⟩,tb,tt⟩)) Tryz.underlying136 rfl (sz136 _) b (off + k * 6) hrg2 rfl _ rfl rfl ?_ | refine wlV _ _ (bsTile tl tz tx ty tb tt _ _ _ rfl rfl _) rfl ?_ | (at_builtin; refine wlR 95 r1 rfl _ _ rfl rfl rfl rfl ?_))
        go_roundw
        case rel => exact ⟨k + 1,by omega,by go_num,unhide HO,unhide HFR,unhide HW3,unhide HB3⟩
        case measure => simp [intOf]; omega
    . have hkn : k = ts.length := by omega
      have hfb := blk_on (unhide HF) hb
      have hfz := frzF hfb 11
      have htl : ts.take k = ts := by rw [hkn,List.take_length]
      rw [htl] at hown
      have HH : Hid ((∃ tv',FBlk (wr.setCell ⟨fb,11,none⟩ u4) fb { X with tv := tv' } /\ OwnR rTile 136 (wr.setCell ⟨fb,11,none⟩ u4) tv' (outT ts ⟨l,z,x,y⟩) /\ ∀ g,tv'.ownBlock = some g -> w.heap.size <= g) /\ Frm (fun k => k = fb) w (wr.setCell ⟨fb,11,none⟩ u4)) :=
        ⟨⟨u4,FBlk.set hfb 11 u4 (FV.set_tv X u4),hown.same (fun g hg => Below.heap_setCell _ _ _ _ (by have := unhide hfr g hg; show g ≠ fb; omega)),unhide hfr⟩,(Frm.of_below hb).setCell u4 (fun _ => rfl)⟩
      have hslice : ∃ oa n c,u4 = .slice oa n c := by
        rcases hown with ⟨rfl,_⟩ | ⟨g,off,c,cur,rfl,_⟩
        . exact ⟨_,_,_,rfl⟩
        . exact ⟨_,_,_,rfl⟩
      obtain ⟨oa4,n4,c4,rfl⟩ := hslice
      clear hown hb hfb htl
      subst hkn
      go_wp2_with fail
      exact bodyPost_end (results_none Tryz.results124 _ _ _) rfl ⟨rfl,unhide HH⟩
theorem AtR.req {W : World} {b off : Nat} {ws : List Req} {k : Nat} {r : Req} (h : ∀ i a,ws[i]? = some a -> W.rangeAt b (off + i * rReq.wid) (rReq.enc a)) (hk : ws[k]? = some r) : W.rangeAt b (off + k * 7) r.a.toList := h k r hk
theorem rngK {W : World} {b o : Nat} {r : Req} (h : W.rangeAt b o r.a.toList) : W.rangeAt b (o + 1) #[Value.int .i64 r.k.l,.int .i64 r.k.z,.int .i64 r.k.x,.int .i64 r.k.y].toList := by
  intro j v hv
  rw [Nat.add_assoc]
  refine h (1 + j) v ?_
  rcases j with _ | _ | _ | _ | j
  . exact hv
  . exact hv
  . exact hv
  . exact hv
  . simp at hv
theorem countFor_take {ws : List Req} {k : Nat} {r : Req} (h : ws[k]? = some r) (b : K4) : countFor (ws.take (k + 1)) b = countFor (ws.take k) b + (if r.k.blk = b then 1 else 0) := by
  unfold countFor
  rw [take_succ h,List.countP_append]
  congr 1
  by_cases e : r.k.blk = b
  . simp [e]
  . simp [e]
theorem countFor_le (ws : List Req) (b : K4) : countFor ws b <= ws.length := List.countP_le_length
theorem rng_in {w W : World} {b off : Nat} {cs : List Value} (h : w.rangeAt b off cs) (hb : Below w.heap.size w W) (hlt : b < w.heap.size) : W.rangeAt b off cs := fun j v hv => (hb.cell (p := ⟨b,off + j,none⟩) hlt).trans (h j v hv)
def Small (k : K4) : Prop := (0 <= k.x /\ k.x <= 4194304) /\ (0 <= k.y /\ k.y <= 4194304)
set_option maxHeartbeats 3200000 in
theorem countFor_any (fb : Nat) (X : FV) (ws : List Req) (l z x y : Int) (w : World) (hf : FBlk w fb X) (hv : AtR rReq w X.wv ws) (hs : ∀ r ∈ ws,Small r.k) (hl : ws.length <= 100000000) :
    Calls Tryz.prog 42 #[.pointer (some ⟨fb,0,none⟩),.agg #[.int .i64 l,.int .i64 z,.int .i64 x,.int .i64 y]] w fun e w' => e = .returned (.int .i64 (countFor ws ⟨l,z,x,y⟩)) /\ Below w.heap.size w w' := by
  have hlt0 := blk_lt hf
  obtain ⟨oa,cap,e,hcap,hm,hc⟩ := hv
  have HC := hide hc
  have HS := hide hs
  have c7 : w.cell? ⟨fb,7,none⟩ = some (.slice oa ws.length cap) := by rw [<- e]; exact hf.cells.2.2.2.2.2.2.2.1
  have HC7 := hide c7
  have HA := hide (heap_alloc_new w (.cells #[.int .i64 l,.int .i64 z,.int .i64 x,.int .i64 y] 39 (0,0)))
  have HB0 := hide ((Below.refl w.heap.size w).alloc (Nat.le_refl _) (.cells #[.int .i64 l,.int .i64 z,.int .i64 x,.int .i64 y] 39))
  clear hf hc hm e hs c7
  go_enter Tryz.func42,Tryz.ntmps42
  go_wp2_with fail
  go_loopw [5,6] (fun n i wr => ∃ k : Nat,k <= ws.length /\ i = .int .i64 k /\ n = .int .i64 (countFor (ws.take k) ⟨l,z,x,y⟩) /\ wr.heap[w.heap.size]? = some (.cells #[.int .i64 l,.int .i64 z,.int .i64 x,.int .i64 y] 39 (0,0)) /\ Below w.heap.size w wr) (fun _ i _ => ws.length - (intOf i).toNat)
  case atStart => exact ⟨0,by omega,rfl,by simp [countFor],unhide HA,unhide HB0⟩
  case round =>
    obtain ⟨k,hk,rfl,rfl,h0,hb⟩ := hrel
    have hsz := hb.size
    have r7 := (hb.cell (p := ⟨fb,7,none⟩) hlt0).trans (unhide HC7)
    by_cases hlt : k < ws.length
    . have hkn : (k : Int) < ws.length := by omega
      obtain ⟨b,off,rfl,hbl,hc0⟩ := unhide HC (by omega)
      obtain ⟨⟨rw',⟨rl,rz,rx,ry⟩,ra,rd⟩,ht⟩ : ∃ t,ws[k]? = some t := ⟨_,List.getElem?_eq_getElem hlt⟩
      have hsm := unhide HS _ (List.mem_of_getElem? ht)
      obtain ⟨⟨x1,x2⟩,⟨y1,y2⟩⟩ := hsm
      dsimp only at x1 x2 y1 y2
      have hrg := rngK (AtR.req hc0 ht)
      have hW : ∀ W,Below wr.heap.size wr W -> W.rangeAt b (off + k * 7 + 1) #[.int .i64 rl,.int .i64 rz,.int .i64 rx,.int .i64 ry].toList := fun W h => rng_in hrg (hb.trans (h.mono hb.size)) hbl
      have hK : ∀ W,Below wr.heap.size wr W -> W.rangeAt w.heap.size 0 #[.int .i64 l,.int .i64 z,.int .i64 x,.int .i64 y].toList := fun W h => rng_blk (blk_on h0 h)
      have hF : ∀ W,Below wr.heap.size wr W -> W.cell? ⟨fb,7,none⟩ = some (.slice (some ⟨b,off,none⟩) ws.length cap) := fun W h => (h.cell (p := ⟨fb,7,none⟩) (by show fb < _; omega)).trans r7
      have BL := fun W => blockOf_any rl rz rx ry W ⟨x1,by omega⟩ ⟨y1,by omega⟩
      go_wp2_with fail
      refine region_bq (by kernel_rfl) (by kernel_rfl) ?_
      refine q_move rfl _ rfl (.pointer (some ⟨fb,0,none⟩)) rfl ?_
      simp only [Act.put,qA,qB,qC]
      refine q_val rfl (.pointer (some ⟨fb,0,none⟩)) (fun w' hw' => by simp [go_sem]) ?_
      simp only [Act.put,qA,qB,qC]
      refine q_val rfl (.pointer (some ⟨fb,7,none⟩)) (fun w' hw' => by simp [go_sem]) ?_
      simp only [Act.put,qA,qB,qC]
      refine q_val rfl (.slice (some ⟨b,off,none⟩) ws.length cap) (fun w' hw' => by simp [go_sem,hF w' hw']) ?_
      simp only [Act.put,qA,qB,qC]
      refine q_move rfl _ rfl (.int .i64 k) rfl ?_
      simp only [Act.put,qA,qB,qC]
      refine q_val rfl (.pointer (some ⟨b,off + k * 7,none⟩)) (fun w' hw' => by simp [go_sem,hkn]) ?_
      simp only [Act.put,qA,qB,qC]
      refine q_val rfl (.pointer (some ⟨b,off + k * 7 + 1,none⟩)) (fun w' hw' => by simp [go_sem]) ?_
      simp only [Act.put,qA,qB,qC]
      refine q_load rfl 39 _ rfl (b) (off + k * 7 + 1) rfl (#[.int .i64 rl,.int .i64 rz,.int .i64 rx,.int .i64 ry]) _ Tryz.underlying39 rfl (sz39 _ _ _ _) (hW) ?_
      simp only [Act.put,qA,qB,qC]
      refine q_call rfl 68 (#[.agg #[.int .i64 rl,.int .i64 rz,.int .i64 rx,.int .i64 ry]]) (fun _ => by simp [go_sem]) _ (BL) ?_
      simp only [Act.put,qA,qB,qC]
      refine q_load rfl 39 _ rfl (w.heap.size) (0) rfl (#[.int .i64 l,.int .i64 z,.int .i64 x,.int .i64 y]) _ Tryz.underlying39 rfl (sz39 _ _ _ _) (hK) ?_
      simp only [Act.put,qA,qB,qC]
      refine q_val rfl (.bool (decide ((⟨rl,rz,rx - rx % 2,ry - ry % 2⟩ : K4) = ⟨l,z,x,y⟩))) (fun w' hw' => by simp [go_sem,eql39]) ?_
      simp only [Act.put,qA,qB,qC]
      refine wpQuiet_nil ?_
      intro w2 hw2
      have hw0 := blk_on h0 hw2
      have hct := countFor_take ht ⟨l,z,x,y⟩
      have hcl := countFor_le (ws.take k) ⟨l,z,x,y⟩
      rw [List.length_take] at hcl
      have HB2 := hide (hb.trans (hw2.mono hb.size))
      have HW0 := hide hw0
      clear hW hK hF hrg hc0 hb h0 hw0 hw2 BL
      by_cases he : (⟨rl,rz,rx - rx % 2,ry - ry % 2⟩ : K4) = ⟨l,z,x,y⟩
      . have hde : decide ((⟨rl,rz,rx - rx % 2,ry - ry % 2⟩ : K4) = ⟨l,z,x,y⟩) = true := by simp [he]
        have hct' : countFor (ws.take (k + 1)) ⟨l,z,x,y⟩ = countFor (ws.take k) ⟨l,z,x,y⟩ + 1 := by rw [hct,if_pos (show (⟨rl,rz,rx,ry⟩ : K4).blk = _ from he)]
        have HCT := hide hct'
        obtain ⟨C,hC⟩ : ∃ C,countFor (ws.take k) ⟨l,z,x,y⟩ = C := ⟨_,rfl⟩
        rw [hC] at HCT hcl ⊢
        clear he hct hct' hC
        simp only [hde]
        go_wp2_with fail
        go_roundw
        case rel => exact ⟨k + 1,by omega,by go_num,by rw [unhide HCT]; go_num,unhide HW0,unhide HB2⟩
        case measure => simp [intOf]; omega
      . have hde : decide ((⟨rl,rz,rx - rx % 2,ry - ry % 2⟩ : K4) = ⟨l,z,x,y⟩) = false := by simp [he]
        have hct' : countFor (ws.take (k + 1)) ⟨l,z,x,y⟩ = countFor (ws.take k) ⟨l,z,x,y⟩ := by rw [hct,if_neg (show ¬ (⟨rl,rz,rx,ry⟩ : K4).blk = _ from he),Nat.add_zero]
        have HCT := hide hct'
        clear he hct hct'
        simp only [hde]
        go_wp2_with fail
        go_roundw
        case rel => exact ⟨k + 1,by omega,by go_num,by rw [unhide HCT],unhide HW0,unhide HB2⟩
        case measure => simp [intOf]; omega
    . have hkn : k = ws.length := by omega
      subst hkn
      go_wp2_with fail
      go_ret
      exact ⟨ret_int (by rw [List.take_length]),hb⟩
structure Wk where
  g : Nat
  f : Fl
  rv : Value
  R : List Ft
def Wk.a (u : Wk) : Array Value := #[.int .i64 u.f.b.l,.int .i64 u.f.b.z,.int .i64 u.f.b.x,.int .i64 u.f.b.y,.int .i64 u.f.reads,.int .i64 u.f.left,u.rv]
structure WksAt (w : World) (kv : Value) (W : List (Option Wk)) : Prop where
  kv : AtR rPtr w kv (W.map (Option.map Wk.g))
  at_ : ∀ (i : Nat) (u : Wk),W[i]? = some (some u) -> w.heap[u.g]? = some (.cells u.a 102 (0,0))
theorem WksAt.on {w w' : World} {kv : Value} {W : List (Option Wk)} (h : WksAt w kv W) (hb : Below w.heap.size w w') : WksAt w' kv W := ⟨h.kv.on hb,fun i u hu => blk_on (h.at_ i u hu) hb⟩
def hasW (W : List (Option Wk)) (b : K4) : Bool := W.any fun o => match o with
  | some u => decide (u.f.b = b)
  | none => false
theorem any_no {α : Type} {p : α -> Bool} {l : List α} (h : ∀ i a,i < l.length -> l[i]? = some a -> p a = false) : l.any p = false := by
  rw [List.any_eq_false]
  intro a ha
  obtain ⟨i,hi⟩ := List.mem_iff_getElem?.1 ha
  rw [h i a (List.getElem?_eq_some_iff.1 hi).1 hi]
  simp
theorem any_yes {α : Type} {p : α -> Bool} {l : List α} {i : Nat} {a : α} (h : l[i]? = some a) (hp : p a = true) : l.any p = true := List.any_eq_true.2 ⟨a,List.mem_of_getElem? h,hp⟩
theorem AtR.key {W : World} {b off : Nat} {ws : List K4} {k : Nat} {r : K4} (h : ∀ i a,ws[i]? = some a -> W.rangeAt b (off + i * rKey.wid) (rKey.enc a)) (hk : ws[k]? = some r) : W.rangeAt b (off + k * 4) r.a.toList := h k r hk
theorem rng4u {W : World} {g : Nat} {u : Wk} (h : W.heap[u.g]? = some (.cells u.a 102 (0,0))) (e : g = u.g) : W.rangeAt g 0 #[Value.int .i64 u.f.b.l,.int .i64 u.f.b.z,.int .i64 u.f.b.x,.int .i64 u.f.b.y].toList := by
  subst e
  intro j v hv
  rw [blk_cells h,Nat.zero_add]
  rcases j with _ | _ | _ | _ | j
  . simpa [Wk.a] using hv
  . simpa [Wk.a] using hv
  . simpa [Wk.a] using hv
  . simpa [Wk.a] using hv
  . simp at hv
set_option maxHeartbeats 6400000 in
theorem hasFlight_any (fb : Nat) (X : FV) (ls : List K4) (W : List (Option Wk)) (l z x y : Int) (w : World) (hf : FBlk w fb X) (hv : AtR rKey w X.lv ls) (hw : WksAt w X.kv W) (hl : ls.length <= 100000000) (hl' : W.length <= 100) :
    Calls Tryz.prog 99 #[.pointer (some ⟨fb,0,none⟩),.agg #[.int .i64 l,.int .i64 z,.int .i64 x,.int .i64 y]] w fun e w' => e = .returned (.bool (ls.any (fun k => decide (k = ⟨l,z,x,y⟩)) || hasW W ⟨l,z,x,y⟩)) /\ Below w.heap.size w w' := by
  have hlt0 := blk_lt hf
  obtain ⟨oa,cap,e,hcap,hm,hc⟩ := hv
  obtain ⟨⟨ob,capb,eb,hcapb,hmb,hcb⟩,hu⟩ := hw
  rw [List.length_map] at eb hcapb hmb hcb
  have HC := hide hc
  have HCB := hide hcb
  have HU := hide hu
  have c8 : w.cell? ⟨fb,8,none⟩ = some (.slice oa ls.length cap) := by rw [<- e]; exact hf.cells.2.2.2.2.2.2.2.2.1
  have c9 : w.cell? ⟨fb,9,none⟩ = some (.slice ob W.length capb) := by rw [<- eb]; exact hf.cells.2.2.2.2.2.2.2.2.2.1
  have HC8 := hide c8
  have HC9 := hide c9
  have HA := hide (heap_alloc_new w (.cells #[.int .i64 l,.int .i64 z,.int .i64 x,.int .i64 y] 39 (0,0)))
  have HB0 := hide ((Below.refl w.heap.size w).alloc (Nat.le_refl _) (.cells #[.int .i64 l,.int .i64 z,.int .i64 x,.int .i64 y] 39))
  clear hf hc hm e eb hcb hu c8 c9
  go_enter Tryz.func99,Tryz.ntmps99
  go_wp2_with fail
  go_loopw [5] (fun i wr => ∃ k : Nat,k <= ls.length /\ i = .int .i64 k /\ Hid (∀ i a,i < k -> ls[i]? = some a -> decide (a = (⟨l,z,x,y⟩ : K4)) = false) /\ wr.heap[w.heap.size]? = some (.cells #[.int .i64 l,.int .i64 z,.int .i64 x,.int .i64 y] 39 (0,0)) /\ Below w.heap.size w wr) (fun i _ => ls.length - (intOf i).toNat)
  case atStart => exact ⟨0,by omega,rfl,hide (fun i a hi => absurd hi (by omega)),unhide HA,unhide HB0⟩
  case round =>
    obtain ⟨k,hk,rfl,hno,h0,hb⟩ := hrel
    have hsz := hb.size
    have r8 := (hb.cell (p := ⟨fb,8,none⟩) hlt0).trans (unhide HC8)
    by_cases hlt : k < ls.length
    . have hkn : (k : Int) < ls.length := by omega
      obtain ⟨b,off,rfl,hbl,hc0⟩ := unhide HC (by omega)
      obtain ⟨⟨rl,rz,rx,ry⟩,ht⟩ : ∃ t,ls[k]? = some t := ⟨_,List.getElem?_eq_getElem hlt⟩
      have hrg := AtR.key hc0 ht
      have hW : ∀ W,Below wr.heap.size wr W -> W.rangeAt b (off + k * 4) #[.int .i64 rl,.int .i64 rz,.int .i64 rx,.int .i64 ry].toList := fun W h => rng_in hrg (hb.trans (h.mono hb.size)) hbl
      have hK : ∀ W,Below wr.heap.size wr W -> W.rangeAt w.heap.size 0 #[.int .i64 l,.int .i64 z,.int .i64 x,.int .i64 y].toList := fun W h => rng_blk (blk_on h0 h)
      have hF : ∀ W,Below wr.heap.size wr W -> W.cell? ⟨fb,8,none⟩ = some (.slice (some ⟨b,off,none⟩) ls.length cap) := fun W h => (h.cell (p := ⟨fb,8,none⟩) (by show fb < _; omega)).trans r8
      go_wp2_with fail
      refine region_bq (by kernel_rfl) (by kernel_rfl) ?_
      refine q_move rfl _ rfl (.pointer (some ⟨fb,0,none⟩)) rfl ?_
      simp only [Act.put,qA,qB,qC]
      refine q_val rfl (.pointer (some ⟨fb,0,none⟩)) (fun w' hw' => by simp [go_sem]) ?_
      simp only [Act.put,qA,qB,qC]
      refine q_val rfl (.pointer (some ⟨fb,8,none⟩)) (fun w' hw' => by simp [go_sem]) ?_
      simp only [Act.put,qA,qB,qC]
      refine q_val rfl (.slice (some ⟨b,off,none⟩) ls.length cap) (fun w' hw' => by simp [go_sem,hF w' hw']) ?_
      simp only [Act.put,qA,qB,qC]
      refine q_move rfl _ rfl (.int .i64 k) rfl ?_
      simp only [Act.put,qA,qB,qC]
      refine q_val rfl (.pointer (some ⟨b,off + k * 4,none⟩)) (fun w' hw' => by simp [go_sem,hkn]) ?_
      simp only [Act.put,qA,qB,qC]
      refine q_load rfl 39 _ rfl (b) (off + k * 4) rfl (#[.int .i64 rl,.int .i64 rz,.int .i64 rx,.int .i64 ry]) _ Tryz.underlying39 rfl (sz39 _ _ _ _) (hW) ?_
      simp only [Act.put,qA,qB,qC]
      refine q_load rfl 39 _ rfl (w.heap.size) (0) rfl (#[.int .i64 l,.int .i64 z,.int .i64 x,.int .i64 y]) _ Tryz.underlying39 rfl (sz39 _ _ _ _) (hK) ?_
      simp only [Act.put,qA,qB,qC]
      refine q_val rfl (.bool (decide ((⟨rl,rz,rx,ry⟩ : K4) = ⟨l,z,x,y⟩))) (fun w' hw' => by simp [go_sem,eql39]) ?_
      simp only [Act.put,qA,qB,qC]
      refine wpQuiet_nil ?_
      intro w2 hw2
      have hw0 := blk_on h0 hw2
      have HB2 := hide (hb.trans (hw2.mono hb.size))
      have HW0 := hide hw0
      clear hW hK hF hrg hc0 hb h0 hw0 hw2
      by_cases he : (⟨rl,rz,rx,ry⟩ : K4) = ⟨l,z,x,y⟩
      . have hde : decide ((⟨rl,rz,rx,ry⟩ : K4) = ⟨l,z,x,y⟩) = true := by simp [he]
        have HY := hide (any_yes (p := fun k => decide (k = (⟨l,z,x,y⟩ : K4))) ht hde)
        clear he
        simp only [hde]
        go_wp2_with fail
        go_ret
        exact ⟨ret_bool (by rw [unhide HY]; rfl),unhide HB2⟩
      . have hde : decide ((⟨rl,rz,rx,ry⟩ : K4) = ⟨l,z,x,y⟩) = false := by simp [he]
        clear he
        have HD := hide hde
        simp only [hde]
        go_wp2_with fail
        go_roundw
        case rel => exact ⟨k + 1,by omega,by go_num,hide (fun i a hi ha => by
          by_cases e : i = k
          . subst e; rw [ht] at ha; simp only [Option.some.injEq] at ha; subst ha; exact unhide HD
          . exact unhide hno i a (by omega) ha),unhide HW0,unhide HB2⟩
        case measure => simp [intOf]; omega
    . have hkn : k = ls.length := by omega
      have HL := hide (any_no (p := fun k => decide (k = (⟨l,z,x,y⟩ : K4))) (by rw [<- hkn]; exact unhide hno))
      have HB1 := hide hb
      have HH0 := hide h0
      subst hkn
      clear hb h0
      go_wp2_with fail
      go_loopw [6,7] (fun i _ wx => ∃ k : Nat,k <= W.length /\ i = .int .i64 k /\ Hid (∀ i a,i < k -> W[i]? = some a -> (match a with | some u => decide (u.f.b = (⟨l,z,x,y⟩ : K4)) | none => false) = false) /\ wx.heap[w.heap.size]? = some (.cells #[.int .i64 l,.int .i64 z,.int .i64 x,.int .i64 y] 39 (0,0)) /\ Below w.heap.size w wx) (fun i _ _ => W.length - (intOf i).toNat)
      case atStart => exact ⟨0,by omega,rfl,hide (fun i a hi => absurd hi (by omega)),unhide HH0,unhide HB1⟩
      case round =>
        obtain ⟨k,hk,rfl,hno,h0,hb⟩ := hrel
        have hsz := hb.size
        have r9 := (hb.cell (p := ⟨fb,9,none⟩) hlt0).trans (unhide HC9)
        by_cases hlt : k < W.length
        . have hkn : (k : Int) < W.length := by omega
          obtain ⟨b,off,rfl,hbl,hc0⟩ := unhide HCB (by omega)
          obtain ⟨o,ht⟩ : ∃ t,W[k]? = some t := ⟨_,List.getElem?_eq_getElem hlt⟩
          have hp0 : w.cell? ⟨b,off + k,none⟩ = some (ptr (o.map Wk.g)) := by
            have := hc0 k (o.map Wk.g) (by rw [List.getElem?_map,ht]; rfl) 0 _ rfl
            rwa [show off + k * rPtr.wid + 0 = off + k by simp [rPtr]] at this
          have hp := (hb.cell (p := ⟨b,off + k,none⟩) hbl).trans hp0
          have hK : ∀ W,Below wr.heap.size wr W -> W.rangeAt w.heap.size 0 #[.int .i64 l,.int .i64 z,.int .i64 x,.int .i64 y].toList := fun W h => rng_blk (blk_on h0 h)
          have HB := hide hb
          have H0 := hide h0
          cases o with
          | none =>
            have hp' : wr.cell? ⟨b,off + k,none⟩ = some (.pointer none) := hp
            clear hp hc0 hp0 hb
            go_wp2_with fail
            refine region_bq (by kernel_rfl) (by kernel_rfl) ?_
            refine q_move rfl _ rfl (.pointer none) rfl ?_
            simp only [Act.put,qA,qB,qC]
            refine q_val rfl (.bool false) (fun w' hw' => by simp [go_sem]) ?_
            simp only [Act.put,qA,qB,qC]
            refine q_move rfl _ rfl (.bool false) rfl ?_
            simp only [Act.put,qA,qB,qC]
            refine q_skip rfl ?_
            simp only [Act.put,qA,qB,qC]
            refine q_skip rfl ?_
            simp only [Act.put,qA,qB,qC]
            refine q_skip rfl ?_
            simp only [Act.put,qA,qB,qC]
            refine q_skip rfl ?_
            simp only [Act.put,qA,qB,qC]
            refine q_skip rfl ?_
            simp only [Act.put,qA,qB,qC]
            refine q_skip rfl ?_
            simp only [Act.put,qA,qB,qC]
            refine q_val rfl (.bool false) (fun w' hw' => by simp [go_sem]) ?_
            simp only [Act.put,qA,qB,qC]
            refine wpQuiet_nil ?_
            intro w2 hw2
            have hw0 := blk_on (unhide H0) hw2
            have HB2 := hide ((unhide HB).trans (hw2.mono (unhide HB).size))
            have HW0 := hide hw0
            clear hw0 hw2 hK h0
            go_wp2_with fail
            go_roundw
            case rel => exact ⟨k + 1,by omega,by go_num,hide (fun i a hi ha => by
              by_cases e : i = k
              . subst e; rw [ht] at ha; simp only [Option.some.injEq] at ha; subst ha; rfl
              . exact unhide hno i a (by omega) ha),unhide HW0,unhide HB2⟩
            case measure => simp [intOf]; omega
          | some u =>
            have hp' : wr.cell? ⟨b,off + k,none⟩ = some (.pointer (some ⟨u.g,0,none⟩)) := hp
            have hug := blk_on (unhide HU k u ht) hb
            have hW : ∀ W,Below wr.heap.size wr W -> W.rangeAt u.g 0 #[Value.int .i64 u.f.b.l,.int .i64 u.f.b.z,.int .i64 u.f.b.x,.int .i64 u.f.b.y].toList := fun W h => rng4u (blk_on hug h) rfl
            obtain ⟨ug,⟨⟨rl,rz,rx,ry⟩,ur,ul,uo⟩,urv,uR⟩ := u
            clear hp hc0 hp0 hb hug
            go_wp2_with fail
            refine region_bq (by kernel_rfl) (by kernel_rfl) ?_
            refine q_move rfl _ rfl (.pointer (some ⟨ug,0,none⟩)) rfl ?_
            simp only [Act.put,qA,qB,qC]
            refine q_val rfl (.bool true) (fun w' hw' => by simp [go_sem]) ?_
            simp only [Act.put,qA,qB,qC]
            refine q_move rfl _ rfl (.bool true) rfl ?_
            simp only [Act.put,qA,qB,qC]
            refine q_move rfl _ rfl (.pointer (some ⟨ug,0,none⟩)) rfl ?_
            simp only [Act.put,qA,qB,qC]
            refine q_val rfl (.pointer (some ⟨ug,0,none⟩)) (fun w' hw' => by simp [go_sem]) ?_
            simp only [Act.put,qA,qB,qC]
            refine q_val rfl (.pointer (some ⟨ug,0,none⟩)) (fun w' hw' => by simp [go_sem]) ?_
            simp only [Act.put,qA,qB,qC]
            refine q_load rfl 39 _ rfl (ug) (0) rfl (#[.int .i64 rl,.int .i64 rz,.int .i64 rx,.int .i64 ry]) _ Tryz.underlying39 rfl (sz39 _ _ _ _) (hW) ?_
            simp only [Act.put,qA,qB,qC]
            refine q_load rfl 39 _ rfl (w.heap.size) (0) rfl (#[.int .i64 l,.int .i64 z,.int .i64 x,.int .i64 y]) _ Tryz.underlying39 rfl (sz39 _ _ _ _) (hK) ?_
            simp only [Act.put,qA,qB,qC]
            refine q_val rfl (.bool (decide ((⟨rl,rz,rx,ry⟩ : K4) = ⟨l,z,x,y⟩))) (fun w' hw' => by simp [go_sem,eql39]) ?_
            simp only [Act.put,qA,qB,qC]
            refine q_val rfl (.bool (decide ((⟨rl,rz,rx,ry⟩ : K4) = ⟨l,z,x,y⟩))) (fun w' hw' => by simp [go_sem]) ?_
            simp only [Act.put,qA,qB,qC]
            refine wpQuiet_nil ?_
            intro w2 hw2
            have hw0 := blk_on (unhide H0) hw2
            have HB2 := hide ((unhide HB).trans (hw2.mono (unhide HB).size))
            have HW0 := hide hw0
            clear hw0 hw2 hK h0 hW
            by_cases he : (⟨rl,rz,rx,ry⟩ : K4) = ⟨l,z,x,y⟩
            . have hde : decide ((⟨rl,rz,rx,ry⟩ : K4) = ⟨l,z,x,y⟩) = true := by simp [he]
              have HY := hide (any_yes (p := fun o : Option Wk => match o with | some u => decide (u.f.b = (⟨l,z,x,y⟩ : K4)) | none => false) ht hde)
              clear he
              simp only [hde]
              go_wp2_with fail
              go_ret
              exact ⟨ret_bool (by rw [unhide HL]; unfold hasW; rw [unhide HY]; rfl),unhide HB2⟩
            . have hde : decide ((⟨rl,rz,rx,ry⟩ : K4) = ⟨l,z,x,y⟩) = false := by simp [he]
              clear he
              have HD := hide hde
              simp only [hde]
              go_wp2_with fail
              go_roundw
              case rel => exact ⟨k + 1,by omega,by go_num,hide (fun i a hi ha => by
                by_cases e : i = k
                . subst e; rw [ht] at ha; simp only [Option.some.injEq] at ha; subst ha; exact unhide HD
                . exact unhide hno i a (by omega) ha),unhide HW0,unhide HB2⟩
              case measure => simp [intOf]; omega
        . have hkn : k = W.length := by omega
          have HL2 := hide (any_no (p := fun o : Option Wk => match o with | some u => decide (u.f.b = (⟨l,z,x,y⟩ : K4)) | none => false) (by rw [<- hkn]; exact unhide hno))
          subst hkn
          go_wp2_with fail
          go_ret
          exact ⟨ret_bool (by rw [unhide HL]; unfold hasW; rw [unhide HL2]; rfl),hb⟩
end Go.Proofs.YtpopchckldbhdaaGreatDoor
