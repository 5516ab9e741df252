/-
  The texts InkD, MakeA, Open, MakeB, SqB, MakeC, MakeD, LocM, LocA, StA, StB, StC, StD, StE, StF, StG, StH, StJ, StK, StL, StM, KpA, KpB, KpC, KpE, KpF, SaA, SbA, SbB, SbC, SbD.
-/
import Derived.Test.YtpabpniaekldeaaGreatDoorFase00
import Derived.Test.YtpabpniaekldeaaGreatDoorRows
import Derived.OrdersHeld
import Derived.ProofKit
import Derived.OpenShut
import Derived.ShutString
import Derived.Carry
import Derived.Lib.SmallJoins
import Derived.OwnWalk
import Derived.ArgAppend
import Derived.Deep.MidRow
import Derived.WalkSmall
set_option maxHeartbeats 25600000
namespace Go.Proofs.YtpabpniaekldeaaGreatDoor
open Go.Proofs.Tryz
open Go.RowKit
set_option maxRecDepth 20000
theorem Paint_any (v:Value)(n:Nat)(fs:Nat->Nat->Int)(l z x y:Int)(w:World)(hv:kU w v n fs):
  Calls prog 107 #[v,.agg #[l,z,x,y]] w fun e w'=>e=.returned (.tuple #[.string ⟨(jj fs n l z x y).toArray⟩,.int .i64 (jm fs n l z x y)])/\Below w.heap.size w w':=by
 by_cases he:keyErr l z x y=0
 ·by_cases hn:n<=40
  ·exact Paint_in v n fs l z x y w hv he hn
  exact n7 v n fs l z x y w hv (Or.inr (by omega))
 exact n7 v n fs l z x y w hv (Or.inl he)
theorem Cov_eq {f:Nat->Int}{z x y:Int}(hr:right f=true)(h1:0<=z)(h2:z<=22)(hx:dC x)(hy:dC y):lx f z x y=jZ f (un z) x y:=by
 simp[lx,hr,dM h1 h2,dM hx.1 hx.2,dM hy.1 hy.2]
theorem isAb_zf {f:Nat->Int}(hr:right f=true):fM zf f=false:=by
 have h:=ci hr;have h0:=h.id;have h4:=h.rk;unfold fM zf
 split
 ·simp; omega
 simp; omega
theorem ht_on {fs:Nat->Nat->Int}{T:Nat->Int}{t:Int}{k:Nat}(h:(t=-1/\T=zf)\/∃m:Nat,t=m/\m<k/\T=fs m):(t=-1/\T=zf)\/∃m:Nat,t=m/\m<k+1/\T=fs m:=by
 rcases h with h|⟨m,a,b,c⟩
 ·exact Or.inl h
 exact Or.inr ⟨m,a,by omega,c⟩
theorem refInk_any (v:Value)(n:Nat)(fs:Nat->Nat->Int)(l z x y:Int)(p:Nat)(w:World)(hv:kU w v n fs)(he:keyErr l z x y=0)(hp:p<64)(hn40:n<=40)(hr:∀i,i<n->right (fs i)=true):
  Calls prog 193 #[v,.agg #[l,z,x,y],p] w fun e w'=>e=.returned (.int .i64 (ink fs n l z x y p))/\Below w.heap.size w w':=by
 obtain⟨_,⟨z1,z2⟩,⟨x1,x2⟩,⟨y1,y2⟩⟩:=dK he;have U:=fun W=>gS z W z1 z2;obtain⟨p1,p2,p3,p4⟩:=mod8 p hp;obtain⟨⟨kx1,kx2⟩,_,bX,ax,cx,ex,_⟩:=ij z1 z2 x1 x2 p1 p2;obtain⟨⟨ky1,ky2⟩,_,bY,ay,cy,ey,_⟩:=ij z1 z2 y1 y2 p3 p4;obtain⟨u1,u2⟩:=lA z z1 z2;unfold ink;rw[ex] at bX;rw[ey] at bY;rw[ex,ey];have CC:=fun k (hk:k<n)=>Cov_eq (hr k hk) z1 z2 bX bY;obtain⟨u,hu⟩:∃u,un z=u:=⟨_,rfl⟩;rw[hu] at U bX bY u1 u2 ax ay cx cy CC;rw[hu];obtain⟨A,hA⟩:∃A,8*x*u=A:=⟨_,rfl⟩;obtain⟨C,hC⟩:∃A,(p:Int)%8*u=A:=⟨_,rfl⟩;obtain⟨D,hD⟩:∃A,8*y*u=A:=⟨_,rfl⟩;obtain⟨E,hE⟩:∃A,(p:Int) / 8*u=A:=⟨_,rfl⟩;rw[hA,hC] at bX CC;rw[hD,hE] at bY CC;rw[hA,hC,hD,hE];rw[hA] at ax;rw[hD] at ay;rw[hC] at cx;rw[hE] at cy
 have q1:wrap64 (8*x*u)=A:=by rw[hA]; exact IntWalk.wrap64_in _ ⟨by omega,by omega⟩
 have q2:wrap64 ((p:Int)%8*u)=C:=by rw[hC]; exact IntWalk.wrap64_in _ ⟨by omega,by omega⟩
 have q3:wrap64 (8*y*u)=D:=by rw[hD]; exact IntWalk.wrap64_in _ ⟨by omega,by omega⟩
 have q4:wrap64 ((p:Int) / 8*u)=E:=by rw[hE]; exact IntWalk.wrap64_in _ ⟨by omega,by omega⟩
 have HC:=ae CC;have HP:=ae (And.intro bX bY);clear hu hA hC hD hE he x2 y2 p1 p2 p3 p4 ex ey CC bX bY;have hg0:=heap_alloc_new w (.cells #[l,z,x,y] 39);have HV:=ae hv;obtain⟨oa,cap,rfl,hm,hn⟩:=hv;have HN:=ae hn;clear hn;go_enter func193,ntmps193
 go_wp2_with (go_at_call 161; refine(U _).mono ?_; rintro e w9 ⟨rfl,rfl⟩)
 go_loopw [10,11,12,13,14] (fun tt i _ _ _ wr=>∃(k:Nat) (T:Nat->Int) (t:Int),k<=n/\i=.int .i64 k/\tt=.int .i64 t/\Hid ((t=-1/\T=zf)\/∃m:Nat,t=m/\m<k/\T=fs m)/\Hid (T=fO fs l z u (A+C+u / 2) (D+E+u / 2) k)/\wr.heap[w.heap.size]?=some (.cells #[l,z,x,y] 39)/\Below w.heap.size w wr) (fun _ i _ _ _ _=>n-(intOf i).toNat)
 case atStart=>exact⟨0,zf,-1,by omega,rfl,rfl,ae (Or.inl ⟨rfl,rfl⟩),ae rfl,hg0,aj _ _⟩
 case round=>
  obtain⟨k,T,t,hk,rfl,rfl,htt,hT,hk1,hb0⟩:=hrel;clear q1 q2 q3 q4
  by_cases hlt:k<n
  ·obtain⟨b,off,rfl,hbl,hc0⟩:=aa HN (by omega)
   have hcs:∀i,i<n->∀j,j<24->wr.cell? ⟨b,off+i*24+j,none⟩=some (.int .i64 (fs i j)):=fun i hi j hj=>(hb0.cell (p:=⟨b,off+i*24+j,none⟩) hbl).trans (hc0 i hi j hj);have hbw:b<wr.heap.size:=Nat.lt_of_lt_of_le hbl hb0.size;have hb:=ae hb0;clear hc0 hb0;have hk:=hlt
   have hkn:(k:Int)<n:=by omega
   have S1:=fun W=>gN (fs k) l z x y W;have C1:=fun W=>mT (fs k) z (A+C+u / 2) (D+E+u / 2) W;rw[aa HC k hlt] at C1;clear hlt
   go_wp2
   refine aM (by kernel_rfl) (by kernel_rfl) ?_
   refine bD (.slice (some ⟨b,off,none⟩) n cap) ?_;refine bD (.int .i64 k) ?_
   refine bd b (off+k*24) ?_ (h:=fun _ _=>by simp[go_sem,hkn])
   refine aR rfl 66 _ rfl b (off+k*24) rfl (fc (fs k)) _ underlying66 rfl (gK _) (fun w' h=>gq (fun i hi j hj=>(h.cell (p:=⟨b,off+i*24+j,none⟩) hbw).trans (hcs i hi j hj)) hk) ?_;simp only[qZ];refine aR rfl 39 _ rfl w.heap.size 0 rfl #[l,z,x,y] _ underlying39 rfl (sz28 l z x y) (fun w' h=>dz hk1 h) ?_;simp only[qZ]
   refine br rfl 163 #[.agg (fc (fs k)),.agg #[l,z,x,y]] (fun _=>by simp[go_sem]) _ S1 ?_
   simp only[qZ];refine bF rfl _ rfl (.bool (iw (fs k) l z)) rfl ?_;simp only[qZ];refine wpQuiet_nil ?_;intro w2 hw';have hk2:=ag hk1 hw';have hcs2:∀i,i<n->∀j,j<24->w2.cell? ⟨b,off+i*24+j,none⟩=some (.int .i64 (fs i j)):=fun i hi j hj=>(hw'.cell (p:=⟨b,off+i*24+j,none⟩) hbw).trans (hcs i hi j hj);have hb2:=ae ((aa hb).trans (hw'.mono (aa hb).size));have hbw2:b<w2.heap.size:=Nat.lt_of_lt_of_le hbw hw'.size;clear hk1 hcs hb hbw hw';have hk1:=hk2;have hcs:=hcs2;have hb:=hb2;have hbw:=hbw2;clear hk2 hcs2 hb2 hbw2
   cases hs:iw (fs k) l z with
   | false=>
    go_wp2_with fail
    go_roundw
    case rel=>exact⟨k+1,T,t,by omega,by go_num,rfl,ae (ht_on (aa htt)),ae ((aa hT).trans (kh (by rw[hs]; rfl))),hk1,aa hb⟩
    case measure=>simp[intOf]; omega
   | true=>
   go_wp2_with fail
   refine aM (by kernel_rfl) (by kernel_rfl) ?_
   refine bD (.slice (some ⟨b,off,none⟩) n cap) ?_;refine bD (.int .i64 k) ?_
   refine bd b (off+k*24) ?_ (h:=fun _ _=>by simp[go_sem,hkn])
   refine aR rfl 66 _ rfl b (off+k*24) rfl (fc (fs k)) _ underlying66 rfl (gK _) (fun w' h=>gq (fun i hi j hj=>(h.cell (p:=⟨b,off+i*24+j,none⟩) hbw).trans (hcs i hi j hj)) hk) ?_;simp only[qZ];refine bd w.heap.size 1 ?_
   refine bH (.int .i64 z) ?_ (h:=fun w' h=>by simp[go_sem,af (ag hk1 h)])
   refine bD (.int .i64 (A+C+u / 2)) ?_;refine bD (.int .i64 (D+E+u / 2)) ?_
   refine br rfl 105 #[.agg (fc (fs k)),z,.int .i64 (A+C+u / 2),.int .i64 (D+E+u / 2)] (fun _=>by simp[go_sem]) _ C1 ?_
   simp only[qZ];refine bF rfl _ rfl (.bool (jZ (fs k) u (A+C+u / 2) (D+E+u / 2))) rfl ?_;simp only[qZ];refine wpQuiet_nil ?_;intro w3 hw';have hk2:=ag hk1 hw';have hcs2:∀i,i<n->∀j,j<24->w3.cell? ⟨b,off+i*24+j,none⟩=some (.int .i64 (fs i j)):=fun i hi j hj=>(hw'.cell (p:=⟨b,off+i*24+j,none⟩) hbw).trans (hcs i hi j hj);have hb2:=ae ((aa hb).trans (hw'.mono (aa hb).size));have hbw2:b<w3.heap.size:=Nat.lt_of_lt_of_le hbw hw'.size;clear hk1 hcs hb hbw hw';have hk1:=hk2;have hcs:=hcs2;have hb:=hb2;have hbw:=hbw2;clear hk2 hcs2 hb2 hbw2
   cases hcv:jZ (fs k) u (A+C+u / 2) (D+E+u / 2) with
   | false=>
    go_wp2_with fail
    go_roundw
    case rel=>exact⟨k+1,T,t,by omega,by go_num,rfl,ae (ht_on (aa htt)),ae ((aa hT).trans (kh (by rw[hcv]; simp))),hk1,aa hb⟩
    case measure=>simp[intOf]; omega
   | true=>
    rcases aa htt with⟨rfl,rfl⟩|⟨m,rfl,hmk,rfl⟩
    ·have ha:=isAb_zf (hr k hk)
     go_wp2_with fail
     go_roundw
     case rel=>first|exact⟨k+1,fs k,(k:Int),by omega,by go_num,rfl,ae (Or.inr ⟨k,rfl,by omega,rfl⟩),ae (kW (by rw[<-aa hT,hs,ha,hcv]; rfl)),hk1,aa hb⟩|((repeat apply Exists.intro); exact⟨⟨k+1,fs k,(k:Int),by omega,rfl,rfl,ae (Or.inr ⟨k,rfl,by omega,rfl⟩),ae (kW (by rw[<-aa hT,hs,ha,hcv]; rfl)),hk1,aa hb⟩,rfl⟩)
     case measure=>simp[intOf]; omega
    have hm:m<n:=by omega
    have hmn:(m:Int)<n:=by omega
    have A1:=fun W=>above_any (fs k) (fs m) W
    go_wp2_with fail
    refine aM (by kernel_rfl) (by kernel_rfl) ?_
    refine bD (.slice (some ⟨b,off,none⟩) n cap) ?_;refine bD (.int .i64 k) ?_
    refine bd b (off+k*24) ?_ (h:=fun _ _=>by simp[go_sem,hkn])
    refine aR rfl 66 _ rfl b (off+k*24) rfl (fc (fs k)) _ underlying66 rfl (gK _) (fun w' h=>gq (fun i hi j hj=>(h.cell (p:=⟨b,off+i*24+j,none⟩) hbw).trans (hcs i hi j hj)) hk) ?_;simp only[qZ];refine bD (.slice (some ⟨b,off,none⟩) n cap) ?_;refine bD (.int .i64 m) ?_
    refine bd b (off+m*24) ?_ (h:=fun _ _=>by simp[go_sem,hmn])
    refine aR rfl 66 _ rfl b (off+m*24) rfl (fc (fs m)) _ underlying66 rfl (gK _) (fun w' h=>gq (fun i hi j hj=>(h.cell (p:=⟨b,off+i*24+j,none⟩) hbw).trans (hcs i hi j hj)) hm) ?_;simp only[qZ]
    refine br rfl 197 #[.agg (fc (fs k)),.agg (fc (fs m))] (fun _=>by simp[go_sem]) _ A1 ?_
    simp only[qZ];refine bF rfl _ rfl (.bool (!fM (fs m) (fs k))) rfl ?_;simp only[qZ];refine wpQuiet_nil ?_;intro w4 hw';have hk2:=ag hk1 hw';have hcs2:∀i,i<n->∀j,j<24->w4.cell? ⟨b,off+i*24+j,none⟩=some (.int .i64 (fs i j)):=fun i hi j hj=>(hw'.cell (p:=⟨b,off+i*24+j,none⟩) hbw).trans (hcs i hi j hj);have hb2:=ae ((aa hb).trans (hw'.mono (aa hb).size));have hbw2:b<w4.heap.size:=Nat.lt_of_lt_of_le hbw hw'.size;clear hk1 hcs hb hbw hw';have hk1:=hk2;have hcs:=hcs2;have hb:=hb2;have hbw:=hbw2;clear hk2 hcs2 hb2 hbw2
    cases ha:fM (fs m) (fs k) with
    | true=>
     go_wp2_with fail
     go_roundw
     case rel=>exact⟨k+1,fs m,(m:Int),by omega,by go_num,rfl,ae (Or.inr ⟨m,rfl,by omega,rfl⟩),ae ((aa hT).trans (kh (by rw[<-aa hT,ha]; simp))),hk1,aa hb⟩
     case measure=>simp[intOf]; omega
    | false=>
     go_wp2_with fail
     go_roundw
     case rel=>exact⟨k+1,fs k,(k:Int),by omega,by go_num,rfl,ae (Or.inr ⟨k,rfl,by omega,rfl⟩),ae (kW (by rw[<-aa hT,hs,ha,hcv]; rfl)),hk1,aa hb⟩
     case measure=>simp[intOf]; omega
  have hkn:k=n:=by omega
  subst hkn;have HBr:=ae hb0
  rcases aa htt with⟨rfl,rfl⟩|⟨m,rfl,hmk,rfl⟩
  ·have H:Hid ((0:Int)=fO fs l z u (A+C+u / 2) (D+E+u / 2) k 3):=by show(0:Int)=_; rw[<-aa hT]; rfl
   clear hb0
   go_wp2
   go_ret;exact⟨aB (aa H),aa HBr⟩
  have H:Hid (fs m 3=fO fs l z u (A+C+u / 2) (D+E+u / 2) k 3):=by show fs m 3=_; rw[<-aa hT]
  obtain⟨b,off,rfl,hbl,hc0⟩:=aa HN (by omega)
  have hcm:=(hb0.cell (p:=⟨b,off+m*24+3,none⟩) hbl).trans (hc0 m hmk 3 (by omega))
  have hmn:(m:Int)<k:=by omega
  clear hb0 hc0
  go_wp2
  go_ret;exact⟨aB (aa H),aa HBr⟩
def pk (c n:Int):Int:=(if c<0 then -(c+1) else c)%n
theorem pk_in (c:Int){n:Int}(h:0<n):0<=pk c n/\pk c n<n:=⟨Int.emod_nonneg _ (by omega),Int.emod_lt_of_pos _ h⟩
section
variable {ops:Array Oper}{Q:Exit->Act->World->Prop}{S:World->Prop}{listed:Array Bool}{a:Act}{w:World}{i fuel:Nat}{o:Oper}
theorem h_call (ho:ops[i]?=some o)(hw:Region.wanted o (yielded ops a.tmps)=true)(f:FuncId)(args:Array Value)(h0:(execOp a.eval o).run prog w=.ok (.enter f args) w)(v:Value)
  (hc:Calls prog f args w fun e w'=>e=.returned v/\w=w') (hS:S w) (h:wpAnyH prog .any ops Q S fuel (listed.setIfInBounds i true) (a.put o.dst v) w) :
  wpOp prog ops Q i (fun a' w'=>S w'/\wpAnyH prog .any ops Q S fuel (listed.setIfInBounds i true) a' w') a w:=by
 unfold wpOp;simp only[ho];rw[if_pos hw]
 left
 unfold Oper.wp;rw[h0]
 exact hc.mono fun e w' ⟨e1,e2⟩=>by subst e1; subst e2; exact⟨hS,h⟩
theorem h_op (ho:ops[i]?=some o)(hw:Region.wanted o (yielded ops a.tmps)=true)(v:Value)(w1:World)(h0:(execOp a.eval o).run prog w=.ok (.value v) w1)(hS:S w1)
  (h:wpAnyH prog .any ops Q S fuel (listed.setIfInBounds i true) (a.put o.dst v) w1) :
  wpOp prog ops Q i (fun a' w'=>S w'/\wpAnyH prog .any ops Q S fuel (listed.setIfInBounds i true) a' w') a w:=by
 unfold wpOp;simp only[ho];rw[if_pos hw]
 left
 unfold Oper.wp;rw[h0];exact⟨hS,h⟩
end
def upd (f:Nat->Int)(i:Nat)(v:Int):Nat->Int:=fun j=>if j=i then v else f j
theorem bi {w:World}{g:Nat}{c:Array Value}{t:TypeId}(h:w.heap[g]?=some (.cells c t (0,0)))(o:Nat):w.frozen? ⟨g,o,none⟩=false:=by
 simp[World.frozen?,h]
end Go.Proofs.YtpabpniaekldeaaGreatDoor
namespace Go.Proofs.YtpabpniaekldeaaGreatDoor
open Go.Proofs.Tryz
set_option maxRecDepth 20000
open Go.ChangeShapes Go.WideShapes Go.ChangeAt Go.RowKit Go.Joins
theorem Tryz.own:ownKnob prog.godebug=none:=by kernel_rfl
theorem Tryz.laidOut:laidOutB prog=true:=by kernel_rfl
theorem ku:prog.cellsOf 3=1:=by kernel_rfl
theorem cells24:prog.cellsOf 64=8:=by kernel_rfl
theorem cells26:prog.cellsOf 66=24:=by kernel_rfl
theorem cells28:prog.cellsOf 39=4:=by kernel_rfl
section
variable {H:Type}{enc:TypeId × Value->H}
theorem lB {P:Program}(hl:laidOutB P=true){W W':World}(hb:Below W.heap.size W W'):∀{ts:List TypeId} {vs:List Value} {ds:List (DataW H)} {ps:List MemPlace},
  DataW.TrodAll enc P W 0 (fun _=>true) true ts vs ds ps->(∀t∈ts,P.readableRec t=true/\t<P.types.size)->(∀x∈ps,x.block<W.heap.size) ->
  DataW.TrodAll enc P W' 0 (fun b=>decide (b<W.heap.size)) true ts vs ds ps
 | [],_,_,_,h,_,_=>by
  obtain⟨rfl,rfl,rfl⟩:=trodAll_nil h;exact trodAll_mk0
 | t::ts,_,_,_,h,ht,hlt=>by
  obtain⟨v,vs',d,ds',p,q,rfl,rfl,rfl,h1,h2⟩:=trodAll_cons h;have h0:=ht t List.mem_cons_self;exact⟨p,q,Below.trod hl h0.1 h0.2 h1 hb (fun x hx=>hlt x (List.mem_append_left _ hx)),lB hl hb h2 (fun t' h'=>ht t' (List.mem_cons_of_mem _ h')) (fun x hx=>hlt x (List.mem_append_right _ hx)),rfl⟩
theorem law_post {f:Func}{s:ChangeSpec}{W W':World}{args:Array Value}{ds gs:List (DataW H)}{before:List MemPlace}
  (hW:DataW.Whole enc prog f.params.toList s.vars false W args.toList ds gs before) (hv:s.vars=[]) (hres:f.resultTypes=#[4])
  (hts:(f.params.toList.all fun t=>prog.readableRec t && decide (t<prog.types.size))=true)
  (hfn:∀gs':List (DataW H),gs'=[]->s.fn H (ds++gs')={ results:=[.lit (.bool true)],args:=ds }) (bel:Below W.heap.size W W') :
  s.post enc prog f false true false false W args (.bool true) W':=by
 have hW':=hW;have hlt:=hW.lt;obtain⟨p,q,hA,hV,rfl,_,_⟩:=hW;rw[hv] at hV;obtain⟨rfl,rfl⟩:=trodVars_none hV;have hf:=hfn [] rfl
 refine⟨ds,[],_,[],p,[],hW',?_,?_,?_,bel.frame _,fun h=>by cases h⟩
 ·rw[hf,hres]
  exact trodAll_mk1 (shut_bool underlying4 _)
 ·rw[hf]
  exact lB Tryz.laidOut bel hA (fun t ht=>by
   have:=List.all_eq_true.1 hts t ht;rw[Bool.and_eq_true] at this;exact⟨this.1,of_decide_eq_true this.2⟩) (fun x hx=>hlt x (List.mem_append_left _ hx))
 rw[hv,hf]; exact hV
theorem feat_cells {w:World}{base:Nat}{sp:Nat->Bool}{held:Bool}{n:Nat}{cs:List Value}{x:DataW H × List MemPlace}(h:DataW.trod enc prog w base sp held n 66 cs=some x):
  cs.length=24/\∀j,j<24->∃m,cs[j]?=some (.int .i64 m)/\(Lit.int .i64 m).wf=true:=by
 obtain⟨xs,n1,_,_,hlen,hn,hel⟩:=DataW.trod_struct underlying66 h;rw[cells26] at hlen
 have one:∀(m:Nat) (l:List Value) (y:Option (DataW H × List MemPlace)) ,y.isSome=true->DataW.trod enc prog w base sp held m 3 l=y->∃k,l=[.int .i64 k]/\(Lit.int .i64 k).wf=true:=by
  intro m l y hy he;obtain⟨z,hz⟩:=Option.isSome_iff_exists.1 hy;rw[hz] at he;obtain⟨k,e1,_,e2⟩:=DataW.trod_int underlying3 he;exact⟨k,e1,e2⟩
 have at_:∀(l:List Value) (off:Nat) (k:Int),(l.drop off).take 1=[.int .i64 k]->l[off]?=some (.int .i64 k):=by
  intro l off k he
  have h1:((l.drop off).take 1)[0]?=some (.int .i64 k):=by rw[he]; rfl
  rw[List.getElem?_take_of_lt (by omega),List.getElem?_drop] at h1
  simpa using h1
 refine⟨hlen,?_⟩
 have hs:∀i,i<10->(xs[i]?).isSome=true:=by
  intro i hi;have hx:xs.length=10:=hn;simp[hx,hi]
 have plain:∀i,i<8->∃m,cs[i]?=some (.int .i64 m)/\(Lit.int .i64 m).wf=true:=by
  intro i hi
  have go:∀(fd:Field),fd.type=3->fd.offset=i->DataW.trod enc prog w base sp held n1 fd.type ((cs.drop fd.offset).take (prog.cellsOf fd.type))=xs[i]?->∃m,cs[i]?=some (.int .i64 m)/\(Lit.int .i64 m).wf=true:=by
   intro fd e1 e2 he;rw[e1,e2,ku] at he
   obtain⟨k,hk,hw⟩:=one n1 _ _ (hs i (by omega)) he
   exact⟨k,at_ cs i k hk,hw⟩
  match i,hi with
  | 0,_=>exact go _ rfl rfl (hel 0 _ rfl)
  | 1,_=>exact go _ rfl rfl (hel 1 _ rfl)
  | 2,_=>exact go _ rfl rfl (hel 2 _ rfl)
  | 3,_=>exact go _ rfl rfl (hel 3 _ rfl)
  | 4,_=>exact go _ rfl rfl (hel 4 _ rfl)
  | 5,_=>exact go _ rfl rfl (hel 5 _ rfl)
  | 6,_=>exact go _ rfl rfl (hel 6 _ rfl)
  | 7,_=>exact go _ rfl rfl (hel 7 _ rfl)
 have arr:∀(off k:Nat),(∃y,DataW.trod enc prog w base sp held n1 64 ((cs.drop off).take 8)=some y)->k<8->off+8<=24->∃m,cs[off+k]?=some (.int .i64 m)/\(Lit.int .i64 m).wf=true:=by
  intro off k hy hk hoff;obtain⟨y,hy⟩:=hy;obtain⟨ys,n2,_,_,_,hny,hely⟩:=DataW.trod_array underlying64 hy;have he:=hely k hk;rw[ku,Nat.mul_one] at he
  obtain⟨m,hm,hw⟩:=one n2 _ _ (by simp[hny,hk]) he
  have:=at_ _ k m hm;rw[List.getElem?_take_of_lt hk,List.getElem?_drop] at this;exact⟨m,this,hw⟩
 have goA:∀(fd:Field) {off i:Nat} {y:DataW H × List MemPlace},fd.type=64->DataW.trod enc prog w base sp held n1 fd.type ((cs.drop fd.offset).take (prog.cellsOf fd.type))=xs[i]?->fd.offset=off->xs[i]?=some y->DataW.trod enc prog w base sp held n1 64 ((cs.drop off).take 8)=some y:=by
  intro fd off i y e1 he e2 e3;rw[e1,e2,cells24,e3] at he;exact he
 intro j hj
 by_cases h8:j<8
 ·exact plain j h8
 by_cases h16:j<16
 ·obtain⟨y,hy⟩:=Option.isSome_iff_exists.1 (hs 8 (by omega))
  have:=arr 8 (j-8) ⟨y,goA _ rfl (hel 8 _ rfl) rfl hy⟩ (by omega) (by omega)
  rwa [show 8+(j-8)=j by omega] at this
 obtain⟨y,hy⟩:=Option.isSome_iff_exists.1 (hs 9 (by omega))
 have:=arr 16 (j-16) ⟨y,goA _ rfl (hel 9 _ rfl) rfl hy⟩ (by omega) (by omega)
 rwa [show 16+(j-16)=j by omega] at this
theorem wf_64 {m:Int}(h:(Lit.int .i64 m).wf=true):-9223372036854775808<=m/\m<=9223372036854775807:=by
 have h':(decide (IntKind.i64.min<=m) && decide (m<=IntKind.i64.max))=true:=h;rw[Bool.and_eq_true] at h'
 have e1:IntKind.i64.min=-9223372036854775808:=by decide
 have e2:IntKind.i64.max=9223372036854775807:=by decide
 have a:=of_decide_eq_true h'.1;have b:=of_decide_eq_true h'.2;omega
end
end Go.Proofs.YtpabpniaekldeaaGreatDoor
namespace Go.Proofs.YtpabpniaekldeaaGreatDoor
open Go.Proofs.Tryz
open Go.RowKit
set_option maxRecDepth 20000
def base (f:Nat->Int):Nat->Int:=fun j=>
 if j=0 then 1+pk (f 0) 1000 else if j=1 then pk (f 1) 4 else if j=2 then pk (f 2) 2 else if j=3 then 1+pk (f 3) 15 else if j=4 then pk (f 4) 10 else if j=5 then pk (f 5) 23 else 0
section
variable {l:List Oper}{Q:Exit->Act->World->Prop}{S:World->Prop}{listed:Array Bool}{a:Act}{w:World}{fuel:Nat}{o:Oper}{rest:List Oper}
theorem gw {i:Nat}(hd:l.drop i=o::rest):l.toArray[i]?=some o:=by
 rw[List.getElem?_toArray,<-List.head?_drop,hd]; rfl
theorem t_take (i:Nat)(hd:l.drop i=o::rest)(v:Value)(hs:Region.noSelect l.toArray=true)(hf:Region.free .any l.toArray listed i=true)(hr:(Region.ready .any l.toArray listed).contains i=true)
  (hQ:∀c a w,Q (.panic c) (a.put o.dst v) w->Q (.panic c) a w) (hw:Region.wanted o (yielded l.toArray a.tmps)=true) (hy:∀w',S w'->(execOp a.eval o).run prog w'=.ok (.value v) w') (hS:S w)
  (h:wpAnyH prog .any l.toArray Q S fuel (listed.setIfInBounds i true) (a.put o.dst v) w):wpAnyH prog .any l.toArray Q S (fuel+1) listed a w:=
 wpAnyH_take (gw hd) hs hf hr hQ (Or.inl ⟨hw,hy⟩) hS h
theorem ow (i:Nat)(hd:l.drop i=o::rest)(hw:Region.wanted o (yielded l.toArray a.tmps)=true)(f:FuncId)(args:Array Value)(h0:(execOp a.eval o).run prog w=.ok (.enter f args) w)(v:Value)
  (hc:Calls prog f args w fun e w'=>e=.returned v/\w=w') (hS:S w) (h:wpAnyH prog .any l.toArray Q S fuel (listed.setIfInBounds i true) (a.put o.dst v) w) :
  wpOp prog l.toArray Q i (fun a' w'=>S w'/\wpAnyH prog .any l.toArray Q S fuel (listed.setIfInBounds i true) a' w') a w:=h_call (gw hd) hw f args h0 v hc hS h
theorem bI (i:Nat)(hd:l.drop i=o::rest)(hw:Region.wanted o (yielded l.toArray a.tmps)=true)(v:Value)(w1:World)(h0:(execOp a.eval o).run prog w=.ok (.value v) w1)(hS:S w1)
  (h:wpAnyH prog .any l.toArray Q S fuel (listed.setIfInBounds i true) (a.put o.dst v) w1) :
  wpOp prog l.toArray Q i (fun a' w'=>S w'/\wpAnyH prog .any l.toArray Q S fuel (listed.setIfInBounds i true) a' w') a w:=h_op (gw hd) hw v w1 h0 hS h
end
end Go.Proofs.YtpabpniaekldeaaGreatDoor
namespace Go.Proofs.YtpabpniaekldeaaGreatDoor
open Go.RowKit
section
variable {l:List Oper}{Q:Exit->Act->World->Prop}{S:World->Prop}{listed:Array Bool}{a:Act}{w:World}{fuel:Nat}{o:Oper}{rest:List Oper}
theorem aH {L':Array Bool}{a':Act}(i:Nat)(hd:l.drop i=o::rest)(v:Value)(hS:S w)(h:wpAnyH Tryz.prog .any l.toArray Q S fuel L' a' w)
  (hb:(Region.noSelect l.toArray && Region.free .any l.toArray listed i && (Region.ready .any l.toArray listed).contains i)=true:=by kernel_rfl)
  (hQ:∀c a w,Q (.panic c) (a.put o.dst v) w->Q (.panic c) a w:=by exact fun _ _ _ h=>h) (hw:Region.wanted o (yielded l.toArray a.tmps)=true:=by rfl)
  (hy:∀w',S w'->(execOp a.eval o).run Tryz.prog w'=.ok (.value v) w':=by exact fun w' hw'=>by simp[go_sem])
  (e1:listed.setIfInBounds i true=L':=by(try simp only[qZ]); rfl) (e2:a.put o.dst v=a':=by(try simp only[qZ]); rfl):wpAnyH Tryz.prog .any l.toArray Q S (fuel+1) listed a w:=by
 rw[Bool.and_eq_true,Bool.and_eq_true] at hb;subst e1 e2;exact t_take i hd v hb.1.1 hb.1.2 hb.2 hQ hw hy hS h
theorem am {L':Array Bool}{a':Act}(i:Nat)(hd:l.drop i=o::rest)(b f:Nat)(hS:S w)(h:wpAnyH Tryz.prog .any l.toArray Q S fuel L' a' w)
  (hb:(Region.noSelect l.toArray && Region.free .any l.toArray listed i && (Region.ready .any l.toArray listed).contains i)=true:=by kernel_rfl)
  (hQ:∀c a w,Q (.panic c) (a.put o.dst (.pointer (some ⟨b,f,none⟩))) w->Q (.panic c) a w:=by exact fun _ _ _ h=>h) (hw:Region.wanted o (yielded l.toArray a.tmps)=true:=by rfl)
  (hy:∀w',S w'->(execOp a.eval o).run Tryz.prog w'=.ok (.value (.pointer (some ⟨b,f,none⟩))) w':=by exact fun w' hw'=>by simp[go_sem])
  (e1:listed.setIfInBounds i true=L':=by(try simp only[qZ]); rfl) (e2:a.put o.dst (.pointer (some ⟨b,f,none⟩))=a':=by(try simp only[qZ]); rfl):wpAnyH Tryz.prog .any l.toArray Q S (fuel+1) listed a w:=aH i hd _ hS h hb hQ hw hy e1 e2
theorem aV (i:Nat)(h:wpOp Tryz.prog l.toArray Q i (fun a' w'=>S w'/\wpAnyH Tryz.prog .any l.toArray Q S fuel (listed.setIfInBounds i true) a' w') a w)(hr:Region.ready .any l.toArray listed=[i]:=by kernel_rfl):wpAnyH Tryz.prog .any l.toArray Q S (fuel+1) listed a w:=
 wpAnyH_all (rs:=[i]) hr (by simp) fun j hj=>by
  simp only[List.mem_singleton] at hj;subst hj;exact h
end
end Go.Proofs.YtpabpniaekldeaaGreatDoor
namespace Go.Proofs.YtpabpniaekldeaaGreatDoor
open Go.Proofs.Tryz
open Go.RowKit
set_option maxRecDepth 20000
theorem ap_own {ops:Array Oper}{rest:List Oper}{o:Oper}{a:Act}{Q:Exit->Act->World->Prop}(w:World)(hgd:o.guard=none)(s x:Operand)(t:TypeId)
  (ho:o.op=.call { callee:=.builtin .append,args:=#[s,x],argTypes:=#[t,t] })
  (B:Nat) (e:TypeId) (i:TypeInfo) (z:Value) (size bytes:Nat) (ht:prog.underlying t=some (.slice e)) (hi:prog.info? e=some i) (hz:i.zero=some z)
  (hsize:i.size=size) (hby:i.bytes=bytes) (hzs:z.cells.size=size) (hsz:0<size)
  (v:Value) (n:Nat) (xs:List Value) (hs:a.eval s=v) (hown:w.ownsRow B e size v n xs)
  (ad:Addr) (c:Nat) (news:List Value) (hx:a.eval x=.slice (some ad) 1 c) (hl:news.length=size) (hnews:∀j u,news[j]?=some u->w.cell? (ad.add j)=some u) (h1:∀u∈news,u.oneCell'=true)
  (hn:(n+1)*bytes<=1000000000) (hn':n<=1000000) (hB:B<=w.heap.size)
  (h:∀v' w',w'.ownsRow B e size v' (n+1) (xs++news)->w.grownBy w' v.ownBlock->(v'.ownBlock=v.ownBlock\/∀g,v'.ownBlock=some g->w.heap.size<=g)->wpList prog ops Q rest (a.put o.dst v') w'):wpList prog ops Q (o::rest) a w:=by
 have up:∀{v':Value} {w':World},w'.ownsRow w.heap.size e size v' (n+1) (xs++news)->w'.ownsRow B e size v' (n+1) (xs++news):=by
  intro v' w' hh;obtain⟨a1,a2⟩:=hh;refine⟨a1,?_⟩
  rcases a2 with a2|⟨g,cap,cur,q1,q2,q3⟩
  ·exact Or.inl a2
  exact Or.inr ⟨g,cap,cur,q1,by omega,q3⟩
 have gn:∀{w':World} {r:Option Nat},w.grownBy w' none->w.grownBy w' r:=fun hg=>⟨hg.os,hg.tape,hg.output,hg.size,fun k hk _=>hg.block k hk (by simp)⟩
 rcases hown.2 with⟨rfl,rfl⟩|⟨g,cap,cur,rfl,hg,hh,hnc,hcm,hcs,htk⟩
 ·refine wpList_append_grows w hgd s x t ho e i z size bytes ht hi hz hsize hby hzs hsz none 0 0 xs hs (fun _=>⟨rfl,rfl⟩) (by have:=hown.1; simpa using this) (fun b hb=>by cases hb) ad 1 c news hx (by simpa using hl) hnews h1 (by omega) (by unfold maxLen; omega) (by omega) ?_
  intro v' w' r1 r2;exact h v' w' (up r1) (gn r2) (Or.inr fun g hg=>(World.ownsRow.lt r1 g hg).1)
 by_cases hf:n+1<=cap
 ·refine wpList_append_fits w hgd s x t ho B e i size ht hi hsize g n cap xs hs hown ad 1 c news hx (by simpa using hl) hnews h1 hf ?_
  intro w' r1 r2;exact h _ w' r1 r2 (Or.inl rfl)
 refine wpList_append_grows w hgd s x t ho e i z size bytes ht hi hz hsize hby hzs hsz (some ⟨g,0,none⟩) n cap xs hs (fun hb=>by cases hb) hown.1 ?_ ad 1 c news hx (by simpa using hl) hnews h1 (by omega) (by unfold maxLen; omega) (by omega) ?_
 ·intro b hb j u hj
  obtain rfl:=Option.some.inj hb;rw[Addr.add_mid,Nat.zero_add]
  have hjl:j<n*size:=by
   have:=(List.getElem?_eq_some_iff.1 hj).1
   rwa [hown.1] at this
  rw[World.ownsRow.cellAt hown j hjl,hj]
 intro v' w' r1 r2;exact h v' w' (up r1) (gn r2) (Or.inr fun g hg=>(World.ownsRow.lt r1 g hg).1)
theorem lH {f:Nat->Int}(h:Rt f):right f=true:=by
 have hp:nC f 8=true:=by
  simp only[nC,List.all_eq_true,List.mem_range];intro i hi;refine pt_t rfl rfl rfl (dM (h.px i hi).1 (h.px i hi).2) (dM (h.py i hi).1 (h.py i hi).2) ?_
  by_cases hn:f 7<=(i:Int)
  ·exact Or.inr (h.rest i hi hn)
  exact Or.inl (by omega)
 have hf:form f=true:=by
  unfold form
  rcases h.kind with⟨a,b,c,d⟩|⟨a,b,c,d⟩
  ·rw[if_pos a,dM c d]; simp[b]
  rw[if_neg (by omega),if_pos a,dM b c]; simp[d]
 simp[right,bO,hp,hf,dM h.id.1 h.id.2,dM h.la.1 h.la.2,dM h.ink.1 h.ink.2,dM h.rk.1 h.rk.2,dM h.fr.1 h.fr.2]
theorem cnt_left {ax ay bx yb x y:Int}(h1:ax<x)(h2:bx<x):cnt ax ay bx yb x y=false:=by
 have key:∀a p b q:Int,a<x->b<x->p<=y->y<q->¬(x-a)*(q-p)<(b-a)*(y-p):=by
  intro a p b q ha hb hp hq h
  have m1:0<(x-a)*(q-y):=Int.mul_pos (by omega) (by omega)
  have m2:0<=(x-b)*(y-p):=Int.mul_nonneg (by omega) (by omega)
  have e1:(x-a)*(q-p)=(x-a)*(q-y)+(x-a)*(y-p):=by rw[<-Int.mul_add]; congr 1; omega
  have e2:(x-a)*(y-p)=(x-b)*(y-p)+(b-a)*(y-p):=by rw[<-Int.add_mul]; congr 1; omega
  omega
 unfold cnt
 split
 ·next h=>exact decide_eq_false (key ax ay bx yb h1 h2 h.1 h.2)
 split
 ·next h=>exact decide_eq_false (key bx yb ax ay h2 h1 h.1 h.2)
 rfl
theorem nR {ax ay bx yb x y:Int}(h1:x<ax)(h2:x<bx):cnt ax ay bx yb x y=(decide (ay<=y) != decide (yb<=y)):=by
 have key:∀a p b q:Int,x<a->x<b->p<=y->y<q->(x-a)*(q-p)<(b-a)*(y-p):=by
  intro a p b q ha hb hp hq
  have m1:0<(a-x)*(q-y):=Int.mul_pos (by omega) (by omega)
  have m2:0<=(b-x)*(y-p):=Int.mul_nonneg (by omega) (by omega)
  have e1:(x-a)*(q-p)=- ((a-x)*(q-y))-(a-x)*(y-p):=by simp only[Int.mul_sub,Int.sub_mul]; omega
  have e2:(b-a)*(y-p)=(b-x)*(y-p)-(a-x)*(y-p):=by rw[<-Int.sub_mul]; congr 1; omega
  omega
 unfold cnt
 split
 ·next h=>rw[decide_eq_true (key ax ay bx yb h1 h2 h.1 h.2),decide_eq_true h.1,decide_eq_false (by omega:¬yb<=y)]; rfl
 split
 ·next h=>rw[decide_eq_true (key bx yb ax ay h2 h1 h.1 h.2),decide_eq_true h.1,decide_eq_false (by omega:¬ay<=y)]; rfl
 next h h'=>
 by_cases c:ay<=y
 ·rw[decide_eq_true c,decide_eq_true (by omega:yb<=y)]; rfl
 rw[decide_eq_false c,decide_eq_false (by omega:¬yb<=y)]; rfl
theorem cnt_off {ax ay bx yb x y:Int}(h:(ay<y/\yb<y)\/(y<ay/\y<yb)):cnt ax ay bx yb x y=false:=by
 unfold cnt; rw[if_neg (by omega),if_neg (by omega)]
theorem oN {f:Nat->Int}{n:Int}{x y:Int}:∀k:Nat,(∀i,i<k->ig f n i x y=false)->lQ f n x y k=false
 | 0,_=>rfl
 | k+1,h=>by rw[lQ,oN k fun i hi=>h i (by omega),h k (by omega)]; rfl
theorem par_tel {f:Nat->Int}{x y:Int}{n:Nat}(h:∀i,i<n->x<f (8+i))(hn:1<=n):∀k:Nat,k<n->lQ f n x y k=(decide (f 16<=y) != decide (f (16+k)<=y))
 | 0,_=>by simp[lQ]
 | k+1,hk=>by
  rw[lQ,par_tel h hn k (by omega),ig,if_neg (by omega),nR (h k (by omega)) (h (k+1) hk)]
  cases decide (f 16<=y)<;>cases decide (f (16+k)<=y)<;>cases decide (f (16+(k+1))<=y)<;>rfl
theorem par_right {f:Nat->Int}{x y:Int}{n:Nat}(h:∀i,i<n->x<f (8+i))(hn:1<=n):lQ f n x y n=false:=by
 obtain⟨m,rfl⟩:∃m,n=m+1:=⟨n-1,by omega⟩
 rw[lQ,par_tel h hn m (by omega),ig,if_pos (by omega),nR (h m (by omega)) (h 0 hn)]
 cases decide (f 16<=y)<;>cases decide (f (16+m)<=y)<;>simp_all
theorem sq_lt {a r:Int}(hr:0<=r)(h:r<a\/a < -r):r*r<a*a:=by
 rcases h with h|h
 ·have m1:0<=r*(a-r):=Int.mul_nonneg hr (by omega)
  have m2:0<a*(a-r):=Int.mul_pos (by omega) (by omega)
  rw[Int.mul_sub] at m1 m2;have:=Int.mul_comm a r;omega
 have m1:0<=r*(-a-r):=Int.mul_nonneg hr (by omega)
 have m2:0 < -a*(-a-r):=Int.mul_pos (by omega) (by omega)
 rw[Int.mul_sub] at m1 m2;rw[Int.neg_mul_neg,Int.neg_mul] at m2;rw[Int.mul_neg] at m1;have:=Int.mul_comm a r;omega
theorem near_x {mx my r x y:Int}(hr:0<=r)(h:r<x-mx\/x-mx < -r):near mx my r x y=false:=by
 have a:=sq_lt hr h
 have b:0<=(y-my)*(y-my):=by
  rcases Int.le_total 0 (y-my) with h|h
  ·exact Int.mul_nonneg h h
  exact Int.mul_nonneg_of_nonpos_of_nonpos h h
 unfold near; exact decide_eq_false (by omega)
theorem near_y {mx my r x y:Int}(hr:0<=r)(h:r<y-my\/y-my < -r):near mx my r x y=false:=by
 have a:=sq_lt hr h
 have b:0<=(x-mx)*(x-mx):=by
  rcases Int.le_total 0 (x-mx) with h|h
  ·exact Int.mul_nonneg h h
  exact Int.mul_nonneg_of_nonpos_of_nonpos h h
 unfold near; exact decide_eq_false (by omega)
theorem nx_lt {n:Nat}(i:Nat)(hi:i<n):(if (n:Int)<=(i:Int)+1 then 0 else i+1)<n:=by split<;>omega
theorem far_x {f:Nat->Int}{u x y:Int}(hR:Rt f)(hu:0<=u)(h:(∀i,i<(f 7).toNat->f (8+i)+f 6*u<x)\/∀i,i<(f 7).toNat->x<f (8+i)-f 6*u):jZ f u x y=false:=by
 unfold jZ
 rcases hR.kind with⟨k2,k6,n1,n2⟩|⟨k2,k6,k6',k7⟩
 ·rw[if_neg (by omega)]
  simp only[k6,Int.zero_mul,Int.add_zero,Int.sub_zero] at h
  obtain⟨n,hn⟩:∃n:Nat,f 7=n:=⟨(f 7).toNat,by omega⟩
  simp only[hn,Int.toNat_natCast] at h ⊢
  rcases h with h|h
  ·exact oN n fun i hi=>cnt_left (h i hi) (h _ (nx_lt i hi))
  exact par_right h (by omega)
 rw[if_pos k2]
 have hs:0<=f 6*u:=Int.mul_nonneg (by omega) hu
 have e:(f 7).toNat=1:=by omega
 simp only[e] at h;refine near_x hs ?_
 rcases h with h|h
 ·have:=h 0 (by omega); left; simp only[Nat.add_zero] at this; omega
 have:=h 0 (by omega); right; simp only[Nat.add_zero] at this; omega
theorem far_y {f:Nat->Int}{u x y:Int}(hR:Rt f)(hu:0<=u)(h:(∀i,i<(f 7).toNat->f (16+i)+f 6*u<y)\/∀i,i<(f 7).toNat->y<f (16+i)-f 6*u):jZ f u x y=false:=by
 unfold jZ
 rcases hR.kind with⟨k2,k6,n1,n2⟩|⟨k2,k6,k6',k7⟩
 ·rw[if_neg (by omega)]
  simp only[k6,Int.zero_mul,Int.add_zero,Int.sub_zero] at h
  obtain⟨n,hn⟩:∃n:Nat,f 7=n:=⟨(f 7).toNat,by omega⟩
  simp only[hn,Int.toNat_natCast] at h ⊢
  rcases h with h|h
  ·exact oN n fun i hi=>cnt_off (Or.inl ⟨h i hi,h _ (nx_lt i hi)⟩)
  exact oN n fun i hi=>cnt_off (Or.inr ⟨h i hi,h _ (nx_lt i hi)⟩)
 rw[if_pos k2]
 have hs:0<=f 6*u:=Int.mul_nonneg (by omega) hu
 have e:(f 7).toNat=1:=by omega
 simp only[e] at h;refine near_y hs ?_
 rcases h with h|h
 ·have:=h 0 (by omega); left; simp only[Nat.add_zero] at this; omega
 have:=h 0 (by omega); right; simp only[Nat.add_zero] at this; omega
theorem ax_no {g:Nat->Int}{n:Nat}{r lo hi x:Int}(h:nh g n r lo hi=false)(h1:lo<=x)(h2:x<=hi):(∀i,i<n->g i+r<x)\/∀i,i<n->x<g i-r:=by
 simp only[nh,Bool.not_eq_false',Bool.or_eq_true,apB,apA,List.all_eq_true,List.mem_range,decide_eq_true_eq] at h
 rcases h with h|h
 ·exact Or.inl fun i hi=>by have:=h i hi; omega
 exact Or.inr fun i hi=>by have:=h i hi; omega
theorem cov_touch {f:Nat->Int}{u x y l1 h1 l2 h2:Int}(hR:Rt f)(hu:0<=u)(hc:jZ f u x y=true)(a1:l1<=x)(a2:x<=h1)(b1:l2<=y)(b2:y<=h2):
  (nh (fun i=>f (8+i)) (f 7).toNat (f 6*u) l1 h1 && nh (fun i=>f (16+i)) (f 7).toNat (f 6*u) l2 h2)=true:=by
 cases h:nh (fun i=>f (8+i)) (f 7).toNat (f 6*u) l1 h1 with
 | false=>rw[far_x hR hu (ax_no h a1 a2)] at hc; cases hc
 | true=>
  cases h':nh (fun i=>f (16+i)) (f 7).toNat (f 6*u) l2 h2 with
  | false=>rw[far_y hR hu (ax_no h' b1 b2)] at hc; cases hc
  | true=>rfl
def hgt (f:Nat->Int):Int:=f 4*2000+f 0
def vis (f:Nat->Int)(l z u px py:Int):Bool:=iw f l z && jZ f u px py
theorem l7 {a b:Nat->Int}(ha:0<=a 0/\a 0<=1000)(hb:0<=b 0/\b 0<=1000):fM a b=decide (hgt b<hgt a):=by
 unfold fM hgt
 split
 ·next h=>rw[h]; congr 1; exact propext ⟨fun _=>by omega,fun _=>by omega⟩
 congr 1; exact propext ⟨fun _=>by omega,fun _=>by omega⟩
theorem top_skip {fs:Nat->Nat->Int}{l z u px py:Int}{k:Nat}(h:vis (fs k) l z u px py=false):fO fs l z u px py (k+1)=fO fs l z u px py k:=by
 rw[fO];unfold vis at h
 cases hs:iw (fs k) l z with
 | false=>rfl
 | true=>rw[hs,Bool.true_and] at h; rw[h,Bool.and_false]; rfl
theorem jH {fs:Nat->Nat->Int}(l z u px py:Int):∀n,(∀i,i<n->Rt (fs i)) ->
  (fO fs l z u px py n=zf/\∀i,i<n->vis (fs i) l z u px py=false)\/∃i,i<n/\fO fs l z u px py n=fs i/\vis (fs i) l z u px py=true/\∀j,j<n->vis (fs j) l z u px py=true->hgt (fs j)<=hgt (fs i)
 | 0,_=>Or.inl ⟨rfl,fun i hi=>by omega⟩
 | n+1,hr=>by
  have ih:=jH (fs:=fs) l z u px py n fun i hi=>hr i (by omega)
  have rn:=hr n (by omega)
  cases hv:vis (fs n) l z u px py with
  | false=>
   rw[top_skip hv]
   rcases ih with⟨a,b⟩|⟨i,hi,a,b,c⟩
   ·refine Or.inl ⟨a,fun i hi=>?_⟩
    by_cases e:i=n
    ·rw[e]; exact hv
    exact b i (by omega)
   refine Or.inr ⟨i,by omega,a,b,fun j hj hvj=>?_⟩
   by_cases e:j=n
   ·rw[e,hv] at hvj; cases hvj
   exact c j (by omega) hvj
  | true=>
   have hv':=hv;unfold vis at hv;rw[Bool.and_eq_true] at hv
   rcases ih with⟨a,b⟩|⟨i,hi,a,b,c⟩
   ·refine Or.inr ⟨n,by omega,?_,hv',fun j hj hvj=>?_⟩
    ·have i0:=rn.id
     have r0:=rn.rk
     rw[fO,a,l7 (a:=zf) (by simp[zf]) (by omega),hv.1,hv.2,decide_eq_false (by simp only[hgt,zf]; omega)]; rfl
    by_cases e:j=n
    ·rw[e]; omega
    rw[b j (by omega)] at hvj; cases hvj
   have ri:=hr i (by omega)
   have i0:=rn.id;have i1:=ri.id
   by_cases hh:hgt (fs n)<hgt (fs i)
   ·refine Or.inr ⟨i,by omega,?_,b,fun j hj hvj=>?_⟩
    ·rw[fO,a,l7 (by omega) (by omega),hv.1,hv.2,decide_eq_true hh]; rfl
    by_cases e:j=n
    ·rw[e]; omega
    exact c j (by omega) hvj
   refine Or.inr ⟨n,by omega,?_,hv',fun j hj hvj=>?_⟩
   ·rw[fO,a,l7 (by omega) (by omega),hv.1,hv.2,decide_eq_false hh]; rfl
   by_cases e:j=n
   ·rw[e]; omega
   have:=c j (by omega) hvj; omega
theorem top_set {fs gs:Nat->Nat->Int}{n m:Nat}(l z u px py:Int)(hr:∀i,i<n->Rt (fs i))(hg:∀i,i<m->Rt (gs i))
  (h1:∀i,i<n->vis (fs i) l z u px py=true->∃j,j<m/\gs j=fs i) (h2:∀j,j<m->vis (gs j) l z u px py=true->∃i,i<n/\fs i=gs j)
  (hd:∀i j,i<n->j<n->fs i 0=fs j 0->fs i=fs j):fO gs l z u px py m=fO fs l z u px py n:=by
 rcases jH (fs:=fs) l z u px py n hr with⟨a,b⟩|⟨i,hi,a,b,c⟩
 ·rcases jH (fs:=gs) l z u px py m hg with⟨a',_⟩|⟨j,hj,_,b',_⟩
  ·rw[a,a']
  obtain⟨i,hi,e⟩:=h2 j hj b'
  rw[<-e,b i hi] at b'; cases b'
 rcases jH (fs:=gs) l z u px py m hg with⟨_,b'⟩|⟨j,hj,a',b',c'⟩
 ·obtain⟨j,hj,e⟩:=h1 i hi b
  have:=b' j hj
  rw[e,b] at this; cases this
 obtain⟨i',hi',e'⟩:=h2 j hj b';obtain⟨j',hj',e⟩:=h1 i hi b
 have q1:=c i' hi' (by rw[e']; exact b')
 have q2:=c' j' hj' (by rw[e]; exact b)
 rw[e,<-e'] at q2;have i0:=(hr i hi).id;have j0:=(hr i' hi').id;rw[a,a',<-e']
 exact hd i' i hi' hi (by unfold hgt at q1 q2; omega)
theorem far_vis {f:Nat->Int}{l z x y:Int}(hR:Rt f)(he:keyErr l z x y=0)(h:cJ f l z x y=false)(p:Nat)(hp:p<64):
  vis f l z (un z) (js x (un z) ((p:Int)%8)) (js y (un z) ((p:Int) / 8))=false:=by
 obtain⟨_,⟨z1,z2⟩,⟨x1,x2⟩,⟨y1,y2⟩⟩:=dK he;obtain⟨p1,p2,p3,p4⟩:=mod8 p hp;obtain⟨_,_,_,_,_,_,a1,a2⟩:=ij z1 z2 x1 x2 p1 p2;obtain⟨_,_,_,_,_,_,b1,b2⟩:=ij z1 z2 y1 y2 p3 p4;have hu:=lA z z1 z2;unfold cJ at h;rw[lH hR,he] at h;unfold vis
 cases hs:iw f l z with
 | false=>rfl
 | true=>
  rw[hs] at h
  cases hc:jZ f (un z) (js x (un z) ((p:Int)%8)) (js y (un z) ((p:Int) / 8)) with
  | false=>rfl
  | true=>rw[cov_touch hR (by omega) hc a1 a2 b1 b2] at h; simp at h
theorem ink_of_top {fs gs:Nat->Nat->Int}{n m:Nat}{l z x y:Int}(h:∀p:Nat,p<64->fO gs l z (un z) (js x (un z) ((p:Int)%8)) (js y (un z) ((p:Int) / 8)) m=fO fs l z (un z) (js x (un z) ((p:Int)%8)) (js y (un z) ((p:Int) / 8)) n):kP gs m l z x y 64=kP fs n l z x y 64:=by
 unfold kP;refine List.map_congr_left fun p hp=>?_;unfold ink;rw[h p (List.mem_range.1 hp)]
theorem jN (ev:Operand->Value)(o:Oper)(x:Operand)(ho:o.op=.buildSlice 62 1 #[(0,x)])(f:Nat->Int)(hx:ev x=.agg (fc f))(w:World):(execOp ev o).run prog w=.ok (.value (.slice (some ⟨w.heap.size,0,none⟩) 1 1)) (w.alloc (.cells (fc f) 66)):=by
 unfold execOp;simp only[ho];simp only[List.map_toArray,List.map_cons,List.map_nil,hx]
 kernel_rfl
theorem bs34 {ops:Array Oper}{rest:List Oper}{o:Oper}{a:Act}{w:World}{Q:Exit->Act->World->Prop}(hgd:o.guard=none)(x:Operand)(ho:o.op=.buildSlice 62 1 #[(0,x)])(f:Nat->Int)(hx:a.eval x=.agg (fc f))(n:Nat)(hn:w.heap.size=n)
  (h:wpList prog ops Q rest (a.put o.dst (.slice (some ⟨n,0,none⟩) 1 1)) (w.alloc (.cells (fc f) 66))):wpList prog ops Q (o::rest) a w:=
 wpList_plain hgd fun _ hK=>by
  unfold Oper.wp;rw[jN _ _ x ho f hx,hn];exact hK _ _ h
def gf (l:List (Nat->Int))(i:Nat):Nat->Int:=(l[i]?).getD zf
theorem gf_cons (f:Nat->Int)(l:List (Nat->Int))(i:Nat):gf (f::l) (i+1)=gf l i:=by simp[gf]
theorem di {l:List (Nat->Int)}{f:Nat->Int}{i:Nat}(h:i<l.length):gf (l++[f]) i=gf l i:=by unfold gf; rw[List.getElem?_append_left h]
theorem cD (l:List (Nat->Int))(f:Nat->Int):gf (l++[f]) l.length=f:=by simp[gf]
def cc (n:Nat)(f:Nat->Int):Array Value:=(Array.range n).map fun i=>.int .i64 (f i)
theorem cc_fc (f:Nat->Int):fc f=cc 24 f:=rfl
theorem eE (n:Nat)(f:Nat->Int):(cc n f).size=n:=by simp[cc]
theorem dc (n:Nat)(f:Nat->Int)(i:Nat)(h:i<n):(cc n f)[i]?=some (.int .i64 (f i)):=by simp[cc,h]
theorem cc_one (n:Nat)(f:Nat->Int):(cc n f).all (·.oneCell')=true:=by
 rw[Array.all_eq_true_iff_forall_mem];intro v hv;simp only[cc,Array.mem_map] at hv;obtain⟨i,_,rfl⟩:=hv;rfl
theorem iB (n:Nat)(f:Nat->Int):(cc n f).toList.length=n:=by rw[Array.length_toList,eE]
theorem cc_ext {n:Nat}{f g:Nat->Int}(h:∀i,i<n->f i=g i):cc n f=cc n g:=by
 apply Array.ext_getElem?
 intro j
 by_cases hj:j<n
 ·rw[dc _ _ j hj,dc _ _ j hj,h j hj]
 rw[Array.getElem?_eq_none (by rw[eE]; omega),Array.getElem?_eq_none (by rw[eE]; omega)]
def fl (m:Nat)(l:List (Nat->Int)):List Value:=l.flatMap fun f=>(cc m f).toList
theorem lp (m:Nat)(f:Nat->Int)(l:List (Nat->Int)):fl m (f::l)=(cc m f).toList++fl m l:=rfl
theorem pB (m:Nat)(l l':List (Nat->Int)):fl m (l++l')=fl m l++fl m l':=by simp[fl]
theorem fl_snoc (m:Nat)(l:List (Nat->Int))(f:Nat->Int):fl m (l++[f])=fl m l++(cc m f).toList:=by simp[fl]
theorem dp (m:Nat):∀l:List (Nat->Int),(fl m l).length=l.length*m
 | []=>by simp[fl]
 | f::l=>by rw[lp,List.length_append,dp m l,iB,List.length_cons,Nat.succ_mul]; omega
theorem gy (m:Nat):∀(l:List (Nat->Int)) (i j:Nat),i<l.length->j<m->(fl m l)[i*m+j]?=some (.int .i64 (gf l i j))
 | [],i,_,h,_=>by simp at h
 | f::l,0,j,_,hj=>by
  rw[lp,List.getElem?_append_left (by rw[iB]; omega),Nat.zero_mul,Nat.zero_add,Array.getElem?_toList,dc m f j hj]; rfl
 | f::l,i+1,j,hi,hj=>by
  rw[lp,List.getElem?_append_right (by rw[iB,Nat.succ_mul]; omega),iB,gf_cons,show(i+1)*m+j-m=i*m+j by rw[Nat.succ_mul]; omega]
  exact gy m l i j (by simpa using hi) hj
theorem fl_one (m:Nat)(l:List (Nat->Int)):∀v∈fl m l,v.oneCell'=true:=by
 intro v hv;simp only[fl,List.mem_flatMap] at hv;obtain⟨f,_,hf⟩:=hv;have:=cc_one m f;rw[Array.all_eq_true_iff_forall_mem] at this
 exact this v (by simpa using hf)
def mD (m:Nat)(W:World)(v:Value)(n:Nat)(fs:Nat->Nat->Int):Prop:=
 ∃(oa:Option Addr) (cap:Nat),v=.slice oa n cap/\n<=maxLen/\(0<n->∃b off,oa=some ⟨b,off,none⟩/\b<W.heap.size/\∀i,i<n->∀j,j<m->W.cell? ⟨b,off+i*m+j,none⟩=some (.int .i64 (fs i j)))
theorem cs_rng {m:Nat}{W:World}{b off n:Nat}{fs:Nat->Nat->Int}(hc:∀i,i<n->∀j,j<m->W.cell? ⟨b,off+i*m+j,none⟩=some (.int .i64 (fs i j))){k:Nat}(hk:k<n):W.rangeAt b (off+k*m) (cc m (fs k)).toList:=by
 intro j v hv
 have hj:j<m:=by
  have:=(List.getElem?_eq_some_iff.1 hv).1;simpa[eE] using this
 have e:(cc m (fs k))[j]?=some v:=by simpa using hv
 rw[dc _ _ j hj] at e;rw[hc k hk j hj,e]
def bf (T:TypeId)(m:Nat)(w:World)(B:Nat)(v:Value)(l:List (Nat->Int)):Prop:=w.ownsRow B T m v l.length (fl m l)
section
variable {T:TypeId}{m:Nat}{w w':World}{B:Nat}{v:Value}{l:List (Nat->Int)}
theorem jQ (T:TypeId)(m:Nat)(w:World)(B:Nat):bf T m w B (.slice none 0 0) []:=World.ownsRow_nil _ _ _ _
theorem bf.same (h:bf T m w B v l)(hg:∀g,v.ownBlock=some g->w'.heap[g]?=w.heap[g]?):bf T m w' B v l:=by
 obtain⟨h1,h2⟩:=h;refine⟨h1,?_⟩
 rcases h2 with h2|⟨g,cap,cur,hv,hg',hh,r⟩
 ·exact Or.inl h2
 exact Or.inr ⟨g,cap,cur,hv,hg',(hg g (by rw[hv]; rfl)).trans hh,r⟩
theorem bf.on (h:bf T m w B v l)(hb:Below w.heap.size w w'):bf T m w' B v l:=h.same fun g hg=>hb.block g (World.ownsRow.lt h g hg).2
theorem bf.alloc (h:bf T m w B v l)(o:Obj):bf T m (w.alloc o) B v l:=World.ownsRow.alloc h o
theorem bf.lt (h:bf T m w B v l):∀k,v.ownBlock=some k->B<=k/\k<w.heap.size:=World.ownsRow.lt h
theorem bf.mono {B':Nat}(h:bf T m w B v l)(hB:B'<=B):bf T m w B' v l:=by
 obtain⟨h1,h2⟩:=h;refine⟨h1,?_⟩
 rcases h2 with h2|⟨g,cap,cur,hv,hg',hh,r⟩
 ·exact Or.inl h2
 exact Or.inr ⟨g,cap,cur,hv,by omega,hh,r⟩
theorem bf.at (h:bf T m w B v l)(hl:l.length<=maxLen):mD m w v l.length (gf l):=by
 have h0:=h
 rcases h.2 with⟨rfl,hn⟩|⟨g,cap,cur,rfl,_,hg,_⟩
 ·rw[hn]; exact⟨none,0,rfl,Nat.zero_le _,fun h=>absurd h (by omega)⟩
 refine⟨_,cap,rfl,hl,fun _=>⟨g,0,rfl,(Array.getElem?_eq_some_iff.1 hg).1,fun i hi j hj=>?_⟩⟩
 have hlt:i*m+j<l.length*m:=by
  have:(i+1)*m<=l.length*m:=Nat.mul_le_mul_right _ hi;rw[Nat.succ_mul] at this;omega
 rw[Nat.zero_add,World.ownsRow.cellAt h0 (i*m+j) hlt,gy m l i j hi hj]
theorem bf.form (h:bf T m w B v l)(hn:0<l.length):∃g cap,v=.slice (some ⟨g,0,none⟩) l.length cap/\B<=g/\g<w.heap.size:=by
 rcases h.2 with⟨_,e⟩|⟨g,cap,cur,hv,hb,hh,_⟩
 ·omega
 exact⟨g,cap,hv,hb,(Array.getElem?_eq_some_iff.1 hh).1⟩
end
def dg (l:List (Nat->Int))(i j:Nat)(x:Int):List (Nat->Int):=l.set i (upd (gf l i) j x)
theorem bp (l:List (Nat->Int))(i j:Nat)(x:Int):(dg l i j x).length=l.length:=by simp[dg]
theorem cz (l:List (Nat->Int))(i j:Nat)(x:Int)(k:Nat)(hk:k<l.length):gf (dg l i j x) k=if k=i then upd (gf l i) j x else gf l k:=by
 unfold dg gf;rw[List.getElem?_set]
 by_cases e:i=k
 ·subst e; rw[if_pos rfl,if_pos hk,if_pos rfl]; rfl
 rw[if_neg e,if_neg (fun h=>e h.symm)]
theorem bf.stored {T:TypeId}{m:Nat}{w:World}{B g cap:Nat}{l:List (Nat->Int)}(h:bf T m w B (.slice (some ⟨g,0,none⟩) l.length cap) l)(i j:Nat)(hi:i<l.length)(hj:j<m)(x:Int):
  bf T m (w.setCell ⟨g,i*m+j,none⟩ (.int .i64 x)) B (.slice (some ⟨g,0,none⟩) l.length cap) (dg l i j x)/\w.grownBy (w.setCell ⟨g,i*m+j,none⟩ (.int .i64 x)) (some g):=by
 have:=World.ownsRow.stored h (i*m+j) (.int .i64 x);refine⟨?_,this.2⟩;unfold bf;rw[bp]
 have e:fl m (dg l i j x)=(fl m l).set (i*m+j) (.int .i64 x):=by
  apply List.ext_getElem?
  intro k
  by_cases hk:k<l.length*m
  ·have hm:0<m:=by omega
   have h1:k / m<l.length:=(Nat.div_lt_iff_lt_mul hm).2 hk;have h2:k%m<m:=Nat.mod_lt _ hm;have e:k / m*m+k%m=k:=Nat.div_add_mod' k m;rw[List.getElem?_set]
   by_cases c:i*m+j=k
   ·have q1:k / m=i:=by rw[<-c,Nat.add_comm,Nat.add_mul_div_right _ _ hm,Nat.div_eq_of_lt hj]; omega
    have q2:k%m=j:=by rw[<-c,Nat.add_comm,Nat.add_mul_mod_self_right,Nat.mod_eq_of_lt hj]
    rw[if_pos c,if_pos (by rw[dp,c]; exact hk),<-e,gy m _ _ _ (by rw[bp]; exact h1) h2,q1,q2,cz _ _ _ _ _ hi,if_pos rfl]
    simp[upd]
   rw[if_neg c,<-e,gy m _ _ _ (by rw[bp]; exact h1) h2,gy m _ _ _ h1 h2,cz _ _ _ _ _ h1]
   by_cases d:k / m=i
   ·rw[if_pos d]
    have:k%m≠j:=fun d'=>c (by rw[<-d,<-d']; exact e)
    simp only[upd,if_neg this,d]
   rw[if_neg d]
  rw[List.getElem?_eq_none (by rw[dp,bp]; omega),List.getElem?_eq_none (by rw[List.length_set,dp]; omega)]
 rw[e];exact this.1
theorem grown_drew {w w':World}{r:Option Nat}(h:w.grownBy w' r):w.grownBy w'.drew r:=⟨h.os,h.tape,h.output,h.size,h.block⟩
def Lv (g:Nat->Int)(id:Int):Prop:=g 25=0/\g 0=id
theorem dq {w:World}{db:Nat}{ver:Int}{lv:Value}(hd:w.heap[db]?=some (.cells #[ver,lv] 137)):w.cell? ⟨db,0,none⟩=some (.int .i64 ver)/\w.cell? ⟨db,1,none⟩=some lv:=by
 refine⟨(af hd 0).trans rfl,(af hd 1).trans rfl⟩
theorem end_any (db B:Nat)(ver:Int)(lv:Value)(LS:List (Nat->Int))(id:Int)(w:World)(hd:w.heap[db]?=some (.cells #[ver,lv] 137))(ho:bf 147 26 w B lv LS)(hl:LS.length<=1000):
  Calls prog 167 #[.pointer (some ⟨db,0,none⟩),id] w fun e w'=>(e=.returned (.bool false)/\w=w'/\∀i,i<LS.length->¬Lv (gf LS i) id) \/
   ∃i,i<LS.length/\Lv (gf LS i) id/\(∀j,j<i->¬Lv (gf LS j) id)/\e=.returned (.bool true)/\bf 147 26 w' B lv (dg LS i 25 ver)/\w.grownBy w' lv.ownBlock:=by
 obtain⟨oa,cap,rfl,_,hc⟩:=ho.at (by unfold maxLen; omega)
 have HO:=ae ho;have HC:=ae hc;obtain⟨d0,d1⟩:=dq hd;clear ho hc hd;go_enter func167,ntmps167
 go_wp2_with fail
 go_loop [5] (fun i=>∃k:Nat,k<=LS.length/\i=.int .i64 k/\Hid (∀i,i<k->¬Lv (gf LS i) id)) (fun i=>LS.length-(intOf i).toNat)
 case atStart=>exact⟨0,by omega,rfl,ae (fun i hi=>absurd hi (by omega))⟩
 case round=>
  obtain⟨k,hk,rfl,hno⟩:=hrel
  by_cases hlt:k<LS.length
  ·have hkn:(k:Int)<LS.length:=by omega
   obtain⟨g,cap',e,hB,hgl⟩:=(aa HO).form (by omega)
   simp only[Value.slice.injEq,true_and] at e;obtain⟨rfl,rfl⟩:=e
   obtain⟨b,off,e,_,hc0⟩:=aa HC (by omega)
   simp only[Option.some.injEq,Addr.mk.injEq,and_true] at e;obtain⟨rfl,rfl⟩:=e
   have c25:=hc0 k hlt 25 (by omega)
   have c0:=hc0 k hlt 0 (by omega)
   simp only[Nat.zero_add,Nat.add_zero] at c25 c0;have hfz:=World.ownsRow.frozenAt (aa HO) (k*26+25)
   have HS:=ae ((aa HO).stored k 25 hlt (by omega) ver)
   clear hc0;obtain⟨G,hG⟩:∃I,gf LS k 25=I:=⟨_,rfl⟩;obtain⟨I,hI⟩:∃I,gf LS k 0=I:=⟨_,rfl⟩;rw[hG] at c25;rw[hI] at c0
   by_cases h25:G=0
   ·by_cases h0:I=id
    ·subst h25
     subst h0
     go_wp2_with fail
     go_region
     go_wp2_with fail
     go_ret;exact Or.inr ⟨k,hlt,⟨hG,hI⟩,aa hno,rfl,(aa HS).1,grown_drew (aa HS).2⟩
    subst h25
    go_wp2_with fail
    go_round
    case rel=>exact⟨k+1,by omega,by go_num,ae (fun i hi=>by
     by_cases e:i=k
     ·subst e; intro h; exact h0 (hI.symm.trans h.2)
     exact aa hno i (by omega))⟩
    case measure=>simp[intOf]; omega
   go_wp2_with fail
   go_round
   case rel=>exact⟨k+1,by omega,by go_num,ae (fun i hi=>by
    by_cases e:i=k
    ·subst e; intro h; exact h25 (hG.symm.trans h.1)
    exact aa hno i (by omega))⟩
   case measure=>simp[intOf]; omega
  have hkn:k=LS.length:=by omega
  subst hkn
  go_wp2_with fail
  go_ret;exact Or.inl ⟨rfl,rfl,aa hno⟩
def dY (LS:List (Nat->Int)):Nat->Nat
 | 0=>0
 | k+1=>if gf LS k 25=0 then dY LS k+1 else dY LS k
theorem cntL_le (LS:List (Nat->Int)):∀k,dY LS k<=k
 | 0=>Nat.le_refl _
 | k+1=>by rw[dY]; have:=cntL_le LS k; split<;>omega
theorem count_any (db B:Nat)(ver:Int)(lv:Value)(LS:List (Nat->Int))(w:World)(hd:w.heap[db]?=some (.cells #[ver,lv] 137))(ho:bf 147 26 w B lv LS)(hl:LS.length<=1000):
  Calls prog 168 #[.pointer (some ⟨db,0,none⟩)] w fun e w'=>e=.returned (.int .i64 (dY LS LS.length))/\w=w':=by
 obtain⟨oa,cap,rfl,_,hc⟩:=ho.at (by unfold maxLen; omega)
 have HC:=ae hc;obtain⟨d0,d1⟩:=dq hd;clear ho hc hd;go_enter func168,ntmps168
 go_wp2_with fail
 go_loop [3,4] (fun c i=>∃k n:Nat,k<=LS.length/\n<=k/\i=.int .i64 k/\c=.int .i64 n/\Hid (n=dY LS k)) (fun _ i=>LS.length-(intOf i).toNat)
 case atStart=>exact⟨0,0,by omega,by omega,rfl,rfl,ae rfl⟩
 case round=>
  obtain⟨k,n,hk,hnk,rfl,rfl,hn⟩:=hrel
  by_cases hlt:k<LS.length
  ·have hkn:(k:Int)<LS.length:=by omega
   obtain⟨b,off,rfl,_,hc0⟩:=aa HC (by omega)
   have c25:=hc0 k hlt 25 (by omega)
   clear hc0;obtain⟨G,hG⟩:∃I,gf LS k 25=I:=⟨_,rfl⟩;rw[hG] at c25
   by_cases h25:G=0
   ·have hn':Hid (n+1=dY LS (k+1)):=by show n+1=_; rw[dY,if_pos (hG.trans h25),aa hn]
    subst h25
    go_wp2_with fail
    go_round
    case rel=>exact⟨k+1,n+1,by omega,by omega,by go_num,by go_num,hn'⟩
    case measure=>simp[intOf]; omega
   have hn':Hid (n=dY LS (k+1)):=by show n=_; rw[dY,if_neg (fun h=>h25 (hG.symm.trans h)),aa hn]
   go_wp2_with fail
   go_round
   case rel=>exact⟨k+1,n,by omega,by omega,by go_num,rfl,hn'⟩
   case measure=>simp[intOf]; omega
  have hkn:k=LS.length:=by omega
  subst hkn
  go_wp2_with fail
  go_ret
  exact⟨aB (by rw[aa hn]),rfl⟩
def Fst (LS:List (Nat->Int))(id:Int)(i:Nat):Prop:=i<LS.length/\Lv (gf LS i) id/\∀j,j<i->¬Lv (gf LS j) id
def Non (LS:List (Nat->Int))(id:Int):Prop:=∀i,i<LS.length->¬Lv (gf LS i) id
def aO (f:Nat->Int)(ver:Int):Nat->Int:=fun j=>if j<24 then f j else if j=24 then ver else 0
def PutR (ver:Int)(f:Nat->Int)(LS:List (Nat->Int))(r:Int)(LS':List (Nat->Int)):Prop:=
 (right f=false/\r=7/\LS'=LS)\/(right f=true/\((∃i,Fst LS (f 0) i/\r=0/\LS'=dg LS i 25 ver++[aO f ver]) \/
  (Non LS (f 0)/\40<=dY LS LS.length/\r=11/\LS'=LS)\/(Non LS (f 0)/\dY LS LS.length<40/\r=0/\LS'=LS++[aO f ver])))
def DropR (ver:Int)(id:Int)(LS:List (Nat->Int))(r:Int)(LS':List (Nat->Int)):Prop:=
 (∃i,Fst LS id i/\r=0/\LS'=dg LS i 25 ver)\/(Non LS id/\r=10/\LS'=LS)
def iq (ver:Int)(e:Nat->Int)(LS:List (Nat->Int))(r:Int)(LS':List (Nat->Int)):Prop:=
 (e 0=0/\PutR ver (fun j=>e (1+j)) LS r LS')\/(e 0=1/\DropR ver (e 1) LS r LS')\/(e 0≠0/\e 0≠1/\r=9/\LS'=LS)
theorem PutR.len {ver:Int}{f:Nat->Int}{LS LS':List (Nat->Int)}{r:Int}(h:PutR ver f LS r LS'):LS'.length<=LS.length+1:=by
 rcases h with⟨_,_,rfl⟩|⟨_,⟨i,_,_,rfl⟩|⟨_,_,_,rfl⟩|⟨_,_,_,rfl⟩⟩
 ·omega
 ·simp[bp]
 ·omega
 simp
theorem DropR.len {ver id:Int}{LS LS':List (Nat->Int)}{r:Int}(h:DropR ver id LS r LS'):LS'.length<=LS.length+1:=by
 rcases h with⟨i,_,_,rfl⟩|⟨_,_,rfl⟩
 ·simp[bp]
 omega
theorem iq.len {ver:Int}{e:Nat->Int}{LS LS':List (Nat->Int)}{r:Int}(h:iq ver e LS r LS'):LS'.length<=LS.length+1:=by
 rcases h with⟨_,h⟩|⟨_,h⟩|⟨_,_,_,rfl⟩
 ·exact h.len
 ·exact h.len
 omega
structure Dr (w:World)(db:Nat)(ver:Int)(LS:List (Nat->Int))(lv:Value):Prop where
 blk:w.heap[db]?=some (.cells #[ver,lv] 137)
 own:bf 147 26 w (db+1) lv LS
theorem Dr.lt {w:World}{db:Nat}{ver:Int}{LS:List (Nat->Int)}{lv:Value}(h:Dr w db ver LS lv):db<w.heap.size:=(Array.getElem?_eq_some_iff.1 h.blk).1
theorem Dr.on {w w':World}{db:Nat}{ver:Int}{LS:List (Nat->Int)}{lv:Value}(h:Dr w db ver LS lv)(hb:Below w.heap.size w w'):Dr w' db ver LS lv:=⟨ag h.blk hb,h.own.on hb⟩
theorem drop_any (db:Nat)(ver:Int)(lv:Value)(LS:List (Nat->Int))(id:Int)(w:World)(hd:Dr w db ver LS lv)(hl:LS.length<=900):
  Calls prog 114 #[.pointer (some ⟨db,0,none⟩),id] w fun e w'=>∃r LS' lv',e=.returned (.int .i64 r)/\DropR ver id LS r LS'/\Dr w' db ver LS' lv'/\Below db w w':=by
 have E:=end_any db (db+1) ver lv LS id w hd.blk hd.own (by omega)
 have HD:=ae hd;clear hd;go_enter func114,ntmps114
 go_wp2_with fail
 refine E.mono ?_;rintro e w1 (⟨rfl,rfl,hno⟩|⟨i,hi,hlv,hfst,rfl,ho,hg⟩)
 ·have HN:=ae hno
  clear hno E
  go_wp2_with fail
  go_ret;exact⟨_,_,_,rfl,Or.inr ⟨aa HN,rfl,rfl⟩,aa HD,Below.refl _ _⟩
 have HF:=ae (And.intro hi (And.intro hlv hfst));have HO:=ae ho
 have hb1:=(Below.refl db w).grown hg (Nat.le_of_lt (aa HD).lt) (fun k hk=>by have:=((aa HD).own.lt k hk).1; omega)
 have hblk:w1.heap[db]?=some (.cells #[ver,lv] 137):=(hg.block db (aa HD).lt (fun e=>by have:=((aa HD).own.lt db e.symm).1; omega)).trans (aa HD).blk
 have HB:=ae hb1;have HK:=ae hblk;clear E hi hlv hfst ho hg hb1 hblk
 go_wp2_with fail
 go_ret;exact⟨_,_,_,rfl,Or.inl ⟨i,aa HF,rfl,rfl⟩,⟨aa HK,aa HO⟩,aa HB⟩
theorem built80 (f:Nat->Int)(ver:Int):prog.built 147 [(0,.agg (fc f)),(1,.int .i64 ver)]=some (cc 26 (aO f ver)):=by kernel_rfl
theorem kG (f:Nat->Int)(ver:Int)(A:Act)(o:Oper)(x y:Operand)(ho:o.op=.build 147 #[(0,x),(1,y)])(hx:A.eval x=.agg (fc f))(hy:A.eval y=.int .i64 ver)(w:World):
  (execOp A.eval o).run prog w=.ok (.value (.agg (cc 26 (aO f ver)))) w:=by
 have hb:=run_build (P:=prog) w 147 #[(0,.agg (fc f)),(1,.int .i64 ver)] (cc 26 (aO f ver)) (built80 f ver);unfold execOp;simp[ho,hx,hy,hb]
theorem jM (ev:Operand->Value)(o:Oper)(x:Operand)(ho:o.op=.buildSlice 117 1 #[(0,x)])(f:Nat->Int)(hx:ev x=.agg (cc 26 f))(w:World):(execOp ev o).run prog w=.ok (.value (.slice (some ⟨w.heap.size,0,none⟩) 1 1)) (w.alloc (.cells (cc 26 f) 147)):=by
 unfold execOp;simp only[ho];simp only[List.map_toArray,List.map_cons,List.map_nil,hx]
 kernel_rfl
theorem Tryz.info147:(prog.info? 147).map (fun i=>(i.zero,i.size,i.bytes))=some (some (.agg (cc 26 zf)),26,208):=by kernel_rfl
theorem lG (w:World)(B:Nat)(v:Value)(l news:List (Nat->Int))(hown:bf 147 26 w B v l)(b off c:Nat)(hnews:∀i,i<news.length->∀j,j<26->w.cell? ⟨b,off+i*26+j,none⟩=some (.int .i64 (gf news i j)))
  (hlen:l.length+news.length<=10000) (hB:B<=w.heap.size) :
  ∃v' w',(Builtin.append_ #[117,117] 117 #[v,.slice (some ⟨b,off,none⟩) news.length c]).run prog w=.ok v' w'/\bf 147 26 w' B v' (l++news)/\w.grownBy w' v.ownBlock:=by
 obtain⟨i0,hi,hz0,hz1,hz2⟩:=info_parts Tryz.info147
 obtain⟨v',w',hrun,r1,r2,_⟩:=run_append_own (P:=prog) w B 117 117 147 i0 (.agg (cc 26 zf)) 26 208 underlying117 hi hz0 hz1 hz2 (eE 26 zf) (by decide) v l.length (fl 26 l) hown ⟨b,off,none⟩ news.length c (fl 26 news) (dp 26 news)
  (fun j u hj=>by
   have hlt:j<news.length*26:=by
    have:=(List.getElem?_eq_some_iff.1 hj).1
    rwa [dp] at this
   have h1:j / 26<news.length:=by omega
   have e:j / 26*26+j%26=j:=by omega
   rw[<-e,gy 26 news _ _ h1 (by omega)] at hj
   rw[Addr.add_mid,<-Option.some.inj hj,show off+j=off+j / 26*26+j%26 by omega]
   exact hnews _ h1 _ (by omega))
  (fl_one 26 news) (by unfold maxLen; omega) (by omega) hB
 refine⟨v',w',hrun,?_,r2⟩;unfold bf;rw[pB];simpa using r1
theorem pC {w w':World}{v x' v':Value}(hr:(Builtin.append_ #[117,117] 117 #[v,x']).run prog w=.ok v' w')(a:Act)(o:Oper)(s x:Operand)(ho:o.op=.call { callee:=.builtin .append,args:=#[s,x],argTypes:=#[117,117] })(ht:o.type=117)(hs:a.eval s=v)(hx:a.eval x=x'):(execOp a.eval o).run prog w=.ok (.value v') w':=by
 unfold execOp;simp only[ho,resolve,invoke,builtin];simp[hs,hx,ht,hr,Result.andThen]
theorem cL {l:List Oper}{Q:Exit->Act->World->Prop}{S:World->Prop}{listed:Array Bool}{a:Act}{w:World}{fuel:Nat}{o:Oper}{rest:List Oper}(i:Nat)(hd:l.drop i=o::rest)(hw:Region.wanted o (yielded l.toArray a.tmps)=true)(w1:World)(h0:(execOp a.eval o).run prog w=.ok .skip w1)(hS:S w1)
  (h:wpAnyH prog .any l.toArray Q S fuel (listed.setIfInBounds i true) (a.put o.dst undef) w1) :
  wpOp prog l.toArray Q i (fun a' w'=>S w'/\wpAnyH prog .any l.toArray Q S fuel (listed.setIfInBounds i true) a' w') a w:=by
 unfold wpOp;simp only[gw hd];rw[if_pos hw]
 left
 unfold Oper.wp;rw[h0];exact⟨hS,h⟩
theorem dZ {w:World}{g i:Nat}{cs:Array Value}{t:TypeId}(h:w.heap[g]?=some (.cells cs t (0,0)))(v:Value):(w.setCell ⟨g,i,none⟩ v).heap[g]?=some (.cells (cs.setIfInBounds i v) t (0,0)):=by
 simp[World.setCell,Array.getElem?_modify,h]
theorem run_ld54 (ev:Operand->Value)(o:Oper)(x:Operand)(ho:o.op=.load 66 x)(g:Nat)(hx:ev x=.pointer (some ⟨g,0,none⟩))(f:Nat->Int){w:World}(hg:w.heap[g]?=some (.cells (fc f) 66)):(execOp ev o).run prog w=.ok (.value (.agg (fc f))) w:=by
 have hr:w.rangeAt g 0 (fc f).toList:=fun j v hv=>by
  rw[af hg,Nat.zero_add];simpa using hv
 have h:=run_loadVar_mid w g 0 66 (fc f).toList _ hr underlying66 rfl (by rw[Array.length_toList]; exact gK f)
 unfold execOp;simp only[ho,hx,Instr.loadAt,Instr.sureAddr,Sem.run_bind,Sem.run_pure,Result.andThen_ok,h]
theorem lF (ev:Operand->Value)(o:Oper)(x y:Operand)(ho:o.op=.store 117 x y)(db:Nat)(v:Value)(hx:ev x=.pointer (some ⟨db,1,none⟩))(hy:ev y=v)(ver:Int){lv:Value}{w:World}(hk:w.heap[db]?=some (.cells #[ver,lv] 137))(l:List (Nat->Int)){B:Nat}(hv:bf 147 26 w B v l):(execOp ev o).run prog w=.ok .skip (w.setCell ⟨db,1,none⟩ v):=by
 have hc:=(dq hk).2;have hf:=bi hk 1
 obtain⟨oa,n,cap,rfl⟩:∃oa n cap,v=.slice oa n cap:=by
  rcases hv.2 with⟨rfl,_⟩|⟨g,cap,cur,rfl,_⟩
  ·exact⟨_,_,_,rfl⟩
  exact⟨_,_,_,rfl⟩
 unfold execOp;simp only[ho,hx,hy];simp[go_sem,hc,hf]
theorem put_any (db:Nat)(ver:Int)(lv:Value)(LS:List (Nat->Int))(f:Nat->Int)(w:World)(hd:Dr w db ver LS lv)(hl:LS.length<=900):
  Calls prog 113 #[.pointer (some ⟨db,0,none⟩),.agg (fc f)] w fun e w'=>∃r LS' lv',e=.returned (.int .i64 r)/\PutR ver f LS r LS'/\Dr w' db ver LS' lv'/\Below db w w':=by
 have hg0:=heap_alloc_new w (.cells (fc f) 66);have HD:=ae hd;clear hd
 cases hr:right f with
 | false=>
  go_enter func113,ntmps113
  go_wp2_with (refine dh rfl _ rfl _ rfl f hg0 ?_)
  refine(pE hr _).mono ?_;rintro e w1 ⟨rfl,hb1⟩
  have hb:=(aj w (.cells (fc f) 66)).trans (hb1.mono (by simp))
  have HDN:=ae ((aa HD).on hb);have HB:=ae (hb.mono (Nat.le_of_lt (aa HD).lt));clear hb1 hb
  go_wp2_with fail
  go_ret;exact⟨_,_,_,rfl,Or.inl ⟨hr,rfl,rfl⟩,aa HDN,aa HB⟩
 | true=>
  have f0:=aN f 0 (by decide)
  obtain⟨I,hI⟩:∃I,f 0=I:=⟨_,rfl⟩;rw[hI] at f0;go_enter func113,ntmps113
  go_wp2_with (refine dh rfl _ rfl _ rfl f hg0 ?_)
  refine(iA hr _).mono ?_;rintro e w1 ⟨rfl,hb1⟩
  have hb:=(aj w (.cells (fc f) 66)).trans (hb1.mono (by simp))
  have hd1:=(aa HD).on hb;have HB1:=ae (hb.mono (Nat.le_of_lt (aa HD).lt));have hg1:=ag hg0 hb1;have hc1:=af hg1;have hlw:db<w.heap.size:=(aa HD).lt;clear hb1 hb hg0
  have E:=end_any db (db+1) ver lv LS I w1 hd1.blk hd1.own (by omega)
  have HD1:=ae hd1;clear hd1
  go_wp2_with fail
  refine E.mono ?_;rintro e w2 (⟨rfl,rfl,hno⟩|⟨i,hi,hlv,hfst,rfl,ho,hg⟩)
  ·have HN:=ae hno
   have C:=count_any db (db+1) ver lv LS w1 (aa HD1).blk (aa HD1).own (by omega)
   have hcl:=cntL_le LS LS.length;have HC:=ae C;clear hno E C;obtain⟨N,hN⟩:∃N,dY LS LS.length=N:=⟨_,rfl⟩;rw[hN] at hcl
   by_cases h40:40<=N
   ·have h40':(40:Int)<=N:=by omega
    go_wp2_with fail
    refine(aa HC).mono ?_;rintro e w9 ⟨rfl,rfl⟩;rw[hN]
    go_wp2_with fail
    go_ret
    exact⟨_,_,_,rfl,Or.inr ⟨hr,Or.inr (Or.inl ⟨by rw[hI]; exact aa HN,by rw[hN]; exact h40,rfl,rfl⟩)⟩,aa HD1,aa HB1⟩
   have h40':¬(40:Int)<=N:=by omega
   go_wp2_with fail
   refine(aa HC).mono ?_;rintro e w9 ⟨rfl,rfl⟩;rw[hN]
   go_wp2_with fail
   have HD2:=HD1;have HB2:=HB1;have hg2:=hg1;have HL:Hid (LS.length<=900):=hl
   have HPR:Hid (PutR ver f LS 0 (LS++[aO f ver])):=Or.inr ⟨hr,Or.inr (Or.inr ⟨by rw[hI]; exact aa HN,by rw[hN]; omega,rfl,rfl⟩)⟩
   clear hg1 hc1 h40 h40' hcl hN HC HN
   have HAP:Hid (lv.ownBlock≠some w.heap.size):=fun e=>by have:=((aa HD).own.lt _ e).2; omega
   have hblk:=(aa HD2).blk;obtain⟨dc0,dc1⟩:=dq hblk
   refine wp_region_held (S:=fun w'=>w'.heap[w.heap.size]?=some (.cells (fc f) 66)/\w'.cell? ⟨db,0,none⟩=some (.int .i64 ver)) (by kernel_rfl) ?_
   change wpAnyH _ _ _ _ _ _ _ _ (World.drew _);have hS:(World.drew w1).heap[w.heap.size]?=some (.cells (fc f) 66)/\(World.drew w1).cell? ⟨db,0,none⟩=some (.int .i64 ver):=⟨hg2,dc0⟩;have hD3:Dr (World.drew w1) db ver (LS) lv:=⟨hblk,(aa HD2).own⟩;have hB3:Below db w (World.drew w1):=Below.drew (aa HB2);have hC3:(World.drew w1).cell? ⟨db,1,none⟩=some lv:=dc1;generalize World.drew w1=w5 at hS hD3 hB3 hC3 ⊢;clear hblk dc0 dc1 HD2 HB2 hg2;have hl5:db+1<=w5.heap.size:=hD3.lt;have hA6:=heap_alloc_new w5 (.cells (cc 26 (aO f ver)) 147);have hS6:(w5.alloc (.cells (cc 26 (aO f ver)) 147)).heap[w.heap.size]?=some (.cells (fc f) 66)/\(w5.alloc (.cells (cc 26 (aO f ver)) 147)).cell? ⟨db,0,none⟩=some (.int .i64 ver):=⟨(Below.heap_alloc _ _ _ (Array.getElem?_eq_some_iff.1 hS.1).1).trans hS.1,(World.cell?_of_block (Below.heap_alloc _ _ _ hD3.lt)).trans hS.2⟩;have hC6:(w5.alloc (.cells (cc 26 (aO f ver)) 147)).cell? ⟨db,1,none⟩=some lv:=(World.cell?_of_block (Below.heap_alloc _ _ _ hD3.lt)).trans hC3;have hO6:=hD3.own.alloc (.cells (cc 26 (aO f ver)) 147);have hK6:=(Below.heap_alloc w5 (.cells (cc 26 (aO f ver)) 147) db hD3.lt).trans hD3.blk
   have hB6:=hB3.alloc (by omega) (.cells (cc 26 (aO f ver)) 147)
   have APP:=lG (w5.alloc (.cells (cc 26 (aO f ver)) 147)) (db+1) lv (LS) [aO f ver] hO6 w5.heap.size 0 1 (fun i hi j hj=>by
    obtain rfl:i=0:=by simp at hi; omega
    rw[af hA6]
    simpa[gf] using dc 26 (aO f ver) j hj) (by have:=aa HL; simp; omega) (by simp; omega)
   refine am 0 rfl db 0 hS ?_;refine am 1 rfl db 0 hS ?_;refine am 2 rfl db 0 hS ?_;refine am 3 rfl db 1 hS ?_;refine aH 5 rfl (.agg (fc f)) hS ?_ (hy:=fun w' hw'=>run_ld54 _ _ _ rfl _ rfl f hw'.1);refine am 6 rfl db 0 hS ?_;refine am 7 rfl db 0 hS ?_;refine am 8 rfl db 0 hS ?_
   refine aH 9 rfl (.int .i64 ver) hS ?_ (hy:=fun w' hw'=>by simp[go_sem,hw'.2])
   refine aH 10 rfl (.agg (cc 26 (aO f ver))) hS ?_ (hy:=fun w' hw'=>kG f ver _ _ _ _ rfl rfl rfl w')
   refine wpAnyH_all (rs:=[4,11]) (by kernel_rfl) (by simp) ?_
   intro i hi;simp only[List.mem_cons,List.not_mem_nil,or_false] at hi
   rcases hi with rfl|rfl
   focus
    refine bI 4 rfl rfl lv w5 (by simp[go_sem,hC3]) hS ?_
    simp only[qZ];refine aV 11 ?_;refine bI 11 rfl rfl (.slice (some ⟨w5.heap.size,0,none⟩) 1 1) _ (jM _ _ _ rfl (aO f ver) rfl w5) hS6 ?_
   rotate_left
   focus
    refine bI 11 rfl rfl (.slice (some ⟨w5.heap.size,0,none⟩) 1 1) _ (jM _ _ _ rfl (aO f ver) rfl w5) hS6 ?_;simp only[qZ];refine aV 4 ?_
    refine bI 4 rfl rfl lv (w5.alloc (.cells (cc 26 (aO f ver)) 147)) (by simp[go_sem,hC6]) hS6 ?_
   all_goals
    simp only[qZ];obtain⟨v7,w7,hr7,ho7,hg7⟩:=APP
    have hk7:w7.heap[db]?=some (.cells #[ver,lv] 137):=(hg7.block db (by simp; omega) (fun e=>by have:=(hO6.lt db e.symm).1; omega)).trans hK6
    have hf7:w7.heap[w.heap.size]?=some (.cells (fc f) 66):=(hg7.block w.heap.size (Array.getElem?_eq_some_iff.1 hS6.1).1 (fun e=>aa HAP e.symm)).trans hS6.1;have hS7:w7.heap[w.heap.size]?=some (.cells (fc f) 66)/\w7.cell? ⟨db,0,none⟩=some (.int .i64 ver):=⟨hf7,(dq hk7).1⟩
    have hB7:=hB6.grown hg7 (by simp; omega) (fun k hk=>by have:=(hO6.lt k hk).1; omega)
    refine aV 12 ?_;refine bI 12 rfl rfl v7 w7 (pC hr7 _ _ _ _ rfl rfl rfl rfl) hS7 ?_;simp only[qZ];have hS:=hS7;refine am 13 rfl db 0 hS ?_;refine am 14 rfl db 1 hS ?_;refine aV 15 ?_;have hk8:(w7.setCell ⟨db,1,none⟩ v7).heap[db]?=some (.cells #[ver,v7] 137):=dZ hk7 v7
    have ho8:bf 147 26 (w7.setCell ⟨db,1,none⟩ v7) (db+1) v7 (LS++[aO f ver]):=ho7.same (fun g hg=>Below.heap_setCell _ _ _ _ (by have:=(ho7.lt g hg).1; simp; omega))
    have hB8:=hB7.setCell (p:=⟨db,1,none⟩) aD v7
    refine cL 15 rfl rfl (w7.setCell ⟨db,1,none⟩ v7) (lF _ _ _ _ rfl db v7 rfl rfl ver hk7 _ ho7) ⟨(Below.heap_setCell _ _ _ _ (by simp; omega)).trans hf7,(dq hk8).1⟩ ?_
    simp only[Act.put]
    refine wpAnyH_done (by kernel_rfl) ?_ _
    have HF:=ae (And.intro (Dr.mk hk8 ho8) hB8);clear hk8 ho8 hB8 hB7 hS hS7 hf7 hk7 hr7 ho7 hg7 hA6 hS6 hC6 hO6 hK6 hB6 hD3 hB3 hC3
    go_wp2_with fail
    go_ret;exact⟨_,_,_,rfl,aa HPR,(aa HF).1,(aa HF).2⟩
  have hd2:Dr w2 db ver (dg LS i 25 ver) lv:=⟨(hg.block db (aa HD1).lt (fun e=>by have:=((aa HD1).own.lt db e.symm).1; omega)).trans (aa HD1).blk,ho⟩
  have HAP:Hid (lv.ownBlock≠some w.heap.size):=fun e=>by have:=((aa HD).own.lt _ e).2; omega
  have hg2:w2.heap[w.heap.size]?=some (.cells (fc f) 66):=(hg.block w.heap.size (Array.getElem?_eq_some_iff.1 hg1).1 (fun e=>aa HAP e.symm)).trans hg1
  have HB2:=ae ((aa HB1).grown hg (Nat.le_of_lt (aa HD1).lt) (fun k hk=>by have:=((aa HD1).own.lt k hk).1; omega))
  have HD2:=ae hd2;have HL:Hid (LS.length<=900):=hl
  have HPR:Hid (PutR ver f LS 0 (dg LS i 25 ver++[aO f ver])):=Or.inr ⟨hr,Or.inl ⟨i,by rw[hI]; exact⟨hi,hlv,hfst⟩,rfl,rfl⟩⟩
  clear E hg hd2 ho hi hlv hfst hg1 hc1
  go_wp2_with fail
  have hblk:=(aa HD2).blk;obtain⟨dc0,dc1⟩:=dq hblk
  refine wp_region_held (S:=fun w'=>w'.heap[w.heap.size]?=some (.cells (fc f) 66)/\w'.cell? ⟨db,0,none⟩=some (.int .i64 ver)) (by kernel_rfl) ?_
  change wpAnyH _ _ _ _ _ _ _ _ (World.drew _);have hS:(World.drew w2).heap[w.heap.size]?=some (.cells (fc f) 66)/\(World.drew w2).cell? ⟨db,0,none⟩=some (.int .i64 ver):=⟨hg2,dc0⟩;have hD3:Dr (World.drew w2) db ver (dg LS i 25 ver) lv:=⟨hblk,(aa HD2).own⟩;have hB3:Below db w (World.drew w2):=Below.drew (aa HB2);have hC3:(World.drew w2).cell? ⟨db,1,none⟩=some lv:=dc1;generalize World.drew w2=w5 at hS hD3 hB3 hC3 ⊢;clear hblk dc0 dc1 HD2 HB2 hg2;have hl5:db+1<=w5.heap.size:=hD3.lt;have hA6:=heap_alloc_new w5 (.cells (cc 26 (aO f ver)) 147);have hS6:(w5.alloc (.cells (cc 26 (aO f ver)) 147)).heap[w.heap.size]?=some (.cells (fc f) 66)/\(w5.alloc (.cells (cc 26 (aO f ver)) 147)).cell? ⟨db,0,none⟩=some (.int .i64 ver):=⟨(Below.heap_alloc _ _ _ (Array.getElem?_eq_some_iff.1 hS.1).1).trans hS.1,(World.cell?_of_block (Below.heap_alloc _ _ _ hD3.lt)).trans hS.2⟩;have hC6:(w5.alloc (.cells (cc 26 (aO f ver)) 147)).cell? ⟨db,1,none⟩=some lv:=(World.cell?_of_block (Below.heap_alloc _ _ _ hD3.lt)).trans hC3;have hO6:=hD3.own.alloc (.cells (cc 26 (aO f ver)) 147);have hK6:=(Below.heap_alloc w5 (.cells (cc 26 (aO f ver)) 147) db hD3.lt).trans hD3.blk
  have hB6:=hB3.alloc (by omega) (.cells (cc 26 (aO f ver)) 147)
  have APP:=lG (w5.alloc (.cells (cc 26 (aO f ver)) 147)) (db+1) lv (dg LS i 25 ver) [aO f ver] hO6 w5.heap.size 0 1 (fun i hi j hj=>by
   obtain rfl:i=0:=by simp at hi; omega
   rw[af hA6]
   simpa[gf] using dc 26 (aO f ver) j hj) (by have:=aa HL; simp[bp]; omega) (by simp; omega)
  refine am 0 rfl db 0 hS ?_;refine am 1 rfl db 0 hS ?_;refine am 2 rfl db 0 hS ?_;refine am 3 rfl db 1 hS ?_;refine aH 5 rfl (.agg (fc f)) hS ?_ (hy:=fun w' hw'=>run_ld54 _ _ _ rfl _ rfl f hw'.1);refine am 6 rfl db 0 hS ?_;refine am 7 rfl db 0 hS ?_;refine am 8 rfl db 0 hS ?_
  refine aH 9 rfl (.int .i64 ver) hS ?_ (hy:=fun w' hw'=>by simp[go_sem,hw'.2])
  refine aH 10 rfl (.agg (cc 26 (aO f ver))) hS ?_ (hy:=fun w' hw'=>kG f ver _ _ _ _ rfl rfl rfl w')
  refine wpAnyH_all (rs:=[4,11]) (by kernel_rfl) (by simp) ?_
  intro i hi;simp only[List.mem_cons,List.not_mem_nil,or_false] at hi
  rcases hi with rfl|rfl
  focus
   refine bI 4 rfl rfl lv w5 (by simp[go_sem,hC3]) hS ?_
   simp only[qZ];refine aV 11 ?_;refine bI 11 rfl rfl (.slice (some ⟨w5.heap.size,0,none⟩) 1 1) _ (jM _ _ _ rfl (aO f ver) rfl w5) hS6 ?_
  rotate_left
  focus
   refine bI 11 rfl rfl (.slice (some ⟨w5.heap.size,0,none⟩) 1 1) _ (jM _ _ _ rfl (aO f ver) rfl w5) hS6 ?_;simp only[qZ];refine aV 4 ?_
   refine bI 4 rfl rfl lv (w5.alloc (.cells (cc 26 (aO f ver)) 147)) (by simp[go_sem,hC6]) hS6 ?_
  all_goals
   simp only[qZ];obtain⟨v7,w7,hr7,ho7,hg7⟩:=APP
   have hk7:w7.heap[db]?=some (.cells #[ver,lv] 137):=(hg7.block db (by simp; omega) (fun e=>by have:=(hO6.lt db e.symm).1; omega)).trans hK6
   have hf7:w7.heap[w.heap.size]?=some (.cells (fc f) 66):=(hg7.block w.heap.size (Array.getElem?_eq_some_iff.1 hS6.1).1 (fun e=>aa HAP e.symm)).trans hS6.1;have hS7:w7.heap[w.heap.size]?=some (.cells (fc f) 66)/\w7.cell? ⟨db,0,none⟩=some (.int .i64 ver):=⟨hf7,(dq hk7).1⟩
   have hB7:=hB6.grown hg7 (by simp; omega) (fun k hk=>by have:=(hO6.lt k hk).1; omega)
   refine aV 12 ?_;refine bI 12 rfl rfl v7 w7 (pC hr7 _ _ _ _ rfl rfl rfl rfl) hS7 ?_;simp only[qZ];have hS:=hS7;refine am 13 rfl db 0 hS ?_;refine am 14 rfl db 1 hS ?_;refine aV 15 ?_;have hk8:(w7.setCell ⟨db,1,none⟩ v7).heap[db]?=some (.cells #[ver,v7] 137):=dZ hk7 v7
   have ho8:bf 147 26 (w7.setCell ⟨db,1,none⟩ v7) (db+1) v7 (dg LS i 25 ver++[aO f ver]):=ho7.same (fun g hg=>Below.heap_setCell _ _ _ _ (by have:=(ho7.lt g hg).1; simp; omega))
   have hB8:=hB7.setCell (p:=⟨db,1,none⟩) aD v7
   refine cL 15 rfl rfl (w7.setCell ⟨db,1,none⟩ v7) (lF _ _ _ _ rfl db v7 rfl rfl ver hk7 _ ho7) ⟨(Below.heap_setCell _ _ _ _ (by simp; omega)).trans hf7,(dq hk8).1⟩ ?_
   simp only[Act.put]
   refine wpAnyH_done (by kernel_rfl) ?_ _
   have HF:=ae (And.intro (Dr.mk hk8 ho8) hB8);clear hk8 ho8 hB8 hB7 hS hS7 hf7 hk7 hr7 ho7 hg7 hA6 hS6 hC6 hO6 hK6 hB6 hD3 hB3 hC3
   go_wp2_with fail
   go_ret;exact⟨_,_,_,rfl,aa HPR,(aa HF).1,(aa HF).2⟩
theorem ec_F (e:Nat->Int){w:World}{b:Nat}(h:w.heap[b]?=some (.cells (cc 25 e) 100)):w.rangeAt b 1 (fc fun j=>e (1+j)).toList:=by
 intro j v hv
 have hj:j<24:=by
  have:=(List.getElem?_eq_some_iff.1 hv).1;simpa[dX] using this
 have q:(fc fun j=>e (1+j))[j]?=some v:=by simpa using hv
 rw[aN _ j hj] at q
 rw[af h,dc 25 e (1+j) (by omega),q]
theorem edit_any (db:Nat)(ver:Int)(lv:Value)(LS:List (Nat->Int))(e:Nat->Int)(w:World)(hd:Dr w db ver LS lv)(hl:LS.length<=900):
  Calls prog 68 #[.pointer (some ⟨db,0,none⟩),.agg (cc 25 e)] w fun en w'=>∃r LS' lv',en=.returned (.int .i64 r)/\iq ver e LS r LS'/\Dr w' db ver LS' lv'/\Below db w w':=by
 have hg0:=heap_alloc_new w (.cells (cc 25 e) 100)
 have e0:=dc 25 e 0 (by decide)
 have e1:=dc 25 e 1 (by decide)
 have hrg:=ec_F e hg0;have hb:=aj w (.cells (cc 25 e) 100);have hdb:=Nat.le_of_lt hd.lt;have hd1:=hd.on hb;have HB:=ae (hb.mono hdb);have HD1:=ae hd1;have PA:=put_any db ver lv LS (fun j=>e (1+j)) _ hd1 hl;obtain⟨O,hO⟩:∃O,e 0=O:=⟨_,rfl⟩;obtain⟨I,hI⟩:∃O,e 1=O:=⟨_,rfl⟩;rw[hO] at e0;rw[hI] at e1;have DA:=drop_any db ver lv LS I _ hd1 hl;clear hd hd1 hb
 by_cases h0:O=0
 ·subst h0
  go_enter func68,ntmps68
  go_wp2_with (refine nI rfl _ rfl w.heap.size 1 rfl _ hrg ?_)
  refine PA.mono ?_;rintro en w1 ⟨r,LS',lv',rfl,hP,hD,hb1⟩;have H:=ae (And.intro hP (And.intro hD ((aa HB).trans hb1)));clear hP hD hb1 DA
  go_wp2_with fail
  go_ret;exact⟨_,_,_,rfl,Or.inl ⟨hO,(aa H).1⟩,(aa H).2.1,(aa H).2.2⟩
 by_cases h1:O=1
 ·subst h1
  go_enter func68,ntmps68
  go_wp2_with fail
  refine DA.mono ?_;rintro en w1 ⟨r,LS',lv',rfl,hP,hD,hb1⟩;have H:=ae (And.intro hP (And.intro hD ((aa HB).trans hb1)));clear hP hD hb1 PA
  go_wp2_with fail
  go_ret
  exact⟨_,_,_,rfl,Or.inr (Or.inl ⟨hO,by rw[hI]; exact(aa H).1⟩),(aa H).2.1,(aa H).2.2⟩
 go_enter func68,ntmps68
 go_wp2_with fail
 go_ret
 exact⟨_,_,_,rfl,Or.inr (Or.inr ⟨by rw[hO]; exact h0,by rw[hO]; exact h1,rfl,rfl⟩),aa HD1,aa HB⟩
def mE (ver:Int)(es:Nat->Nat->Int)(LS:List (Nat->Int)):Nat->List (Nat->Int)->Prop
 | 0,LS'=>LS'=LS
 | k+1,LS'=>∃LSm,mE ver es LS k LSm/\iq ver (es k) LSm 0 LS'
theorem mE.len {ver:Int}{es:Nat->Nat->Int}{LS:List (Nat->Int)}:∀{k:Nat} {LS':List (Nat->Int)},mE ver es LS k LS'->LS'.length<=LS.length+k
 | 0,_,h=>by rw[show _=LS from h]; omega
 | k+1,_,h=>by
  obtain⟨LSm,h1,h2⟩:=h;have:=h1.len;have:=h2.len;omega
theorem sz56 (f:Nat->Int):(prog.info? 100).map (·.size)=some (cc 25 f).size:=by rw[eE]; kernel_rfl
theorem ldm56 {ops:Array Oper}{rest:List Oper}{o:Oper}{a:Act}{w:World}{Q:Exit->Act->World->Prop}(hw:Region.wanted o (yielded ops a.tmps)=true)(x:Operand)(ho:o.op=.load 100 x)
  (b off:Nat) (hx:a.eval x=.pointer (some ⟨b,off,none⟩)) (f:Nat->Int) (hc:w.rangeAt b off (cc 25 f).toList)
  (h:wpList prog ops Q rest (a.put o.dst (.agg (cc 25 f))) w):wpList prog ops Q (o::rest) a w:=by
 unfold wpList;rw[if_pos hw]
 exact Or.inl (wp_load_mid 100 x ho b off hx (cc 25 f).toList _ hc underlying100 rfl (by rw[Array.length_toList]; exact sz56 f) h)
theorem oC (w:World):(Builtin.append_ #[117,117] 117 #[.slice none 0 0,.slice none 0 0]).run prog w=.ok (.slice none 0 0) w:=by kernel_rfl
theorem run_ap60s (w:World)(B:Nat)(sl:Value)(LS:List (Nat->Int)){Bs:Nat}(ho:bf 147 26 w Bs sl LS)(hl:LS.length<=1000)(hB:B<=w.heap.size):
  ∃v' w',(Builtin.append_ #[117,117] 117 #[.slice none 0 0,sl]).run prog w=.ok v' w'/\bf 147 26 w' B v' LS/\w.grownBy w' none:=by
 have h0:=ho
 rcases ho.2 with⟨rfl,hn⟩|⟨g,cap,cur,rfl,_,hg,_⟩
 ·obtain rfl:LS=[]:=List.eq_nil_of_length_eq_zero hn
  exact⟨_,_,oC w,jQ _ _ _ _,World.grownBy.refl _ _⟩
 obtain⟨v',w',r1,r2,r3⟩:=lG w B (.slice none 0 0) [] LS (jQ _ _ _ _) g 0 cap (fun i hi j hj=>by
  have hlt:i*26+j<LS.length*26:=by omega
  rw[Nat.zero_add,World.ownsRow.cellAt h0 (i*26+j) hlt,gy 26 LS i j hi hj]) (by simp; omega) hB
 exact⟨v',w',r1,by simpa using r2,r3⟩
def ApR (sb:Nat)(keep ver:Int)(pv:Value)(LS:List (Nat->Int))(n:Nat)(es:Nat->Nat->Int)(w:World)(e:Ending)(w':World):Prop:=
 (n=0/\e=.returned (.tuple #[(),(8:Int)])/\Below w.heap.size w w')\/(0<n/\100<=ver/\e=.returned (.tuple #[(),(11:Int)])/\Below w.heap.size w w') \/
 (0<n/\ver<100/\∃k LSk,mE (ver+1) es LS k LSk /\
  ((k=n/\e=.returned (.tuple #[.int .i64 (ver+1),()])/\w.grownBy w' (some sb)/\∃sl',w'.heap[sb]?=some (.cells #[keep,.int .i64 (ver+1),sl',pv] 119)/\bf 147 26 w' w.heap.size sl' LSk) \/
   (k<n/\∃r LS',iq (ver+1) (es k) LSk r LS'/\r≠0/\e=.returned (.tuple #[(),r])/\Below w.heap.size w w')))
theorem Apply_any (sb:Nat)(keep ver:Int)(sl pv:Value)(LS:List (Nat->Int))(v:Value)(n:Nat)(es:Nat->Nat->Int)(w:World)(hs:w.heap[sb]?=some (.cells #[keep,ver,sl,pv] 119))
  (ho:bf 147 26 w (sb+1) sl LS) (hl:LS.length<=800) (hv:mD 25 w v n es) (hn:n<=8) (hver:0<=ver/\ver<=100) :
  Calls prog 26 #[.pointer (some ⟨sb,0,none⟩),v] w fun e w'=>ApR sb keep ver pv LS n es w e w':=by
 obtain⟨oa,cap,rfl,_,hc⟩:=hv;have HC:=ae hc;have hlt:sb<w.heap.size:=(Array.getElem?_eq_some_iff.1 hs).1;have s1:=(af hs 1).trans (show _=some (Value.int .i64 ver) from rfl);have HS:=ae hs;have HO:=ae ho;clear hs ho hc
 by_cases h0:n=0
 ·have H:ApR sb keep ver pv LS n es w (.returned (.tuple #[(),(8:Int)])) w:=Or.inl ⟨h0,rfl,Below.refl _ _⟩
  have HH:=ae H;subst h0;clear H;go_enter func26,ntmps26
  go_wp2_with fail
  go_ret2
  exact aa HH
 have h1:¬(n:Int)<1:=by omega
 have h8:¬(8:Int)<n:=by omega
 by_cases h100:100<=ver
 ·have HH:Hid (ApR sb keep ver pv LS n es w (.returned (.tuple #[(),(11:Int)])) w):=Or.inr (Or.inl ⟨by omega,h100,rfl,Below.refl _ _⟩)
  go_enter func26,ntmps26
  go_wp2_with fail
  go_ret2
  exact aa HH
 obtain⟨V,hV⟩:∃V,ver+1=V:=⟨_,rfl⟩
 have hVr:1<=V/\V<=100:=by omega
 have hw:IntKind.i64.wrap (ver+1)=V:=by rw[hV]; exact dH _ (by omega)
 have hw':wrap64 (ver+1)=V:=by rw[hV]; exact IntWalk.wrap64_in _ ⟨by omega,by omega⟩
 have HVE:=ae hV;clear hV
 have hvl:¬(100:Int)<=ver:=by omega
 go_enter func26,ntmps26
 go_wp2_with fail
 have hA:=heap_alloc_new w (.cells #[V,.slice none 0 0] 137);have hB:=aj w (.cells #[V,.slice none 0 0] 137);have hs2:=ag (aa HS) hB;have ho2:=(aa HO).on hB
 refine wp_region_held (S:=fun w'=>w'.heap[sb]?=some (.cells #[keep,ver,sl,pv] 119)) (by kernel_rfl) ?_
 change wpAnyH _ _ _ _ _ _ _ _ (World.drew _);have hS:(World.drew (w.alloc (.cells #[V,.slice none 0 0] 137))).heap[sb]?=some (.cells #[keep,ver,sl,pv] 119):=hs2;have hk:(World.drew (w.alloc (.cells #[V,.slice none 0 0] 137))).heap[w.heap.size]?=some (.cells #[V,.slice none 0 0] 137):=hA;have ho3:bf 147 26 (World.drew (w.alloc (.cells #[V,.slice none 0 0] 137))) (sb+1) sl LS:=ho2;have hB3:Below w.heap.size w (World.drew (w.alloc (.cells #[V,.slice none 0 0] 137))):=Below.drew hB
 have hz3:(World.drew (w.alloc (.cells #[V,.slice none 0 0] 137))).heap.size=w.heap.size+1:=by simp[World.drew]
 generalize World.drew (w.alloc (.cells #[V,.slice none 0 0] 137))=w3 at hS hk ho3 hB3 hz3 ⊢;clear hA hB hs2 ho2;obtain⟨k0,k1⟩:=dq hk
 obtain⟨v4,w4,hr4,ho4,hg4⟩:=run_ap60s w3 (w.heap.size+1) sl LS ho3 (by omega) (by omega)
 have hS4:w4.heap[sb]?=some (.cells #[keep,ver,sl,pv] 119):=(hg4.block sb (by omega) (by simp)).trans hS
 have hk4:w4.heap[w.heap.size]?=some (.cells #[V,.slice none 0 0] 137):=(hg4.block w.heap.size (by omega) (by simp)).trans hk
 have hB4:=hB3.grown hg4 (by omega) (fun k hk=>by cases hk)
 refine am 0 rfl w.heap.size 1 hS ?_;refine am 2 rfl sb 0 hS ?_;refine am 3 rfl sb 0 hS ?_;refine am 4 rfl sb 2 hS ?_
 refine aH 5 rfl (sl) hS ?_ (hy:=fun w' hw'=>by simp[go_sem,(af hw' 2).trans (show _=some sl from rfl)])
 refine aV 1 ?_
 refine bI 1 rfl rfl (.slice none 0 0) w3 (by simp[go_sem,k1]) hS ?_
 simp only[qZ];refine aV 6 ?_;refine bI 6 rfl rfl v4 w4 (pC hr4 _ _ _ _ rfl rfl rfl rfl) hS4 ?_;simp only[qZ];have hS:=hS4;refine am 7 rfl w.heap.size 1 hS ?_;refine aV 8 ?_
 have hS5:=(Below.heap_setCell w4 ⟨w.heap.size,1,none⟩ v4 sb (by simp; omega)).trans hS4
 have hD5:Dr (w4.setCell ⟨w.heap.size,1,none⟩ v4) w.heap.size V LS v4:=⟨dZ hk4 v4,ho4.same (fun g hg=>Below.heap_setCell _ _ _ _ (by have:=(ho4.lt g hg).1; simp; omega))⟩
 have hB5:=hB4.setCell (p:=⟨w.heap.size,1,none⟩) aD v4;refine cL 8 rfl rfl (w4.setCell ⟨w.heap.size,1,none⟩ v4) (lF _ _ _ _ rfl w.heap.size v4 rfl rfl V hk4 _ ho4) hS5 ?_;simp only[Act.put]
 refine wpAnyH_done (by kernel_rfl) ?_ _
 have HD5:=ae hD5;have HB5:=ae hB5;clear hS hS4 hk4 hB4 hS5 hD5 hB5 hr4 ho4 hg4 hk k0 k1 ho3 hB3 hz3 hw hw' h1 h8 h100
 go_wp2_with fail
 go_loopw [7,8] (fun i _ wr=>∃(k:Nat) (LSk:List (Nat->Int)) (lv:Value),k<=n/\i=.int .i64 k/\Hid (mE V es LS k LSk)/\Hid (Dr wr w.heap.size V LSk lv)/\Below w.heap.size w wr) (fun i _ _=>n-(intOf i).toNat)
 case atStart=>exact⟨0,LS,v4,by omega,rfl,ae rfl,HD5,aa HB5⟩
 case round=>
  obtain⟨k,LSk,lv,hkn,rfl,hA,hD,hb⟩:=hrel;clear s1
  by_cases hlk:k<n
  ·have hk8:(k:Int)<n:=by omega
   obtain⟨b,off,rfl,hbl,hc0⟩:=aa HC (by omega)
   have hrg:=cs_rng (fun i hi j hj=>(hb.cell (p:=⟨b,off+i*25+j,none⟩) hbl).trans (hc0 i hi j hj)) hlk
   have EA:=edit_any w.heap.size V lv LSk (es k) wr (aa hD) (by have:=(aa hA).len; omega)
   have HBr:=ae hb;have HEA:=ae EA;clear hc0 hb EA
   go_wp2_with (refine ldm56 rfl _ rfl b (off+k*25) rfl (es k) hrg ?_)
   refine(aa HEA).mono ?_;rintro en w6 ⟨r,LS6,lv6,rfl,hE,hD6,hb6⟩;have HE:=ae hE;have HD6:=ae hD6;have HB6:=ae ((aa HBr).trans hb6);clear hE hD6 hb6 hrg HEA
   by_cases hr:r=0
   ·subst hr
    go_wp2_with fail
    go_roundw
    case rel=>exact⟨k+1,LS6,lv6,by omega,by go_num,ae ⟨LSk,aa hA,aa HE⟩,HD6,aa HB6⟩
    case measure=>simp[intOf]; omega
   have HH:Hid (ApR sb keep ver pv LS n es w (.returned (.tuple #[(),r])) w6):=Or.inr (Or.inr ⟨by omega,by omega,k,LSk,by rw[aa HVE]; exact aa hA,Or.inr ⟨hlk,r,LS6,by rw[aa HVE]; exact aa HE,hr,rfl,aa HB6⟩⟩)
   go_wp2_with fail
   go_ret2
   exact aa HH
  have hkn:k=n:=by omega
  subst hkn;have hdk:=(aa hD).blk;have hsr:=(hb.block sb hlt).trans (aa HS);obtain⟨d0,d1⟩:=dq hdk
  obtain⟨oa2,n2,cap2,hlv⟩:∃oa n cap,lv=.slice oa n cap:=by
   rcases(aa hD).own.2 with⟨h,_⟩|⟨g,cap,cur,h,_⟩
   ·exact⟨_,_,_,h⟩
   exact⟨_,_,_,h⟩
  subst hlv;have q1:=dZ (i:=2) hsr (.slice oa2 n2 cap2);have q2:=dZ (i:=1) q1 (.int .i64 V);have fz1:=bi hsr;have fz2:=bi q1;have ce1:=(af hsr 2).trans (show _=some sl from rfl);have ce2:=(af q1 1).trans (show _=some (Value.int .i64 ver) from rfl);have ce3:=(af q2 1).trans (show _=some (Value.int .i64 V) from rfl)
  have d0':=(World.cell?_of_block (a:=⟨w.heap.size,0,none⟩) (Below.heap_setCell wr ⟨sb,2,none⟩ (.slice oa2 n2 cap2) w.heap.size (by simp; omega))).trans d0
  have hown:bf 147 26 ((wr.setCell ⟨sb,2,none⟩ (.slice oa2 n2 cap2)).setCell ⟨sb,1,none⟩ (.int .i64 V)) w.heap.size (.slice oa2 n2 cap2) LSk:=((aa hD).own.same (fun g hg=>(Below.heap_setCell _ _ _ _ (by have:=((aa hD).own.lt g hg).1; simp; omega)).trans (Below.heap_setCell _ _ _ _ (by have:=((aa hD).own.lt g hg).1; simp; omega)))).mono (by omega)
  have HH:Hid (ApR sb keep ver pv LS k es w (.returned (.tuple #[V,()])) ((wr.setCell ⟨sb,2,none⟩ (.slice oa2 n2 cap2)).setCell ⟨sb,1,none⟩ (.int .i64 V))):=Or.inr (Or.inr ⟨by omega,by omega,k,LSk,by rw[aa HVE]; exact aa hA,Or.inl ⟨rfl,by rw[aa HVE],⟨hb.os,hb.tape,hb.output,by simpa[World.setCell] using hb.size,fun q hq hne=>(Below.heap_setCell _ _ _ _ (fun e=>hne (by rw[e]))).trans ((Below.heap_setCell _ _ _ _ (fun e=>hne (by rw[e]))).trans (hb.block q hq))⟩,_,by rw[aa HVE]; exact q2,hown⟩⟩)
  clear hb hdk hsr hown q1 q2
  go_wp2_with fail
  go_ret2
  exact aa HH
def eF (e:Nat->Int):Nat->Int:=fun j=>e (1+j)
def jg (xs:List Value):Nat->List Value->List Value
 | _,[]=>xs
 | o,v::r=>jg (xs.set o v) (o+1) r
theorem lD:∀(vs xs:List Value) (o:Nat),(jg xs o vs).length=xs.length
 | [],_,_=>rfl
 | v::r,xs,o=>by rw[jg,lD r]; simp
theorem kY:∀(vs xs:List Value) (o k:Nat),o+vs.length<=xs.length->(jg xs o vs)[k]?=if o<=k/\k<o+vs.length then vs[k-o]? else xs[k]?
 | [],xs,o,k,_=>by rw[jg,if_neg (by simp only[List.length_nil]; omega)]
 | v::r,xs,o,k,h=>by
  simp only[List.length_cons] at h
  rw[jg,kY r (xs.set o v) (o+1) k (by simp; omega)]
  by_cases h1:o+1<=k/\k<o+1+r.length
  ·rw[if_pos h1,if_pos (by simp only[List.length_cons]; omega),show k-o=(k-(o+1))+1 by omega,List.getElem?_cons_succ]
  rw[if_neg h1,List.getElem?_set]
  by_cases h2:o=k
  ·subst h2; rw[if_pos rfl,if_pos (by omega),if_pos (by simp only[List.length_cons]; omega)]; simp
  rw[if_neg h2,if_neg (by simp only[List.length_cons]; omega)]
theorem bf.there {T:TypeId}{m:Nat}{w:World}{B g cap:Nat}{l:List (Nat->Int)}(h:bf T m w B (.slice (some ⟨g,0,none⟩) l.length cap) l)(i:Nat)(hi:i<l.length):w.there g (i*m) m:=by
 intro j hj
 have hlt:i*m+j<l.length*m:=by
  have:(i+1)*m<=l.length*m:=Nat.mul_le_mul_right _ hi;rw[Nat.succ_mul] at this;omega
 refine⟨?_,World.ownsRow.frozenAt h _⟩;rw[World.ownsRow.cellAt h _ hlt,gy m l i j hi hj];rfl
theorem Tryz.info66:(prog.info? 66).map (fun i=>(i.zero,i.size,i.bytes))=some (some (.agg (fc zf)),24,192):=by kernel_rfl
theorem run_apF (w:World)(B:Nat)(v:Value)(l news:List (Nat->Int))(hown:bf 66 24 w B v l)(b off c:Nat)(hnews:∀i,i<news.length->∀j,j<24->w.cell? ⟨b,off+i*24+j,none⟩=some (.int .i64 (gf news i j)))
  (hlen:l.length+news.length<=10000) (hB:B<=w.heap.size) :
  ∃v' w',(Builtin.append_ #[62,62] 62 #[v,.slice (some ⟨b,off,none⟩) news.length c]).run prog w=.ok v' w'/\bf 66 24 w' B v' (l++news)/\w.grownBy w' v.ownBlock:=by
 obtain⟨i0,hi,hz0,hz1,hz2⟩:=info_parts Tryz.info66
 obtain⟨v',w',hrun,r1,r2,_⟩:=run_append_own (P:=prog) w B 62 62 66 i0 (.agg (fc zf)) 24 192 underlying62 hi hz0 hz1 hz2 (dX zf) (by decide) v l.length (fl 24 l) hown ⟨b,off,none⟩ news.length c (fl 24 news) (dp 24 news)
  (fun j u hj=>by
   have hlt:j<news.length*24:=by
    have:=(List.getElem?_eq_some_iff.1 hj).1
    rwa [dp] at this
   have h1:j / 24<news.length:=by omega
   have e:j / 24*24+j%24=j:=by omega
   rw[<-e,gy 24 news _ _ h1 (by omega)] at hj
   rw[Addr.add_mid,<-Option.some.inj hj,show off+j=off+j / 24*24+j%24 by omega]
   exact hnews _ h1 _ (by omega))
  (fl_one 24 news) (by unfold maxLen; omega) (by omega) hB
 refine⟨v',w',hrun,?_,r2⟩;unfold bf;rw[pB];simpa using r1
theorem ex_apF {w w':World}{v x' v':Value}(hr:(Builtin.append_ #[62,62] 62 #[v,x']).run prog w=.ok v' w')(a:Act)(o:Oper)(s x:Operand)(ho:o.op=.call { callee:=.builtin .append,args:=#[s,x],argTypes:=#[62,62] })(ht:o.type=62)(hs:a.eval s=v)(hx:a.eval x=x'):(execOp a.eval o).run prog w=.ok (.value v') w':=by
 unfold execOp;simp only[ho,resolve,invoke,builtin];simp[hs,hx,ht,hr,Result.andThen]
theorem wl_apF {ops:Array Oper}{rest:List Oper}{o:Oper}{a:Act}{Q:Exit->Act->World->Prop}{W w':World}{v x' v':Value}(hr:(Builtin.append_ #[62,62] 62 #[v,x']).run prog W=.ok v' w')(hgd:o.guard=none)(s x:Operand)(ho:o.op=.call { callee:=.builtin .append,args:=#[s,x],argTypes:=#[62,62] })(ht:o.type=62)(hs:a.eval s=v)(hx:a.eval x=x')
  (h:wpList prog ops Q rest (a.put o.dst v') w'):wpList prog ops Q (o::rest) a W:=
 wpList_plain hgd fun _ hK=>by
  unfold Oper.wp;rw[ex_apF hr a o s x ho ht hs hx];exact hK _ _ h
def No (FL:List (Nat->Int))(id:Int):Prop:=∀i,i<FL.length->gf FL i 0≠id
theorem New_any (k:Int)(w:World)(h:0<=k/\k<=4):
  Calls prog 21 #[k] w fun e w'=>e=.returned (.tuple #[.pointer (some ⟨w.heap.size,0,none⟩),()])/\w'=w.alloc (.cells #[k,(),.slice none 0 0,.slice none 0 0] 119):=by
 go_enter func21,ntmps21
 go_wp2
 go_ret2
 exact⟨rfl,rfl⟩
def lc (v:Int)(g:Nat->Int):Int:=if g 25≠0/\g 25<=v then g 25 else if g 24<=v then g 24 else 0
theorem l5 (g:Nat->Int)(v:Int)(w:World):
  Calls prog 76 #[.agg (cc 26 g),v] w fun e w'=>e=.returned (.int .i64 (lc v g))/\Below w.heap.size w w':=by
 have c25:=dc 26 g 25 (by decide)
 have c24:=dc 26 g 24 (by decide)
 have HB:=ae (aj w (.cells (cc 26 g) 147));obtain⟨G,hG⟩:∃G,g 25=G:=⟨_,rfl⟩;obtain⟨C,hC⟩:∃G,g 24=G:=⟨_,rfl⟩
 have HL:Hid (lc v g=if G≠0/\G<=v then G else if C<=v then C else 0):=by show lc v g=_; rw[lc,hG,hC]
 rw[hG] at c25;rw[hC] at c24;clear hG hC
 by_cases h1:G=0
 ·by_cases h3:C<=v
  ·go_enter func76,ntmps76
   go_wp2
   go_ret
   exact⟨aB (by rw[aa HL,if_neg (by omega),if_pos h3]),aa HB⟩
  go_enter func76,ntmps76
  go_wp2
  go_ret
  exact⟨aB (by rw[aa HL,if_neg (by omega),if_neg (by omega)]),aa HB⟩
 by_cases h2:G<=v
 ·go_enter func76,ntmps76
  go_wp2
  go_ret
  exact⟨aB (by rw[aa HL,if_pos ⟨h1,h2⟩]),aa HB⟩
 by_cases h3:C<=v
 ·go_enter func76,ntmps76
  go_wp2
  go_ret
  exact⟨aB (by rw[aa HL,if_neg (by omega),if_pos h3]),aa HB⟩
 go_enter func76,ntmps76
 go_wp2
 go_ret
 exact⟨aB (by rw[aa HL,if_neg (by omega),if_neg (by omega)]),aa HB⟩
def eW (v:Int)(l z x y:Int)(LS:List (Nat->Int)):Nat->Int
 | 0=>0
 | k+1=>bif decide (eW v l z x y LS k<lc v (gf LS k)) && cJ (gf LS k) l z x y then lc v (gf LS k) else eW v l z x y LS k
theorem gL {v l z x y:Int}{LS:List (Nat->Int)}{k:Nat}(h:(decide (eW v l z x y LS k<lc v (gf LS k)) && cJ (gf LS k) l z x y)=false):eW v l z x y LS (k+1)=eW v l z x y LS k:=by rw[eW,h]; rfl
theorem jI {v l z x y:Int}{LS:List (Nat->Int)}{k:Nat}(h:(decide (eW v l z x y LS k<lc v (gf LS k)) && cJ (gf LS k) l z x y)=true):eW v l z x y LS (k+1)=lc v (gf LS k):=by rw[eW,h]; rfl
theorem sz80 (f:Nat->Int):(prog.info? 147).map (·.size)=some (cc 26 f).size:=by rw[eE]; kernel_rfl
theorem ldm80 {ops:Array Oper}{rest:List Oper}{o:Oper}{a:Act}{w:World}{Q:Exit->Act->World->Prop}(hw:Region.wanted o (yielded ops a.tmps)=true)(x:Operand)(ho:o.op=.load 147 x)
  (b off:Nat) (hx:a.eval x=.pointer (some ⟨b,off,none⟩)) (f:Nat->Int) (hc:w.rangeAt b off (cc 26 f).toList)
  (h:wpList prog ops Q rest (a.put o.dst (.agg (cc 26 f))) w):wpList prog ops Q (o::rest) a w:=by
 unfold wpList;rw[if_pos hw]
 exact Or.inl (wp_load_mid 147 x ho b off hx (cc 26 f).toList _ hc underlying147 rfl (by rw[Array.length_toList]; exact sz80 f) h)
theorem life_F {W:World}{b off:Nat}{g:Nat->Int}(h:W.rangeAt b off (cc 26 g).toList):W.rangeAt b off (fc g).toList:=by
 intro j v hv
 have hj:j<24:=by
  have:=(List.getElem?_eq_some_iff.1 hv).1;simpa[dX] using this
 have e:(fc g)[j]?=some v:=by simpa using hv
 rw[aN _ j hj] at e;refine h j v ?_
 rw[Array.getElem?_toList,dc 26 g j (by omega)]
 exact e
structure Sto (w:World)(sb:Nat)(keep ver:Int)(sl pv:Value)(LS:List (Nat->Int)):Prop where
 blk:w.heap[sb]?=some (.cells #[keep,ver,sl,pv] 119)
 own:bf 147 26 w (sb+1) sl LS
theorem Sto.lt {w:World}{sb:Nat}{keep ver:Int}{sl pv:Value}{LS:List (Nat->Int)}(h:Sto w sb keep ver sl pv LS):sb<w.heap.size:=(Array.getElem?_eq_some_iff.1 h.blk).1
theorem Sto.on {w w':World}{sb:Nat}{keep ver:Int}{sl pv:Value}{LS:List (Nat->Int)}(h:Sto w sb keep ver sl pv LS)(hb:Below w.heap.size w w'):Sto w' sb keep ver sl pv LS:=⟨ag h.blk hb,h.own.on hb⟩
theorem Sto.cells {w:World}{sb:Nat}{keep ver:Int}{sl pv:Value}{LS:List (Nat->Int)}(h:Sto w sb keep ver sl pv LS):w.cell? ⟨sb,1,none⟩=some (.int .i64 ver)/\w.cell? ⟨sb,2,none⟩=some sl:=⟨(af h.blk 1).trans rfl,(af h.blk 2).trans rfl⟩
theorem nZ (sb:Nat)(keep ver:Int)(sl pv:Value)(LS:List (Nat->Int))(v l z x y:Int)(w:World)(hs:Sto w sb keep ver sl pv LS)(hl:LS.length<=1000)(he:keyErr l z x y=0)(hv:0<=v/\v<=ver):
  Calls prog 38 #[.pointer (some ⟨sb,0,none⟩),v,.agg #[l,z,x,y]] w fun e w'=>e=.returned (.tuple #[.int .i64 (eW v l z x y LS LS.length),()])/\Below w.heap.size w w':=by
 have hg0:=heap_alloc_new w (.cells #[l,z,x,y] 39);have K:=fun W=>bV l z x y W;rw[he] at K;have HS:=ae (hs.on (aj w (.cells #[l,z,x,y] 39)));clear hs he;go_enter func38,ntmps38
 go_wp2_with fail
 refine(K _).mono ?_;rintro e w1 ⟨rfl,hb1⟩;have hs1:=(aa HS).on hb1;have hg1:=ag hg0 hb1;obtain⟨s1,s2⟩:=hs1.cells
 obtain⟨oa,cap,rfl,_,hc⟩:=hs1.own.at (by unfold maxLen; omega)
 have HC:=ae hc
 have HB:=ae ((aj _ _).trans (hb1.mono (by simp)))
 have hlt:=hs1.lt
 have h1:¬v<0:=by omega
 have h2:¬ver<v:=by omega
 clear hb1 hg0 hs1 hc HS
 go_wp2_with fail
 go_loopw [9,10,11] (fun st i _ wr=>∃(k:Nat) (s:Int),k<=LS.length/\i=.int .i64 k/\st=.int .i64 s/\Hid (s=eW v l z x y LS k)/\Below w1.heap.size w1 wr) (fun _ i _ _=>LS.length-(intOf i).toNat)
 case atStart=>exact⟨0,0,by omega,rfl,rfl,ae rfl,Below.refl _ _⟩
 case round=>
  obtain⟨k,s,hk,rfl,rfl,hst,hb⟩:=hrel;have r2:=(hb.cell (p:=⟨sb,2,none⟩) hlt).trans s2;have hgr:=ag hg1 hb;have HBr:=ae hb;clear s1 s2
  by_cases hlk:k<LS.length
  ·have hkn:(k:Int)<LS.length:=by omega
   obtain⟨b,off,rfl,hbl,hc0⟩:=aa HC (by omega)
   have hrgW:∀W,Below w1.heap.size w1 W->W.rangeAt b (off+k*26) (cc 26 (gf LS k)).toList:=fun W h=>cs_rng (fun i hi j hj=>(h.cell (p:=⟨b,off+i*26+j,none⟩) hbl).trans (hc0 i hi j hj)) hlk;have hrg:=hrgW wr hb;have HRG:=ae hrgW;clear hc0 hb hrgW
   go_wp2_with (refine ldm80 rfl _ rfl b (off+k*26) rfl (gf LS k) hrg ?_)
   refine(l5 (gf LS k) v _).mono ?_;rintro e w3 ⟨rfl,hb3⟩;obtain⟨C,hC⟩:∃C,lc v (gf LS k)=C:=⟨_,rfl⟩;rw[hC];have hb4:=(aa HBr).trans (hb3.mono (aa HBr).size);have r3:=(hb4.cell (p:=⟨sb,2,none⟩) hlt).trans (show w1.cell? ⟨sb,2,none⟩=_ from((aa HBr).cell (p:=⟨sb,2,none⟩) hlt).symm.trans r2);have hg3:=ag hgr hb3;have HB4:=ae hb4;have hl3:sb<w3.heap.size:=Nat.lt_of_lt_of_le hlt hb4.size;clear hb3 hgr r2 hrg
   by_cases hlt2:s<C
   ·have TT:=fun W=>Touches_any (gf LS k) l z x y W
    cases ht:cJ (gf LS k) l z x y with
    | false=>
     rw[ht] at TT;clear hb4
     go_wp2
     refine aM (by kernel_rfl) (by kernel_rfl) ?_
     refine bD (.int .i64 C) ?_;refine bD (.int .i64 s) ?_
     refine bH (.bool true) ?_ (h:=fun _ _=>by simp[go_sem,hlt2])
     refine bD (.bool true) ?_
     refine eI sb 0 ?_ (hw:=by kernel_rfl)
     refine bd sb 0 ?_ (hw:=by kernel_rfl)
     refine bd sb 2 ?_ (hw:=by kernel_rfl)
     refine bH (.slice (some ⟨b,off,none⟩) LS.length cap) ?_ (h:=fun w' h=>by simp[go_sem,(h.cell (p:=⟨sb,2,none⟩) hl3).trans r3]) (hw:=by kernel_rfl)
     refine bD (.int .i64 k) ?_ (hw:=by kernel_rfl)
     refine bd b (off+k*26) ?_ (h:=fun _ _=>by simp[go_sem,hkn]) (hw:=by kernel_rfl)
     refine bd b (off+k*26) ?_ (hw:=by kernel_rfl)
     refine aR (by kernel_rfl) 66 _ rfl b (off+k*26) rfl (fc (gf LS k)) _ underlying66 rfl (gK _) (fun w' h=>life_F (aa HRG w' ((aa HB4).trans (h.mono (aa HB4).size)))) ?_
     simp only[qZ]
     refine aR (by kernel_rfl) 39 _ rfl w.heap.size 0 rfl #[l,z,x,y] _ underlying39 rfl (sz28 l z x y) (fun w' h=>dz hg3 h) ?_
     simp only[qZ]
     refine br (by kernel_rfl) 77 #[.agg (fc (gf LS k)),.agg #[l,z,x,y]] (fun _=>by simp[go_sem]) _ TT ?_
     simp only[qZ];refine bH (.bool false) ?_;refine wpQuiet_nil ?_;intro w6 hw6;have HB6:=ae ((aa HB4).trans (hw6.mono (aa HB4).size));clear hw6 TT r3 hg3
     have hst':Hid (s=eW v l z x y LS (k+1)):=by show s=_; rw[gL (by rw[ht,Bool.and_false])]; exact aa hst
     go_wp2_with fail
     go_roundw
     case rel=>exact⟨k+1,s,by omega,by go_num,rfl,hst',aa HB6⟩
     case measure=>simp[intOf]; omega
    | true=>
     rw[ht] at TT;clear hb4
     go_wp2
     refine aM (by kernel_rfl) (by kernel_rfl) ?_
     refine bD (.int .i64 C) ?_;refine bD (.int .i64 s) ?_
     refine bH (.bool true) ?_ (h:=fun _ _=>by simp[go_sem,hlt2])
     refine bD (.bool true) ?_
     refine eI sb 0 ?_ (hw:=by kernel_rfl)
     refine bd sb 0 ?_ (hw:=by kernel_rfl)
     refine bd sb 2 ?_ (hw:=by kernel_rfl)
     refine bH (.slice (some ⟨b,off,none⟩) LS.length cap) ?_ (h:=fun w' h=>by simp[go_sem,(h.cell (p:=⟨sb,2,none⟩) hl3).trans r3]) (hw:=by kernel_rfl)
     refine bD (.int .i64 k) ?_ (hw:=by kernel_rfl)
     refine bd b (off+k*26) ?_ (h:=fun _ _=>by simp[go_sem,hkn]) (hw:=by kernel_rfl)
     refine bd b (off+k*26) ?_ (hw:=by kernel_rfl)
     refine aR (by kernel_rfl) 66 _ rfl b (off+k*26) rfl (fc (gf LS k)) _ underlying66 rfl (gK _) (fun w' h=>life_F (aa HRG w' ((aa HB4).trans (h.mono (aa HB4).size)))) ?_
     simp only[qZ]
     refine aR (by kernel_rfl) 39 _ rfl w.heap.size 0 rfl #[l,z,x,y] _ underlying39 rfl (sz28 l z x y) (fun w' h=>dz hg3 h) ?_
     simp only[qZ]
     refine br (by kernel_rfl) 77 #[.agg (fc (gf LS k)),.agg #[l,z,x,y]] (fun _=>by simp[go_sem]) _ TT ?_
     simp only[qZ];refine bH (.bool true) ?_;refine wpQuiet_nil ?_;intro w6 hw6;have HB6:=ae ((aa HB4).trans (hw6.mono (aa HB4).size));clear hw6 TT r3 hg3
     have hst':Hid (C=eW v l z x y LS (k+1)):=by show C=_; rw[jI (by rw[ht,Bool.and_true,<-aa hst,hC]; exact decide_eq_true hlt2),hC]
     go_wp2_with fail
     go_roundw
     case rel=>exact⟨k+1,C,by omega,by go_num,rfl,hst',aa HB6⟩
     case measure=>simp[intOf]; omega
   clear hb4
   go_wp2
   refine aM (by kernel_rfl) (by kernel_rfl) ?_
   refine bD (.int .i64 C) ?_;refine bD (.int .i64 s) ?_
   refine bH (.bool false) ?_ (h:=fun _ _=>by simp[go_sem]; omega)
   refine bD (.bool false) ?_
   go_big_quiet_skip
   go_big_quiet_skip
   go_big_quiet_skip
   go_big_quiet_skip
   go_big_quiet_skip
   go_big_quiet_skip
   go_big_quiet_skip
   go_big_quiet_skip
   go_big_quiet_skip
   go_big_quiet_skip
   refine bH (.bool false) ?_;refine wpQuiet_nil ?_;intro w6 hw6;have HB6:=ae ((aa HB4).trans (hw6.mono (aa HB4).size));clear hw6 r3 hg3
   have hst':Hid (s=eW v l z x y LS (k+1)):=by show s=_; rw[gL (by rw[<-aa hst,hC,decide_eq_false (by omega),Bool.false_and])]; exact aa hst
   go_wp2_with fail
   go_roundw
   case rel=>exact⟨k+1,s,by omega,by go_num,rfl,hst',aa HB6⟩
   case measure=>simp[intOf]; omega
  have hkn:k=LS.length:=by omega
  subst hkn;have HF:=ae ((aa HB).trans (hb.mono (aa HB).size));clear hb
  go_wp2_with fail
  go_ret2
  exact⟨by rw[aa hst]; rfl,aa HF⟩
def SF (a b:Nat->Int):Prop:=∀k,k<24->a k=b k
theorem SF.symm {a b:Nat->Int}(h:SF a b):SF b a:=fun k hk=>(h k hk).symm
theorem SF.trans {a b c:Nat->Int}(h:SF a b)(h':SF b c):SF a c:=fun k hk=>(h k hk).trans (h' k hk)
theorem oA (g:Nat->Int)(x:Int):SF (upd g 25 x) g:=fun k hk=>by simp only[upd]; rw[if_neg (by omega)]
theorem gd (f:Nat->Int)(ver:Int):SF (aO f ver) f:=fun k hk=>by simp only[aO]; rw[if_pos hk]
theorem ny {f g:Nat->Int}(h:SF f g):right f=right g:=by
 have hp:∀i,i<8->pt f i=pt g i:=fun i hi=>by simp only[pt,h (8+i) (by omega),h (16+i) (by omega),h 7 (by omega)]
 have hps:nC f 8=nC g 8:=by
  rw[Bool.eq_iff_iff];simp only[nC,List.all_eq_true,List.mem_range]
  exact⟨fun H i hi=>by rw[<-hp i hi]; exact H i hi,fun H i hi=>by rw[hp i hi]; exact H i hi⟩
 simp only[right,bO,form,hps,h 0 (by omega),h 1 (by omega),h 2 (by omega),h 3 (by omega),h 4 (by omega),h 5 (by omega),h 6 (by omega),h 7 (by omega)]
theorem axT_ext {a b:Nat->Int}{n:Nat}{r lo hi:Int}(h:∀i,i<n->a i=b i):nh a n r lo hi=nh b n r lo hi:=by
 have h1:apB a r lo n=apB b r lo n:=by
  rw[Bool.eq_iff_iff];simp only[apB,List.all_eq_true,List.mem_range]
  exact⟨fun H i hi=>by rw[<-h i hi]; exact H i hi,fun H i hi=>by rw[h i hi]; exact H i hi⟩
 have h2:apA a r hi n=apA b r hi n:=by
  rw[Bool.eq_iff_iff];simp only[apA,List.all_eq_true,List.mem_range]
  exact⟨fun H i hi=>by rw[<-h i hi]; exact H i hi,fun H i hi=>by rw[h i hi]; exact H i hi⟩
 rw[nh,nh,h1,h2]
theorem fg {f g:Nat->Int}(h:SF f g)(l z x y:Int):cJ f l z x y=cJ g l z x y:=by
 unfold cJ;rw[ny h]
 cases hr:right g with
 | false=>rfl
 | true=>
  have h7:=n_in (ci hr)
  have hs:iw f l z=iw g l z:=by simp only[iw,h 1 (by omega),h 5 (by omega)]
  rw[hs,h 7 (by omega),h 6 (by omega),axT_ext (a:=fun i=>f (8+i)) (b:=fun i=>g (8+i)) (fun i hi=>h (8+i) (by omega)),axT_ext (a:=fun i=>f (16+i)) (b:=fun i=>g (16+i)) (fun i hi=>h (16+i) (by omega))]
theorem jq {A B:List (Nat->Int)}:∀k,(∀i,i<k->(gf A i 25=0↔gf B i 25=0))->dY A k=dY B k
 | 0,_=>rfl
 | k+1,h=>by
  rw[dY,dY,jq k fun i hi=>h i (by omega)]
  by_cases c:gf A k 25=0
  ·rw[if_pos c,if_pos ((h k (by omega)).1 c)]
  rw[if_neg c,if_neg (fun h'=>c ((h k (by omega)).2 h'))]
theorem nS {A B:List (Nat->Int)}(j:Nat)(hj:gf A j 25=0)(hj':gf B j 25≠0):∀k,j<k->(∀i,i<k->i≠j->(gf A i 25=0↔gf B i 25=0))->dY A k=dY B k+1
 | 0,h,_=>by omega
 | k+1,h,hi=>by
  by_cases e:j=k
  ·subst e
   rw[dY,dY,if_pos hj,if_neg hj',jq j fun i h'=>hi i (by omega) (by omega)]
  rw[dY,dY,nS j hj hj' k (by omega) fun i h'=>hi i (by omega)]
  by_cases c:gf A k 25=0
  ·rw[if_pos c,if_pos ((hi k (by omega) (fun q=>e q.symm)).1 c)]
  rw[if_neg c,if_neg (fun h'=>c ((hi k (by omega) (fun q=>e q.symm)).2 h'))]
theorem cnt_end {LS:List (Nat->Int)}{i:Nat}(hi:i<LS.length)(h:gf LS i 25=0){ver:Int}(hv:ver≠0):dY LS LS.length=dY (dg LS i 25 ver) (dg LS i 25 ver).length+1:=by
 rw[bp];refine nS i h ?_ _ hi fun k hk hne=>?_
 ·rw[cz _ _ _ _ _ hi,if_pos rfl]; simpa[upd] using hv
 rw[cz _ _ _ _ _ hk,if_neg hne]
theorem cnt_new (LS:List (Nat->Int))(f:Nat->Int)(ver:Int):dY (LS++[aO f ver]) (LS++[aO f ver]).length=dY LS LS.length+1:=by
 rw[List.length_append,List.length_singleton,dY,cD,if_pos (by simp[aO])]
 have:=jq (A:=LS++[aO f ver]) (B:=LS) LS.length fun i hi=>by rw[di hi]
 omega
structure mC (LS FL:List (Nat->Int)):Prop where
 cnt:dY LS LS.length=FL.length
 fwd:∀i,i<LS.length->gf LS i 25=0->∃j,j<FL.length/\SF (gf LS i) (gf FL j)
 fro:∀j,j<FL.length->∃i,i<LS.length/\gf LS i 25=0/\SF (gf LS i) (gf FL j)
 rt:∀j,j<FL.length->Rt (gf FL j)
 dis:∀j j',j<FL.length->j'<FL.length->gf FL j 0=gf FL j' 0->j=j'
 one:∀i i',i<LS.length->i'<LS.length->gf LS i 25=0->gf LS i' 25=0->gf LS i 0=gf LS i' 0->i=i'
theorem oG:mC [] []:=⟨rfl,fun i hi=>by simp at hi,fun i hi=>by simp at hi,fun i hi=>by simp at hi,fun i j hi=>by simp at hi,fun i j hi=>by simp at hi⟩
theorem mC.fst {LS FL:List (Nat->Int)}(h:mC LS FL){id:Int}{i:Nat}(hf:Fst LS id i):∃j,j<FL.length/\gf FL j 0=id/\SF (gf LS i) (gf FL j):=by
 obtain⟨j,hj,hs⟩:=h.fwd i hf.1 hf.2.1.1
 exact⟨j,hj,(hs 0 (by omega)).symm.trans hf.2.1.2,hs⟩
theorem mC.non {LS FL:List (Nat->Int)}(h:mC LS FL){id:Int}(hf:Non LS id):No FL id:=fun j hj e=>by
 obtain⟨i,hi,h25,hs⟩:=h.fro j hj
 exact hf i hi ⟨h25,(hs 0 (by omega)).trans e⟩
structure Gone (FL:List (Nat->Int))(id:Int)(FL':List (Nat->Int)):Prop where
 len:FL.length=FL'.length+1
 sub:∀j,j<FL'.length->∃a,a<FL.length/\gf FL a=gf FL' j/\gf FL a 0≠id
 sup:∀a,a<FL.length->gf FL a 0≠id->∃j,j<FL'.length/\gf FL' j=gf FL a
 dis:∀j j',j<FL'.length->j'<FL'.length->gf FL' j 0=gf FL' j' 0->j=j'
theorem mC.gone {LS FL FL':List (Nat->Int)}(h:mC LS FL){id:Int}{i:Nat}(hf:Fst LS id i){ver:Int}(hv:ver≠0)(hg:Gone FL id FL'):mC (dg LS i 25 ver) FL':=by
 have hc:=cnt_end hf.1 hf.2.1.1 hv
 have gs:∀k,k<LS.length->gf (dg LS i 25 ver) k 25=0->k≠i/\gf (dg LS i 25 ver) k=gf LS k/\gf LS k 25=0:=by
  intro k hk h0;rw[cz _ _ _ _ _ hk] at h0
  by_cases e:k=i
  ·rw[if_pos e] at h0; simp[upd] at h0; exact absurd h0 hv
  rw[if_neg e] at h0
  exact⟨e,by rw[cz _ _ _ _ _ hk,if_neg e],h0⟩
 refine⟨?_,?_,?_,?_,hg.dis,?_⟩
 ·have:=h.cnt; have:=hg.len; omega
 ·intro k hk h0
  rw[bp] at hk;obtain⟨e1,e2,e3⟩:=gs k hk h0;obtain⟨a,ha,hs⟩:=h.fwd k hk e3
  obtain⟨j,hj,e⟩:=hg.sup a ha (fun e=>e1 (h.one k i hk hf.1 e3 hf.2.1.1 (((hs 0 (by omega)).trans e).trans hf.2.1.2.symm)))
  exact⟨j,hj,by rw[e2,e]; exact hs⟩
 ·intro j hj
  obtain⟨a,ha,e,hne⟩:=hg.sub j hj;obtain⟨k,hk,h25,hs⟩:=h.fro a ha
  have hki:k≠i:=fun q=>hne (by rw[<-hf.2.1.2,<-q]; exact(hs 0 (by omega)).symm)
  refine⟨k,by rw[bp]; exact hk,?_,?_⟩
  ·rw[cz _ _ _ _ _ hk,if_neg hki]; exact h25
  rw[cz _ _ _ _ _ hk,if_neg hki,<-e]; exact hs
 ·intro j hj
  obtain⟨a,ha,e,_⟩:=hg.sub j hj
  rw[<-e]; exact h.rt a ha
 intro k k' hk hk' h0 h0' e;rw[bp] at hk hk';obtain⟨_,e2,e3⟩:=gs k hk h0;obtain⟨_,e2',e3'⟩:=gs k' hk' h0';rw[e2,e2'] at e;exact h.one k k' hk hk' e3 e3' e
theorem mC.join {LS FL:List (Nat->Int)}(h:mC LS FL){f:Nat->Int}(hR:Rt f)(hn:No FL (f 0)){ver:Int}:mC (LS++[aO f ver]) (FL++[f]):=by
 have hx:∀i,i<(LS++[aO f ver]).length->(i<LS.length/\gf (LS++[aO f ver]) i=gf LS i)\/(i=LS.length/\gf (LS++[aO f ver]) i=aO f ver):=by
  intro i hi
  by_cases c:i<LS.length
  ·exact Or.inl ⟨c,di c⟩
  have:i=LS.length:=by simp at hi; omega
  subst this; exact Or.inr ⟨rfl,cD _ _⟩
 have hy:∀i,i<(FL++[f]).length->(i<FL.length/\gf (FL++[f]) i=gf FL i)\/(i=FL.length/\gf (FL++[f]) i=f):=by
  intro i hi
  by_cases c:i<FL.length
  ·exact Or.inl ⟨c,di c⟩
  have:i=FL.length:=by simp at hi; omega
  subst this; exact Or.inr ⟨rfl,cD _ _⟩
 have hid:∀i,i<LS.length->gf LS i 25=0->gf LS i 0≠f 0:=fun i hi h0 e=>by
  obtain⟨j,hj,hs⟩:=h.fwd i hi h0
  exact hn j hj ((hs 0 (by omega)).symm.trans e)
 refine⟨?_,?_,?_,?_,?_,?_⟩
 ·rw[cnt_new,h.cnt]; simp
 ·intro i hi h0
  rcases hx i hi with⟨c,e⟩|⟨c,e⟩
  ·rw[e] at h0
   obtain⟨j,hj,hs⟩:=h.fwd i c h0
   exact⟨j,by simp; omega,by rw[e,di hj]; exact hs⟩
  exact⟨FL.length,by simp,by rw[e,cD]; exact gd f ver⟩
 ·intro j hj
  rcases hy j hj with⟨c,e⟩|⟨c,e⟩
  ·obtain⟨i,hi,h25,hs⟩:=h.fro j c
   exact⟨i,by simp; omega,by rw[di hi]; exact h25,by rw[di hi,e]; exact hs⟩
  exact⟨LS.length,by simp,by rw[cD]; simp[aO],by rw[cD,e]; exact gd f ver⟩
 ·intro j hj
  rcases hy j hj with⟨c,e⟩|⟨c,e⟩
  ·rw[e]; exact h.rt j c
  rw[e]; exact hR
 ·intro j j' hj hj' e
  rcases hy j hj with⟨c,e1⟩|⟨c,e1⟩<;>rcases hy j' hj' with⟨c',e1'⟩|⟨c',e1'⟩<;>rw[e1,e1'] at e
  ·exact h.dis j j' c c' e
  ·exact absurd e (hn j c)
  ·exact absurd e.symm (hn j' c')
  omega
 intro i i' hi hi' h0 h0' e
 rcases hx i hi with⟨c,e1⟩|⟨c,e1⟩<;>rcases hx i' hi' with⟨c',e1'⟩|⟨c',e1'⟩<;>rw[e1,e1'] at e<;>(rw[e1] at h0)<;>(rw[e1'] at h0')
 ·exact h.one i i' c c' h0 h0' e
 ·exact absurd (e.trans (gd f ver 0 (by omega))) (hid i c h0)
 ·exact absurd (e.symm.trans (gd f ver 0 (by omega))) (hid i' c' h0')
 omega
section
variable {v l z x y:Int}{LS:List (Nat->Int)}
theorem stp_nn (v l z x y:Int)(LS:List (Nat->Int)):∀k,0<=eW v l z x y LS k
 | 0=>Int.le_refl _
 | k+1=>by
  have ih:=stp_nn v l z x y LS k
  cases h:(decide (eW v l z x y LS k<lc v (gf LS k)) && cJ (gf LS k) l z x y) with
  | false=>rw[gL h]; exact ih
  | true=>rw[jI h]; rw[Bool.and_eq_true,decide_eq_true_eq] at h; omega
theorem ox {M:Int}(hM:0<=M):∀k,(∀i,i<k->lc v (gf LS i)<=M)->eW v l z x y LS k<=M
 | 0,_=>hM
 | k+1,hk=>by
  have ih:=ox hM k fun i hi=>hk i (by omega)
  have:=hk k (by omega)
  cases h:(decide (eW v l z x y LS k<lc v (gf LS k)) && cJ (gf LS k) l z x y) with
  | false=>rw[gL h]; exact ih
  | true=>rw[jI h]; exact this
theorem oy:∀k i,i<k->cJ (gf LS i) l z x y=true->lc v (gf LS i)<=eW v l z x y LS k
 | 0,i,h,_=>by omega
 | k+1,i,hi,ht=>by
  cases h:(decide (eW v l z x y LS k<lc v (gf LS k)) && cJ (gf LS k) l z x y) with
  | false=>
   rw[gL h]
   by_cases e:i=k
   ·subst e
    rw[ht,Bool.and_true,decide_eq_false_iff_not] at h;omega
   exact oy k i (by omega) ht
  | true=>
   rw[jI h]
   by_cases e:i=k
   ·subst e; exact Int.le_refl _
   have:=oy k i (by omega) ht
   rw[Bool.and_eq_true,decide_eq_true_eq] at h;omega
theorem fi {v':Int}{LS':List (Nat->Int)}:∀k,(∀i,i<k->cJ (gf LS' i) l z x y=cJ (gf LS i) l z x y/\(cJ (gf LS i) l z x y=true->lc v' (gf LS' i)=lc v (gf LS i)))->eW v' l z x y LS' k=eW v l z x y LS k
 | 0,_=>rfl
 | k+1,h=>by
  have ih:=fi k fun i hi=>h i (by omega)
  obtain⟨h1,h2⟩:=h k (by omega)
  rw[eW,eW,ih,h1]
  cases ht:cJ (gf LS k) l z x y with
  | false=>rw[Bool.and_false,Bool.and_false]; rfl
  | true=>rw[h2 ht]
end
def Bnd (LS:List (Nat->Int))(n:Int):Prop:=∀i,i<LS.length->gf LS i 24<=n/\gf LS i 25<=n
theorem lc_le {v:Int}{g:Nat->Int}(h:0<=v):lc v g<=v:=by unfold lc; split<;>(try split)<;>omega
theorem lc_up {n:Int}{g:Nat->Int}(h:g 24<=n/\g 25<=n):lc (n+1) g=lc n g:=by
 unfold lc
 by_cases c:g 25=0
 ·rw[if_neg (c:=g 25≠0/\g 25<=n+1) (fun hh=>hh.1 c),if_neg (c:=g 25≠0/\g 25<=n) (fun hh=>hh.1 c),if_pos (c:=g 24<=n+1) (by omega),if_pos (c:=g 24<=n) (by omega)]
 rw[if_pos ⟨c,by omega⟩,if_pos ⟨c,by omega⟩]
theorem lc_life_old {v n:Int}{f:Nat->Int}(h:v<=n):lc v (aO f (n+1))=0:=by
 unfold lc aO
 simp only[show ¬(25:Nat)<24 by omega,show ¬(24:Nat)<24 by omega,if_false,if_true,show ¬(25:Nat)=24 by omega]
 rw[if_neg (by omega),if_neg (by omega)]
theorem gX {n:Int}{f:Nat->Int}:lc (n+1) (aO f (n+1))=n+1:=by
 unfold lc aO
 simp only[show ¬(25:Nat)<24 by omega,show ¬(24:Nat)<24 by omega,if_false,if_true,show ¬(25:Nat)=24 by omega]
 rw[if_neg (by omega),if_pos (by omega)]
theorem lc_end_old {v n:Int}{g:Nat->Int}(h:v<=n)(h0:g 25=0):lc v (upd g 25 (n+1))=lc v g:=by
 unfold lc upd
 simp only[if_true,show ¬(24:Nat)=25 by omega,if_false]
 rw[if_neg (by omega),if_neg (c:=g 25≠0/\g 25<=v) (by omega)]
theorem lc_end_new {n:Int}{g:Nat->Int}(hn:0<=n):lc (n+1) (upd g 25 (n+1))=n+1:=by
 unfold lc upd;simp only[if_true]
 rw[if_pos (by omega)]
section
variable {n l z x y:Int}{LS:List (Nat->Int)}
theorem kD {v:Int}{i:Nat}(hi:i<LS.length)(h0:gf LS i 25=0)(hv:v<=n):eW v l z x y (dg LS i 25 (n+1)) (dg LS i 25 (n+1)).length=eW v l z x y LS LS.length:=by
 rw[bp];refine fi _ fun k hk=>?_;rw[cz _ _ _ _ _ hk]
 by_cases e:k=i
 ·subst e; rw[if_pos rfl]; exact⟨fg (oA _ _) _ _ _ _,fun _=>lc_end_old hv h0⟩
 rw[if_neg e]; exact⟨rfl,fun _=>rfl⟩
theorem kE {i:Nat}(hi:i<LS.length)(hn:0<=n):eW (n+1) l z x y (dg LS i 25 (n+1)) (dg LS i 25 (n+1)).length=bif cJ (gf LS i) l z x y then n+1 else eW (n+1) l z x y LS LS.length:=by
 cases ht:cJ (gf LS i) l z x y with
 | true=>
  have hg:gf (dg LS i 25 (n+1)) i=upd (gf LS i) 25 (n+1):=by rw[cz _ _ _ _ _ hi,if_pos rfl]
  have h1:=oy (v:=n+1) (LS:=dg LS i 25 (n+1)) (l:=l) (z:=z) (x:=x) (y:=y) (dg LS i 25 (n+1)).length i (by rw[bp]; exact hi) (by rw[hg,fg (oA _ _)]; exact ht)
  rw[hg,lc_end_new hn] at h1
  have h2:=ox (v:=n+1) (LS:=dg LS i 25 (n+1)) (l:=l) (z:=z) (x:=x) (y:=y) (M:=n+1) (by omega) (dg LS i 25 (n+1)).length fun k _=>lc_le (by omega)
  exact Int.le_antisymm h2 h1
 | false=>
  rw[bp];refine fi _ fun k hk=>?_;rw[cz _ _ _ _ _ hk]
  by_cases e:k=i
  ·subst e; rw[if_pos rfl]; exact⟨fg (oA _ _) _ _ _ _,fun q=>by rw[ht] at q; cases q⟩
  rw[if_neg e]; exact⟨rfl,fun _=>rfl⟩
theorem iu {v:Int}(f:Nat->Int)(ver:Int):eW v l z x y (LS++[aO f ver]) LS.length=eW v l z x y LS LS.length:=
 fi _ fun k hk=>by rw[di hk]; exact⟨rfl,fun _=>rfl⟩
theorem jJ {v:Int}(f:Nat->Int)(hv:v<=n):eW v l z x y (LS++[aO f (n+1)]) (LS++[aO f (n+1)]).length=eW v l z x y LS LS.length:=by
 have:=stp_nn v l z x y LS LS.length;rw[List.length_append,List.length_singleton,gL,iu]
 rw[iu,cD,lc_life_old hv,decide_eq_false (by omega),Bool.false_and]
theorem jK (f : Nat → Int) (hn : 0 ≤ n) : eW (n + 1) l z x y (LS ++ [aO f (n + 1)]) (LS ++ [aO f (n + 1)]).length = bif cJ f l z x y then n + 1 else eW (n + 1) l z x y LS LS.length := by
  have hle := ox (v := n + 1) (LS := LS) (l := l) (z := z) (x := x) (y := y) (M := n + 1) (by omega) LS.length fun k _ => lc_le (by omega)
  rw [List.length_append, List.length_singleton]
  cases ht : cJ f l z x y with
  | false => rw [gL, iu]; · rfl
             rw [cD, fg (gd f (n + 1)), ht, Bool.and_false]
  | true =>
    by_cases c : eW (n + 1) l z x y LS LS.length < n + 1
    · rw [jI, cD, gX]; · rfl
      rw [iu, cD, fg (gd f (n + 1)), ht, Bool.and_true, gX]
      exact decide_eq_true c
    · rw [gL, iu]
      · show _ = n + 1; omega
      · rw [iu, cD, fg (gd f (n + 1)), ht, Bool.and_true, gX]
        exact decide_eq_false c
theorem stp_up (hB:Bnd LS n):eW (n+1) l z x y LS LS.length=eW n l z x y LS LS.length:=
 fi _ fun k hk=>⟨rfl,fun _=>lc_up (hB k hk)⟩
end
theorem bnd_join {LS:List (Nat->Int)}{n m:Int}(hB:Bnd LS n)(hm:0<=m)(hnm:n<=m)(f:Nat->Int):Bnd (LS++[aO f m]) m:=by
 intro k hk
 by_cases c:k<LS.length
 ·have:=hB k c; rw[di c]; omega
 have:k=LS.length:=by simp at hk; omega
 subst this; rw[cD]; simp[aO]; exact hm
theorem eB {ops:Array Oper}{w:World}{Q:Act->Prop}{a:Act}{o:Oper}{rest:List Oper}(hw:Region.wanted o (yielded ops a.tmps)=true)(f:FuncId)(args:Array Value)(h0:∀w',(execOp a.eval o).run prog w'=.ok (.enter f args) w')(v:Value)
  (hc:∀w',Below w.heap.size w w'->Calls prog f args w' fun e w''=>e=.returned v/\Below w'.heap.size w' w'') (hk:wpQuiet prog ops (Cq w) Q rest (a.put o.dst v)) :
  wpQuiet prog ops (Cq w) Q (o::rest) a:=
 BigFrame.wpQuiet_want hw fun _ hK=>⟨v,fun w' hw'=>by
  unfold Oper.quietAt; rw[h0 w']
  exact⟨rfl,(hc w' hw').mono fun e w'' h=>⟨h.1,Below.trans hw' (h.2.mono hw'.size)⟩⟩,hK _ hk⟩
theorem Tryz.info3:(prog.info? 3).map (fun i=>(i.zero,i.size,i.bytes))=some (some (.int .i64 0),1,8):=by kernel_rfl
theorem pJ {ops:Array Oper}{rest:List Oper}{o:Oper}{a:Act}{Q:Exit->Act->World->Prop}(hgd:o.guard=none)(s x:Operand)
  (ho:o.op=.call { callee:=.builtin .append,args:=#[s,x],argTypes:=#[60,60] })
  (W:World) (B:Nat) (v:Value) (l:List (Nat->Int)) (b:Int) (hs:a.eval s=v) (hown:bf 3 1 W B v l) (hx:a.eval x=.slice (some ⟨W.heap.size,0,none⟩) 1 1)
  (hlen:l.length<=1000) (hB:B<=W.heap.size)
  (h:∀v' w',bf 3 1 w' B v' (l++[fun _=>b])->(W.alloc (.cells #[b] 3)).grownBy w' v.ownBlock->(v'.ownBlock=v.ownBlock\/∀g,v'.ownBlock=some g->W.heap.size<g)->wpList prog ops Q rest (a.put o.dst v') w') :
  wpList prog ops Q (o::rest) a (W.alloc (.cells #[b] 3)):=by
 obtain⟨i0,hi,hz0,hz1,hz2⟩:=info_parts Tryz.info3
 refine ap_own _ hgd s x 60 ho B 3 i0 (.int .i64 0) 1 8 underlying60 hi hz0 hz1 hz2 rfl (by decide) v l.length (fl 1 l) hs (World.ownsRow.alloc hown _) ⟨W.heap.size,0,none⟩ 1 [.int .i64 b] hx rfl ?_ ?_ ?_ ?_ ?_ ?_
 ·intro j u hj
  rw[Addr.add_mid,Nat.zero_add,af (heap_alloc_new W (.cells #[b] 3))];simpa using hj
 ·intro u hu; simp at hu; subst hu; rfl
 ·omega
 ·omega
 ·simp; omega
 intro v' w' r1 r2 r3;refine h v' w' ?_ r2 ?_
 ·unfold bf
  rw[fl_snoc];simpa[cc] using r1
 rcases r3 with r3|r3
 ·exact Or.inl r3
 right
 intro g hg;have:=r3 g hg;simp at this;omega
theorem pL {fs:Nat->Nat->Int}{n:Nat}(h:∀i,i<n->Rt (fs i)):iE fs n=true:=by
 simp only[iE,List.all_eq_true,List.mem_range];exact fun i hi=>lH (h i hi)
theorem pOk {fs:Nat->Nat->Int}{n:Nat}{l z x y:Int}(he:keyErr l z x y=0)(hn:n<=40)(hr:∀i,i<n->Rt (fs i)):jm fs n l z x y=0/\jj fs n l z x y=kP fs n l z x y 64:=by
 unfold jm jj
 rw[if_pos he,if_pos he,if_neg (by omega),if_neg (by omega),pL hr]
 exact⟨rfl,rfl⟩
def tile (FL:List (Nat->Int))(l z x y:Int):ByteArray:=⟨(kP (gf FL) FL.length l z x y 64).toArray⟩
theorem paint_tile {FL:List (Nat->Int)}{l z x y:Int}(he:keyErr l z x y=0)(hn:FL.length<=40)(hr:∀i,i<FL.length->Rt (gf FL i))(v:Value)(W:World)(h:kU W v FL.length (gf FL)):
  Calls prog 107 #[v,.agg #[l,z,x,y]] W fun e w'=>e=.returned (.tuple #[.string (tile FL l z x y),()])/\Below W.heap.size W w':=by
 have q:=Paint_any v FL.length (gf FL) l z x y W h;obtain⟨a,b⟩:=pOk he hn hr;rw[a,b] at q;exact q
def mH (v:Int)(g:Nat->Int):Bool:=decide (g 24<=v) && (decide (g 25=0) || decide (v<g 25))
theorem isIn_any (g:Nat->Int)(v:Int)(w:World):
  Calls prog 119 #[.agg (cc 26 g),v] w fun e w'=>e=.returned (.bool (mH v g))/\Below w.heap.size w w':=by
 have c25:=dc 26 g 25 (by decide)
 have c24:=dc 26 g 24 (by decide)
 have HB:=ae (aj w (.cells (cc 26 g) 147));obtain⟨G,hG⟩:∃G,g 25=G:=⟨_,rfl⟩;obtain⟨C,hC⟩:∃G,g 24=G:=⟨_,rfl⟩
 have HL:Hid (mH v g=(decide (C<=v) && (decide (G=0) || decide (v<G)))):=by show mH v g=_; rw[mH,hG,hC]
 rw[hG] at c25;rw[hC] at c24;clear hG hC
 by_cases h1:C<=v
 ·by_cases h2:G=0
  ·subst h2
   go_enter func119,ntmps119
   go_wp2
   go_ret
   exact⟨ai (by rw[aa HL,decide_eq_true h1]; rfl),aa HB⟩
  by_cases h3:v<G
  ·go_enter func119,ntmps119
   go_wp2
   go_ret
   exact⟨ai (by rw[aa HL,decide_eq_true h1,decide_eq_true h3,Bool.or_true]; rfl),aa HB⟩
  go_enter func119,ntmps119
  go_wp2
  go_ret
  exact⟨ai (by rw[aa HL,decide_eq_true h1,decide_eq_false h2,decide_eq_false (by omega)]; simp[h2]),aa HB⟩
 go_enter func119,ntmps119
 go_wp2
 go_ret
 exact⟨ai (by rw[aa HL,decide_eq_false (by omega)]; rfl),aa HB⟩
structure dD (w:World)(sb:Nat)(keep ver:Int)(sl pv:Value)(LS PL:List (Nat->Int)):Prop where
 blk:w.heap[sb]?=some (.cells #[keep,ver,sl,pv] 119)
 own:bf 147 26 w (sb+1) sl LS
 pins:bf 3 1 w (sb+1) pv PL
theorem dD.lt {w:World}{sb:Nat}{keep ver:Int}{sl pv:Value}{LS PL:List (Nat->Int)}(h:dD w sb keep ver sl pv LS PL):sb<w.heap.size:=(Array.getElem?_eq_some_iff.1 h.blk).1
theorem dD.on {w w':World}{sb:Nat}{keep ver:Int}{sl pv:Value}{LS PL:List (Nat->Int)}(h:dD w sb keep ver sl pv LS PL)(hb:Below w.heap.size w w'):dD w' sb keep ver sl pv LS PL:=⟨ag h.blk hb,h.own.on hb,h.pins.on hb⟩
theorem dD.cells {w:World}{sb:Nat}{keep ver:Int}{sl pv:Value}{LS PL:List (Nat->Int)}(h:dD w sb keep ver sl pv LS PL):w.cell? ⟨sb,0,none⟩=some (.int .i64 keep)/\w.cell? ⟨sb,1,none⟩=some (.int .i64 ver)/\w.cell? ⟨sb,2,none⟩=some sl/\w.cell? ⟨sb,3,none⟩=some pv:=
 ⟨(af h.blk 0).trans rfl,(af h.blk 1).trans rfl,(af h.blk 2).trans rfl,(af h.blk 3).trans rfl⟩
def pf (PL:List (Nat->Int))(v:Int):Bool:=(List.range PL.length).any fun i=>decide (gf PL i 0=v)
theorem hasP_yes {PL:List (Nat->Int)}{v:Int}{i:Nat}(hi:i<PL.length)(h:gf PL i 0=v):pf PL v=true:=by
 simp only[pf,List.any_eq_true,List.mem_range,decide_eq_true_eq]; exact⟨i,hi,h⟩
theorem hasP_no {PL:List (Nat->Int)}{v:Int}(h:∀i,i<PL.length->gf PL i 0≠v):pf PL v=false:=by
 rw[Bool.eq_false_iff]; intro ht
 simp only[pf,List.any_eq_true,List.mem_range,decide_eq_true_eq] at ht;obtain⟨i,hi,e⟩:=ht;exact h i hi e
theorem bf.ints {w:World}{B:Nat}{v:Value}{l:List (Nat->Int)}(h:bf 3 1 w B v l)(hl:l.length<=1000):∃oa cap,v=.slice oa l.length cap/\(0<l.length->∃b off,oa=some ⟨b,off,none⟩/\b<w.heap.size/\∀i,i<l.length->w.cell? ⟨b,off+i,none⟩=some (.int .i64 (gf l i 0))):=by
 obtain⟨oa,cap,e,_,hc⟩:=h.at (by unfold maxLen; omega)
 refine⟨oa,cap,e,fun h0=>?_⟩;obtain⟨b,off,e',hb,hc⟩:=hc h0
 exact⟨b,off,e',hb,fun i hi=>by have:=hc i hi 0 (by omega); rwa [Nat.mul_one,Nat.add_zero] at this⟩
theorem hasPin_any (sb:Nat)(keep ver:Int)(sl pv:Value)(LS PL:List (Nat->Int))(v:Int)(w:World)(hs:dD w sb keep ver sl pv LS PL)(hl:PL.length<=100):
  Calls prog 117 #[.pointer (some ⟨sb,0,none⟩),v] w fun e w'=>e=.returned (.bool (pf PL v))/\w=w':=by
 obtain⟨_,_,_,s3⟩:=hs.cells
 obtain⟨oa,cap,rfl,hc⟩:=hs.pins.ints (by omega)
 have HC:=ae hc;clear hs hc;go_enter func117,ntmps117
 go_wp2_with fail
 go_loop [5] (fun i=>∃k:Nat,k<=PL.length/\i=.int .i64 k/\Hid (∀i,i<k->gf PL i 0≠v)) (fun i=>PL.length-(intOf i).toNat)
 case atStart=>exact⟨0,by omega,rfl,ae (fun i hi=>absurd hi (by omega))⟩
 case round=>
  obtain⟨k,hk,rfl,hno⟩:=hrel
  by_cases hlt:k<PL.length
  ·have hkn:(k:Int)<PL.length:=by omega
   obtain⟨b,off,rfl,_,hc0⟩:=aa HC (by omega)
   have ck:=hc0 k hlt;clear hc0;obtain⟨G,hG⟩:∃I,gf PL k 0=I:=⟨_,rfl⟩;rw[hG] at ck
   by_cases h0:G=v
   ·have H:=ae (hasP_yes hlt (hG.trans h0))
    subst h0
    go_wp2_with fail
    go_ret;exact⟨ai (aa H).symm,rfl⟩
   go_wp2_with fail
   go_round
   case rel=>exact⟨k+1,by omega,by go_num,ae (fun i hi=>by
    by_cases e:i=k
    ·subst e; rw[hG]; exact h0
    exact aa hno i (by omega))⟩
   case measure=>simp[intOf]; omega
  have hkn:k=PL.length:=by omega
  have H:=ae (hasP_no (v:=v) (by rw[<-hkn]; exact aa hno))
  subst hkn
  go_wp2_with fail
  go_ret;exact⟨ai (aa H).symm,rfl⟩
def bS (keep ver:Int)(PL:List (Nat->Int))(v:Int):Bool:=decide (0<=v) && decide (v<=ver) && (decide (ver-keep<=v) || pf PL v)
theorem gm (sb:Nat)(keep ver:Int)(sl pv:Value)(LS PL:List (Nat->Int))(v:Int)(w:World)(hs:dD w sb keep ver sl pv LS PL)(hl:PL.length<=100)(hk:0<=keep/\keep<=4)(hv:0<=ver/\ver<=100):
  Calls prog 71 #[.pointer (some ⟨sb,0,none⟩),v] w fun e w'=>e=.returned (.bool (bS keep ver PL v))/\Below w.heap.size w w':=by
 obtain⟨s0,s1,_,_⟩:=hs.cells;have HS:=ae hs;clear hs
 by_cases h1:v<0
 ·have H:Hid (bS keep ver PL v=false):=by show bS keep ver PL v=false; unfold bS; rw[decide_eq_false (by omega)]; rfl
  go_enter func71,ntmps71
  go_wp2_with fail
  go_ret;exact⟨ai (aa H).symm,Below.refl _ _⟩
 by_cases h2:ver<v
 ·have H:Hid (bS keep ver PL v=false):=by show bS keep ver PL v=false; unfold bS; rw[decide_eq_false (show ¬v<=ver by omega),Bool.and_false]; rfl
  go_enter func71,ntmps71
  go_wp2_with fail
  go_ret;exact⟨ai (aa H).symm,Below.refl _ _⟩
 have e1:IntKind.i64.wrap (ver-keep)=ver-keep:=dH _ (by omega)
 have HP:=fun W h=>hasPin_any sb keep ver sl pv LS PL v W h hl
 have H:Hid (bS keep ver PL v=(decide (ver-keep<=v) || pf PL v)):=by show bS keep ver PL v=_; unfold bS; rw[decide_eq_true (show 0<=v by omega),decide_eq_true (show v<=ver by omega)]; rfl
 by_cases h3:ver-keep<=v
 ·have hd:decide (ver-keep<=v)=true:=decide_eq_true h3
  go_enter func71,ntmps71
  go_wp2_with fail
  go_quiet (fail)
  go_wp2_with fail
  go_ret
  refine⟨ai (by rw[aa H,hd]; rfl),?_⟩
  repeat first|exact Below.refl _ _|refine ap ?_ _|refine Below.drew ?_
 have hd:decide (ver-keep<=v)=false:=decide_eq_false h3;obtain⟨P,hP⟩:∃P,pf PL v=P:=⟨_,rfl⟩;rw[hP] at HP
 have HQ:Hid (∀W,Below w.heap.size w W->Calls prog 117 #[.pointer (some ⟨sb,0,none⟩),v] W fun e w'=>e=.returned (.bool P)/\Below W.heap.size W w'):=fun W hW=>(HP W ((aa HS).on hW)).mono fun e w' h=>⟨h.1,by rw[<-h.2]; exact Below.refl _ _⟩
 have hl3:=(aa HS).lt;clear HP;go_enter func71,ntmps71
 go_wp2
 refine aM (by kernel_rfl) (by kernel_rfl) ?_
 refine bD (.int .i64 v) ?_;refine eI sb 0 ?_;refine bd sb 0 ?_;refine bd sb 1 ?_
 refine bH (.int .i64 ver) ?_ (h:=fun w' h=>by simp[go_sem,(h.cell (p:=⟨sb,1,none⟩) hl3).trans s1])
 refine eI sb 0 ?_;refine bd sb 0 ?_;refine bd sb 0 ?_
 refine bH (.int .i64 keep) ?_ (h:=fun w' h=>by simp[go_sem,(h.cell (p:=⟨sb,0,none⟩) hl3).trans s0])
 refine bH (.int .i64 (ver-keep)) ?_ (h:=fun _ _=>by simp[go_sem,e1])
 refine bH (.bool false) ?_ (h:=fun _ _=>by simp[go_sem]; omega)
 refine bD (.bool false) ?_
 refine eI sb 0 ?_ (hw:=by kernel_rfl)
 refine bD (.int .i64 v) ?_ (hw:=by kernel_rfl)
 refine eB (by kernel_rfl) 117 #[.pointer (some ⟨sb,0,none⟩),v] (fun _=>by simp[go_sem]) _ (aa HQ) ?_
 simp only[qZ];refine bH (.bool P) ?_;refine bF rfl _ rfl (.bool P) rfl ?_;simp only[qZ];refine wpQuiet_nil ?_;intro w6 hw6;have HB6:=ae hw6;clear hw6 s0 s1
 go_wp2_with fail
 go_ret
 exact⟨ai (by rw[aa H,hd,hP]; rfl),aa HB6⟩
theorem dQ (sb:Nat)(keep ver:Int)(sl pv:Value)(LS PL:List (Nat->Int))(w:World)(hs:dD w sb keep ver sl pv LS PL):
  Calls prog 55 #[.pointer (some ⟨sb,0,none⟩)] w fun e w'=>e=.returned (.int .i64 ver)/\w=w':=by
 obtain⟨_,s1,_,_⟩:=hs.cells;go_enter func55,ntmps55
 go_wp2_with fail
 go_ret;exact⟨rfl,rfl⟩
def Cand (LS:List (Nat->Int))(v a:Int)(i:Nat):Prop:=mH v (gf LS i)=true/\a<gf LS i 0
def Nx (LS:List (Nat->Int))(v a:Int)(k:Nat)(fnd:Bool)(T:Nat->Int):Prop:=
 (fnd=false/\∀i,i<k->¬Cand LS v a i)\/(fnd=true/\∃i,i<k/\Cand LS v a i/\T=gf LS i/\∀j,j<k->Cand LS v a j->gf LS i 0<=gf LS j 0)
theorem Nx.skip {LS:List (Nat->Int)}{v a:Int}{k:Nat}{fnd:Bool}{T:Nat->Int}(h:Nx LS v a k fnd T)(hc:¬Cand LS v a k):Nx LS v a (k+1) fnd T:=by
 rcases h with⟨e,h⟩|⟨e,i,hi,h1,h2,h3⟩
 ·refine Or.inl ⟨e,fun i hi=>?_⟩
  by_cases q:i=k
  ·subst q; exact hc
  exact h i (by omega)
 refine Or.inr ⟨e,i,by omega,h1,h2,fun j hj hcj=>?_⟩
 by_cases q:j=k
 ·subst q; exact absurd hcj hc
 exact h3 j (by omega) hcj
theorem Nx.leave {LS:List (Nat->Int)}{v a:Int}{k:Nat}{T:Nat->Int}(h:Nx LS v a k true T)(hle:¬gf LS k 0<T 0):Nx LS v a (k+1) true T:=by
 rcases h with⟨e,_⟩|⟨e,i,hi,h1,h2,h3⟩
 ·cases e
 refine Or.inr ⟨e,i,by omega,h1,h2,fun j hj hcj=>?_⟩
 by_cases q:j=k
 ·subst q; rw[h2] at hle; omega
 exact h3 j (by omega) hcj
theorem Nx.take {LS:List (Nat->Int)}{v a:Int}{k:Nat}{fnd:Bool}{T:Nat->Int}(h:Nx LS v a k fnd T)(hc:Cand LS v a k)(hlt:fnd=true->gf LS k 0<T 0):Nx LS v a (k+1) true (gf LS k):=by
 refine Or.inr ⟨rfl,k,by omega,hc,rfl,fun j hj hcj=>?_⟩
 by_cases q:j=k
 ·subst q; exact Int.le_refl _
 rcases h with⟨_,h⟩|⟨e,i,hi,h1,h2,h3⟩
 ·exact absurd hcj (h j (by omega))
 have:=h3 j (by omega) hcj
 have:=hlt e;rw[h2] at this;omega
theorem oE {P:Program}{fn:Func}{p q:Tmp}{ty:TypeId}(h:fn.results=#[.cell p ty,.tmp q])(tmps:Array Value)(w:World)(g:Nat)(t:TypeId)(cs:Array Value)(fr:Nat × Nat)(d:TypeDesc)(b:Value)
  (hp:tmps.getD p undef=.pointer (some ⟨g,0,none⟩)) (hq:tmps.getD q undef=b) (hg:w.heap[g]?=some (.cells cs t fr))
  (hu:P.underlying ty=some d) (hd:(match d with|.struct _|.array _ _=>true|_=>false)=true) (hi:(P.info? ty).map (·.size)=some cs.size) :
  (results fn tmps).run P w=.ok (.tuple #[.agg cs,b]) w:=by
 have hp':tmps[p]?.getD undef=.pointer (some ⟨g,0,none⟩):=by simpa using hp
 have hq':tmps[q]?.getD undef=b:=by simpa using hq
 simp[results,h,hp',hq',asAddr,run_loadVar_row w g t ty cs fr d hg hu hd hi]
theorem next_any (sb:Nat)(keep ver:Int)(sl pv:Value)(LS PL:List (Nat->Int))(v a:Int)(w:World)(hs:dD w sb keep ver sl pv LS PL)(hl:LS.length<=1000):
  Calls prog 73 #[.pointer (some ⟨sb,0,none⟩),.int .i64 v,.int .i64 a] w fun e w'=>(∃fnd T,e=.returned (.tuple #[.agg (fc T),.bool fnd])/\Nx LS v a LS.length fnd T)/\Below w.heap.size w w':=by
 obtain⟨t1,t2,t3⟩:=ft w (.cells (fc zf) 66) (.cells (fc zf) 66);have hlt:=hs.lt;obtain⟨_,_,s2,_⟩:=hs.cells
 obtain⟨oa,cap,rfl,_,hc⟩:=hs.own.at (by unfold maxLen; omega)
 have HC:=ae hc
 have hz1:(w.alloc (.cells (fc zf) 66)).heap.size=w.heap.size+1:=by simp
 have HT1:=ae t1;have HT3:=ae t3;have hT2:=setRow_heap _ _ _ (fc zf) _ _ t2;have HT2:=ae hT2
 have HT1':=ae ((setRow_other (show w.heap.size+1≠w.heap.size by omega) (fc zf)).trans t1)
 have HT3':=ae (aK t3 (show w.heap.size<=w.heap.size+1 by omega) (fc zf))
 clear hs hc t1 t3 hT2;go_enter func73,ntmps73
 go_wp2_with (first|refine al26 rfl rfl w.heap.size rfl ?_|refine al26 rfl rfl (w.heap.size+1) hz1 ?_|refine bld26 rfl rfl ?_|refine mP rfl _ _ rfl (w.heap.size+1) zf rfl rfl zf t2 ?_)
 go_loopw [9,10,11] (fun fd i _ wr=>∃(k:Nat) (fnd:Bool) (T:Nat->Int),k<=LS.length/\i=.int .i64 k/\fd=.bool fnd/\wr.heap[w.heap.size]?=some (.cells (fc zf) 66)/\wr.heap[w.heap.size+1]?=some (.cells (fc T) 66)/\Hid (Nx LS v a k fnd T)/\Below w.heap.size w wr) (fun _ i _ _=>LS.length-(intOf i).toNat)
 case atStart=>exact⟨0,false,zf,by omega,rfl,rfl,aa HT1',aa HT2,ae (Or.inl ⟨rfl,fun i hi=>absurd hi (by omega)⟩),aa HT3'⟩
 case round=>
  obtain⟨k,fnd,T,hk,rfl,rfl,hg0,hg1,hNx,hb⟩:=hrel;have r2:=(hb.cell (p:=⟨sb,2,none⟩) hlt).trans s2;clear t2 s2
  by_cases hlk:k<LS.length
  ·have hkn:(k:Int)<LS.length:=by omega
   obtain⟨b,off,rfl,hbl,hc0⟩:=aa HC (by omega)
   have hrgW:∀W,Below w.heap.size w W->W.rangeAt b (off+k*26) (cc 26 (gf LS k)).toList:=fun W h=>cs_rng (fun i hi j hj=>(h.cell (p:=⟨b,off+i*26+j,none⟩) hbl).trans (hc0 i hi j hj)) hlk;have hrF:=life_F (hrgW wr hb);have hA:=heap_alloc_new wr (.cells (fc zf) 66);have hA1:=setRow_heap _ _ _ (fc (gf LS k)) _ _ hA;have hl0:w.heap.size<wr.heap.size:=(Array.getElem?_eq_some_iff.1 hg0).1;have hl1:w.heap.size+1<wr.heap.size:=(Array.getElem?_eq_some_iff.1 hg1).1
   have q0:=(setRow_other (show wr.heap.size≠w.heap.size by omega) (fc (gf LS k))).trans ((Below.heap_alloc wr (.cells (fc zf) 66) w.heap.size hl0).trans hg0)
   have q1:=(setRow_other (show wr.heap.size≠w.heap.size+1 by omega) (fc (gf LS k))).trans ((Below.heap_alloc wr (.cells (fc zf) 66) (w.heap.size+1) hl1).trans hg1)
   have hb2:=aK (aG hb aD (.cells (fc zf) 66)) (show w.heap.size<=wr.heap.size by omega) (fc (gf LS k))
   have hzr:(w.heap.size:Nat)<=wr.heap.size:=by omega
   have s2':=(hb2.cell (p:=⟨sb,2,none⟩) hlt).trans ((hb.cell (p:=⟨sb,2,none⟩) hlt).symm.trans r2);have hrg2:=hrgW _ hb2;have hA1c:=af hA1
   have f0:=aN (gf LS k) 0 (by decide)
   obtain⟨Id,hId⟩:∃I,gf LS k 0=I:=⟨_,rfl⟩;rw[hId] at f0;have HA1:=ae hA1;have HQ0:=ae q0;have HQ1:=ae q1;have HB2:=ae hb2;clear hrgW hc0 hb hb2 q0 q1
   by_cases hia:Id<=a
   ·have HN:=ae ((aa hNx).skip (fun hc=>by have:=hc.2; omega))
    go_wp2_with (first|refine nI rfl _ rfl b (off+k*26) rfl (gf LS k) hrF ?_|refine al26 rfl rfl wr.heap.size rfl ?_|refine mP rfl _ _ rfl wr.heap.size (gf LS k) rfl rfl zf hA ?_)
    go_roundw
    case rel=>exact⟨k+1,fnd,T,by omega,by go_num,rfl,aa HQ0,aa HQ1,HN,aa HB2⟩
    case measure=>simp[intOf]; omega
   go_wp2_with (first|refine nI rfl _ rfl b (off+k*26) rfl (gf LS k) hrF ?_|refine al26 rfl rfl wr.heap.size rfl ?_|refine mP rfl _ _ rfl wr.heap.size (gf LS k) rfl rfl zf hA ?_|refine ldm80 (by kernel_rfl) _ rfl b (off+k*26) rfl (gf LS k) hrg2 ?_)
   refine(isIn_any (gf LS k) v _).mono ?_;rintro e w3 ⟨rfl,hb3⟩;have p0:=ag (aa HQ0) hb3;have p1:=ag (aa HQ1) hb3;have pA:=ag (aa HA1) hb3;have pAc:=af pA;have p1c:=af p1;have hb4:=(aa HB2).trans (hb3.mono (aa HB2).size);have HB4:=ae hb4;clear hb3 hb4 hrF hA hA1 hA1c s2' hrg2 hg0 hg1
   cases hin:mH v (gf LS k) with
   | false=>
    have HN:=ae ((aa hNx).skip (fun hc=>by rw[hc.1] at hin; cases hin))
    go_wp2_with fail
    go_roundw
    case rel=>exact⟨k+1,fnd,T,by omega,by go_num,rfl,p0,p1,HN,aa HB4⟩
    case measure=>simp[intOf]; omega
   | true=>
    have hcand:Cand LS v a k:=⟨hin,by rw[hId]; omega⟩
    have HCD:=ae hcand;clear hcand;have hs1:=setRow_heap _ _ _ (fc (gf LS k)) _ _ p1
    have hs0:=(setRow_other (show w.heap.size+1≠w.heap.size by omega) (fc (gf LS k))).trans p0
    have HS1:=ae hs1;have HS0:=ae hs0
    have HB5:=ae (aK (aa HB4) (show w.heap.size<=w.heap.size+1 by omega) (fc (gf LS k)))
    clear hs1 hs0
    cases fnd with
    | false=>
     have HN:=ae ((aa hNx).take (aa HCD) (fun h=>by cases h))
     go_wp2_with (first|refine dh rfl _ rfl _ rfl (gf LS k) pA ?_|refine mP rfl _ _ rfl (w.heap.size+1) (gf LS k) rfl rfl T p1 ?_)
     go_roundw
     case rel=>exact⟨k+1,true,gf LS k,by omega,by go_num,rfl,aa HS0,aa HS1,HN,aa HB5⟩
     case measure=>simp[intOf]; omega
    | true=>
     have t0:=aN T 0 (by decide)
     obtain⟨T0,hT0⟩:∃I,T 0=I:=⟨_,rfl⟩;rw[hT0] at t0
     by_cases hless:Id<T0
     ·have HN:=ae ((aa hNx).take (aa HCD) (fun _=>by rw[hId,hT0]; exact hless))
      go_wp2_with (first|refine dh rfl _ rfl _ rfl (gf LS k) pA ?_|refine mP rfl _ _ rfl (w.heap.size+1) (gf LS k) rfl rfl T p1 ?_)
      go_roundw
      case rel=>exact⟨k+1,true,gf LS k,by omega,by go_num,rfl,aa HS0,aa HS1,HN,aa HB5⟩
      case measure=>simp[intOf]; omega
     have HN:=ae ((aa hNx).leave (by rw[hId,hT0]; exact hless))
     go_wp2_with fail
     go_roundw
     case rel=>exact⟨k+1,true,T,by omega,by go_num,rfl,p0,p1,HN,aa HB4⟩
     case measure=>simp[intOf]; omega
  have hkn:k=LS.length:=by omega
  subst hkn;have HZ2:=setRow_heap _ _ _ (fc T) _ _ hg0;have HBe:=ae (aK hb aD (fc T));clear hb
  go_wp2_with (first|refine dh rfl _ rfl _ rfl T hg1 ?_|refine mP rfl _ _ rfl w.heap.size T rfl rfl zf hg0 ?_)
  refine bodyPost_ret (v:=.tuple #[.agg (fc T),.bool fnd]) (oE results73 _ _ w.heap.size 66 (fc T) (0,0) _ (.bool fnd) rfl rfl HZ2 underlying66 rfl (gK _)) rfl ⟨⟨fnd,T,rfl,aa hNx⟩,aa HBe⟩
def gH (FL:List (Nat->Int))(a:Int):Nat->Nat
 | 0=>0
 | k+1=>if gf FL k 0<=a then gH FL a k+1 else gH FL a k
theorem cle_le (FL:List (Nat->Int))(a:Int):∀k,gH FL a k<=k
 | 0=>Nat.le_refl _
 | k+1=>by rw[gH]; have:=cle_le FL a k; split<;>omega
theorem cle_all {FL:List (Nat->Int)}{a:Int}:∀k,(∀j,j<k->gf FL j 0<=a)->gH FL a k=k
 | 0,_=>rfl
 | k+1,h=>by rw[gH,if_pos (h k (by omega)),cle_all k fun j hj=>h j (by omega)]
theorem mq {FL:List (Nat->Int)}{a:Int}:∀k,(∀j,j<k->a<gf FL j 0)->gH FL a k=0
 | 0,_=>rfl
 | k+1,h=>by rw[gH,if_neg (by have:=h k (by omega); omega),mq k fun j hj=>h j (by omega)]
theorem nT {FL:List (Nat->Int)}{a b:Int}:∀k,(∀j,j<k->(gf FL j 0<=a↔gf FL j 0<=b))->gH FL a k=gH FL b k
 | 0,_=>rfl
 | k+1,h=>by
  rw[gH,gH,nT k fun j hj=>h j (by omega)]
  by_cases c:gf FL k 0<=a
  ·rw[if_pos c,if_pos ((h k (by omega)).1 c)]
  rw[if_neg c,if_neg (fun q=>c ((h k (by omega)).2 q))]
theorem cle_more {FL:List (Nat->Int)}{a b:Int}(j0:Nat)(h1:¬gf FL j0 0<=a)(h2:gf FL j0 0<=b):∀k,j0<k->(∀j,j<k->j≠j0->(gf FL j 0<=a↔gf FL j 0<=b))->gH FL b k=gH FL a k+1
 | 0,h,_=>by omega
 | k+1,h,hi=>by
  by_cases e:j0=k
  ·subst e
   rw[gH,gH,if_pos h2,if_neg h1,nT j0 fun j hj=>hi j (by omega) (by omega)]
  rw[gH,gH,cle_more j0 h1 h2 k (by omega) fun j hj=>hi j (by omega)]
  by_cases c:gf FL k 0<=a
  ·rw[if_pos c,if_pos ((hi k (by omega) (fun q=>e q.symm)).1 c)]
  rw[if_neg c,if_neg (fun q=>c ((hi k (by omega) (fun q=>e q.symm)).2 q))]
structure d8 (v:Int)(LS FL:List (Nat->Int)):Prop where
 fwd:∀i,i<LS.length->mH v (gf LS i)=true->∃j,j<FL.length/\SF (gf LS i) (gf FL j)
 fro:∀j,j<FL.length->∃i,i<LS.length/\mH v (gf LS i)=true/\SF (gf LS i) (gf FL j)
 rt:∀j,j<FL.length->Rt (gf FL j)
 dis:∀j j',j<FL.length->j'<FL.length->gf FL j 0=gf FL j' 0->j=j'
 le40:FL.length<=40
theorem d8.found {v a:Int}{LS FL:List (Nat->Int)}{T:Nat->Int}(h:d8 v LS FL)(hN:Nx LS v a LS.length true T):∃j,j<FL.length/\SF T (gf FL j)/\a<T 0/\gH FL (T 0) FL.length=gH FL a FL.length+1:=by
 rcases hN with⟨e,_⟩|⟨_,i,hi,hc,rfl,hm⟩
 ·cases e
 obtain⟨j,hj,hs⟩:=h.fwd i hi hc.1
 have e0:=hs 0 (by omega)
 refine⟨j,hj,hs,hc.2,?_⟩;have ha:=hc.2
 refine cle_more j (by rw[<-e0]; omega) (by rw[<-e0]; exact Int.le_refl _) _ hj fun q hq hne=>⟨fun hh=>by omega,fun hh=>?_⟩
 by_cases c:gf FL q 0<=a
 ·exact c
 exfalso
 obtain⟨i',hi',hin',hs'⟩:=h.fro q hq
 have e1:=hs' 0 (by omega)
 have:=hm i' hi' ⟨hin',by omega⟩
 exact hne (h.dis q j hq hj (by omega))
theorem d8.ended {v a:Int}{LS FL:List (Nat->Int)}{T:Nat->Int}(h:d8 v LS FL)(hN:Nx LS v a LS.length false T):gH FL a FL.length=FL.length:=by
 rcases hN with⟨_,hno⟩|⟨e,_⟩
 ·refine cle_all _ fun j hj=>?_
  obtain⟨i,hi,hin,hs⟩:=h.fro j hj
  have e0:=hs 0 (by omega)
  by_cases c:gf FL j 0<=a
  ·exact c
  exact absurd ⟨hin,by omega⟩ (hno i hi)
 cases e
def lP (a:Int)(R:List (Nat->Int)):Nat->Int
 | 0=>a
 | i+1=>gf R i 0
structure jB (FL:List (Nat->Int))(a:Int)(R:List (Nat->Int)):Prop where
 mem:∀i,i<R.length->∃j,j<FL.length/\SF (gf R i) (gf FL j)
 ris:∀i,i<R.length->lP a R i<gf R i 0
 cnt:gH FL (lP a R R.length) FL.length=gH FL a FL.length+R.length
theorem pid_left {a:Int}{R:List (Nat->Int)}{f:Nat->Int}{i:Nat}(h:i<=R.length):lP a (R++[f]) i=lP a R i:=by
 cases i with
 | zero=>rfl
 | succ i=>show gf (R++[f]) i 0=gf R i 0; rw[di (by omega)]
theorem rdP_nil (FL:List (Nat->Int))(a:Int):jB FL a []:=⟨fun i hi=>by simp at hi,fun i hi=>by simp at hi,by simp[lP]⟩
theorem jB.add {FL R:List (Nat->Int)}{a:Int}{T:Nat->Int}(h:jB FL a R)(hT:∃j,j<FL.length/\SF T (gf FL j)/\lP a R R.length<T 0/\gH FL (T 0) FL.length=gH FL (lP a R R.length) FL.length+1):jB FL a (R++[T]):=by
 obtain⟨j,hj,hs,hlt,hc⟩:=hT;refine⟨fun i hi=>?_,fun i hi=>?_,?_⟩
 ·by_cases c:i<R.length
  ·rw[di c]; exact h.mem i c
  have:i=R.length:=by simp at hi; omega
  subst this; rw[cD]; exact⟨j,hj,hs⟩
 ·by_cases c:i<R.length
  ·rw[di c,pid_left (by omega)]; exact h.ris i c
  have:i=R.length:=by simp at hi; omega
  subst this; rw[cD,pid_left aD]; exact hlt
 rw[List.length_append,List.length_singleton];show gH FL (gf (R++[T]) R.length 0) FL.length=_
 rw[cD,hc,h.cnt]; omega
theorem lR (T:TypeId)(m:Nat)(w:World)(B:Nat)(hB:B<=w.heap.size):bf T m (w.alloc (.cells #[] T)) B (.slice (some ⟨w.heap.size,0,none⟩) 0 0) []:=
 ⟨by simp[fl],Or.inr ⟨w.heap.size,0,#[],rfl,hB,heap_alloc_new w (.cells #[] T (0,0)),Nat.le_refl _,by unfold maxLen; omega,by simp,by simp[fl]⟩⟩
theorem Read_no (sb:Nat)(keep ver:Int)(sl pv:Value)(LS PL:List (Nat->Int))(v a n:Int)(w:World)(hs:dD w sb keep ver sl pv LS PL)(hp:PL.length<=100)(hk:0<=keep/\keep<=4)(hv:0<=ver/\ver<=100)(hh:bS keep ver PL v=false):
  Calls prog 34 #[.pointer (some ⟨sb,0,none⟩),v,a,n] w fun e w'=>e=.returned (.tuple #[.slice none 0 0,(12:Int)])/\Below w.heap.size w w':=by
 have H:=gm sb keep ver sl pv LS PL v w hs hp hk hv;rw[hh] at H;clear hs;go_enter func34,ntmps34
 go_wp2_with fail
 refine H.mono ?_;rintro e w1 ⟨rfl,hb1⟩;have HB:=ae hb1;clear hb1
 go_wp2_with fail
 go_ret2
 exact⟨rfl,aa HB⟩
theorem Read_any (sb:Nat)(keep ver:Int)(sl pv:Value)(LS PL FL:List (Nat->Int))(v a:Int)(n:Nat)(w:World)(hs:dD w sb keep ver sl pv LS PL)(hl:LS.length<=1000)(hp:PL.length<=100)(hk:0<=keep/\keep<=4)(hv:0<=ver/\ver<=100)(hh:bS keep ver PL v=true)
  (hR:d8 v LS FL) (hn:1<=n/\n<=8) :
  Calls prog 34 #[.pointer (some ⟨sb,0,none⟩),v,a,n] w fun e w'=>(∃R rv,e=.returned (.tuple #[rv,()])/\bf 66 24 w' w.heap.size rv R/\jB FL a R/\R.length<=n/\(R.length=n\/gH FL (lP a R R.length) FL.length=FL.length))/\Below w.heap.size w w':=by
 have H:=gm sb keep ver sl pv LS PL v w hs hp hk hv;rw[hh] at H;have HS:=ae hs;have HR:=ae hR
 have n1:¬(n:Int)<1:=by omega
 have n2:¬(8:Int)<n:=by omega
 clear hs hR;go_enter func34,ntmps34
 go_wp2_with fail
 refine H.mono ?_;rintro e w1 ⟨rfl,hb1⟩;have HO1:=ae (lR 66 24 w1 w.heap.size hb1.size);have hz1:w.heap.size<=w1.heap.size:=hb1.size;have HB1:=ae (hb1.alloc hb1.size (.cells #[] 66));clear hb1 H
 go_wp2_with fail
 go_loopw [2,10,11,12,13] (fun av cv i _ _ wr=>∃R:List (Nat->Int),R.length<=n/\i=.int .i64 R.length/\Hid (av=.int .i64 (lP a R R.length))/\bf 66 24 wr w.heap.size cv R/\Hid (jB FL a R)/\Below w.heap.size w wr) (fun _ _ i _ _ _=>n-(intOf i).toNat)
 case atStart=>exact⟨[],by simp,rfl,ae rfl,aa HO1,ae (rdP_nil FL a),aa HB1⟩
 case round=>
  obtain⟨R,hRn,rfl,hav,ho,hRd,hb⟩:=hrel;obtain⟨A,hA⟩:∃A,lP a R R.length=A:=⟨_,rfl⟩;have hav':=aa hav;rw[hA] at hav';subst hav';clear hav
  by_cases hlt:R.length<n
  ·have hkn:(R.length:Int)<n:=by omega
   have HNX:=ae (next_any sb keep ver sl pv LS PL v A wr ((aa HS).on (hb.mono aD)) hl);have HO:=ae ho;have HBr:=ae hb;clear ho hb
   go_wp2_with fail
   refine(aa HNX).mono ?_;rintro e w2 ⟨⟨fnd,T,rfl,hNx⟩,hb2⟩;have hAl:=heap_alloc_new w2 (.cells (fc zf) 66);have hA1:=setRow_heap _ _ _ (fc T) _ _ hAl;have hbw:=(aa HBr).trans (hb2.mono (aa HBr).size);have hsz:w.heap.size<=w2.heap.size:=hbw.size;have hb3:=aK (aG hbw aD (.cells (fc zf) 66)) hsz (fc T);have ho2:=(aa HO).on hb2
   have ho3:bf 66 24 ((w2.alloc (.cells (fc zf) 66)).setRow w2.heap.size (fc T)) w.heap.size u10 R:=(ho2.alloc (.cells (fc zf) 66)).same (fun g hg=>setRow_other (by have:=(ho2.lt g hg).2; omega) _)
   have hz3:w.heap.size<=((w2.alloc (.cells (fc zf) 66)).setRow w2.heap.size (fc T)).heap.size:=hb3.size;have hz2:wr.heap.size<=w2.heap.size:=hb2.size;have HNx:=ae hNx;have HB3:=ae hb3;have HO3:=ae ho3;clear hb2 hbw hb3 ho2 hNx HNX
   cases fnd with
   | false=>
    have HE:=ae ((aa HR).ended (aa HNx))
    go_wp2_with (first|refine al26 rfl rfl w2.heap.size rfl ?_|refine mP rfl _ _ rfl w2.heap.size T rfl rfl zf hAl ?_)
    go_ret2
    exact⟨⟨R,_,rfl,aa HO3,aa hRd,by omega,Or.inr (by rw[hA]; exact aa HE)⟩,aa HB3⟩
   | true=>
    have HE:=ae ((aa HR).found (aa HNx));have hA1c:=af hA1
    have f0:=aN T 0 (by decide)
    obtain⟨I,hI⟩:∃I,T 0=I:=⟨_,rfl⟩;rw[hI] at f0;have hA4:=heap_alloc_new ((w2.alloc (.cells (fc zf) 66)).setRow w2.heap.size (fc T)) (.cells (fc T) 66)
    obtain⟨v7,w7,hr7,ho7,hg7⟩:=run_apF (((w2.alloc (.cells (fc zf) 66)).setRow w2.heap.size (fc T)).alloc (.cells (fc T) 66)) w.heap.size u10 R [T] (ho3.alloc _) ((w2.alloc (.cells (fc zf) 66)).setRow w2.heap.size (fc T)).heap.size 0 1 (fun i hi j hj=>by
     obtain rfl:i=0:=by simp at hi; omega
     rw[af hA4]
     simpa[gf] using aN T j hj) (by simp; omega) (by simp; omega)
    have hb7:=((aa HB3).alloc hz3 (.cells (fc T) 66)).grown hg7 (by simp; omega) (fun q hq=>(ho3.lt q hq).1)
    have hc7:w7.cell? ⟨w2.heap.size,0,none⟩=some (.int .i64 I):=by
     have hl2:w2.heap.size<((w2.alloc (.cells (fc zf) 66)).setRow w2.heap.size (fc T)).heap.size:=(Array.getElem?_eq_some_iff.1 hA1).1
     rw[World.cell?_of_block (a:=⟨w2.heap.size,0,none⟩) ((hg7.block w2.heap.size (by simp; omega) (fun e=>by have:=((aa HO).lt w2.heap.size e.symm).2; omega)).trans (Below.heap_alloc _ _ _ hl2)),hA1c 0]
     exact f0
    have HB7:=ae hb7;have HO7:=ae ho7;clear hb7 ho7 hg7 hA4 ho3 hA1c
    go_wp2_with (first|refine al26 rfl rfl w2.heap.size rfl ?_|refine mP rfl _ _ rfl w2.heap.size T rfl rfl zf hAl ?_|refine dh rfl _ rfl _ rfl T hA1 ?_|refine bs34 rfl _ rfl T rfl _ rfl ?_|(at_builtin; refine wl_apF hr7 rfl (.tmp 40) (.tmp 42) rfl rfl rfl rfl ?_))
    go_roundw
    case rel=>exact⟨R++[T],by simp; omega,by simp,ae (by rw[List.length_append,List.length_singleton]; show _=Value.int .i64 (gf (R++[T]) R.length 0); rw[cD,hI]),aa HO7,ae ((aa hRd).add (by rw[hA]; exact aa HE)),aa HB7⟩
    case measure=>simp[intOf]; omega
  have hkn:R.length=n:=by omega
  have hkn':¬(R.length:Int)<n:=by omega
  go_wp2_with fail
  go_ret2
  exact⟨⟨R,_,rfl,ho,aa hRd,by omega,Or.inl hkn⟩,hb⟩
def ri (PI:List Int):List (Nat->Int):=PI.map fun x _=>x
theorem fI (PI:List Int):(ri PI).length=PI.length:=by simp[ri]
theorem ri_gf {PI:List Int}{i:Nat}(h:i<PI.length):gf (ri PI) i 0=PI[i]:=by
 unfold gf ri; rw[List.getElem?_map,List.getElem?_eq_getElem h]; rfl
theorem ri_app (A:List Int)(x:Int):ri (A++[x])=ri A++[fun _=>x]:=by simp[ri]
theorem hasP_ri (PI:List Int)(v:Int):pf (ri PI) v=decide (v∈PI):=by
 by_cases h:v∈PI
 ·obtain⟨i,hi,e⟩:=List.mem_iff_getElem.1 h
  rw[decide_eq_true h]
  exact hasP_yes (by rw[fI]; exact hi) (by rw[ri_gf hi]; exact e)
 rw[decide_eq_false h]
 exact hasP_no fun i hi e=>h (by rw[fI] at hi; rw[ri_gf hi] at e; rw[<-e]; exact List.getElem_mem hi)
structure Fr (S:Nat->Prop)(w w':World):Prop where
 os:w'.os=w.os
 tape:w'.tape=w.tape
 output:w'.output=w.output
 size:w.heap.size<=w'.heap.size
 block:∀k,k<w.heap.size->¬S k->w'.heap[k]?=w.heap[k]?
def PinR (sb:Nat)(keep ver:Int)(sl pv:Value)(LS:List (Nat->Int))(PI:List Int)(v:Int)(w:World)(e:Ending)(w':World):Prop:=
 (bS keep ver (ri PI) v=false/\e=.returned (.int .i64 12)/\Below w.heap.size w w')\/(bS keep ver (ri PI) v=true/\6<=PI.length/\e=.returned (.int .i64 13)/\Below w.heap.size w w') \/
 (bS keep ver (ri PI) v=true/\PI.length<6/\e=.returned (.int .i64 0)/\Fr (fun k=>k=sb\/pv.ownBlock=some k) w w'/\∃pv',dD w' sb keep ver sl pv' LS (ri (PI++[v]))/\(pv'.ownBlock=pv.ownBlock\/∀g,pv'.ownBlock=some g->w.heap.size<=g))
theorem Pin_any (sb:Nat)(keep ver:Int)(sl pv:Value)(LS:List (Nat->Int))(PI:List Int)(v:Int)(w:World)(hs:dD w sb keep ver sl pv LS (ri PI))(hdj:∀g,pv.ownBlock=some g->sl.ownBlock≠some g)(hl:PI.length<=6)(hk:0<=keep/\keep<=4)(hv:0<=ver/\ver<=100):
  Calls prog 30 #[.pointer (some ⟨sb,0,none⟩),v] w fun e w'=>PinR sb keep ver sl pv LS PI v w e w':=by
 have H:=gm sb keep ver sl pv LS (ri PI) v w hs (by rw[fI]; omega) hk hv
 have HS:=ae hs;have HDJ:=ae hdj;clear hs hdj
 cases hh:bS keep ver (ri PI) v with
 | false=>
  rw[hh] at H;go_enter func30,ntmps30
  go_wp2_with fail
  refine H.mono ?_;rintro e w1 ⟨rfl,hb1⟩;have HH:Hid (PinR sb keep ver sl pv LS PI v w (.returned (.int .i64 12)) w1):=Or.inl ⟨hh,rfl,hb1⟩;clear hb1 H
  go_wp2_with fail
  go_ret;exact aa HH
 | true=>
  rw[hh] at H;go_enter func30,ntmps30
  go_wp2_with fail
  refine H.mono ?_;rintro e w1 ⟨rfl,hb1⟩;have hs1:=(aa HS).on hb1;obtain⟨_,_,_,s3⟩:=hs1.cells;have hlen:(ri PI).length=PI.length:=fI PI;have hlt:=(aa HS).lt;have HS1:=ae hs1;have HB1:=ae hb1
  obtain⟨oa,cap,hpv⟩:∃oa cap,pv=.slice oa (ri PI).length cap:=by
   rcases hs1.pins.2 with⟨h,h0⟩|⟨g,c,cur,h,_⟩
   ·exact⟨none,0,by rw[h0]; exact h⟩
   exact⟨_,_,h⟩
  subst hpv;clear hs1 hb1 H
  by_cases h6:6<=PI.length
  ·have h6':(6:Int)<=(ri PI).length:=by omega
   have HH:Hid (PinR sb keep ver sl (.slice oa (ri PI).length cap) LS PI v w (.returned (.int .i64 13)) w1):=Or.inr (Or.inl ⟨hh,h6,rfl,aa HB1⟩);clear hlen
   go_wp2_with fail
   go_ret;exact aa HH
  have h6':¬(6:Int)<=(ri PI).length:=by omega
  have hL:(ri PI).length<=1000:=by omega
  have hB:sb+1<=w1.heap.size:=by have:=(aa HS1).lt; omega
  have hown:=(aa HS1).pins;clear hlen
  go_wp2_with (at_builtin; refine pJ rfl (.tmp 19) (.tmp 21) rfl _ (sb+1) _ (ri PI) v rfl hown rfl hL hB ?_)
  intro v5 w5 ho5 hg5 hd5
  have hz5:w1.heap.size+1<=w5.heap.size:=by have:=hg5.size; simpa using this
  have bk:∀q,q<w1.heap.size->(Value.slice oa (ri PI).length cap).ownBlock≠some q->w5.heap[q]?=w1.heap[q]?:=fun q hq hne=>(hg5.block q (by simp; omega) (fun e=>hne e.symm)).trans (Below.heap_alloc _ _ _ hq)
  have hs5:w5.heap[sb]?=some (.cells #[keep,ver,sl,.slice oa (ri PI).length cap] 119):=(bk sb (by omega) (fun e=>by have:=(hown.lt sb e).1; omega)).trans (aa HS1).blk
  have c5:=(af hs5 3).trans (show _=some (Value.slice oa (ri PI).length cap) from rfl);have fz5:=bi hs5 3
  obtain⟨o5,n5,k5,hv5⟩:∃oa n cap,v5=.slice oa n cap:=by
   rcases ho5.2 with⟨h,_⟩|⟨g,c,cur,h,_⟩
   ·exact⟨_,_,_,h⟩
   exact⟨_,_,_,h⟩
  subst hv5;have hsl:=(aa HS1).own
  have HH:Hid (PinR sb keep ver sl (.slice oa (ri PI).length cap) LS PI v w (.returned (.int .i64 0)) (w5.setCell ⟨sb,3,none⟩ (.slice o5 n5 k5))):=by
   have b1:=aa HB1
   refine Or.inr (Or.inr ⟨hh,by omega,rfl,⟨hg5.os.trans b1.os,hg5.tape.trans b1.tape,hg5.output.trans b1.output,?_,?_⟩,_,⟨dZ hs5 _,?_,?_⟩,?_⟩)
   ·have:=b1.size; simp only[World.setCell,Array.size_modify]; omega
   ·intro q hq hn
    rw[Below.heap_setCell _ _ _ _ (fun e=>hn (Or.inl e)),bk q (by have:=b1.size; omega) (fun e=>hn (Or.inr e)),b1.block q hq]
   ·refine hsl.same fun g hg=>(Below.heap_setCell _ _ _ _ (by have:=(hsl.lt g hg).1; simp; omega)).trans (bk g (hsl.lt g hg).2 (fun e=>aa HDJ g e hg))
   ·rw[ri_app]
    exact bf.same ho5 fun g hg=>Below.heap_setCell _ _ _ _ (by have:=(bf.lt ho5 g hg).1; simp; omega)
   rcases hd5 with d|d
   ·exact Or.inl d
   exact Or.inr fun g hg=>by have:=d g hg; have:=b1.size; omega
  clear hs5 hsl bk ho5 hg5 hd5 hown s3
  go_wp2_with fail
  go_ret;exact aa HH
def UnpR (sb:Nat)(keep ver:Int)(sl:Value)(LS:List (Nat->Int))(PI:List Int)(v:Int)(w:World)(e:Ending)(w':World):Prop:=
 (v∉PI/\e=.returned (.int .i64 12)/\Below w.heap.size w w')\/(v∈PI/\e=.returned (.int .i64 0)/\Fr (fun k=>k=sb) w w'/\∃pv',dD w' sb keep ver sl pv' LS (ri (PI.erase v))/\∀g,pv'.ownBlock=some g->w.heap.size<=g)
theorem take_erase {PI:List Int}{v:Int}{k:Nat}(hk:k<PI.length):(PI.take (k+1)).erase v=if v∈PI.take k then (PI.take k).erase v++[PI[k]] else if PI[k]=v then PI.take k else PI.take k++[PI[k]]:=by
 have e:PI.take (k+1)=PI.take k++[PI[k]]:=by rw[List.take_add_one,List.getElem?_eq_getElem hk]; rfl
 rw[e,List.erase_append]
 by_cases c:v∈PI.take k
 ·rw[if_pos c,if_pos c]
 rw[if_neg c,if_neg c]
 by_cases d:PI[k]=v
 ·rw[if_pos d,d]; simp
 rw[if_neg d,List.erase_of_not_mem (by simp[Ne.symm d])]
theorem m0 {PI:List Int}{v:Int}{k:Nat}(hk:k<PI.length):v∈PI.take (k+1)↔v∈PI.take k\/v=PI[k]:=by
 have e:PI.take (k+1)=PI.take k++[PI[k]]:=by rw[List.take_add_one,List.getElem?_eq_getElem hk]; rfl
 rw[e,List.mem_append,List.mem_singleton]
theorem Unpin_any (sb:Nat)(keep ver:Int)(sl pv:Value)(LS:List (Nat->Int))(PI:List Int)(v:Int)(w:World)(hs:dD w sb keep ver sl pv LS (ri PI))(hl:PI.length<=6):
  Calls prog 32 #[.pointer (some ⟨sb,0,none⟩),v] w fun e w'=>UnpR sb keep ver sl LS PI v w e w':=by
 obtain⟨_,_,_,s3⟩:=hs.cells;have hlt:=hs.lt
 obtain⟨oa,cap,rfl,hc⟩:=hs.pins.ints (by rw[fI]; omega)
 have HC:=ae hc;have HS:=ae hs;have HO0:=ae (lR 3 1 w w.heap.size aD);have hlen:=fI PI;obtain⟨n,hn⟩:∃n,PI.length=n:=⟨_,rfl⟩;have HN:=ae hn
 have hrn:(ri PI).length=n:=by omega
 rw[hrn] at s3 HC HS;clear hc hs hlen;go_enter func32,ntmps32
 go_wp2_with fail
 go_loopw [5,6,7] (fun lv fv i wr=>∃(k:Nat),k<=n/\i=.int .i64 k/\Hid (fv=.bool (decide (v∈PI.take k)))/\bf 3 1 wr w.heap.size lv (ri ((PI.take k).erase v))/\Below w.heap.size w wr) (fun _ _ i _=>n-(intOf i).toNat)
 case atStart=>exact⟨0,by omega,rfl,ae (by simp),aa HO0,aj _ _⟩
 case round=>
  obtain⟨k,hk,rfl,hfv,ho,hb⟩:=hrel;have hfv':=aa hfv;clear hfv;have r3:=(hb.cell (p:=⟨sb,3,none⟩) hlt).trans s3
  by_cases hlk:k<n
  ·have hkn:(k:Int)<n:=by omega
   have hkP:k<PI.length:=by rw[aa HN]; exact hlk
   obtain⟨b,off,rfl,hbl,hc0⟩:=aa HC (by omega)
   have ck:=(hb.cell (p:=⟨b,off+k,none⟩) hbl).trans (hc0 k hlk);rw[ri_gf hkP] at ck;have HTE:=ae (take_erase (v:=v) hkP);have HMT:=ae (m0 (v:=v) hkP);obtain⟨X,hX⟩:∃X,PI[k]=X:=⟨_,rfl⟩;rw[hX] at ck HTE HMT;have hsz:w.heap.size<=wr.heap.size:=hb.size
   have hL:(ri ((PI.take k).erase v)).length<=1000:=by
    rw[fI];have:=List.length_erase_le (a:=v) (l:=PI.take k)
    have h2:(PI.take k).length<=k:=by simp; omega
    omega
   have HBr:=ae hb;clear hc0 hb
   by_cases hin:v∈PI.take k
   ·rw[decide_eq_true hin] at hfv'
    subst hfv';have HD:Hid (decide (v∈PI.take (k+1))=true):=decide_eq_true ((aa HMT).2 (Or.inl hin))
    have HL:Hid ((PI.take (k+1)).erase v=(PI.take k).erase v++[X]):=by show(PI.take (k+1)).erase v=_; rw[aa HTE,if_pos hin]
    by_cases hx:X=v
    focus
     subst hx
     go_wp2_with (at_builtin; refine pJ rfl (.tmp 31) (.tmp 39) rfl _ w.heap.size _ (ri ((PI.take k).erase X)) X rfl ho rfl hL hsz ?_)
    rotate_left
    focus
     go_wp2_with (at_builtin; refine pJ rfl (.tmp 31) (.tmp 39) rfl _ w.heap.size _ (ri ((PI.take k).erase v)) X rfl ho rfl hL hsz ?_)
    all_goals
     intro v5 w5 ho5 hg5 hd5
     have hb5:=((aa HBr).alloc hsz (.cells #[X] 3)).grown hg5 (by simp; omega) (fun q hq=>(ho.lt q hq).1)
     have HO5:=ae ho5;clear ho5 hg5 hd5 ck r3 ho
     go_wp2_with fail
     go_roundw
     case rel=>exact⟨k+1,by omega,by go_num,ae (by rw[aa HD]),by rw[aa HL,ri_app]; exact aa HO5,hb5⟩
     case measure=>simp[intOf]; omega
   rw[decide_eq_false hin] at hfv';subst hfv';have her:(PI.take k).erase v=PI.take k:=List.erase_of_not_mem hin
   by_cases hx:X=v
   ·have HD:Hid (decide (v∈PI.take (k+1))=true):=decide_eq_true ((aa HMT).2 (Or.inr hx.symm))
    have HL:Hid ((PI.take (k+1)).erase v=(PI.take k).erase v):=by show(PI.take (k+1)).erase v=_; rw[aa HTE,if_neg hin,if_pos hx,her]
    have HO5:=ae ho;subst hx;clear ho her
    go_wp2_with fail
    go_roundw
    case rel=>exact⟨k+1,by omega,by go_num,ae (by rw[aa HD]),by rw[aa HL]; exact aa HO5,aa HBr⟩
    case measure=>simp[intOf]; omega
   have HD:Hid (decide (v∈PI.take (k+1))=false):=decide_eq_false (fun h=>by rcases(aa HMT).1 h with h|h; exact hin h; exact hx h.symm)
   have HL:Hid ((PI.take (k+1)).erase v=(PI.take k).erase v++[X]):=by show(PI.take (k+1)).erase v=_; rw[aa HTE,if_neg hin,if_neg hx,her]
   clear her
   go_wp2_with (at_builtin; refine pJ rfl (.tmp 31) (.tmp 39) rfl _ w.heap.size _ (ri ((PI.take k).erase v)) X rfl ho rfl hL hsz ?_)
   intro v5 w5 ho5 hg5 hd5
   have hb5:=((aa HBr).alloc hsz (.cells #[X] 3)).grown hg5 (by simp; omega) (fun q hq=>(ho.lt q hq).1)
   have HO5:=ae ho5;clear ho5 hg5 hd5 ck r3 ho
   go_wp2_with fail
   go_roundw
   case rel=>exact⟨k+1,by omega,by go_num,ae (by rw[aa HD]),by rw[aa HL,ri_app]; exact aa HO5,hb5⟩
   case measure=>simp[intOf]; omega
  have hkn:k=n:=by omega
  subst hkn
  have htk:PI.take k=PI:=List.take_of_length_le (by rw[aa HN]; omega)
  rw[htk] at hfv' ho
  by_cases hin:v∈PI
  ·rw[decide_eq_true hin] at hfv'
   subst hfv';have hsr:=(hb.block sb hlt).trans (aa HS).blk;have fz:=bi hsr 3
   obtain⟨o5,n5,k5,hv5⟩:∃oa n cap,u5=.slice oa n cap:=by
    rcases ho.2 with⟨h,_⟩|⟨g,c,cur,h,_⟩
    ·exact⟨_,_,_,h⟩
    exact⟨_,_,_,h⟩
   subst hv5;have hsl:=(aa HS).own
   have HH:Hid (UnpR sb keep ver sl LS PI v w (.returned (.int .i64 0)) (wr.setCell ⟨sb,3,none⟩ (.slice o5 n5 k5))):=by
    refine Or.inr ⟨hin,rfl,⟨hb.os,hb.tape,hb.output,by have:=hb.size; simpa[World.setCell] using this,fun q hq hn=>?_⟩,_,⟨dZ hsr _,?_,?_⟩,fun g hg=>(ho.lt g hg).1⟩
    ·rw[Below.heap_setCell _ _ _ _ (fun e=>hn e),hb.block q hq]
    ·exact hsl.same fun g hg=>(Below.heap_setCell _ _ _ _ (by have:=(hsl.lt g hg).1; simp; omega)).trans (hb.block g (hsl.lt g hg).2)
    exact(ho.same fun g hg=>Below.heap_setCell _ _ _ _ (by have:=(ho.lt g hg).1; simp; omega)).mono (by omega)
   clear hb ho hsr hsl s3
   go_wp2_with fail
   go_ret;exact aa HH
  rw[decide_eq_false hin] at hfv';subst hfv';have HH:Hid (UnpR sb keep ver sl LS PI v w (.returned (.int .i64 12)) wr):=Or.inl ⟨hin,rfl,hb⟩;clear hb ho
  go_wp2_with fail
  go_ret;exact aa HH
theorem inV_end {v n:Int}{g:Nat->Int}(hv:v<=n)(hn:0<=n)(h0:g 25=0):mH v (upd g 25 (n+1))=mH v g:=by
 unfold mH upd
 simp only[if_true,show ¬(24:Nat)=25 by omega,if_false,h0]
 rw[decide_eq_true (show v<n+1 by omega),decide_eq_false (show ¬n+1=0 by omega)]
 simp
theorem inV_new {v n:Int}{f:Nat->Int}(hv:v<=n):mH v (aO f (n+1))=false:=by
 unfold mH aO
 simp only[show ¬(24:Nat)<24 by omega,if_false,if_true]
 rw[decide_eq_false (by omega)]; rfl
theorem inV_now {n:Int}{g:Nat->Int}(h:g 24<=n/\g 25<=n):mH n g=decide (g 25=0):=by
 unfold mH
 rw[decide_eq_true h.1,decide_eq_false (show ¬n<g 25 by omega)]
 simp
theorem d8.end_ {v n:Int}{LS G:List (Nat->Int)}(h:d8 v LS G)(hv:v<=n)(hn:0<=n){i:Nat}(hi:gf LS i 25=0):d8 v (dg LS i 25 (n+1)) G:=by
 have key:∀k,k<LS.length->mH v (gf (dg LS i 25 (n+1)) k)=mH v (gf LS k)/\SF (gf (dg LS i 25 (n+1)) k) (gf LS k):=by
  intro k hk;rw[cz _ _ _ _ _ hk]
  by_cases e:k=i
  ·subst e; rw[if_pos rfl]; exact⟨inV_end hv hn hi,oA _ _⟩
  rw[if_neg e]; exact⟨rfl,fun _ _=>rfl⟩
 refine⟨fun k hk hin=>?_,fun j hj=>?_,h.rt,h.dis,h.le40⟩
 ·rw[bp] at hk
  rw[(key k hk).1] at hin;obtain⟨j,hj,hs⟩:=h.fwd k hk hin;exact⟨j,hj,(key k hk).2.trans hs⟩
 obtain⟨k,hk,hin,hs⟩:=h.fro j hj
 exact⟨k,by rw[bp]; exact hk,by rw[(key k hk).1]; exact hin,(key k hk).2.trans hs⟩
theorem d8.join {v n:Int}{LS G:List (Nat->Int)}(h:d8 v LS G)(hv:v<=n)(f:Nat->Int):d8 v (LS++[aO f (n+1)]) G:=by
 refine⟨fun k hk hin=>?_,fun j hj=>?_,h.rt,h.dis,h.le40⟩
 ·by_cases c:k<LS.length
  ·rw[di c] at hin ⊢; exact h.fwd k c hin
  have:k=LS.length:=by simp at hk; omega
  subst this; rw[cD,inV_new hv] at hin; cases hin
 obtain⟨k,hk,hin,hs⟩:=h.fro j hj
 exact⟨k,by simp; omega,by rw[di hk]; exact hin,by rw[di hk]; exact hs⟩
theorem bnd_end' {LS:List (Nat->Int)}{m:Int}(hB:Bnd LS m)(i:Nat):Bnd (dg LS i 25 m) m:=by
 intro k hk;rw[bp] at hk;have:=hB k hk;rw[cz _ _ _ _ _ hk]
 by_cases e:k=i
 ·subst e; rw[if_pos rfl]; simp only[upd]; simp; omega
 rw[if_neg e]; exact this
theorem iq.keeps {n:Int}{e:Nat->Int}{LS LS':List (Nat->Int)}(h:iq (n+1) e LS 0 LS')(hn:0<=n)(hB:Bnd LS (n+1)):Bnd LS' (n+1)/\∀v,v<=n->∀G,d8 v LS G->d8 v LS' G:=by
 rcases h with⟨_,hP⟩|⟨_,hD⟩|⟨_,_,q,_⟩
 ·rcases hP with⟨_,q,_⟩|⟨_,⟨i,hF,_,rfl⟩|⟨_,_,q,_⟩|⟨_,_,_,rfl⟩⟩
  ·omega
  ·exact⟨bnd_join (bnd_end' hB i) (by omega) (Int.le_refl _) _,fun v hv G hR=>(hR.end_ hv hn hF.2.1.1).join hv _⟩
  ·omega
  exact⟨bnd_join hB (by omega) (Int.le_refl _) _,fun v hv G hR=>hR.join hv _⟩
 ·rcases hD with⟨i,hF,_,rfl⟩|⟨_,q,_⟩
  ·exact⟨bnd_end' hB i,fun v hv G hR=>hR.end_ hv hn hF.2.1.1⟩
  omega
 omega
theorem relV_now {n:Int}{LS FL:List (Nat->Int)}(h:mC LS FL)(hB:Bnd LS n)(h40:FL.length<=40):d8 n LS FL:=by
 refine⟨fun i hi hin=>?_,fun j hj=>?_,h.rt,h.dis,h40⟩
 ·rw[inV_now (hB i hi),decide_eq_true_eq] at hin
  exact h.fwd i hi hin
 obtain⟨i,hi,h25,hs⟩:=h.fro j hj
 exact⟨i,hi,by rw[inV_now (hB i hi)]; exact decide_eq_true h25,hs⟩
theorem relV_nil:d8 0 [] []:=relV_now oG (fun i hi=>by simp at hi) (by simp)
theorem bf.ty {T:TypeId}{m:Nat}{w:World}{B:Nat}{v:Value}{l:List (Nat->Int)}(h:bf T m w B v l){g:Nat}(hg:v.ownBlock=some g):∃cur,w.heap[g]?=some (.cells cur T (0,0)):=by
 rcases h.2 with⟨rfl,_⟩|⟨g',cap,cur,rfl,_,hh,_⟩
 ·simp[Value.ownBlock] at hg
 simp only[Value.ownBlock,Option.some.injEq] at hg
 subst hg; exact⟨cur,hh⟩
theorem aI {w:World}{g g':Nat}{c c':Array Value}{T T':TypeId}{f f':Nat × Nat}(h:w.heap[g]?=some (.cells c T f))(h':w.heap[g']?=some (.cells c' T' f'))(hT:T≠T'):g≠g':=by
 intro e; subst e; rw[h] at h'; simp only[Option.some.injEq,Obj.cells.injEq] at h'; exact hT h'.2.1
def wo (fs:List (Nat->Int))(id:Int):List (Nat->Int):=fs.filter fun f=>!decide (f 0=id)
def gn (fs:List (Nat->Int))(id:Int):List (Nat->Int):=fs.filter fun f=>decide (f 0=id)
def fF (fs:List (Nat->Int))(e:Nat->Int):Int:=
 if e 0=0 then (if right (eF e)=true then (if (wo fs (e 1)).length+1<=40 then 0 else 11) else 7) else if e 0=1 then (if gn fs (e 1)=[] then 10 else 0) else 9
def edN (fs:List (Nat->Int))(e:Nat->Int):List (Nat->Int):=if fF fs e=0 then (if e 0=0 then wo fs (e 1)++[eF e] else wo fs (e 1)) else []
def nP (fs:List (Nat->Int))(e:Nat->Int):List (Nat->Int):=if fF fs e=0 then (if e 0=0 then gn fs (e 1)++[eF e] else gn fs (e 1)) else []
def jX (fs:List (Nat->Int))(es:Nat->Nat->Int):Nat->List (Nat->Int)
 | 0=>fs
 | k+1=>edN (jX fs es k) (es k)
def mvT (fs:List (Nat->Int))(es:Nat->Nat->Int):Nat->List (Nat->Int)
 | 0=>[]
 | k+1=>mvT fs es k++nP (jX fs es k) (es k)
abbrev bK:=List (Nat->Int)
def ff (bs:List bK)(v:Nat):bK:=bs.getD v []
def dk (bs:List bK):Nat->List (Nat->Int)
 | 0=>[]
 | v+1=>jX (dk bs v) (gf (ff bs v)) (ff bs v).length
def mF (bs:List bK)(l z x y:Int):Nat->Nat
 | 0=>0
 | v+1=>bif (mvT (dk bs v) (gf (ff bs v)) (ff bs v).length).any (fun f=>cJ f l z x y) then v+1 else mF bs l z x y v
theorem edN_len {fs:List (Nat->Int)}{e:Nat->Int}(h:fs.length<=40):(edN fs e).length<=40:=by
 have hw:(wo fs (e 1)).length<=fs.length:=List.length_filter_le _ _;unfold edN
 split
 ·rename_i h0
  split
  ·rename_i h1
   unfold fF at h0;rw[if_pos h1] at h0
   split at h0
   ·split at h0
    ·rw[List.length_append,List.length_singleton]; assumption
    cases h0
   cases h0
  omega
 simp
theorem eZ {fs:List (Nat->Int)}{es:Nat->Nat->Int}(h:fs.length<=40):∀k,(jX fs es k).length<=40
 | 0=>h
 | k+1=>edN_len (eZ h k)
theorem edM_len {fs:List (Nat->Int)}{e:Nat->Int}:(nP fs e).length<=fs.length+1:=by
 have hw:(gn fs (e 1)).length<=fs.length:=List.length_filter_le _ _;unfold nP
 split
 ·split
  ·rw[List.length_append,List.length_singleton]; omega
  omega
 simp
theorem d7 (bs:List bK):∀v,(dk bs v).length<=40
 | 0=>by simp[dk]
 | v+1=>eZ (d7 bs v) _
theorem lsV_le (bs:List bK)(l z x y:Int):∀v,mF bs l z x y v<=v
 | 0=>Nat.le_refl _
 | v+1=>by
  rw[mF]
  cases (mvT (dk bs v) (gf (ff bs v)) (ff bs v).length).any (fun f=>cJ f l z x y) with
  | true=>exact Nat.le_refl _
  | false=>have:=lsV_le bs l z x y v; exact Nat.le_succ_of_le this
theorem lr {bs:List bK}{b:bK}{v:Nat}(h:v<bs.length):ff (bs++[b]) v=ff bs v:=by
 unfold ff; simp[List.getD,List.getElem?_append_left h]
theorem lu (bs:List bK)(b:bK):ff (bs++[b]) bs.length=b:=by
 unfold ff; simp[List.getD]
theorem gx {bs:List bK}{b:bK}:∀{v:Nat},v<=bs.length->dk (bs++[b]) v=dk bs v
 | 0,_=>rfl
 | v+1,h=>by rw[dk,dk,gx (by omega),lr (by omega)]
theorem lj {bs:List bK}{b:bK}{l z x y:Int}:∀{v:Nat},v<=bs.length->mF (bs++[b]) l z x y v=mF bs l z x y v
 | 0,_=>rfl
 | v+1,h=>by rw[mF,mF,lj (by omega),lr (by omega),gx (by omega)]
theorem pI (bs:List bK)(b:bK):dk (bs++[b]) (bs.length+1)=jX (dk bs bs.length) (gf b) b.length:=by rw[dk,lu,gx aD]
theorem lsV_new (bs:List bK)(b:bK)(l z x y:Int):mF (bs++[b]) l z x y (bs.length+1)=bif (mvT (dk bs bs.length) (gf b) b.length).any (fun f=>cJ f l z x y) then bs.length+1 else mF bs l z x y bs.length:=by rw[mF,lu,gx aD,lj aD]
theorem gp {l:List (Nat->Int)}{j:Nat}(h:j<l.length):gf l j∈l:=by
 unfold gf; rw[List.getElem?_eq_getElem h]; exact List.getElem_mem h
theorem jS {l:List (Nat->Int)}{a:Nat->Int}(h:a∈l):∃j,j<l.length/\gf l j=a:=by
 obtain⟨j,hj,e⟩:=List.getElem_of_mem h
 exact⟨j,hj,by unfold gf; rw[List.getElem?_eq_getElem hj]; exact e⟩
theorem mf {l:List (Nat->Int)}{j:Nat}(h:j<l.length):gf l j=l[j]:=by unfold gf; rw[List.getElem?_eq_getElem h]; rfl
def Dis (l:List (Nat->Int)):Prop:=l.Pairwise fun a b=>a 0≠b 0
theorem dis_in {l:List (Nat->Int)}(h:∀j j',j<l.length->j'<l.length->gf l j 0=gf l j' 0->j=j'):Dis l:=by
 unfold Dis;rw[List.pairwise_iff_getElem];intro i j hi hj hij e
 have:=h i j hi hj (by rw[mf hi,mf hj]; exact e)
 omega
theorem dis_out {l:List (Nat->Int)}(h:Dis l):∀j j',j<l.length->j'<l.length->gf l j 0=gf l j' 0->j=j':=by
 intro i j hi hj e;unfold Dis at h;rw[List.pairwise_iff_getElem] at h;rw[mf hi,mf hj] at e
 rcases Nat.lt_trichotomy i j with c|c|c
 ·exact absurd e (h i j hi hj c)
 ·exact c
 exact absurd e.symm (h j i hj hi c)
theorem wo_none {l:List (Nat->Int)}{id:Int}(h:∀a∈l,a 0≠id):wo l id=l:=by
 unfold wo; rw[List.filter_eq_self]; intro a ha; simp[h a ha]
theorem pi {l:List (Nat->Int)}{id:Int}(h:∀a∈l,a 0≠id):gn l id=[]:=by
 unfold gn; rw[List.filter_eq_nil_iff]; intro a ha; simp[h a ha]
theorem pg {id:Int}{a:Nat->Int}:∀{l:List (Nat->Int)},Dis l->a∈l->a 0=id->gn l id=[a]/\l.length=(wo l id).length+1
 | [],_,h,_=>by simp at h
 | b::l,hd,h,e=>by
  unfold Dis at hd;rw[List.pairwise_cons] at hd
  rcases List.mem_cons.1 h with rfl|h
  ·have hn:∀c∈l,c 0≠id:=fun c hc q=>hd.1 c hc (e.trans q.symm)
   have h1:=pi hn;have h2:=wo_none hn;unfold gn at h1 ⊢;unfold wo at h2 ⊢;rw[List.filter_cons,List.filter_cons,h1,h2];simp[e]
  obtain⟨h1,h2⟩:=pg hd.2 h e;have hb:b 0≠id:=fun q=>hd.1 a h (q.trans e.symm);unfold gn at h1 ⊢;unfold wo at h2 ⊢;rw[List.filter_cons,List.filter_cons,h1];simp[hb];simpa using h2
theorem gone_wo {FL:List (Nat->Int)}{id:Int}{j:Nat}(hd:Dis FL)(hj:j<FL.length)(e:gf FL j 0=id):Gone FL id (wo FL id):=by
 refine⟨(pg hd (gp hj) e).2,fun i hi=>?_,fun a ha hne=>?_,dis_out (List.Pairwise.filter _ hd)⟩
 ·have hm:=gp hi
  unfold wo at hm;rw[List.mem_filter] at hm;obtain⟨a,ha,q⟩:=jS hm.1;refine⟨a,ha,q,fun c=>?_⟩;rw[q] at c;have:=hm.2;simp[c] at this
 have:gf FL a∈wo FL id:=by
  unfold wo; rw[List.mem_filter]; exact⟨gp ha,by simp[hne]⟩
 obtain⟨j,hj,q⟩:=jS this;exact⟨j,hj,q⟩
theorem mC.edit {LS FL LS':List (Nat->Int)}{e:Nat->Int}{r ver:Int}(h:mC LS FL)(h40:FL.length<=40)(hv:ver≠0)(hA:iq ver e LS r LS'):r=fF FL e/\(r=0->mC LS' (edN FL e)):=by
 have hd:=dis_in h.dis
 have fst:∀{id:Int} {i:Nat},Fst LS id i->∃j,j<FL.length/\gf FL j 0=id/\(wo FL id).length+1=FL.length/\gn FL id=[gf FL j]:=fun hF=>by
  obtain⟨j,hj,hid,_⟩:=h.fst hF;have:=pg hd (gp hj) hid;exact⟨j,hj,hid,this.2.symm,this.1⟩
 have non:∀{id:Int},Non LS id->wo FL id=FL/\gn FL id=[]:=fun hN=>by
  have hNo:=h.non hN
  have hm:∀a∈FL,a 0≠_:=fun a ha q=>by
   obtain⟨j,hj,e⟩:=jS ha
   exact hNo j hj (by rw[e]; exact q)
  exact⟨wo_none hm,pi hm⟩
 have hn0:∀{id:Int},Non LS id->No FL id:=fun hN=>h.non hN
 have hno:∀id,No (wo FL id) id:=fun id j hj q=>by
  have hm:=gp hj;unfold wo at hm q;rw[List.mem_filter] at hm;simp[q] at hm
 rcases hA with⟨h0,hP⟩|⟨h1,hD⟩|⟨n0,n1,rfl,_⟩
 ·rcases hP with⟨hr,rfl,_⟩|⟨hr,⟨i,hF,rfl,rfl⟩|⟨hN,hc,rfl,_⟩|⟨hN,hc,rfl,rfl⟩⟩
  ·have hr':right (eF e)=false:=hr
   refine⟨by unfold fF; rw[if_pos h0,hr']; rfl,fun q=>by omega⟩
  ·have hr':right (eF e)=true:=hr
   obtain⟨j,hj,hid,hl,_⟩:=fst hF
   have hx:fF FL e=0:=by unfold fF; rw[if_pos h0,if_pos hr',if_pos (show(wo FL (e 1)).length+1<=40 from by have hl':(wo FL (e 1)).length+1=FL.length:=hl; omega)]
   refine⟨hx.symm,fun _=>?_⟩;unfold edN;rw[if_pos hx,if_pos h0];exact(h.gone hF hv (gone_wo hd hj hid)).join (ci hr') (hno _)
  ·have hr':right (eF e)=true:=hr
   have hw:wo FL (e 1)=FL:=(non hN).1;have:=h.cnt
   refine⟨by unfold fF; rw[if_pos h0,if_pos hr',hw,if_neg (by omega)],fun q=>by omega⟩
  have hr':right (eF e)=true:=hr;have hw:wo FL (e 1)=FL:=(non hN).1;have:=h.cnt
  have hx:fF FL e=0:=by unfold fF; rw[if_pos h0,if_pos hr',hw,if_pos (by omega)]
  refine⟨hx.symm,fun _=>?_⟩;unfold edN;rw[if_pos hx,if_pos h0,hw];exact h.join (ci hr') (hn0 hN)
 ·have h0:¬e 0=0:=by omega
  rcases hD with⟨i,hF,rfl,rfl⟩|⟨hN,rfl,_⟩
  ·obtain⟨j,hj,hid,hl,hg⟩:=fst hF
   have hx:fF FL e=0:=by unfold fF; rw[if_neg h0,if_pos h1,if_neg (by rw[hg]; simp)]
   refine⟨hx.symm,fun _=>?_⟩;unfold edN;rw[if_pos hx,if_neg h0];exact h.gone hF hv (gone_wo hd hj hid)
  have hg:gn FL (e 1)=[]:=(non hN).2
  refine⟨by unfold fF; rw[if_neg h0,if_pos h1,if_pos hg],fun q=>by omega⟩
 refine⟨by unfold fF; rw[if_neg n0,if_neg n1],fun q=>by omega⟩
theorem mC.stamps {LS FL LS':List (Nat->Int)}{e:Nat->Int}{n:Int}(h:mC LS FL)(h40:FL.length<=40)(hn:0<=n)(hA:iq (n+1) e LS 0 LS')(l z x y:Int):
  eW (n+1) l z x y LS' LS'.length=(bif (nP FL e).any (fun f=>cJ f l z x y) then n+1 else eW (n+1) l z x y LS LS.length)/\∀v,v<=n->eW v l z x y LS' LS'.length=eW v l z x y LS LS.length:=by
 have hx:=(h.edit h40 (by omega) hA).1.symm
 have hd:=dis_in h.dis
 have fst:∀{id:Int} {i:Nat},Fst LS id i->∃a,gn FL id=[a]/\cJ (gf LS i) l z x y=cJ a l z x y:=fun hF=>by
  obtain⟨j,hj,hid,hs⟩:=h.fst hF;exact⟨_,(pg hd (gp hj) hid).1,fg hs _ _ _ _⟩
 have non:∀{id:Int},Non LS id->gn FL id=[]:=fun hN=>pi fun a ha q=>by
  obtain⟨j,hj,e⟩:=jS ha
  exact h.non hN j hj (by rw[e]; exact q)
 rcases hA with⟨h0,hP⟩|⟨h1,hD⟩|⟨_,_,q,_⟩
 ·have hM:nP FL e=gn FL (e 1)++[eF e]:=by unfold nP; rw[if_pos hx,if_pos h0]
  rw[hM]
  rcases hP with⟨_,q,_⟩|⟨hr,⟨i,hF,_,rfl⟩|⟨_,_,q,_⟩|⟨hN,_,_,rfl⟩⟩
  ·omega
  ·obtain⟨a,hg,ht⟩:=fst hF
   have hg':gn FL (e 1)=[a]:=hg;rw[hg'];refine⟨?_,fun v hv=>(jJ _ hv).trans (kD hF.1 hF.2.1.1 hv)⟩;rw[jK _ hn,kE hF.1 hn,ht];show _=bif (cJ a l z x y || (cJ (eF e) l z x y || false)) then n+1 else _
   cases cJ a l z x y<;>cases q:cJ (eF e) l z x y<;>rw[show cJ (fun j=>e (1+j)) l z x y=_ from q]<;>rfl
  ·omega
  have hg':gn FL (e 1)=[]:=non hN;rw[hg'];refine⟨?_,fun v hv=>jJ _ hv⟩;rw[jK _ hn];show _=bif (cJ (eF e) l z x y || false) then n+1 else _
  cases q:cJ (eF e) l z x y<;>rw[show cJ (fun j=>e (1+j)) l z x y=_ from q]<;>rfl
 ·have hM:nP FL e=gn FL (e 1):=by unfold nP; rw[if_pos hx,if_neg (by omega)]
  rw[hM]
  rcases hD with⟨i,hF,_,rfl⟩|⟨_,q,_⟩
  ·obtain⟨a,hg,ht⟩:=fst hF
   rw[hg];refine⟨?_,fun v hv=>kD hF.1 hF.2.1.1 hv⟩;rw[kE hF.1 hn,ht];show _=bif (cJ a l z x y || false) then n+1 else _
   cases cJ a l z x y<;>rfl
  omega
 omega
theorem kw {n:Int}{es:Nat->Nat->Int}{LS FL:List (Nat->Int)}(hn:0<=n)(hR:mC LS FL)(h40:FL.length<=40)(hB:Bnd LS (n+1)):∀{k:Nat} {LSk:List (Nat->Int)},mE (n+1) es LS k LSk ->
  (∀j,j<k->fF (jX FL es j) (es j)=0)/\mC LSk (jX FL es k)/\Bnd LSk (n+1)/\(∀v,v<=n->∀G,d8 v LS G->d8 v LSk G) /\
  ∀l z x y,eW (n+1) l z x y LSk LSk.length=(bif (mvT FL es k).any (fun f=>cJ f l z x y) then n+1 else eW (n+1) l z x y LS LS.length)/\∀v,v<=n->eW v l z x y LSk LSk.length=eW v l z x y LS LS.length
 | 0,_,h1=>by
  rw[show _=LS from h1]
  exact⟨fun j hj=>by omega,hR,hB,fun _ _ _ h=>h,fun l z x y=>⟨rfl,fun _ _=>rfl⟩⟩
 | k+1,_,⟨LSm,a1,a2⟩=>by
  obtain⟨q0,q1,q2,q3,q4⟩:=kw hn hR h40 hB a1;have h40':=eZ (es:=es) h40 k
  obtain⟨e1,e2⟩:=q1.edit h40' (by omega) a2
  obtain⟨q5,q6⟩:=a2.keeps hn q2;refine⟨fun j hj=>?_,e2 rfl,q5,fun v hv G h=>q6 v hv G (q3 v hv G h),fun l z x y=>?_⟩
  ·by_cases c:j=k
   ·subst c; exact e1.symm
   exact q0 j (by omega)
  obtain⟨s1,s2⟩:=q1.stamps h40' hn a2 l z x y;obtain⟨t1,t2⟩:=q4 l z x y;refine⟨?_,fun v hv=>(s2 v hv).trans (t2 v hv)⟩;rw[s1,t1,mvT,List.any_append]
  cases (mvT FL es k).any (fun f=>cJ f l z x y)<;>cases (nP (jX FL es k) (es k)).any (fun f=>cJ f l z x y)<;>rfl
structure PR (LS:List (Nat->Int))(bs:List bK):Prop where
 rel:∀v:Nat,v<=bs.length->d8 v LS (dk bs v)
 now:mC LS (dk bs bs.length)
 bnd:Bnd LS bs.length
 stm:∀v:Nat,v<=bs.length->∀l z x y,eW v l z x y LS LS.length=(mF bs l z x y v:Nat)
 le:LS.length<=8*bs.length
 max:bs.length<=100
theorem pr_nil:PR [] []:=
 ⟨fun v hv=>by cases (Nat.le_zero.1 hv); exact relV_nil,oG,fun i hi=>by simp at hi,fun v hv l z x y=>by cases (Nat.le_zero.1 hv); rfl,by simp,by simp⟩
theorem PR.yes {LS LSk:List (Nat->Int)}{bs:List bK}{b:bK}(h:PR LS bs)(hb:b.length<=8)(hm:bs.length<100)(hA:mE ((bs.length:Nat)+1) (gf b) LS b.length LSk):(∀j,j<b.length->fF (jX (dk bs bs.length) (gf b) j) (gf b j)=0)/\PR LSk (bs++[b]):=by
 have hB:Bnd LS (bs.length+1):=fun i hi=>by have:=h.bnd i hi; omega
 obtain⟨q0,q1,q2,q3,q4⟩:=kw (n:=bs.length) (by omega) h.now (d7 bs _) hB hA
 refine⟨q0,fun v hv=>?_,?_,?_,fun v hv l z x y=>?_,?_,?_⟩
 ·rw[List.length_append,List.length_singleton] at hv
  by_cases c:v<=bs.length
  ·rw[gx c]; exact q3 v (by omega) _ (h.rel v c)
  obtain rfl:v=bs.length+1:=by omega
  rw[pI]
  exact relV_now q1 (by simpa using q2) (eZ (d7 bs _) _)
 ·rw[List.length_append,List.length_singleton,pI]; exact q1
 ·rw[List.length_append,List.length_singleton]; simpa using q2
 ·rw[List.length_append,List.length_singleton] at hv
  obtain⟨s1,s2⟩:=q4 l z x y
  by_cases c:v<=bs.length
  ·rw[lj c,s2 v (by omega)]; exact h.stm v c l z x y
  obtain rfl:v=bs.length+1:=by omega
  rw[lsV_new]
  have e:((bs.length+1:Nat):Int)=(bs.length:Int)+1:=by omega
  rw[e,s1,stp_up h.bnd,h.stm _ aD]
  cases (mvT (dk bs bs.length) (gf b) b.length).any (fun f=>cJ f l z x y)<;>simp
 ·have:=hA.len; have:=h.le; simp; omega
 simp; omega
theorem PR.no {LS LSk LS':List (Nat->Int)}{bs:List bK}{es:Nat->Nat->Int}{k:Nat}{r:Int}(h:PR LS bs)(hA:mE ((bs.length:Nat)+1) es LS k LSk)(hE:iq ((bs.length:Nat)+1) (es k) LSk r LS'):(∀j,j<k->fF (jX (dk bs bs.length) es j) (es j)=0)/\fF (jX (dk bs bs.length) es k) (es k)=r:=by
 have hB:Bnd LS (bs.length+1):=fun i hi=>by have:=h.bnd i hi; omega
 obtain⟨q0,q1,q2,q3,q4⟩:=kw (n:=bs.length) (by omega) h.now (d7 bs _) hB hA
 exact⟨q0,(q1.edit (eZ (d7 bs _) _) (by omega) hE).1.symm⟩
def rN (m:Nat)(hm:0<m):dR (Nat->Int):=⟨m,fun f=>(cc m f).toList,fun f=>iB m f,fun f v hv=>by
 have:=cc_one m f;rw[Array.all_eq_true_iff_forall_mem] at this
 exact this v (by simpa using hv),hm⟩
def rF:dR (Nat->Int):=rN 24 (by decide)
def rE:dR (Nat->Int):=rN 25 (by decide)
def rI:dR Int:=⟨1,fun i=>[.int .i64 i],fun _=>rfl,fun o v hv=>by simp at hv; subst hv; rfl,by decide⟩
structure Two where
 a:Nat
 b:Nat
def rTwo:dR Two:=⟨2,fun d=>[.pointer (some ⟨d.a,0,none⟩),.pointer (some ⟨d.b,0,none⟩)],fun _=>rfl,fun o v hv=>by simp at hv; rcases hv with rfl|rfl<;>rfl,by decide⟩
theorem ix {l:List (Nat->Int)}{i:Nat}(h:i<l.length):l[i]?=some (gf l i):=by rw[mf h]; exact List.getElem?_eq_getElem h
theorem bL.cs {m:Nat}{hm:0<m}{w:World}{v:Value}{l:List (Nat->Int)}(h:bL (rN m hm) w v l):mD m w v l.length (gf l):=by
 obtain⟨oa,cap,e,h1,h2,h3⟩:=h;refine⟨oa,cap,e,h2,fun h0=>?_⟩;obtain⟨b,off,e',hb,hc⟩:=h3 h0;refine⟨b,off,e',hb,fun i hi j hj=>?_⟩
 exact hc i (gf l i) (ix hi) j _ (by show(cc m (gf l i)).toList[j]?=_; rw[Array.getElem?_toList,dc m _ j hj])
theorem bL.csF {w:World}{v:Value}{l:List (Nat->Int)}(h:bL rF w v l):mD 24 w v l.length (gf l):=bL.cs h
theorem rngF {W:World}{b off:Nat}{l:List (Nat->Int)}{k:Nat}(h:∀i a,l[i]?=some a->W.rangeAt b (off+i*rF.wid) (rF.enc a))(hk:k<l.length):W.rangeAt b (off+k*24) (fc (gf l k)).toList:=h k (gf l k) (ix hk)
theorem rngE {W:World}{b off:Nat}{l:List (Nat->Int)}{k:Nat}(h:∀i a,l[i]?=some a->W.rangeAt b (off+i*rE.wid) (rE.enc a))(hk:k<l.length):W.rangeAt b (off+k*25) (cc 25 (gf l k)).toList:=h k (gf l k) (ix hk)
theorem rngI {W:World}{b off:Nat}{l:List Int}{k:Nat}{x:Int}(h:∀i a,l[i]?=some a->W.rangeAt b (off+i*rI.wid) (rI.enc a))(hk:l[k]?=some x):W.cell? ⟨b,off+k,none⟩=some (.int .i64 x):=by
 have:=h k x hk 0 (.int .i64 x) rfl;simpa[rI] using this
theorem rngS {W:World}{b off:Nat}{l:List cA}{k:Nat}{x:cA}(h:∀i a,l[i]?=some a->W.rangeAt b (off+i*cq.wid) (cq.enc a))(hk:l[k]?=some x):W.cell? ⟨b,off+k,none⟩=some x.v:=by
 have:=h k x hk 0 x.v rfl;simpa[cq] using this
theorem fc_rng {W:World}{b off:Nat}{f:Nat->Int}(h:W.rangeAt b off (fc f).toList)(j:Nat)(hj:j<24):W.cell? ⟨b,off+j,none⟩=some (.int .i64 (f j)):=h j _ (by rw[cc_fc,Array.getElem?_toList,dc 24 f j hj])
theorem pF {W:World}{b off m:Nat}{f:Nat->Int}(h:W.rangeAt b off (cc m f).toList)(j:Nat)(hj:j<m):W.cell? ⟨b,off+j,none⟩=some (.int .i64 (f j)):=h j _ (by rw[Array.getElem?_toList,dc m f j hj])
theorem inf66:(prog.info? 66).map (fun i=>(i.zero,i.size,i.bytes))=some (some (.agg (cc 24 zf)),24,192):=by kernel_rfl
theorem apF {w:World}{v x:Value}{l news:List (Nat->Int)}(ho:ah rF 66 w v l)(hx:bL rF w x news)(hl:l.length+news.length<=100000000):
  ∃v' w',(Builtin.append_ #[62,62] 62 #[v,x]).run prog w=.ok v' w'/\ah rF 66 w' v' (l++news)/\w.grownBy w' v.ownBlock/\(v'.ownBlock=v.ownBlock\/∀g,v'.ownBlock=some g->w.heap.size<=g):=by
 obtain⟨i,h1,h2,h3,h4⟩:=ee inf66
 exact ah.append (R:=rF) (P:=prog) 62 62 i _ 192 underlying62 h1 h2 h3 h4 (show(cc 24 zf).size=24 from eE 24 zf) ho news x hx (by unfold maxLen; omega) (by omega)
theorem inf3:(prog.info? 3).map (fun i=>(i.zero,i.size,i.bytes))=some (some (.int .i64 0),1,8):=by kernel_rfl
theorem apI {w:World}{v x:Value}{l news:List Int}(ho:ah rI 3 w v l)(hx:bL rI w x news)(hl:l.length+news.length<=100000000):
  ∃v' w',(Builtin.append_ #[60,60] 60 #[v,x]).run prog w=.ok v' w'/\ah rI 3 w' v' (l++news)/\w.grownBy w' v.ownBlock/\(v'.ownBlock=v.ownBlock\/∀g,v'.ownBlock=some g->w.heap.size<=g):=by
 obtain⟨i,h1,h2,h3,h4⟩:=ee inf3
 exact ah.append (R:=rI) (P:=prog) 60 60 i _ 8 underlying60 h1 h2 h3 h4 rfl ho news x hx (by unfold maxLen; omega) (by omega)
theorem inf40:(prog.info? 40).map (fun i=>(i.zero,i.size,i.bytes))=some (some (.slice none 0 0),1,24):=by kernel_rfl
theorem ap31 {w:World}{v x:Value}{l news:List cA}(ho:ah cq 40 w v l)(hx:bL cq w x news)(hl:l.length+news.length<=100000000):
  ∃v' w',(Builtin.append_ #[31,31] 31 #[v,x]).run prog w=.ok v' w'/\ah cq 40 w' v' (l++news)/\w.grownBy w' v.ownBlock/\(v'.ownBlock=v.ownBlock\/∀g,v'.ownBlock=some g->w.heap.size<=g):=by
 obtain⟨i,h1,h2,h3,h4⟩:=ee inf40
 exact ah.append (R:=cq) (P:=prog) 31 31 i _ 24 underlying31 h1 h2 h3 h4 rfl ho news x hx (by unfold maxLen; omega) (by omega)
theorem inf60:(prog.info? 60).map (fun i=>(i.zero,i.size,i.bytes))=some (some (.slice none 0 0),1,24):=by kernel_rfl
theorem ap27 {w:World}{v x:Value}{l news:List cA}(ho:ah cq 60 w v l)(hx:bL cq w x news)(hl:l.length+news.length<=100000000):
  ∃v' w',(Builtin.append_ #[27,27] 27 #[v,x]).run prog w=.ok v' w'/\ah cq 60 w' v' (l++news)/\w.grownBy w' v.ownBlock/\(v'.ownBlock=v.ownBlock\/∀g,v'.ownBlock=some g->w.heap.size<=g):=by
 obtain⟨i,h1,h2,h3,h4⟩:=ee inf60
 exact ah.append (R:=cq) (P:=prog) 27 27 i _ 24 underlying27 h1 h2 h3 h4 rfl ho news x hx (by unfold maxLen; omega) (by omega)
theorem inf62:(prog.info? 62).map (fun i=>(i.zero,i.size,i.bytes))=some (some (.slice none 0 0),1,24):=by kernel_rfl
theorem ap28 {w:World}{v x:Value}{l news:List cA}(ho:ah cq 62 w v l)(hx:bL cq w x news)(hl:l.length+news.length<=100000000):
  ∃v' w',(Builtin.append_ #[28,28] 28 #[v,x]).run prog w=.ok v' w'/\ah cq 62 w' v' (l++news)/\w.grownBy w' v.ownBlock/\(v'.ownBlock=v.ownBlock\/∀g,v'.ownBlock=some g->w.heap.size<=g):=by
 obtain⟨i,h1,h2,h3,h4⟩:=ee inf62
 exact ah.append (R:=cq) (P:=prog) 28 28 i _ 24 underlying28 h1 h2 h3 h4 rfl ho news x hx (by unfold maxLen; omega) (by omega)
theorem bsI (n:Int)(ev:Operand->Value)(o:Oper)(x:Operand)(ho:o.op=.buildSlice 60 1 #[(0,x)])(hx:ev x=.int .i64 n)(w:World):(execOp ev o).run prog w=.ok (.value (.slice (some ⟨w.heap.size,0,none⟩) 1 1)) (w.alloc (.cells #[n] 3)):=by
 unfold execOp;simp only[ho];simp only[List.map_toArray,List.map_cons,List.map_nil,hx]
 kernel_rfl
theorem bsS31 (a:Option Addr)(n c:Nat)(ev:Operand->Value)(o:Oper)(x:Operand)(ho:o.op=.buildSlice 31 1 #[(0,x)])(hx:ev x=.slice a n c)(w:World):(execOp ev o).run prog w=.ok (.value (.slice (some ⟨w.heap.size,0,none⟩) 1 1)) (w.alloc (.cells #[.slice a n c] 40)):=by
 unfold execOp;simp only[ho];simp only[List.map_toArray,List.map_cons,List.map_nil,hx]
 kernel_rfl
theorem bsS27 (a:Option Addr)(n c:Nat)(ev:Operand->Value)(o:Oper)(x:Operand)(ho:o.op=.buildSlice 27 1 #[(0,x)])(hx:ev x=.slice a n c)(w:World):(execOp ev o).run prog w=.ok (.value (.slice (some ⟨w.heap.size,0,none⟩) 1 1)) (w.alloc (.cells #[.slice a n c] 60)):=by
 unfold execOp;simp only[ho];simp only[List.map_toArray,List.map_cons,List.map_nil,hx]
 kernel_rfl
theorem bsS28 (a:Option Addr)(n c:Nat)(ev:Operand->Value)(o:Oper)(x:Operand)(ho:o.op=.buildSlice 28 1 #[(0,x)])(hx:ev x=.slice a n c)(w:World):(execOp ev o).run prog w=.ok (.value (.slice (some ⟨w.heap.size,0,none⟩) 1 1)) (w.alloc (.cells #[.slice a n c] 62)):=by
 unfold execOp;simp only[ho];simp only[List.map_toArray,List.map_cons,List.map_nil,hx]
 kernel_rfl
theorem wo_take {FL:List (Nat->Int)}{k:Nat}(h:k<FL.length)(id:Int):wo (FL.take (k+1)) id=wo (FL.take k) id++(if gf FL k 0=id then [] else [gf FL k]):=by
 rw[List.take_add_one,ix h];unfold wo;rw[List.filter_append]
 congr 1
 by_cases c:gf FL k 0=id<;>simp[c]
theorem gn_take {FL:List (Nat->Int)}{k:Nat}(h:k<FL.length)(id:Int):gn (FL.take (k+1)) id=gn (FL.take k) id++(if gf FL k 0=id then [gf FL k] else []):=by
 rw[List.take_add_one,ix h];unfold gn;rw[List.filter_append]
 congr 1
 by_cases c:gf FL k 0=id<;>simp[c]
theorem wo_len (FL:List (Nat->Int))(id:Int):(wo FL id).length<=FL.length:=List.length_filter_le _ _
theorem gn_len (FL:List (Nat->Int))(id:Int):(gn FL id).length<=FL.length:=List.length_filter_le _ _
structure kT (w0 w:World)(lv ov:Value)(L O:List (Nat->Int)):Prop where
 l:ah rF 66 w lv L
 o:ah rF 66 w ov O
 fl:∀g,lv.ownBlock=some g->w0.heap.size<=g
 fo:∀g,ov.ownBlock=some g->w0.heap.size<=g
 dj:∀g,lv.ownBlock=some g->ov.ownBlock≠some g
 b:Below w0.heap.size w0 w
theorem kT.left {w0 w w':World}{lv ov v':Value}{L O L':List (Nat->Int)}(h:kT w0 w lv ov L O)(f:Nat->Int)(r2:ah rF 66 w' v' L')(r3:(w.alloc (.cells (fc f) 66)).grownBy w' lv.ownBlock)(r4:v'.ownBlock=lv.ownBlock\/∀g,v'.ownBlock=some g->(w.alloc (.cells (fc f) 66)).heap.size<=g):kT w0 w' v' ov L' O:=by
 have hsz:=h.b.size;have ho:∀g,ov.ownBlock=some g->g<w.heap.size:=fun g hg=>h.o.lt hg
 refine⟨r2,h.o.same fun g hg=>?_,fun g hg=>?_,h.fo,fun g hg q=>?_,(h.b.alloc hsz _).grown r3 (by simp; omega) h.fl⟩
 ·rw[r3.block g (by have:=ho g hg; simp; omega) (fun q=>h.dj g q.symm hg),heap_alloc_old w _ (ho g hg)]
 ·rcases r4 with r4|r4
  ·exact h.fl g (r4▸hg)
  have:=r4 g hg; simp at this; omega
 rcases r4 with r4|r4
 ·exact h.dj g (r4▸hg) q
 have:=r4 g hg; have:=ho g q; simp at *; omega
theorem kT.right {w0 w w':World}{lv ov v':Value}{L O O':List (Nat->Int)}(h:kT w0 w lv ov L O)(f:Nat->Int)(r2:ah rF 66 w' v' O')(r3:(w.alloc (.cells (fc f) 66)).grownBy w' ov.ownBlock)(r4:v'.ownBlock=ov.ownBlock\/∀g,v'.ownBlock=some g->(w.alloc (.cells (fc f) 66)).heap.size<=g):kT w0 w' lv v' L O':=by
 have hs:kT w0 w ov lv O L:=⟨h.o,h.l,h.fo,h.fl,fun g hg q=>h.dj g q hg,h.b⟩;have:=hs.left f r2 r3 r4;exact⟨this.o,this.l,this.fo,this.fl,fun g hg q=>this.dj g q hg,this.b⟩
theorem ah.allocF {w:World}{v:Value}{l:List (Nat->Int)}(h:ah rF 66 w v l)(o:Obj):ah rF 66 (w.alloc o) v l:=h.on (bu.alloc aD _)
theorem fD (v:Value)(FL:List (Nat->Int))(id:Int)(w:World)(hv:bL rF w v FL)(hl:FL.length<=100):
  Calls prog 115 #[v,id] w fun e w'=>∃lv ov,e=.returned (.tuple #[lv,ov])/\kT w w' lv ov (wo FL id) (gn FL id):=by
 obtain⟨oa,cap,rfl,hcap,hm,hc⟩:=hv;have HC:=ae hc;clear hc hm;go_enter func115,ntmps115
 go_wp2_with fail
 go_loopw [6,7,8] (fun lv ov i wr=>∃k:Nat,k<=FL.length/\i=.int .i64 k/\Hid (kT w wr lv ov (wo (FL.take k) id) (gn (FL.take k) id))) (fun _ _ i _=>FL.length-(intOf i).toNat)
 case atStart=>exact⟨0,by omega,rfl,ae ⟨aU,aU,fun g hg=>by simp[Value.ownBlock] at hg,fun g hg=>by simp[Value.ownBlock] at hg,fun g hg=>by simp[Value.ownBlock] at hg,Below.refl _ _⟩⟩
 case round=>
  obtain⟨k,hk,rfl,hT⟩:=hrel
  by_cases hlt:k<FL.length
  ·have hkn:(k:Int)<FL.length:=by omega
   obtain⟨b,off,rfl,hbl,hc0⟩:=aa HC (by omega)
   have hrg0:=rngF hc0 hlt;have hrg:wr.rangeAt b (off+k*24) (fc (gf FL k)).toList:=fun j u hu=>((aa hT).b.cell (p:=⟨b,off+k*24+j,none⟩) hbl).trans (hrg0 j u hu)
   have c0:wr.cell? ⟨b,off+k*24,none⟩=some (.int .i64 (gf FL k 0)):=fc_rng hrg 0 (by omega)
   have hat:=aZ rF 66 wr (gf FL k) (fc (gf FL k)) rfl;have hwl:=wo_len (FL.take k) id;have hgl:=gn_len (FL.take k) id;rw[List.length_take] at hwl hgl
   by_cases he:gf FL k 0=id
   focus
    obtain⟨v3,w3,r1,r2,r3,r4⟩:=apF ((aa hT).o.allocF _) hat (by simp; omega)
    have HT3:Hid (kT w w3 u6 v3 (wo (FL.take (k+1)) id) (gn (FL.take (k+1)) id)):=by
     rw[wo_take hlt,gn_take hlt,if_pos he,if_pos he,List.append_nil];exact(aa hT).right _ r2 r3 r4
    rw[he] at c0;clear hat r2 r3 r4 hc0 hrg0 hT he
   rotate_left
   focus
    obtain⟨v3,w3,r1,r2,r3,r4⟩:=apF ((aa hT).l.allocF _) hat (by simp; omega)
    have HT3:Hid (kT w w3 v3 u7 (wo (FL.take (k+1)) id) (gn (FL.take (k+1)) id)):=by
     rw[wo_take hlt,gn_take hlt,if_neg he,if_neg he,List.append_nil];exact(aa hT).left _ r2 r3 r4
    clear hat r2 r3 r4 hc0 hrg0 hT
   all_goals
    go_wp2_with (first|refine bU 66 (fc (gf FL k)) underlying66 rfl (gK _) b (off+k*24) hrg rfl _ rfl rfl ?_|refine cP _ _ (jN _ _ _ rfl (gf FL k) rfl _) rfl ?_|(at_builtin; refine fS 62 r1 rfl _ _ rfl rfl rfl rfl ?_))
    go_roundw
    case rel=>exact⟨k+1,by omega,by go_num,HT3⟩
    case measure=>simp[intOf]; omega
  have hkn:k=FL.length:=by omega
  subst hkn;rw[List.take_length] at hT
  go_wp2_with fail
  go_ret2
  exact⟨_,_,rfl,aa hT⟩
theorem lq {fs:List (Nat->Int)}{e:Nat->Int}{r:Int}(h:fF fs e=r)(hr:r≠0):edN fs e=[]/\nP fs e=[]:=by
 unfold edN nP; rw[h,if_neg hr,if_neg hr]; exact⟨rfl,rfl⟩
theorem mV (w:World):bL rF w (.slice none 0 0) []:=(aU (T:=66)).at
theorem jD (v:Value)(FL:List (Nat->Int))(e:Nat->Int)(w:World)(hv:bL rF w v FL)(hl:FL.length<=40):
  Calls prog 70 #[v,.agg (cc 25 e)] w fun en w'=>∃nv mv,en=.returned (.tuple #[nv,mv,.int .i64 (fF FL e)])/\bL rF w' nv (edN FL e)/\bL rF w' mv (nP FL e)/\Below w.heap.size w w':=by
 have hA:=heap_alloc_new w (.cells (cc 25 e) 100);have hb0:=aj w (.cells (cc 25 e) 100);have HV:=ae (hv.on hb0)
 have c1:(w.alloc (.cells (cc 25 e) 100)).cell? ⟨w.heap.size,1,none⟩=some (.int .i64 (e 1)):=(af hA 1).trans (dc 25 e 1 (by omega))
 have HA:=ae hA;have HB0:=ae hb0;clear hA hv hb0;have hwl:=wo_len FL (e 1);have hgl:=gn_len FL (e 1)
 by_cases h0:e 0=0
 ·cases hr:right (eF e) with
  | false=>
   have hx:fF FL e=7:=by unfold fF; rw[if_pos h0,hr]; rfl
   obtain⟨e1,e2⟩:=lq hx (by decide)
   rw[hx,e1,e2];clear hx e1 e2;go_enter func70,ntmps70
   go_wp2_with fail
   refine(fD v FL (e 1) _ (aa HV) (by omega)).mono ?_
   rintro en w2 ⟨lv,ov,rfl,hT⟩;have hA2:=ag (aa HA) hT.b
   have c0:=(af hA2 0).trans (dc 25 e 0 (by omega))
   rw[h0] at c0;have hrg:w2.rangeAt w.heap.size 1 (fc (eF e)).toList:=ec_F e hA2
   have HB2:=ae ((aa HB0).trans (hT.b.mono (by simp)))
   clear hT hA2 c1 h0
   go_wp2_with (refine bU 66 (fc (eF e)) underlying66 rfl (gK _) w.heap.size 1 hrg rfl _ rfl rfl ?_)
   refine(ji hr _).mono ?_;rintro en w3 ⟨rfl,hb3⟩;have HB3:=ae ((aa HB2).trans (hb3.mono (aa HB2).size));clear hb3 hrg c0
   go_wp2_with fail
   go_ret3
   exact⟨_,_,rfl,mV _,mV _,aa HB3⟩
  | true=>
   go_enter func70,ntmps70
   go_wp2_with fail
   refine(fD v FL (e 1) _ (aa HV) (by omega)).mono ?_
   rintro en w2 ⟨lv,ov,rfl,hT⟩;have hA2:=ag (aa HA) hT.b
   have c0:=(af hA2 0).trans (dc 25 e 0 (by omega))
   rw[h0] at c0;have hrg:w2.rangeAt w.heap.size 1 (fc (eF e)).toList:=ec_F e hA2;have HA2:=ae hA2
   have HB2:=ae ((aa HB0).trans (hT.b.mono (by simp)))
   have HT:=ae hT;clear hT hA2 c1
   go_wp2_with (refine bU 66 (fc (eF e)) underlying66 rfl (gK _) w.heap.size 1 hrg rfl _ rfl rfl ?_)
   refine(cH hr _).mono ?_;rintro en w3 ⟨rfl,hb3⟩;have hT3:kT (w.alloc (.cells (cc 25 e) 100)) w3 lv ov (wo FL (e 1)) (gn FL (e 1)):=⟨(aa HT).l.on hb3,(aa HT).o.on hb3,(aa HT).fl,(aa HT).fo,(aa HT).dj,(aa HT).b.trans (hb3.mono (aa HT).b.size)⟩;have hA3:=ag (aa HA2) hb3;have hrg3:w3.rangeAt w.heap.size 1 (fc (eF e)).toList:=ec_F e hA3;have hat:=aZ rF 66 w3 (eF e) (fc (eF e)) rfl
   obtain⟨v4,w4,r1,r2,r3,r4⟩:=apF (hT3.l.allocF _) hat (by simp; omega)
   have hT4:=hT3.left _ r2 r3 r4
   have hsl:∃oa n c,v4=.slice oa n c/\n=(wo FL (e 1)).length+1:=by
    have:=r2.at;obtain⟨oa,cap,e,_⟩:=this
    exact⟨oa,_,cap,e,by simp⟩
   obtain⟨oa4,n4,c4,rfl,hn4⟩:=hsl;have hA4:=ag (aa HA) hT4.b;have hrg4:w4.rangeAt w.heap.size 1 (fc (eF e)).toList:=ec_F e hA4;have HT4:=ae hT4
   have HB4:=ae ((aa HB0).trans (hT4.b.mono (by simp)))
   clear hT3 hT4 hA3 hA4 hat r2 r3 r4 hb3 hrg c0
   by_cases h40:n4<=40
   ·have hx:fF FL e=0:=by unfold fF; rw[if_pos h0,if_pos hr,if_pos (by omega)]
    have e1:edN FL e=wo FL (e 1)++[eF e]:=by unfold edN; rw[if_pos hx,if_pos h0]
    have e2:nP FL e=gn FL (e 1)++[eF e]:=by unfold nP; rw[if_pos hx,if_pos h0]
    have hat:=aZ rF 66 w4 (eF e) (fc (eF e)) rfl
    obtain⟨v5,w5,s1,s2,s3,s4⟩:=apF ((aa HT4).o.allocF _) hat (by simp; omega)
    have hT5:=(aa HT4).right _ s2 s3 s4;have HX:=ae hx;have HE1:=ae e1;have HE2:=ae e2
    have HB5:=ae ((aa HB0).trans (hT5.b.mono (by simp)))
    have HT5:=ae hT5
    have hng:¬(40:Int)<(n4:Int):=by omega
    clear hx e1 e2 hat s2 s3 s4 hT5 h40 hn4 h0
    go_wp2_with (first|refine bU 66 (fc (eF e)) underlying66 rfl (gK _) w.heap.size 1 hrg3 rfl _ rfl rfl ?_|refine bU 66 (fc (eF e)) underlying66 rfl (gK _) w.heap.size 1 hrg4 rfl _ rfl rfl ?_|refine cP _ _ (jN _ _ _ rfl (eF e) rfl _) rfl ?_|(at_builtin; refine fS 62 r1 rfl _ _ rfl rfl rfl rfl ?_)|(at_builtin; refine fS 62 s1 rfl _ _ rfl rfl rfl rfl ?_))
    go_ret3
    exact⟨_,_,by rw[aa HX]; rfl,by rw[aa HE1]; exact(aa HT5).l.at,by rw[aa HE2]; exact(aa HT5).o.at,aa HB5⟩
   have hx:fF FL e=11:=by unfold fF; rw[if_pos h0,if_pos hr,if_neg (by omega)]
   obtain⟨e1,e2⟩:=lq hx (by decide)
   have HX:=ae hx;have HE1:=ae e1;have HE2:=ae e2
   have hng:(40:Int)<(n4:Int):=by omega
   clear hx e1 e2 h40 hn4 h0
   go_wp2_with (first|refine bU 66 (fc (eF e)) underlying66 rfl (gK _) w.heap.size 1 hrg3 rfl _ rfl rfl ?_|refine cP _ _ (jN _ _ _ rfl (eF e) rfl _) rfl ?_|(at_builtin; refine fS 62 r1 rfl _ _ rfl rfl rfl rfl ?_))
   go_ret3
   exact⟨_,_,by rw[aa HX]; rfl,by rw[aa HE1]; exact mV _,by rw[aa HE2]; exact mV _,aa HB4⟩
 by_cases h1:e 0=1
 ·go_enter func70,ntmps70
  go_wp2_with fail
  refine(fD v FL (e 1) _ (aa HV) (by omega)).mono ?_
  rintro en w2 ⟨lv,ov,rfl,hT⟩;have hA2:=ag (aa HA) hT.b
  have c0:=(af hA2 0).trans (dc 25 e 0 (by omega))
  rw[h1] at c0
  have HB2:=ae ((aa HB0).trans (hT.b.mono (by simp)))
  have HL:=ae hT.l.at;have HO:=ae hT.o.at;obtain⟨oa,cap,rfl,_⟩:=hT.o.at;clear hT hA2 c1
  by_cases hg:gn FL (e 1)=[]
  ·have hx:fF FL e=10:=by unfold fF; rw[if_neg h0,if_pos h1,if_pos hg]
   obtain⟨e1,e2⟩:=lq hx (by decide)
   have HX:=ae hx;have HE1:=ae e1;have HE2:=ae e2
   have hz:(gn FL (e 1)).length=0:=by rw[hg]; rfl
   rw[hz];clear hx e1 e2 hg hz h0 h1 HO
   go_wp2_with fail
   go_ret3
   exact⟨_,_,by rw[aa HX]; rfl,by rw[aa HE1]; exact mV _,by rw[aa HE2]; exact mV _,aa HB2⟩
  have hx:fF FL e=0:=by unfold fF; rw[if_neg h0,if_pos h1,if_neg hg]
  have e1:edN FL e=wo FL (e 1):=by unfold edN; rw[if_pos hx,if_neg h0]
  have e2:nP FL e=gn FL (e 1):=by unfold nP; rw[if_pos hx,if_neg h0]
  have hpos:0<(gn FL (e 1)).length:=List.length_pos_iff.2 hg
  have hz:¬((gn FL (e 1)).length:Int)=0:=by omega
  have HX:=ae hx;have HE1:=ae e1;have HE2:=ae e2;clear hx e1 e2 hg h0 h1 hpos
  go_wp2_with fail
  go_ret3
  exact⟨_,_,by rw[aa HX]; rfl,by rw[aa HE1]; exact aa HL,by rw[aa HE2]; exact aa HO,aa HB2⟩
 have hx:fF FL e=9:=by unfold fF; rw[if_neg h0,if_neg h1]
 obtain⟨e1,e2⟩:=lq hx (by decide)
 rw[hx,e1,e2];clear hx e1 e2;go_enter func70,ntmps70
 go_wp2_with fail
 refine(fD v FL (e 1) _ (aa HV) (by omega)).mono ?_
 rintro en w2 ⟨lv,ov,rfl,hT⟩;have hA2:=ag (aa HA) hT.b
 have c0:=(af hA2 0).trans (dc 25 e 0 (by omega))
 have HB2:=ae ((aa HB0).trans (hT.b.mono (by simp)))
 clear hT hA2 c1
 go_wp2_with fail
 go_ret3
 exact⟨_,_,rfl,mV _,mV _,aa HB2⟩
structure eV (w:World)(rb:Nat)(keep:Int)(bv pv:Value)(SL:List cA)(bs:List bK)(PI:List Int):Prop where
 blk:w.heap[rb]?=some (.cells #[keep,bv,pv] 121)
 bat:ah cq 40 w bv SL
 len:SL.length=bs.length
 bts:∀(i:Nat) (s:cA) (b:bK),SL[i]?=some s->bs[i]?=some b->ah rE 100 w s.v b
 pin:ah rI 3 w pv PI
theorem eV.lt {w:World}{rb:Nat}{keep:Int}{bv pv:Value}{SL:List cA}{bs:List bK}{PI:List Int}(h:eV w rb keep bv pv SL bs PI):rb<w.heap.size:=an h.blk
theorem eV.on {w w':World}{rb:Nat}{keep:Int}{bv pv:Value}{SL:List cA}{bs:List bK}{PI:List Int}(h:eV w rb keep bv pv SL bs PI)(hb:Below w.heap.size w w'):eV w' rb keep bv pv SL bs PI:=
 ⟨ag h.blk hb,h.bat.on hb,h.len,fun i s b hs hb'=>(h.bts i s b hs hb').on hb,h.pin.on hb⟩
theorem eV.c0 {w:World}{rb:Nat}{keep:Int}{bv pv:Value}{SL:List cA}{bs:List bK}{PI:List Int}(h:eV w rb keep bv pv SL bs PI):w.cell? ⟨rb,0,none⟩=some (.int .i64 keep):=(af h.blk 0).trans rfl
theorem eV.c1 {w:World}{rb:Nat}{keep:Int}{bv pv:Value}{SL:List cA}{bs:List bK}{PI:List Int}(h:eV w rb keep bv pv SL bs PI):w.cell? ⟨rb,1,none⟩=some bv:=(af h.blk 1).trans rfl
theorem eV.c2 {w:World}{rb:Nat}{keep:Int}{bv pv:Value}{SL:List cA}{bs:List bK}{PI:List Int}(h:eV w rb keep bv pv SL bs PI):w.cell? ⟨rb,2,none⟩=some pv:=(af h.blk 2).trans rfl
theorem btc_some {bs:List bK}{k:Nat}(h:k<bs.length):bs[k]?=some (ff bs k):=by unfold ff; rw[List.getD_eq_getElem?_getD,List.getElem?_eq_getElem h]; rfl
theorem eV.batch {w:World}{rb:Nat}{keep:Int}{bv pv:Value}{SL:List cA}{bs:List bK}{PI:List Int}(h:eV w rb keep bv pv SL bs PI){k:Nat}(hk:k<bs.length):
  ∃b off cap oa c,bv=.slice (some ⟨b,off,none⟩) bs.length cap/\w.cell? ⟨b,off+k,none⟩=some (.slice oa (ff bs k).length c)/\bL rE w (.slice oa (ff bs k).length c) (ff bs k):=by
 have hk':k<SL.length:=by rw[h.len]; exact hk
 obtain⟨oa,cap,e,_,_,hc⟩:=h.bat.at
 obtain⟨b,off,rfl,_,hr⟩:=hc (by omega)
 have hs:SL[k]?=some SL[k]:=List.getElem?_eq_getElem hk';have ho:=h.bts k _ _ hs (btc_some hk);have hcell:=rngS hr hs;obtain⟨oa,c,e',_⟩:=ho.at;rw[e'] at hcell ho
 exact⟨b,off,cap,oa,c,by rw[e,h.len],hcell,ho.at⟩
theorem at_step (bs:List bK)(k:Nat):dk bs (k+1)=jX (dk bs k) (gf (ff bs k)) (ff bs k).length:=rfl
theorem At_any (rb:Nat)(keep:Int)(bv pv:Value)(SL:List cA)(bs:List bK)(PI:List Int)(v:Nat)(w:World)(hR:eV w rb keep bv pv SL bs PI)(hv:v<=bs.length)(hl:bs.length<=100)(h8:∀k,k<bs.length->(ff bs k).length<=8):
  Calls prog 69 #[.pointer (some ⟨rb,0,none⟩),v] w fun en w'=>∃rv,en=.returned rv/\bL rF w' rv (dk bs v)/\Below w.heap.size w w':=by
 have HR:=ae hR;clear hR;go_enter func69,ntmps69
 go_wp2_with fail
 go_loopw [5,6,7,8,9,10] (fun fv i _ _ _ _ wr=>∃k:Nat,k<=v/\i=.int .i64 k/\Hid (bL rF wr fv (dk bs k))/\Hid (Below w.heap.size w wr)) (fun _ i _ _ _ _ _=>v-(intOf i).toNat)
 case atStart=>exact⟨0,by omega,rfl,ae (mV _),ae bu⟩
 case round=>
  obtain⟨k,hk,rfl,hF,hb⟩:=hrel
  by_cases hlt:k<v
  ·have hkv:(k:Int)<v:=by omega
   have hkb:(k:Int)<bs.length:=by omega
   obtain⟨b,off,cap,oa,c,e,hc,hE⟩:=((aa HR).on (aa hb)).batch (k:=k) (by omega)
   have r1:=((aa HR).on (aa hb)).c1
   have hlb:b<wr.heap.size:=by
    rcases Nat.lt_or_ge b wr.heap.size with q|q
    ·exact q
    simp[World.cell?,Array.getElem?_eq_none q] at hc
   have hlr:rb<wr.heap.size:=((aa HR).on (aa hb)).lt;rw[e] at r1;obtain⟨N,hN⟩:∃N,(ff bs k).length=N:=⟨_,rfl⟩
   have hN8:=h8 k (by omega)
   rw[hN] at hc hE hN8;have HN:=ae hN;have HE:=ae hE;have HC:=ae hc;have HR1:=ae r1;clear hE e hN
   go_wp2_with fail
   go_loopw [5,7,8,9,10] (fun fv i _ _ _ w2=>∃j:Nat,j<=N/\i=.int .i64 j/\Hid (bL rF w2 fv (jX (dk bs k) (gf (ff bs k)) j))/\Hid (Below wr.heap.size wr w2)) (fun _ i _ _ _ _=>N-(intOf i).toNat)
   case atStart=>exact⟨0,by omega,rfl,hF,ae bu⟩
   case round=>
    obtain⟨j,hj,rfl,hF2,hb2⟩:=hrel;have q1:=((aa hb2).cell (p:=⟨rb,1,none⟩) hlr).trans (aa HR1);have qc:=((aa hb2).cell (p:=⟨b,off+k,none⟩) hlb).trans (aa HC);clear r1 hc
    by_cases hjn:j<N
    ·have hjN:(j:Int)<N:=by omega
     obtain⟨oa',cap',e',_,_,hr⟩:=aa HE;have hEl:(ff bs k).length=N:=aa HN;cases e'
     obtain⟨b',off',rfl,hb',hr0⟩:=hr (by rw[hEl]; omega)
     have hrg0:=rngE hr0 (k:=j) (by rw[hEl]; omega)
     have hrg:wr.rangeAt b' (off'+j*25) (cc 25 (gf (ff bs k) j)).toList:=fun q u hu=>((aa hb2).cell (p:=⟨b',off'+j*25+q,none⟩) hb').trans (hrg0 q u hu);clear hr hr0 hrg0 hEl
     go_wp2_with (refine bU 100 (cc 25 (gf (ff bs k) j)) underlying100 rfl (sz56 _) b' (off'+j*25) hrg rfl _ rfl rfl ?_)
     refine(jD _ _ (gf (ff bs k) j) _ (aa hF2) (eZ (d7 bs k) j)).mono ?_;rintro en w3 ⟨nv,mv,rfl,hN3,hM3,hb3⟩;have HN3:=ae hN3;have HB3:=ae ((aa hb2).trans (hb3.mono (aa hb2).size));clear hN3 hM3 hb3 q1 qc hrg
     go_wp2_with fail
     go_roundw
     case rel=>exact⟨j+1,by omega,by go_num,HN3,HB3⟩
     case measure=>simp[intOf]; omega
    have hjN:j=N:=by omega
    subst hjN
    have HF3:Hid (bL rF wr u5 (dk bs (k+1))):=by rw[at_step,aa HN]; exact hF2
    have HB3:=ae ((aa hb).trans ((aa hb2).mono (aa hb).size));clear hF2
    go_wp2_with fail
    go_roundw
    case rel=>exact⟨k+1,by omega,by go_num,HF3,HB3⟩
    case measure=>simp[intOf]; omega
  have hkn:k=v:=by omega
  subst hkn
  have hkv:¬(k:Int)<k:=by omega
  go_wp2_with fail
  go_ret;exact⟨_,rfl,aa hF,aa hb⟩
end Go.Proofs.YtpabpniaekldeaaGreatDoor
