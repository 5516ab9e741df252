import Derived.Test.YtpabpniaekldeaaGreatDoorGase00
import Derived.Test.YtpabpniaekldeaaGreatDoorRows
import Derived.OrdersHeld
import Derived.ProofKit
import Derived.OpenShut
import Derived.ShutString
import Derived.Carry
import Derived.Lib.SmallJoins
import Derived.OwnWalk
import Derived.ArgAppend
import Derived.Deep.MidRow
import Derived.WalkSmall
set_option maxHeartbeats 25600000
set_option maxRecDepth 20000
open Go.RowKit Go.Proofs.Tryz
namespace Go.Proofs.YtpabpniaekldeaaGreatDoor
theorem Paint_any (v:Value)(n:Nat)(fs:Nat->Nat->Int)(l z x y:Int)(w:World)(a:kU w v n fs):
  Calls prog 107 #[v,.agg #[l,z,x,y]] w fun e w'=>e=.returned (.tuple #[.string ⟨(jj fs n l z x y).toArray⟩,.int .i64 (jm fs n l z x y)])/\Below w.heap.size w w':=by
 by_cases b:keyErr l z x y=0
 ·by_cases c:n<=40
  ·exact Paint_in v n fs l z x y w a b c
  exact n7 v n fs l z x y w a (Or.inr (by omega))
 exact n7 v n fs l z x y w a (Or.inl b)
theorem Cov_eq {f:Nat->Int}{z x y:Int}(d:right f=true)(b:0<=z)(c:z<=22)(a:dC x)(hy:dC y):lx f z x y=jZ f (un z) x y:=by
 simp[lx,d,dM b c,dM a.1 a.2,dM hy.1 hy.2]
theorem isAb_zf {f:Nat->Int}(a:right f=true):fM zf f=false:=by
 have h:=ci a;have b:=h.id;have c:=h.rk;unfold fM zf
 split
 ·simp; omega
 simp; omega
theorem ht_on {fs:Nat->Nat->Int}{T:Nat->Int}{t:Int}{k:Nat}(h:(t=-1/\T=zf)\/∃m:Nat,t=m/\m<k/\T=fs m):(t=-1/\T=zf)\/∃m:Nat,t=m/\m<k+1/\T=fs m:=by
 rcases h with h|⟨m,a,b,c⟩
 ·exact Or.inl h
 exact Or.inr ⟨m,a,by omega,c⟩
theorem refInk_any (v:Value)(n:Nat)(fs:Nat->Nat->Int)(l z x y:Int)(p:Nat)(w:World)(ay:kU w v n fs)(av:keyErr l z x y=0)(aP:p<64)(aX:n<=40)(ax:∀i,i<n->right (fs i)=true):
  Calls prog 193 #[v,.agg #[l,z,x,y],p] w fun e w'=>e=.returned (.int .i64 (ink fs n l z x y p))/\Below w.heap.size w w':=by
 obtain⟨_,⟨U,V⟩,⟨aV,aH⟩,⟨aW,aI⟩⟩:=dK av;have aJ:=fun I=>gS z I U V;obtain⟨az,aA,aC,aD⟩:=mod8 p aP;obtain⟨⟨aZ,a0⟩,_,J,ap,ar,ac,_⟩:=ij U V aV aH az aA;obtain⟨⟨a1,a2⟩,_,K,aq,au,ad,_⟩:=ij U V aW aI aC aD;obtain⟨u1,u2⟩:=lA z U V;unfold ink;rw[ac] at J;rw[ad] at K;rw[ac,ad];have N:=fun k (H:k<n)=>Cov_eq (ax k H) U V J K;obtain⟨u,ah⟩:∃u,un z=u:=⟨_,rfl⟩;rw[ah] at aJ J K u1 u2 ap aq ar au N;rw[ah];obtain⟨A,O⟩:∃A,8*x*u=A:=⟨_,rfl⟩;obtain⟨C,P⟩:∃A,(p:Int)%8*u=A:=⟨_,rfl⟩;obtain⟨D,Q⟩:∃A,8*y*u=A:=⟨_,rfl⟩;obtain⟨G,R⟩:∃A,(p:Int) / 8*u=A:=⟨_,rfl⟩;rw[O,P] at J N;rw[Q,R] at K N;rw[O,P,Q,R];rw[O] at ap;rw[Q] at aq;rw[P] at ar;rw[R] at au
 have aQ:wrap64 (8*x*u)=A:=by rw[O]; exact z6 _ ⟨by omega,by omega⟩
 have aR:wrap64 ((p:Int)%8*u)=C:=by rw[P]; exact z6 _ ⟨by omega,by omega⟩
 have aS:wrap64 (8*y*u)=D:=by rw[Q]; exact z6 _ ⟨by omega,by omega⟩
 have aT:wrap64 ((p:Int) / 8*u)=G:=by rw[R]; exact z6 _ ⟨by omega,by omega⟩
 have aN:=ae N;have a3:=ae (And.intro J K);clear ah O P Q R av aH aI az aA aC aD ac ad N J K;have aK:=zZ w (.cells #[l,z,x,y] 39);have a4:=ae ay;obtain⟨a5,cap,rfl,hm,aw⟩:=ay;have ao:=ae aw;clear aw;go_enter func193,ntmps193
 go_wp2_with (go_at_call 161; refine(aJ _).mono ?_; rintro e a6 ⟨rfl,rfl⟩)
 go_loopw [10,11,12,13,14] (fun aU i _ _ _ wr=>∃(k:Nat) (T:Nat->Int) (t:Int),k<=n/\i=.int .i64 k/\aU=.int .i64 t/\Hid ((t=-1/\T=zf)\/∃a:Nat,t=a/\a<k/\T=fs a)/\Hid (T=fO fs l z u (A+C+u / 2) (D+G+u / 2) k)/\wr.heap[w.heap.size]?=some (.cells #[l,z,x,y] 39)/\Below w.heap.size w wr) (fun _ i _ _ _ _=>n-(intOf i).toNat)
 ·exact⟨0,zf,-1,by omega,rfl,rfl,ae (Or.inl ⟨rfl,rfl⟩),ae rfl,aK,aj _ _⟩
 obtain⟨k,T,t,H,rfl,rfl,Y,q,d,B⟩:=hrel;clear aQ aR aS aT
 by_cases ab:k<n
 ·obtain⟨b,off,rfl,W,L⟩:=aa ao (by omega)
  have o:∀i,i<n->∀j,j<24->wr.cell? ⟨b,off+i*24+j,none⟩=some (.int .i64 (fs i j)):=fun i hi j m=>(B.cell (p:=⟨b,off+i*24+j,none⟩) W).trans (L i hi j m);have g:b<wr.heap.size:=zC W B.size;have c:=ae B;clear L B;have H:=ab
  have M:(k:Int)<n:=by omega
  have aO:=fun I=>gN (fs k) l z x y I;have an:=fun I=>mT (fs k) z (A+C+u / 2) (D+G+u / 2) I;rw[aa aN k ab] at an;clear ab
  go_wp2
  refine aM (by kernel_rfl) (by kernel_rfl) ?_
  refine bD (.slice (some ⟨b,off,none⟩) n cap) ?_;refine bD (.int .i64 k) ?_
  refine bd b (off+k*24) ?_ (h:=fun _ _=>by simp[go_sem,M])
  refine vF b (off+k*24) (fun w' h=>gq (fun i hi j m=>(h.cell (p:=⟨b,off+i*24+j,none⟩) g).trans (o i hi j m)) H) ?_;refine vK w.heap.size 0 (fun w' h=>dz d h) ?_
  refine vC aO ?_;refine vA (.bool (iw (fs k) l z)) ?_;refine zq ?_;intro aE f;have F:=ag d f;have s:∀i,i<n->∀j,j<24->aE.cell? ⟨b,off+i*24+j,none⟩=some (.int .i64 (fs i j)):=fun i hi j m=>(f.cell (p:=⟨b,off+i*24+j,none⟩) g).trans (o i hi j m);have E:=ae ((aa c).trans (f.mono (aa c).size));have r:b<aE.heap.size:=zC g f.size;clear d o c g f;have d:=F;have o:=s;have c:=E;have g:=r;clear F s E r
  cases Z:iw (fs k) l z with
  | false=>
   go_wp2
   go_roundw
   ·exact⟨k+1,T,t,by omega,by go_num,rfl,ae (ht_on (aa Y)),ae ((aa q).trans (kh (by rw[Z]; rfl))),d,aa c⟩
   simp[intOf]; omega
  | true=>
  go_wp2_with fail
  refine aM (by kernel_rfl) (by kernel_rfl) ?_
  refine bD (.slice (some ⟨b,off,none⟩) n cap) ?_;refine bD (.int .i64 k) ?_
  refine bd b (off+k*24) ?_ (h:=fun _ _=>by simp[go_sem,M])
  refine vF b (off+k*24) (fun w' h=>gq (fun i hi j m=>(h.cell (p:=⟨b,off+i*24+j,none⟩) g).trans (o i hi j m)) H) ?_;refine bd w.heap.size 1 ?_
  refine bH (.int .i64 z) ?_ (h:=fun w' h=>by simp[go_sem,af (ag d h)])
  refine bD (.int .i64 (A+C+u / 2)) ?_;refine bD (.int .i64 (D+G+u / 2)) ?_
  refine vC an ?_;refine vA (.bool (jZ (fs k) u (A+C+u / 2) (D+G+u / 2))) ?_;refine zq ?_;intro aF f;have F:=ag d f;have s:∀i,i<n->∀j,j<24->aF.cell? ⟨b,off+i*24+j,none⟩=some (.int .i64 (fs i j)):=fun i hi j m=>(f.cell (p:=⟨b,off+i*24+j,none⟩) g).trans (o i hi j m);have E:=ae ((aa c).trans (f.mono (aa c).size));have r:b<aF.heap.size:=zC g f.size;clear d o c g f;have d:=F;have o:=s;have c:=E;have g:=r;clear F s E r
  cases X:jZ (fs k) u (A+C+u / 2) (D+G+u / 2) with
  | false=>
   go_wp2
   go_roundw
   ·exact⟨k+1,T,t,by omega,by go_num,rfl,ae (ht_on (aa Y)),ae ((aa q).trans (kh (by rw[X]; simp))),d,aa c⟩
   simp[intOf]; omega
  | true=>
   rcases aa Y with⟨rfl,rfl⟩|⟨a,rfl,al,rfl⟩
   ·have S:=isAb_zf (ax k H)
    go_wp2
    go_roundw
    ·first|exact⟨k+1,fs k,(k:Int),by omega,by go_num,rfl,ae (Or.inr ⟨k,rfl,by omega,rfl⟩),ae (kW (by rw[<-aa q,Z,S,X]; rfl)),d,aa c⟩|((repeat apply Exists.intro); exact⟨⟨k+1,fs k,(k:Int),by omega,rfl,rfl,ae (Or.inr ⟨k,rfl,by omega,rfl⟩),ae (kW (by rw[<-aa q,Z,S,X]; rfl)),d,aa c⟩,rfl⟩)
    simp[intOf]; omega
   have hm:a<n:=by omega
   have am:(a:Int)<n:=by omega
   have aL:=fun I=>above_any (fs k) (fs a) I
   go_wp2_with fail
   refine aM (by kernel_rfl) (by kernel_rfl) ?_
   refine bD (.slice (some ⟨b,off,none⟩) n cap) ?_;refine bD (.int .i64 k) ?_
   refine bd b (off+k*24) ?_ (h:=fun _ _=>by simp[go_sem,M])
   refine vF b (off+k*24) (fun w' h=>gq (fun i hi j m=>(h.cell (p:=⟨b,off+i*24+j,none⟩) g).trans (o i hi j m)) H) ?_;refine bD (.slice (some ⟨b,off,none⟩) n cap) ?_;refine bD (.int .i64 a) ?_
   refine bd b (off+a*24) ?_ (h:=fun _ _=>by simp[go_sem,am])
   refine vF b (off+a*24) (fun w' h=>gq (fun i hi j m=>(h.cell (p:=⟨b,off+i*24+j,none⟩) g).trans (o i hi j m)) hm) ?_
   refine vC aL ?_;refine vA (.bool (!fM (fs a) (fs k))) ?_;refine zq ?_;intro aG f;have F:=ag d f;have s:∀i,i<n->∀j,j<24->aG.cell? ⟨b,off+i*24+j,none⟩=some (.int .i64 (fs i j)):=fun i hi j m=>(f.cell (p:=⟨b,off+i*24+j,none⟩) g).trans (o i hi j m);have E:=ae ((aa c).trans (f.mono (aa c).size));have r:b<aG.heap.size:=zC g f.size;clear d o c g f;have d:=F;have o:=s;have c:=E;have g:=r;clear F s E r
   cases S:fM (fs a) (fs k) with
   | true=>
    go_wp2
    go_roundw
    ·exact⟨k+1,fs a,(a:Int),by omega,by go_num,rfl,ae (Or.inr ⟨a,rfl,by omega,rfl⟩),ae ((aa q).trans (kh (by rw[<-aa q,S]; simp))),d,aa c⟩
    simp[intOf]; omega
   | false=>
    go_wp2
    go_roundw
    ·exact⟨k+1,fs k,(k:Int),by omega,by go_num,rfl,ae (Or.inr ⟨k,rfl,by omega,rfl⟩),ae (kW (by rw[<-aa q,Z,S,X]; rfl)),d,aa c⟩
    simp[intOf]; omega
 have M:k=n:=by omega
 subst M;have ak:=ae B
 rcases aa Y with⟨rfl,rfl⟩|⟨a,rfl,al,rfl⟩
 ·have ai:Hid ((0:Int)=fO fs l z u (A+C+u / 2) (D+G+u / 2) k 3):=by show(0:Int)=_; rw[<-aa q]; rfl
  clear B
  go_wp2
  go_ret;exact⟨aB (aa ai),aa ak⟩
 have ai:Hid (fs a 3=fO fs l z u (A+C+u / 2) (D+G+u / 2) k 3):=by show fs a 3=_; rw[<-aa q]
 obtain⟨b,off,rfl,W,L⟩:=aa ao (by omega)
 have aY:=(B.cell (p:=⟨b,off+a*24+3,none⟩) W).trans (L a al 3 (by omega))
 have am:(a:Int)<k:=by omega
 clear B L
 go_wp2
 go_ret;exact⟨aB (aa ai),aa ak⟩
def pk (c n:Int):Int:=(if c<0 then -(c+1) else c)%n
theorem pk_in (c:Int){n:Int}(h:0<n):0<=pk c n/\pk c n<n:=⟨Int.emod_nonneg _ (by omega),Int.emod_lt_of_pos _ h⟩
section
variable {ops:Array Oper}{Q:Exit->Act->World->Prop}{S:World->Prop}{listed:Array Bool}{a:Act}{w:World}{i fuel:Nat}{o:Oper}
theorem h_call (k:ops[i]?=some o)(hw:Region.wanted o (yielded ops a.tmps)=true)(f:FuncId)(args:Array Value)(d:(execOp a.eval o).run prog w=.ok (.enter f args) w)(v:Value)
  (j:Calls prog f args w fun e w'=>e=.returned v/\w=w') (g:S w) (h:wpAnyH prog .any ops Q S fuel (listed.setIfInBounds i true) (a.put o.dst v) w) :
  wpOp prog ops Q i (fun b w'=>S w'/\wpAnyH prog .any ops Q S fuel (listed.setIfInBounds i true) b w') a w:=by
 unfold wpOp;simp only[k];rw[zJ hw]
 left
 unfold Oper.wp;rw[d]
 exact j.mono fun e w' ⟨c,e2⟩=>by subst c; subst e2; exact⟨g,h⟩
theorem h_op (e:ops[i]?=some o)(hw:Region.wanted o (yielded ops a.tmps)=true)(v:Value)(w1:World)(c:(execOp a.eval o).run prog w=.ok (.value v) w1)(d:S w1)
  (h:wpAnyH prog .any ops Q S fuel (listed.setIfInBounds i true) (a.put o.dst v) w1) :
  wpOp prog ops Q i (fun b w'=>S w'/\wpAnyH prog .any ops Q S fuel (listed.setIfInBounds i true) b w') a w:=by
 unfold wpOp;simp only[e];rw[zJ hw]
 left
 unfold Oper.wp;rw[c];exact⟨d,h⟩
end
def upd (f:Nat->Int)(i:Nat)(v:Int):Nat->Int:=fun j=>if j=i then v else f j
theorem bi {w:World}{g:Nat}{c:Array Value}{t:TypeId}(h:w.heap[g]?=some (.cells c t (0,0)))(o:Nat):w.frozen? ⟨g,o,none⟩=false:=by
 simp[World.frozen?,h]
section
open Go.ChangeShapes Go.WideShapes Go.ChangeAt Go.Joins
theorem Tryz.own:ownKnob prog.godebug=none:=by kernel_rfl
theorem Tryz.laidOut:laidOutB prog=true:=by kernel_rfl
theorem ku:prog.cellsOf 3=1:=by kernel_rfl
theorem cells24:prog.cellsOf 64=8:=by kernel_rfl
theorem cells26:prog.cellsOf 66=24:=by kernel_rfl
theorem cells28:prog.cellsOf 39=4:=by kernel_rfl
section
variable {H:Type}{enc:TypeId × Value->H}
theorem lB {P:Program}(k:laidOutB P=true){a f:World}(j:Below a.heap.size a f):∀{ts:List TypeId} {m:List Value} {g:List (DataW H)} {d:List MemPlace},
  DataW.TrodAll enc P a 0 (fun _=>true) true ts m g d->(∀t∈ts,P.readableRec t=true/\t<P.types.size)->(∀x∈d,x.block<a.heap.size) ->
  DataW.TrodAll enc P f 0 (fun b=>decide (b<a.heap.size)) true ts m g d
 | [],_,_,_,h,_,_=>by
  obtain⟨rfl,rfl,rfl⟩:=trodAll_nil h;exact trodAll_mk0
 | t::ts,_,_,_,h,l,e=>by
  obtain⟨v,w,y,u,p,q,rfl,rfl,rfl,o,r⟩:=trodAll_cons h;have i:=l t yJ;exact⟨p,q,Below.trod k i.1 i.2 o j (fun x c=>e x (y8 _ c)),lB k j r (fun s n=>l s (zt _ n)) (fun x c=>e x (xY _ c)),rfl⟩
theorem law_post {f:Func}{s:ChangeSpec}{b j:World}{args:Array Value}{a v:List (DataW H)}{l:List MemPlace}
  (d:DataW.Whole enc prog f.params.toList s.vars false b args.toList a v l) (k:s.vars=[]) (m:f.resultTypes=#[4])
  (u:(f.params.toList.all fun t=>prog.readableRec t && decide (t<prog.types.size))=true)
  (o:∀i:List (DataW H),i=[]->s.fn H (a++i)={ results:=[.lit (.bool true)],args:=a }) (g:Below b.heap.size b j) :
  s.post enc prog f false true false false b args (.bool true) j:=by
 have n:=d;have r:=d.lt;obtain⟨p,q,w,c,rfl,_,_⟩:=d;rw[k] at c;obtain⟨rfl,rfl⟩:=trodVars_none c;have e:=o [] rfl
 refine⟨a,[],_,[],p,[],n,?_,?_,?_,g.frame _,fun h=>by cases h⟩
 ·rw[e,m]
  exact trodAll_mk1 (shut_bool underlying4 _)
 ·rw[e]
  exact lB Tryz.laidOut g w (fun t y=>by
   have:=zi.1 u t y;rw[zl] at this;exact⟨this.1,of_decide_eq_true this.2⟩) (fun x z=>r x (y8 _ z))
 rw[k,e]; exact c
theorem feat_cells {w:World}{base:Nat}{f:Nat->Bool}{e:Bool}{n:Nat}{cs:List Value}{x:DataW H × List MemPlace}(h:DataW.trod enc prog w base f e n 66 cs=some x):
  cs.length=24/\∀j,j<24->∃a,cs[j]?=some (.int .i64 a)/\(Lit.int .i64 a).wf=true:=by
 obtain⟨q,p,_,_,s,G,d⟩:=DataW.trod_struct underlying66 h;rw[cells26] at s
 have v:∀(a:Nat) (l:List Value) (y:Option (DataW H × List MemPlace)) ,y.isSome=true->DataW.trod enc prog w base f e a 3 l=y->∃k,l=[.int .i64 k]/\(Lit.int .i64 k).wf=true:=by
  intro a l y hy c;obtain⟨z,J⟩:=za.1 hy;rw[J] at c;obtain⟨k,g,_,m⟩:=DataW.trod_int underlying3 c;exact⟨k,g,m⟩
 have t:∀(l:List Value) (off:Nat) (k:Int),(l.drop off).take 1=[.int .i64 k]->l[off]?=some (.int .i64 k):=by
  intro l off k c
  have A:((l.drop off).take 1)[0]?=some (.int .i64 k):=by rw[c]; rfl
  rw[zs (by omega),yD] at A
  simpa using A
 refine⟨s,?_⟩
 have r:∀i,i<10->(q[i]?).isSome=true:=by
  intro i hi;have I:q.length=10:=G;simp[I,hi]
 have B:∀i,i<8->∃a,cs[i]?=some (.int .i64 a)/\(Lit.int .i64 a).wf=true:=by
  intro i hi
  have go:∀(b:Field),b.type=3->b.offset=i->DataW.trod enc prog w base f e p b.type ((cs.drop b.offset).take (prog.cellsOf b.type))=q[i]?->∃a,cs[i]?=some (.int .i64 a)/\(Lit.int .i64 a).wf=true:=by
   intro b g m c;rw[g,m,ku] at c
   obtain⟨k,o,hw⟩:=v p _ _ (r i (by omega)) c
   exact⟨k,t cs i k o,hw⟩
  match i,hi with
  | 0,_=>exact go _ rfl rfl (d 0 _ rfl)
  | 1,_=>exact go _ rfl rfl (d 1 _ rfl)
  | 2,_=>exact go _ rfl rfl (d 2 _ rfl)
  | 3,_=>exact go _ rfl rfl (d 3 _ rfl)
  | 4,_=>exact go _ rfl rfl (d 4 _ rfl)
  | 5,_=>exact go _ rfl rfl (d 5 _ rfl)
  | 6,_=>exact go _ rfl rfl (d 6 _ rfl)
  | 7,_=>exact go _ rfl rfl (d 7 _ rfl)
 have arr:∀(off k:Nat),(∃y,DataW.trod enc prog w base f e p 64 ((cs.drop off).take 8)=some y)->k<8->off+8<=24->∃a,cs[off+k]?=some (.int .i64 a)/\(Lit.int .i64 a).wf=true:=by
  intro off k hy o L;obtain⟨y,hy⟩:=hy;obtain⟨O,K,_,_,_,D,C⟩:=DataW.trod_array underlying64 hy;have c:=C k o;rw[ku,Nat.mul_one] at c
  obtain⟨a,hm,hw⟩:=v K _ _ (by simp[D,o]) c
  have:=t _ k a hm;rw[zs o,yD] at this;exact⟨a,this,hw⟩
 have u:∀(b:Field) {off i:Nat} {y:DataW H × List MemPlace},b.type=64->DataW.trod enc prog w base f e p b.type ((cs.drop b.offset).take (prog.cellsOf b.type))=q[i]?->b.offset=off->q[i]?=some y->DataW.trod enc prog w base f e p 64 ((cs.drop off).take 8)=some y:=by
  intro b off i y g c m E;rw[g,m,cells24,E] at c;exact c
 intro j N
 by_cases F:j<8
 ·exact B j F
 by_cases M:j<16
 ·obtain⟨y,hy⟩:=za.1 (r 8 (by omega))
  have:=arr 8 (j-8) ⟨y,u _ rfl (d 8 _ rfl) rfl hy⟩ (by omega) (by omega)
  rwa [show 8+(j-8)=j by omega] at this
 obtain⟨y,hy⟩:=za.1 (r 9 (by omega))
 have:=arr 16 (j-16) ⟨y,u _ rfl (d 9 _ rfl) rfl hy⟩ (by omega) (by omega)
 rwa [show 16+(j-16)=j by omega] at this
theorem wf_64 {c:Int}(h:(Lit.int .i64 c).wf=true):-9223372036854775808<=c/\c<=9223372036854775807:=by
 have d:(decide (IntKind.i64.min<=c) && decide (c<=IntKind.i64.max))=true:=h;rw[zl] at d
 have e:IntKind.i64.min=-9223372036854775808:=by decide
 have f:IntKind.i64.max=9223372036854775807:=by decide
 have a:=of_decide_eq_true d.1;have b:=of_decide_eq_true d.2;omega
end
end
def base (f:Nat->Int):Nat->Int:=fun j=>
 if j=0 then 1+pk (f 0) 1000 else if j=1 then pk (f 1) 4 else if j=2 then pk (f 2) 2 else if j=3 then 1+pk (f 3) 15 else if j=4 then pk (f 4) 10 else if j=5 then pk (f 5) 23 else 0
section
variable {l:List Oper}{Q:Exit->Act->World->Prop}{S:World->Prop}{listed:Array Bool}{a:Act}{w:World}{fuel:Nat}{o:Oper}{rest:List Oper}
theorem gw {i:Nat}(b:l.drop i=o::rest):l.toArray[i]?=some o:=by
 rw[List.getElem?_toArray,<-List.head?_drop,b]; rfl
theorem t_take (i:Nat)(e:l.drop i=o::rest)(v:Value)(j:Region.noSelect l.toArray=true)(f:Region.free .any l.toArray listed i=true)(g:(Region.ready .any l.toArray listed).contains i=true)
  (b:∀c a w,Q (.panic c) (a.put o.dst v) w->Q (.panic c) a w) (hw:Region.wanted o (yielded l.toArray a.tmps)=true) (hy:∀w',S w'->(execOp a.eval o).run prog w'=.ok (.value v) w') (d:S w)
  (h:wpAnyH prog .any l.toArray Q S fuel (listed.setIfInBounds i true) (a.put o.dst v) w):wpAnyH prog .any l.toArray Q S (fuel+1) listed a w:=
 wpAnyH_take (gw e) j f g b (Or.inl ⟨hw,hy⟩) d h
theorem ow (i:Nat)(j:l.drop i=o::rest)(hw:Region.wanted o (yielded l.toArray a.tmps)=true)(f:FuncId)(args:Array Value)(c:(execOp a.eval o).run prog w=.ok (.enter f args) w)(v:Value)
  (g:Calls prog f args w fun e w'=>e=.returned v/\w=w') (d:S w) (h:wpAnyH prog .any l.toArray Q S fuel (listed.setIfInBounds i true) (a.put o.dst v) w) :
  wpOp prog l.toArray Q i (fun b w'=>S w'/\wpAnyH prog .any l.toArray Q S fuel (listed.setIfInBounds i true) b w') a w:=h_call (gw j) hw f args c v g d h
theorem bI (i:Nat)(e:l.drop i=o::rest)(hw:Region.wanted o (yielded l.toArray a.tmps)=true)(v:Value)(w1:World)(c:(execOp a.eval o).run prog w=.ok (.value v) w1)(d:S w1)
  (h:wpAnyH prog .any l.toArray Q S fuel (listed.setIfInBounds i true) (a.put o.dst v) w1) :
  wpOp prog l.toArray Q i (fun b w'=>S w'/\wpAnyH prog .any l.toArray Q S fuel (listed.setIfInBounds i true) b w') a w:=h_op (gw e) hw v w1 c d h
end
section
variable {l:List Oper}{Q:Exit->Act->World->Prop}{S:World->Prop}{listed:Array Bool}{a:Act}{w:World}{fuel:Nat}{o:Oper}{rest:List Oper}
theorem aH {d:Array Bool}{e:Act}(i:Nat)(m:l.drop i=o::rest)(v:Value)(k:S w)(h:wpAnyH Tryz.prog .any l.toArray Q S fuel d e w)
  (b:(Region.noSelect l.toArray && Region.free .any l.toArray listed i && (Region.ready .any l.toArray listed).contains i)=true:=by kernel_rfl)
  (j:∀c a w,Q (.panic c) (a.put o.dst v) w->Q (.panic c) a w:=by exact fun _ _ _ h=>h) (hw:Region.wanted o (yielded l.toArray a.tmps)=true:=by rfl)
  (hy:∀w',S w'->(execOp a.eval o).run Tryz.prog w'=.ok (.value v) w':=by exact fun w' n=>by simp[go_sem])
  (f:listed.setIfInBounds i true=d:=by(try simp only[qZ]); rfl) (g:a.put o.dst v=e:=by(try simp only[qZ]); rfl):wpAnyH Tryz.prog .any l.toArray Q S (fuel+1) listed a w:=by
 rw[zl,zl] at b;subst f g;exact t_take i m v b.1.1 b.1.2 b.2 j hw hy k h
theorem am {d:Array Bool}{e:Act}(i:Nat)(p:l.drop i=o::rest)(b f:Nat)(m:S w)(h:wpAnyH Tryz.prog .any l.toArray Q S fuel d e w)
  (n:(Region.noSelect l.toArray && Region.free .any l.toArray listed i && (Region.ready .any l.toArray listed).contains i)=true:=by kernel_rfl)
  (k:∀c a w,Q (.panic c) (a.put o.dst (.pointer (some ⟨b,f,none⟩))) w->Q (.panic c) a w:=by exact fun _ _ _ h=>h) (hw:Region.wanted o (yielded l.toArray a.tmps)=true:=by rfl)
  (hy:∀w',S w'->(execOp a.eval o).run Tryz.prog w'=.ok (.value (.pointer (some ⟨b,f,none⟩))) w':=by exact fun w' q=>by simp[go_sem])
  (g:listed.setIfInBounds i true=d:=by(try simp only[qZ]); rfl) (j:a.put o.dst (.pointer (some ⟨b,f,none⟩))=e:=by(try simp only[qZ]); rfl):wpAnyH Tryz.prog .any l.toArray Q S (fuel+1) listed a w:=aH i p _ m h n k hw hy g j
theorem aV (i:Nat)(h:wpOp Tryz.prog l.toArray Q i (fun c w'=>S w'/\wpAnyH Tryz.prog .any l.toArray Q S fuel (listed.setIfInBounds i true) c w') a w)(d:Region.ready .any l.toArray listed=[i]:=by kernel_rfl):wpAnyH Tryz.prog .any l.toArray Q S (fuel+1) listed a w:=
 y6 (rs:=[i]) d (by simp) fun j b=>by
  simp only[z7] at b;subst b;exact h
end
theorem ap_own {Q:Array Oper}{rest:List Oper}{o:Oper}{a:Act}{V:Exit->Act->World->Prop}(w:World)(E:o.guard=none)(s x:Operand)(t:TypeId)
  (I:o.op=.call { callee:=.builtin .append,args:=#[s,x],argTypes:=#[t,t] })
  (B:Nat) (e:TypeId) (i:TypeInfo) (z:Value) (d A:Nat) (K:prog.underlying t=some (.slice e)) (hi:prog.info? e=some i) (T:i.zero=some z)
  (D:i.size=d) (N:i.bytes=A) (P:z.cells.size=d) (O:0<d)
  (v:Value) (n:Nat) (p:List Value) (J:a.eval s=v) (q:w.ownsRow B e d v n p)
  (r:Addr) (c:Nat) (m:List Value) (L:a.eval x=.slice (some r) 1 c) (H:m.length=d) (C:∀j u,m[j]?=some u->w.cell? (r.add j)=some u) (G:∀u∈m,u.oneCell'=true)
  (al:(n+1)*A<=1000000000) (ah:n<=1000000) (ak:B<=w.heap.size)
  (h:∀f w',w'.ownsRow B e d f (n+1) (p++m)->w.grownBy w' v.ownBlock->(f.ownBlock=v.ownBlock\/∀g,f.ownBlock=some g->w.heap.size<=g)->wpList prog Q V rest (a.put o.dst f) w'):wpList prog Q V (o::rest) a w:=by
 have U:∀{f:Value} {w':World},w'.ownsRow w.heap.size e d f (n+1) (p++m)->w'.ownsRow B e d f (n+1) (p++m):=by
  intro f w' R;obtain⟨X,F⟩:=R;refine⟨X,?_⟩
  rcases F with F|⟨g,cap,M,ab,am,ac⟩
  ·exact Or.inl F
  exact Or.inr ⟨g,cap,M,ab,by omega,ac⟩
 have gn:∀{w':World} {ad:Option Nat},w.grownBy w' none->w.grownBy w' ad:=fun l=>⟨l.os,l.tape,l.output,l.size,fun k Z _=>l.block k Z (by simp)⟩
 rcases q.2 with⟨rfl,rfl⟩|⟨g,cap,M,rfl,l,R,ai,af,ag,aj⟩
 ·refine wpList_append_grows w E s x t I e i z d A K hi T D N P O none 0 0 p J (fun _=>⟨rfl,rfl⟩) (by have:=q.1; simpa using this) (fun b y=>by cases y) r 1 c m L (by simpa using H) C G (by omega) (by unfold maxLen; omega) (by omega) ?_
  intro f w' r1 r2;exact h f w' (U r1) (gn r2) (Or.inr fun g l=>(y9 r1 g l).1)
 by_cases Y:n+1<=cap
 ·refine wpList_append_fits w E s x t I B e i d K hi D g n cap p J q r 1 c m L (by simpa using H) C G Y ?_
  intro w' r1 r2;exact h _ w' r1 r2 (Or.inl rfl)
 refine wpList_append_grows w E s x t I e i z d A K hi T D N P O (some ⟨g,0,none⟩) n cap p J (fun y=>by cases y) q.1 ?_ r 1 c m L (by simpa using H) C G (by omega) (by unfold maxLen; omega) (by omega) ?_
 ·intro b y j u S
  obtain rfl:=zu y;rw[Addr.add_mid,zb]
  have W:j<n*d:=by
   have:=(zX.1 S).1
   rwa [q.1] at this
  rw[y7 q j W,S]
 intro f w' r1 r2;exact h f w' (U r1) (gn r2) (Or.inr fun g l=>(y9 r1 g l).1)
theorem lH {f:Nat->Int}(h:Rt f):right f=true:=by
 have j:nC f 8=true:=by
  simp only[nC,zi,yL];intro i hi;refine pt_t rfl rfl rfl (dM (h.px i hi).1 (h.px i hi).2) (dM (h.py i hi).1 (h.py i hi).2) ?_
  by_cases g:f 7<=(i:Int)
  ·exact Or.inr (h.rest i hi g)
  exact Or.inl (by omega)
 have e:form f=true:=by
  unfold form
  rcases h.kind with⟨a,b,c,d⟩|⟨a,b,c,d⟩
  ·rw[zJ a,dM c d]; simp[b]
  rw[zK (by omega),zJ a,dM b c]; simp[d]
 simp[right,bO,j,e,dM h.id.1 h.id.2,dM h.la.1 h.la.2,dM h.ink.1 h.ink.2,dM h.rk.1 h.rk.2,dM h.fr.1 h.fr.2]
theorem cnt_left {c e d f x y:Int}(g:c<x)(i:d<x):cnt c e d f x y=false:=by
 have key:∀a p b q:Int,a<x->b<x->p<=y->y<q->¬(x-a)*(q-p)<(b-a)*(y-p):=by
  intro a p b q l m n o h
  have r:0<(x-a)*(q-y):=Int.mul_pos (by omega) (by omega)
  have s:0<=(x-b)*(y-p):=y2 (by omega) (by omega)
  have j:(x-a)*(q-p)=(x-a)*(q-y)+(x-a)*(y-p):=by rw[<-Int.mul_add]; congr 1; omega
  have k:(x-a)*(y-p)=(x-b)*(y-p)+(b-a)*(y-p):=by rw[<-Int.add_mul]; congr 1; omega
  omega
 unfold cnt
 split
 ·next h=>exact zG (key c e d f g i h.1 h.2)
 split
 ·next h=>exact zG (key d f c e i g h.1 h.2)
 rfl
theorem nR {f e g d x y:Int}(i:x<f)(j:x<g):cnt f e g d x y=(decide (e<=y) != decide (d<=y)):=by
 have key:∀a p b q:Int,x<a->x<b->p<=y->y<q->(x-a)*(q-p)<(b-a)*(y-p):=by
  intro a p b q m n o r
  have s:0<(a-x)*(q-y):=Int.mul_pos (by omega) (by omega)
  have t:0<=(b-x)*(y-p):=y2 (by omega) (by omega)
  have k:(x-a)*(q-p)=- ((a-x)*(q-y))-(a-x)*(y-p):=by simp only[Int.mul_sub,Int.sub_mul]; omega
  have l:(b-a)*(y-p)=(b-x)*(y-p)-(a-x)*(y-p):=by rw[<-Int.sub_mul]; congr 1; omega
  omega
 unfold cnt
 split
 ·next h=>rw[zU (key f e g d i j h.1 h.2),zU h.1,zG (by omega:¬d<=y)]; rfl
 split
 ·next h=>rw[zU (key g d f e j i h.1 h.2),zU h.1,zG (by omega:¬e<=y)]; rfl
 next h h'=>
 by_cases c:e<=y
 ·rw[zU c,zU (by omega:d<=y)]; rfl
 rw[zG c,zG (by omega:¬d<=y)]; rfl
theorem cnt_off {c a d b x y:Int}(h:(a<y/\b<y)\/(y<a/\y<b)):cnt c a d b x y=false:=by
 unfold cnt; rw[zK (by omega),zK (by omega)]
theorem oN {f:Nat->Int}{n:Int}{x y:Int}:∀k:Nat,(∀i,i<k->ig f n i x y=false)->lQ f n x y k=false
 | 0,_=>rfl
 | k+1,h=>by rw[lQ,oN k fun i hi=>h i (by omega),h k (by omega)]; rfl
theorem par_tel {f:Nat->Int}{x y:Int}{n:Nat}(h:∀i,i<n->x<f (8+i))(b:1<=n):∀k:Nat,k<n->lQ f n x y k=(decide (f 16<=y) != decide (f (16+k)<=y))
 | 0,_=>by simp[lQ]
 | k+1,a=>by
  rw[lQ,par_tel h b k (by omega),ig,zK (by omega),nR (h k (by omega)) (h (k+1) a)]
  cases decide (f 16<=y)<;>cases decide (f (16+k)<=y)<;>cases decide (f (16+(k+1))<=y)<;>rfl
theorem par_right {f:Nat->Int}{x y:Int}{n:Nat}(h:∀i,i<n->x<f (8+i))(b:1<=n):lQ f n x y n=false:=by
 obtain⟨a,rfl⟩:∃a,n=a+1:=⟨n-1,by omega⟩
 rw[lQ,par_tel h b a (by omega),ig,zJ (by omega),nR (h a (by omega)) (h 0 b)]
 cases decide (f 16<=y)<;>cases decide (f (16+a)<=y)<;>simp_all
theorem sq_lt {a b:Int}(e:0<=b)(h:b<a\/a < -b):b*b<a*a:=by
 rcases h with h|h
 ·have c:0<=b*(a-b):=y2 e (by omega)
  have d:0<a*(a-b):=Int.mul_pos (by omega) (by omega)
  rw[Int.mul_sub] at c d;have:=Int.mul_comm a b;omega
 have c:0<=b*(-a-b):=y2 e (by omega)
 have d:0 < -a*(-a-b):=Int.mul_pos (by omega) (by omega)
 rw[Int.mul_sub] at c d;rw[Int.neg_mul_neg,Int.neg_mul] at d;rw[Int.mul_neg] at c;have:=Int.mul_comm a b;omega
theorem near_x {e c d x y:Int}(f:0<=d)(h:d<x-e\/x-e < -d):near e c d x y=false:=by
 have a:=sq_lt f h
 have b:0<=(y-c)*(y-c):=by
  rcases Int.le_total 0 (y-c) with h|h
  ·exact y2 h h
  exact Int.mul_nonneg_of_nonpos_of_nonpos h h
 unfold near; exact zG (by omega)
theorem near_y {c e d x y:Int}(f:0<=d)(h:d<y-e\/y-e < -d):near c e d x y=false:=by
 have a:=sq_lt f h
 have b:0<=(x-c)*(x-c):=by
  rcases Int.le_total 0 (x-c) with h|h
  ·exact y2 h h
  exact Int.mul_nonneg_of_nonpos_of_nonpos h h
 unfold near; exact zG (by omega)
theorem nx_lt {n:Nat}(i:Nat)(hi:i<n):(if (n:Int)<=(i:Int)+1 then 0 else i+1)<n:=by split<;>omega
theorem far_x {f:Nat->Int}{u x y:Int}(c:Rt f)(j:0<=u)(h:(∀i,i<(f 7).toNat->f (8+i)+f 6*u<x)\/∀i,i<(f 7).toNat->x<f (8+i)-f 6*u):jZ f u x y=false:=by
 unfold jZ
 rcases c.kind with⟨a,b,m,o⟩|⟨a,b,k,l⟩
 ·rw[zK (by omega)]
  simp only[b,Int.zero_mul,Int.add_zero,Int.sub_zero] at h
  obtain⟨n,d⟩:∃n:Nat,f 7=n:=⟨(f 7).toNat,by omega⟩
  simp only[d,Int.toNat_natCast] at h ⊢
  rcases h with h|h
  ·exact oN n fun i hi=>cnt_left (h i hi) (h _ (nx_lt i hi))
  exact par_right h (by omega)
 rw[zJ a]
 have g:0<=f 6*u:=y2 (by omega) j
 have e:(f 7).toNat=1:=by omega
 simp only[e] at h;refine near_x g ?_
 rcases h with h|h
 ·have:=h 0 (by omega); left; simp only[yG] at this; omega
 have:=h 0 (by omega); right; simp only[yG] at this; omega
theorem far_y {f:Nat->Int}{u x y:Int}(c:Rt f)(j:0<=u)(h:(∀i,i<(f 7).toNat->f (16+i)+f 6*u<y)\/∀i,i<(f 7).toNat->y<f (16+i)-f 6*u):jZ f u x y=false:=by
 unfold jZ
 rcases c.kind with⟨a,b,m,o⟩|⟨a,b,k,l⟩
 ·rw[zK (by omega)]
  simp only[b,Int.zero_mul,Int.add_zero,Int.sub_zero] at h
  obtain⟨n,d⟩:∃n:Nat,f 7=n:=⟨(f 7).toNat,by omega⟩
  simp only[d,Int.toNat_natCast] at h ⊢
  rcases h with h|h
  ·exact oN n fun i hi=>cnt_off (Or.inl ⟨h i hi,h _ (nx_lt i hi)⟩)
  exact oN n fun i hi=>cnt_off (Or.inr ⟨h i hi,h _ (nx_lt i hi)⟩)
 rw[zJ a]
 have g:0<=f 6*u:=y2 (by omega) j
 have e:(f 7).toNat=1:=by omega
 simp only[e] at h;refine near_y g ?_
 rcases h with h|h
 ·have:=h 0 (by omega); left; simp only[yG] at this; omega
 have:=h 0 (by omega); right; simp only[yG] at this; omega
theorem ax_no {g:Nat->Int}{n:Nat}{a lo hi x:Int}(h:nh g n a lo hi=false)(b:lo<=x)(c:x<=hi):(∀i,i<n->g i+a<x)\/∀i,i<n->x<g i-a:=by
 simp only[nh,Bool.not_eq_false',Bool.or_eq_true,apB,apA,zi,yL,zN] at h
 rcases h with h|h
 ·exact Or.inl fun i hi=>by have:=h i hi; omega
 exact Or.inr fun i hi=>by have:=h i hi; omega
theorem cov_touch {f:Nat->Int}{u x y d b e c:Int}(g:Rt f)(j:0<=u)(a:jZ f u x y=true)(k:d<=x)(l:x<=b)(m:e<=y)(n:y<=c):
  (nh (fun i=>f (8+i)) (f 7).toNat (f 6*u) d b && nh (fun i=>f (16+i)) (f 7).toNat (f 6*u) e c)=true:=by
 cases h:nh (fun i=>f (8+i)) (f 7).toNat (f 6*u) d b with
 | false=>rw[far_x g j (ax_no h k l)] at a; cases a
 | true=>
  cases o:nh (fun i=>f (16+i)) (f 7).toNat (f 6*u) e c with
  | false=>rw[far_y g j (ax_no o m n)] at a; cases a
  | true=>rfl
def hgt (f:Nat->Int):Int:=f 4*2000+f 0
def vis (f:Nat->Int)(l z u px py:Int):Bool:=iw f l z && jZ f u px py
theorem l7 {a b:Nat->Int}(c:0<=a 0/\a 0<=1000)(d:0<=b 0/\b 0<=1000):fM a b=decide (hgt b<hgt a):=by
 unfold fM hgt
 split
 ·next h=>rw[h]; congr 1; exact propext ⟨fun _=>by omega,fun _=>by omega⟩
 congr 1; exact propext ⟨fun _=>by omega,fun _=>by omega⟩
theorem top_skip {fs:Nat->Nat->Int}{l z u a b:Int}{k:Nat}(h:vis (fs k) l z u a b=false):fO fs l z u a b (k+1)=fO fs l z u a b k:=by
 rw[fO];unfold vis at h
 cases c:iw (fs k) l z with
 | false=>rfl
 | true=>rw[c,Bool.true_and] at h; rw[h,xJ]; rfl
theorem jH {fs:Nat->Nat->Int}(l z u g h:Int):∀n,(∀i,i<n->Rt (fs i)) ->
  (fO fs l z u g h n=zf/\∀i,i<n->vis (fs i) l z u g h=false)\/∃i,i<n/\fO fs l z u g h n=fs i/\vis (fs i) l z u g h=true/\∀j,j<n->vis (fs j) l z u g h=true->hgt (fs j)<=hgt (fs i)
 | 0,_=>Or.inl ⟨rfl,fun i hi=>by omega⟩
 | n+1,m=>by
  have r:=jH (fs:=fs) l z u g h n fun i hi=>m i (by omega)
  have o:=m n (by omega)
  cases d:vis (fs n) l z u g h with
  | false=>
   rw[top_skip d]
   rcases r with⟨a,b⟩|⟨i,hi,a,b,c⟩
   ·refine Or.inl ⟨a,fun i hi=>?_⟩
    by_cases e:i=n
    ·rw[e]; exact d
    exact b i (by omega)
   refine Or.inr ⟨i,by omega,a,b,fun j k f=>?_⟩
   by_cases e:j=n
   ·rw[e,d] at f; cases f
   exact c j (by omega) f
  | true=>
   have p:=d;unfold vis at d;rw[zl] at d
   rcases r with⟨a,b⟩|⟨i,hi,a,b,c⟩
   ·refine Or.inr ⟨n,by omega,?_,p,fun j k f=>?_⟩
    ·have s:=o.id
     have v:=o.rk
     rw[fO,a,l7 (a:=zf) (by simp[zf]) (by omega),d.1,d.2,zG (by simp only[hgt,zf]; omega)]; rfl
    by_cases e:j=n
    ·rw[e]; omega
    rw[b j (by omega)] at f; cases f
   have ri:=m i (by omega)
   have s:=o.id;have t:=ri.id
   by_cases q:hgt (fs n)<hgt (fs i)
   ·refine Or.inr ⟨i,by omega,?_,b,fun j k f=>?_⟩
    ·rw[fO,a,l7 (by omega) (by omega),d.1,d.2,zU q]; rfl
    by_cases e:j=n
    ·rw[e]; omega
    exact c j (by omega) f
   refine Or.inr ⟨n,by omega,?_,p,fun j k f=>?_⟩
   ·rw[fO,a,l7 (by omega) (by omega),d.1,d.2,zG q]; rfl
   by_cases e:j=n
   ·rw[e]; omega
   have:=c j (by omega) f; omega
theorem top_set {fs f:Nat->Nat->Int}{n k:Nat}(l z u g h:Int)(r:∀i,i<n->Rt (fs i))(w:∀i,i<k->Rt (f i))
  (t:∀i,i<n->vis (fs i) l z u g h=true->∃j,j<k/\f j=fs i) (v:∀j,j<k->vis (f j) l z u g h=true->∃i,i<n/\fs i=f j)
  (B:∀i j,i<n->j<n->fs i 0=fs j 0->fs i=fs j):fO f l z u g h k=fO fs l z u g h n:=by
 rcases jH (fs:=fs) l z u g h n r with⟨a,b⟩|⟨i,hi,a,b,c⟩
 ·rcases jH (fs:=f) l z u g h k w with⟨p,_⟩|⟨j,m,_,d,_⟩
  ·rw[a,p]
  obtain⟨i,hi,e⟩:=v j m d
  rw[<-e,b i hi] at d; cases d
 rcases jH (fs:=f) l z u g h k w with⟨_,d⟩|⟨j,m,p,d,A⟩
 ·obtain⟨j,m,e⟩:=t i hi b
  have:=d j m
  rw[e,b] at this; cases this
 obtain⟨s,o,q⟩:=v j m d;obtain⟨j',y,e⟩:=t i hi b
 have C:=c s o (by rw[q]; exact d)
 have x:=A j' y (by rw[e]; exact b)
 rw[e,<-q] at x;have D:=(r i hi).id;have E:=(r s o).id;rw[a,p,<-q]
 exact B s i o hi (by unfold hgt at C x; omega)
theorem far_vis {f:Nat->Int}{l z x y:Int}(c:Rt f)(d:keyErr l z x y=0)(h:cJ f l z x y=false)(p:Nat)(m:p<64):
  vis f l z (un z) (js x (un z) ((p:Int)%8)) (js y (un z) ((p:Int) / 8))=false:=by
 obtain⟨_,⟨a,b⟩,⟨t,u⟩,⟨v,w⟩⟩:=dK d;obtain⟨o,q,r,s⟩:=mod8 p m;obtain⟨_,_,_,_,_,_,e,g⟩:=ij a b t u o q;obtain⟨_,_,_,_,_,_,i,j⟩:=ij a b v w r s;have A:=lA z a b;unfold cJ at h;rw[lH c,d] at h;unfold vis
 cases n:iw f l z with
 | false=>rfl
 | true=>
  rw[n] at h
  cases k:jZ f (un z) (js x (un z) ((p:Int)%8)) (js y (un z) ((p:Int) / 8)) with
  | false=>rfl
  | true=>rw[cov_touch c (by omega) k e g i j] at h; simp at h
theorem ink_of_top {fs a:Nat->Nat->Int}{n b:Nat}{l z x y:Int}(h:∀p:Nat,p<64->fO a l z (un z) (js x (un z) ((p:Int)%8)) (js y (un z) ((p:Int) / 8)) b=fO fs l z (un z) (js x (un z) ((p:Int)%8)) (js y (un z) ((p:Int) / 8)) n):kP a b l z x y 64=kP fs n l z x y 64:=by
 unfold kP;refine List.map_congr_left fun p c=>?_;unfold ink;rw[h p (yL.1 c)]
theorem jN (ev:Operand->Value)(o:Oper)(x:Operand)(a:o.op=.buildSlice 62 1 #[(0,x)])(f:Nat->Int)(b:ev x=.agg (fc f))(w:World):(execOp ev o).run prog w=.ok (.value (.slice (some ⟨w.heap.size,0,none⟩) 1 1)) (w.alloc (.cells (fc f) 66)):=by
 unfold execOp;simp only[a];simp only[yN,zA,yQ,b]
 kernel_rfl
theorem bs34 {b:Array Oper}{rest:List Oper}{o:Oper}{a:Act}{w:World}{c:Exit->Act->World->Prop}(d:o.guard=none)(x:Operand)(i:o.op=.buildSlice 62 1 #[(0,x)])(f:Nat->Int)(j:a.eval x=.agg (fc f))(n:Nat)(g:w.heap.size=n)
  (h:wpList prog b c rest (a.put o.dst (.slice (some ⟨n,0,none⟩) 1 1)) (w.alloc (.cells (fc f) 66))):wpList prog b c (o::rest) a w:=
 wpList_plain d fun _ e=>by
  unfold Oper.wp;rw[jN _ _ x i f j,g];exact e _ _ h
def gf (l:List (Nat->Int))(i:Nat):Nat->Int:=(l[i]?).getD zf
theorem gf_cons (f:Nat->Int)(l:List (Nat->Int))(i:Nat):gf (f::l) (i+1)=gf l i:=by simp[gf]
theorem di {l:List (Nat->Int)}{f:Nat->Int}{i:Nat}(h:i<l.length):gf (l++[f]) i=gf l i:=by unfold gf; rw[y3 h]
theorem cD (l:List (Nat->Int))(f:Nat->Int):gf (l++[f]) l.length=f:=by simp[gf]
def cc (n:Nat)(f:Nat->Int):Array Value:=(Array.range n).map fun i=>.int .i64 (f i)
theorem cc_fc (f:Nat->Int):fc f=cc 24 f:=rfl
theorem eE (n:Nat)(f:Nat->Int):(cc n f).size=n:=by simp[cc]
theorem dc (n:Nat)(f:Nat->Int)(i:Nat)(h:i<n):(cc n f)[i]?=some (.int .i64 (f i)):=by simp[cc,h]
theorem cc_one (n:Nat)(f:Nat->Int):(cc n f).all (·.oneCell')=true:=by
 rw[xV];intro v a;simp only[cc,Array.mem_map] at a;obtain⟨i,_,rfl⟩:=a;rfl
theorem iB (n:Nat)(f:Nat->Int):(cc n f).toList.length=n:=by rw[zj,eE]
theorem cc_ext {n:Nat}{f g:Nat->Int}(h:∀i,i<n->f i=g i):cc n f=cc n g:=by
 apply Array.ext_getElem?
 intro j
 by_cases a:j<n
 ·rw[dc _ _ j a,dc _ _ j a,h j a]
 rw[xK (by rw[eE]; omega),xK (by rw[eE]; omega)]
def fl (m:Nat)(l:List (Nat->Int)):List Value:=l.flatMap fun f=>(cc m f).toList
theorem lp (m:Nat)(f:Nat->Int)(l:List (Nat->Int)):fl m (f::l)=(cc m f).toList++fl m l:=rfl
theorem pB (a:Nat)(l b:List (Nat->Int)):fl a (l++b)=fl a l++fl a b:=by simp[fl]
theorem fl_snoc (m:Nat)(l:List (Nat->Int))(f:Nat->Int):fl m (l++[f])=fl m l++(cc m f).toList:=by simp[fl]
theorem dp (m:Nat):∀l:List (Nat->Int),(fl m l).length=l.length*m
 | []=>by simp[fl]
 | f::l=>by rw[lp,zH,dp m l,iB,zS,zd]; omega
theorem gy (a:Nat):∀(l:List (Nat->Int)) (i j:Nat),i<l.length->j<a->(fl a l)[i*a+j]?=some (.int .i64 (gf l i j))
 | [],i,_,h,_=>by simp at h
 | f::l,0,j,_,b=>by
  rw[lp,y3 (by rw[iB]; omega),Nat.zero_mul,zb,yS,dc a f j b]; rfl
 | f::l,i+1,j,hi,b=>by
  rw[lp,yk (by rw[iB,zd]; omega),iB,gf_cons,show(i+1)*a+j-a=i*a+j by rw[zd]; omega]
  exact gy a l i j (by simpa using hi) b
theorem fl_one (b:Nat)(l:List (Nat->Int)):∀v∈fl b l,v.oneCell'=true:=by
 intro v a;simp only[fl,List.mem_flatMap] at a;obtain⟨f,_,c⟩:=a;have:=cc_one b f;rw[xV] at this
 exact this v (by simpa using c)
def mD (m:Nat)(W:World)(v:Value)(n:Nat)(fs:Nat->Nat->Int):Prop:=
 ∃(oa:Option Addr) (cap:Nat),v=.slice oa n cap/\n<=maxLen/\(0<n->∃b off,oa=some ⟨b,off,none⟩/\b<W.heap.size/\∀i,i<n->∀j,j<m->W.cell? ⟨b,off+i*m+j,none⟩=some (.int .i64 (fs i j)))
theorem cs_rng {a:Nat}{f:World}{b off n:Nat}{fs:Nat->Nat->Int}(g:∀i,i<n->∀j,j<a->f.cell? ⟨b,off+i*a+j,none⟩=some (.int .i64 (fs i j))){k:Nat}(h:k<n):f.rangeAt b (off+k*a) (cc a (fs k)).toList:=by
 intro j v d
 have c:j<a:=by
  have:=(zX.1 d).1;simpa[eE] using this
 have e:(cc a (fs k))[j]?=some v:=by simpa using d
 rw[dc _ _ j c] at e;rw[g k h j c,e]
def bf (T:TypeId)(m:Nat)(w:World)(B:Nat)(v:Value)(l:List (Nat->Int)):Prop:=w.ownsRow B T m v l.length (fl m l)
section
variable {T:TypeId}{m:Nat}{w w':World}{B:Nat}{v:Value}{l:List (Nat->Int)}
theorem jQ (T:TypeId)(m:Nat)(w:World)(B:Nat):bf T m w B (.slice none 0 0) []:=World.ownsRow_nil _ _ _ _
theorem bf.same (h:bf T m w B v l)(f:∀g,v.ownBlock=some g->w'.heap[g]?=w.heap[g]?):bf T m w' B v l:=by
 obtain⟨e,a⟩:=h;refine⟨e,?_⟩
 rcases a with a|⟨g,cap,c,b,d,i,j⟩
 ·exact Or.inl a
 exact Or.inr ⟨g,cap,c,b,d,(f g (by rw[b]; rfl)).trans i,j⟩
theorem bf.on (h:bf T m w B v l)(a:Below w.heap.size w w'):bf T m w' B v l:=h.same fun g b=>a.block g (y9 h g b).2
theorem bf.alloc (h:bf T m w B v l)(o:Obj):bf T m (w.alloc o) B v l:=World.ownsRow.alloc h o
theorem bf.lt (h:bf T m w B v l):∀k,v.ownBlock=some k->B<=k/\k<w.heap.size:=y9 h
theorem bf.mono {b:Nat}(h:bf T m w B v l)(k:b<=B):bf T m w b v l:=by
 obtain⟨d,a⟩:=h;refine⟨d,?_⟩
 rcases a with a|⟨g,cap,c,f,j,e,i⟩
 ·exact Or.inl a
 exact Or.inr ⟨g,cap,c,f,by omega,e,i⟩
theorem bf.at (h:bf T m w B v l)(e:l.length<=maxLen):mD m w v l.length (gf l):=by
 have b:=h
 rcases h.2 with⟨rfl,f⟩|⟨g,cap,k,rfl,_,c,_⟩
 ·rw[f]; exact⟨none,0,rfl,yF _,fun h=>absurd h (by omega)⟩
 refine⟨_,cap,rfl,e,fun _=>⟨g,0,rfl,(zM.1 c).1,fun i hi j d=>?_⟩⟩
 have a:i*m+j<l.length*m:=by
  have:(i+1)*m<=l.length*m:=zp _ hi;rw[zd] at this;omega
 rw[zb,y7 b (i*m+j) a,gy m l i j hi d]
theorem bf.form (h:bf T m w B v l)(f:0<l.length):∃g cap,v=.slice (some ⟨g,0,none⟩) l.length cap/\B<=g/\g<w.heap.size:=by
 rcases h.2 with⟨_,e⟩|⟨g,cap,d,c,a,b,_⟩
 ·omega
 exact⟨g,cap,c,a,(zM.1 b).1⟩
end
def dg (l:List (Nat->Int))(i j:Nat)(x:Int):List (Nat->Int):=l.set i (upd (gf l i) j x)
theorem bp (l:List (Nat->Int))(i j:Nat)(x:Int):(dg l i j x).length=l.length:=by simp[dg]
theorem cz (l:List (Nat->Int))(i j:Nat)(x:Int)(k:Nat)(a:k<l.length):gf (dg l i j x) k=if k=i then upd (gf l i) j x else gf l k:=by
 unfold dg gf;rw[yZ]
 by_cases e:i=k
 ·subst e; rw[zJ rfl,zJ a,zJ rfl]; rfl
 rw[zK e,zK (fun h=>e h.symm)]
theorem bf.stored {T:TypeId}{a:Nat}{w:World}{B g cap:Nat}{l:List (Nat->Int)}(h:bf T a w B (.slice (some ⟨g,0,none⟩) l.length cap) l)(i j:Nat)(hi:i<l.length)(m:j<a)(x:Int):
  bf T a (w.setCell ⟨g,i*a+j,none⟩ (.int .i64 x)) B (.slice (some ⟨g,0,none⟩) l.length cap) (dg l i j x)/\w.grownBy (w.setCell ⟨g,i*a+j,none⟩ (.int .i64 x)) (some g):=by
 have:=World.ownsRow.stored h (i*a+j) (.int .i64 x);refine⟨?_,this.2⟩;unfold bf;rw[bp]
 have e:fl a (dg l i j x)=(fl a l).set (i*a+j) (.int .i64 x):=by
  apply y0
  intro k
  by_cases n:k<l.length*a
  ·have hm:0<a:=by omega
   have b:k / a<l.length:=(xW hm).2 n;have f:k%a<a:=Nat.mod_lt _ hm;have e:k / a*a+k%a=k:=Nat.div_add_mod' k a;rw[yZ]
   by_cases c:i*a+j=k
   ·have p:k / a=i:=by rw[<-c,Nat.add_comm,Nat.add_mul_div_right _ _ hm,Nat.div_eq_of_lt m]; omega
    have q:k%a=j:=by rw[<-c,Nat.add_comm,Nat.add_mul_mod_self_right,Nat.mod_eq_of_lt m]
    rw[zJ c,zJ (by rw[dp,c]; exact n),<-e,gy a _ _ _ (by rw[bp]; exact b) f,p,q,cz _ _ _ _ _ hi,zJ rfl]
    simp[upd]
   rw[zK c,<-e,gy a _ _ _ (by rw[bp]; exact b) f,gy a _ _ _ b f,cz _ _ _ _ _ b]
   by_cases d:k / a=i
   ·rw[zJ d]
    have:k%a≠j:=fun o=>c (by rw[<-d,<-o]; exact e)
    simp only[upd,zK this,d]
   rw[zK d]
  rw[yR (by rw[dp,bp]; omega),yR (by rw[zn,dp]; omega)]
 rw[e];exact this.1
theorem grown_drew {w w':World}{r:Option Nat}(h:w.grownBy w' r):w.grownBy w'.drew r:=⟨h.os,h.tape,h.output,h.size,h.block⟩
def Lv (g:Nat->Int)(id:Int):Prop:=g 25=0/\g 0=id
theorem dq {w:World}{a:Nat}{ver:Int}{lv:Value}(b:w.heap[a]?=some (.cells #[ver,lv] 137)):w.cell? ⟨a,0,none⟩=some (.int .i64 ver)/\w.cell? ⟨a,1,none⟩=some lv:=by
 refine⟨(af b 0).trans rfl,(af b 1).trans rfl⟩
theorem end_any (v B:Nat)(ver:Int)(lv:Value)(LS:List (Nat->Int))(a:Int)(w:World)(z:w.heap[v]?=some (.cells #[ver,lv] 137))(q:bf 147 26 w B lv LS)(K:LS.length<=1000):
  Calls prog 167 #[some v,a] w fun e w'=>(e=.returned (.bool false)/\w=w'/\∀i,i<LS.length->¬Lv (gf LS i) a) \/
   ∃i,i<LS.length/\Lv (gf LS i) a/\(∀j,j<i->¬Lv (gf LS j) a)/\e=.returned (.bool true)/\bf 147 26 w' B lv (dg LS i 25 ver)/\w.grownBy w' lv.ownBlock:=by
 obtain⟨L,cap,rfl,_,y⟩:=q.at (by unfold maxLen; omega)
 have n:=ae q;have A:=ae y;obtain⟨G,H⟩:=dq z;clear q y z;go_enter func167,ntmps167
 go_wp2_with fail
 go_loop [5] (fun i=>∃k:Nat,k<=LS.length/\i=.int .i64 k/\Hid (∀i,i<k->¬Lv (gf LS i) a)) (fun i=>LS.length-(intOf i).toNat)
 ·exact⟨0,by omega,rfl,ae (fun i hi=>absurd hi (by omega))⟩
 obtain⟨k,J,rfl,f⟩:=hrel
 by_cases d:k<LS.length
 ·have s:(k:Int)<LS.length:=by omega
  obtain⟨g,D,e,I,F⟩:=(aa n).form (by omega)
  simp only[Value.slice.injEq,true_and] at e;obtain⟨rfl,rfl⟩:=e
  obtain⟨b,off,e,_,m⟩:=aa A (by omega)
  simp only[zy,Addr.mk.injEq,and_true] at e;obtain⟨rfl,rfl⟩:=e
  have r:=m k d 25 (by omega)
  have u:=m k d 0 (by omega)
  simp only[zb,yG] at r u;have E:=World.ownsRow.frozenAt (aa n) (k*26+25)
  have t:=ae ((aa n).stored k 25 d (by omega) ver)
  clear m;obtain⟨C,o⟩:∃c,gf LS k 25=c:=⟨_,rfl⟩;obtain⟨c,p⟩:∃c,gf LS k 0=c:=⟨_,rfl⟩;rw[o] at r;rw[p] at u
  by_cases l:C=0
  ·by_cases x:c=a
   ·subst l
    subst x
    go_wp2_with fail
    go_region
    go_wp2
    go_ret;exact Or.inr ⟨k,d,⟨o,p⟩,aa f,rfl,(aa t).1,grown_drew (aa t).2⟩
   subst l
   go_wp2_with fail
   go_round
   ·exact⟨k+1,by omega,by go_num,ae (fun i hi=>by
    by_cases e:i=k
    ·subst e; intro h; exact x (p.symm.trans h.2)
    exact aa f i (by omega))⟩
   simp[intOf]; omega
  go_wp2_with fail
  go_round
  ·exact⟨k+1,by omega,by go_num,ae (fun i hi=>by
   by_cases e:i=k
   ·subst e; intro h; exact l (o.symm.trans h.1)
   exact aa f i (by omega))⟩
  simp[intOf]; omega
 have s:k=LS.length:=by omega
 subst s
 go_wp2
 go_ret;exact Or.inl ⟨rfl,rfl,aa f⟩
def dY (LS:List (Nat->Int)):Nat->Nat
 | 0=>0
 | k+1=>if gf LS k 25=0 then dY LS k+1 else dY LS k
theorem cntL_le (LS:List (Nat->Int)):∀k,dY LS k<=k
 | 0=>zz _
 | k+1=>by rw[dY]; have:=cntL_le LS k; split<;>omega
theorem count_any (m B:Nat)(ver:Int)(lv:Value)(LS:List (Nat->Int))(w:World)(p:w.heap[m]?=some (.cells #[ver,lv] 137))(q:bf 147 26 w B lv LS)(C:LS.length<=1000):
  Calls prog 168 #[some m] w fun e w'=>e=.returned (.int .i64 (dY LS LS.length))/\w=w':=by
 obtain⟨D,cap,rfl,_,o⟩:=q.at (by unfold maxLen; omega)
 have t:=ae o;obtain⟨y,z⟩:=dq p;clear q o p;go_enter func168,ntmps168
 go_wp2_with fail
 go_loop [3,4] (fun c i=>∃k n:Nat,k<=LS.length/\n<=k/\i=.int .i64 k/\c=.int .i64 n/\Hid (n=dY LS k)) (fun _ i=>LS.length-(intOf i).toNat)
 ·exact⟨0,0,by omega,by omega,rfl,rfl,ae rfl⟩
 obtain⟨k,n,A,x,rfl,rfl,g⟩:=hrel
 by_cases s:k<LS.length
 ·have l:(k:Int)<LS.length:=by omega
  obtain⟨b,off,rfl,_,j⟩:=aa t (by omega)
  have r:=j k s 25 (by omega)
  clear j;obtain⟨u,f⟩:∃v,gf LS k 25=v:=⟨_,rfl⟩;rw[f] at r
  by_cases a:u=0
  ·have d:Hid (n+1=dY LS (k+1)):=by show n+1=_; rw[dY,zJ (f.trans a),aa g]
   subst a
   go_wp2_with fail
   go_round
   ·exact⟨k+1,n+1,by omega,by omega,by go_num,by go_num,d⟩
   simp[intOf]; omega
  have d:Hid (n=dY LS (k+1)):=by show n=_; rw[dY,zK (fun h=>a (f.symm.trans h)),aa g]
  go_wp2_with fail
  go_round
  ·exact⟨k+1,n,by omega,by omega,by go_num,rfl,d⟩
  simp[intOf]; omega
 have l:k=LS.length:=by omega
 subst l
 go_wp2
 go_ret
 exact⟨aB (by rw[aa g]),rfl⟩
def Fst (LS:List (Nat->Int))(id:Int)(i:Nat):Prop:=i<LS.length/\Lv (gf LS i) id/\∀j,j<i->¬Lv (gf LS j) id
def Non (LS:List (Nat->Int))(id:Int):Prop:=∀i,i<LS.length->¬Lv (gf LS i) id
def aO (f:Nat->Int)(ver:Int):Nat->Int:=fun j=>if j<24 then f j else if j=24 then ver else 0
def PutR (ver:Int)(f:Nat->Int)(LS:List (Nat->Int))(r:Int)(LS':List (Nat->Int)):Prop:=
 (right f=false/\r=7/\LS'=LS)\/(right f=true/\((∃i,Fst LS (f 0) i/\r=0/\LS'=dg LS i 25 ver++[aO f ver]) \/
  (Non LS (f 0)/\40<=dY LS LS.length/\r=11/\LS'=LS)\/(Non LS (f 0)/\dY LS LS.length<40/\r=0/\LS'=LS++[aO f ver])))
def DropR (ver:Int)(id:Int)(LS:List (Nat->Int))(r:Int)(LS':List (Nat->Int)):Prop:=
 (∃i,Fst LS id i/\r=0/\LS'=dg LS i 25 ver)\/(Non LS id/\r=10/\LS'=LS)
def iq (ver:Int)(e:Nat->Int)(LS:List (Nat->Int))(r:Int)(LS':List (Nat->Int)):Prop:=
 (e 0=0/\PutR ver (fun j=>e (1+j)) LS r LS')\/(e 0=1/\DropR ver (e 1) LS r LS')\/(e 0≠0/\e 0≠1/\r=9/\LS'=LS)
theorem PutR.len {ver:Int}{f:Nat->Int}{LS a:List (Nat->Int)}{b:Int}(h:PutR ver f LS b a):a.length<=LS.length+1:=by
 rcases h with⟨_,_,rfl⟩|⟨_,⟨i,_,_,rfl⟩|⟨_,_,_,rfl⟩|⟨_,_,_,rfl⟩⟩
 ·omega
 ·simp[bp]
 ·omega
 simp
theorem DropR.len {ver b:Int}{LS a:List (Nat->Int)}{c:Int}(h:DropR ver b LS c a):a.length<=LS.length+1:=by
 rcases h with⟨i,_,_,rfl⟩|⟨_,_,rfl⟩
 ·simp[bp]
 omega
theorem iq.len {ver:Int}{e:Nat->Int}{LS a:List (Nat->Int)}{b:Int}(h:iq ver e LS b a):a.length<=LS.length+1:=by
 rcases h with⟨_,h⟩|⟨_,h⟩|⟨_,_,_,rfl⟩
 ·exact h.len
 ·exact h.len
 omega
structure Dr (w:World)(db:Nat)(ver:Int)(LS:List (Nat->Int))(lv:Value):Prop where
 blk:w.heap[db]?=some (.cells #[ver,lv] 137)
 own:bf 147 26 w (db+1) lv LS
theorem Dr.lt {w:World}{a:Nat}{ver:Int}{LS:List (Nat->Int)}{lv:Value}(h:Dr w a ver LS lv):a<w.heap.size:=(zM.1 h.blk).1
theorem Dr.on {w w':World}{a:Nat}{ver:Int}{LS:List (Nat->Int)}{lv:Value}(h:Dr w a ver LS lv)(b:Below w.heap.size w w'):Dr w' a ver LS lv:=⟨ag h.blk b,h.own.on b⟩
theorem drop_any (a:Nat)(ver:Int)(lv:Value)(LS:List (Nat->Int))(f:Int)(w:World)(c:Dr w a ver LS lv)(z:LS.length<=900):
  Calls prog 114 #[some a,f] w fun e w'=>∃q l r,e=.returned (.int .i64 q)/\DropR ver f LS q l/\Dr w' a ver l r/\Below a w w':=by
 have g:=end_any a (a+1) ver lv LS f w c.blk c.own (by omega)
 have b:=ae c;clear c;go_enter func114,ntmps114
 go_wp2_with fail
 refine g.mono ?_;rintro e w1 (⟨rfl,rfl,o⟩|⟨i,hi,n,j,rfl,p,d⟩)
 ·have v:=ae o
  clear o g
  go_wp2
  go_ret;exact⟨_,_,_,rfl,Or.inr ⟨aa v,rfl,rfl⟩,aa b,zV _ _⟩
 have t:=ae (And.intro hi (And.intro n j));have x:=ae p
 have m:=(zV a w).grown d (Nat.le_of_lt (aa b).lt) (fun k y=>by have:=((aa b).own.lt k y).1; omega)
 have h:w1.heap[a]?=some (.cells #[ver,lv] 137):=(d.block a (aa b).lt (fun e=>by have:=((aa b).own.lt a e.symm).1; omega)).trans (aa b).blk
 have s:=ae m;have u:=ae h;clear g hi n j p d m h
 go_wp2
 go_ret;exact⟨_,_,_,rfl,Or.inl ⟨i,aa t,rfl,rfl⟩,⟨aa u,aa x⟩,aa s⟩
theorem built80 (f:Nat->Int)(ver:Int):prog.built 147 [(0,.agg (fc f)),(1,.int .i64 ver)]=some (cc 26 (aO f ver)):=by kernel_rfl
theorem kG (f:Nat->Int)(ver:Int)(A:Act)(o:Oper)(x y:Operand)(b:o.op=.build 147 #[(0,x),(1,y)])(c:A.eval x=.agg (fc f))(hy:A.eval y=.int .i64 ver)(w:World):
  (execOp A.eval o).run prog w=.ok (.value (.agg (cc 26 (aO f ver)))) w:=by
 have a:=run_build (P:=prog) w 147 #[(0,.agg (fc f)),(1,.int .i64 ver)] (cc 26 (aO f ver)) (built80 f ver);unfold execOp;simp[b,c,hy,a]
theorem jM (ev:Operand->Value)(o:Oper)(x:Operand)(a:o.op=.buildSlice 117 1 #[(0,x)])(f:Nat->Int)(b:ev x=.agg (cc 26 f))(w:World):(execOp ev o).run prog w=.ok (.value (.slice (some ⟨w.heap.size,0,none⟩) 1 1)) (w.alloc (.cells (cc 26 f) 147)):=by
 unfold execOp;simp only[a];simp only[yN,zA,yQ,b]
 kernel_rfl
theorem Tryz.info147:(prog.info? 147).map (fun i=>(i.zero,i.size,i.bytes))=some (some (.agg (cc 26 zf)),26,208):=by kernel_rfl
theorem lG (w:World)(B:Nat)(v:Value)(l a:List (Nat->Int))(k:bf 147 26 w B v l)(b off c:Nat)(h:∀i,i<a.length->∀j,j<26->w.cell? ⟨b,off+i*26+j,none⟩=some (.int .i64 (gf a i j)))
  (x:l.length+a.length<=10000) (q:B<=w.heap.size) :
  ∃d w',(Builtin.append_ #[117,117] 117 #[v,.slice (some ⟨b,off,none⟩) a.length c]).run prog w=.ok d w'/\bf 147 26 w' B d (l++a)/\w.grownBy w' v.ownBlock:=by
 obtain⟨r,hi,n,o,p⟩:=info_parts Tryz.info147
 obtain⟨d,w',m,s,t,_⟩:=run_append_own (P:=prog) w B 117 117 147 r (.agg (cc 26 zf)) 26 208 underlying117 hi n o p (eE 26 zf) (by decide) v l.length (fl 26 l) k ⟨b,off,none⟩ a.length c (fl 26 a) (dp 26 a)
  (fun j u f=>by
   have y:j<a.length*26:=by
    have:=(zX.1 f).1
    rwa [dp] at this
   have g:j / 26<a.length:=by omega
   have e:j / 26*26+j%26=j:=by omega
   rw[<-e,gy 26 a _ _ g (by omega)] at f
   rw[Addr.add_mid,<-zu f,show off+j=off+j / 26*26+j%26 by omega]
   exact h _ g _ (by omega))
  (fl_one 26 a) (by unfold maxLen; omega) (by omega) q
 refine⟨d,w',m,?_,t⟩;unfold bf;rw[pB];simpa using s
theorem pC {w w':World}{v c b:Value}(e:(Builtin.append_ #[117,117] 117 #[v,c]).run prog w=.ok b w')(a:Act)(o:Oper)(s x:Operand)(d:o.op=.call { callee:=.builtin .append,args:=#[s,x],argTypes:=#[117,117] })(g:o.type=117)(f:a.eval s=v)(h:a.eval x=c):(execOp a.eval o).run prog w=.ok (.value b) w':=by
 unfold execOp;simp only[d,resolve,invoke,builtin];simp[f,h,g,e,Result.andThen]
theorem cL {l:List Oper}{b:Exit->Act->World->Prop}{S:World->Prop}{c:Array Bool}{a:Act}{w:World}{d:Nat}{o:Oper}{rest:List Oper}(i:Nat)(j:l.drop i=o::rest)(hw:Region.wanted o (yielded l.toArray a.tmps)=true)(w1:World)(f:(execOp a.eval o).run prog w=.ok .skip w1)(g:S w1)
  (h:wpAnyH prog .any l.toArray b S d (c.setIfInBounds i true) (a.put o.dst undef) w1) :
  wpOp prog l.toArray b i (fun e w'=>S w'/\wpAnyH prog .any l.toArray b S d (c.setIfInBounds i true) e w') a w:=by
 unfold wpOp;simp only[gw j];rw[zJ hw]
 left
 unfold Oper.wp;rw[f];exact⟨g,h⟩
theorem dZ {w:World}{g i:Nat}{cs:Array Value}{t:TypeId}(h:w.heap[g]?=some (.cells cs t (0,0)))(v:Value):(w.setCell ⟨g,i,none⟩ v).heap[g]?=some (.cells (cs.setIfInBounds i v) t (0,0)):=by
 simp[World.setCell,zk,h]
theorem run_ld54 (ev:Operand->Value)(o:Oper)(x:Operand)(b:o.op=.load 66 x)(g:Nat)(e:ev x=.pointer (some ⟨g,0,none⟩))(f:Nat->Int){w:World}(a:w.heap[g]?=some (.cells (fc f) 66)):(execOp ev o).run prog w=.ok (.value (.agg (fc f))) w:=by
 have c:w.rangeAt g 0 (fc f).toList:=fun j v d=>by
  rw[af a,zb];simpa using d
 have h:=run_loadVar_mid w g 0 66 (fc f).toList _ c underlying66 rfl (by rw[zj]; exact gK f)
 unfold execOp;simp only[b,e,Instr.loadAt,Instr.sureAddr,Sem.run_bind,Sem.run_pure,Result.andThen_ok,h]
theorem lF (ev:Operand->Value)(o:Oper)(x y:Operand)(f:o.op=.store 117 x y)(a:Nat)(v:Value)(i:ev x=.pointer (some ⟨a,1,none⟩))(hy:ev y=v)(ver:Int){lv:Value}{w:World}(b:w.heap[a]?=some (.cells #[ver,lv] 137))(l:List (Nat->Int)){B:Nat}(h:bf 147 26 w B v l):(execOp ev o).run prog w=.ok .skip (w.setCell ⟨a,1,none⟩ v):=by
 have d:=(dq b).2;have e:=bi b 1
 obtain⟨c,n,cap,rfl⟩:∃c n cap,v=.slice c n cap:=by
  rcases h.2 with⟨rfl,_⟩|⟨g,cap,j,rfl,_⟩
  ·exact⟨_,_,_,rfl⟩
  exact⟨_,_,_,rfl⟩
 unfold execOp;simp only[f,i,hy];simp[go_sem,d,e]
theorem put_any (a:Nat)(ver:Int)(lv:Value)(LS:List (Nat->Int))(f:Nat->Int)(w:World)(aG:Dr w a ver LS lv)(aI:LS.length<=900):
  Calls prog 113 #[some a,.agg (fc f)] w fun e w'=>∃aK ay aP,e=.returned (.int .i64 aK)/\PutR ver f LS aK ay/\Dr w' a ver ay aP/\Below a w w':=by
 have ah:=zZ w (.cells (fc f) 66);have F:=ae aG;clear aG
 cases K:right f with
 | false=>
  go_enter func113,ntmps113
  go_wp2_with (refine dh rfl _ rfl _ rfl f ah ?_)
  refine(pE K _).mono ?_;rintro e w1 ⟨rfl,H⟩
  have G:=(aj w (.cells (fc f) 66)).trans (H.mono (by simp))
  have aL:=ae ((aa F).on G);have aQ:=ae (G.mono (Nat.le_of_lt (aa F).lt));clear H G
  go_wp2
  go_ret;exact⟨_,_,_,rfl,Or.inl ⟨K,rfl,rfl⟩,aa aL,aa aQ⟩
 | true=>
  have aR:=aN f 0 (by decide)
  obtain⟨av,ai⟩:∃av,f 0=av:=⟨_,rfl⟩;rw[ai] at aR;go_enter func113,ntmps113
  go_wp2_with (refine dh rfl _ rfl _ rfl f ah ?_)
  refine(iA K _).mono ?_;rintro e w1 ⟨rfl,H⟩
  have G:=(aj w (.cells (fc f) 66)).trans (H.mono (by simp))
  have ad:=(aa F).on G;have al:=ae (G.mono (Nat.le_of_lt (aa F).lt));have I:=ag ah H;have aA:=af I;have aT:a<w.heap.size:=(aa F).lt;clear H G ah
  have au:=end_any a (a+1) ver lv LS av w1 ad.blk ad.own (by omega)
  have n:=ae ad;clear ad
  go_wp2_with fail
  refine au.mono ?_;rintro e x (⟨rfl,rfl,aF⟩|⟨i,hi,aE,ax,rfl,aJ,v⟩)
  ·have aq:=ae aF
   have C:=count_any a (a+1) ver lv LS w1 (aa n).blk (aa n).own (by omega)
   have aB:=cntL_le LS LS.length;have ao:=ae C;clear aF au C;obtain⟨ab,J⟩:∃ab,dY LS LS.length=ab:=⟨_,rfl⟩;rw[J] at aB
   by_cases az:40<=ab
   ·have aw:(40:Int)<=ab:=by omega
    go_wp2_with fail
    refine(aa ao).mono ?_;rintro e aS ⟨rfl,rfl⟩;rw[J]
    go_wp2
    go_ret
    exact⟨_,_,_,rfl,Or.inr ⟨K,Or.inr (Or.inl ⟨by rw[ai]; exact aa aq,by rw[J]; exact az,rfl,rfl⟩)⟩,aa n,aa al⟩
   have aw:¬(40:Int)<=ab:=by omega
   go_wp2_with fail
   refine(aa ao).mono ?_;rintro e aS ⟨rfl,rfl⟩;rw[J]
   go_wp2_with fail
   have z:=n;have L:=al;have V:=I;have ap:Hid (LS.length<=900):=aI
   have an:Hid (PutR ver f LS 0 (LS++[aO f ver])):=Or.inr ⟨K,Or.inr (Or.inr ⟨by rw[ai]; exact aa aq,by rw[J]; omega,rfl,rfl⟩)⟩
   clear I aA az aw aB J ao aq
   have ac:Hid (lv.ownBlock≠some w.heap.size):=fun e=>by have:=((aa F).own.lt _ e).2; omega
   have y:=(aa z).blk;obtain⟨M,N⟩:=dq y
   refine z8 (S:=fun w'=>w'.heap[w.heap.size]?=some (.cells (fc f) 66)/\w'.cell? ⟨a,0,none⟩=some (.int .i64 ver)) (by kernel_rfl) ?_
   change wpAnyH _ _ _ _ _ _ _ _ (World.drew _);have b:(World.drew w1).heap[w.heap.size]?=some (.cells (fc f) 66)/\(World.drew w1).cell? ⟨a,0,none⟩=some (.int .i64 ver):=⟨V,M⟩;have h:Dr (World.drew w1) a ver (LS) lv:=⟨y,(aa z).own⟩;have A:Below a w (World.drew w1):=zE (aa L);have o:(World.drew w1).cell? ⟨a,1,none⟩=some lv:=N;generalize World.drew w1=c at b h A o ⊢;clear y M N z L V;have aM:a+1<=c.heap.size:=h.lt;have O:=zZ c (.cells (cc 26 (aO f ver)) 147);have m:(c.alloc (.cells (cc 26 (aO f ver)) 147)).heap[w.heap.size]?=some (.cells (fc f) 66)/\(c.alloc (.cells (cc 26 (aO f ver)) 147)).cell? ⟨a,0,none⟩=some (.int .i64 ver):=⟨(yK _ _ _ (zM.1 b.1).1).trans b.1,(zP (yK _ _ _ h.lt)).trans b.2⟩;have T:(c.alloc (.cells (cc 26 (aO f ver)) 147)).cell? ⟨a,1,none⟩=some lv:=(zP (yK _ _ _ h.lt)).trans o;have q:=h.own.alloc (.cells (cc 26 (aO f ver)) 147);have U:=(yK c (.cells (cc 26 (aO f ver)) 147) a h.lt).trans h.blk
   have P:=A.alloc (by omega) (.cells (cc 26 (aO f ver)) 147)
   have ak:=lG (c.alloc (.cells (cc 26 (aO f ver)) 147)) (a+1) lv (LS) [aO f ver] q c.heap.size 0 1 (fun i hi j ar=>by
    obtain rfl:i=0:=by simp at hi; omega
    rw[af O]
    simpa[gf] using dc 26 (aO f ver) j ar) (by have:=aa ap; simp; omega) (by simp; omega)
   refine am 0 rfl a 0 b ?_;refine am 1 rfl a 0 b ?_;refine am 2 rfl a 0 b ?_;refine am 3 rfl a 1 b ?_;refine aH 5 rfl (.agg (fc f)) b ?_ (hy:=fun w' u=>run_ld54 _ _ _ rfl _ rfl f u.1);refine am 6 rfl a 0 b ?_;refine am 7 rfl a 0 b ?_;refine am 8 rfl a 0 b ?_
   refine aH 9 rfl (.int .i64 ver) b ?_ (hy:=fun w' u=>by simp[go_sem,u.2])
   refine aH 10 rfl (.agg (cc 26 (aO f ver))) b ?_ (hy:=fun w' u=>kG f ver _ _ _ _ rfl rfl rfl w')
   refine y6 (rs:=[4,11]) (by kernel_rfl) (by simp) ?_
   intro i hi;simp only[zv,yT,or_false] at hi
   rcases hi with rfl|rfl
   focus
    refine bI 4 rfl rfl lv c (by simp[go_sem,o]) b ?_
    simp only[qZ];refine aV 11 ?_;refine bI 11 rfl rfl (.slice (some ⟨c.heap.size,0,none⟩) 1 1) _ (jM _ _ _ rfl (aO f ver) rfl c) m ?_
   rotate_left
   focus
    refine bI 11 rfl rfl (.slice (some ⟨c.heap.size,0,none⟩) 1 1) _ (jM _ _ _ rfl (aO f ver) rfl c) m ?_;simp only[qZ];refine aV 4 ?_
    refine bI 4 rfl rfl lv (c.alloc (.cells (cc 26 (aO f ver)) 147)) (by simp[go_sem,T]) m ?_
   all_goals
    simp only[qZ];obtain⟨d,l,X,t,r⟩:=ak
    have s:l.heap[a]?=some (.cells #[ver,lv] 137):=(r.block a (by simp; omega) (fun e=>by have:=(q.lt a e.symm).1; omega)).trans U
    have D:l.heap[w.heap.size]?=some (.cells (fc f) 66):=(r.block w.heap.size (zM.1 m.1).1 (fun e=>aa ac e.symm)).trans m.1;have B:l.heap[w.heap.size]?=some (.cells (fc f) 66)/\l.cell? ⟨a,0,none⟩=some (.int .i64 ver):=⟨D,(dq s).1⟩
    have Q:=P.grown r (by simp; omega) (fun k Z=>by have:=(q.lt k Z).1; omega)
    refine aV 12 ?_;refine bI 12 rfl rfl d l (pC X _ _ _ _ rfl rfl rfl rfl) B ?_;simp only[qZ];have b:=B;refine am 13 rfl a 0 b ?_;refine am 14 rfl a 1 b ?_;refine aV 15 ?_;have E:(l.setCell ⟨a,1,none⟩ d).heap[a]?=some (.cells #[ver,d] 137):=dZ s d
    have W:bf 147 26 (l.setCell ⟨a,1,none⟩ d) (a+1) d (LS++[aO f ver]):=t.same (fun g v=>zW _ _ _ _ (by have:=(t.lt g v).1; simp; omega))
    have R:=Q.setCell (p:=⟨a,1,none⟩) aD d
    refine cL 15 rfl rfl (l.setCell ⟨a,1,none⟩ d) (lF _ _ _ _ rfl a d rfl rfl ver s _ t) ⟨(zW _ _ _ _ (by simp; omega)).trans D,(dq E).1⟩ ?_
    simp only[Act.put]
    refine zm (by kernel_rfl) ?_ _
    have Y:=ae (And.intro (Dr.mk E W) R);clear E W R Q b B D s X t r O m T q U P h A o
    go_wp2
    go_ret;exact⟨_,_,_,rfl,aa an,(aa Y).1,(aa Y).2⟩
  have aC:Dr x a ver (dg LS i 25 ver) lv:=⟨(v.block a (aa n).lt (fun e=>by have:=((aa n).own.lt a e.symm).1; omega)).trans (aa n).blk,aJ⟩
  have ac:Hid (lv.ownBlock≠some w.heap.size):=fun e=>by have:=((aa F).own.lt _ e).2; omega
  have V:x.heap[w.heap.size]?=some (.cells (fc f) 66):=(v.block w.heap.size (zM.1 I).1 (fun e=>aa ac e.symm)).trans I
  have L:=ae ((aa al).grown v (Nat.le_of_lt (aa n).lt) (fun k Z=>by have:=((aa n).own.lt k Z).1; omega))
  have z:=ae aC;have ap:Hid (LS.length<=900):=aI
  have an:Hid (PutR ver f LS 0 (dg LS i 25 ver++[aO f ver])):=Or.inr ⟨K,Or.inl ⟨i,by rw[ai]; exact⟨hi,aE,ax⟩,rfl,rfl⟩⟩
  clear au v aC aJ hi aE ax I aA
  go_wp2_with fail
  have y:=(aa z).blk;obtain⟨M,N⟩:=dq y
  refine z8 (S:=fun w'=>w'.heap[w.heap.size]?=some (.cells (fc f) 66)/\w'.cell? ⟨a,0,none⟩=some (.int .i64 ver)) (by kernel_rfl) ?_
  change wpAnyH _ _ _ _ _ _ _ _ (World.drew _);have b:(World.drew x).heap[w.heap.size]?=some (.cells (fc f) 66)/\(World.drew x).cell? ⟨a,0,none⟩=some (.int .i64 ver):=⟨V,M⟩;have h:Dr (World.drew x) a ver (dg LS i 25 ver) lv:=⟨y,(aa z).own⟩;have A:Below a w (World.drew x):=zE (aa L);have o:(World.drew x).cell? ⟨a,1,none⟩=some lv:=N;generalize World.drew x=c at b h A o ⊢;clear y M N z L V;have aM:a+1<=c.heap.size:=h.lt;have O:=zZ c (.cells (cc 26 (aO f ver)) 147);have m:(c.alloc (.cells (cc 26 (aO f ver)) 147)).heap[w.heap.size]?=some (.cells (fc f) 66)/\(c.alloc (.cells (cc 26 (aO f ver)) 147)).cell? ⟨a,0,none⟩=some (.int .i64 ver):=⟨(yK _ _ _ (zM.1 b.1).1).trans b.1,(zP (yK _ _ _ h.lt)).trans b.2⟩;have T:(c.alloc (.cells (cc 26 (aO f ver)) 147)).cell? ⟨a,1,none⟩=some lv:=(zP (yK _ _ _ h.lt)).trans o;have q:=h.own.alloc (.cells (cc 26 (aO f ver)) 147);have U:=(yK c (.cells (cc 26 (aO f ver)) 147) a h.lt).trans h.blk
  have P:=A.alloc (by omega) (.cells (cc 26 (aO f ver)) 147)
  have ak:=lG (c.alloc (.cells (cc 26 (aO f ver)) 147)) (a+1) lv (dg LS i 25 ver) [aO f ver] q c.heap.size 0 1 (fun i hi j ar=>by
   obtain rfl:i=0:=by simp at hi; omega
   rw[af O]
   simpa[gf] using dc 26 (aO f ver) j ar) (by have:=aa ap; simp[bp]; omega) (by simp; omega)
  refine am 0 rfl a 0 b ?_;refine am 1 rfl a 0 b ?_;refine am 2 rfl a 0 b ?_;refine am 3 rfl a 1 b ?_;refine aH 5 rfl (.agg (fc f)) b ?_ (hy:=fun w' u=>run_ld54 _ _ _ rfl _ rfl f u.1);refine am 6 rfl a 0 b ?_;refine am 7 rfl a 0 b ?_;refine am 8 rfl a 0 b ?_
  refine aH 9 rfl (.int .i64 ver) b ?_ (hy:=fun w' u=>by simp[go_sem,u.2])
  refine aH 10 rfl (.agg (cc 26 (aO f ver))) b ?_ (hy:=fun w' u=>kG f ver _ _ _ _ rfl rfl rfl w')
  refine y6 (rs:=[4,11]) (by kernel_rfl) (by simp) ?_
  intro i hi;simp only[zv,yT,or_false] at hi
  rcases hi with rfl|rfl
  focus
   refine bI 4 rfl rfl lv c (by simp[go_sem,o]) b ?_
   simp only[qZ];refine aV 11 ?_;refine bI 11 rfl rfl (.slice (some ⟨c.heap.size,0,none⟩) 1 1) _ (jM _ _ _ rfl (aO f ver) rfl c) m ?_
  rotate_left
  focus
   refine bI 11 rfl rfl (.slice (some ⟨c.heap.size,0,none⟩) 1 1) _ (jM _ _ _ rfl (aO f ver) rfl c) m ?_;simp only[qZ];refine aV 4 ?_
   refine bI 4 rfl rfl lv (c.alloc (.cells (cc 26 (aO f ver)) 147)) (by simp[go_sem,T]) m ?_
  all_goals
   simp only[qZ];obtain⟨d,l,X,t,r⟩:=ak
   have s:l.heap[a]?=some (.cells #[ver,lv] 137):=(r.block a (by simp; omega) (fun e=>by have:=(q.lt a e.symm).1; omega)).trans U
   have D:l.heap[w.heap.size]?=some (.cells (fc f) 66):=(r.block w.heap.size (zM.1 m.1).1 (fun e=>aa ac e.symm)).trans m.1;have B:l.heap[w.heap.size]?=some (.cells (fc f) 66)/\l.cell? ⟨a,0,none⟩=some (.int .i64 ver):=⟨D,(dq s).1⟩
   have Q:=P.grown r (by simp; omega) (fun k Z=>by have:=(q.lt k Z).1; omega)
   refine aV 12 ?_;refine bI 12 rfl rfl d l (pC X _ _ _ _ rfl rfl rfl rfl) B ?_;simp only[qZ];have b:=B;refine am 13 rfl a 0 b ?_;refine am 14 rfl a 1 b ?_;refine aV 15 ?_;have E:(l.setCell ⟨a,1,none⟩ d).heap[a]?=some (.cells #[ver,d] 137):=dZ s d
   have W:bf 147 26 (l.setCell ⟨a,1,none⟩ d) (a+1) d (dg LS i 25 ver++[aO f ver]):=t.same (fun g v=>zW _ _ _ _ (by have:=(t.lt g v).1; simp; omega))
   have R:=Q.setCell (p:=⟨a,1,none⟩) aD d
   refine cL 15 rfl rfl (l.setCell ⟨a,1,none⟩ d) (lF _ _ _ _ rfl a d rfl rfl ver s _ t) ⟨(zW _ _ _ _ (by simp; omega)).trans D,(dq E).1⟩ ?_
   simp only[Act.put]
   refine zm (by kernel_rfl) ?_ _
   have Y:=ae (And.intro (Dr.mk E W) R);clear E W R Q b B D s X t r O m T q U P h A o
   go_wp2
   go_ret;exact⟨_,_,_,rfl,aa an,(aa Y).1,(aa Y).2⟩
theorem ec_F (e:Nat->Int){w:World}{b:Nat}(h:w.heap[b]?=some (.cells (cc 25 e) 100)):w.rangeAt b 1 (fc fun j=>e (1+j)).toList:=by
 intro j v a
 have c:j<24:=by
  have:=(zX.1 a).1;simpa[dX] using this
 have q:(fc fun j=>e (1+j))[j]?=some v:=by simpa using a
 rw[aN _ j c] at q
 rw[af h,dc 25 e (1+j) (by omega),q]
theorem edit_any (b:Nat)(ver:Int)(lv:Value)(LS:List (Nat->Int))(e:Nat->Int)(w:World)(o:Dr w b ver LS lv)(u:LS.length<=900):
  Calls prog 68 #[some b,.agg (cc 25 e)] w fun en w'=>∃k h l,en=.returned (.int .i64 k)/\iq ver e LS k h/\Dr w' b ver h l/\Below b w w':=by
 have y:=zZ w (.cells (cc 25 e) 100)
 have A:=dc 25 e 0 (by decide)
 have B:=dc 25 e 1 (by decide)
 have z:=ec_F e y;have n:=aj w (.cells (cc 25 e) 100);have x:=Nat.le_of_lt o.lt;have i:=o.on n;have m:=ae (n.mono x);have v:=ae i;have q:=put_any b ver lv LS (fun j=>e (1+j)) _ i u;obtain⟨O,f⟩:∃O,e 0=O:=⟨_,rfl⟩;obtain⟨C,t⟩:∃O,e 1=O:=⟨_,rfl⟩;rw[f] at A;rw[t] at B;have p:=drop_any b ver lv LS C _ i u;clear o i n
 by_cases r:O=0
 ·subst r
  go_enter func68,ntmps68
  go_wp2_with (refine nI rfl _ rfl w.heap.size 1 rfl _ z ?_)
  refine q.mono ?_;rintro en w1 ⟨k,h,l,rfl,g,d,c⟩;have a:=ae (And.intro g (And.intro d ((aa m).trans c)));clear g d c p
  go_wp2
  go_ret;exact⟨_,_,_,rfl,Or.inl ⟨f,(aa a).1⟩,(aa a).2.1,(aa a).2.2⟩
 by_cases s:O=1
 ·subst s
  go_enter func68,ntmps68
  go_wp2_with fail
  refine p.mono ?_;rintro en w1 ⟨k,h,l,rfl,g,d,c⟩;have a:=ae (And.intro g (And.intro d ((aa m).trans c)));clear g d c q
  go_wp2
  go_ret
  exact⟨_,_,_,rfl,Or.inr (Or.inl ⟨f,by rw[t]; exact(aa a).1⟩),(aa a).2.1,(aa a).2.2⟩
 go_enter func68,ntmps68
 go_wp2
 go_ret
 exact⟨_,_,_,rfl,Or.inr (Or.inr ⟨by rw[f]; exact r,by rw[f]; exact s,rfl,rfl⟩),aa v,aa m⟩
def mE (ver:Int)(es:Nat->Nat->Int)(LS:List (Nat->Int)):Nat->List (Nat->Int)->Prop
 | 0,LS'=>LS'=LS
 | k+1,LS'=>∃LSm,mE ver es LS k LSm/\iq ver (es k) LSm 0 LS'
theorem mE.len {ver:Int}{es:Nat->Nat->Int}{LS:List (Nat->Int)}:∀{k:Nat} {a:List (Nat->Int)},mE ver es LS k a->a.length<=LS.length+k
 | 0,_,h=>by rw[show _=LS from h]; omega
 | k+1,_,h=>by
  obtain⟨d,b,c⟩:=h;have:=b.len;have:=c.len;omega
theorem sz56 (f:Nat->Int):(prog.info? 100).map (·.size)=some (cc 25 f).size:=by rw[eE]; kernel_rfl
theorem ldm56 {c:Array Oper}{rest:List Oper}{o:Oper}{a:Act}{w:World}{d:Exit->Act->World->Prop}(hw:Region.wanted o (yielded c a.tmps)=true)(x:Operand)(g:o.op=.load 100 x)
  (b off:Nat) (i:a.eval x=.pointer (some ⟨b,off,none⟩)) (f:Nat->Int) (e:w.rangeAt b off (cc 25 f).toList)
  (h:wpList prog c d rest (a.put o.dst (.agg (cc 25 f))) w):wpList prog c d (o::rest) a w:=by
 unfold wpList;rw[zJ hw]
 exact Or.inl (wp_load_mid 100 x g b off i (cc 25 f).toList _ e underlying100 rfl (by rw[zj]; exact sz56 f) h)
theorem oC (w:World):(Builtin.append_ #[117,117] 117 #[.slice none 0 0,.slice none 0 0]).run prog w=.ok (.slice none 0 0) w:=by kernel_rfl
theorem run_ap60s (w:World)(B:Nat)(sl:Value)(LS:List (Nat->Int)){d:Nat}(b:bf 147 26 w d sl LS)(q:LS.length<=1000)(f:B<=w.heap.size):
  ∃a w',(Builtin.append_ #[117,117] 117 #[.slice none 0 0,sl]).run prog w=.ok a w'/\bf 147 26 w' B a LS/\w.grownBy w' none:=by
 have e:=b
 rcases b.2 with⟨rfl,k⟩|⟨g,cap,o,rfl,_,p,_⟩
 ·obtain rfl:LS=[]:=yU k
  exact⟨_,_,oC w,jQ _ _ _ _,ym _ _⟩
 obtain⟨a,w',l,m,n⟩:=lG w B (.slice none 0 0) [] LS (jQ _ _ _ _) g 0 cap (fun i hi j h=>by
  have c:i*26+j<LS.length*26:=by omega
  rw[zb,y7 e (i*26+j) c,gy 26 LS i j hi h]) (by simp; omega) f
 exact⟨a,w',l,by simpa using m,n⟩
def ApR (sb:Nat)(keep ver:Int)(pv:Value)(LS:List (Nat->Int))(n:Nat)(es:Nat->Nat->Int)(w:World)(e:Ending)(w':World):Prop:=
 (n=0/\e=.returned (.tuple #[(),(8:Int)])/\Below w.heap.size w w')\/(0<n/\100<=ver/\e=.returned (.tuple #[(),(11:Int)])/\Below w.heap.size w w') \/
 (0<n/\ver<100/\∃k LSk,mE (ver+1) es LS k LSk /\
  ((k=n/\e=.returned (.tuple #[.int .i64 (ver+1),()])/\w.grownBy w' (some sb)/\∃sl',w'.heap[sb]?=some (.cells #[keep,.int .i64 (ver+1),sl',pv] 119)/\bf 147 26 w' w.heap.size sl' LSk) \/
   (k<n/\∃r LS',iq (ver+1) (es k) LSk r LS'/\r≠0/\e=.returned (.tuple #[(),r])/\Below w.heap.size w w')))
theorem Apply_any (c:Nat)(l ver:Int)(sl pv:Value)(LS:List (Nat->Int))(v:Value)(n:Nat)(es:Nat->Nat->Int)(w:World)(J:w.heap[c]?=some (.cells #[l,ver,sl,pv] 119))
  (aC:bf 147 26 w (c+1) sl LS) (bh:LS.length<=800) (a0:mD 25 w v n es) (bj:n<=8) (a4:0<=ver/\ver<=100) :
  Calls prog 26 #[some c,v] w fun e w'=>ApR c l ver pv LS n es w e w':=by
 obtain⟨aG,cap,rfl,_,aB⟩:=a0;have aS:=ae aB;have aP:c<w.heap.size:=(zM.1 J).1;have a2:=(af J 1).trans (show _=some (Value.int .i64 ver) from rfl);have ay:=ae J;have aT:=ae aC;clear J aC aB
 by_cases az:n=0
 ·have aJ:ApR c l ver pv LS n es w (.returned (.tuple #[(),(8:Int)])) w:=Or.inl ⟨az,rfl,zV _ _⟩
  have r:=ae aJ;subst az;clear aJ;go_enter func26,ntmps26
  go_wp2
  go_ret2
  exact aa r
 have aW:¬(n:Int)<1:=by omega
 have aX:¬(8:Int)<n:=by omega
 by_cases R:100<=ver
 ·have r:Hid (ApR c l ver pv LS n es w (.returned (.tuple #[(),(11:Int)])) w):=Or.inr (Or.inl ⟨by omega,R,rfl,zV _ _⟩)
  go_enter func26,ntmps26
  go_wp2
  go_ret2
  exact aa r
 obtain⟨V,H⟩:∃V,ver+1=V:=⟨_,rfl⟩
 have bc:1<=V/\V<=100:=by omega
 have hw:IntKind.i64.wrap (ver+1)=V:=by rw[H]; exact dH _ (by omega)
 have O:wrap64 (ver+1)=V:=by rw[H]; exact z6 _ ⟨by omega,by omega⟩
 have z:=ae H;clear H
 have be:¬(100:Int)<=ver:=by omega
 go_enter func26,ntmps26
 go_wp2_with fail
 have s:=zZ w (.cells #[V,.slice none 0 0] 137);have G:=aj w (.cells #[V,.slice none 0 0] 137);have au:=ag (aa ay) G;have ap:=(aa aT).on G
 refine z8 (S:=fun w'=>w'.heap[c]?=some (.cells #[l,ver,sl,pv] 119)) (by kernel_rfl) ?_
 change wpAnyH _ _ _ _ _ _ _ _ (World.drew _);have d:(World.drew (w.alloc (.cells #[V,.slice none 0 0] 137))).heap[c]?=some (.cells #[l,ver,sl,pv] 119):=au;have u:(World.drew (w.alloc (.cells #[V,.slice none 0 0] 137))).heap[w.heap.size]?=some (.cells #[V,.slice none 0 0] 137):=s;have N:bf 147 26 (World.drew (w.alloc (.cells #[V,.slice none 0 0] 137))) (c+1) sl LS:=ap;have L:Below w.heap.size w (World.drew (w.alloc (.cells #[V,.slice none 0 0] 137))):=zE G
 have av:(World.drew (w.alloc (.cells #[V,.slice none 0 0] 137))).heap.size=w.heap.size+1:=by simp[World.drew]
 generalize World.drew (w.alloc (.cells #[V,.slice none 0 0] 137))=aI at d u N L av ⊢;clear s G au ap;obtain⟨a1,aF⟩:=dq u
 obtain⟨m,x,aq,E,D⟩:=run_ap60s aI (w.heap.size+1) sl LS N (by omega) (by omega)
 have C:x.heap[c]?=some (.cells #[l,ver,sl,pv] 119):=(D.block c (by omega) (by simp)).trans d
 have M:x.heap[w.heap.size]?=some (.cells #[V,.slice none 0 0] 137):=(D.block w.heap.size (by omega) (by simp)).trans u
 have Y:=L.grown D (by omega) (fun k u=>by cases u)
 refine am 0 rfl w.heap.size 1 d ?_;refine am 2 rfl c 0 d ?_;refine am 3 rfl c 0 d ?_;refine am 4 rfl c 2 d ?_
 refine aH 5 rfl (sl) d ?_ (hy:=fun w' O=>by simp[go_sem,(af O 2).trans (show _=some sl from rfl)])
 refine aV 1 ?_
 refine bI 1 rfl rfl (.slice none 0 0) aI (by simp[go_sem,aF]) d ?_
 simp only[qZ];refine aV 6 ?_;refine bI 6 rfl rfl m x (pC aq _ _ _ _ rfl rfl rfl rfl) C ?_;simp only[qZ];have d:=C;refine am 7 rfl w.heap.size 1 d ?_;refine aV 8 ?_
 have ad:=(zW x ⟨w.heap.size,1,none⟩ m c (by simp; omega)).trans C
 have ab:Dr (x.setCell ⟨w.heap.size,1,none⟩ m) w.heap.size V LS m:=⟨dZ M m,E.same (fun g I=>zW _ _ _ _ (by have:=(E.lt g I).1; simp; omega))⟩
 have Z:=Y.setCell (p:=⟨w.heap.size,1,none⟩) aD m;refine cL 8 rfl rfl (x.setCell ⟨w.heap.size,1,none⟩ m) (lF _ _ _ _ rfl w.heap.size m rfl rfl V M _ E) ad ?_;simp only[Act.put]
 refine zm (by kernel_rfl) ?_ _
 have aM:=ae ab;have aK:=ae Z;clear d C M Y ad ab Z aq E D u a1 aF N L av hw O aW aX R
 go_wp2
 go_loopw [7,8] (fun i _ wr=>∃(k:Nat) (o:List (Nat->Int)) (lv:Value),k<=n/\i=.int .i64 k/\Hid (mE V es LS k o)/\Hid (Dr wr w.heap.size V o lv)/\Below w.heap.size w wr) (fun i _ _=>n-(intOf i).toNat)
 ·exact⟨0,LS,m,by omega,rfl,ae rfl,aM,aa aK⟩
 obtain⟨k,o,lv,al,rfl,s,t,f⟩:=hrel;clear a2
 by_cases an:k<n
 ·have bd:(k:Int)<n:=by omega
  obtain⟨b,off,rfl,aO,ai⟩:=aa aS (by omega)
  have ar:=cs_rng (fun i hi j aY=>(f.cell (p:=⟨b,off+i*25+j,none⟩) aO).trans (ai i hi j aY)) an
  have aw:=edit_any w.heap.size V lv o (es k) wr (aa t) (by have:=(aa s).len; omega)
  have aL:=ae f;have W:=ae aw;clear ai f aw
  go_wp2_with (refine ldm56 rfl _ rfl b (off+k*25) rfl (es k) ar ?_)
  refine(aa W).mono ?_;rintro en a3 ⟨Q,X,aR,rfl,aA,ac,ah⟩;have ax:=ae aA;have aN:=ae ac;have U:=ae ((aa aL).trans ah);clear aA ac ah ar W
  by_cases aE:Q=0
  ·subst aE
   go_wp2
   go_roundw
   ·exact⟨k+1,X,aR,by omega,by go_num,ae ⟨o,aa s,aa ax⟩,aN,aa U⟩
   simp[intOf]; omega
  have r:Hid (ApR c l ver pv LS n es w (.returned (.tuple #[(),Q])) a3):=Or.inr (Or.inr ⟨by omega,by omega,k,o,by rw[aa z]; exact aa s,Or.inr ⟨an,Q,X,by rw[aa z]; exact aa ax,aE,rfl,aa U⟩⟩)
  go_wp2
  go_ret2
  exact aa r
 have al:k=n:=by omega
 subst al;have ak:=(aa t).blk;have F:=(f.block c aP).trans (aa ay);obtain⟨aU,bg⟩:=dq ak
 obtain⟨A,B,y,aQ⟩:∃aG n cap,lv=.slice aG n cap:=by
  rcases(aa t).own.2 with⟨h,_⟩|⟨g,cap,a8,h,_⟩
  ·exact⟨_,_,_,h⟩
  exact⟨_,_,_,h⟩
 subst aQ;have K:=dZ (i:=2) F (.slice A B y);have P:=dZ (i:=1) K (.int .i64 V);have ba:=bi F;have bb:=bi K;have a5:=(af F 2).trans (show _=some sl from rfl);have a6:=(af K 1).trans (show _=some (Value.int .i64 ver) from rfl);have a7:=(af P 1).trans (show _=some (Value.int .i64 V) from rfl)
 have a9:=(zP (a:=⟨w.heap.size,0,none⟩) (zW wr ⟨c,2,none⟩ (.slice A B y) w.heap.size (by simp; omega))).trans aU
 have T:bf 147 26 ((wr.setCell ⟨c,2,none⟩ (.slice A B y)).setCell ⟨c,1,none⟩ (.int .i64 V)) w.heap.size (.slice A B y) o:=((aa t).own.same (fun g I=>(zW _ _ _ _ (by have:=((aa t).own.lt g I).1; simp; omega)).trans (zW _ _ _ _ (by have:=((aa t).own.lt g I).1; simp; omega)))).mono (by omega)
 have r:Hid (ApR c l ver pv LS k es w (.returned (.tuple #[V,()])) ((wr.setCell ⟨c,2,none⟩ (.slice A B y)).setCell ⟨c,1,none⟩ (.int .i64 V))):=Or.inr (Or.inr ⟨by omega,by omega,k,o,by rw[aa z]; exact aa s,Or.inl ⟨rfl,by rw[aa z],⟨f.os,f.tape,f.output,by simpa[World.setCell] using f.size,fun q aZ ao=>(zW _ _ _ _ (fun e=>ao (by rw[e]))).trans ((zW _ _ _ _ (fun e=>ao (by rw[e]))).trans (f.block q aZ))⟩,_,by rw[aa z]; exact P,T⟩⟩)
 clear f ak F T K P
 go_wp2
 go_ret2
 exact aa r
def eF (e:Nat->Int):Nat->Int:=fun j=>e (1+j)
def jg (xs:List Value):Nat->List Value->List Value
 | _,[]=>xs
 | o,v::r=>jg (xs.set o v) (o+1) r
theorem lD:∀(b a:List Value) (o:Nat),(jg a o b).length=a.length
 | [],_,_=>rfl
 | v::c,a,o=>by rw[jg,lD c]; simp
theorem kY:∀(b a:List Value) (o k:Nat),o+b.length<=a.length->(jg a o b)[k]?=if o<=k/\k<o+b.length then b[k-o]? else a[k]?
 | [],a,o,k,_=>by rw[jg,zK (by simp only[List.length_nil]; omega)]
 | v::e,a,o,k,h=>by
  simp only[zS] at h
  rw[jg,kY e (a.set o v) (o+1) k (by simp; omega)]
  by_cases c:o+1<=k/\k<o+1+e.length
  ·rw[zJ c,zJ (by simp only[zS]; omega),show k-o=(k-(o+1))+1 by omega,List.getElem?_cons_succ]
  rw[zK c,yZ]
  by_cases d:o=k
  ·subst d; rw[zJ rfl,zJ (by omega),zJ (by simp only[zS]; omega)]; simp
  rw[zK d,zK (by simp only[zS]; omega)]
theorem bf.there {T:TypeId}{a:Nat}{w:World}{B g cap:Nat}{l:List (Nat->Int)}(h:bf T a w B (.slice (some ⟨g,0,none⟩) l.length cap) l)(i:Nat)(hi:i<l.length):w.there g (i*a) a:=by
 intro j c
 have b:i*a+j<l.length*a:=by
  have:(i+1)*a<=l.length*a:=zp _ hi;rw[zd] at this;omega
 refine⟨?_,World.ownsRow.frozenAt h _⟩;rw[y7 h _ b,gy a l i j hi c];rfl
theorem Tryz.info66:(prog.info? 66).map (fun i=>(i.zero,i.size,i.bytes))=some (some (.agg (fc zf)),24,192):=by kernel_rfl
theorem run_apF (w:World)(B:Nat)(v:Value)(l a:List (Nat->Int))(k:bf 66 24 w B v l)(b off c:Nat)(h:∀i,i<a.length->∀j,j<24->w.cell? ⟨b,off+i*24+j,none⟩=some (.int .i64 (gf a i j)))
  (x:l.length+a.length<=10000) (q:B<=w.heap.size) :
  ∃d w',(Builtin.append_ #[62,62] 62 #[v,.slice (some ⟨b,off,none⟩) a.length c]).run prog w=.ok d w'/\bf 66 24 w' B d (l++a)/\w.grownBy w' v.ownBlock:=by
 obtain⟨r,hi,n,o,p⟩:=info_parts Tryz.info66
 obtain⟨d,w',m,s,t,_⟩:=run_append_own (P:=prog) w B 62 62 66 r (.agg (fc zf)) 24 192 underlying62 hi n o p (dX zf) (by decide) v l.length (fl 24 l) k ⟨b,off,none⟩ a.length c (fl 24 a) (dp 24 a)
  (fun j u f=>by
   have y:j<a.length*24:=by
    have:=(zX.1 f).1
    rwa [dp] at this
   have g:j / 24<a.length:=by omega
   have e:j / 24*24+j%24=j:=by omega
   rw[<-e,gy 24 a _ _ g (by omega)] at f
   rw[Addr.add_mid,<-zu f,show off+j=off+j / 24*24+j%24 by omega]
   exact h _ g _ (by omega))
  (fl_one 24 a) (by unfold maxLen; omega) (by omega) q
 refine⟨d,w',m,?_,t⟩;unfold bf;rw[pB];simpa using s
theorem ex_apF {w w':World}{v c b:Value}(e:(Builtin.append_ #[62,62] 62 #[v,c]).run prog w=.ok b w')(a:Act)(o:Oper)(s x:Operand)(d:o.op=.call { callee:=.builtin .append,args:=#[s,x],argTypes:=#[62,62] })(g:o.type=62)(f:a.eval s=v)(h:a.eval x=c):(execOp a.eval o).run prog w=.ok (.value b) w':=by
 unfold execOp;simp only[d,resolve,invoke,builtin];simp[f,h,g,e,Result.andThen]
theorem wl_apF {b:Array Oper}{rest:List Oper}{o:Oper}{a:Act}{e:Exit->Act->World->Prop}{f w':World}{v d c:Value}(k:(Builtin.append_ #[62,62] 62 #[v,d]).run prog f=.ok c w')(g:o.guard=none)(s x:Operand)(j:o.op=.call { callee:=.builtin .append,args:=#[s,x],argTypes:=#[62,62] })(m:o.type=62)(l:a.eval s=v)(n:a.eval x=d)
  (h:wpList prog b e rest (a.put o.dst c) w'):wpList prog b e (o::rest) a f:=
 wpList_plain g fun _ i=>by
  unfold Oper.wp;rw[ex_apF k a o s x j m l n];exact i _ _ h
def No (FL:List (Nat->Int))(id:Int):Prop:=∀i,i<FL.length->gf FL i 0≠id
theorem New_any (k:Int)(w:World)(h:0<=k/\k<=4):
  Calls prog 21 #[k] w fun e w'=>e=.returned (.tuple #[some w.heap.size,()])/\w'=w.alloc (.cells #[k,(),.slice none 0 0,.slice none 0 0] 119):=by
 go_enter func21,ntmps21
 go_wp2
 go_ret2
 exact⟨rfl,rfl⟩
def lc (v:Int)(g:Nat->Int):Int:=if g 25≠0/\g 25<=v then g 25 else if g 24<=v then g 24 else 0
theorem l5 (g:Nat->Int)(v:Int)(w:World):
  Calls prog 76 #[.agg (cc 26 g),v] w fun e w'=>e=.returned (.int .i64 (lc v g))/\Below w.heap.size w w':=by
 have j:=dc 26 g 25 (by decide)
 have i:=dc 26 g 24 (by decide)
 have b:=ae (aj w (.cells (cc 26 g) 147));obtain⟨a,h⟩:∃a,g 25=a:=⟨_,rfl⟩;obtain⟨C,f⟩:∃a,g 24=a:=⟨_,rfl⟩
 have c:Hid (lc v g=if a≠0/\a<=v then a else if C<=v then C else 0):=by show lc v g=_; rw[lc,h,f]
 rw[h] at j;rw[f] at i;clear h f
 by_cases k:a=0
 ·by_cases d:C<=v
  ·go_enter func76,ntmps76
   go_wp2
   go_ret
   exact⟨aB (by rw[aa c,zK (by omega),zJ d]),aa b⟩
  go_enter func76,ntmps76
  go_wp2
  go_ret
  exact⟨aB (by rw[aa c,zK (by omega),zK (by omega)]),aa b⟩
 by_cases l:a<=v
 ·go_enter func76,ntmps76
  go_wp2
  go_ret
  exact⟨aB (by rw[aa c,zJ ⟨k,l⟩]),aa b⟩
 by_cases d:C<=v
 ·go_enter func76,ntmps76
  go_wp2
  go_ret
  exact⟨aB (by rw[aa c,zK (by omega),zJ d]),aa b⟩
 go_enter func76,ntmps76
 go_wp2
 go_ret
 exact⟨aB (by rw[aa c,zK (by omega),zK (by omega)]),aa b⟩
def eW (v:Int)(l z x y:Int)(LS:List (Nat->Int)):Nat->Int
 | 0=>0
 | k+1=>bif decide (eW v l z x y LS k<lc v (gf LS k)) && cJ (gf LS k) l z x y then lc v (gf LS k) else eW v l z x y LS k
theorem gL {v l z x y:Int}{LS:List (Nat->Int)}{k:Nat}(h:(decide (eW v l z x y LS k<lc v (gf LS k)) && cJ (gf LS k) l z x y)=false):eW v l z x y LS (k+1)=eW v l z x y LS k:=by rw[eW,h]; rfl
theorem jI {v l z x y:Int}{LS:List (Nat->Int)}{k:Nat}(h:(decide (eW v l z x y LS k<lc v (gf LS k)) && cJ (gf LS k) l z x y)=true):eW v l z x y LS (k+1)=lc v (gf LS k):=by rw[eW,h]; rfl
theorem sz80 (f:Nat->Int):(prog.info? 147).map (·.size)=some (cc 26 f).size:=by rw[eE]; kernel_rfl
theorem ldm80 {c:Array Oper}{rest:List Oper}{o:Oper}{a:Act}{w:World}{d:Exit->Act->World->Prop}(hw:Region.wanted o (yielded c a.tmps)=true)(x:Operand)(g:o.op=.load 147 x)
  (b off:Nat) (i:a.eval x=.pointer (some ⟨b,off,none⟩)) (f:Nat->Int) (e:w.rangeAt b off (cc 26 f).toList)
  (h:wpList prog c d rest (a.put o.dst (.agg (cc 26 f))) w):wpList prog c d (o::rest) a w:=by
 unfold wpList;rw[zJ hw]
 exact Or.inl (wp_load_mid 147 x g b off i (cc 26 f).toList _ e underlying147 rfl (by rw[zj]; exact sz80 f) h)
theorem life_F {c:World}{b off:Nat}{g:Nat->Int}(h:c.rangeAt b off (cc 26 g).toList):c.rangeAt b off (fc g).toList:=by
 intro j v a
 have d:j<24:=by
  have:=(zX.1 a).1;simpa[dX] using this
 have e:(fc g)[j]?=some v:=by simpa using a
 rw[aN _ j d] at e;refine h j v ?_
 rw[yS,dc 26 g j (by omega)]
 exact e
structure Sto (w:World)(sb:Nat)(keep ver:Int)(sl pv:Value)(LS:List (Nat->Int)):Prop where
 blk:w.heap[sb]?=some (.cells #[keep,ver,sl,pv] 119)
 own:bf 147 26 w (sb+1) sl LS
theorem Sto.lt {w:World}{a:Nat}{b ver:Int}{sl pv:Value}{LS:List (Nat->Int)}(h:Sto w a b ver sl pv LS):a<w.heap.size:=(zM.1 h.blk).1
theorem Sto.on {w w':World}{c:Nat}{a ver:Int}{sl pv:Value}{LS:List (Nat->Int)}(h:Sto w c a ver sl pv LS)(b:Below w.heap.size w w'):Sto w' c a ver sl pv LS:=⟨ag h.blk b,h.own.on b⟩
theorem Sto.cells {w:World}{a:Nat}{b ver:Int}{sl pv:Value}{LS:List (Nat->Int)}(h:Sto w a b ver sl pv LS):w.cell? ⟨a,1,none⟩=some (.int .i64 ver)/\w.cell? ⟨a,2,none⟩=some sl:=⟨(af h.blk 1).trans rfl,(af h.blk 2).trans rfl⟩
theorem nZ (a:Nat)(ab ver:Int)(sl pv:Value)(LS:List (Nat->Int))(v l z x y:Int)(w:World)(V:Sto w a ab ver sl pv LS)(aq:LS.length<=1000)(U:keyErr l z x y=0)(ar:0<=v/\v<=ver):
  Calls prog 38 #[some a,v,.agg #[l,z,x,y]] w fun e w'=>e=.returned (.tuple #[.int .i64 (eW v l z x y LS LS.length),()])/\Below w.heap.size w w':=by
 have N:=zZ w (.cells #[l,z,x,y] 39);have Z:=fun g=>bV l z x y g;rw[U] at Z;have S:=ae (V.on (aj w (.cells #[l,z,x,y] 39)));clear V U;go_enter func38,ntmps38
 go_wp2_with fail
 refine(Z _).mono ?_;rintro e w1 ⟨rfl,A⟩;have E:=(aa S).on A;have ad:=ag N A;obtain⟨al,X⟩:=E.cells
 obtain⟨au,cap,rfl,_,T⟩:=E.own.at (by unfold maxLen; omega)
 have ah:=ae T
 have R:=ae ((aj _ _).trans (A.mono (by simp)))
 have D:=E.lt
 have an:¬v<0:=by omega
 have ao:¬ver<v:=by omega
 clear A N E T S
 go_wp2
 go_loopw [9,10,11] (fun st i _ wr=>∃(k:Nat) (s:Int),k<=LS.length/\i=.int .i64 k/\st=.int .i64 s/\Hid (s=eW v l z x y LS k)/\Below w1.heap.size w1 wr) (fun _ i _ _=>LS.length-(intOf i).toNat)
 ·exact⟨0,0,by omega,rfl,rfl,ae rfl,zV _ _⟩
 obtain⟨k,s,ap,rfl,rfl,t,f⟩:=hrel;have W:=(f.cell (p:=⟨a,2,none⟩) D).trans X;have O:=ag ad f;have J:=ae f;clear al X
 by_cases af:k<LS.length
 ·have B:(k:Int)<LS.length:=by omega
  obtain⟨b,off,rfl,ac,M⟩:=aa ah (by omega)
  have I:∀g,Below w1.heap.size w1 g->g.rangeAt b (off+k*26) (cc 26 (gf LS k)).toList:=fun g h=>cs_rng (fun i hi j ak=>(h.cell (p:=⟨b,off+i*26+j,none⟩) ac).trans (M i hi j ak)) af;have Q:=I wr f;have L:=ae I;clear M f I
  go_wp2_with (refine ldm80 rfl _ rfl b (off+k*26) rfl (gf LS k) Q ?_)
  refine(l5 (gf LS k) v _).mono ?_;rintro e am ⟨rfl,K⟩;obtain⟨C,F⟩:∃C,lc v (gf LS k)=C:=⟨_,rfl⟩;rw[F];have m:=(aa J).trans (K.mono (aa J).size);have u:=(m.cell (p:=⟨a,2,none⟩) D).trans (show w1.cell? ⟨a,2,none⟩=_ from((aa J).cell (p:=⟨a,2,none⟩) D).symm.trans W);have r:=ag O K;have c:=ae m;have P:a<am.heap.size:=zC D m.size;clear K O W Q
  by_cases H:s<C
  ·have n:=fun g=>Touches_any (gf LS k) l z x y g
   cases G:cJ (gf LS k) l z x y with
   | false=>
    rw[G] at n;clear m
    go_wp2
    refine aM (by kernel_rfl) (by kernel_rfl) ?_
    refine bD (.int .i64 C) ?_;refine bD (.int .i64 s) ?_
    refine bH (.bool true) ?_ (h:=fun _ _=>by simp[go_sem,H])
    refine bD (.bool true) ?_
    refine eI a 0 ?_ (hw:=by kernel_rfl)
    refine bd a 0 ?_ (hw:=by kernel_rfl)
    refine bd a 2 ?_ (hw:=by kernel_rfl)
    refine bH (.slice (some ⟨b,off,none⟩) LS.length cap) ?_ (h:=fun w' h=>by simp[go_sem,(h.cell (p:=⟨a,2,none⟩) P).trans u]) (hw:=by kernel_rfl)
    refine bD (.int .i64 k) ?_ (hw:=by kernel_rfl)
    refine bd b (off+k*26) ?_ (h:=fun _ _=>by simp[go_sem,B]) (hw:=by kernel_rfl)
    refine bd b (off+k*26) ?_ (hw:=by kernel_rfl)
    refine aR (by kernel_rfl) 66 _ rfl b (off+k*26) rfl (fc (gf LS k)) _ underlying66 rfl (gK _) (fun w' h=>life_F (aa L w' ((aa c).trans (h.mono (aa c).size)))) ?_
    simp only[qZ]
    refine aR (by kernel_rfl) 39 _ rfl w.heap.size 0 rfl #[l,z,x,y] _ underlying39 rfl (sz28 l z x y) (fun w' h=>dz r h) ?_
    simp only[qZ]
    refine br (by kernel_rfl) 77 #[.agg (fc (gf LS k)),.agg #[l,z,x,y]] (fun _=>by simp[go_sem]) _ n ?_
    simp only[qZ];refine bH (.bool false) ?_;refine zq ?_;intro Y d;have q:=ae ((aa c).trans (d.mono (aa c).size));clear d n u r
    have o:Hid (s=eW v l z x y LS (k+1)):=by show s=_; rw[gL (by rw[G,xJ])]; exact aa t
    go_wp2
    go_roundw
    ·exact⟨k+1,s,by omega,by go_num,rfl,o,aa q⟩
    simp[intOf]; omega
   | true=>
    rw[G] at n;clear m
    go_wp2
    refine aM (by kernel_rfl) (by kernel_rfl) ?_
    refine bD (.int .i64 C) ?_;refine bD (.int .i64 s) ?_
    refine bH (.bool true) ?_ (h:=fun _ _=>by simp[go_sem,H])
    refine bD (.bool true) ?_
    refine eI a 0 ?_ (hw:=by kernel_rfl)
    refine bd a 0 ?_ (hw:=by kernel_rfl)
    refine bd a 2 ?_ (hw:=by kernel_rfl)
    refine bH (.slice (some ⟨b,off,none⟩) LS.length cap) ?_ (h:=fun w' h=>by simp[go_sem,(h.cell (p:=⟨a,2,none⟩) P).trans u]) (hw:=by kernel_rfl)
    refine bD (.int .i64 k) ?_ (hw:=by kernel_rfl)
    refine bd b (off+k*26) ?_ (h:=fun _ _=>by simp[go_sem,B]) (hw:=by kernel_rfl)
    refine bd b (off+k*26) ?_ (hw:=by kernel_rfl)
    refine aR (by kernel_rfl) 66 _ rfl b (off+k*26) rfl (fc (gf LS k)) _ underlying66 rfl (gK _) (fun w' h=>life_F (aa L w' ((aa c).trans (h.mono (aa c).size)))) ?_
    simp only[qZ]
    refine aR (by kernel_rfl) 39 _ rfl w.heap.size 0 rfl #[l,z,x,y] _ underlying39 rfl (sz28 l z x y) (fun w' h=>dz r h) ?_
    simp only[qZ]
    refine br (by kernel_rfl) 77 #[.agg (fc (gf LS k)),.agg #[l,z,x,y]] (fun _=>by simp[go_sem]) _ n ?_
    simp only[qZ];refine bH (.bool true) ?_;refine zq ?_;intro Y d;have q:=ae ((aa c).trans (d.mono (aa c).size));clear d n u r
    have o:Hid (C=eW v l z x y LS (k+1)):=by show C=_; rw[jI (by rw[G,Bool.and_true,<-aa t,F]; exact zU H),F]
    go_wp2
    go_roundw
    ·exact⟨k+1,C,by omega,by go_num,rfl,o,aa q⟩
    simp[intOf]; omega
  clear m
  go_wp2
  refine aM (by kernel_rfl) (by kernel_rfl) ?_
  refine bD (.int .i64 C) ?_;refine bD (.int .i64 s) ?_
  refine bH (.bool false) ?_ (h:=fun _ _=>by simp[go_sem]; omega)
  refine bD (.bool false) ?_
  go_big_quiet_skip
  go_big_quiet_skip
  go_big_quiet_skip
  go_big_quiet_skip
  go_big_quiet_skip
  go_big_quiet_skip
  go_big_quiet_skip
  go_big_quiet_skip
  go_big_quiet_skip
  go_big_quiet_skip
  refine bH (.bool false) ?_;refine zq ?_;intro Y d;have q:=ae ((aa c).trans (d.mono (aa c).size));clear d u r
  have o:Hid (s=eW v l z x y LS (k+1)):=by show s=_; rw[gL (by rw[<-aa t,F,zG (by omega),Bool.false_and])]; exact aa t
  go_wp2
  go_roundw
  ·exact⟨k+1,s,by omega,by go_num,rfl,o,aa q⟩
  simp[intOf]; omega
 have B:k=LS.length:=by omega
 subst B;have ai:=ae ((aa R).trans (f.mono (aa R).size));clear f
 go_wp2
 go_ret2
 exact⟨by rw[aa t]; rfl,aa ai⟩
def SF (a b:Nat->Int):Prop:=∀k,k<24->a k=b k
theorem SF.symm {a b:Nat->Int}(h:SF a b):SF b a:=fun k c=>(h k c).symm
theorem SF.trans {a b c:Nat->Int}(h:SF a b)(e:SF b c):SF a c:=fun k d=>(h k d).trans (e k d)
theorem oA (g:Nat->Int)(x:Int):SF (upd g 25 x) g:=fun k a=>by simp only[upd]; rw[zK (by omega)]
theorem gd (f:Nat->Int)(ver:Int):SF (aO f ver) f:=fun k a=>by simp only[aO]; rw[zJ a]
theorem ny {f g:Nat->Int}(h:SF f g):right f=right g:=by
 have b:∀i,i<8->pt f i=pt g i:=fun i hi=>by simp only[pt,h (8+i) (by omega),h (16+i) (by omega),h 7 (by omega)]
 have c:nC f 8=nC g 8:=by
  rw[yq];simp only[nC,zi,yL]
  exact⟨fun a i hi=>by rw[<-b i hi]; exact a i hi,fun a i hi=>by rw[b i hi]; exact a i hi⟩
 simp only[right,bO,form,c,h 0 (by omega),h 1 (by omega),h 2 (by omega),h 3 (by omega),h 4 (by omega),h 5 (by omega),h 6 (by omega),h 7 (by omega)]
theorem axT_ext {a b:Nat->Int}{n:Nat}{d lo hi:Int}(h:∀i,i<n->a i=b i):nh a n d lo hi=nh b n d lo hi:=by
 have e:apB a d lo n=apB b d lo n:=by
  rw[yq];simp only[apB,zi,yL]
  exact⟨fun c i hi=>by rw[<-h i hi]; exact c i hi,fun c i hi=>by rw[h i hi]; exact c i hi⟩
 have f:apA a d hi n=apA b d hi n:=by
  rw[yq];simp only[apA,zi,yL]
  exact⟨fun c i hi=>by rw[<-h i hi]; exact c i hi,fun c i hi=>by rw[h i hi]; exact c i hi⟩
 rw[nh,nh,e,f]
theorem fg {f g:Nat->Int}(h:SF f g)(l z x y:Int):cJ f l z x y=cJ g l z x y:=by
 unfold cJ;rw[ny h]
 cases c:right g with
 | false=>rfl
 | true=>
  have e:=n_in (ci c)
  have d:iw f l z=iw g l z:=by simp only[iw,h 1 (by omega),h 5 (by omega)]
  rw[d,h 7 (by omega),h 6 (by omega),axT_ext (a:=fun i=>f (8+i)) (b:=fun i=>g (8+i)) (fun i hi=>h (8+i) (by omega)),axT_ext (a:=fun i=>f (16+i)) (b:=fun i=>g (16+i)) (fun i hi=>h (16+i) (by omega))]
theorem jq {A B:List (Nat->Int)}:∀k,(∀i,i<k->(gf A i 25=0↔gf B i 25=0))->dY A k=dY B k
 | 0,_=>rfl
 | k+1,h=>by
  rw[dY,dY,jq k fun i hi=>h i (by omega)]
  by_cases c:gf A k 25=0
  ·rw[zJ c,zJ ((h k (by omega)).1 c)]
  rw[zK c,zK (fun a=>c ((h k (by omega)).2 a))]
theorem nS {A B:List (Nat->Int)}(j:Nat)(d:gf A j 25=0)(b:gf B j 25≠0):∀k,j<k->(∀i,i<k->i≠j->(gf A i 25=0↔gf B i 25=0))->dY A k=dY B k+1
 | 0,h,_=>by omega
 | k+1,h,hi=>by
  by_cases e:j=k
  ·subst e
   rw[dY,dY,zJ d,zK b,jq j fun i a=>hi i (by omega) (by omega)]
  rw[dY,dY,nS j d b k (by omega) fun i a=>hi i (by omega)]
  by_cases c:gf A k 25=0
  ·rw[zJ c,zJ ((hi k (by omega) (fun q=>e q.symm)).1 c)]
  rw[zK c,zK (fun a=>c ((hi k (by omega) (fun q=>e q.symm)).2 a))]
theorem cnt_end {LS:List (Nat->Int)}{i:Nat}(hi:i<LS.length)(h:gf LS i 25=0){ver:Int}(c:ver≠0):dY LS LS.length=dY (dg LS i 25 ver) (dg LS i 25 ver).length+1:=by
 rw[bp];refine nS i h ?_ _ hi fun k b a=>?_
 ·rw[cz _ _ _ _ _ hi,zJ rfl]; simpa[upd] using c
 rw[cz _ _ _ _ _ b,zK a]
theorem cnt_new (LS:List (Nat->Int))(f:Nat->Int)(ver:Int):dY (LS++[aO f ver]) (LS++[aO f ver]).length=dY LS LS.length+1:=by
 rw[zH,zT,dY,cD,zJ (by simp[aO])]
 have:=jq (A:=LS++[aO f ver]) (B:=LS) LS.length fun i hi=>by rw[di hi]
 omega
structure mC (LS FL:List (Nat->Int)):Prop where
 cnt:dY LS LS.length=FL.length
 fwd:∀i,i<LS.length->gf LS i 25=0->∃j,j<FL.length/\SF (gf LS i) (gf FL j)
 fro:∀j,j<FL.length->∃i,i<LS.length/\gf LS i 25=0/\SF (gf LS i) (gf FL j)
 rt:∀j,j<FL.length->Rt (gf FL j)
 dis:∀j j',j<FL.length->j'<FL.length->gf FL j 0=gf FL j' 0->j=j'
 one:∀i i',i<LS.length->i'<LS.length->gf LS i 25=0->gf LS i' 25=0->gf LS i 0=gf LS i' 0->i=i'
theorem oG:mC [] []:=⟨rfl,fun i hi=>by simp at hi,fun i hi=>by simp at hi,fun i hi=>by simp at hi,fun i j hi=>by simp at hi,fun i j hi=>by simp at hi⟩
theorem mC.fst {LS FL:List (Nat->Int)}(h:mC LS FL){c:Int}{i:Nat}(a:Fst LS c i):∃j,j<FL.length/\gf FL j 0=c/\SF (gf LS i) (gf FL j):=by
 obtain⟨j,d,b⟩:=h.fwd i a.1 a.2.1.1
 exact⟨j,d,(b 0 (by omega)).symm.trans a.2.1.2,b⟩
theorem mC.non {LS FL:List (Nat->Int)}(h:mC LS FL){a:Int}(c:Non LS a):No FL a:=fun j d e=>by
 obtain⟨i,hi,b,f⟩:=h.fro j d
 exact c i hi ⟨b,(f 0 (by omega)).trans e⟩
structure Gone (FL:List (Nat->Int))(id:Int)(FL':List (Nat->Int)):Prop where
 len:FL.length=FL'.length+1
 sub:∀j,j<FL'.length->∃a,a<FL.length/\gf FL a=gf FL' j/\gf FL a 0≠id
 sup:∀a,a<FL.length->gf FL a 0≠id->∃j,j<FL'.length/\gf FL' j=gf FL a
 dis:∀j j',j<FL'.length->j'<FL'.length->gf FL' j 0=gf FL' j' 0->j=j'
theorem mC.gone {LS FL s:List (Nat->Int)}(h:mC LS FL){v:Int}{i:Nat}(d:Fst LS v i){ver:Int}(u:ver≠0)(g:Gone FL v s):mC (dg LS i 25 ver) s:=by
 have D:=cnt_end d.1 d.2.1.1 u
 have r:∀k,k<LS.length->gf (dg LS i 25 ver) k 25=0->k≠i/\gf (dg LS i 25 ver) k=gf LS k/\gf LS k 25=0:=by
  intro k b c;rw[cz _ _ _ _ _ b] at c
  by_cases e:k=i
  ·rw[zJ e] at c; simp[upd] at c; exact absurd c u
  rw[zK e] at c
  exact⟨e,by rw[cz _ _ _ _ _ b,zK e],c⟩
 refine⟨?_,?_,?_,?_,g.dis,?_⟩
 ·have:=h.cnt; have:=g.len; omega
 ·intro k b c
  rw[bp] at b;obtain⟨C,p,n⟩:=r k b c;obtain⟨a,f,m⟩:=h.fwd k b n
  obtain⟨j,l,e⟩:=g.sup a f (fun e=>C (h.one k i b d.1 n d.2.1.1 (((m 0 (by omega)).trans e).trans d.2.1.2.symm)))
  exact⟨j,l,by rw[p,e]; exact m⟩
 ·intro j l
  obtain⟨a,f,e,B⟩:=g.sub j l;obtain⟨k,b,A,m⟩:=h.fro a f
  have t:k≠i:=fun q=>B (by rw[<-d.2.1.2,<-q]; exact(m 0 (by omega)).symm)
  refine⟨k,by rw[bp]; exact b,?_,?_⟩
  ·rw[cz _ _ _ _ _ b,zK t]; exact A
  rw[cz _ _ _ _ _ b,zK t,<-e]; exact m
 ·intro j l
  obtain⟨a,f,e,_⟩:=g.sub j l
  rw[<-e]; exact h.rt a f
 intro k w b o c z e;rw[bp] at b o;obtain⟨_,p,n⟩:=r k b c;obtain⟨_,x,y⟩:=r w o z;rw[p,x] at e;exact h.one k w b o n y e
theorem mC.join {LS FL:List (Nat->Int)}(h:mC LS FL){f:Nat->Int}(u:Rt f)(n:No FL (f 0)){ver:Int}:mC (LS++[aO f ver]) (FL++[f]):=by
 have o:∀i,i<(LS++[aO f ver]).length->(i<LS.length/\gf (LS++[aO f ver]) i=gf LS i)\/(i=LS.length/\gf (LS++[aO f ver]) i=aO f ver):=by
  intro i hi
  by_cases c:i<LS.length
  ·exact Or.inl ⟨c,di c⟩
  have:i=LS.length:=by simp at hi; omega
  subst this; exact Or.inr ⟨rfl,cD _ _⟩
 have hy:∀i,i<(FL++[f]).length->(i<FL.length/\gf (FL++[f]) i=gf FL i)\/(i=FL.length/\gf (FL++[f]) i=f):=by
  intro i hi
  by_cases c:i<FL.length
  ·exact Or.inl ⟨c,di c⟩
  have:i=FL.length:=by simp at hi; omega
  subst this; exact Or.inr ⟨rfl,cD _ _⟩
 have q:∀i,i<LS.length->gf LS i 25=0->gf LS i 0≠f 0:=fun i hi b e=>by
  obtain⟨j,a,l⟩:=h.fwd i hi b
  exact n j a ((l 0 (by omega)).symm.trans e)
 refine⟨?_,?_,?_,?_,?_,?_⟩
 ·rw[cnt_new,h.cnt]; simp
 ·intro i hi b
  rcases o i hi with⟨c,e⟩|⟨c,e⟩
  ·rw[e] at b
   obtain⟨j,a,l⟩:=h.fwd i c b
   exact⟨j,by simp; omega,by rw[e,di a]; exact l⟩
  exact⟨FL.length,by simp,by rw[e,cD]; exact gd f ver⟩
 ·intro j a
  rcases hy j a with⟨c,e⟩|⟨c,e⟩
  ·obtain⟨i,hi,r,l⟩:=h.fro j c
   exact⟨i,by simp; omega,by rw[di hi]; exact r,by rw[di hi,e]; exact l⟩
  exact⟨LS.length,by simp,by rw[cD]; simp[aO],by rw[cD,e]; exact gd f ver⟩
 ·intro j a
  rcases hy j a with⟨c,e⟩|⟨c,e⟩
  ·rw[e]; exact h.rt j c
  rw[e]; exact u
 ·intro j j' a t e
  rcases hy j a with⟨c,k⟩|⟨c,k⟩<;>rcases hy j' t with⟨d,g⟩|⟨d,g⟩<;>rw[k,g] at e
  ·exact h.dis j j' c d e
  ·exact absurd e (n j c)
  ·exact absurd e.symm (n j' d)
  omega
 intro i p hi s b m e
 rcases o i hi with⟨c,k⟩|⟨c,k⟩<;>rcases o p s with⟨d,g⟩|⟨d,g⟩<;>rw[k,g] at e<;>(rw[k] at b)<;>(rw[g] at m)
 ·exact h.one i p c d b m e
 ·exact absurd (e.trans (gd f ver 0 (by omega))) (q i c b)
 ·exact absurd (e.symm.trans (gd f ver 0 (by omega))) (q p d m)
 omega
section
variable {v l z x y:Int}{LS:List (Nat->Int)}
theorem stp_nn (v l z x y:Int)(LS:List (Nat->Int)):∀k,0<=eW v l z x y LS k
 | 0=>yw _
 | k+1=>by
  have a:=stp_nn v l z x y LS k
  cases h:(decide (eW v l z x y LS k<lc v (gf LS k)) && cJ (gf LS k) l z x y) with
  | false=>rw[gL h]; exact a
  | true=>rw[jI h]; rw[zl,zN] at h; omega
theorem ox {M:Int}(a:0<=M):∀k,(∀i,i<k->lc v (gf LS i)<=M)->eW v l z x y LS k<=M
 | 0,_=>a
 | k+1,b=>by
  have c:=ox a k fun i hi=>b i (by omega)
  have:=b k (by omega)
  cases h:(decide (eW v l z x y LS k<lc v (gf LS k)) && cJ (gf LS k) l z x y) with
  | false=>rw[gL h]; exact c
  | true=>rw[jI h]; exact this
theorem oy:∀k i,i<k->cJ (gf LS i) l z x y=true->lc v (gf LS i)<=eW v l z x y LS k
 | 0,i,h,_=>by omega
 | k+1,i,hi,a=>by
  cases h:(decide (eW v l z x y LS k<lc v (gf LS k)) && cJ (gf LS k) l z x y) with
  | false=>
   rw[gL h]
   by_cases e:i=k
   ·subst e
    rw[a,Bool.and_true,decide_eq_false_iff_not] at h;omega
   exact oy k i (by omega) a
  | true=>
   rw[jI h]
   by_cases e:i=k
   ·subst e; exact yw _
   have:=oy k i (by omega) a
   rw[zl,zN] at h;omega
theorem fi {b:Int}{a:List (Nat->Int)}:∀k,(∀i,i<k->cJ (gf a i) l z x y=cJ (gf LS i) l z x y/\(cJ (gf LS i) l z x y=true->lc b (gf a i)=lc v (gf LS i)))->eW b l z x y a k=eW v l z x y LS k
 | 0,_=>rfl
 | k+1,h=>by
  have f:=fi k fun i hi=>h i (by omega)
  obtain⟨c,d⟩:=h k (by omega)
  rw[eW,eW,f,c]
  cases e:cJ (gf LS k) l z x y with
  | false=>rw[xJ,xJ]; rfl
  | true=>rw[d e]
end
def Bnd (LS:List (Nat->Int))(n:Int):Prop:=∀i,i<LS.length->gf LS i 24<=n/\gf LS i 25<=n
theorem lc_le {v:Int}{g:Nat->Int}(h:0<=v):lc v g<=v:=by unfold lc; split<;>(try split)<;>omega
theorem lc_up {n:Int}{g:Nat->Int}(h:g 24<=n/\g 25<=n):lc (n+1) g=lc n g:=by
 unfold lc
 by_cases c:g 25=0
 ·rw[zK (c:=g 25≠0/\g 25<=n+1) (fun a=>a.1 c),zK (c:=g 25≠0/\g 25<=n) (fun a=>a.1 c),zJ (c:=g 24<=n+1) (by omega),zJ (c:=g 24<=n) (by omega)]
 rw[zJ ⟨c,by omega⟩,zJ ⟨c,by omega⟩]
theorem lc_life_old {v n:Int}{f:Nat->Int}(h:v<=n):lc v (aO f (n+1))=0:=by
 unfold lc aO
 simp only[show ¬(25:Nat)<24 by omega,show ¬(24:Nat)<24 by omega,if_false,if_true,show ¬(25:Nat)=24 by omega]
 rw[zK (by omega),zK (by omega)]
theorem gX {n:Int}{f:Nat->Int}:lc (n+1) (aO f (n+1))=n+1:=by
 unfold lc aO
 simp only[show ¬(25:Nat)<24 by omega,show ¬(24:Nat)<24 by omega,if_false,if_true,show ¬(25:Nat)=24 by omega]
 rw[zK (by omega),zJ (by omega)]
theorem lc_end_old {v n:Int}{g:Nat->Int}(h:v<=n)(a:g 25=0):lc v (upd g 25 (n+1))=lc v g:=by
 unfold lc upd
 simp only[if_true,show ¬(24:Nat)=25 by omega,if_false]
 rw[zK (by omega),zK (c:=g 25≠0/\g 25<=v) (by omega)]
theorem lc_end_new {n:Int}{g:Nat->Int}(a:0<=n):lc (n+1) (upd g 25 (n+1))=n+1:=by
 unfold lc upd;simp only[if_true]
 rw[zJ (by omega)]
section
variable {n l z x y:Int}{LS:List (Nat->Int)}
theorem kD {v:Int}{i:Nat}(hi:i<LS.length)(a:gf LS i 25=0)(c:v<=n):eW v l z x y (dg LS i 25 (n+1)) (dg LS i 25 (n+1)).length=eW v l z x y LS LS.length:=by
 rw[bp];refine fi _ fun k b=>?_;rw[cz _ _ _ _ _ b]
 by_cases e:k=i
 ·subst e; rw[zJ rfl]; exact⟨fg (oA _ _) _ _ _ _,fun _=>lc_end_old c a⟩
 rw[zK e]; exact⟨rfl,fun _=>rfl⟩
theorem kE {i:Nat}(hi:i<LS.length)(g:0<=n):eW (n+1) l z x y (dg LS i 25 (n+1)) (dg LS i 25 (n+1)).length=bif cJ (gf LS i) l z x y then n+1 else eW (n+1) l z x y LS LS.length:=by
 cases c:cJ (gf LS i) l z x y with
 | true=>
  have b:gf (dg LS i 25 (n+1)) i=upd (gf LS i) 25 (n+1):=by rw[cz _ _ _ _ _ hi,zJ rfl]
  have a:=oy (v:=n+1) (LS:=dg LS i 25 (n+1)) (l:=l) (z:=z) (x:=x) (y:=y) (dg LS i 25 (n+1)).length i (by rw[bp]; exact hi) (by rw[b,fg (oA _ _)]; exact c)
  rw[b,lc_end_new g] at a
  have d:=ox (v:=n+1) (LS:=dg LS i 25 (n+1)) (l:=l) (z:=z) (x:=x) (y:=y) (M:=n+1) (by omega) (dg LS i 25 (n+1)).length fun k _=>lc_le (by omega)
  exact Int.le_antisymm d a
 | false=>
  rw[bp];refine fi _ fun k f=>?_;rw[cz _ _ _ _ _ f]
  by_cases e:k=i
  ·subst e; rw[zJ rfl]; exact⟨fg (oA _ _) _ _ _ _,fun q=>by rw[c] at q; cases q⟩
  rw[zK e]; exact⟨rfl,fun _=>rfl⟩
theorem iu {v:Int}(f:Nat->Int)(ver:Int):eW v l z x y (LS++[aO f ver]) LS.length=eW v l z x y LS LS.length:=
 fi _ fun k a=>by rw[di a]; exact⟨rfl,fun _=>rfl⟩
theorem jJ {v:Int}(f:Nat->Int)(a:v<=n):eW v l z x y (LS++[aO f (n+1)]) (LS++[aO f (n+1)]).length=eW v l z x y LS LS.length:=by
 have:=stp_nn v l z x y LS LS.length;rw[zH,zT,gL,iu]
 rw[iu,cD,lc_life_old a,zG (by omega),Bool.false_and]
theorem jK (f : Nat → Int) (d : 0 ≤ n) : eW (n + 1) l z x y (LS ++ [aO f (n + 1)]) (LS ++ [aO f (n + 1)]).length = bif cJ f l z x y then n + 1 else eW (n + 1) l z x y LS LS.length := by
  have b := ox (v := n + 1) (LS := LS) (l := l) (z := z) (x := x) (y := y) (M := n + 1) (by omega) LS.length fun k _ => lc_le (by omega)
  rw [zH, zT]
  cases a : cJ f l z x y with
  | false => rw [gL, iu]; · rfl
             rw [cD, fg (gd f (n + 1)), a, xJ]
  | true =>
    by_cases c : eW (n + 1) l z x y LS LS.length < n + 1
    · rw [jI, cD, gX]; · rfl
      rw [iu, cD, fg (gd f (n + 1)), a, Bool.and_true, gX]
      exact zU c
    · rw [gL, iu]
      · show _ = n + 1; omega
      · rw [iu, cD, fg (gd f (n + 1)), a, Bool.and_true, gX]
        exact zG c
theorem stp_up (a:Bnd LS n):eW (n+1) l z x y LS LS.length=eW n l z x y LS LS.length:=
 fi _ fun k b=>⟨rfl,fun _=>lc_up (a k b)⟩
end
theorem bnd_join {LS:List (Nat->Int)}{n a:Int}(b:Bnd LS n)(hm:0<=a)(e:n<=a)(f:Nat->Int):Bnd (LS++[aO f a]) a:=by
 intro k d
 by_cases c:k<LS.length
 ·have:=b k c; rw[di c]; omega
 have:k=LS.length:=by simp at d; omega
 subst this; rw[cD]; simp[aO]; exact hm
theorem eB {c:Array Oper}{w:World}{g:Act->Prop}{a:Act}{o:Oper}{rest:List Oper}(hw:Region.wanted o (yielded c a.tmps)=true)(f:FuncId)(args:Array Value)(i:∀w',(execOp a.eval o).run prog w'=.ok (.enter f args) w')(v:Value)
  (k:∀w',Below w.heap.size w w'->Calls prog f args w' fun e d=>e=.returned v/\Below w'.heap.size w' d) (l:wpQuiet prog c (Cq w) g rest (a.put o.dst v)) :
  wpQuiet prog c (Cq w) g (o::rest) a:=
 BigFrame.wpQuiet_want hw fun _ j=>⟨v,fun w' b=>by
  unfold Oper.quietAt; rw[i w']
  exact⟨rfl,(k w' b).mono fun e d h=>⟨h.1,Below.trans b (h.2.mono b.size)⟩⟩,j _ l⟩
theorem Tryz.info3:(prog.info? 3).map (fun i=>(i.zero,i.size,i.bytes))=some (some (.int .i64 0),1,8):=by kernel_rfl
theorem pJ {f:Array Oper}{rest:List Oper}{o:Oper}{a:Act}{k:Exit->Act->World->Prop}(n:o.guard=none)(s x:Operand)
  (y:o.op=.call { callee:=.builtin .append,args:=#[s,x],argTypes:=#[60,60] })
  (c:World) (B:Nat) (v:Value) (l:List (Nat->Int)) (b:Int) (z:a.eval s=v) (m:bf 3 1 c B v l) (A:a.eval x=.slice (some ⟨c.heap.size,0,none⟩) 1 1)
  (D:l.length<=1000) (E:B<=c.heap.size)
  (h:∀d w',bf 3 1 w' B d (l++[fun _=>b])->(c.alloc (.cells #[b] 3)).grownBy w' v.ownBlock->(d.ownBlock=v.ownBlock\/∀g,d.ownBlock=some g->c.heap.size<g)->wpList prog f k rest (a.put o.dst d) w') :
  wpList prog f k (o::rest) a (c.alloc (.cells #[b] 3)):=by
 obtain⟨C,hi,p,q,r⟩:=info_parts Tryz.info3
 refine ap_own _ n s x 60 y B 3 C (.int .i64 0) 1 8 underlying60 hi p q r rfl (by decide) v l.length (fl 1 l) z (World.ownsRow.alloc m _) ⟨c.heap.size,0,none⟩ 1 [.int .i64 b] A rfl ?_ ?_ ?_ ?_ ?_ ?_
 ·intro j u w
  rw[Addr.add_mid,zb,af (zZ c (.cells #[b] 3))];simpa using w
 ·intro u i; simp at i; subst i; rfl
 ·omega
 ·omega
 ·simp; omega
 intro d w' r1 r2 e;refine h d w' ?_ r2 ?_
 ·unfold bf
  rw[fl_snoc];simpa[cc] using r1
 rcases e with e|e
 ·exact Or.inl e
 right
 intro g t;have:=e g t;simp at this;omega
theorem pL {fs:Nat->Nat->Int}{n:Nat}(h:∀i,i<n->Rt (fs i)):iE fs n=true:=by
 simp only[iE,zi,yL];exact fun i hi=>lH (h i hi)
theorem pOk {fs:Nat->Nat->Int}{n:Nat}{l z x y:Int}(a:keyErr l z x y=0)(c:n<=40)(b:∀i,i<n->Rt (fs i)):jm fs n l z x y=0/\jj fs n l z x y=kP fs n l z x y 64:=by
 unfold jm jj
 rw[zJ a,zJ a,zK (by omega),zK (by omega),pL b]
 exact⟨rfl,rfl⟩
def tile (FL:List (Nat->Int))(l z x y:Int):ByteArray:=⟨(kP (gf FL) FL.length l z x y 64).toArray⟩
theorem paint_tile {FL:List (Nat->Int)}{l z x y:Int}(d:keyErr l z x y=0)(f:FL.length<=40)(g:∀i,i<FL.length->Rt (gf FL i))(v:Value)(c:World)(h:kU c v FL.length (gf FL)):
  Calls prog 107 #[v,.agg #[l,z,x,y]] c fun e w'=>e=.returned (.tuple #[.string (tile FL l z x y),()])/\Below c.heap.size c w':=by
 have q:=Paint_any v FL.length (gf FL) l z x y c h;obtain⟨a,b⟩:=pOk d f g;rw[a,b] at q;exact q
def mH (v:Int)(g:Nat->Int):Bool:=decide (g 24<=v) && (decide (g 25=0) || decide (v<g 25))
theorem isIn_any (g:Nat->Int)(v:Int)(w:World):
  Calls prog 119 #[.agg (cc 26 g),v] w fun e w'=>e=.returned (.bool (mH v g))/\Below w.heap.size w w':=by
 have k:=dc 26 g 25 (by decide)
 have j:=dc 26 g 24 (by decide)
 have b:=ae (aj w (.cells (cc 26 g) 147));obtain⟨a,i⟩:∃a,g 25=a:=⟨_,rfl⟩;obtain⟨C,h⟩:∃a,g 24=a:=⟨_,rfl⟩
 have c:Hid (mH v g=(decide (C<=v) && (decide (a=0) || decide (v<a)))):=by show mH v g=_; rw[mH,i,h]
 rw[i] at k;rw[h] at j;clear i h
 by_cases d:C<=v
 ·by_cases f:a=0
  ·subst f
   go_enter func119,ntmps119
   go_wp2
   go_ret
   exact⟨ai (by rw[aa c,zU d]; rfl),aa b⟩
  by_cases l:v<a
  ·go_enter func119,ntmps119
   go_wp2
   go_ret
   exact⟨ai (by rw[aa c,zU d,zU l,Bool.or_true]; rfl),aa b⟩
  go_enter func119,ntmps119
  go_wp2
  go_ret
  exact⟨ai (by rw[aa c,zU d,zG f,zG (by omega)]; simp[f]),aa b⟩
 go_enter func119,ntmps119
 go_wp2
 go_ret
 exact⟨ai (by rw[aa c,zG (by omega)]; rfl),aa b⟩
structure dD (w:World)(sb:Nat)(keep ver:Int)(sl pv:Value)(LS PL:List (Nat->Int)):Prop where
 blk:w.heap[sb]?=some (.cells #[keep,ver,sl,pv] 119)
 own:bf 147 26 w (sb+1) sl LS
 pins:bf 3 1 w (sb+1) pv PL
theorem dD.lt {w:World}{a:Nat}{b ver:Int}{sl pv:Value}{LS c:List (Nat->Int)}(h:dD w a b ver sl pv LS c):a<w.heap.size:=(zM.1 h.blk).1
theorem dD.on {w w':World}{d:Nat}{b ver:Int}{sl pv:Value}{LS c:List (Nat->Int)}(h:dD w d b ver sl pv LS c)(a:Below w.heap.size w w'):dD w' d b ver sl pv LS c:=⟨ag h.blk a,h.own.on a,h.pins.on a⟩
theorem dD.cells {w:World}{a:Nat}{b ver:Int}{sl pv:Value}{LS c:List (Nat->Int)}(h:dD w a b ver sl pv LS c):w.cell? ⟨a,0,none⟩=some (.int .i64 b)/\w.cell? ⟨a,1,none⟩=some (.int .i64 ver)/\w.cell? ⟨a,2,none⟩=some sl/\w.cell? ⟨a,3,none⟩=some pv:=
 ⟨(af h.blk 0).trans rfl,(af h.blk 1).trans rfl,(af h.blk 2).trans rfl,(af h.blk 3).trans rfl⟩
def pf (PL:List (Nat->Int))(v:Int):Bool:=(List.range PL.length).any fun i=>decide (gf PL i 0=v)
theorem hasP_yes {a:List (Nat->Int)}{v:Int}{i:Nat}(hi:i<a.length)(h:gf a i 0=v):pf a v=true:=by
 simp only[pf,List.any_eq_true,yL,zN]; exact⟨i,hi,h⟩
theorem hasP_no {a:List (Nat->Int)}{v:Int}(h:∀i,i<a.length->gf a i 0≠v):pf a v=false:=by
 rw[xZ]; intro b
 simp only[pf,List.any_eq_true,yL,zN] at b;obtain⟨i,hi,e⟩:=b;exact h i hi e
theorem bf.ints {w:World}{B:Nat}{v:Value}{l:List (Nat->Int)}(h:bf 3 1 w B v l)(j:l.length<=1000):∃a cap,v=.slice a l.length cap/\(0<l.length->∃b off,a=some ⟨b,off,none⟩/\b<w.heap.size/\∀i,i<l.length->w.cell? ⟨b,off+i,none⟩=some (.int .i64 (gf l i 0))):=by
 obtain⟨a,cap,e,_,c⟩:=h.at (by unfold maxLen; omega)
 refine⟨a,cap,e,fun f=>?_⟩;obtain⟨b,off,d,g,c⟩:=c f
 exact⟨b,off,d,g,fun i hi=>by have:=c i hi 0 (by omega); rwa [Nat.mul_one,yG] at this⟩
theorem hasPin_any (o:Nat)(p ver:Int)(sl pv:Value)(LS a:List (Nat->Int))(v:Int)(w:World)(g:dD w o p ver sl pv LS a)(x:a.length<=100):
  Calls prog 117 #[some o,v] w fun e w'=>e=.returned (.bool (pf a v))/\w=w':=by
 obtain⟨_,_,_,z⟩:=g.cells
 obtain⟨y,cap,rfl,n⟩:=g.pins.ints (by omega)
 have q:=ae n;clear g n;go_enter func117,ntmps117
 go_wp2_with fail
 go_loop [5] (fun i=>∃k:Nat,k<=a.length/\i=.int .i64 k/\Hid (∀i,i<k->gf a i 0≠v)) (fun i=>a.length-(intOf i).toNat)
 ·exact⟨0,by omega,rfl,ae (fun i hi=>absurd hi (by omega))⟩
 obtain⟨k,u,rfl,m⟩:=hrel
 by_cases l:k<a.length
 ·have c:(k:Int)<a.length:=by omega
  obtain⟨b,off,rfl,_,j⟩:=aa q (by omega)
  have r:=j k l;clear j;obtain⟨s,f⟩:∃t,gf a k 0=t:=⟨_,rfl⟩;rw[f] at r
  by_cases d:s=v
  ·have h:=ae (hasP_yes l (f.trans d))
   subst d
   go_wp2
   go_ret;exact⟨ai (aa h).symm,rfl⟩
  go_wp2_with fail
  go_round
  ·exact⟨k+1,by omega,by go_num,ae (fun i hi=>by
   by_cases e:i=k
   ·subst e; rw[f]; exact d
   exact aa m i (by omega))⟩
  simp[intOf]; omega
 have c:k=a.length:=by omega
 have h:=ae (hasP_no (v:=v) (by rw[<-c]; exact aa m))
 subst c
 go_wp2
 go_ret;exact⟨ai (aa h).symm,rfl⟩
def bS (keep ver:Int)(PL:List (Nat->Int))(v:Int):Bool:=decide (0<=v) && decide (v<=ver) && (decide (ver-keep<=v) || pf PL v)
theorem gm (b:Nat)(a ver:Int)(sl pv:Value)(LS c:List (Nat->Int))(v:Int)(w:World)(j:dD w b a ver sl pv LS c)(y:c.length<=100)(B:0<=a/\a<=4)(C:0<=ver/\ver<=100):
  Calls prog 71 #[some b,v] w fun e w'=>e=.returned (.bool (bS a ver c v))/\Below w.heap.size w w':=by
 obtain⟨q,r,_,_⟩:=j.cells;have m:=ae j;clear j
 by_cases z:v<0
 ·have f:Hid (bS a ver c v=false):=by show bS a ver c v=false; unfold bS; rw[zG (by omega)]; rfl
  go_enter func71,ntmps71
  go_wp2
  go_ret;exact⟨ai (aa f).symm,zV _ _⟩
 by_cases A:ver<v
 ·have f:Hid (bS a ver c v=false):=by show bS a ver c v=false; unfold bS; rw[zG (show ¬v<=ver by omega),xJ]; rfl
  go_enter func71,ntmps71
  go_wp2
  go_ret;exact⟨ai (aa f).symm,zV _ _⟩
 have u:IntKind.i64.wrap (ver-a)=ver-a:=dH _ (by omega)
 have g:=fun d h=>hasPin_any b a ver sl pv LS c v d h y
 have f:Hid (bS a ver c v=(decide (ver-a<=v) || pf c v)):=by show bS a ver c v=_; unfold bS; rw[zU (show 0<=v by omega),zU (show v<=ver by omega)]; rfl
 by_cases n:ver-a<=v
 ·have i:decide (ver-a<=v)=true:=zU n
  go_enter func71,ntmps71
  go_wp2_with fail
  go_quiet (fail)
  go_wp2
  go_ret
  refine⟨ai (by rw[aa f,i]; rfl),?_⟩
  repeat first|exact zV _ _|refine ap ?_ _|refine zE ?_
 have i:decide (ver-a<=v)=false:=zG n;obtain⟨P,o⟩:∃P,pf c v=P:=⟨_,rfl⟩;rw[o] at g
 have t:Hid (∀d,Below w.heap.size w d->Calls prog 117 #[some b,v] d fun e w'=>e=.returned (.bool P)/\Below d.heap.size d w'):=fun d x=>(g d ((aa m).on x)).mono fun e w' h=>⟨h.1,by rw[<-h.2]; exact zV _ _⟩
 have k:=(aa m).lt;clear g;go_enter func71,ntmps71
 go_wp2
 refine aM (by kernel_rfl) (by kernel_rfl) ?_
 refine bD (.int .i64 v) ?_;refine eI b 0 ?_;refine bd b 0 ?_;refine bd b 1 ?_
 refine bH (.int .i64 ver) ?_ (h:=fun w' h=>by simp[go_sem,(h.cell (p:=⟨b,1,none⟩) k).trans r])
 refine eI b 0 ?_;refine bd b 0 ?_;refine bd b 0 ?_
 refine bH (.int .i64 a) ?_ (h:=fun w' h=>by simp[go_sem,(h.cell (p:=⟨b,0,none⟩) k).trans q])
 refine bH (.int .i64 (ver-a)) ?_ (h:=fun _ _=>by simp[go_sem,u])
 refine bH (.bool false) ?_ (h:=fun _ _=>by simp[go_sem]; omega)
 refine bD (.bool false) ?_
 refine eI b 0 ?_ (hw:=by kernel_rfl)
 refine bD (.int .i64 v) ?_ (hw:=by kernel_rfl)
 refine eB (by kernel_rfl) 117 #[.pointer (some ⟨b,0,none⟩),v] (fun _=>by simp[go_sem]) _ (aa t) ?_
 simp only[qZ];refine bH (.bool P) ?_;refine vA (.bool P) ?_;refine zq ?_;intro D l;have s:=ae l;clear l q r
 go_wp2
 go_ret
 exact⟨ai (by rw[aa f,i,o]; rfl),aa s⟩
theorem dQ (a:Nat)(b ver:Int)(sl pv:Value)(LS c:List (Nat->Int))(w:World)(d:dD w a b ver sl pv LS c):
  Calls prog 55 #[some a] w fun e w'=>e=.returned (.int .i64 ver)/\w=w':=by
 obtain⟨_,f,_,_⟩:=d.cells;go_enter func55,ntmps55
 go_wp2
 go_ret;exact⟨rfl,rfl⟩
def Cand (LS:List (Nat->Int))(v a:Int)(i:Nat):Prop:=mH v (gf LS i)=true/\a<gf LS i 0
def Nx (LS:List (Nat->Int))(v a:Int)(k:Nat)(fnd:Bool)(T:Nat->Int):Prop:=
 (fnd=false/\∀i,i<k->¬Cand LS v a i)\/(fnd=true/\∃i,i<k/\Cand LS v a i/\T=gf LS i/\∀j,j<k->Cand LS v a j->gf LS i 0<=gf LS j 0)
theorem Nx.skip {LS:List (Nat->Int)}{v a:Int}{k:Nat}{b:Bool}{T:Nat->Int}(h:Nx LS v a k b T)(d:¬Cand LS v a k):Nx LS v a (k+1) b T:=by
 rcases h with⟨e,h⟩|⟨e,i,hi,f,g,l⟩
 ·refine Or.inl ⟨e,fun i hi=>?_⟩
  by_cases q:i=k
  ·subst q; exact d
  exact h i (by omega)
 refine Or.inr ⟨e,i,by omega,f,g,fun j m c=>?_⟩
 by_cases q:j=k
 ·subst q; exact absurd c d
 exact l j (by omega) c
theorem Nx.leave {LS:List (Nat->Int)}{v a:Int}{k:Nat}{T:Nat->Int}(h:Nx LS v a k true T)(d:¬gf LS k 0<T 0):Nx LS v a (k+1) true T:=by
 rcases h with⟨e,_⟩|⟨e,i,hi,f,b,g⟩
 ·cases e
 refine Or.inr ⟨e,i,by omega,f,b,fun j l c=>?_⟩
 by_cases q:j=k
 ·subst q; rw[b] at d; omega
 exact g j (by omega) c
theorem Nx.take {LS:List (Nat->Int)}{v a:Int}{k:Nat}{b:Bool}{T:Nat->Int}(h:Nx LS v a k b T)(l:Cand LS v a k)(d:b=true->gf LS k 0<T 0):Nx LS v a (k+1) true (gf LS k):=by
 refine Or.inr ⟨rfl,k,by omega,l,rfl,fun j n c=>?_⟩
 by_cases q:j=k
 ·subst q; exact yw _
 rcases h with⟨_,h⟩|⟨e,i,hi,m,f,g⟩
 ·exact absurd c (h j (by omega))
 have:=g j (by omega) c
 have:=d e;rw[f] at this;omega
theorem oE {P:Program}{d:Func}{p q:Tmp}{a:TypeId}(h:d.results=#[.cell p a,.tmp q])(tmps:Array Value)(w:World)(g:Nat)(t:TypeId)(cs:Array Value)(e:Nat × Nat)(c:TypeDesc)(b:Value)
  (l:tmps.getD p undef=.pointer (some ⟨g,0,none⟩)) (m:tmps.getD q undef=b) (k:w.heap[g]?=some (.cells cs t e))
  (n:P.underlying a=some c) (j:(match c with|.struct _|.array _ _=>true|_=>false)=true) (hi:(P.info? a).map (·.size)=some cs.size) :
  (results d tmps).run P w=.ok (.tuple #[.agg cs,b]) w:=by
 have f:tmps[p]?.getD undef=.pointer (some ⟨g,0,none⟩):=by simpa using l
 have i:tmps[q]?.getD undef=b:=by simpa using m
 simp[results,h,f,i,asAddr,run_loadVar_row w g t a cs e c k n j hi]
theorem next_any (q:Nat)(ao ver:Int)(sl pv:Value)(LS aC:List (Nat->Int))(v a:Int)(w:World)(x:dD w q ao ver sl pv LS aC)(aU:LS.length<=1000):
  Calls prog 73 #[some q,.int .i64 v,.int .i64 a] w fun e w'=>(∃c T,e=.returned (.tuple #[.agg (fc T),.bool c])/\Nx LS v a LS.length c T)/\Below w.heap.size w w':=by
 obtain⟨I,J,K⟩:=ft w (.cells (fc zf) 66) (.cells (fc zf) 66);have E:=x.lt;obtain⟨_,_,ak,_⟩:=x.cells
 obtain⟨aV,cap,rfl,_,l⟩:=x.own.at (by unfold maxLen; omega)
 have aB:=ae l
 have az:(w.alloc (.cells (fc zf) 66)).heap.size=w.heap.size+1:=by simp
 have aM:=ae I;have aO:=ae K;have X:=yX _ _ _ (fc zf) _ _ J;have ar:=ae X
 have al:=ae ((setRow_other (show w.heap.size+1≠w.heap.size by omega) (fc zf)).trans I)
 have am:=ae (aK K (show w.heap.size<=w.heap.size+1 by omega) (fc zf))
 clear x l I K X;go_enter func73,ntmps73
 go_wp2_with (first|refine al26 rfl rfl w.heap.size rfl ?_|refine al26 rfl rfl (w.heap.size+1) az ?_|refine bld26 rfl rfl ?_|refine mP rfl _ _ rfl (w.heap.size+1) zf rfl rfl zf J ?_)
 go_loopw [9,10,11] (fun aH i _ wr=>∃(k:Nat) (c:Bool) (T:Nat->Int),k<=LS.length/\i=.int .i64 k/\aH=.bool c/\wr.heap[w.heap.size]?=some (.cells (fc zf) 66)/\wr.heap[w.heap.size+1]?=some (.cells (fc T) 66)/\Hid (Nx LS v a k c T)/\Below w.heap.size w wr) (fun _ i _ _=>LS.length-(intOf i).toNat)
 ·exact⟨0,false,zf,by omega,rfl,rfl,aa al,aa ar,ae (Or.inl ⟨rfl,fun i hi=>absurd hi (by omega)⟩),aa am⟩
 obtain⟨k,c,T,aT,rfl,rfl,o,t,g,f⟩:=hrel;have aJ:=(f.cell (p:=⟨q,2,none⟩) E).trans ak;clear J ak
 by_cases ay:k<LS.length
 ·have ab:(k:Int)<LS.length:=by omega
  obtain⟨b,off,rfl,av,Z⟩:=aa aB (by omega)
  have y:∀M,Below w.heap.size w M->M.rangeAt b (off+k*26) (cc 26 (gf LS k)).toList:=fun M h=>cs_rng (fun i hi j aI=>(h.cell (p:=⟨b,off+i*26+j,none⟩) av).trans (Z i hi j aI)) ay;have F:=life_F (y wr f);have u:=zZ wr (.cells (fc zf) 66);have B:=yX _ _ _ (fc (gf LS k)) _ _ u;have aw:w.heap.size<wr.heap.size:=(zM.1 o).1;have ax:w.heap.size+1<wr.heap.size:=(zM.1 t).1
  have ai:=(setRow_other (show wr.heap.size≠w.heap.size by omega) (fc (gf LS k))).trans ((yK wr (.cells (fc zf) 66) w.heap.size aw).trans o)
  have aj:=(setRow_other (show wr.heap.size≠w.heap.size+1 by omega) (fc (gf LS k))).trans ((yK wr (.cells (fc zf) 66) (w.heap.size+1) ax).trans t)
  have s:=aK (aG f aD (.cells (fc zf) 66)) (show w.heap.size<=wr.heap.size by omega) (fc (gf LS k))
  have aQ:(w.heap.size:Nat)<=wr.heap.size:=by omega
  have aA:=(s.cell (p:=⟨q,2,none⟩) E).trans ((f.cell (p:=⟨q,2,none⟩) E).symm.trans aJ);have P:=y _ s;have an:=af B
  have aF:=aN (gf LS k) 0 (by decide)
  obtain⟨ah,r⟩:∃L,gf LS k 0=L:=⟨_,rfl⟩;rw[r] at aF;have ap:=ae B;have S:=ae ai;have U:=ae aj;have z:=ae s;clear y Z f s ai aj
  by_cases aP:ah<=a
  ·have d:=ae ((aa g).skip (fun l=>by have:=l.2; omega))
   go_wp2_with (first|refine nI rfl _ rfl b (off+k*26) rfl (gf LS k) F ?_|refine al26 rfl rfl wr.heap.size rfl ?_|refine mP rfl _ _ rfl wr.heap.size (gf LS k) rfl rfl zf u ?_)
   go_roundw
   ·exact⟨k+1,c,T,by omega,by go_num,rfl,aa S,aa U,d,aa z⟩
   simp[intOf]; omega
  go_wp2_with (first|refine nI rfl _ rfl b (off+k*26) rfl (gf LS k) F ?_|refine al26 rfl rfl wr.heap.size rfl ?_|refine mP rfl _ _ rfl wr.heap.size (gf LS k) rfl rfl zf u ?_|refine ldm80 (by kernel_rfl) _ rfl b (off+k*26) rfl (gf LS k) P ?_)
  refine(isIn_any (gf LS k) v _).mono ?_;rintro e aW ⟨rfl,n⟩;have G:=ag (aa S) n;have m:=ag (aa U) n;have H:=ag (aa ap) n;have aS:=af H;have aR:=af m;have Y:=(aa z).trans (n.mono (aa z).size);have A:=ae Y;clear n Y F u B an aA P o t
  cases D:mH v (gf LS k) with
  | false=>
   have d:=ae ((aa g).skip (fun l=>by rw[l.1] at D; cases D))
   go_wp2
   go_roundw
   ·exact⟨k+1,c,T,by omega,by go_num,rfl,G,m,d,aa A⟩
   simp[intOf]; omega
  | true=>
   have N:Cand LS v a k:=⟨D,by rw[r]; omega⟩
   have R:=ae N;clear N;have ad:=yX _ _ _ (fc (gf LS k)) _ _ m
   have ac:=(setRow_other (show w.heap.size+1≠w.heap.size by omega) (fc (gf LS k))).trans G
   have W:=ae ad;have V:=ae ac
   have Q:=ae (aK (aa A) (show w.heap.size<=w.heap.size+1 by omega) (fc (gf LS k)))
   clear ad ac
   cases c with
   | false=>
    have d:=ae ((aa g).take (aa R) (fun h=>by cases h))
    go_wp2_with (first|refine dh rfl _ rfl _ rfl (gf LS k) H ?_|refine mP rfl _ _ rfl (w.heap.size+1) (gf LS k) rfl rfl T m ?_)
    go_roundw
    ·exact⟨k+1,true,gf LS k,by omega,by go_num,rfl,aa V,aa W,d,aa Q⟩
    simp[intOf]; omega
   | true=>
    have aL:=aN T 0 (by decide)
    obtain⟨aE,C⟩:∃L,T 0=L:=⟨_,rfl⟩;rw[C] at aL
    by_cases O:ah<aE
    ·have d:=ae ((aa g).take (aa R) (fun _=>by rw[r,C]; exact O))
     go_wp2_with (first|refine dh rfl _ rfl _ rfl (gf LS k) H ?_|refine mP rfl _ _ rfl (w.heap.size+1) (gf LS k) rfl rfl T m ?_)
     go_roundw
     ·exact⟨k+1,true,gf LS k,by omega,by go_num,rfl,aa V,aa W,d,aa Q⟩
     simp[intOf]; omega
    have d:=ae ((aa g).leave (by rw[r,C]; exact O))
    go_wp2
    go_roundw
    ·exact⟨k+1,true,T,by omega,by go_num,rfl,G,m,d,aa A⟩
    simp[intOf]; omega
 have ab:k=LS.length:=by omega
 subst ab;have au:=yX _ _ _ (fc T) _ _ o;have aq:=ae (aK f aD (fc T));clear f
 go_wp2_with (first|refine dh rfl _ rfl _ rfl T t ?_|refine mP rfl _ _ rfl w.heap.size T rfl rfl zf o ?_)
 refine zL (v:=.tuple #[.agg (fc T),.bool c]) (oE results73 _ _ w.heap.size 66 (fc T) (0,0) _ (.bool c) rfl rfl au underlying66 rfl (gK _)) rfl ⟨⟨c,T,rfl,aa g⟩,aa aq⟩
def gH (FL:List (Nat->Int))(a:Int):Nat->Nat
 | 0=>0
 | k+1=>if gf FL k 0<=a then gH FL a k+1 else gH FL a k
theorem cle_le (FL:List (Nat->Int))(a:Int):∀k,gH FL a k<=k
 | 0=>zz _
 | k+1=>by rw[gH]; have:=cle_le FL a k; split<;>omega
theorem cle_all {FL:List (Nat->Int)}{a:Int}:∀k,(∀j,j<k->gf FL j 0<=a)->gH FL a k=k
 | 0,_=>rfl
 | k+1,h=>by rw[gH,zJ (h k (by omega)),cle_all k fun j b=>h j (by omega)]
theorem mq {FL:List (Nat->Int)}{a:Int}:∀k,(∀j,j<k->a<gf FL j 0)->gH FL a k=0
 | 0,_=>rfl
 | k+1,h=>by rw[gH,zK (by have:=h k (by omega); omega),mq k fun j b=>h j (by omega)]
theorem nT {FL:List (Nat->Int)}{a b:Int}:∀k,(∀j,j<k->(gf FL j 0<=a↔gf FL j 0<=b))->gH FL a k=gH FL b k
 | 0,_=>rfl
 | k+1,h=>by
  rw[gH,gH,nT k fun j d=>h j (by omega)]
  by_cases c:gf FL k 0<=a
  ·rw[zJ c,zJ ((h k (by omega)).1 c)]
  rw[zK c,zK (fun q=>c ((h k (by omega)).2 q))]
theorem cle_more {FL:List (Nat->Int)}{a b:Int}(d:Nat)(f:¬gf FL d 0<=a)(g:gf FL d 0<=b):∀k,d<k->(∀j,j<k->j≠d->(gf FL j 0<=a↔gf FL j 0<=b))->gH FL b k=gH FL a k+1
 | 0,h,_=>by omega
 | k+1,h,hi=>by
  by_cases e:d=k
  ·subst e
   rw[gH,gH,zJ g,zK f,nT d fun j i=>hi j (by omega) (by omega)]
  rw[gH,gH,cle_more d f g k (by omega) fun j i=>hi j (by omega)]
  by_cases c:gf FL k 0<=a
  ·rw[zJ c,zJ ((hi k (by omega) (fun q=>e q.symm)).1 c)]
  rw[zK c,zK (fun q=>c ((hi k (by omega) (fun q=>e q.symm)).2 q))]
structure d8 (v:Int)(LS FL:List (Nat->Int)):Prop where
 fwd:∀i,i<LS.length->mH v (gf LS i)=true->∃j,j<FL.length/\SF (gf LS i) (gf FL j)
 fro:∀j,j<FL.length->∃i,i<LS.length/\mH v (gf LS i)=true/\SF (gf LS i) (gf FL j)
 rt:∀j,j<FL.length->Rt (gf FL j)
 dis:∀j j',j<FL.length->j'<FL.length->gf FL j 0=gf FL j' 0->j=j'
 le40:FL.length<=40
theorem d8.found {v a:Int}{LS FL:List (Nat->Int)}{T:Nat->Int}(h:d8 v LS FL)(p:Nx LS v a LS.length true T):∃j,j<FL.length/\SF T (gf FL j)/\a<T 0/\gH FL (T 0) FL.length=gH FL a FL.length+1:=by
 rcases p with⟨e,_⟩|⟨_,i,hi,b,rfl,hm⟩
 ·cases e
 obtain⟨j,d,k⟩:=h.fwd i hi b.1
 have f:=k 0 (by omega)
 refine⟨j,d,k,b.2,?_⟩;have u:=b.2
 refine cle_more j (by rw[<-f]; omega) (by rw[<-f]; exact yw _) _ d fun q g n=>⟨fun r=>by omega,fun r=>?_⟩
 by_cases c:gf FL q 0<=a
 ·exact c
 exfalso
 obtain⟨s,m,l,o⟩:=h.fro q g
 have t:=o 0 (by omega)
 have:=hm s m ⟨l,by omega⟩
 exact n (h.dis q j g d (by omega))
theorem d8.ended {v a:Int}{LS FL:List (Nat->Int)}{T:Nat->Int}(h:d8 v LS FL)(f:Nx LS v a LS.length false T):gH FL a FL.length=FL.length:=by
 rcases f with⟨_,d⟩|⟨e,_⟩
 ·refine cle_all _ fun j g=>?_
  obtain⟨i,hi,b,k⟩:=h.fro j g
  have l:=k 0 (by omega)
  by_cases c:gf FL j 0<=a
  ·exact c
  exact absurd ⟨b,by omega⟩ (d i hi)
 cases e
def lP (a:Int)(R:List (Nat->Int)):Nat->Int
 | 0=>a
 | i+1=>gf R i 0
structure jB (FL:List (Nat->Int))(a:Int)(R:List (Nat->Int)):Prop where
 mem:∀i,i<R.length->∃j,j<FL.length/\SF (gf R i) (gf FL j)
 ris:∀i,i<R.length->lP a R i<gf R i 0
 cnt:gH FL (lP a R R.length) FL.length=gH FL a FL.length+R.length
theorem pid_left {a:Int}{R:List (Nat->Int)}{f:Nat->Int}{i:Nat}(h:i<=R.length):lP a (R++[f]) i=lP a R i:=by
 cases i with
 | zero=>rfl
 | succ i=>show gf (R++[f]) i 0=gf R i 0; rw[di (by omega)]
theorem rdP_nil (FL:List (Nat->Int))(a:Int):jB FL a []:=⟨fun i hi=>by simp at hi,fun i hi=>by simp at hi,by simp[lP]⟩
theorem jB.add {FL R:List (Nat->Int)}{a:Int}{T:Nat->Int}(h:jB FL a R)(d:∃j,j<FL.length/\SF T (gf FL j)/\lP a R R.length<T 0/\gH FL (T 0) FL.length=gH FL (lP a R R.length) FL.length+1):jB FL a (R++[T]):=by
 obtain⟨j,f,g,b,e⟩:=d;refine⟨fun i hi=>?_,fun i hi=>?_,?_⟩
 ·by_cases c:i<R.length
  ·rw[di c]; exact h.mem i c
  have:i=R.length:=by simp at hi; omega
  subst this; rw[cD]; exact⟨j,f,g⟩
 ·by_cases c:i<R.length
  ·rw[di c,pid_left (by omega)]; exact h.ris i c
  have:i=R.length:=by simp at hi; omega
  subst this; rw[cD,pid_left aD]; exact b
 rw[zH,zT];show gH FL (gf (R++[T]) R.length 0) FL.length=_
 rw[cD,e,h.cnt]; omega
theorem lR (T:TypeId)(b:Nat)(w:World)(B:Nat)(a:B<=w.heap.size):bf T b (w.alloc (.cells #[] T)) B (.slice (some ⟨w.heap.size,0,none⟩) 0 0) []:=
 ⟨by simp[fl],Or.inr ⟨w.heap.size,0,#[],rfl,a,zZ w (.cells #[] T (0,0)),zz _,by unfold maxLen; omega,by simp,by simp[fl]⟩⟩
theorem Read_no (d:Nat)(b ver:Int)(sl pv:Value)(LS c:List (Nat->Int))(v a n:Int)(w:World)(g:dD w d b ver sl pv LS c)(l:c.length<=100)(k:0<=b/\b<=4)(m:0<=ver/\ver<=100)(j:bS b ver c v=false):
  Calls prog 34 #[some d,v,a,n] w fun e w'=>e=.returned (.tuple #[.slice none 0 0,(12:Int)])/\Below w.heap.size w w':=by
 have h:=gm d b ver sl pv LS c v w g l k m;rw[j] at h;clear g;go_enter func34,ntmps34
 go_wp2_with fail
 refine h.mono ?_;rintro e w1 ⟨rfl,f⟩;have i:=ae f;clear f
 go_wp2
 go_ret2
 exact⟨rfl,aa i⟩
theorem Read_any (m:Nat)(c ver:Int)(sl pv:Value)(LS f FL:List (Nat->Int))(v a:Int)(n:Nat)(w:World)(C:dD w m c ver sl pv LS f)(au:LS.length<=1000)(av:f.length<=100)(ar:0<=c/\c<=4)(ax:0<=ver/\ver<=100)(ap:bS c ver f v=true)
  (X:d8 v LS FL) (aH:1<=n/\n<=8) :
  Calls prog 34 #[some m,v,a,n] w fun e w'=>(∃R rv,e=.returned (.tuple #[rv,()])/\bf 66 24 w' w.heap.size rv R/\jB FL a R/\R.length<=n/\(R.length=n\/gH FL (lP a R R.length) FL.length=FL.length))/\Below w.heap.size w w':=by
 have D:=gm m c ver sl pv LS f v w C av ar ax;rw[ap] at D;have al:=ae C;have U:=ae X
 have aI:¬(n:Int)<1:=by omega
 have aJ:¬(8:Int)<n:=by omega
 clear C X;go_enter func34,ntmps34
 go_wp2_with fail
 refine D.mono ?_;rintro e w1 ⟨rfl,d⟩;have ab:=ae (lR 66 24 w1 w.heap.size d.size);have aE:w.heap.size<=w1.heap.size:=d.size;have Y:=ae (d.alloc d.size (.cells #[] 66));clear d D
 go_wp2
 go_loopw [2,10,11,12,13] (fun am an i _ _ wr=>∃R:List (Nat->Int),R.length<=n/\i=.int .i64 R.length/\Hid (am=.int .i64 (lP a R R.length))/\bf 66 24 wr w.heap.size an R/\Hid (jB FL a R)/\Below w.heap.size w wr) (fun _ _ i _ _ _=>n-(intOf i).toNat)
 ·exact⟨[],by simp,rfl,ae rfl,aa ab,ae (rdP_nil FL a),aa Y⟩
 obtain⟨R,aA,rfl,N,B,r,l⟩:=hrel;obtain⟨A,z⟩:∃A,lP a R R.length=A:=⟨_,rfl⟩;have G:=aa N;rw[z] at G;subst G;clear N
 by_cases aC:R.length<n
 ·have P:(R.length:Int)<n:=by omega
  have J:=ae (next_any m c ver sl pv LS f v A wr ((aa al).on (l.mono aD)) au);have S:=ae B;have I:=ae l;clear B l
  go_wp2_with fail
  refine(aa J).mono ?_;rintro e b ⟨⟨ag,T,rfl,M⟩,h⟩;have p:=zZ b (.cells (fc zf) 66);have o:=yX _ _ _ (fc T) _ _ p;have t:=(aa I).trans (h.mono (aa I).size);have aj:w.heap.size<=b.heap.size:=t.size;have s:=aK (aG t aD (.cells (fc zf) 66)) aj (fc T);have x:=(aa S).on h
  have k:bf 66 24 ((b.alloc (.cells (fc zf) 66)).setRow b.heap.size (fc T)) w.heap.size u10 R:=(x.alloc (.cells (fc zf) 66)).same (fun g ao=>setRow_other (by have:=(x.lt g ao).2; omega) _)
  have ak:w.heap.size<=((b.alloc (.cells (fc zf) 66)).setRow b.heap.size (fc T)).heap.size:=s.size;have aF:wr.heap.size<=b.heap.size:=h.size;have K:=ae M;have H:=ae s;have ac:=ae k;clear h t s x M J
  cases ag with
  | false=>
   have y:=ae ((aa U).ended (aa K))
   go_wp2_with (first|refine al26 rfl rfl b.heap.size rfl ?_|refine mP rfl _ _ rfl b.heap.size T rfl rfl zf p ?_)
   go_ret2
   exact⟨⟨R,_,rfl,aa ac,aa r,by omega,Or.inr (by rw[z]; exact aa y)⟩,aa H⟩
  | true=>
   have y:=ae ((aa U).found (aa K));have F:=af o
   have V:=aN T 0 (by decide)
   obtain⟨E,W⟩:∃E,T 0=E:=⟨_,rfl⟩;rw[W] at V;have L:=zZ ((b.alloc (.cells (fc zf) 66)).setRow b.heap.size (fc T)) (.cells (fc T) 66)
   obtain⟨aL,ay,ai,Q,u⟩:=run_apF (((b.alloc (.cells (fc zf) 66)).setRow b.heap.size (fc T)).alloc (.cells (fc T) 66)) w.heap.size u10 R [T] (k.alloc _) ((b.alloc (.cells (fc zf) 66)).setRow b.heap.size (fc T)).heap.size 0 1 (fun i hi j aq=>by
    obtain rfl:i=0:=by simp at hi; omega
    rw[af L]
    simpa[gf] using aN T j aq) (by simp; omega) (by simp; omega)
   have O:=((aa H).alloc ak (.cells (fc T) 66)).grown u (by simp; omega) (fun q aw=>(k.lt q aw).1)
   have aB:ay.cell? ⟨b.heap.size,0,none⟩=some (.int .i64 E):=by
    have ah:b.heap.size<((b.alloc (.cells (fc zf) 66)).setRow b.heap.size (fc T)).heap.size:=(zM.1 o).1
    rw[zP (a:=⟨b.heap.size,0,none⟩) ((u.block b.heap.size (by simp; omega) (fun e=>by have:=((aa S).lt b.heap.size e.symm).2; omega)).trans (yK _ _ _ ah)),F 0]
    exact V
   have Z:=ae O;have ad:=ae Q;clear O Q u L k F
   go_wp2_with (first|refine al26 rfl rfl b.heap.size rfl ?_|refine mP rfl _ _ rfl b.heap.size T rfl rfl zf p ?_|refine dh rfl _ rfl _ rfl T o ?_|refine bs34 rfl _ rfl T rfl _ rfl ?_|(at_builtin; refine wl_apF ai rfl (.tmp 40) (.tmp 42) rfl rfl rfl rfl ?_))
   go_roundw
   ·exact⟨R++[T],by simp; omega,by simp,ae (by rw[zH,zT]; show _=Value.int .i64 (gf (R++[T]) R.length 0); rw[cD,W]),aa ad,ae ((aa r).add (by rw[z]; exact aa y)),aa Z⟩
   simp[intOf]; omega
 have P:R.length=n:=by omega
 have az:¬(R.length:Int)<n:=by omega
 go_wp2
 go_ret2
 exact⟨⟨R,_,rfl,B,aa r,by omega,Or.inl P⟩,l⟩
def ri (PI:List Int):List (Nat->Int):=PI.map fun x _=>x
theorem fI (PI:List Int):(ri PI).length=PI.length:=by simp[ri]
theorem ri_gf {PI:List Int}{i:Nat}(h:i<PI.length):gf (ri PI) i 0=PI[i]:=by
 unfold gf ri; rw[zg,zQ h]; rfl
theorem ri_app (A:List Int)(x:Int):ri (A++[x])=ri A++[fun _=>x]:=by simp[ri]
theorem hasP_ri (PI:List Int)(v:Int):pf (ri PI) v=decide (v∈PI):=by
 by_cases h:v∈PI
 ·obtain⟨i,hi,e⟩:=List.mem_iff_getElem.1 h
  rw[zU h]
  exact hasP_yes (by rw[fI]; exact hi) (by rw[ri_gf hi]; exact e)
 rw[zG h]
 exact hasP_no fun i hi e=>h (by rw[fI] at hi; rw[ri_gf hi] at e; rw[<-e]; exact List.getElem_mem hi)
structure Fr (S:Nat->Prop)(w w':World):Prop where
 os:w'.os=w.os
 tape:w'.tape=w.tape
 output:w'.output=w.output
 size:w.heap.size<=w'.heap.size
 block:∀k,k<w.heap.size->¬S k->w'.heap[k]?=w.heap[k]?
def PinR (sb:Nat)(keep ver:Int)(sl pv:Value)(LS:List (Nat->Int))(PI:List Int)(v:Int)(w:World)(e:Ending)(w':World):Prop:=
 (bS keep ver (ri PI) v=false/\e=.returned (.int .i64 12)/\Below w.heap.size w w')\/(bS keep ver (ri PI) v=true/\6<=PI.length/\e=.returned (.int .i64 13)/\Below w.heap.size w w') \/
 (bS keep ver (ri PI) v=true/\PI.length<6/\e=.returned (.int .i64 0)/\Fr (fun k=>k=sb\/pv.ownBlock=some k) w w'/\∃pv',dD w' sb keep ver sl pv' LS (ri (PI++[v]))/\(pv'.ownBlock=pv.ownBlock\/∀g,pv'.ownBlock=some g->w.heap.size<=g))
theorem Pin_any (a:Nat)(b ver:Int)(sl pv:Value)(LS:List (Nat->Int))(PI:List Int)(v:Int)(w:World)(B:dD w a b ver sl pv LS (ri PI))(G:∀g,pv.ownBlock=some g->sl.ownBlock≠some g)(ah:PI.length<=6)(T:0<=b/\b<=4)(U:0<=ver/\ver<=100):
  Calls prog 30 #[some a,v] w fun e w'=>PinR a b ver sl pv LS PI v w e w':=by
 have l:=gm a b ver sl pv LS (ri PI) v w B (by rw[fI]; omega) T U
 have H:=ae B;have J:=ae G;clear B G
 cases o:bS b ver (ri PI) v with
 | false=>
  rw[o] at l;go_enter func30,ntmps30
  go_wp2_with fail
  refine l.mono ?_;rintro e w1 ⟨rfl,j⟩;have m:Hid (PinR a b ver sl pv LS PI v w (.returned (.int .i64 12)) w1):=Or.inl ⟨o,rfl,j⟩;clear j l
  go_wp2
  go_ret;exact aa m
 | true=>
  rw[o] at l;go_enter func30,ntmps30
  go_wp2_with fail
  refine l.mono ?_;rintro e w1 ⟨rfl,j⟩;have s:=(aa H).on j;obtain⟨_,_,_,Y⟩:=s.cells;have D:(ri PI).length=PI.length:=fI PI;have ac:=(aa H).lt;have p:=ae s;have E:=ae j
  obtain⟨d,cap,N⟩:∃d cap,pv=.slice d (ri PI).length cap:=by
   rcases s.pins.2 with⟨h,P⟩|⟨g,c,K,h,_⟩
   ·exact⟨none,0,by rw[P]; exact h⟩
   exact⟨_,_,h⟩
  subst N;clear s j l
  by_cases Q:6<=PI.length
  ·have L:(6:Int)<=(ri PI).length:=by omega
   have m:Hid (PinR a b ver sl (.slice d (ri PI).length cap) LS PI v w (.returned (.int .i64 13)) w1):=Or.inr (Or.inl ⟨o,Q,rfl,aa E⟩);clear D
   go_wp2
   go_ret;exact aa m
  have L:¬(6:Int)<=(ri PI).length:=by omega
  have S:(ri PI).length<=1000:=by omega
  have R:a+1<=w1.heap.size:=by have:=(aa p).lt; omega
  have z:=(aa p).pins;clear D
  go_wp2_with (at_builtin; refine pJ rfl (.tmp 19) (.tmp 21) rfl _ (a+1) _ (ri PI) v rfl z rfl S R ?_)
  intro Z y r k F
  have ad:w1.heap.size+1<=y.heap.size:=by have:=k.size; simpa using this
  have x:∀q,q<w1.heap.size->(Value.slice d (ri PI).length cap).ownBlock≠some q->y.heap[q]?=w1.heap[q]?:=fun q A M=>(k.block q (by simp; omega) (fun e=>M e.symm)).trans (yK _ _ _ A)
  have t:y.heap[a]?=some (.cells #[b,ver,sl,.slice d (ri PI).length cap] 119):=(x a (by omega) (fun e=>by have:=(z.lt a e).1; omega)).trans (aa p).blk
  have ag:=(af t 3).trans (show _=some (Value.slice d (ri PI).length cap) from rfl);have ab:=bi t 3
  obtain⟨X,W,V,O⟩:∃d n cap,Z=.slice d n cap:=by
   rcases r.2 with⟨h,_⟩|⟨g,c,K,h,_⟩
   ·exact⟨_,_,_,h⟩
   exact⟨_,_,_,h⟩
  subst O;have u:=(aa p).own
  have m:Hid (PinR a b ver sl (.slice d (ri PI).length cap) LS PI v w (.returned (.int .i64 0)) (y.setCell ⟨a,3,none⟩ (.slice X W V))):=by
   have f:=aa E
   refine Or.inr (Or.inr ⟨o,by omega,rfl,⟨k.os.trans f.os,k.tape.trans f.tape,k.output.trans f.output,?_,?_⟩,_,⟨dZ t _,?_,?_⟩,?_⟩)
   ·have:=f.size; simp only[World.setCell,Array.size_modify]; omega
   ·intro q A I
    rw[zW _ _ _ _ (fun e=>I (Or.inl e)),x q (by have:=f.size; omega) (fun e=>I (Or.inr e)),f.block q A]
   ·refine u.same fun g i=>(zW _ _ _ _ (by have:=(u.lt g i).1; simp; omega)).trans (x g (u.lt g i).2 (fun e=>aa J g e i))
   ·rw[ri_app]
    exact bf.same r fun g i=>zW _ _ _ _ (by have:=(bf.lt r g i).1; simp; omega)
   rcases F with C|C
   ·exact Or.inl C
   exact Or.inr fun g i=>by have:=C g i; have:=f.size; omega
  clear t u x r k F z Y
  go_wp2
  go_ret;exact aa m
def UnpR (sb:Nat)(keep ver:Int)(sl:Value)(LS:List (Nat->Int))(PI:List Int)(v:Int)(w:World)(e:Ending)(w':World):Prop:=
 (v∉PI/\e=.returned (.int .i64 12)/\Below w.heap.size w w')\/(v∈PI/\e=.returned (.int .i64 0)/\Fr (fun k=>k=sb) w w'/\∃pv',dD w' sb keep ver sl pv' LS (ri (PI.erase v))/\∀g,pv'.ownBlock=some g->w.heap.size<=g)
theorem take_erase {PI:List Int}{v:Int}{k:Nat}(b:k<PI.length):(PI.take (k+1)).erase v=if v∈PI.take k then (PI.take k).erase v++[PI[k]] else if PI[k]=v then PI.take k else PI.take k++[PI[k]]:=by
 have e:PI.take (k+1)=PI.take k++[PI[k]]:=by rw[ys,zQ b]; rfl
 rw[e,List.erase_append]
 by_cases c:v∈PI.take k
 ·rw[zJ c,zJ c]
 rw[zK c,zK c]
 by_cases a:PI[k]=v
 ·rw[zJ a,a]; simp
 rw[zK a,List.erase_of_not_mem (by simp[Ne.symm a])]
theorem m0 {PI:List Int}{v:Int}{k:Nat}(a:k<PI.length):v∈PI.take (k+1)↔v∈PI.take k\/v=PI[k]:=by
 have e:PI.take (k+1)=PI.take k++[PI[k]]:=by rw[ys,zQ a]; rfl
 rw[e,zh,z7]
theorem Unpin_any (o:Nat)(D ver:Int)(sl pv:Value)(LS:List (Nat->Int))(PI:List Int)(v:Int)(w:World)(C:dD w o D ver sl pv LS (ri PI))(az:PI.length<=6):
  Calls prog 32 #[some o,v] w fun e w'=>UnpR o D ver sl LS PI v w e w':=by
 obtain⟨_,_,_,S⟩:=C.cells;have Y:=C.lt
 obtain⟨ad,cap,rfl,ac⟩:=C.pins.ints (by rw[fI]; omega)
 have Z:=ae ac;have P:=ae C;have ah:=ae (lR 3 1 w w.heap.size aD);have ag:=fI PI;obtain⟨n,R⟩:∃n,PI.length=n:=⟨_,rfl⟩;have ab:=ae R
 have ak:(ri PI).length=n:=by omega
 rw[ak] at S Z P;clear ac C ag;go_enter func32,ntmps32
 go_wp2
 go_loopw [5,6,7] (fun lv fv i wr=>∃(k:Nat),k<=n/\i=.int .i64 k/\Hid (fv=.bool (decide (v∈PI.take k)))/\bf 3 1 wr w.heap.size lv (ri ((PI.take k).erase v))/\Below w.heap.size w wr) (fun _ _ i _=>n-(intOf i).toNat)
 ·exact⟨0,by omega,rfl,ae (by simp),aa ah,aj _ _⟩
 obtain⟨k,ay,rfl,U,d,f⟩:=hrel;have m:=aa U;clear U;have af:=(f.cell (p:=⟨o,3,none⟩) Y).trans S
 by_cases W:k<n
 ·have V:(k:Int)<n:=by omega
  have M:k<PI.length:=by rw[aa ab]; exact W
  obtain⟨b,off,rfl,ai,T⟩:=aa Z (by omega)
  have I:=(f.cell (p:=⟨b,off+k,none⟩) ai).trans (T k W);rw[ri_gf M] at I;have F:=ae (take_erase (v:=v) M);have E:=ae (m0 (v:=v) M);obtain⟨X,an⟩:∃X,PI[k]=X:=⟨_,rfl⟩;rw[an] at I F E;have y:w.heap.size<=wr.heap.size:=f.size
  have Q:(ri ((PI.take k).erase v)).length<=1000:=by
   rw[fI];have:=List.length_erase_le (a:=v) (l:=PI.take k)
   have ax:(PI.take k).length<=k:=by simp; omega
   omega
  have J:=ae f;clear T f
  by_cases j:v∈PI.take k
  ·rw[zU j] at m
   subst m;have z:Hid (decide (v∈PI.take (k+1))=true):=zU ((aa E).2 (Or.inl j))
   have A:Hid ((PI.take (k+1)).erase v=(PI.take k).erase v++[X]):=by show(PI.take (k+1)).erase v=_; rw[aa F,zJ j]
   by_cases r:X=v
   focus
    subst r
    go_wp2_with (at_builtin; refine pJ rfl (.tmp 31) (.tmp 39) rfl _ w.heap.size _ (ri ((PI.take k).erase X)) X rfl d rfl Q y ?_)
   rotate_left
   focus
    go_wp2_with (at_builtin; refine pJ rfl (.tmp 31) (.tmp 39) rfl _ w.heap.size _ (ri ((PI.take k).erase v)) X rfl d rfl Q y ?_)
   all_goals
    intro ar au x u L
    have K:=((aa J).alloc y (.cells #[X] 3)).grown u (by simp; omega) (fun q B=>(d.lt q B).1)
    have t:=ae x;clear x u L I af d
    go_wp2
    go_roundw
    ·exact⟨k+1,by omega,by go_num,ae (by rw[aa z]),by rw[aa A,ri_app]; exact aa t,K⟩
    simp[intOf]; omega
  rw[zG j] at m;subst m;have G:(PI.take k).erase v=PI.take k:=List.erase_of_not_mem j
  by_cases r:X=v
  ·have z:Hid (decide (v∈PI.take (k+1))=true):=zU ((aa E).2 (Or.inr r.symm))
   have A:Hid ((PI.take (k+1)).erase v=(PI.take k).erase v):=by show(PI.take (k+1)).erase v=_; rw[aa F,zK j,zJ r,G]
   have t:=ae d;subst r;clear d G
   go_wp2
   go_roundw
   ·exact⟨k+1,by omega,by go_num,ae (by rw[aa z]),by rw[aa A]; exact aa t,aa J⟩
   simp[intOf]; omega
  have z:Hid (decide (v∈PI.take (k+1))=false):=zG (fun h=>by rcases(aa E).1 h with h|h; exact j h; exact r h.symm)
  have A:Hid ((PI.take (k+1)).erase v=(PI.take k).erase v++[X]):=by show(PI.take (k+1)).erase v=_; rw[aa F,zK j,zK r,G]
  clear G
  go_wp2_with (at_builtin; refine pJ rfl (.tmp 31) (.tmp 39) rfl _ w.heap.size _ (ri ((PI.take k).erase v)) X rfl d rfl Q y ?_)
  intro ar au x u L
  have K:=((aa J).alloc y (.cells #[X] 3)).grown u (by simp; omega) (fun q B=>(d.lt q B).1)
  have t:=ae x;clear x u L I af d
  go_wp2
  go_roundw
  ·exact⟨k+1,by omega,by go_num,ae (by rw[aa z]),by rw[aa A,ri_app]; exact aa t,K⟩
  simp[intOf]; omega
 have V:k=n:=by omega
 subst V
 have al:PI.take k=PI:=z1 (by rw[aa ab]; omega)
 rw[al] at m d
 by_cases j:v∈PI
 ·rw[zU j] at m
  subst m;have N:=(f.block o Y).trans (aa P).blk;have aw:=bi N 3
  obtain⟨aq,ap,ao,am⟩:∃ad n cap,u5=.slice ad n cap:=by
   rcases d.2 with⟨h,_⟩|⟨g,c,av,h,_⟩
   ·exact⟨_,_,_,h⟩
   exact⟨_,_,_,h⟩
  subst am;have H:=(aa P).own
  have O:Hid (UnpR o D ver sl LS PI v w (.returned (.int .i64 0)) (wr.setCell ⟨o,3,none⟩ (.slice aq ap ao))):=by
   refine Or.inr ⟨j,rfl,⟨f.os,f.tape,f.output,by have:=f.size; simpa[World.setCell] using this,fun q B R=>?_⟩,_,⟨dZ N _,?_,?_⟩,fun g s=>(d.lt g s).1⟩
   ·rw[zW _ _ _ _ (fun e=>R e),f.block q B]
   ·exact H.same fun g s=>(zW _ _ _ _ (by have:=(H.lt g s).1; simp; omega)).trans (f.block g (H.lt g s).2)
   exact(d.same fun g s=>zW _ _ _ _ (by have:=(d.lt g s).1; simp; omega)).mono (by omega)
  clear f d N H S
  go_wp2
  go_ret;exact aa O
 rw[zG j] at m;subst m;have O:Hid (UnpR o D ver sl LS PI v w (.returned (.int .i64 12)) wr):=Or.inl ⟨j,rfl,f⟩;clear f d
 go_wp2
 go_ret;exact aa O
theorem inV_end {v n:Int}{g:Nat->Int}(c:v<=n)(b:0<=n)(a:g 25=0):mH v (upd g 25 (n+1))=mH v g:=by
 unfold mH upd
 simp only[if_true,show ¬(24:Nat)=25 by omega,if_false,a]
 rw[zU (show v<n+1 by omega),zG (show ¬n+1=0 by omega)]
 simp
theorem inV_new {v n:Int}{f:Nat->Int}(a:v<=n):mH v (aO f (n+1))=false:=by
 unfold mH aO
 simp only[show ¬(24:Nat)<24 by omega,if_false,if_true]
 rw[zG (by omega)]; rfl
theorem inV_now {n:Int}{g:Nat->Int}(h:g 24<=n/\g 25<=n):mH n g=decide (g 25=0):=by
 unfold mH
 rw[zU h.1,zG (show ¬n<g 25 by omega)]
 simp
theorem d8.end_ {v n:Int}{LS f:List (Nat->Int)}(h:d8 v LS f)(l:v<=n)(g:0<=n){i:Nat}(hi:gf LS i 25=0):d8 v (dg LS i 25 (n+1)) f:=by
 have key:∀k,k<LS.length->mH v (gf (dg LS i 25 (n+1)) k)=mH v (gf LS k)/\SF (gf (dg LS i 25 (n+1)) k) (gf LS k):=by
  intro k a;rw[cz _ _ _ _ _ a]
  by_cases e:k=i
  ·subst e; rw[zJ rfl]; exact⟨inV_end l g hi,oA _ _⟩
  rw[zK e]; exact⟨rfl,fun _ _=>rfl⟩
 refine⟨fun k a b=>?_,fun j c=>?_,h.rt,h.dis,h.le40⟩
 ·rw[bp] at a
  rw[(key k a).1] at b;obtain⟨j,c,d⟩:=h.fwd k a b;exact⟨j,c,(key k a).2.trans d⟩
 obtain⟨k,a,b,d⟩:=h.fro j c
 exact⟨k,by rw[bp]; exact a,by rw[(key k a).1]; exact b,(key k a).2.trans d⟩
theorem d8.join {v n:Int}{LS d:List (Nat->Int)}(h:d8 v LS d)(i:v<=n)(f:Nat->Int):d8 v (LS++[aO f (n+1)]) d:=by
 refine⟨fun k b a=>?_,fun j e=>?_,h.rt,h.dis,h.le40⟩
 ·by_cases c:k<LS.length
  ·rw[di c] at a ⊢; exact h.fwd k c a
  have:k=LS.length:=by simp at b; omega
  subst this; rw[cD,inV_new i] at a; cases a
 obtain⟨k,b,a,g⟩:=h.fro j e
 exact⟨k,by simp; omega,by rw[di b]; exact a,by rw[di b]; exact g⟩
theorem bnd_end' {LS:List (Nat->Int)}{b:Int}(c:Bnd LS b)(i:Nat):Bnd (dg LS i 25 b) b:=by
 intro k a;rw[bp] at a;have:=c k a;rw[cz _ _ _ _ _ a]
 by_cases e:k=i
 ·subst e; rw[zJ rfl]; simp only[upd]; simp; omega
 rw[zK e]; exact this
theorem iq.keeps {n:Int}{e:Nat->Int}{LS d:List (Nat->Int)}(h:iq (n+1) e LS 0 d)(j:0<=n)(f:Bnd LS (n+1)):Bnd d (n+1)/\∀v,v<=n->∀c,d8 v LS c->d8 v d c:=by
 rcases h with⟨_,l⟩|⟨_,k⟩|⟨_,_,q,_⟩
 ·rcases l with⟨_,q,_⟩|⟨_,⟨i,g,_,rfl⟩|⟨_,_,q,_⟩|⟨_,_,_,rfl⟩⟩
  ·omega
  ·exact⟨bnd_join (bnd_end' f i) (by omega) (yw _) _,fun v a c b=>(b.end_ a j g.2.1.1).join a _⟩
  ·omega
  exact⟨bnd_join f (by omega) (yw _) _,fun v a c b=>b.join a _⟩
 ·rcases k with⟨i,g,_,rfl⟩|⟨_,q,_⟩
  ·exact⟨bnd_end' f i,fun v a c b=>b.end_ a j g.2.1.1⟩
  omega
 omega
theorem relV_now {n:Int}{LS FL:List (Nat->Int)}(h:mC LS FL)(b:Bnd LS n)(d:FL.length<=40):d8 n LS FL:=by
 refine⟨fun i hi a=>?_,fun j e=>?_,h.rt,h.dis,d⟩
 ·rw[inV_now (b i hi),zN] at a
  exact h.fwd i hi a
 obtain⟨i,hi,c,f⟩:=h.fro j e
 exact⟨i,hi,by rw[inV_now (b i hi)]; exact zU c,f⟩
theorem relV_nil:d8 0 [] []:=relV_now oG (fun i hi=>by simp at hi) (by simp)
theorem bf.ty {T:TypeId}{d:Nat}{w:World}{B:Nat}{v:Value}{l:List (Nat->Int)}(h:bf T d w B v l){g:Nat}(b:v.ownBlock=some g):∃a,w.heap[g]?=some (.cells a T (0,0)):=by
 rcases h.2 with⟨rfl,_⟩|⟨e,cap,a,rfl,_,c,_⟩
 ·simp[Value.ownBlock] at b
 simp only[Value.ownBlock,zy] at b
 subst b; exact⟨a,c⟩
theorem aI {w:World}{g d:Nat}{c i:Array Value}{T b:TypeId}{f j:Nat × Nat}(h:w.heap[g]?=some (.cells c T f))(a:w.heap[d]?=some (.cells i b j))(k:T≠b):g≠d:=by
 intro e; subst e; rw[h] at a; simp only[zy,Obj.cells.injEq] at a; exact k a.2.1
def wo (fs:List (Nat->Int))(id:Int):List (Nat->Int):=fs.filter fun f=>!decide (f 0=id)
def gn (fs:List (Nat->Int))(id:Int):List (Nat->Int):=fs.filter fun f=>decide (f 0=id)
def fF (fs:List (Nat->Int))(e:Nat->Int):Int:=
 if e 0=0 then (if right (eF e)=true then (if (wo fs (e 1)).length+1<=40 then 0 else 11) else 7) else if e 0=1 then (if gn fs (e 1)=[] then 10 else 0) else 9
def edN (fs:List (Nat->Int))(e:Nat->Int):List (Nat->Int):=if fF fs e=0 then (if e 0=0 then wo fs (e 1)++[eF e] else wo fs (e 1)) else []
def nP (fs:List (Nat->Int))(e:Nat->Int):List (Nat->Int):=if fF fs e=0 then (if e 0=0 then gn fs (e 1)++[eF e] else gn fs (e 1)) else []
def jX (fs:List (Nat->Int))(es:Nat->Nat->Int):Nat->List (Nat->Int)
 | 0=>fs
 | k+1=>edN (jX fs es k) (es k)
def mvT (fs:List (Nat->Int))(es:Nat->Nat->Int):Nat->List (Nat->Int)
 | 0=>[]
 | k+1=>mvT fs es k++nP (jX fs es k) (es k)
abbrev bK:=List (Nat->Int)
def ff (bs:List bK)(v:Nat):bK:=bs.getD v []
def dk (bs:List bK):Nat->List (Nat->Int)
 | 0=>[]
 | v+1=>jX (dk bs v) (gf (ff bs v)) (ff bs v).length
def mF (bs:List bK)(l z x y:Int):Nat->Nat
 | 0=>0
 | v+1=>bif (mvT (dk bs v) (gf (ff bs v)) (ff bs v).length).any (fun f=>cJ f l z x y) then v+1 else mF bs l z x y v
theorem edN_len {fs:List (Nat->Int)}{e:Nat->Int}(h:fs.length<=40):(edN fs e).length<=40:=by
 have hw:(wo fs (e 1)).length<=fs.length:=ze _ _;unfold edN
 split
 ·rename_i a
  split
  ·rename_i b
   unfold fF at a;rw[zJ b] at a
   split at a
   ·split at a
    ·rw[zH,zT]; assumption
    cases a
   cases a
  omega
 simp
theorem eZ {fs:List (Nat->Int)}{es:Nat->Nat->Int}(h:fs.length<=40):∀k,(jX fs es k).length<=40
 | 0=>h
 | k+1=>edN_len (eZ h k)
theorem edM_len {fs:List (Nat->Int)}{e:Nat->Int}:(nP fs e).length<=fs.length+1:=by
 have hw:(gn fs (e 1)).length<=fs.length:=ze _ _;unfold nP
 split
 ·split
  ·rw[zH,zT]; omega
  omega
 simp
theorem d7 (bs:List bK):∀v,(dk bs v).length<=40
 | 0=>by simp[dk]
 | v+1=>eZ (d7 bs v) _
theorem lsV_le (bs:List bK)(l z x y:Int):∀v,mF bs l z x y v<=v
 | 0=>zz _
 | v+1=>by
  rw[mF]
  cases (mvT (dk bs v) (gf (ff bs v)) (ff bs v).length).any (fun f=>cJ f l z x y) with
  | true=>exact zz _
  | false=>have:=lsV_le bs l z x y v; exact Nat.le_succ_of_le this
theorem lr {bs:List bK}{b:bK}{v:Nat}(h:v<bs.length):ff (bs++[b]) v=ff bs v:=by
 unfold ff; simp[List.getD,y3 h]
theorem lu (bs:List bK)(b:bK):ff (bs++[b]) bs.length=b:=by
 unfold ff; simp[List.getD]
theorem gx {bs:List bK}{b:bK}:∀{v:Nat},v<=bs.length->dk (bs++[b]) v=dk bs v
 | 0,_=>rfl
 | v+1,h=>by rw[dk,dk,gx (by omega),lr (by omega)]
theorem lj {bs:List bK}{b:bK}{l z x y:Int}:∀{v:Nat},v<=bs.length->mF (bs++[b]) l z x y v=mF bs l z x y v
 | 0,_=>rfl
 | v+1,h=>by rw[mF,mF,lj (by omega),lr (by omega),gx (by omega)]
theorem pI (bs:List bK)(b:bK):dk (bs++[b]) (bs.length+1)=jX (dk bs bs.length) (gf b) b.length:=by rw[dk,lu,gx aD]
theorem lsV_new (bs:List bK)(b:bK)(l z x y:Int):mF (bs++[b]) l z x y (bs.length+1)=bif (mvT (dk bs bs.length) (gf b) b.length).any (fun f=>cJ f l z x y) then bs.length+1 else mF bs l z x y bs.length:=by rw[mF,lu,gx aD,lj aD]
theorem gp {l:List (Nat->Int)}{j:Nat}(h:j<l.length):gf l j∈l:=by
 unfold gf; rw[zQ h]; exact List.getElem_mem h
theorem jS {l:List (Nat->Int)}{a:Nat->Int}(h:a∈l):∃j,j<l.length/\gf l j=a:=by
 obtain⟨j,b,e⟩:=List.getElem_of_mem h
 exact⟨j,b,by unfold gf; rw[zQ b]; exact e⟩
theorem mf {l:List (Nat->Int)}{j:Nat}(h:j<l.length):gf l j=l[j]:=by unfold gf; rw[zQ h]; rfl
def Dis (l:List (Nat->Int)):Prop:=l.Pairwise fun a b=>a 0≠b 0
theorem dis_in {l:List (Nat->Int)}(h:∀j j',j<l.length->j'<l.length->gf l j 0=gf l j' 0->j=j'):Dis l:=by
 unfold Dis;rw[List.pairwise_iff_getElem];intro i j hi a b e
 have:=h i j hi a (by rw[mf hi,mf a]; exact e)
 omega
theorem dis_out {l:List (Nat->Int)}(h:Dis l):∀j j',j<l.length->j'<l.length->gf l j 0=gf l j' 0->j=j':=by
 intro i j hi a e;unfold Dis at h;rw[List.pairwise_iff_getElem] at h;rw[mf hi,mf a] at e
 rcases Nat.lt_trichotomy i j with c|c|c
 ·exact absurd e (h i j hi a c)
 ·exact c
 exact absurd e.symm (h j i a hi c)
theorem wo_none {l:List (Nat->Int)}{b:Int}(h:∀a∈l,a 0≠b):wo l b=l:=by
 unfold wo; rw[List.filter_eq_self]; intro a c; simp[h a c]
theorem pi {l:List (Nat->Int)}{b:Int}(h:∀a∈l,a 0≠b):gn l b=[]:=by
 unfold gn; rw[yx]; intro a c; simp[h a c]
theorem pg {i:Int}{a:Nat->Int}:∀{l:List (Nat->Int)},Dis l->a∈l->a 0=i->gn l i=[a]/\l.length=(wo l i).length+1
 | [],_,h,_=>by simp at h
 | b::l,g,h,e=>by
  unfold Dis at g;rw[ya] at g
  rcases zv.1 h with rfl|h
  ·have j:∀c∈l,c 0≠i:=fun c m q=>g.1 c m (e.trans q.symm)
   have d:=pi j;have f:=wo_none j;unfold gn at d ⊢;unfold wo at f ⊢;rw[List.filter_cons,List.filter_cons,d,f];simp[e]
  obtain⟨d,f⟩:=pg g.2 h e;have k:b 0≠i:=fun q=>g.1 a h (q.trans e.symm);unfold gn at d ⊢;unfold wo at f ⊢;rw[List.filter_cons,List.filter_cons,d];simp[k];simpa using f
theorem gone_wo {FL:List (Nat->Int)}{b:Int}{j:Nat}(g:Dis FL)(f:j<FL.length)(e:gf FL j 0=b):Gone FL b (wo FL b):=by
 refine⟨(pg g (gp f) e).2,fun i hi=>?_,fun a d h=>?_,dis_out (List.Pairwise.filter _ g)⟩
 ·have hm:=gp hi
  unfold wo at hm;rw[yA] at hm;obtain⟨a,d,q⟩:=jS hm.1;refine⟨a,d,q,fun c=>?_⟩;rw[q] at c;have:=hm.2;simp[c] at this
 have:gf FL a∈wo FL b:=by
  unfold wo; rw[yA]; exact⟨gp d,by simp[h]⟩
 obtain⟨j,f,q⟩:=jS this;exact⟨j,f,q⟩
theorem mC.edit {LS FL t:List (Nat->Int)}{e:Nat->Int}{s ver:Int}(h:mC LS FL)(I:FL.length<=40)(x:ver≠0)(B:iq ver e LS s t):s=fF FL e/\(s=0->mC t (edN FL e)):=by
 have p:=dis_in h.dis
 have u:∀{b:Int} {i:Nat},Fst LS b i->∃j,j<FL.length/\gf FL j 0=b/\(wo FL b).length+1=FL.length/\gn FL b=[gf FL j]:=fun l=>by
  obtain⟨j,f,m,_⟩:=h.fst l;have:=pg p (gp f) m;exact⟨j,f,m,this.2.symm,this.1⟩
 have o:∀{b:Int},Non LS b->wo FL b=FL/\gn FL b=[]:=fun d=>by
  have y:=h.non d
  have hm:∀a∈FL,a 0≠_:=fun a E q=>by
   obtain⟨j,f,e⟩:=jS E
   exact y j f (by rw[e]; exact q)
  exact⟨wo_none hm,pi hm⟩
 have z:∀{b:Int},Non LS b->No FL b:=fun d=>h.non d
 have A:∀b,No (wo FL b) b:=fun b j f q=>by
  have hm:=gp f;unfold wo at hm q;rw[yA] at hm;simp[q] at hm
 rcases B with⟨c,D⟩|⟨v,C⟩|⟨G,H,rfl,_⟩
 ·rcases D with⟨n,rfl,_⟩|⟨n,⟨i,l,rfl,rfl⟩|⟨d,F,rfl,_⟩|⟨d,F,rfl,rfl⟩⟩
  ·have g:right (eF e)=false:=n
   refine⟨by unfold fF; rw[zJ c,g]; rfl,fun q=>by omega⟩
  ·have g:right (eF e)=true:=n
   obtain⟨j,f,m,w,_⟩:=u l
   have k:fF FL e=0:=by unfold fF; rw[zJ c,zJ g,zJ (show(wo FL (e 1)).length+1<=40 from by have J:(wo FL (e 1)).length+1=FL.length:=w; omega)]
   refine⟨k.symm,fun _=>?_⟩;unfold edN;rw[zJ k,zJ c];exact(h.gone l x (gone_wo p f m)).join (ci g) (A _)
  ·have g:right (eF e)=true:=n
   have hw:wo FL (e 1)=FL:=(o d).1;have:=h.cnt
   refine⟨by unfold fF; rw[zJ c,zJ g,hw,zK (by omega)],fun q=>by omega⟩
  have g:right (eF e)=true:=n;have hw:wo FL (e 1)=FL:=(o d).1;have:=h.cnt
  have k:fF FL e=0:=by unfold fF; rw[zJ c,zJ g,hw,zJ (by omega)]
  refine⟨k.symm,fun _=>?_⟩;unfold edN;rw[zJ k,zJ c,hw];exact h.join (ci g) (z d)
 ·have c:¬e 0=0:=by omega
  rcases C with⟨i,l,rfl,rfl⟩|⟨d,rfl,_⟩
  ·obtain⟨j,f,m,w,r⟩:=u l
   have k:fF FL e=0:=by unfold fF; rw[zK c,zJ v,zK (by rw[r]; simp)]
   refine⟨k.symm,fun _=>?_⟩;unfold edN;rw[zJ k,zK c];exact h.gone l x (gone_wo p f m)
  have r:gn FL (e 1)=[]:=(o d).2
  refine⟨by unfold fF; rw[zK c,zJ v,zJ r],fun q=>by omega⟩
 refine⟨by unfold fF; rw[zK G,zK H],fun q=>by omega⟩
theorem mC.stamps {LS FL d:List (Nat->Int)}{e:Nat->Int}{n:Int}(h:mC LS FL)(B:FL.length<=40)(k:0<=n)(w:iq (n+1) e LS 0 d)(l z x y:Int):
  eW (n+1) l z x y d d.length=(bif (nP FL e).any (fun f=>cJ f l z x y) then n+1 else eW (n+1) l z x y LS LS.length)/\∀v,v<=n->eW v l z x y d d.length=eW v l z x y LS LS.length:=by
 have A:=(h.edit B (by omega) w).1.symm
 have I:=dis_in h.dis
 have u:∀{g:Int} {i:Nat},Fst LS g i->∃a,gn FL g=[a]/\cJ (gf LS i) l z x y=cJ a l z x y:=fun b=>by
  obtain⟨j,s,C,J⟩:=h.fst b;exact⟨_,(pg I (gp s) C).1,fg J _ _ _ _⟩
 have D:∀{g:Int},Non LS g->gn FL g=[]:=fun p=>pi fun a H q=>by
  obtain⟨j,s,e⟩:=jS H
  exact h.non p j s (by rw[e]; exact q)
 rcases w with⟨E,G⟩|⟨K,F⟩|⟨_,_,q,_⟩
 ·have o:nP FL e=gn FL (e 1)++[eF e]:=by unfold nP; rw[zJ A,zJ E]
  rw[o]
  rcases G with⟨_,q,_⟩|⟨L,⟨i,b,_,rfl⟩|⟨_,_,q,_⟩|⟨p,_,_,rfl⟩⟩
  ·omega
  ·obtain⟨a,r,t⟩:=u b
   have m:gn FL (e 1)=[a]:=r;rw[m];refine⟨?_,fun v c=>(jJ _ c).trans (kD b.1 b.2.1.1 c)⟩;rw[jK _ k,kE b.1 k,t];show _=bif (cJ a l z x y || (cJ (eF e) l z x y || false)) then n+1 else _
   cases cJ a l z x y<;>cases q:cJ (eF e) l z x y<;>rw[show cJ (fun j=>e (1+j)) l z x y=_ from q]<;>rfl
  ·omega
  have m:gn FL (e 1)=[]:=D p;rw[m];refine⟨?_,fun v c=>jJ _ c⟩;rw[jK _ k];show _=bif (cJ (eF e) l z x y || false) then n+1 else _
  cases q:cJ (eF e) l z x y<;>rw[show cJ (fun j=>e (1+j)) l z x y=_ from q]<;>rfl
 ·have o:nP FL e=gn FL (e 1):=by unfold nP; rw[zJ A,zK (by omega)]
  rw[o]
  rcases F with⟨i,b,_,rfl⟩|⟨_,q,_⟩
  ·obtain⟨a,r,t⟩:=u b
   rw[r];refine⟨?_,fun v c=>kD b.1 b.2.1.1 c⟩;rw[kE b.1 k,t];show _=bif (cJ a l z x y || false) then n+1 else _
   cases cJ a l z x y<;>rfl
  omega
 omega
theorem kw {n:Int}{es:Nat->Nat->Int}{LS FL:List (Nat->Int)}(g:0<=n)(p:mC LS FL)(m:FL.length<=40)(o:Bnd LS (n+1)):∀{k:Nat} {a:List (Nat->Int)},mE (n+1) es LS k a ->
  (∀j,j<k->fF (jX FL es j) (es j)=0)/\mC a (jX FL es k)/\Bnd a (n+1)/\(∀v,v<=n->∀d,d8 v LS d->d8 v a d) /\
  ∀l z x y,eW (n+1) l z x y a a.length=(bif (mvT FL es k).any (fun f=>cJ f l z x y) then n+1 else eW (n+1) l z x y LS LS.length)/\∀v,v<=n->eW v l z x y a a.length=eW v l z x y LS LS.length
 | 0,_,u=>by
  rw[show _=LS from u]
  exact⟨fun j w=>by omega,p,o,fun _ _ _ h=>h,fun l z x y=>⟨rfl,fun _ _=>rfl⟩⟩
 | k+1,_,⟨K,r,e⟩=>by
  obtain⟨A,q,B,C,D⟩:=kw g p m o r;have i:=eZ (es:=es) m k
  obtain⟨s,t⟩:=q.edit i (by omega) e
  obtain⟨E,F⟩:=e.keeps g B;refine⟨fun j w=>?_,t rfl,E,fun v b d h=>F v b d (C v b d h),fun l z x y=>?_⟩
  ·by_cases c:j=k
   ·subst c; exact s.symm
   exact A j (by omega)
  obtain⟨G,H⟩:=q.stamps i g e l z x y;obtain⟨I,J⟩:=D l z x y;refine⟨?_,fun v b=>(H v b).trans (J v b)⟩;rw[G,I,mvT,List.any_append]
  cases (mvT FL es k).any (fun f=>cJ f l z x y)<;>cases (nP (jX FL es k) (es k)).any (fun f=>cJ f l z x y)<;>rfl
structure PR (LS:List (Nat->Int))(bs:List bK):Prop where
 rel:∀v:Nat,v<=bs.length->d8 v LS (dk bs v)
 now:mC LS (dk bs bs.length)
 bnd:Bnd LS bs.length
 stm:∀v:Nat,v<=bs.length->∀l z x y,eW v l z x y LS LS.length=(mF bs l z x y v:Nat)
 le:LS.length<=8*bs.length
 max:bs.length<=100
theorem pr_nil:PR [] []:=
 ⟨fun v a=>by cases (Nat.le_zero.1 a); exact relV_nil,oG,fun i hi=>by simp at hi,fun v a l z x y=>by cases (Nat.le_zero.1 a); rfl,by simp,by simp⟩
theorem PR.yes {LS d:List (Nat->Int)}{bs:List bK}{b:bK}(h:PR LS bs)(u:b.length<=8)(hm:bs.length<100)(g:mE ((bs.length:Nat)+1) (gf b) LS b.length d):(∀j,j<b.length->fF (jX (dk bs bs.length) (gf b) j) (gf b j)=0)/\PR d (bs++[b]):=by
 have o:Bnd LS (bs.length+1):=fun i hi=>by have:=h.bnd i hi; omega
 obtain⟨p,k,m,q,r⟩:=kw (n:=bs.length) (by omega) h.now (d7 bs _) o g
 refine⟨p,fun v a=>?_,?_,?_,fun v a l z x y=>?_,?_,?_⟩
 ·rw[zH,zT] at a
  by_cases c:v<=bs.length
  ·rw[gx c]; exact q v (by omega) _ (h.rel v c)
  obtain rfl:v=bs.length+1:=by omega
  rw[pI]
  exact relV_now k (by simpa using m) (eZ (d7 bs _) _)
 ·rw[zH,zT,pI]; exact k
 ·rw[zH,zT]; simpa using m
 ·rw[zH,zT] at a
  obtain⟨s,t⟩:=r l z x y
  by_cases c:v<=bs.length
  ·rw[lj c,t v (by omega)]; exact h.stm v c l z x y
  obtain rfl:v=bs.length+1:=by omega
  rw[lsV_new]
  have e:((bs.length+1:Nat):Int)=(bs.length:Int)+1:=by omega
  rw[e,s,stp_up h.bnd,h.stm _ aD]
  cases (mvT (dk bs bs.length) (gf b) b.length).any (fun f=>cJ f l z x y)<;>simp
 ·have:=g.len; have:=h.le; simp; omega
 simp; omega
theorem PR.no {LS a c:List (Nat->Int)}{bs:List bK}{es:Nat->Nat->Int}{k:Nat}{b:Int}(h:PR LS bs)(d:mE ((bs.length:Nat)+1) es LS k a)(f:iq ((bs.length:Nat)+1) (es k) a b c):(∀j,j<k->fF (jX (dk bs bs.length) es j) (es j)=0)/\fF (jX (dk bs bs.length) es k) (es k)=b:=by
 have e:Bnd LS (bs.length+1):=fun i hi=>by have:=h.bnd i hi; omega
 obtain⟨g,l,m,o,p⟩:=kw (n:=bs.length) (by omega) h.now (d7 bs _) e d
 exact⟨g,(l.edit (eZ (d7 bs _) _) (by omega) f).1.symm⟩
def rN (m:Nat)(hm:0<m):dR (Nat->Int):=⟨m,fun f=>(cc m f).toList,fun f=>iB m f,fun f v hv=>by
 have:=cc_one m f;rw[Array.all_eq_true_iff_forall_mem] at this
 exact this v (by simpa using hv),hm⟩
def rF:dR (Nat->Int):=rN 24 (by decide)
def rE:dR (Nat->Int):=rN 25 (by decide)
def rI:dR Int:=⟨1,fun i=>[.int .i64 i],fun _=>rfl,fun o v hv=>by simp at hv; subst hv; rfl,by decide⟩
structure Two where
 a:Nat
 b:Nat
def rTwo:dR Two:=⟨2,fun d=>[.pointer (some ⟨d.a,0,none⟩),.pointer (some ⟨d.b,0,none⟩)],fun _=>rfl,fun o v hv=>by simp at hv; rcases hv with rfl|rfl<;>rfl,by decide⟩
theorem ix {l:List (Nat->Int)}{i:Nat}(h:i<l.length):l[i]?=some (gf l i):=by rw[mf h]; exact zQ h
theorem bL.cs {a:Nat}{hm:0<a}{w:World}{v:Value}{l:List (Nat->Int)}(h:bL (rN a hm) w v l):mD a w v l.length (gf l):=by
 obtain⟨o,cap,e,p,f,g⟩:=h;refine⟨o,cap,e,f,fun d=>?_⟩;obtain⟨b,off,c,k,m⟩:=g d;refine⟨b,off,c,k,fun i hi j n=>?_⟩
 exact m i (gf l i) (ix hi) j _ (by show(cc a (gf l i)).toList[j]?=_; rw[yS,dc a _ j n])
theorem bL.csF {w:World}{v:Value}{l:List (Nat->Int)}(h:bL rF w v l):mD 24 w v l.length (gf l):=bL.cs h
theorem rngF {c:World}{b off:Nat}{l:List (Nat->Int)}{k:Nat}(h:∀i a,l[i]?=some a->c.rangeAt b (off+i*rF.wid) (rF.enc a))(d:k<l.length):c.rangeAt b (off+k*24) (fc (gf l k)).toList:=h k (gf l k) (ix d)
theorem rngE {c:World}{b off:Nat}{l:List (Nat->Int)}{k:Nat}(h:∀i a,l[i]?=some a->c.rangeAt b (off+i*rE.wid) (rE.enc a))(d:k<l.length):c.rangeAt b (off+k*25) (cc 25 (gf l k)).toList:=h k (gf l k) (ix d)
theorem rngI {c:World}{b off:Nat}{l:List Int}{k:Nat}{x:Int}(h:∀i a,l[i]?=some a->c.rangeAt b (off+i*rI.wid) (rI.enc a))(d:l[k]?=some x):c.cell? ⟨b,off+k,none⟩=some (.int .i64 x):=by
 have:=h k x d 0 (.int .i64 x) rfl;simpa[rI] using this
theorem rngS {c:World}{b off:Nat}{l:List cA}{k:Nat}{x:cA}(h:∀i a,l[i]?=some a->c.rangeAt b (off+i*cq.wid) (cq.enc a))(d:l[k]?=some x):c.cell? ⟨b,off+k,none⟩=some x.v:=by
 have:=h k x d 0 x.v rfl;simpa[cq] using this
theorem fc_rng {a:World}{b off:Nat}{f:Nat->Int}(h:a.rangeAt b off (fc f).toList)(j:Nat)(c:j<24):a.cell? ⟨b,off+j,none⟩=some (.int .i64 (f j)):=h j _ (by rw[cc_fc,yS,dc 24 f j c])
theorem pF {c:World}{b off a:Nat}{f:Nat->Int}(h:c.rangeAt b off (cc a f).toList)(j:Nat)(d:j<a):c.cell? ⟨b,off+j,none⟩=some (.int .i64 (f j)):=h j _ (by rw[yS,dc a f j d])
theorem inf66:(prog.info? 66).map (fun i=>(i.zero,i.size,i.bytes))=some (some (.agg (cc 24 zf)),24,192):=by kernel_rfl
theorem apF {w:World}{v x:Value}{l a:List (Nat->Int)}(h:ah rF 66 w v l)(j:bL rF w x a)(k:l.length+a.length<=100000000):
  ∃b w',(Builtin.append_ #[62,62] 62 #[v,x]).run prog w=.ok b w'/\ah rF 66 w' b (l++a)/\w.grownBy w' v.ownBlock/\(b.ownBlock=v.ownBlock\/∀g,b.ownBlock=some g->w.heap.size<=g):=by
 obtain⟨i,c,d,e,f⟩:=ee inf66
 exact ah.append (R:=rF) (P:=prog) 62 62 i _ 192 underlying62 c d e f (show(cc 24 zf).size=24 from eE 24 zf) h a x j (by unfold maxLen; omega) (by omega)
theorem inf3:(prog.info? 3).map (fun i=>(i.zero,i.size,i.bytes))=some (some (.int .i64 0),1,8):=by kernel_rfl
theorem apI {w:World}{v x:Value}{l a:List Int}(h:ah rI 3 w v l)(j:bL rI w x a)(k:l.length+a.length<=100000000):
  ∃b w',(Builtin.append_ #[60,60] 60 #[v,x]).run prog w=.ok b w'/\ah rI 3 w' b (l++a)/\w.grownBy w' v.ownBlock/\(b.ownBlock=v.ownBlock\/∀g,b.ownBlock=some g->w.heap.size<=g):=by
 obtain⟨i,c,d,e,f⟩:=ee inf3
 exact ah.append (R:=rI) (P:=prog) 60 60 i _ 8 underlying60 c d e f rfl h a x j (by unfold maxLen; omega) (by omega)
theorem inf40:(prog.info? 40).map (fun i=>(i.zero,i.size,i.bytes))=some (some (.slice none 0 0),1,24):=by kernel_rfl
theorem ap31 {w:World}{v x:Value}{l a:List cA}(h:ah cq 40 w v l)(j:bL cq w x a)(k:l.length+a.length<=100000000):
  ∃b w',(Builtin.append_ #[31,31] 31 #[v,x]).run prog w=.ok b w'/\ah cq 40 w' b (l++a)/\w.grownBy w' v.ownBlock/\(b.ownBlock=v.ownBlock\/∀g,b.ownBlock=some g->w.heap.size<=g):=by
 obtain⟨i,c,d,e,f⟩:=ee inf40
 exact ah.append (R:=cq) (P:=prog) 31 31 i _ 24 underlying31 c d e f rfl h a x j (by unfold maxLen; omega) (by omega)
theorem inf60:(prog.info? 60).map (fun i=>(i.zero,i.size,i.bytes))=some (some (.slice none 0 0),1,24):=by kernel_rfl
theorem ap27 {w:World}{v x:Value}{l a:List cA}(h:ah cq 60 w v l)(j:bL cq w x a)(k:l.length+a.length<=100000000):
  ∃b w',(Builtin.append_ #[27,27] 27 #[v,x]).run prog w=.ok b w'/\ah cq 60 w' b (l++a)/\w.grownBy w' v.ownBlock/\(b.ownBlock=v.ownBlock\/∀g,b.ownBlock=some g->w.heap.size<=g):=by
 obtain⟨i,c,d,e,f⟩:=ee inf60
 exact ah.append (R:=cq) (P:=prog) 27 27 i _ 24 underlying27 c d e f rfl h a x j (by unfold maxLen; omega) (by omega)
theorem inf62:(prog.info? 62).map (fun i=>(i.zero,i.size,i.bytes))=some (some (.slice none 0 0),1,24):=by kernel_rfl
theorem ap28 {w:World}{v x:Value}{l a:List cA}(h:ah cq 62 w v l)(j:bL cq w x a)(k:l.length+a.length<=100000000):
  ∃b w',(Builtin.append_ #[28,28] 28 #[v,x]).run prog w=.ok b w'/\ah cq 62 w' b (l++a)/\w.grownBy w' v.ownBlock/\(b.ownBlock=v.ownBlock\/∀g,b.ownBlock=some g->w.heap.size<=g):=by
 obtain⟨i,c,d,e,f⟩:=ee inf62
 exact ah.append (R:=cq) (P:=prog) 28 28 i _ 24 underlying28 c d e f rfl h a x j (by unfold maxLen; omega) (by omega)
theorem bsI (n:Int)(ev:Operand->Value)(o:Oper)(x:Operand)(a:o.op=.buildSlice 60 1 #[(0,x)])(b:ev x=.int .i64 n)(w:World):(execOp ev o).run prog w=.ok (.value (.slice (some ⟨w.heap.size,0,none⟩) 1 1)) (w.alloc (.cells #[n] 3)):=by
 unfold execOp;simp only[a];simp only[yN,zA,yQ,b]
 kernel_rfl
theorem bsS31 (a:Option Addr)(n c:Nat)(ev:Operand->Value)(o:Oper)(x:Operand)(b:o.op=.buildSlice 31 1 #[(0,x)])(d:ev x=.slice a n c)(w:World):(execOp ev o).run prog w=.ok (.value (.slice (some ⟨w.heap.size,0,none⟩) 1 1)) (w.alloc (.cells #[.slice a n c] 40)):=by
 unfold execOp;simp only[b];simp only[yN,zA,yQ,d]
 kernel_rfl
theorem bsS27 (a:Option Addr)(n c:Nat)(ev:Operand->Value)(o:Oper)(x:Operand)(b:o.op=.buildSlice 27 1 #[(0,x)])(d:ev x=.slice a n c)(w:World):(execOp ev o).run prog w=.ok (.value (.slice (some ⟨w.heap.size,0,none⟩) 1 1)) (w.alloc (.cells #[.slice a n c] 60)):=by
 unfold execOp;simp only[b];simp only[yN,zA,yQ,d]
 kernel_rfl
theorem bsS28 (a:Option Addr)(n c:Nat)(ev:Operand->Value)(o:Oper)(x:Operand)(b:o.op=.buildSlice 28 1 #[(0,x)])(d:ev x=.slice a n c)(w:World):(execOp ev o).run prog w=.ok (.value (.slice (some ⟨w.heap.size,0,none⟩) 1 1)) (w.alloc (.cells #[.slice a n c] 62)):=by
 unfold execOp;simp only[b];simp only[yN,zA,yQ,d]
 kernel_rfl
theorem wo_take {FL:List (Nat->Int)}{k:Nat}(h:k<FL.length)(a:Int):wo (FL.take (k+1)) a=wo (FL.take k) a++(if gf FL k 0=a then [] else [gf FL k]):=by
 rw[ys,ix h];unfold wo;rw[yI]
 congr 1
 by_cases c:gf FL k 0=a<;>simp[c]
theorem gn_take {FL:List (Nat->Int)}{k:Nat}(h:k<FL.length)(a:Int):gn (FL.take (k+1)) a=gn (FL.take k) a++(if gf FL k 0=a then [gf FL k] else []):=by
 rw[ys,ix h];unfold gn;rw[yI]
 congr 1
 by_cases c:gf FL k 0=a<;>simp[c]
theorem wo_len (FL:List (Nat->Int))(a:Int):(wo FL a).length<=FL.length:=ze _ _
theorem gn_len (FL:List (Nat->Int))(a:Int):(gn FL a).length<=FL.length:=ze _ _
structure kT (w0 w:World)(lv ov:Value)(L O:List (Nat->Int)):Prop where
 l:ah rF 66 w lv L
 o:ah rF 66 w ov O
 fl:∀g,lv.ownBlock=some g->w0.heap.size<=g
 fo:∀g,ov.ownBlock=some g->w0.heap.size<=g
 dj:∀g,lv.ownBlock=some g->ov.ownBlock≠some g
 b:Below w0.heap.size w0 w
theorem kT.left {k w w':World}{lv e c:Value}{n O i:List (Nat->Int)}(h:kT k w lv e n O)(f:Nat->Int)(m:ah rF 66 w' c i)(j:(w.alloc (.cells (fc f) 66)).grownBy w' lv.ownBlock)(b:c.ownBlock=lv.ownBlock\/∀g,c.ownBlock=some g->(w.alloc (.cells (fc f) 66)).heap.size<=g):kT k w' c e i O:=by
 have l:=h.b.size;have d:∀g,e.ownBlock=some g->g<w.heap.size:=fun g a=>h.o.lt a
 refine⟨m,h.o.same fun g a=>?_,fun g a=>?_,h.fo,fun g a q=>?_,(h.b.alloc l _).grown j (by simp; omega) h.fl⟩
 ·rw[j.block g (by have:=d g a; simp; omega) (fun q=>h.dj g q.symm a),zr w _ (d g a)]
 ·rcases b with b|b
  ·exact h.fl g (b▸a)
  have:=b g a; simp at this; omega
 rcases b with b|b
 ·exact h.dj g (b▸a) q
 have:=b g a; have:=d g q; simp at *; omega
theorem kT.right {d w w':World}{lv a b:Value}{e O i:List (Nat->Int)}(h:kT d w lv a e O)(f:Nat->Int)(k:ah rF 66 w' b i)(l:(w.alloc (.cells (fc f) 66)).grownBy w' a.ownBlock)(m:b.ownBlock=a.ownBlock\/∀g,b.ownBlock=some g->(w.alloc (.cells (fc f) 66)).heap.size<=g):kT d w' lv b e i:=by
 have j:kT d w a lv O e:=⟨h.o,h.l,h.fo,h.fl,fun g c q=>h.dj g q c,h.b⟩;have:=j.left f k l m;exact⟨this.o,this.l,this.fo,this.fl,fun g c q=>this.dj g q c,this.b⟩
theorem ah.allocF {w:World}{v:Value}{l:List (Nat->Int)}(h:ah rF 66 w v l)(o:Obj):ah rF 66 (w.alloc o) v l:=h.on (bu.alloc aD _)
theorem fD (v:Value)(FL:List (Nat->Int))(a:Int)(w:World)(J:bL rF w v FL)(M:FL.length<=100):
  Calls prog 115 #[v,a] w fun e w'=>∃lv q,e=.returned (.tuple #[lv,q])/\kT w w' lv q (wo FL a) (gn FL a):=by
 obtain⟨N,cap,rfl,K,hm,B⟩:=J;have G:=ae B;clear B hm;go_enter func115,ntmps115
 go_wp2
 go_loopw [6,7,8] (fun lv q i wr=>∃k:Nat,k<=FL.length/\i=.int .i64 k/\Hid (kT w wr lv q (wo (FL.take k) a) (gn (FL.take k) a))) (fun _ _ i _=>FL.length-(intOf i).toNat)
 ·exact⟨0,by omega,rfl,ae ⟨aU,aU,fun g h=>by simp[Value.ownBlock] at h,fun g h=>by simp[Value.ownBlock] at h,fun g h=>by simp[Value.ownBlock] at h,zV _ _⟩⟩
 obtain⟨k,L,rfl,c⟩:=hrel
 by_cases f:k<FL.length
 ·have z:(k:Int)<FL.length:=by omega
  obtain⟨b,off,rfl,D,s⟩:=aa G (by omega)
  have r:=rngF s f;have A:wr.rangeAt b (off+k*24) (fc (gf FL k)).toList:=fun j u I=>((aa c).b.cell (p:=⟨b,off+k*24+j,none⟩) D).trans (r j u I)
  have H:wr.cell? ⟨b,off+k*24,none⟩=some (.int .i64 (gf FL k 0)):=fc_rng A 0 (by omega)
  have o:=aZ rF 66 wr (gf FL k) (fc (gf FL k)) rfl;have F:=wo_len (FL.take k) a;have E:=gn_len (FL.take k) a;rw[zD] at F E
  by_cases d:gf FL k 0=a
  focus
   obtain⟨t,x,C,l,m,n⟩:=apF ((aa c).o.allocF _) o (by simp; omega)
   have y:Hid (kT w x u6 t (wo (FL.take (k+1)) a) (gn (FL.take (k+1)) a)):=by
    rw[wo_take f,gn_take f,zJ d,zJ d,yW];exact(aa c).right _ l m n
   rw[d] at H;clear o l m n s r c d
  rotate_left
  focus
   obtain⟨t,x,C,l,m,n⟩:=apF ((aa c).l.allocF _) o (by simp; omega)
   have y:Hid (kT w x t u7 (wo (FL.take (k+1)) a) (gn (FL.take (k+1)) a)):=by
    rw[wo_take f,gn_take f,zK d,zK d,yW];exact(aa c).left _ l m n
   clear o l m n s r c
  all_goals
   go_wp2_with (first|refine bU 66 (fc (gf FL k)) underlying66 rfl (gK _) b (off+k*24) A rfl _ rfl rfl ?_|refine cP _ _ (jN _ _ _ rfl (gf FL k) rfl _) rfl ?_|(at_builtin; refine fS 62 C rfl _ _ rfl rfl rfl rfl ?_))
   go_roundw
   ·exact⟨k+1,by omega,by go_num,y⟩
   simp[intOf]; omega
 have z:k=FL.length:=by omega
 subst z;rw[zx] at c
 go_wp2
 go_ret2
 exact⟨_,_,rfl,aa c⟩
theorem lq {fs:List (Nat->Int)}{e:Nat->Int}{b:Int}(h:fF fs e=b)(a:b≠0):edN fs e=[]/\nP fs e=[]:=by
 unfold edN nP; rw[h,zK a,zK a]; exact⟨rfl,rfl⟩
theorem mV (w:World):bL rF w (.slice none 0 0) []:=(aU (T:=66)).at
theorem jD (v:Value)(FL:List (Nat->Int))(e:Nat->Int)(w:World)(V:bL rF w v FL)(aB:FL.length<=40):
  Calls prog 70 #[v,.agg (cc 25 e)] w fun en w'=>∃X W,en=.returned (.tuple #[X,W,.int .i64 (fF FL e)])/\bL rF w' X (edN FL e)/\bL rF w' W (nP FL e)/\Below w.heap.size w w':=by
 have J:=zZ w (.cells (cc 25 e) 100);have I:=aj w (.cells (cc 25 e) 100);have B:=ae (V.on I)
 have C:(w.alloc (.cells (cc 25 e) 100)).cell? ⟨w.heap.size,1,none⟩=some (.int .i64 (e 1)):=(af J 1).trans (dc 25 e 1 (by omega))
 have x:=ae J;have q:=ae I;clear J V I;have ay:=wo_len FL (e 1);have ax:=gn_len FL (e 1)
 by_cases g:e 0=0
 ·cases y:right (eF e) with
  | false=>
   have a:fF FL e=7:=by unfold fF; rw[zJ g,y]; rfl
   obtain⟨d,f⟩:=lq a (by decide)
   rw[a,d,f];clear a d f;go_enter func70,ntmps70
   go_wp2_with fail
   refine(fD v FL (e 1) _ (aa B) (by omega)).mono ?_
   rintro en z ⟨lv,E,rfl,b⟩;have h:=ag (aa x) b.b
   have k:=(af h 0).trans (dc 25 e 0 (by omega))
   rw[g] at k;have u:z.rangeAt w.heap.size 1 (fc (eF e)).toList:=ec_F e h
   have i:=ae ((aa q).trans (b.b.mono (by simp)))
   clear b h C g
   go_wp2_with (refine bU 66 (fc (eF e)) underlying66 rfl (gK _) w.heap.size 1 u rfl _ rfl rfl ?_)
   refine(ji y _).mono ?_;rintro en F ⟨rfl,j⟩;have an:=ae ((aa i).trans (j.mono (aa i).size));clear j u k
   go_wp2
   go_ret3
   exact⟨_,_,rfl,mV _,mV _,aa an⟩
  | true=>
   go_enter func70,ntmps70
   go_wp2_with fail
   refine(fD v FL (e 1) _ (aa B) (by omega)).mono ?_
   rintro en z ⟨lv,E,rfl,b⟩;have h:=ag (aa x) b.b
   have k:=(af h 0).trans (dc 25 e 0 (by omega))
   rw[g] at k;have u:z.rangeAt w.heap.size 1 (fc (eF e)).toList:=ec_F e h;have am:=ae h
   have i:=ae ((aa q).trans (b.b.mono (by simp)))
   have o:=ae b;clear b h C
   go_wp2_with (refine bU 66 (fc (eF e)) underlying66 rfl (gK _) w.heap.size 1 u rfl _ rfl rfl ?_)
   refine(cH y _).mono ?_;rintro en F ⟨rfl,j⟩;have G:kT (w.alloc (.cells (cc 25 e) 100)) F lv E (wo FL (e 1)) (gn FL (e 1)):=⟨(aa o).l.on j,(aa o).o.on j,(aa o).fl,(aa o).fo,(aa o).dj,(aa o).b.trans (j.mono (aa o).b.size)⟩;have R:=ag (aa am) j;have N:F.rangeAt w.heap.size 1 (fc (eF e)).toList:=ec_F e R;have t:=aZ rF 66 F (eF e) (fc (eF e)) rfl
   obtain⟨aw,ai,Y,M,Z,ab⟩:=apF (G.l.allocF _) t (by simp; omega)
   have A:=G.left _ M Z ab
   have ar:∃D n c,aw=.slice D n c/\n=(wo FL (e 1)).length+1:=by
    have:=M.at;obtain⟨D,cap,e,_⟩:=this
    exact⟨D,_,cap,e,by simp⟩
   obtain⟨az,L,aA,rfl,T⟩:=ar;have S:=ag (aa x) A.b;have al:ai.rangeAt w.heap.size 1 (fc (eF e)).toList:=ec_F e S;have O:=ae A
   have ao:=ae ((aa q).trans (A.b.mono (by simp)))
   clear G A R S t M Z ab j u k
   by_cases Q:L<=40
   ·have a:fF FL e=0:=by unfold fF; rw[zJ g,zJ y,zJ (by omega)]
    have d:edN FL e=wo FL (e 1)++[eF e]:=by unfold edN; rw[zJ a,zJ g]
    have f:nP FL e=gn FL (e 1)++[eF e]:=by unfold nP; rw[zJ a,zJ g]
    have t:=aZ rF 66 ai (eF e) (fc (eF e)) rfl
    obtain⟨aC,aD,av,ac,ad,ah⟩:=apF ((aa O).o.allocF _) t (by simp; omega)
    have H:=(aa O).right _ ac ad ah;have p:=ae a;have l:=ae d;have m:=ae f
    have ap:=ae ((aa q).trans (H.b.mono (by simp)))
    have P:=ae H
    have aq:¬(40:Int)<(L:Int):=by omega
    clear a d f t ac ad ah H Q T g
    go_wp2_with (first|refine bU 66 (fc (eF e)) underlying66 rfl (gK _) w.heap.size 1 N rfl _ rfl rfl ?_|refine bU 66 (fc (eF e)) underlying66 rfl (gK _) w.heap.size 1 al rfl _ rfl rfl ?_|refine cP _ _ (jN _ _ _ rfl (eF e) rfl _) rfl ?_|(at_builtin; refine fS 62 Y rfl _ _ rfl rfl rfl rfl ?_)|(at_builtin; refine fS 62 av rfl _ _ rfl rfl rfl rfl ?_))
    go_ret3
    exact⟨_,_,by rw[aa p]; rfl,by rw[aa l]; exact(aa P).l.at,by rw[aa m]; exact(aa P).o.at,aa ap⟩
   have a:fF FL e=11:=by unfold fF; rw[zJ g,zJ y,zK (by omega)]
   obtain⟨d,f⟩:=lq a (by decide)
   have p:=ae a;have l:=ae d;have m:=ae f
   have aq:(40:Int)<(L:Int):=by omega
   clear a d f Q T g
   go_wp2_with (first|refine bU 66 (fc (eF e)) underlying66 rfl (gK _) w.heap.size 1 N rfl _ rfl rfl ?_|refine cP _ _ (jN _ _ _ rfl (eF e) rfl _) rfl ?_|(at_builtin; refine fS 62 Y rfl _ _ rfl rfl rfl rfl ?_))
   go_ret3
   exact⟨_,_,by rw[aa p]; rfl,by rw[aa l]; exact mV _,by rw[aa m]; exact mV _,aa ao⟩
 by_cases r:e 0=1
 ·go_enter func70,ntmps70
  go_wp2_with fail
  refine(fD v FL (e 1) _ (aa B) (by omega)).mono ?_
  rintro en z ⟨lv,E,rfl,b⟩;have h:=ag (aa x) b.b
  have k:=(af h 0).trans (dc 25 e 0 (by omega))
  rw[r] at k
  have i:=ae ((aa q).trans (b.b.mono (by simp)))
  have au:=ae b.l.at;have U:=ae b.o.at;obtain⟨D,cap,rfl,_⟩:=b.o.at;clear b h C
  by_cases s:gn FL (e 1)=[]
  ·have a:fF FL e=10:=by unfold fF; rw[zK g,zJ r,zJ s]
   obtain⟨d,f⟩:=lq a (by decide)
   have p:=ae a;have l:=ae d;have m:=ae f
   have K:(gn FL (e 1)).length=0:=by rw[s]; rfl
   rw[K];clear a d f s K g r U
   go_wp2
   go_ret3
   exact⟨_,_,by rw[aa p]; rfl,by rw[aa l]; exact mV _,by rw[aa m]; exact mV _,aa i⟩
  have a:fF FL e=0:=by unfold fF; rw[zK g,zJ r,zK s]
  have d:edN FL e=wo FL (e 1):=by unfold edN; rw[zJ a,zK g]
  have f:nP FL e=gn FL (e 1):=by unfold nP; rw[zJ a,zK g]
  have ak:0<(gn FL (e 1)).length:=List.length_pos_iff.2 s
  have K:¬((gn FL (e 1)).length:Int)=0:=by omega
  have p:=ae a;have l:=ae d;have m:=ae f;clear a d f s g r ak
  go_wp2
  go_ret3
  exact⟨_,_,by rw[aa p]; rfl,by rw[aa l]; exact aa au,by rw[aa m]; exact aa U,aa i⟩
 have a:fF FL e=9:=by unfold fF; rw[zK g,zK r]
 obtain⟨d,f⟩:=lq a (by decide)
 rw[a,d,f];clear a d f;go_enter func70,ntmps70
 go_wp2_with fail
 refine(fD v FL (e 1) _ (aa B) (by omega)).mono ?_
 rintro en z ⟨lv,E,rfl,b⟩;have h:=ag (aa x) b.b
 have k:=(af h 0).trans (dc 25 e 0 (by omega))
 have i:=ae ((aa q).trans (b.b.mono (by simp)))
 clear b h C
 go_wp2
 go_ret3
 exact⟨_,_,rfl,mV _,mV _,aa i⟩
structure eV (w:World)(rb:Nat)(keep:Int)(bv pv:Value)(SL:List cA)(bs:List bK)(PI:List Int):Prop where
 blk:w.heap[rb]?=some (.cells #[keep,bv,pv] 121)
 bat:ah cq 40 w bv SL
 len:SL.length=bs.length
 bts:∀(i:Nat) (s:cA) (b:bK),SL[i]?=some s->bs[i]?=some b->ah rE 100 w s.v b
 pin:ah rI 3 w pv PI
theorem eV.lt {w:World}{rb:Nat}{a:Int}{bv pv:Value}{SL:List cA}{bs:List bK}{PI:List Int}(h:eV w rb a bv pv SL bs PI):rb<w.heap.size:=an h.blk
theorem eV.on {w w':World}{rb:Nat}{c:Int}{bv pv:Value}{SL:List cA}{bs:List bK}{PI:List Int}(h:eV w rb c bv pv SL bs PI)(a:Below w.heap.size w w'):eV w' rb c bv pv SL bs PI:=
 ⟨ag h.blk a,h.bat.on a,h.len,fun i s b e d=>(h.bts i s b e d).on a,h.pin.on a⟩
theorem eV.c0 {w:World}{rb:Nat}{a:Int}{bv pv:Value}{SL:List cA}{bs:List bK}{PI:List Int}(h:eV w rb a bv pv SL bs PI):w.cell? ⟨rb,0,none⟩=some (.int .i64 a):=(af h.blk 0).trans rfl
theorem eV.c1 {w:World}{rb:Nat}{a:Int}{bv pv:Value}{SL:List cA}{bs:List bK}{PI:List Int}(h:eV w rb a bv pv SL bs PI):w.cell? ⟨rb,1,none⟩=some bv:=(af h.blk 1).trans rfl
theorem eV.c2 {w:World}{rb:Nat}{a:Int}{bv pv:Value}{SL:List cA}{bs:List bK}{PI:List Int}(h:eV w rb a bv pv SL bs PI):w.cell? ⟨rb,2,none⟩=some pv:=(af h.blk 2).trans rfl
theorem btc_some {bs:List bK}{k:Nat}(h:k<bs.length):bs[k]?=some (ff bs k):=by unfold ff; rw[List.getD_eq_getElem?_getD,zQ h]; rfl
theorem eV.batch {w:World}{rb:Nat}{j:Int}{bv pv:Value}{SL:List cA}{bs:List bK}{PI:List Int}(h:eV w rb j bv pv SL bs PI){k:Nat}(g:k<bs.length):
  ∃b off cap a c,bv=.slice (some ⟨b,off,none⟩) bs.length cap/\w.cell? ⟨b,off+k,none⟩=some (.slice a (ff bs k).length c)/\bL rE w (.slice a (ff bs k).length c) (ff bs k):=by
 have l:k<SL.length:=by rw[h.len]; exact g
 obtain⟨a,cap,e,_,_,n⟩:=h.bat.at
 obtain⟨b,off,rfl,_,o⟩:=n (by omega)
 have i:SL[k]?=some SL[k]:=zQ l;have d:=h.bts k _ _ i (btc_some g);have f:=rngS o i;obtain⟨a,c,m,_⟩:=d.at;rw[m] at f d
 exact⟨b,off,cap,a,c,by rw[e,h.len],f,d.at⟩
theorem at_step (bs:List bK)(k:Nat):dk bs (k+1)=jX (dk bs k) (gf (ff bs k)) (ff bs k).length:=rfl
theorem At_any (rb:Nat)(J:Int)(bv pv:Value)(SL:List cA)(bs:List bK)(PI:List Int)(v:Nat)(w:World)(G:eV w rb J bv pv SL bs PI)(al:v<=bs.length)(ak:bs.length<=100)(X:∀k,k<bs.length->(ff bs k).length<=8):
  Calls prog 69 #[some rb,v] w fun en w'=>∃rv,en=.returned rv/\bL rF w' rv (dk bs v)/\Below w.heap.size w w':=by
 have o:=ae G;clear G;go_enter func69,ntmps69
 go_wp2
 go_loopw [5,6,7,8,9,10] (fun fv i _ _ _ _ wr=>∃k:Nat,k<=v/\i=.int .i64 k/\Hid (bL rF wr fv (dk bs k))/\Hid (Below w.heap.size w wr)) (fun _ i _ _ _ _ _=>v-(intOf i).toNat)
 ·exact⟨0,by omega,rfl,ae (mV _),ae bu⟩
 obtain⟨k,aj,rfl,F,f⟩:=hrel
 by_cases ag:k<v
 ·have R:(k:Int)<v:=by omega
  have af:(k:Int)<bs.length:=by omega
  obtain⟨b,off,cap,ao,c,e,g,s⟩:=((aa o).on (aa f)).batch (k:=k) (by omega)
  have x:=((aa o).on (aa f)).c1
  have S:b<wr.heap.size:=by
   rcases yP b wr.heap.size with q|q
   ·exact q
   simp[World.cell?,xK q] at g
  have T:rb<wr.heap.size:=((aa o).on (aa f)).lt;rw[e] at x;obtain⟨a,t⟩:∃a,(ff bs k).length=a:=⟨_,rfl⟩
  have O:=X k (by omega)
  rw[t] at g s O;have E:=ae t;have V:=ae s;have U:=ae g;have M:=ae x;clear s e t
  go_wp2
  go_loopw [5,7,8,9,10] (fun fv i _ _ _ I=>∃j:Nat,j<=a/\i=.int .i64 j/\Hid (bL rF I fv (jX (dk bs k) (gf (ff bs k)) j))/\Hid (Below wr.heap.size wr I)) (fun _ i _ _ _ _=>a-(intOf i).toNat)
  ·exact⟨0,by omega,rfl,F,ae bu⟩
  obtain⟨j,ai,rfl,n,d⟩:=hrel;have Z:=((aa d).cell (p:=⟨rb,1,none⟩) T).trans (aa M);have ab:=((aa d).cell (p:=⟨b,off+k,none⟩) S).trans (aa U);clear x g
  by_cases ad:j<a
  ·have B:(j:Int)<a:=by omega
   obtain⟨ah,ac,W,_,_,H⟩:=aa V;have m:(ff bs k).length=a:=aa E;cases W
   obtain⟨r,h,rfl,P,C⟩:=H (by rw[m]; omega)
   have y:=rngE C (k:=j) (by rw[m]; omega)
   have D:wr.rangeAt r (h+j*25) (cc 25 (gf (ff bs k) j)).toList:=fun q u Y=>((aa d).cell (p:=⟨r,h+j*25+q,none⟩) P).trans (y q u Y);clear H C y m
   go_wp2_with (refine bU 100 (cc 25 (gf (ff bs k) j)) underlying100 rfl (sz56 _) r (h+j*25) D rfl _ rfl rfl ?_)
   refine(jD _ _ (gf (ff bs k) j) _ (aa n) (eZ (d7 bs k) j)).mono ?_;rintro en ap ⟨an,am,rfl,z,N,A⟩;have L:=ae z;have l:=ae ((aa d).trans (A.mono (aa d).size));clear z N A Z ab D
   go_wp2
   go_roundw
   ·exact⟨j+1,by omega,by go_num,L,l⟩
   simp[intOf]; omega
  have B:j=a:=by omega
  subst B
  have K:Hid (bL rF wr u5 (dk bs (k+1))):=by rw[at_step,aa E]; exact n
  have l:=ae ((aa f).trans ((aa d).mono (aa f).size));clear n
  go_wp2
  go_roundw
  ·exact⟨k+1,by omega,by go_num,K,l⟩
  simp[intOf]; omega
 have Q:k=v:=by omega
 subst Q
 have R:¬(k:Int)<k:=by omega
 go_wp2
 go_ret;exact⟨_,rfl,aa F,aa f⟩
end Go.Proofs.YtpabpniaekldeaaGreatDoor
