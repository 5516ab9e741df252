import Derived.Test.YtpabpniaekldeaaGreatDoorGase07
import Derived.Test.YtpabpniaekldeaaGreatDoorCards
import Derived.Test.YtpabpniaekldeaaGreatDoorTie
import Derived.Laws.BytesArg
import Derived.Laws.IdiomStrings
import Derived.Lib.AppendIntMem
import Derived.Lib.Strings
import Derived.OwnWalk
import Derived.Lib.SliceRun
import Derived.Laws.CopyRow
import Derived.ProofKit
import Derived.OpenShut
import Derived.ShutString
import Derived.LaidMore
import Derived.Lib.SmallJoins
import Derived.Deep.DeepHandedRow
import Derived.Lib.LaidTab
set_option maxHeartbeats 25600000
set_option maxRecDepth 20000
open Go.RowKit Go.Proofs.Tryz
namespace Go.Proofs.YtpabpniaekldeaaGreatDoor
theorem qq (f:Nat->Int)(w:World) :
  Calls prog 103 #[.agg (fc f)] w fun e w'=>e=.returned (.int .i64 (bif right f then 0 else 7))/\Below w.heap.size w w':=by
 have c:=zZ w (.cells (fc f) 66 (0,0))
 cases d:right f with
 | false=>
  go_enter func103,ntmps103
  go_wp2_with (refine dh rfl _ rfl _ rfl f c ?_)
  refine(jO f _).mono ?_;rintro e w1 ⟨rfl,a⟩;have b:=ae ((aj _ _).trans (a.mono (by simp)));clear a
  go_wp2
  go_ret
  exact⟨rfl,aa b⟩
 | true=>
  go_enter func103,ntmps103
  go_wp2_with (refine dh rfl _ rfl _ rfl f c ?_)
  refine(jO f _).mono ?_;rintro e w1 ⟨rfl,a⟩;have b:=ae ((aj _ _).trans (a.mono (by simp)));clear a
  go_wp2
  go_ret
  exact⟨rfl,aa b⟩
theorem sE (z:Int)(w:World)(h:dm z 0 22=false) :
  Calls prog 122 #[z] w fun e w'=>e=.returned (.int .i64 0)/\w=w':=by
 go_enter func122,ntmps122
 go_wp2_with (go_at_call 120;refine(bh _ _).mono ?_;rintro e w1 ⟨rfl,rfl⟩)
 go_ret
 exact⟨rfl,rfl⟩
theorem q7 (f:Nat->Int)(z x y:Int)(w:World) :
  Calls prog 104 #[.agg (fc f),z,x,y] w fun e w'=>e=.returned (.bool (lx f z x y))/\Below w.heap.size w w':=by
 have i:=zZ w (.cells (fc f) 66 (0,0))
 cases g:dm z 0 22 with
 | false=>
  have a:Hid (lx f z x y=false):=by show lx f z x y=_;simp[lx,g]
  have b:=fun l=>sE z l g;go_enter func104,ntmps104
  go_wp2_with (go_at_call 122;refine(b _).mono ?_;rintro e w1 ⟨rfl,rfl⟩)
  go_ret
  exact⟨ai (aa a).symm,aj _ _⟩
 | true=>
 have q:=(cV g).1;have r:=(cV g).2;have b:=fun l=>unit_yes z l q r;obtain⟨u1,u2⟩:=lA z q r;obtain⟨u,j⟩:∃u,un z=u:=⟨_,rfl⟩;rw[j] at b u1 u2;have u0:(u == 0)=false:=by simp;omega
 have v:=ae j;clear j
 cases k:dm x 0 1073741824 with
 | false=>
  have a:Hid (lx f z x y=false):=by show lx f z x y=_;simp[lx,k]
  go_enter func104,ntmps104
  go_wp2_with (first|(go_at_call 122;refine(b _).mono ?_;rintro e w1 ⟨rfl,rfl⟩)|(go_at_call 159;refine(dL _ _).mono ?_;rintro e w1 ⟨rfl,rfl⟩))
  go_ret
  exact⟨ai (aa a).symm,aj _ _⟩
 | true=>
 cases hy:dm y 0 1073741824 with
 | false=>
  have a:Hid (lx f z x y=false):=by show lx f z x y=_;simp[lx,hy]
  go_enter func104,ntmps104
  go_wp2_with (first|(go_at_call 122;refine(b _).mono ?_;rintro e w1 ⟨rfl,rfl⟩)|(go_at_call 159;refine(dL _ _).mono ?_;rintro e w1 ⟨rfl,rfl⟩))
  go_ret
  exact⟨ai (aa a).symm,aj _ _⟩
 | true=>
 have o:dC x:=cV k;have p:dC y:=cV hy;have A:=ae o;have B:=ae p;clear o p
 cases d:right f with
 | false=>
  have a:Hid (lx f z x y=false):=by show lx f z x y=_;simp[lx,d]
  go_enter func104,ntmps104
  go_wp2_with (first|(go_at_call 122;refine(b _).mono ?_;rintro e w1 ⟨rfl,rfl⟩)|(go_at_call 159;refine(dL _ _).mono ?_;rintro e w1 ⟨rfl,rfl⟩)|(refine dh rfl _ rfl _ rfl f i ?_))
  refine(pE d _).mono ?_;rintro e w1 ⟨rfl,c⟩;have h:=ae ((aj _ _).trans (c.mono (by simp)));clear c
  go_wp2
  go_ret
  exact⟨ai (aa a).symm,aa h⟩
 | true=>
  have a:Hid (lx f z x y=jZ f u x y):=by show lx f z x y=_;simp[lx,g,k,hy,d,aa v]
  have t:=ae (ci d);go_enter func104,ntmps104
  go_wp2_with (first|(go_at_call 122;refine(b _).mono ?_;rintro e w1 ⟨rfl,rfl⟩)|(go_at_call 159;refine(dL _ _).mono ?_;rintro e w1 ⟨rfl,rfl⟩)|(refine dh rfl _ rfl _ rfl f i ?_))
  refine(iA d _).mono ?_;rintro e w1 ⟨rfl,c⟩;have n:=ag i c;have h:=ae ((aj _ _).trans (c.mono (by simp)));clear c
  go_wp2_with (refine dh rfl _ rfl _ rfl f n ?_)
  refine(covers_any f u x y _ (aa t) (aa A) (aa B) ⟨by omega,by omega⟩).mono ?_;rintro e C ⟨rfl,m⟩;have s:=ae ((aa h).trans (m.mono (aa h).size));clear m n
  go_wp2
  go_ret
  exact⟨ai (aa a).symm,aa s⟩
theorem qN (f:Nat->Int)(b k m l z x y:Int)(w:World) :
  Calls prog 52 #[.agg (fc f),b,k,m,.agg #[.int .i64 l,z,x,.int .i64 y]] w fun e w'=>e=.returned (.bool true)/\Below w.heap.size w w':=by
 obtain⟨K,Y,J⟩:=ft w (.cells (fc f) 66 (0,0)) (.cells #[l,z,x,y] 39 (0,0));have C:=ae J;clear J;have L:=fun a=>nU f a;have M:=fun a=>qq f a;have N:=fun a=>q7 f b k m a;have O:=fun a=>mT f b k m a;have P:=fun a=>Touches_any f l z x y a;have Q:=fun a=>lJ f l z x y a;generalize (bif right f then (0:Int) else 7)=ak at L M;generalize lx f b k m=B at N O;generalize cJ f l z x y=D at P Q;go_enter func52,ntmps52
 go_wp2_with (refine dh rfl _ rfl _ rfl f K ?_)
 refine(L _).mono ?_;rintro e w1 ⟨rfl,c⟩;have n:=ag K c;have s:=ag Y c;have S:=af s;have E:=ae ((aa C).trans (c.mono (aa C).size));clear c
 go_wp2_with (refine dh rfl _ rfl _ rfl f n ?_)
 refine(M _).mono ?_;rintro e ac ⟨rfl,d⟩;have o:=ag n d;have t:=ag s d;have T:=af t;have F:=ae ((aa E).trans (d.mono (aa E).size));clear d n s S
 go_wp2_with (refine dh rfl _ rfl _ rfl f o ?_)
 refine(N _).mono ?_;rintro e ad ⟨rfl,g⟩;have p:=ag o g;have u:=ag t g;have U:=af u;have G:=ae ((aa F).trans (g.mono (aa F).size));clear g o t T
 go_wp2_with (refine dh rfl _ rfl _ rfl f p ?_)
 refine(O _).mono ?_;rintro e ah ⟨rfl,h⟩;have q:=ag p h;have v:=ag u h;have V:=af v;have H:=ae ((aa G).trans (h.mono (aa G).size));clear h p u U
 go_wp2_with (refine dh rfl _ rfl _ rfl f q ?_)
 refine(P _).mono ?_;rintro e ai ⟨rfl,i⟩;have r:=ag q i;have A:=ag v i;have W:=af A;have I:=ae ((aa H).trans (i.mono (aa H).size));clear i q v V
 go_wp2_with (refine dh rfl _ rfl _ rfl f r ?_)
 refine(Q _).mono ?_;rintro e aj ⟨rfl,j⟩;have X:=ag r j;have Z:=ag A j;have ab:=af Z;have R:=ae ((aa I).trans (j.mono (aa I).size));clear j r A W
 go_wp2_with (refine dh rfl _ rfl _ rfl f X ?_)
 go_ret
 exact⟨rfl,aa R⟩
theorem mK (l:List UInt8):(⟨l.toArray⟩:ByteArray).size=l.length:=rfl
theorem sq (d:Nat)(g ver:Int)(sl pv:Value)(LS:List (Nat->Int))(v l z x y:Int)(w:World)(c:Sto w d g ver sl pv LS)(b:keyErr l z x y=0)(p:ver<v)(o:0<=ver) :
  Calls prog 38 #[some d,v,.agg #[.int .i64 l,z,x,.int .i64 y]] w fun e w'=>e=.returned (.tuple #[(),.int .i64 12])/\Below w.heap.size w w':=by
 have h:=zZ w (.cells #[l,z,x,y] 39 (0,0));have f:=fun m=>bV l z x y m;rw[b] at f;have j:=ae (c.on (aj w (.cells #[l,z,x,y] 39)));clear c b;go_enter func38,ntmps38
 go_wp2_with fail
 refine(f _).mono ?_;rintro e w1 ⟨rfl,a⟩;obtain⟨q,k⟩:=((aa j).on a).cells;have i:=ae ((aj _ _).trans (a.mono (by simp)));have n:¬v<0:=by omega
 clear a h k
 go_wp2
 go_ret2
 exact⟨rfl,aa i⟩
theorem pT {FL:List (Nat->Int)}{a b:Int}(h:a<=b):∀k,gH FL a k<=gH FL b k
 | 0=>zz _
 | k+1=>by
  have:=pT (FL:=FL) h k;rw[gH,gH]
  by_cases c:gf FL k 0<=a
  ·rw[zJ c,zJ (by omega)];omega
  rw[zK c];split<;>omega
theorem gE {FL:List (Nat->Int)}{a b:Int}{j:Nat}(d:¬gf FL j 0<=a)(f:gf FL j 0<=b):∀k,j<k->gH FL a k+1<=gH FL b k
 | 0,h=>by omega
 | k+1,h=>by
  rw[gH,gH]
  by_cases e:j=k
  ·subst e
   rw[zK d,zJ f];have:=pT (FL:=FL) (a:=a) (b:=b) (by omega) j;omega
  have:=gE d f k (by omega)
  by_cases c:gf FL k 0<=a
  ·rw[zJ c,zJ (by omega)];omega
  rw[zK c];split<;>omega
theorem jB.lower {FL R:List (Nat->Int)}{a:Int}(h:jB FL a R):∀i,i<=R.length->gH FL a FL.length+i<=gH FL (lP a R i) FL.length
 | 0,_=>zz _
 | i+1,hi=>by
  have g:=h.lower i (by omega);obtain⟨j,c,d⟩:=h.mem i (by omega);have f:=h.ris i (by omega);have e:=d 0 (by omega);have:=gE (FL:=FL) (a:=lP a R i) (b:=gf R i 0) (j:=j) (by omega) (by omega) FL.length c
  show _<=gH FL (gf R i 0) FL.length
  omega
theorem jB.upper {FL R:List (Nat->Int)}{a:Int}(h:jB FL a R):∀c i,i+c=R.length->gH FL (lP a R i) FL.length+c<=gH FL (lP a R R.length) FL.length
 | 0,i,hi=>by rw[show i=R.length by omega];omega
 | c+1,i,hi=>by
  have g:=h.upper c (i+1) (by omega);obtain⟨j,d,f⟩:=h.mem i (by omega);have l:=h.ris i (by omega);have k:=f 0 (by omega);have:=gE (FL:=FL) (a:=lP a R i) (b:=gf R i 0) (j:=j) (by omega) (by omega) FL.length d;have e:lP a R (i+1)=gf R i 0:=rfl;rw[e] at g;omega
theorem jB.pre {FL R:List (Nat->Int)}{a:Int}(h:jB FL a R){i:Nat}(hi:i<=R.length):gH FL (lP a R i) FL.length=gH FL a FL.length+i:=by
 have b:=h.lower i hi;have c:=h.upper (R.length-i) i (by omega);have d:=h.cnt;omega
theorem jB.same {FL R e:List (Nat->Int)}{a f:Int}(t:Dis FL)(h:jB FL a R)(l:jB FL f e){i d:Nat}(hi:i<R.length)(o:d<e.length)(w:gH FL a FL.length+i=gH FL f FL.length+d):SF (gf R i) (gf e d):=by
 have r:=h.pre (i:=i+1) (by omega);have s:=l.pre (i:=d+1) (by omega);have p:lP a R (i+1)=gf R i 0:=rfl;have q:lP f e (d+1)=gf e d 0:=rfl;rw[p] at r;rw[q] at s;obtain⟨j,m,n⟩:=h.mem i hi;obtain⟨j',g,k⟩:=l.mem d o;have u:=n 0 (by omega);have v:=k 0 (by omega);have:gf R i 0=gf e d 0:=by
  rcases Int.lt_trichotomy (gf R i 0) (gf e d 0) with c|c|c
  ·have:=gE (FL:=FL) (a:=gf R i 0) (b:=gf e d 0) (j:=j') (by omega) (by omega) FL.length g
   omega
  ·exact c
  have:=gE (FL:=FL) (a:=gf e d 0) (b:=gf R i 0) (j:=j) (by omega) (by omega) FL.length m;omega
 have:=dis_out t j j' m g (by omega);subst this
 exact n.trans k.symm
theorem lT {α:Type}{p:α->Bool}:∀(l:List α)(c:Nat),(∀i (h:i<l.length),p l[i]=decide (c<=i))->l.filter p=l.drop c
 | [],c,_=>by simp
 | a::l,0,h=>by
  have b:=h 0 (by simp);have:=lT l 0 fun i hi=>by
   have:=h (i+1) (by simpa using hi);simpa using this
  rw[List.filter_cons,this];simp at b;simp[b]
 | a::l,c+1,h=>by
  have b:=h 0 (by simp);have:=lT l c fun i hi=>by
   have:=h (i+1) (by simpa using hi);simpa using this
  rw[List.filter_cons,this];simp at b;simp[b]
theorem so {FL B:List (Nat->Int)}{a:Int}(g:Dis FL)(h:jB FL a B){j:Nat}(b:j<FL.length)(e:lP a B B.length<gf FL j 0)(hm:∀q,q<FL.length->lP a B B.length<gf FL q 0->gf FL j 0<=gf FL q 0):jB FL a (B++[gf FL j]):=by
 refine h.add ⟨j,b,fun _ _=>rfl,e,?_⟩;refine cle_more j (by omega) (yw _) _ b fun q d f=>⟨fun i=>by omega,fun i=>?_⟩
 by_cases c:gf FL q 0<=lP a B B.length
 ·exact c
 have:=hm q d (by omega)
 exact absurd (dis_out g q j d b (by omega)) f
structure rZ (FL B:List (Nat->Int)):Prop where
 rd:jB FL 0 B
 len:B.length=FL.length
def gT (B:List (Nat->Int)) (a:Int) (n:Nat):List (Nat->Int):=(B.filter fun f=>decide (a<f 0)).take n
theorem rZ.filter {FL B:List (Nat->Int)}(h:rZ FL B)(m:∀j,j<FL.length->0<gf FL j 0)(a:Int):(B.filter fun f=>decide (a<f 0))=B.drop (gH FL a FL.length):=by
 have l:gH FL 0 FL.length=0:=mq _ fun j d=>m j d;refine lT B _ fun i hi=>?_;have e:=h.rd.pre (i:=i+1) (by omega);have g:lP 0 B (i+1)=gf B i 0:=rfl;rw[g,l] at e;obtain⟨j,d,n⟩:=h.rd.mem i hi;have k:=n 0 (by omega);rw[mf hi] at e k
 by_cases c:a<B[i] 0
 ·rw[zU c]
  have:=gE (FL:=FL) (a:=a) (b:=B[i] 0) (j:=j) (by omega) (by omega) FL.length d
  exact(zU (by omega)).symm
 rw[zG c];have:=pT (FL:=FL) (a:=B[i] 0) (b:=a) (by omega) FL.length
 exact(zG (by omega)).symm
theorem rQ {FL B R:List (Nat->Int)}{a:Int}{n:Nat}(h:Dis FL)(g:∀j,j<FL.length->0<gf FL j 0)(b:rZ FL B)(f:jB FL a R)(r:R.length<=n)(k:R.length=n\/gH FL (lP a R R.length) FL.length=FL.length) :
  R.length=(gT B a n).length/\∀i,i<R.length->SF (gf R i) (gf (gT B a n) i):=by
 have p:gH FL 0 FL.length=0:=mq _ fun j l=>g j l;have hm:=cle_le FL a FL.length;have q:=f.cnt;have o:=cle_le FL (lP a R R.length) FL.length;have m:=b.len;unfold gT;rw[b.filter g];have c:R.length=((B.drop (gH FL a FL.length)).take n).length:=by
  rw[zD,yz]
  rcases k with e|e<;>omega
 refine⟨c,fun i hi=>?_⟩;have d:i<n/\gH FL a FL.length+i<B.length:=by
  rw[zD,yz] at c;omega
 have:gf ((B.drop (gH FL a FL.length)).take n) i=gf B (gH FL a FL.length+i):=by
  unfold gf;rw[zs d.1,yD]
 rw[this]
 exact f.same h b.rd hi d.2 (by omega)
theorem bf.toF {w:World}{B:Nat}{v:Value}{l:List (Nat->Int)}(h:bf 66 24 w B v l):ah rF 66 w v l:=by
 obtain⟨k,b⟩:=h
 rcases b with ⟨rfl,d⟩|⟨g,cap,a,rfl,_,c,e,f,i,j⟩
 ·exact Or.inl ⟨rfl,yU d⟩
 exact Or.inr ⟨g,0,cap,a,rfl,c,e,f,by rw[i];show 0+cap*24<=cap*24;omega,by rw[List.drop_zero];exact j⟩
theorem tp:(prog.info? 53).map (fun i=>(i.zero,i.size,i.bytes))=some (some (.agg #[.pointer none,.pointer none]),2,16):=by kernel_rfl
theorem tq {w:World}{v x:Value}{l a:List Two}(h:ah rTwo 53 w v l)(j:bL rTwo w x a)(k:l.length+a.length<=100000000) :
  ∃b w',(Builtin.append_ #[34,34] 34 #[v,x]).run prog w=.ok b w'/\ah rTwo 53 w' b (l++a)/\w.grownBy w' v.ownBlock/\(b.ownBlock=v.ownBlock\/∀g,b.ownBlock=some g->w.heap.size<=g):=by
 obtain⟨i,c,d,e,f⟩:=ee tp
 exact ah.append (R:=rTwo) (P:=prog) 34 34 i _ 16 underlying34 c d e f rfl h a x j (by unfold maxLen;omega) (by omega)
theorem tm (p q:Nat)(ev:Operand->Value)(o:Oper)(x:Operand)(a:o.op=.buildSlice 34 1 #[(0,x)])(b:ev x=.agg #[some p,some q])(w:World):(execOp ev o).run prog w=.ok (.value (.slice (some ⟨w.heap.size,0,none⟩) 1 1)) (w.alloc (.cells #[some p,some q] 53)):=by
 unfold execOp;simp only[a];simp only[yN,zA,yQ,b]
 kernel_rfl
section
variable {w:World}{rb:Nat}{keep:Int}{bv pv:Value}{SL:List cA}{bs:List bK}{PI:List Int}
def pX (w:World) (rb:Nat) (keep:Int) (bv pv:Value) (SL:List cA) (bs:List bK) (PI:List Int) (v:Int) (e:Ending) (w':World):Prop:=
 (bS keep (bs.length:Nat) (ri PI) v=false/\e=.returned (.int .i64 12)/\Below w.heap.size w w')\/(bS keep (bs.length:Nat) (ri PI) v=true/\6<=PI.length/\e=.returned (.int .i64 13)/\Below w.heap.size w w')\/
 (bS keep (bs.length:Nat) (ri PI) v=true/\PI.length<6/\e=.returned (.int .i64 0)/\aE (fun k=>k=rb\/pv.ownBlock=some k) w w'/\∃pv',eV w' rb keep bv pv' SL bs (PI++[v])/\(pv'.ownBlock=pv.ownBlock\/∀g,pv'.ownBlock=some g->w.heap.size<=g))
theorem eV.pinned {w' n:World}{e:Value}{m:List Int}(h:eV w rb keep bv pv SL bs PI)(j:aE (fun k=>pv.ownBlock=some k) w w')(p:ah rI 3 w' e m)(u:n=w'.setCell ⟨rb,2,none⟩ e):eV n rb keep bv e SL bs m:=by
 subst u;have o:w'.heap[rb]?=some (.cells #[keep,bv,pv] 121 (0,0)):=aQ h.blk j fun q=>(by obtain⟨d,a⟩:=h.pin.ty q;exact aI a h.blk (by decide) rfl);refine⟨?_,?_,h.len,fun i s b v r=>?_,?_⟩
 ·show(w'.setCell ⟨rb,2,none⟩ e).heap[rb]?=_
  simp[World.setCell,zk,o]
 ·refine(h.bat.frm j fun g c q=>?_).same fun g c=>zW _ _ _ _ ?_
  ·obtain⟨d,a⟩:=h.bat.ty c
   obtain⟨t,f⟩:=h.pin.ty q
   exact aI a f (by decide) rfl
  obtain⟨d,a⟩:=h.bat.ty c
  exact aI a h.blk (by decide)
 ·have l:=h.bts i s b v r
  refine(l.frm j fun g c q=>?_).same fun g c=>zW _ _ _ _ ?_
  ·obtain⟨d,a⟩:=l.ty c
   obtain⟨t,f⟩:=h.pin.ty q
   exact aI a f (by decide) rfl
  obtain⟨d,a⟩:=l.ty c
  exact aI a h.blk (by decide)
 exact p.same fun g c=>zW _ _ _ _ (by obtain⟨d,a⟩:=p.ty c;exact aI a o (by decide))
end
section
variable {w:World}{rb:Nat}{keep:Int}{bv pv:Value}{SL:List cA}{bs:List bK}{PI:List Int}
theorem sj (v:Int)(n:eV w rb keep bv pv SL bs PI)(M:PI.length<=6)(C:bs.length<=100) :
  Calls prog 31 #[some rb,v] w fun e w'=>pX w rb keep bv pv SL bs PI v e w':=by
 have i:=ae (IsHeld_any (v:=v) n (by omega) C);have y:=ae n;clear n
 cases f:bS keep (bs.length:Nat) (ri PI) v with
 | false=>
  rw[f] at i;go_enter func31,ntmps31
  go_wp2_with fail
  refine(aa i).mono ?_;rintro e w1 ⟨rfl,a⟩;have d:Hid (pX w rb keep bv pv SL bs PI v (.returned (.int .i64 12)) w1):=Or.inl ⟨f,rfl,a⟩;clear a
  go_wp2
  go_ret
  exact aa d
 | true=>
  rw[f] at i;go_enter func31,ntmps31
  go_wp2_with fail
  refine(aa i).mono ?_;rintro e w1 ⟨rfl,a⟩;have h:=(aa y).on a;have J:=h.c2;have c:=ae h;have k:=ae a;obtain⟨j,cap,u⟩:=h.pin.slice;subst u;clear h a
  by_cases A:6<=PI.length
  ·have t:(5:Int)<PI.length:=by omega
   have d:Hid (pX w rb keep bv (.slice j PI.length cap) SL bs PI v (.returned (.int .i64 13)) w1):=Or.inr (Or.inl ⟨f,A,rfl,aa k⟩)
   go_wp2
   go_ret
   exact aa d
  have t:¬(5:Int)<PI.length:=by omega
  obtain⟨N,s,H,o,p,b⟩:=apI ((aa c).pin.on ((zV _ _).alloc (zz _) (.cells #[v] 3))) (aZ rI 3 w1 v #[.int .i64 v] rfl) (by simp;omega);obtain⟨F,E,D,x⟩:=o.slc;subst x;have r:=cn (aa k) p;have l:=cn (zV w1.heap.size w1) p;have m:s.heap[rb]?=some (.cells #[keep,bv,.slice j PI.length cap] 121 (0,0)):=aQ (aa c).blk l (fun q=>by obtain⟨I,z⟩:=(aa c).pin.ty q;exact aI z (aa c).blk (by decide) rfl);have K:=(af m 2).trans (show _=some (Value.slice j PI.length cap) from rfl);have L:=bi m 2;have d:Hid (pX w rb keep bv (.slice j PI.length cap) SL bs PI v (.returned (.int .i64 0)) (s.setCell ⟨rb,2,none⟩ (.slice F E D))):=by
   refine Or.inr (Or.inr ⟨f,by omega,rfl,(r.mono fun _ _ q=>Or.inr q).setCell _ (fun _=>Or.inl rfl),_,(aa c).pinned l o rfl,?_⟩)
   rcases b with b|b
   ·exact Or.inl b
   exact Or.inr fun g B=>by have G:=b g B;have:=(aa k).size;simp at G;omega
  clear o p b r l m
  go_wp2_with (first|refine cP _ _ (bsI v _ _ _ rfl rfl _) rfl ?_|(at_builtin;refine fS 60 H rfl _ _ rfl rfl rfl rfl ?_))
  go_ret
  exact aa d
def qj (w:World) (rb:Nat) (keep:Int) (bv:Value) (SL:List cA) (bs:List bK) (PI:List Int) (v:Int) (e:Ending) (w':World):Prop:=
 (v∉PI/\e=.returned (.int .i64 12)/\Below w.heap.size w w')\/(v∈PI/\e=.returned (.int .i64 0)/\aE (fun k=>k=rb) w w'/\∃pv',eV w' rb keep bv pv' SL bs (PI.erase v)/\∀g,pv'.ownBlock=some g->w.heap.size<=g)
theorem rA (v:Int)(r:eV w rb keep bv pv SL bs PI)(ak:PI.length<=6) :
  Calls prog 33 #[some rb,v] w fun e w'=>qj w rb keep bv SL bs PI v e w':=by
 have G:=r.c2;have Q:=r.lt;obtain⟨al,cap,e,_,_,N⟩:=r.pin.at;rw[e] at G;have U:=ae N;have V:=ae r;have O:=ae G;clear N r G e;go_enter func33,ntmps33
 go_wp2
 go_loopw [5,6,7] (fun lv fv i wr=>∃(k:Nat),k<=PI.length/\i=.int .i64 k/\Hid (fv=.bool (decide (v∈PI.take k)))/\Hid (ah rI 3 wr lv ((PI.take k).erase v))/\Hid (∀g,lv.ownBlock=some g->w.heap.size<=g)/\Hid (Below w.heap.size w wr)) (fun _ _ i _=>PI.length-(intOf i).toNat)
 ·exact⟨0,by omega,rfl,ae (by simp),ae (by simpa using (aU (R:=rI) (T:=3) (w:=w))),ae (fun g q=>by simp[Value.ownBlock] at q),ae (zV _ _)⟩
 obtain⟨k,aj,rfl,I,s,C,d⟩:=hrel;have f:=aa I;clear I;have am:=((aa d).cell (p:=⟨rb,2,none⟩) Q).trans (aa O)
 by_cases E:k<PI.length
 ·have J:(k:Int)<PI.length:=by omega
  obtain⟨b,off,rfl,P,H⟩:=aa U (by omega);have hi:PI[k]?=some PI[k]:=zQ E;have W:=((aa d).cell (p:=⟨b,off+k,none⟩) P).trans (rngI H hi);have z:=ae (take_erase (v:=v) E);have x:=ae (m0 (v:=v) E);obtain⟨X,M⟩:∃X,PI[k]=X:=⟨_,rfl⟩;rw[M] at W z x;clear H hi M;have Y:((PI.take k).erase v).length<=6:=by
   have:=List.length_erase_le (a:=v) (l:=PI.take k);have ai:(PI.take k).length<=k:=by simp;omega
   omega
  obtain⟨af,an,B,K,L,o⟩:=apI ((aa s).on ((zV _ _).alloc (zz _) (.cells #[.int .i64 X] 3))) (aZ rI 3 wr X #[.int .i64 X] rfl) (by simp;omega);have y:=ae K;have u:Hid (∀g,af.ownBlock=some g->w.heap.size<=g):=fun g q=>by
   rcases o with o|o
   ·exact aa C g (o▸q)
   have ad:=o g q;have:=(aa d).size;simp at ad;omega
  have t:=ae (((aa d).alloc (aa d).size _).grown L (by have:=(aa d).size;simp;omega) (fun g q=>aa C g q));clear K L o Y
  by_cases c:v∈PI.take k
  ·rw[zU c] at f
   subst f;have m:Hid (decide (v∈PI.take (k+1))=true):=zU ((aa x).2 (Or.inl c));have n:Hid ((PI.take (k+1)).erase v=(PI.take k).erase v++[X]):=by show(PI.take (k+1)).erase v=_;rw[aa z,zJ c]
   clear c
   by_cases j:X=v
   ·subst j
    go_wp2_with (first|refine cP _ _ (bsI X _ _ _ rfl rfl _) rfl ?_|(at_builtin;refine fS 60 B rfl _ _ rfl rfl rfl rfl ?_))
    go_roundw
    ·exact⟨k+1,by omega,by go_num,ae (by rw[aa m]),by rw[aa n];exact y,u,t⟩
    simp[intOf];omega
   go_wp2_with (first|refine cP _ _ (bsI X _ _ _ rfl rfl _) rfl ?_|(at_builtin;refine fS 60 B rfl _ _ rfl rfl rfl rfl ?_))
   go_roundw
   ·exact⟨k+1,by omega,by go_num,ae (by rw[aa m]),by rw[aa n];exact y,u,t⟩
   simp[intOf];omega
  rw[zG c] at f;subst f;have A:(PI.take k).erase v=PI.take k:=List.erase_of_not_mem c
  by_cases j:X=v
  ·have m:Hid (decide (v∈PI.take (k+1))=true):=zU ((aa x).2 (Or.inr j.symm))
   have n:Hid ((PI.take (k+1)).erase v=(PI.take k).erase v):=by show(PI.take (k+1)).erase v=_;rw[aa z,zK c,zJ j,A]
   subst j;clear A B y u t c
   go_wp2
   go_roundw
   ·exact⟨k+1,by omega,by go_num,ae (by rw[aa m]),by rw[aa n];exact s,C,d⟩
   simp[intOf];omega
  have m:Hid (decide (v∈PI.take (k+1))=false):=zG (fun h=>by rcases (aa x).1 h with h|h;exact c h;exact j h.symm);have n:Hid ((PI.take (k+1)).erase v=(PI.take k).erase v++[X]):=by show(PI.take (k+1)).erase v=_;rw[aa z,zK c,zK j,A]
  clear A c
  go_wp2_with (first|refine cP _ _ (bsI X _ _ _ rfl rfl _) rfl ?_|(at_builtin;refine fS 60 B rfl _ _ rfl rfl rfl rfl ?_))
  go_roundw
  ·exact⟨k+1,by omega,by go_num,ae (by rw[aa m]),by rw[aa n];exact y,u,t⟩
  simp[intOf];omega
 have J:k=PI.length:=by omega
 subst J;rw[zx] at f s
 by_cases c:v∈PI
 ·rw[zU c] at f
  subst f;have D:=(aa V).on (aa d);have ag:=bi D.blk 2;obtain⟨ac,ab,Z,S⟩:=(aa s).slc;subst S;have F:Hid (qj w rb keep bv SL bs PI v (.returned (.int .i64 0)) (wr.setCell ⟨rb,2,none⟩ (.slice ac ab Z))):=by
   refine Or.inr ⟨c,rfl,(aE.of_below (aa d)).setCell _ (fun _=>rfl),_,D.pinned (aE.rfl' _ _) (aa s) rfl,aa C⟩
  clear D c
  go_wp2
  go_ret
  exact aa F
 rw[zG c] at f;subst f;have F:Hid (qj w rb keep bv SL bs PI v (.returned (.int .i64 12)) wr):=Or.inl ⟨c,rfl,aa d⟩;clear c
 go_wp2
 go_ret
 exact aa F
end
def ge (FL:List (Nat->Int)) (L:Int) (i:Nat) (m:Int):Prop:=
 (m=-1/\∀j,j<i->¬L<gf FL j 0)\/∃q:Nat,q<i/\m=q/\L<gf FL q 0/\∀j,j<i->L<gf FL j 0->gf FL q 0<=gf FL j 0
theorem ge.skip {FL:List (Nat->Int)}{a:Int}{i:Nat}{f:Int}(h:ge FL a i f)(d:¬a<gf FL i 0):ge FL a (i+1) f:=by
 rcases h with ⟨e,h⟩|⟨q,m,e,g,k⟩
 ·refine Or.inl ⟨e,fun j l=>?_⟩
  by_cases c:j=i
  ·subst c;exact d
  exact h j (by omega)
 refine Or.inr ⟨q,by omega,e,g,fun j l b=>?_⟩
 by_cases c:j=i
 ·subst c;exact absurd b d
 exact k j (by omega) b
theorem ge.first {FL:List (Nat->Int)}{a:Int}{i:Nat}(h:ge FL a i (-1))(d:a<gf FL i 0):ge FL a (i+1) i:=by
 refine Or.inr ⟨i,by omega,rfl,d,fun j f b=>?_⟩
 by_cases c:j=i
 ·subst c;exact yw _
 rcases h with ⟨_,h⟩|⟨q,g,e,_⟩
 ·exact absurd b (h j (by omega))
 omega
theorem ge.stay {FL:List (Nat->Int)}{b:Int}{i q:Nat}(h:ge FL b i q)(l:¬gf FL i 0<gf FL q 0):ge FL b (i+1) q:=by
 rcases h with ⟨e,_⟩|⟨a,m,e,d,f⟩
 ·omega
 obtain rfl:a=q:=by omega
 refine Or.inr ⟨a,by omega,rfl,d,fun j k g=>?_⟩
 by_cases c:j=i
 ·subst c;omega
 exact f j (by omega) g
theorem ge.take {FL:List (Nat->Int)}{a:Int}{i q:Nat}(h:ge FL a i q)(b:a<gf FL i 0)(m:gf FL i 0<gf FL q 0):ge FL a (i+1) i:=by
 rcases h with ⟨e,_⟩|⟨g,n,e,k,d⟩
 ·omega
 obtain rfl:g=q:=by omega
 refine Or.inr ⟨i,by omega,rfl,b,fun j l f=>?_⟩
 by_cases c:j=i
 ·subst c;exact yw _
 have:=d j (by omega) f;omega
theorem ge.lt {FL:List (Nat->Int)}{c:Int}{i:Nat}{a:Int}(h:ge FL c i a):a=-1\/∃q:Nat,q<i/\a=q:=by
 rcases h with ⟨e,_⟩|⟨q,b,e,_⟩
 ·exact Or.inl e
 exact Or.inr ⟨q,b,e⟩
theorem sg (v:Value)(FL:List (Nat->Int))(w:World)(aA:bL rF w v FL)(aL:FL.length<=40)(V:Dis FL)(Z:∀j,j<FL.length->0<gf FL j 0) :
  Calls prog 74 #[v] w fun e w'=>∃rv B,e=.returned rv/\ah rF 66 w' rv B/\rZ FL B/\Below w.heap.size w w':=by
 obtain⟨aN,cap,rfl,aG,hm,U⟩:=aA;have au:=ae U;have av:=ae V;have aw:=ae Z;clear U hm V Z;go_enter func74,ntmps74
 go_wp2
 go_loopw [3,4,5,6,7] (fun ac aB i _ _ wr=>∃(k:Nat) (B:List (Nat->Int)),k<=FL.length/\i=.int .i64 k/\aB=.int .i64 (lP 0 B k)/\Hid (ah rF 66 wr ac B)/\Hid (∀g,ac.ownBlock=some g->w.heap.size<=g)/\Hid (jB FL 0 B/\B.length=k)/\Hid (Below w.heap.size w wr)) (fun _ _ i _ _ _=>FL.length-(intOf i).toNat)
 ·exact⟨0,[],by omega,rfl,rfl,ae aU,ae (fun g s=>by simp[Value.ownBlock] at s),ae ⟨rdP_nil _ _,rfl⟩,ae (zV _ _)⟩
 obtain⟨k,B,aK,rfl,rfl,Y,W,f,L⟩:=hrel
 by_cases aH:k<FL.length
 ·have O:(k:Int)<FL.length:=by omega
  obtain⟨d,K⟩:∃d,lP 0 B k=d:=⟨_,rfl⟩;rw[K];have I:=ae K;clear K;obtain⟨b,off,rfl,x,N⟩:=aa au (by omega);have C:=ae N;clear N
  go_wp2
  go_loopw [6,7] (fun be i aE=>∃(j:Nat) (A:Int),j<=FL.length/\i=.int .i64 j/\be=.int .i64 A/\Hid (ge FL d j A)/\Hid (Below wr.heap.size wr aE)) (fun _ i _=>FL.length-(intOf i).toNat)
  ·exact⟨0,-1,by omega,rfl,rfl,ae (Or.inl ⟨rfl,fun j z=>by omega⟩),ae (zV _ _)⟩
  obtain⟨j,A,z,rfl,rfl,r,n⟩:=hrel;have c:=(aa L).trans ((aa n).mono (aa L).size)
  by_cases an:j<FL.length
  ·have G:(j:Int)<FL.length:=by omega
   have J:wr.cell? ⟨b,off+j*24,none⟩=some (.int .i64 (gf FL j 0)):=(c.cell (p:=⟨b,off+j*24,none⟩) x).trans (fc_rng (rngF (aa C) an) 0 (by omega));obtain⟨X,l⟩:∃X,gf FL j 0=X:=⟨_,rfl⟩;rw[l] at J
   by_cases D:d<X
   ·rcases (aa r).lt with rfl|⟨q,ab,rfl⟩
    ·have m:Hid (ge FL d (j+1) j):=(aa r).first (by rw[l];exact D)
     clear l c
     go_wp2_with fail
     go_quiet (fail)
     go_wp2
     go_roundw
     ·exact⟨j+1,_,by omega,by go_num,rfl,m,ae (by repeat first|exact aa n|refine ap ?_ _|refine zE ?_)⟩
     simp[intOf];omega
    have aq:(q:Int)<FL.length:=by omega
    have ao:¬(q:Int)<0:=by omega
    have ay:wr.cell? ⟨b,off+q*24,none⟩=some (.int .i64 (gf FL q 0)):=(c.cell (p:=⟨b,off+q*24,none⟩) x).trans (fc_rng (rngF (aa C) (show q<FL.length by omega)) 0 (by omega));obtain⟨M,y⟩:∃M,gf FL q 0=M:=⟨_,rfl⟩;rw[y] at ay
    by_cases E:X<M
    ·have m:Hid (ge FL d (j+1) j):=(aa r).take (by rw[l];exact D) (by rw[l,y];exact E)
     clear l y c
     go_wp2_with fail
     go_quiet (fail)
     go_wp2
     go_roundw
     ·exact⟨j+1,_,by omega,by go_num,rfl,m,ae (by repeat first|exact aa n|refine ap ?_ _|refine zE ?_)⟩
     simp[intOf];omega
    have m:Hid (ge FL d (j+1) q):=(aa r).stay (by rw[l,y];exact E);clear l y c
    go_wp2_with fail
    go_quiet (fail)
    go_wp2
    go_roundw
    ·exact⟨j+1,_,by omega,by go_num,rfl,m,ae (by repeat first|exact aa n|refine ap ?_ _|refine zE ?_)⟩
    simp[intOf];omega
   have m:Hid (ge FL d (j+1) A):=(aa r).skip (by rw[l];exact D);have ad:b<wr.heap.size:=zC x c.size;clear l c
   go_wp2_with fail
   refine aM (by kernel_rfl) (by kernel_rfl) ?_;refine lN rfl _ rfl (.slice (some ⟨b,off,none⟩) FL.length cap) rfl ?_;simp only[qZ];refine lN rfl _ rfl (.int .i64 j) rfl ?_;simp only[qZ];refine q_val rfl (.pointer (some ⟨b,off+j*24,none⟩)) (fun _ _=>by simp[go_sem,G]) ?_;simp only[qZ];refine q_val rfl (.pointer (some ⟨b,off+j*24,none⟩)) (fun _ _=>by simp[go_sem]) ?_;simp only[qZ];refine q_val rfl (.int .i64 X) (fun w' h=>by simp[go_sem,(h.cell (p:=⟨b,off+j*24,none⟩) ad).trans J]) ?_;simp only[qZ];refine lN rfl _ rfl (.int .i64 d) rfl ?_;simp only[qZ];refine q_val rfl (.bool false) (fun _ _=>by simp[go_sem];omega) ?_;simp only[qZ];refine lN rfl _ rfl (.bool false) rfl ?_;simp only[qZ]
   go_big_quiet_skip
   go_big_quiet_skip
   go_big_quiet_skip
   go_big_quiet_skip
   go_big_quiet_skip
   go_big_quiet_skip
   go_big_quiet_skip
   go_big_quiet_skip
   go_big_quiet_skip
   go_big_quiet_skip
   go_big_quiet_skip
   go_big_quiet_skip
   go_big_quiet_skip
   go_big_quiet_skip
   go_big_quiet_skip
   refine q_val rfl (.bool false) (fun _ _=>by simp[go_sem]) ?_;simp only[qZ];refine zq ?_;intro aO R;have ai:=ae ((aa n).trans (R.mono (aa n).size));clear R J
   go_wp2
   go_roundw
   ·exact⟨j+1,_,by omega,by go_num,rfl,m,ai⟩
   simp[intOf];omega
  have G:j=FL.length:=by omega
  subst G;have ab:∃q:Nat,q<FL.length/\A=q/\d<gf FL q 0/\∀j,j<FL.length->d<gf FL j 0->gf FL q 0<=gf FL j 0:=by
   rcases aa r with ⟨_,h⟩|h
   ·exfalso
    have D:=cle_all (FL:=FL) (a:=d) FL.length fun j z=>by have:=h j z;omega
    have E:=(aa f).1.cnt;have aJ:gH FL 0 FL.length=0:=mq _ fun j z=>aa aw j z;rw[(aa f).2,aa I] at E;omega
   exact h
  obtain⟨q,H,rfl,P,Q⟩:=ab;have aq:(q:Int)<FL.length:=by omega
  have ao:(0:Int)<=q:=by omega
  have ar:wr.rangeAt b (off+q*24) (fc (gf FL q)).toList:=fun t u az=>(c.cell (p:=⟨b,off+q*24+t,none⟩) x).trans (rngF (aa C) H t u az);have af:Hid (jB FL 0 (B++[gf FL q])/\(B++[gf FL q]).length=k+1):=by
   refine⟨so (aa av) (aa f).1 H ?_ ?_,by simp[(aa f).2]⟩
   ·rw[(aa f).2,aa I];exact P
   rw[(aa f).2,aa I];exact Q
  have al:Hid (gf FL q 0=lP 0 (B++[gf FL q]) (k+1)):=by
   show _=gf (B++[gf FL q]) k 0
   rw[<-(aa f).2,cD]
  have am:=(aa f).2;obtain⟨aD,aF,ax,S,T,o⟩:=apF ((aa Y).on (aa n) |>.allocF _) (aZ rF 66 wr (gf FL q) (fc (gf FL q)) rfl) (by simp;omega);have ak:=ae S;have aj:Hid (∀g,aD.ownBlock=some g->w.heap.size<=g):=fun g s=>by
   rcases o with o|o
   ·exact aa W g (o▸s)
   have aC:=o g s;have:=c.size;simp at aC;omega
  have F:=((c.alloc c.size (.cells (fc (gf FL q)) 66)).grown T (by have:=c.size;simp;omega) (fun g s=>aa W g s));have ag:=ae F;have aI:aF.cell? ⟨b,off+q*24,none⟩=some (.int .i64 (gf FL q 0)):=(F.cell (p:=⟨b,off+q*24,none⟩) x).trans (fc_rng (rngF (aa C) H) 0 (by omega));clear S T o F c am P Q
  go_wp2_with (first|refine bU 66 (fc (gf FL q)) underlying66 rfl (gK _) b (off+q*24) ar rfl _ rfl rfl ?_|refine cP _ _ (jN _ _ _ rfl (gf FL q) rfl _) rfl ?_|(at_builtin;refine fS 62 ax rfl _ _ rfl rfl rfl rfl ?_))
  go_roundw
  ·exact⟨k+1,B++[gf FL q],by omega,by go_num,by rw[aa al],ak,aj,af,ag⟩
  simp[intOf];omega
 have O:k=FL.length:=by omega
 subst O
 go_wp2
 go_ret
 exact⟨_,_,rfl,aa Y,⟨(aa f).1,(aa f).2⟩,aa L⟩
theorem ss {B:List (Nat->Int)}{a:Int}{n k:Nat}(h:k<B.length):gT (B.take (k+1)) a n=if a<gf B k 0/\(gT (B.take k) a n).length<n then gT (B.take k) a n++[gf B k] else gT (B.take k) a n:=by
 unfold gT;rw[ys,ix h,yI]
 by_cases c:a<gf B k 0
 ·have e:List.filter (fun f=>decide (a<f 0)) (some (gf B k)).toList=[gf B k]:=by simp[c]
  rw[e,zD];generalize List.filter (fun f=>decide (a<f 0)) (B.take k)=F
  by_cases q:min n F.length<n
  ·rw[zJ ⟨c,q⟩,z1 (by simp;omega),z1 (by omega)]
  rw[zK (fun h=>q h.2),List.take_append_of_le_length (by omega)]
 have e:List.filter (fun f=>decide (a<f 0)) (some (gf B k)).toList=[]:=by simp[c]
 rw[e,yW,zK (fun h=>c h.1)]
theorem sL (B:List (Nat->Int))(a:Int)(n:Nat):(gT B a n).length<=n:=by unfold gT;rw[zD];omega
section
variable {w:World}{rb:Nat}{keep:Int}{bv pv:Value}{SL:List cA}{bs:List bK}{PI:List Int}
def pP (w:World) (keep:Int) (bs:List bK) (PI:List Int) (v a n:Int) (e:Ending) (w':World):Prop:=
 Below w.heap.size w w'/\((bS keep (bs.length:Nat) (ri PI) v=false/\e=.returned (.tuple #[.slice none 0 0,.int .i64 12]))\/
 (bS keep (bs.length:Nat) (ri PI) v=true/\(n<1\/8<n)/\e=.returned (.tuple #[.slice none 0 0,.int .i64 14]))\/
 (bS keep (bs.length:Nat) (ri PI) v=true/\1<=n/\n<=8/\∃rv B,e=.returned (.tuple #[rv,()])/\rZ (dk bs v.toNat) B/\bL rF w' rv (gT B a n.toNat)))
theorem qe {keep:Int}{n:Nat}{PI:List Int}{v:Int}(h:bS keep n (ri PI) v=true):∃m:Nat,v=m/\m<=n:=by
 unfold bS at h;rw[zl,zl,zN,zN] at h
 exact⟨v.toNat,by omega,by omega⟩
theorem rT (v a n:Int)(I:eV w rb keep bv pv SL bs PI)(aC:PI.length<=100)(af:bs.length<=100)(aB:∀k,k<bs.length->(ff bs k).length<=8)(ad:∀v,v<=bs.length->Dis (dk bs v)/\∀j,j<(dk bs v).length->0<gf (dk bs v) j 0) :
  Calls prog 35 #[some rb,.int .i64 v,a,n] w fun e w'=>pP w keep bs PI v a n e w':=by
 have z:=ae (IsHeld_any (v:=v) I aC af);have au:=ae I;clear I
 cases x:bS keep (bs.length:Nat) (ri PI) v with
 | false=>
  rw[x] at z;go_enter func35,ntmps35
  go_wp2_with fail
  refine(aa z).mono ?_;rintro e w1 ⟨rfl,d⟩;have o:Hid (pP w keep bs PI v a n (.returned (.tuple #[.slice none 0 0,.int .i64 12])) w1):=⟨d,Or.inl ⟨x,rfl⟩⟩;clear d
  go_wp2
  go_ret2
  exact aa o
 | true=>
  rw[x] at z;obtain⟨h,rfl,hm⟩:=qe x
  by_cases F:n<1\/8<n
  ·go_enter func35,ntmps35
   go_wp2_with fail
   refine(aa z).mono ?_;rintro e w1 ⟨rfl,d⟩;have o:Hid (pP w keep bs PI h a n (.returned (.tuple #[.slice none 0 0,.int .i64 14])) w1):=⟨d,Or.inr (Or.inl ⟨x,F,rfl⟩)⟩;clear d
   by_cases az:n<1
   ·clear F
    go_wp2
    go_ret2
    exact aa o
   have aA:8<n:=by omega
   clear F
   go_wp2
   go_ret2
   exact aa o
  obtain⟨c,rfl⟩:∃c:Nat,n=c:=⟨n.toNat,by omega⟩;have az:¬(c:Int)<1:=by omega
  have aA:¬(8:Int)<c:=by omega
  clear F;go_enter func35,ntmps35
  go_wp2_with fail
  refine(aa z).mono ?_;rintro e w1 ⟨rfl,d⟩;have aq:=ae (At_any rb keep bv pv SL bs PI h w1 ((aa au).on d) hm af aB);have K:=ae d;clear d
  go_wp2_with fail
  refine(aa aq).mono ?_;rintro e aF ⟨rv,rfl,O,P⟩;have aw:=ae (sg rv (dk bs h) aF O (d7 bs h) (ad h hm).1 (ad h hm).2);have L:=ae ((aa K).trans (P.mono (aa K).size));clear O P
  go_wp2_with fail
  refine(aa aw).mono ?_;rintro e C ⟨aL,B,rfl,ab,J,Q⟩;have N:=(aa L).trans (Q.mono (aa L).size);have M:=ae N;obtain⟨aJ,aK,rfl,_,_,ac⟩:=ab.at;have ar:=ae ac;have av:=ae J;have aH:B.length<=40:=by rw[J.len];exact d7 bs h
  clear Q ab ac J N
  go_wp2
  go_loopw [13,14] (fun ag i wr=>∃(k:Nat),k<=B.length/\i=.int .i64 k/\Hid (ah rF 66 wr ag (gT (B.take k) a c))/\Hid (∀g,ag.ownBlock=some g->C.heap.size<=g)/\Hid (Below C.heap.size C wr)) (fun _ i _=>B.length-(intOf i).toNat)
  ·exact⟨0,by omega,rfl,ae (by simpa[gT] using (aU (R:=rF) (T:=66) (w:=C))),ae (fun g s=>by simp[Value.ownBlock] at s),ae (zV _ _)⟩
  obtain⟨k,aI,rfl,y,A,f⟩:=hrel;obtain⟨o9,Z,ap⟩:=(aa y).slice;subst ap;obtain⟨l,r⟩:∃l,(gT (B.take k) a c).length=l:=⟨_,rfl⟩;rw[r] at y A ⊢
  by_cases U:k<B.length
  ·have S:(k:Int)<B.length:=by omega
   obtain⟨b,off,rfl,ao,G⟩:=aa ar (by omega);have V:wr.rangeAt b (off+k*24) (fc (gf B k)).toList:=fun t u aD=>((aa f).cell (p:=⟨b,off+k*24+t,none⟩) ao).trans (rngF G U t u aD);have ay:wr.cell? ⟨b,off+k*24,none⟩=some (.int .i64 (gf B k 0)):=fc_rng V 0 (by omega);have H:=ae (ss (a:=a) (n:=c) U);have am:=sL (B.take k) a c;rw[r] at am;obtain⟨X,E⟩:∃X,gf B k 0=X:=⟨_,rfl⟩;rw[E,r] at H;rw[E] at ay
   by_cases m:a<X/\l<c
   ·have an:a<X:=m.1
    have al:(l:Int)<c:=by omega
    obtain⟨ai,aG,ax,W,Y,q⟩:=apF ((aa y).allocF _) (aZ rF 66 wr (gf B k) (fc (gf B k)) rfl) (by simp;omega);have D:Hid (ah rF 66 aG ai (gT (B.take (k+1)) a c)):=by rw[aa H,zJ m];exact W
    have ak:Hid (∀g,ai.ownBlock=some g->C.heap.size<=g):=fun g s=>by
     rcases q with q|q
     ·exact aa A g (q▸s)
     have aE:=q g s;have:=(aa f).size;simp at aE;omega
    have aj:=ae (((aa f).alloc (aa f).size (.cells (fc (gf B k)) 66)).grown Y (by have:=(aa f).size;simp;omega) (fun g s=>aa A g s));clear W Y q E G m r
    go_wp2_with (first|refine bU 66 (fc (gf B k)) underlying66 rfl (gK _) b (off+k*24) V rfl _ rfl rfl ?_|refine cP _ _ (jN _ _ _ rfl (gf B k) rfl _) rfl ?_|(at_builtin;refine fS 62 ax rfl _ _ rfl rfl rfl rfl ?_))
    go_roundw
    ·exact⟨k+1,by omega,by go_num,D,ak,aj⟩
    simp[intOf];omega
   have D:Hid (ah rF 66 wr (.slice o9 l Z) (gT (B.take (k+1)) a c)):=by rw[aa H,zK m];exact y
   clear E G r
   by_cases an:a<X
   ·have al:¬(l:Int)<c:=by omega
    clear m
    go_wp2
    go_roundw
    ·exact⟨k+1,by omega,by go_num,D,A,f⟩
    simp[intOf];omega
   clear m
   go_wp2
   go_roundw
   ·exact⟨k+1,by omega,by go_num,D,A,f⟩
   simp[intOf];omega
  have S:k=B.length:=by omega
  subst S;rw[zx] at y;have o:Hid (pP w keep bs PI h a c (.returned (.tuple #[.slice o9 l Z,()])) wr):=by
   refine⟨(aa M).trans ((aa f).mono (aa M).size),Or.inr (Or.inr ⟨x,by omega,by omega,_,B,rfl,?_,?_⟩)⟩
   ·rw[Int.toNat_natCast];exact aa av
   rw[Int.toNat_natCast];exact(aa y).at
  clear r
  go_wp2
  go_ret2
  exact aa o
def qf (bs:List bK) (v l z x y:Int):Int × Int:=if keyErr l z x y=0 then (if v<0\/(bs.length:Nat)<v then (0,12) else ((mF bs l z x y v.toNat:Nat),0)) else (0,keyErr l z x y)
theorem rh (v l z x y:Int)(C:eV w rb keep bv pv SL bs PI)(J:bs.length<=100)(I:∀k,k<bs.length->(ff bs k).length<=8) :
  Calls prog 39 #[some rb,v,.agg #[.int .i64 l,z,x,.int .i64 y]] w fun e w'=>e=.returned (.tuple #[.int .i64 (qf bs v l z x y).1,.int .i64 (qf bs v l z x y).2])/\Below w.heap.size w w':=by
 have o:=zZ w (.cells #[l,z,x,y] 39 (0,0));have m:=aj w (.cells #[l,z,x,y] 39);have E:=ae o;have j:=ae m;have u:=ae (C.on m);have f:=ao o;have r:=fun L=>bq l z x y L;obtain⟨q,B⟩:∃q,keyErr l z x y=q:=⟨_,rfl⟩;obtain⟨p,b⟩:∃p,qf bs v l z x y=p:=⟨_,rfl⟩;rw[b];unfold qf at b;rw[B] at r b;have n:=ae r;clear o m C B r
 by_cases A:q=0
 ·subst A
  rw[zJ rfl] at b
  by_cases g:v<0\/((bs.length:Nat):Int)<v
  ·rw[zJ g] at b
   subst b;go_enter func39,ntmps39
   go_wp2_with (refine vM f rfl _ rfl rfl ?_)
   refine(aa n _).mono ?_;rintro e w1 ⟨rfl,a⟩;have d:=ae ((aa j).trans (a.mono (by simp)));have c:=(aa u).on a;have i:=c.c1;obtain⟨K,cap,e⟩:=c.bat.slice;rw[e,c.len] at i;clear a c e f
   by_cases G:v<0
   ·clear g
    go_wp2
    go_ret2
    exact⟨rfl,aa d⟩
   have H:((bs.length:Nat):Int)<v:=by omega
   clear g
   go_wp2
   go_ret2
   exact⟨rfl,aa d⟩
  rw[zK g] at b;obtain⟨h,rfl⟩:∃h:Nat,v=h:=⟨v.toNat,by omega⟩;have G:¬(h:Int)<0:=by omega
  have H:¬((bs.length:Nat):Int)<h:=by omega
  rw[Int.toNat_natCast] at b;subst b;clear g;go_enter func39,ntmps39
  go_wp2_with (refine vM f rfl _ rfl rfl ?_)
  refine(aa n _).mono ?_;rintro e w1 ⟨rfl,a⟩;have d:=ae ((aa j).trans (a.mono (by simp)));have c:=(aa u).on a;have i:=c.c1;obtain⟨K,cap,e⟩:=c.bat.slice;rw[e,c.len] at i;have s:=ao (ag (aa E) a);have F:=ae (Last_any rb keep bv pv SL bs PI h l z x y w1 c (by omega) J I);clear a c e f
  go_wp2_with (refine vM s rfl _ rfl rfl ?_)
  refine(aa F).mono ?_;rintro e M ⟨rfl,t⟩;have D:=ae ((aa d).trans (t.mono (aa d).size));clear t i s
  go_wp2
  go_ret2
  exact⟨rfl,aa D⟩
 rw[zK A] at b;subst b;go_enter func39,ntmps39
 go_wp2_with (refine vM f rfl _ rfl rfl ?_)
 refine(aa n _).mono ?_;rintro e w1 ⟨rfl,a⟩;have d:=ae ((aa j).trans (a.mono (by simp)));clear a f
 go_wp2
 go_ret2
 exact⟨rfl,aa d⟩
end
def qk (k:Int) (w:World) (e:Ending) (w':World):Prop:=
 ((k<0\/4<k)/\e=.returned (.tuple #[.pointer none,.int .i64 15])/\w'=w)\/(0<=k/\k<=4/\e=.returned (.tuple #[.pointer (some ⟨w.heap.size,0,none⟩),()])/\w'=w.alloc (.cells #[k,.slice none 0 0,.slice none 0 0] 121))
theorem pO (k:Int)(w:World):Calls prog 22 #[k] w fun e w'=>qk k w e w':=by
 by_cases b:k<0
 ·have a:Hid (qk k w (.returned (.tuple #[.pointer none,.int .i64 15])) w):=Or.inl ⟨Or.inl b,rfl,rfl⟩
  go_enter func22,ntmps22
  go_wp2
  go_ret2
  exact aa a
 by_cases c:4<k
 ·have a:Hid (qk k w (.returned (.tuple #[.pointer none,.int .i64 15])) w):=Or.inl ⟨Or.inr c,rfl,rfl⟩
  go_enter func22,ntmps22
  go_wp2
  go_ret2
  exact aa a
 have a:Hid (qk k w (.returned (.tuple #[some w.heap.size,()])) (w.alloc (.cells #[k,.slice none 0 0,.slice none 0 0] 121))):=Or.inr ⟨by omega,by omega,rfl,rfl⟩;go_enter func22,ntmps22
 go_wp2
 go_ret2
 exact aa a
namespace Dw
theorem qu (l z x y:Int)(w:World)(h:¬keyErr l z x y=0) :
  Calls prog 149 #[.agg #[.int .i64 l,z,x,.int .i64 y]] w fun e w'=>e=.returned (.tuple #[.string ⟨#[]⟩,.int .i64 (keyErr l z x y)])/\Below w.heap.size w w':=by
 go_enter func149,ntmps149
 go_wp2_with fail
 refine(bV l z x y _).mono ?_;rintro e w1 ⟨rfl,d⟩;have c:Below w.heap.size w w1:=((zV _ _).alloc (zz _) _).trans (d.mono (by simp));have f:=ae c;clear d c;obtain⟨b,a⟩:∃b,keyErr l z x y=b:=⟨_,rfl⟩;rw[a] at h ⊢;have g:=ae a;clear a;have i:(b != 0)=true:=by rw[bne_iff_ne];exact h
 clear h
 go_wp2
 go_ret2
 exact⟨by rw[aa g];rfl,aa f⟩
theorem pQ (l z x y:Int)(w:World)(h:¬keyErr l z x y=0) :
  Calls prog 150 #[.agg #[.int .i64 l,z,x,.int .i64 y]] w fun e w'=>e=.returned (.tuple #[.string ⟨#[]⟩,.int .i64 (keyErr l z x y)])/\Below w.heap.size w w':=by
 go_enter func150,ntmps150
 go_wp2_with fail
 refine(bq l z x y _).mono ?_;rintro e w1 ⟨rfl,d⟩;have c:Below w.heap.size w w1:=((zV _ _).alloc (zz _) _).trans (d.mono (by simp));have f:=ae c;clear d c;obtain⟨b,a⟩:∃b,keyErr l z x y=b:=⟨_,rfl⟩;rw[a] at h ⊢;have g:=ae a;clear a;have i:(b != 0)=true:=by rw[bne_iff_ne];exact h
 clear h
 go_wp2
 go_ret2
 exact⟨by rw[aa g];rfl,aa f⟩
theorem tk (l z x y v:Int)(w:World)(h:¬keyErr l z x y=0) :
  Calls prog 151 #[.agg #[.int .i64 l,z,x,.int .i64 y],v] w fun e w'=>e=.returned (.tuple #[.string ⟨#[]⟩,.int .i64 (keyErr l z x y)])/\Below w.heap.size w w':=by
 go_enter func151,ntmps151
 go_wp2_with fail
 refine(qu l z x y _ h).mono ?_;rintro e w1 ⟨rfl,d⟩;have c:Below w.heap.size w w1:=((zV _ _).alloc (zz _) _).trans (d.mono (by simp));have f:=ae c;clear d c;obtain⟨b,a⟩:∃b,keyErr l z x y=b:=⟨_,rfl⟩;rw[a] at h ⊢;have g:=ae a;clear a;have i:(b != 0)=true:=by rw[bne_iff_ne];exact h
 clear h
 go_wp2
 go_ret2
 exact⟨by rw[aa g];rfl,aa f⟩
theorem th (l z x y:Nat)(v:Int)(w:World)(m:l<4)(p:z<=1000000)(o:x<=10000000)(hy:y<=10000000)(h:keyErr l z x y=0)(j:Nm w)(k:Tab w)(n:v<0\/100<v) :
  Calls prog 151 #[.agg #[.int .i64 l,z,x,.int .i64 y],v] w fun e w'=>e=.returned (.tuple #[.string ⟨#[]⟩,.int .i64 12])/\Below w.heap.size w w':=by
 have f:=ae h;clear h;have g:=ae j;have i:=ae k;clear j k
 by_cases r:v<0
 ·clear n
  go_enter func151,ntmps151
  go_wp2_with fail
  refine(print_yes l z x y _ m p o hy (aa f) ((aa g).on (aj _ _)) (tab_on (aa i) (aj _ _))).mono ?_;rintro e w1 ⟨⟨P,rfl,d,q⟩,b⟩;have a:Below w.heap.size w w1:=((zV _ _).alloc (zz _) _).trans (b.mono (by simp));have c:=ae a;clear b a d
  go_wp2
  go_ret2
  exact⟨rfl,aa c⟩
 have s:100<v:=by omega
 clear n;go_enter func151,ntmps151
 go_wp2_with fail
 refine(print_yes l z x y _ m p o hy (aa f) ((aa g).on (aj _ _)) (tab_on (aa i) (aj _ _))).mono ?_;rintro e w1 ⟨⟨P,rfl,d,q⟩,b⟩;have a:Below w.heap.size w w1:=((zV _ _).alloc (zz _) _).trans (b.mono (by simp));have c:=ae a;clear b a d
 go_wp2
 go_ret2
 exact⟨rfl,aa c⟩
theorem rP (l z x y v:Int)(w:World)(h:¬keyErr l z x y=0) :
  Calls prog 139 #[.agg #[.int .i64 l,z,x,.int .i64 y],v] w fun e w'=>e=.returned (.tuple #[.string ⟨#[]⟩,.int .i64 (keyErr l z x y)])/\Below w.heap.size w w':=by
 go_enter func139,ntmps139
 go_wp2_with fail
 refine(pQ l z x y _ h).mono ?_;rintro e w1 ⟨rfl,d⟩;have c:Below w.heap.size w w1:=((zV _ _).alloc (zz _) _).trans (d.mono (by simp));have f:=ae c;clear d c;obtain⟨b,a⟩:∃b,keyErr l z x y=b:=⟨_,rfl⟩;rw[a] at h ⊢;have g:=ae a;clear a;have i:(b != 0)=true:=by rw[bne_iff_ne];exact h
 clear h
 go_wp2
 go_ret2
 exact⟨by rw[aa g];rfl,aa f⟩
theorem rC (l z x y:Nat)(v:Int)(w:World)(g:l<4)(k:z<=1000000)(j:x<=10000000)(hy:y<=10000000)(h:keyErr l z x y=0)(i:v<0\/100<v) :
  Calls prog 139 #[.agg #[.int .i64 l,z,x,.int .i64 y],v] w fun e w'=>e=.returned (.tuple #[.string ⟨#[]⟩,.int .i64 12])/\Below w.heap.size w w':=by
 have f:=ae h;clear h
 by_cases n:v<0
 ·clear i
  go_enter func139,ntmps139
  go_wp2_with fail
  refine(oH l z x y _ g k j hy (aa f)).mono ?_;rintro e w1 ⟨⟨P,rfl,d,m⟩,b⟩;have a:Below w.heap.size w w1:=((zV _ _).alloc (zz _) _).trans (b.mono (by simp));have c:=ae a;clear b a d
  go_wp2
  go_ret2
  exact⟨rfl,aa c⟩
 have o:100<v:=by omega
 clear i;go_enter func139,ntmps139
 go_wp2_with fail
 refine(oH l z x y _ g k j hy (aa f)).mono ?_;rintro e w1 ⟨⟨P,rfl,d,m⟩,b⟩;have a:Below w.heap.size w w1:=((zV _ _).alloc (zz _) _).trans (b.mono (by simp));have c:=ae a;clear b a d
 go_wp2
 go_ret2
 exact⟨rfl,aa c⟩
end Dw
namespace Pk
namespace Pt
def okBody (b:List UInt8):Bool:=decide (7<=b.length/\b.length<=67) && (okPic (km (mid b)) && decide (body (km (mid b))=b))
theorem okBody_iff (b:List UInt8):okBody b=true↔(7<=b.length/\b.length<=67)/\okPic (km (mid b))=true/\body (km (mid b))=b:=by simp[okBody]
end Pt
theorem qQ (s:ByteArray)(k:Nat)(h:k<s.size):Pt.km (s.data.toList.take (k+1))=Pt.km (s.data.toList.take k)++List.replicate (s[k].toNat / 16+1) (s[k]%16):=by
 rw[eg s k h];simp[Pt.km,Pt.ofRun]
theorem rg (s:ByteArray)(k:Nat)(h:k<=s.size):(Pt.km (s.data.toList.take k)).length<=16*k:=by
 have:=(Pt.wt_le (s.data.toList.take k)).2;have e:(s.data.toList.take k).length=k:=by simp;omega
 rw[e] at this
 exact this
theorem qB (l:List UInt8)(j:Nat)(c:UInt8):l++(List.replicate j c++[c])=l++List.replicate (j+1) c:=by
 rw[List.replicate_succ']
theorem ret_str {a b:List UInt8}(h:a=b):Ending.returned (.string ⟨a.toArray⟩)=.returned (.string ⟨b.toArray⟩):=by rw[h]
theorem rH (s:ByteArray)(w:World)(y:s.size<=1000) :
  Calls prog 186 #[s] w fun e w'=>e=.returned (.string ⟨(Pt.km s.data.toList).toArray⟩)/\Below w.heap.size w w':=by
 go_enter func186,ntmps186
 go_wp2
 go_loopw [3,4] (fun v i wr=>∃k:Nat,k<=s.size/\i=.int .i64 k/\de wr w.heap.size v (Pt.km (s.data.toList.take k))/\Below w.heap.size w wr) (fun _ i _=>s.size-(intOf i).toNat)
 ·exact⟨0,yF _,rfl,ownB_none w _ (zz _),(zV _ _).alloc (zz _) _⟩
 obtain⟨k,q,rfl,b,a⟩:=hrel
 by_cases n:k<s.size
 ·have u:s[k].toNat<256:=s[k].toNat_lt
  have f:=ae (qQ s k n);have o:=rg s k q;generalize r:Pt.km (s.data.toList.take k)=l at b o f;clear r
  go_wp2
  go_loopw [3,6] (fun v i wr=>∃j:Nat,j<=s[k].toNat / 16+1/\i=.int .i64 j/\de wr w.heap.size v (l++List.replicate j (s[k]%16))/\Below w.heap.size w wr) (fun _ i _=>17-(intOf i).toNat)
  ·exact⟨0,yF _,rfl,by simpa using b,a⟩
  clear b a;obtain⟨j,x,rfl,b,a⟩:=hrel;have p:=a.size;have h:(l++List.replicate j (s[k]%16)).length<=1000000:=by simp;omega
  by_cases t:j<s[k].toNat / 16+1
  ·go_wp2_with (at_builtin;refine bQ rfl (.tmp 25) (.tmp 30) rfl _ w.heap.size _ (l++List.replicate j (s[k]%16)) (s[k]%16) _ rfl b rfl ?_ h p ?_)
   ·simp
   intro z w1 d c;rw[qB] at d;have g:=a.trans c;clear b a c
   go_wp2
   go_roundw
   ·exact⟨j+1,by omega,by go_num,d,g⟩
   simp[intOf];omega
  go_wp2
  go_roundw
  ·refine⟨k+1,by omega,by go_num,?_,a⟩;rw[aa f,show s[k].toNat / 16+1=j from by omega]
   exact b
  simp[intOf];omega
 have m:=b.str 0;rw[World.drewN_zero] at m
 go_wp2
 go_ret
 exact⟨ret_str (by rw[z1 (by simp;omega)]),a⟩
theorem qW (s:ByteArray)(w:World)(a:s.size<=maxLen)(h:Pt.okPic s.data.toList=false) :
  Calls prog 152 #[s] w fun e w'=>e=.returned (.tuple #[.string ⟨#[]⟩,.int .i64 5])/\w=w':=by
 go_enter func152,ntmps152
 go_wp2_with (go_at_call 181;refine(m6 s _ a).mono ?_;rintro e w' ⟨rfl,rfl⟩)
 go_ret2
 exact⟨rfl,rfl⟩
theorem qF (s:ByteArray)(h:3<=s.size):(s.extract 1 (s.size-2)).data.toList=Pt.mid s.data.toList:=by
 rw[Lib.extract_data];unfold Pt.mid;rw[show s.data.toList.length=s.size from by simp,show s.size-2-1=s.size-3 from by omega]
theorem qm (s:ByteArray)(w:World)(a:s.size<=maxLen)(h:s.size<7\/67<s.size) :
  Calls prog 154 #[s] w fun e w'=>e=.returned (.tuple #[.string ⟨#[]⟩,.int .i64 6])/\w=w':=by
 unfold maxLen at a
 rcases h with h|h
 ·go_enter func154,ntmps154
  go_wp2
  go_ret2
  exact⟨rfl,rfl⟩
 have b:¬s.size<7:=by omega
 go_enter func154,ntmps154
 go_wp2
 go_ret2
 exact⟨rfl,rfl⟩
theorem pW (l:List UInt8)(h:Pt.okPic (Pt.km (Pt.mid l))=false):Pt.okBody l=false:=by unfold Pt.okBody;rw[h];simp
theorem qb (l:List UInt8)(h:¬Pt.body (Pt.km (Pt.mid l))=l):Pt.okBody l=false:=by unfold Pt.okBody;simp[h]
theorem rj (l:List UInt8)(h:7<=l.length/\l.length<=67)(a:Pt.okPic (Pt.km (Pt.mid l))=true)(b:Pt.body (Pt.km (Pt.mid l))=l):Pt.okBody l=true:=(Pt.okBody_iff l).2 ⟨h,a,b⟩
theorem pV (l:List UInt8)(h:l.length<=67):(Pt.km (Pt.mid l)).length<=1072:=by
 have:=(Pt.wt_le (Pt.mid l)).2;have e:(Pt.mid l).length<=67:=by unfold Pt.mid;simp;omega
 unfold Pt.wt at this;omega
theorem rJ (s:ByteArray)(w:World)(y:7<=s.size)(v:s.size<=67) :
  Calls prog 154 #[s] w fun e w'=>(Pt.okBody s.data.toList=true/\e=.returned (.tuple #[.string ⟨(Pt.km (Pt.mid s.data.toList)).toArray⟩,()])\/Pt.okBody s.data.toList=false/\e=.returned (.tuple #[.string ⟨#[]⟩,.int .i64 6]))/\Below w.heap.size w w':=by
 have hm:=ae (qF s (by omega));have o:=pV s.data.toList (by simp;omega);have l:=ae (pW s.data.toList);have m:=ae (qb s.data.toList);have n:=ae (rj s.data.toList (by simp;omega));have x:s.toList=s.data.toList:=ByteArray.toList_eq s;have j:(s.extract 1 (s.size-2)).size<=1000:=by simp;omega
 go_enter func154,ntmps154
 go_wp2_with fail
 refine(rH _ _ j).mono ?_;rintro e w1 ⟨rfl,d⟩;rw[aa hm];generalize k:Pt.km (Pt.mid s.data.toList)=a at o l m n;have r:=ae k;clear k hm j;have q:(⟨a.toArray⟩:ByteArray).size<=maxLen:=by rw[mK];unfold maxLen;omega
 cases c:Pt.okPic a with
 | false=>
  have t:Pt.okBody s.data.toList=false:=aa l c;have f:=ae c;clear c
  go_wp2_with fail
  refine(qW ⟨a.toArray⟩ _ q (by simpa using aa f)).mono ?_;rintro e u ⟨rfl,rfl⟩
  go_wp2
  go_ret2
  exact⟨.inr ⟨t,rfl⟩,d⟩
 | true=>
  have f:=ae c;clear c
  go_wp2_with fail
  refine(pack_yes ⟨a.toArray⟩ _ (by simpa using aa f)).mono ?_;rintro e u ⟨rfl,h⟩;have i:=d.trans (h.mono d.size);clear d h
  by_cases b:Pt.body a=s.data.toList
  ·have g:Pt.okBody s.data.toList=true:=aa n (aa f) b
   have p:(Pt.body a == s.data.toList)=true:=by simp[b]
   clear b
   go_wp2
   go_ret2
   exact⟨.inl ⟨g,fU (aa r).symm⟩,i⟩
  have g:Pt.okBody s.data.toList=false:=aa m b;have p:(Pt.body a == s.data.toList)=false:=by simp[b]
  clear b
  go_wp2
  go_ret2
  exact⟨.inr ⟨g,rfl⟩,i⟩
theorem pN (l:List UInt8)(h:l.length<7\/67<l.length):Pt.okBody l=false:=by
 rw[xZ];intro a;have:=((Pt.okBody_iff l).1 a).1;omega
theorem pU (s:ByteArray)(w:World)(a:s.size<=maxLen) :
  Calls prog 154 #[s] w fun e w'=>(Pt.okBody s.data.toList=true/\e=.returned (.tuple #[.string ⟨(Pt.km (Pt.mid s.data.toList)).toArray⟩,()])\/Pt.okBody s.data.toList=false/\e=.returned (.tuple #[.string ⟨#[]⟩,.int .i64 6]))/\Below w.heap.size w w':=by
 by_cases h:7<=s.size/\s.size<=67
 ·exact rJ s w h.1 h.2
 refine(qm s w a (by omega)).mono ?_;rintro e w' ⟨rfl,rfl⟩
 exact⟨.inr ⟨pN _ (by simp;omega),rfl⟩,zV _ _⟩
theorem rD (s:ByteArray)(w:World)(a:s.size<=maxLen)(h:Pt.okBody s.data.toList=true) :
  Calls prog 154 #[s] w fun e w'=>e=.returned (.tuple #[.string ⟨(Pt.km (Pt.mid s.data.toList)).toArray⟩,()])/\Below w.heap.size w w':=by
 refine(pU s w a).mono ?_;rintro e w' ⟨⟨_,rfl⟩|⟨h',_⟩,hb⟩
 ·exact⟨rfl,hb⟩
 rw[h] at h';cases h'
theorem rR (s:ByteArray)(w:World)(a:s.size<=maxLen)(h:Pt.okBody s.data.toList=false) :
  Calls prog 154 #[s] w fun e w'=>e=.returned (.tuple #[.string ⟨#[]⟩,.int .i64 6])/\Below w.heap.size w w':=by
 refine(pU s w a).mono ?_;rintro e w' ⟨⟨h',_⟩|⟨_,rfl⟩,hb⟩
 ·rw[h] at h';cases h'
 exact⟨rfl,hb⟩
theorem pS (s:ByteArray):(Pt.mid s.data.toList).length=s.size-3:=by
 unfold Pt.mid;simp;omega
theorem sS (s:ByteArray)(k:Nat)(h:k<s.size-3):(Pt.mid s.data.toList)[k]'(by rw[pS];exact h)=s[1+k]:=by
 simp only[Pt.mid,List.getElem_take,List.getElem_drop]
 rfl
theorem sr (s:ByteArray)(k:Nat)(h:k<s.size-3):Pt.km ((Pt.mid s.data.toList).take (k+1))=Pt.km ((Pt.mid s.data.toList).take k)++List.replicate (s[1+k].toNat / 16+1) (s[1+k]%16):=by
 rw[List.take_succ_eq_append_getElem (by rw[pS];exact h),sS s k h];simp[Pt.km,Pt.ofRun]
theorem sJ (s:ByteArray)(k:Nat):(Pt.km ((Pt.mid s.data.toList).take k)).length<=16*k:=by
 have:=(Pt.wt_le ((Pt.mid s.data.toList).take k)).2;have e:((Pt.mid s.data.toList).take k).length<=k:=List.length_take_le _ _;unfold Pt.wt at this;omega
theorem pY (s:ByteArray)(w:World)(a:s.size<=maxLen)(h:s.size<3\/67<s.size) :
  Calls prog 155 #[s] w fun e w'=>e=.returned (.tuple #[.string ⟨#[]⟩,.int .i64 6])/\w=w':=by
 unfold maxLen at a
 rcases h with h|h
 ·go_enter func155,ntmps155
  go_wp2
  go_ret2
  exact⟨rfl,rfl⟩
 have b:¬s.size<3:=by omega
 go_enter func155,ntmps155
 go_wp2
 go_ret2
 exact⟨rfl,rfl⟩
theorem qG (l:List UInt8)(a:Pt.okPic (Pt.km (Pt.mid l))=true)(b:Pt.body (Pt.km (Pt.mid l))=l):Pt.okBody l=true:=by
 refine(Pt.okBody_iff l).2 ⟨?_,a,b⟩;have:=Pt.body_len _ a;rw[b] at this
 exact this
theorem qh (s:ByteArray)(w:World)(R:3<=s.size)(M:s.size<=67) :
  Calls prog 155 #[s] w fun e w'=>(Pt.okBody s.data.toList=true/\e=.returned (.tuple #[.string ⟨(Pt.km (Pt.mid s.data.toList)).toArray⟩,()])\/Pt.okBody s.data.toList=false/\e=.returned (.tuple #[.string ⟨#[]⟩,.int .i64 6]))/\Below w.heap.size w w':=by
 have A:=pV s.data.toList (by simp;omega);have u:=ae (pW s.data.toList);have x:=ae (qb s.data.toList);have y:=ae (qG s.data.toList);have O:s.toList=s.data.toList:=ByteArray.toList_eq s;have P:decide ((s.size:Int)<3)=false:=by simp;omega
 have Q:decide (67<(s.size:Int))=false:=by simp;omega
 go_enter func155,ntmps155
 go_wp2
 go_loopw [4,5] (fun v i wr=>∃k:Nat,k<=s.size-3/\i=.int .i64 (1+(k:Int))/\de wr w.heap.size v (Pt.km ((Pt.mid s.data.toList).take k))/\Below w.heap.size w wr) (fun _ i _=>s.size-(intOf i).toNat)
 ·exact⟨0,yF _,rfl,ownB_nil _ _,zV _ _⟩
 obtain⟨k,U,rfl,b,a⟩:=hrel
 by_cases E:k<s.size-3
 ·have L:1+k<s.size:=by omega
  have S:s[1+k].toNat<256:=s[1+k].toNat_lt;have r:=ae (sr s k E);have C:=sJ s k;generalize J:Pt.km ((Pt.mid s.data.toList).take k)=l at b C r;clear J
  go_wp2
  go_loopw [4,6] (fun v i wr=>∃j:Nat,j<=s[1+k].toNat / 16+1/\i=.int .i64 j/\de wr w.heap.size v (l++List.replicate j (s[1+k]%16))/\Below w.heap.size w wr) (fun _ i _=>17-(intOf i).toNat)
  ·exact⟨0,yF _,rfl,by simpa using b,a⟩
  clear b a;obtain⟨j,T,rfl,b,a⟩:=hrel;have G:=a.size;have B:(l++List.replicate j (s[1+k]%16)).length<=1000000:=by simp;omega
  by_cases N:j<s[1+k].toNat / 16+1
  ·go_wp2_with (at_builtin;refine bQ rfl (.tmp 34) (.tmp 39) rfl _ w.heap.size _ (l++List.replicate j (s[1+k]%16)) (s[1+k]%16) _ rfl b rfl ?_ B G ?_)
   ·simp
   intro V w1 n m;rw[qB] at n;have z:=a.trans m;clear b a m
   go_wp2
   go_roundw
   ·exact⟨j+1,by omega,by go_num,n,z⟩
   simp[intOf];omega
  go_wp2
  go_roundw
  ·refine⟨k+1,by omega,by go_num,?_,a⟩;rw[aa r,show s[1+k].toNat / 16+1=j from by omega]
   exact b
  simp[intOf];omega
 rw[z1 (show(Pt.mid s.data.toList).length<=k by rw[pS];omega)] at b;generalize t:Pt.km (Pt.mid s.data.toList)=c at A u x y b;have H:=ae t;clear t;have q:=b.str 0;rw[World.drewN_zero] at q;clear b;have F:(⟨c.toArray⟩:ByteArray).size<=maxLen:=by rw[mK];unfold maxLen;omega
 cases f:Pt.okPic c with
 | false=>
  have I:Pt.okBody s.data.toList=false:=aa u f;have g:=ae f;clear f
  go_wp2_with fail
  refine(refPack_no ⟨c.toArray⟩ _ F (by simpa using aa g)).mono ?_;rintro e K ⟨rfl,rfl⟩
  go_wp2
  go_ret2
  exact⟨.inr ⟨I,rfl⟩,a⟩
 | true=>
  have g:=ae f;clear f
  go_wp2_with fail
  refine(refPack_yes ⟨c.toArray⟩ _ (by simpa using aa g)).mono ?_;rintro e K ⟨rfl,o⟩;have p:=a.trans (o.mono a.size);clear a o q
  by_cases d:Pt.body c=s.data.toList
  ·have h:Pt.okBody s.data.toList=true:=aa y (aa g) d
   have D:(Pt.body c == s.data.toList)=true:=by simp[d]
   clear d
   go_wp2
   go_ret2
   exact⟨.inl ⟨h,fU (aa H).symm⟩,p⟩
  have h:Pt.okBody s.data.toList=false:=aa x d;have D:(Pt.body c == s.data.toList)=false:=by simp[d]
  clear d
  go_wp2
  go_ret2
  exact⟨.inr ⟨h,rfl⟩,p⟩
theorem oF (s:ByteArray)(w:World)(a:s.size<=maxLen) :
  Calls prog 155 #[s] w fun e w'=>(Pt.okBody s.data.toList=true/\e=.returned (.tuple #[.string ⟨(Pt.km (Pt.mid s.data.toList)).toArray⟩,()])\/Pt.okBody s.data.toList=false/\e=.returned (.tuple #[.string ⟨#[]⟩,.int .i64 6]))/\Below w.heap.size w w':=by
 by_cases h:3<=s.size/\s.size<=67
 ·exact qh s w h.1 h.2
 refine(pY s w a (by omega)).mono ?_;rintro e w' ⟨rfl,rfl⟩
 exact⟨.inr ⟨pN _ (by simp;omega),rfl⟩,zV _ _⟩
theorem qg (s:ByteArray)(w:World)(a:s.size<=maxLen)(h:Pt.okBody s.data.toList=true) :
  Calls prog 155 #[s] w fun e w'=>e=.returned (.tuple #[.string ⟨(Pt.km (Pt.mid s.data.toList)).toArray⟩,()])/\Below w.heap.size w w':=by
 refine(oF s w a).mono ?_;rintro e w' ⟨⟨_,rfl⟩|⟨h',_⟩,hb⟩
 ·exact⟨rfl,hb⟩
 rw[h] at h';cases h'
theorem qw (s:ByteArray)(w:World)(a:s.size<=maxLen)(h:Pt.okBody s.data.toList=false) :
  Calls prog 155 #[s] w fun e w'=>e=.returned (.tuple #[.string ⟨#[]⟩,.int .i64 6])/\Below w.heap.size w w':=by
 refine(oF s w a).mono ?_;rintro e w' ⟨⟨h',_⟩|⟨_,rfl⟩,hb⟩
 ·rw[h] at h';cases h'
 exact⟨rfl,hb⟩
theorem qD (s:ByteArray)(w:World)(d:s.size<=maxLen) :
  Calls prog 100 #[s] w fun e w'=>e=.returned (.bool true)/\Below w.heap.size w w':=by
 cases b:Pt.okPic s.data.toList with
 | false=>
  have a:=ae b;clear b;go_enter func100,ntmps100
  go_wp2_with fail
  refine(qW s _ d (aa a)).mono ?_;rintro e w1 ⟨rfl,rfl⟩
  go_wp2_with fail
  refine(refPack_no s _ d (aa a)).mono ?_;rintro e w1 ⟨rfl,rfl⟩
  go_wp2
  go_ret
  exact⟨rfl,zV _ _⟩
 | true=>
  have a:=ae b;clear b;go_enter func100,ntmps100
  go_wp2_with fail
  refine(pack_yes s _ (aa a)).mono ?_;rintro e w1 ⟨rfl,c⟩
  go_wp2_with fail
  refine(refPack_yes s _ (aa a)).mono ?_;rintro e g ⟨rfl,f⟩
  go_wp2
  go_ret
  exact⟨rfl,c.trans (f.mono c.size)⟩
theorem qi (s:ByteArray)(w:World)(d:s.size<=maxLen) :
  Calls prog 101 #[s] w fun e w'=>e=.returned (.bool true)/\Below w.heap.size w w':=by
 cases c:Pt.okBody s.data.toList with
 | false=>
  have b:=ae c;clear c;go_enter func101,ntmps101
  go_wp2_with fail
  refine(rR s _ d (aa b)).mono ?_;rintro e w1 ⟨rfl,a⟩
  go_wp2_with fail
  refine(qw s _ d (aa b)).mono ?_;rintro e g ⟨rfl,f⟩
  go_wp2
  go_ret
  exact⟨rfl,a.trans (f.mono a.size)⟩
 | true=>
  have b:=ae c;clear c;go_enter func101,ntmps101
  go_wp2_with fail
  refine(rD s _ d (aa b)).mono ?_;rintro e w1 ⟨rfl,a⟩
  go_wp2_with fail
  refine(qg s _ d (aa b)).mono ?_;rintro e g ⟨rfl,f⟩
  go_wp2
  go_ret
  exact⟨rfl,a.trans (f.mono a.size)⟩
theorem packs_walk (s t:ByteArray)(w:World)(c:s.size<=maxLen)(d:t.size<=maxLen) :
  Calls prog 51 #[s,t] w fun e w'=>e=.returned (.bool true)/\Below w.heap.size w w':=by
 go_enter func51,ntmps51
 go_wp2_with fail
 refine(qD s _ c).mono ?_;rintro e w1 ⟨rfl,a⟩
 go_wp2_with fail
 refine(qi t _ d).mono ?_;rintro e f ⟨rfl,b⟩
 go_wp2
 go_ret
 exact⟨rfl,a.trans (b.mono a.size)⟩
end Pk
theorem pj (v:Value)(n:Nat)(fs:Nat->Nat->Int)(l z x y:Int)(w:World)(j:kU w v n fs)(h:¬keyErr l z x y=0\/40<n) :
  Calls prog 108 #[v,.agg #[.int .i64 l,z,x,.int .i64 y]] w fun e w'=>e=.returned (.tuple #[.string ⟨(jj fs n l z x y).toArray⟩,.int .i64 (jm fs n l z x y)])/\Below w.heap.size w w':=by
 have p:=zZ w (.cells #[l,z,x,y] 39 (0,0));have f:=fun k=>bq l z x y k;obtain⟨q,cap,rfl,hm,i⟩:=j;clear i
 by_cases a:keyErr l z x y=0
 ·have g:40<n:=by rcases h with h|h;exact absurd a h;exact h
  have c:Hid (jj fs n l z x y=[]/\jm fs n l z x y=11):=by show jj fs n l z x y=[]/\jm fs n l z x y=11;simp[jj,jm,a,g]
  rw[a] at f;have m:(40:Int)<(n:Int):=by omega
  clear h a g;go_enter func108,ntmps108
  go_wp2_with fail
  refine(f _).mono ?_;rintro e w1 ⟨rfl,b⟩;have d:=ae ((aj _ _).trans (b.mono (by simp)));clear b
  go_wp2
  go_ret2
  exact⟨fU (aa c).1.symm (aa c).2.symm,aa d⟩
 have c:Hid (jj fs n l z x y=[]/\jm fs n l z x y=keyErr l z x y):=by show jj fs n l z x y=[]/\jm fs n l z x y=_;simp[jj,jm,a]
 have o:(keyErr l z x y == 0)=false:=by simp[a]
 clear h a;go_enter func108,ntmps108
 go_wp2_with fail
 refine(f _).mono ?_;rintro e w1 ⟨rfl,b⟩;have d:=ae ((aj _ _).trans (b.mono (by simp)));clear b
 go_wp2
 go_ret2
 exact⟨fU (aa c).1.symm (aa c).2.symm,aa d⟩
theorem qJ (v:Value)(n:Nat)(fs:Nat->Nat->Int)(l z x y:Int)(w:World)(H:kU w v n fs)(g:keyErr l z x y=0)(V:n<=40) :
  Calls prog 108 #[v,.agg #[.int .i64 l,z,x,.int .i64 y]] w fun e w'=>e=.returned (.tuple #[.string ⟨(jj fs n l z x y).toArray⟩,.int .i64 (jm fs n l z x y)])/\Below w.heap.size w w':=by
 have L:=zZ w (.cells #[l,z,x,y] 39 (0,0));have J:=fun t=>bq l z x y t;rw[g] at J;have T:=ae H;have S:=ae g;have P:Hid (iE fs n=false->jj fs n l z x y=[]/\jm fs n l z x y=7):=fun h=>by simp[jj,jm,g,h,show ¬40<n by omega]
 have O:Hid (iE fs n=true->jj fs n l z x y=kP fs n l z x y 64/\jm fs n l z x y=0):=fun h=>by simp[jj,jm,g,h,show ¬40<n by omega]
 obtain⟨W,cap,rfl,hm,G⟩:=H;have R:=ae G;have Y:(n:Int)<=40:=by omega
 clear G g;go_enter func108,ntmps108
 go_wp2_with fail
 refine(J _).mono ?_;rintro e w1 ⟨rfl,s⟩;have M:=ag L s;have Q:=ae ((aj _ _).trans (s.mono (by simp)));clear s
 go_wp2
 go_loopw [7,8] (fun i _ wr=>∃k:Nat,k<=n/\i=.int .i64 k/\Hid (iE fs k=true)/\wr.heap[w.heap.size]?=some (.cells #[l,z,x,y] 39 (0,0))/\Below w.heap.size w wr) (fun i _ _=>n-(intOf i).toNat)
 ·exact⟨0,by omega,rfl,ae rfl,M,aa Q⟩
 obtain⟨k,Z,rfl,r,B,f⟩:=hrel;have c:=ae f
 by_cases E:k<n
 ·obtain⟨b,off,rfl,K,u⟩:=aa R (by omega)
  have A:∀i,i<n->∀j,j<24->wr.cell? ⟨b,off+i*24+j,none⟩=some (.int .i64 (fs i j)):=fun i hi j U=>(f.cell (p:=⟨b,off+i*24+j,none⟩) K).trans (u i hi j U);have o:=gq A E;have D:(k:Int)<n:=by omega
  clear u A f
  cases q:right (fs k) with
  | true=>
   go_wp2_with (refine nI rfl _ rfl b (off+k*24) rfl (fs k) o ?_)
   refine(cH q _).mono ?_;rintro e I ⟨rfl,a⟩;have N:=ag B a;have d:=ae ((aa c).trans (a.mono (aa c).size));clear a o
   go_wp2
   go_roundw
   ·exact⟨k+1,by omega,by go_num,ae (allR_snoc (aa r) q),N,aa d⟩
   simp[intOf];omega
  | false=>
   go_wp2_with (refine nI rfl _ rfl b (off+k*24) rfl (fs k) o ?_)
   refine(ji q _).mono ?_;rintro e I ⟨rfl,a⟩;have d:=ae ((aa c).trans (a.mono (aa c).size));clear a o
   go_wp2
   go_ret2
   have m:=aa P (allR_bad E q)
   exact⟨fU m.1.symm m.2.symm,aa d⟩
 have D:k=n:=by omega
 subst D;have X:=af B;have C:=(aa T).on f;have F:=fun t h=>Tile_any (.slice W k cap) k fs l z x y t h (aa S) V (aa r);clear f
 go_wp2_with fail
 refine(F _ C).mono ?_;rintro e I ⟨rfl,a⟩;have d:=ae ((aa c).trans (a.mono (aa c).size));clear a F C
 go_wp2
 go_ret2
 have m:=aa O (aa r)
 exact⟨fU m.1.symm m.2.symm,aa d⟩
theorem oR (v:Value)(n:Nat)(fs:Nat->Nat->Int)(l z x y:Int)(w:World)(a:kU w v n fs) :
  Calls prog 108 #[v,.agg #[.int .i64 l,z,x,.int .i64 y]] w fun e w'=>e=.returned (.tuple #[.string ⟨(jj fs n l z x y).toArray⟩,.int .i64 (jm fs n l z x y)])/\Below w.heap.size w w':=by
 by_cases b:keyErr l z x y=0
 ·by_cases c:n<=40
  ·exact qJ v n fs l z x y w a b c
  exact pj v n fs l z x y w a (Or.inr (by omega))
 exact pj v n fs l z x y w a (Or.inl b)
theorem lE (y z:Value)(n:Nat)(fs:Nat->Nat->Int)(w:World)(H:kU w y n fs)(I:kU w z n fs)(N:(n:Int)<=9223372036854775807) :
  Calls prog 36 #[y,z] w fun e w'=>e=.returned (.bool true)/\Below w.heap.size w w':=by
 obtain⟨O,ca,rfl,K,s⟩:=H;obtain⟨ob,G,rfl,L,t⟩:=I;have D:=ae s;have E:=ae t;clear s t;go_enter func36,ntmps36
 go_wp2
 go_loopw [5,6] (fun i _ wr=>∃k:Nat,k<=n/\i=.int .i64 k/\Below w.heap.size w wr) (fun i _ _=>n-(intOf i).toNat)
 ·exact⟨0,by omega,rfl,zV _ _⟩
 obtain⟨k,M,rfl,a⟩:=hrel
 by_cases r:k<n
 ·obtain⟨b,d,rfl,o,g⟩:=aa D (by omega)
  obtain⟨c,fb,rfl,q,l⟩:=aa E (by omega);have m:(k:Int)<n:=by omega
  have v:∀w',Below wr.heap.size wr w'->w'.rangeAt b (d+k*24) (fc (fs k)).toList:=fun w' h=>gq (fun i hi j f=>((a.trans (h.mono a.size)).cell (p:=⟨b,d+i*24+j,none⟩) o).trans (g i hi j f)) r;have x:∀w',Below wr.heap.size wr w'->w'.rangeAt c (fb+k*24) (fc (fs k)).toList:=fun w' h=>gq (fun i hi j f=>((a.trans (h.mono a.size)).cell (p:=⟨c,fb+i*24+j,none⟩) q).trans (l i hi j f)) r;have F:=fun J=>fy (fs k) J;have A:=ae v;have B:=ae x;clear g l o q v x
  go_wp2
  refine aM (by kernel_rfl) (by kernel_rfl) ?_;refine lN rfl _ rfl (.slice (some ⟨b,d,none⟩) n ca) rfl ?_;simp only[qZ];refine lN rfl _ rfl (.int .i64 k) rfl ?_;simp only[qZ];refine q_val rfl (.pointer (some ⟨b,d+k*24,none⟩)) (fun _ _=>by simp[go_sem,m]) ?_;simp only[qZ];refine vF b (d+k*24) (aa A) ?_;refine lN rfl _ rfl (.slice (some ⟨c,fb,none⟩) n G) rfl ?_;simp only[qZ];refine lN rfl _ rfl (.int .i64 k) rfl ?_;simp only[qZ];refine q_val rfl (.pointer (some ⟨c,fb+k*24,none⟩)) (fun _ _=>by simp[go_sem,m]) ?_;simp only[qZ];refine vF c (fb+k*24) (aa B) ?_;refine vC F ?_;refine vA (.bool true) ?_;refine zq ?_;intro P u;have C:=ae (a.trans (u.mono a.size));clear a u
  go_wp2
  go_roundw
  ·exact⟨k+1,by omega,by go_num,aa C⟩
  simp[intOf];omega
 go_wp2
 go_ret
 exact⟨rfl,a⟩
section
variable {w:World}{sb:Nat}{keep:Int}{n:Nat}{sl pv:Value}{LS:List (Nat->Int)}{PI:List Int}
theorem sw (g:dD w sb keep (n:Nat) sl pv LS (ri PI))(v a b:Int)(m:PI.length<=6)(j:0<=keep/\keep<=4)(o:n<=100)(i:bS keep (n:Nat) (ri PI) v=true)(hm:b<1\/8<b) :
  Calls prog 34 #[some sb,v,a,b] w fun e w'=>e=.returned (.tuple #[.slice none 0 0,.int .i64 14])/\Below w.heap.size w w':=by
 have c:=gm sb keep (n:Nat) sl pv LS (ri PI) v w g (by rw[fI];omega) j (by omega);rw[i] at c;have h:=ae c;clear c g;go_enter func34,ntmps34
 go_wp2_with fail
 refine(aa h).mono ?_;rintro e w1 ⟨rfl,f⟩;have d:=ae f;clear f
 by_cases k:b<1
 ·clear hm
  go_wp2
  go_ret2
  exact⟨rfl,aa d⟩
 have l:8<b:=by omega
 clear hm
 go_wp2
 go_ret2
 exact⟨rfl,aa d⟩
theorem rL (v l z x y:Int)(sb:Nat)(k:keyErr l z x y≠0) :
  Calls prog 38 #[some sb,v,.agg #[.int .i64 l,z,x,.int .i64 y]] w fun e w'=>e=.returned (.tuple #[(),.int .i64 (keyErr l z x y)])/\Below w.heap.size w w':=by
 have d:=zZ w (.cells #[l,z,x,y] 39 (0,0));have h:=ae (aj w (.cells #[l,z,x,y] 39));have c:=ao d;have a:=fun m=>bV l z x y m;obtain⟨g,f⟩:∃g,keyErr l z x y=g:=⟨_,rfl⟩;rw[f] at a k ⊢;have j:=ae a;clear a f d;go_enter func38,ntmps38
 go_wp2_with (refine vM c rfl _ rfl rfl ?_)
 refine(aa j _).mono ?_;rintro e w1 ⟨rfl,b⟩;have i:=ae ((aa h).trans (b.mono (by simp)));clear b c
 go_wp2
 go_ret2
 exact⟨rfl,aa i⟩
theorem si (v l z x y:Int)(sb:Nat)(f:keyErr l z x y=0)(k:v<0) :
  Calls prog 38 #[some sb,v,.agg #[.int .i64 l,z,x,.int .i64 y]] w fun e w'=>e=.returned (.tuple #[(),.int .i64 12])/\Below w.heap.size w w':=by
 have d:=zZ w (.cells #[l,z,x,y] 39 (0,0));have g:=ae (aj w (.cells #[l,z,x,y] 39));have c:=ao d;have a:=fun j=>bV l z x y j;rw[f] at a;have i:=ae a;clear a d f;go_enter func38,ntmps38
 go_wp2_with (refine vM c rfl _ rfl rfl ?_)
 refine(aa i _).mono ?_;rintro e w1 ⟨rfl,b⟩;have h:=ae ((aa g).trans (b.mono (by simp)));clear b c
 go_wp2
 go_ret2
 exact⟨rfl,aa h⟩
theorem tj (k:Int)(w:World)(h:k<0\/4<k):Calls prog 21 #[k] w fun e w'=>e=.returned (.tuple #[.pointer none,.int .i64 15])/\w=w':=by
 by_cases a:k<0
 ·clear h
  go_enter func21,ntmps21
  go_wp2
  go_ret2
  exact⟨rfl,rfl⟩
 have b:4<k:=by omega
 clear h;go_enter func21,ntmps21
 go_wp2
 go_ret2
 exact⟨rfl,rfl⟩
theorem rB (v l z x y:Int){bs:List bK}(g:dD w sb keep (bs.length:Nat) sl pv LS (ri PI))(c:PR LS bs) :
  Calls prog 38 #[some sb,v,.agg #[.int .i64 l,z,x,.int .i64 y]] w fun e w'=>e=.returned (.tuple #[.int .i64 (qf bs v l z x y).1,.int .i64 (qf bs v l z x y).2])/\Below w.heap.size w w':=by
 have f:Sto w sb keep (bs.length:Nat) sl pv LS:=⟨g.blk,g.own⟩;have hm:=c.max;unfold qf
 by_cases a:keyErr l z x y=0
 ·rw[zJ a]
  by_cases d:v<0\/((bs.length:Nat):Int)<v
  ·rw[zJ d]
   by_cases h:v<0
   ·exact si v l z x y sb a h
   exact sq sb keep (bs.length:Nat) sl pv LS v l z x y w f a (by omega) (by omega)
  rw[zK d];obtain⟨b,rfl⟩:∃b:Nat,v=b:=⟨v.toNat,by omega⟩;have:=nZ sb keep (bs.length:Nat) sl pv LS (b:Nat) l z x y w f (by have:=c.le;omega) a (by omega);rw[c.stm b (by omega) l z x y] at this;rw[Int.toNat_natCast]
  exact this
 rw[zK a]
 exact rL v l z x y sb a
end
theorem Dep.xr {w:World}{g:DV}(h:Dep w g){k:Nat}(o:XF g k)(m:RF g k):False:=by
 have f:∀{c i:Array Value} {T j:TypeId},w.heap[k]?=some (.cells c T (0,0))->w.heap[k]?=some (.cells i j (0,0))->T≠j->False:=fun e a d=>aI e a d rfl;have r:∃(c:Array Value) (T:TypeId),w.heap[k]?=some (.cells c T (0,0))/\(T=121\/T=40\/T=100\/(T=3/\g.rp.ownBlock=some k)):=by
  rcases m with rfl|q|q|⟨s,n,q⟩
  ·exact⟨_,_,h.r.blk,Or.inl rfl⟩
  ·obtain⟨c,e⟩:=h.r.bat.ty q;exact⟨c,_,e,Or.inr (Or.inl rfl)⟩
  ·obtain⟨c,e⟩:=h.r.pin.ty q;exact⟨c,_,e,Or.inr (Or.inr (Or.inr ⟨rfl,q⟩))⟩
  obtain⟨b,l⟩:=h.r.sl n;obtain⟨c,e⟩:=l.ty q
  exact⟨c,_,e,Or.inr (Or.inr (Or.inl rfl))⟩
 obtain⟨c,T,e,d⟩:=r
 rcases o with rfl|q|q
 ·refine f h.x.blk e ?_
  rcases d with rfl|rfl|rfl|⟨rfl,_⟩<;>decide
 ·obtain⟨i,a⟩:=h.x.own.ty q
  refine f a e ?_
  rcases d with rfl|rfl|rfl|⟨rfl,_⟩<;>decide
 obtain⟨i,a⟩:=h.x.pins.ty q
 rcases d with rfl|rfl|rfl|⟨_,p⟩
 ·exact f a e (by decide)
 ·exact f a e (by decide)
 ·exact f a e (by decide)
 exact h.dj k q p
section
variable {w w1 w':World}{d d1:DV}{ob:Nat}{O:OL}{v:Value}{e:Ending}
theorem Pst.joinF (h:Pst w d ob O w1 d1 O)(i:KeptF w1 ob O.V O.IS O.FS O.RS O.GS O.ES v e w')(m:∀k,v.ownBlock=some k->w.heap.size<=k/\¬df d1 k):e=.returned (.tuple #[])/\∃f,Pst w d ob O w' d1 f:=by
 obtain⟨j,s,x,l,c,g,b⟩:=i;refine⟨j,{ O with V:={ O.V with fv:=x },FS:=O.FS++[s] },h.join (u:=O.V.fv) (v:=v) c g (fun k q=>?_) m (fun k q=>?_) ⟨by simp,by simp,by simp,by simp,by simp⟩ ⟨id,id⟩⟩
 ·exact Or.inr (Or.inr (Or.inl q))
 rcases q with rfl|q|q|q|q|q|⟨t,a,q⟩
 ·exact Or.inl (Or.inl rfl)
 ·exact Or.inl (Or.inr (Or.inl q))
 ·rcases b with b|b
  ·exact Or.inl (Or.inr (Or.inr (Or.inl (b▸q))))
  exact Or.inr (Or.inr (b k q))
 ·exact Or.inl (Or.inr (Or.inr (Or.inr (Or.inl q))))
 ·exact Or.inl (Or.inr (Or.inr (Or.inr (Or.inr (Or.inl q)))))
 ·exact Or.inl (Or.inr (Or.inr (Or.inr (Or.inr (Or.inr (Or.inl q))))))
 rcases a with a|a|a|a|a
 ·exact Or.inl (Or.inr (Or.inr (Or.inr (Or.inr (Or.inr (Or.inr (⟨t,Or.inl a,q⟩)))))))
 ·rcases zh.1 a with a|a
  ·exact Or.inl (Or.inr (Or.inr (Or.inr (Or.inr (Or.inr (Or.inr (⟨t,Or.inr (Or.inl a),q⟩)))))))
  rw[z7] at a;subst a
  exact Or.inr (Or.inl (l▸q))
 ·exact Or.inl (Or.inr (Or.inr (Or.inr (Or.inr (Or.inr (Or.inr (⟨t,Or.inr (Or.inr (Or.inl a)),q⟩)))))))
 ·exact Or.inl (Or.inr (Or.inr (Or.inr (Or.inr (Or.inr (Or.inr (⟨t,Or.inr (Or.inr (Or.inr (Or.inl a))),q⟩)))))))
 exact Or.inl (Or.inr (Or.inr (Or.inr (Or.inr (Or.inr (Or.inr (⟨t,Or.inr (Or.inr (Or.inr (Or.inr (a)))),q⟩)))))))
theorem Pst.joinE (h:Pst w d ob O w1 d1 O)(i:KeptE w1 ob O.V O.IS O.FS O.RS O.GS O.ES v e w')(m:∀k,v.ownBlock=some k->w.heap.size<=k/\¬df d1 k):e=.returned (.tuple #[])/\∃f,Pst w d ob O w' d1 f:=by
 obtain⟨j,s,x,l,c,g,b⟩:=i;refine⟨j,{ O with V:={ O.V with ev:=x },ES:=O.ES++[s] },h.join (u:=O.V.ev) (v:=v) c g (fun k q=>?_) m (fun k q=>?_) ⟨by simp,by simp,by simp,by simp,by simp⟩ ⟨id,id⟩⟩
 ·exact Or.inr (Or.inr (Or.inr (Or.inr (Or.inr (Or.inl q)))))
 rcases q with rfl|q|q|q|q|q|⟨t,a,q⟩
 ·exact Or.inl (Or.inl rfl)
 ·exact Or.inl (Or.inr (Or.inl q))
 ·exact Or.inl (Or.inr (Or.inr (Or.inl q)))
 ·exact Or.inl (Or.inr (Or.inr (Or.inr (Or.inl q))))
 ·exact Or.inl (Or.inr (Or.inr (Or.inr (Or.inr (Or.inl q)))))
 ·rcases b with b|b
  ·exact Or.inl (Or.inr (Or.inr (Or.inr (Or.inr (Or.inr (Or.inl (b▸q)))))))
  exact Or.inr (Or.inr (b k q))
 rcases a with a|a|a|a|a
 ·exact Or.inl (Or.inr (Or.inr (Or.inr (Or.inr (Or.inr (Or.inr (⟨t,Or.inl a,q⟩)))))))
 ·exact Or.inl (Or.inr (Or.inr (Or.inr (Or.inr (Or.inr (Or.inr (⟨t,Or.inr (Or.inl a),q⟩)))))))
 ·exact Or.inl (Or.inr (Or.inr (Or.inr (Or.inr (Or.inr (Or.inr (⟨t,Or.inr (Or.inr (Or.inl a)),q⟩)))))))
 ·exact Or.inl (Or.inr (Or.inr (Or.inr (Or.inr (Or.inr (Or.inr (⟨t,Or.inr (Or.inr (Or.inr (Or.inl a))),q⟩)))))))
 rcases zh.1 a with a|a
 ·exact Or.inl (Or.inr (Or.inr (Or.inr (Or.inr (Or.inr (Or.inr (⟨t,Or.inr (Or.inr (Or.inr (Or.inr (a)))),q⟩)))))))
 rw[z7] at a;subst a
 exact Or.inr (Or.inl (l▸q))
end
theorem Fr.frm {S:Nat->Prop}{w w':World}(h:Fr S w w'):aE S w w':=⟨h.os,h.tape,h.output,h.size,h.block⟩
section
variable {w w1 w2:World}{d:DV}{ob:Nat}{O:OL}{v:Int}{e e':Ending}
theorem Dep.rOn (h:Dep w d){S:Nat->Prop}(a:aE S w w1)(b:∀k,S k->XF d k):RS' w1 d:=RS'.fr h.r a fun k q c=>h.xr (b k c) q
theorem sK (h:Dep w d)(f:PinR d.sb d.keep (d.bs.length:Nat) d.sl d.pv d.LS d.PI v w e w1):RS' w1 d/\∃g,e=.returned (.int .i64 g):=by
 rcases f with ⟨_,a,b⟩|⟨_,_,a,b⟩|⟨_,_,a,c,_⟩
 ·exact⟨h.r.on b,_,a⟩
 ·exact⟨h.r.on b,_,a⟩
 exact⟨h.rOn c.frm fun k q=>by rcases q with q|q;exact Or.inl q;exact Or.inr (Or.inr q),_,a⟩
theorem sU (h:Dep w d)(n:io w ob O)(m:∀k,df d k->¬OF ob O k)(D:PinR d.sb d.keep (d.bs.length:Nat) d.sl d.pv d.LS d.PI v w e w1)(j:pX w1 d.rb d.keep d.bv d.rp d.SL d.bs d.PI v e' w2) :
  ∃y B,e=.returned (.int .i64 y)/\e'=.returned (.int .i64 y)/\Pst w d ob O w2 B O:=by
 rcases D with ⟨q,f,c⟩|⟨q,G,f,c⟩|⟨q,G,f,C,z,x,a⟩<;>rcases j with ⟨p,i,l⟩|⟨p,F,i,l⟩|⟨p,F,i,r,A,E,hm⟩
 ·exact⟨_,d,f,i,Pst.still h n m (c.trans (l.mono c.size))⟩
 ·rw[q] at p;cases p
 ·rw[q] at p;cases p
 ·rw[q] at p;cases p
 ·exact⟨_,d,f,i,Pst.still h n m (c.trans (l.mono c.size))⟩
 ·omega
 ·rw[q] at p;cases p
 ·omega
 have s:=C.frm;have H:=s.size;refine⟨_,{ d with pv:=z,rp:=A,PI:=d.PI++[v] },f,i,Pst.plain n m ⟨?_,E,h.pr,h.k,by show(d.PI++[v]).length<=6;simp;omega,h.b8,fun g o t=>?_⟩ ?_ (fun k b=>?_) rfl rfl⟩
 ·refine dD.frmS x r ?_ (fun k b q=>?_) (fun k b q=>?_)
  ·rintro(q|q)
   ·exact h.xr (k:=d.sb) (Or.inl rfl) (Or.inl q)
   exact h.xr (k:=d.sb) (Or.inl rfl) (Or.inr (Or.inr (Or.inl q)))
  ·rcases q with q|q
   ·exact h.xr (Or.inr (Or.inl b)) (Or.inl q)
   exact h.xr (Or.inr (Or.inl b)) (Or.inr (Or.inr (Or.inl q)))
  have j:RF d k:=by
   rcases q with q|q
   ·exact Or.inl q
   exact Or.inr (Or.inr (Or.inl q))
  rcases a with a|a
  ·exact h.xr (Or.inr (Or.inr (a▸b))) j
  have:=a k b;have:=RS'.lt h.r j;omega
 ·have I:g<w1.heap.size:=(x.pins.lt g o).2
  rcases hm with hm|hm
  ·have u:d.rp.ownBlock=some g:=hm▸t
   rcases a with a|a
   ·exact h.dj g (a▸o) u
   have:=a g o;have:=RS'.lt h.r (Or.inr (Or.inr (Or.inl u)));omega
  have:=hm g t;omega
 ·refine(s.mono fun k _ q=>?_).then r fun k _ q=>?_
  ·rcases q with q|q
   ·exact Or.inl (Or.inl q)
   exact Or.inl (Or.inr (Or.inr q))
  rcases q with q|q
  ·exact Or.inr (Or.inl q)
  exact Or.inr (Or.inr (Or.inr (Or.inl q)))
 rcases b with (q|q|q)|(q|q|q|q)
 ·exact Or.inl (Or.inl (Or.inl q))
 ·exact Or.inl (Or.inl (Or.inr (Or.inl q)))
 ·rcases a with a|a
  ·exact Or.inl (Or.inl (Or.inr (Or.inr (a▸q))))
  exact Or.inr (a k q)
 ·exact Or.inl (Or.inr (Or.inl q))
 ·exact Or.inl (Or.inr (Or.inr (Or.inl q)))
 ·rcases hm with hm|hm
  ·exact Or.inl (Or.inr (Or.inr (Or.inr (Or.inl (hm▸q)))))
  exact Or.inr (by have:=hm k q;omega)
 exact Or.inl (Or.inr (Or.inr (Or.inr (Or.inr q))))
theorem sI (h:Dep w d)(c:UnpR d.sb d.keep (d.bs.length:Nat) d.sl d.LS d.PI v w e w1):RS' w1 d/\∃g,e=.returned (.int .i64 g):=by
 rcases c with ⟨_,a,f⟩|⟨_,a,b,_⟩
 ·exact⟨h.r.on f,_,a⟩
 exact⟨h.rOn b.frm fun k q=>Or.inl q,_,a⟩
theorem sO (h:Dep w d)(l:io w ob O)(j:∀k,df d k->¬OF ob O k)(A:UnpR d.sb d.keep (d.bs.length:Nat) d.sl d.LS d.PI v w e w1)(B:qj w1 d.rb d.keep d.bv d.SL d.bs d.PI v e' w2) :
  ∃r y,e=.returned (.int .i64 r)/\e'=.returned (.int .i64 r)/\Pst w d ob O w2 y O:=by
 rcases A with ⟨q,b,m⟩|⟨q,b,z,u,o,n⟩<;>rcases B with ⟨p,c,s⟩|⟨p,c,f,x,D,hm⟩
 ·exact⟨_,d,b,c,Pst.still h l j (m.trans (s.mono m.size))⟩
 ·exact absurd p q
 ·exact absurd q p
 have i:=z.frm;have E:=i.size;refine⟨_,{ d with pv:=u,rp:=x,PI:=d.PI.erase v },b,c,Pst.plain l j ⟨?_,D,h.pr,h.k,zF (List.length_erase_le) h.p,h.b8,fun g C t=>?_⟩ ?_ (fun k a=>?_) rfl rfl⟩
 ·refine dD.frmS o f (fun q=>h.xr (k:=d.sb) (Or.inl rfl) (Or.inl q)) (fun k a q=>h.xr (Or.inr (Or.inl a)) (Or.inl q)) (fun k a q=>?_)
  have:=n k a;have:=RS'.lt h.r (Or.inl q);omega
 ·have F:g<w1.heap.size:=(o.pins.lt g C).2
  have:=hm g t;omega
 ·refine(i.mono fun k _ q=>Or.inl (Or.inl q)).then f fun k _ q=>Or.inr (Or.inl q)
 rcases a with (q|q|q)|(q|q|q|q)
 ·exact Or.inl (Or.inl (Or.inl q))
 ·exact Or.inl (Or.inl (Or.inr (Or.inl q)))
 ·exact Or.inr (n k q)
 ·exact Or.inl (Or.inr (Or.inl q))
 ·exact Or.inl (Or.inr (Or.inr (Or.inl q)))
 ·exact Or.inr (by have:=hm k q;omega)
 exact Or.inl (Or.inr (Or.inr (Or.inr (Or.inr q))))
end
def sB (w:World) (d:DV) (b:bK) (e:Ending) (w':World):Prop:=
 (8<b.length/\e=.returned (.tuple #[(),.int .i64 8])/\w=w')\/(b.length<=8/\ApR d.sb d.keep (d.bs.length:Nat) d.pv d.LS b.length (gf b) w e w')
section
variable {w w1 w2:World}{d:DV}{ob:Nat}{O:OL}{b:bK}{e e':Ending}
theorem p9 {v:Value}(h:Dep w d)(c:mD 25 w v b.length (gf b)):Calls prog 26 #[some d.sb,v] w fun e w'=>sB w d b e w':=by
 by_cases a:8<b.length
 ·exact(Apply_big c a d.sb).mono fun e w' q=>Or.inl ⟨a,q.1,q.2⟩
 have:=h.pr.le;have:=h.pr.max
 exact(Apply_any d.sb d.keep (d.bs.length:Nat) d.sl d.pv d.LS v b.length (gf b) w h.x.blk h.x.own (by omega) c (by omega) (by omega)).mono fun e w' q=>Or.inr ⟨by omega,q⟩
theorem qY (h:Dep w d)(j:sB w d b e w1):RS' w1 d/\aE (fun k=>k=d.sb) w w1/\∃n i,e=.returned (.tuple #[.int .i64 n,.int .i64 i]):=by
 have f:Below w.heap.size w w1->RS' w1 d/\aE (fun k=>k=d.sb) w w1:=fun a=>⟨h.r.on a,aE.of_below a⟩
 rcases j with ⟨_,c,rfl⟩|⟨_,⟨_,c,a⟩|⟨_,_,c,a⟩|⟨_,_,k,p,_,⟨_,c,l,_⟩|⟨_,i,o,_,_,c,a⟩⟩⟩
 ·exact⟨h.r,aE.rfl' _ _,_,_,c⟩
 ·exact⟨(f a).1,(f a).2,_,_,c⟩
 ·exact⟨(f a).1,(f a).2,_,_,c⟩
 ·have g:aE (fun k=>k=d.sb) w w1:=(aE.rfl' _ w).grown l fun q m _=>by cases m;rfl
  exact⟨h.rOn g fun k q=>Or.inl q,g,_,_,c⟩
 exact⟨(f a).1,(f a).2,_,_,c⟩
theorem qV (h:Dep w d)(R:io w ob O)(J:∀k,df d k->¬OF ob O k)(Z:sB w d b e w1)(o:RApR w1 d.rb d.keep d.bv d.rp d.SL d.bs d.PI b e' w2) :
  ∃n x X,e=.returned (.tuple #[.int .i64 n,.int .i64 x])/\e'=.returned (.tuple #[.int .i64 n,.int .i64 x])/\Pst w d ob O w2 X O:=by
 have u:Below w.heap.size w w1->Below w1.heap.size w1 w2->Pst w d ob O w2 d O:=fun l a=>Pst.still h R J (l.trans (a.mono l.size));have ak:=h.pr.max
 rcases Z with ⟨D,i,rfl⟩|⟨D,⟨P,i,l⟩|⟨P,T,i,l⟩|⟨P,T,k,y,Q,⟨F,i,ab,C,ag,G⟩|⟨F,x,ah,Y,M,i,l⟩⟩⟩
 ·rcases o with ⟨_,f,a⟩|⟨_,q,_⟩|⟨_,q,_⟩|⟨_,q,_⟩
  ·exact⟨_,_,d,i,f,u (zV _ _) a⟩
  ·omega
  ·omega
  omega
 ·rcases o with ⟨_,f,a⟩|⟨q,_,_⟩|⟨q,_,_⟩|⟨q,_,_⟩
  ·exact⟨_,_,d,i,f,u l a⟩
  ·omega
  ·omega
  omega
 ·rcases o with ⟨q,f,a⟩|⟨_,_,q,f,a⟩|⟨_,_,q,_⟩|⟨_,_,q,_⟩
  ·omega
  ·exact⟨_,_,d,i,f,u l a⟩
  ·omega
  omega
 ·subst F
  obtain⟨z,V⟩:=h.pr.yes D (by omega) Q
  rcases o with ⟨q,f,a⟩|⟨_,_,q,_⟩|⟨_,_,q,r,S,L,_,v,A,_⟩|⟨_,_,q,_,f,I,U,s,ad,hm,af⟩
  ·omega
  ·omega
  ·exact absurd ((z r L).symm.trans v) (fun q=>A q.symm)
  have E:aE (fun k=>k=d.sb) w w1:=(aE.rfl' _ w).grown ab fun q ac _=>by cases ac;rfl
  have aj:=E.size;have W:dD w1 d.sb d.keep ((d.bs.length:Nat)+1:Int) C d.pv y (ri d.PI):=
   ⟨ag,G.mono (by have:=an h.x.blk;omega),h.x.pins.same fun g K=>E.block g (h.x.pins.lt g K).2 (by have:=(h.x.pins.lt g K).1;omega)⟩
  have N:((d.bs++[b]).length:Nat)=d.bs.length+1:=by simp
  refine⟨_,_,{ d with sl:=C,LS:=y,bv:=U,SL:=d.SL++[s],bs:=d.bs++[b] },i,?_,Pst.plain R J ⟨?_,ad,V,h.k,h.p,fun j m=>?_,h.dj⟩ ?_ (fun j m=>?_) rfl rfl⟩
  ·rw[f];rfl
  ·show dD w2 d.sb d.keep (((d.bs++[b]).length:Nat):Int) C d.pv y (ri d.PI)
   rw[N,Int.natCast_add];refine dD.frmS W I ?_ (fun j m q=>?_) (fun j m q=>?_)
   ·rintro(q|q)
    ·exact h.xr (k:=d.sb) (Or.inl rfl) (Or.inl q)
    exact h.xr (k:=d.sb) (Or.inl rfl) (Or.inr (Or.inl q))
   ·have o:RF d j:=by
     rcases q with q|q
     ·exact Or.inl q
     exact Or.inr (Or.inl q)
    have:=(G.lt j m).1;have:=RS'.lt h.r o;omega
   rcases q with q|q
   ·exact h.xr (Or.inr (Or.inr m)) (Or.inl q)
   exact h.xr (Or.inr (Or.inr m)) (Or.inr (Or.inl q))
  ·have ai:j<d.bs.length+1:=by rw[<-N];exact m
   show(ff (d.bs++[b]) j).length<=8
   by_cases c:j<d.bs.length
   ·rw[lr c];exact h.b8 j c
   obtain rfl:j=d.bs.length:=by omega
   rw[lu];exact D
  ·refine(E.mono fun k _ q=>Or.inl (Or.inl q)).then I fun k _ q=>?_
   rcases q with q|q
   ·exact Or.inr (Or.inl q)
   exact Or.inr (Or.inr (Or.inl q))
  rcases m with (q|q|q)|(q|q|q|⟨t,p,q⟩)
  ·exact Or.inl (Or.inl (Or.inl q))
  ·exact Or.inr (G.lt j q).1
  ·exact Or.inl (Or.inl (Or.inr (Or.inr q)))
  ·exact Or.inl (Or.inr (Or.inl q))
  ·rcases hm with hm|hm
   ·exact Or.inl (Or.inr (Or.inr (Or.inl (hm▸q))))
   exact Or.inr (by have:=hm j q;omega)
  ·exact Or.inl (Or.inr (Or.inr (Or.inr (Or.inl q))))
  rcases zh.1 p with p|p
  ·exact Or.inl (Or.inr (Or.inr (Or.inr (Or.inr ⟨t,p,q⟩))))
  rw[z7] at p;subst p
  exact Or.inr (by have:=af j q;omega)
 obtain⟨z,B⟩:=h.pr.no Q Y
 rcases o with ⟨q,f,a⟩|⟨_,_,q,_⟩|⟨_,_,q,r,S,L,H,v,A,f,a⟩|⟨_,_,q,H,_⟩
 ·omega
 ·omega
 ·have:k=r:=by
   rcases Nat.lt_trichotomy k r with c|c|c
   ·exact absurd ((H k c).symm.trans B) (fun q=>M q.symm)
   ·exact c
   exact absurd ((z r c).symm.trans v) (fun q=>A q.symm)
  subst this;have:x=S:=B.symm.trans v;subst this
  exact⟨_,_,d,i,f,u l a⟩
 exact absurd ((H k F).symm.trans B) (fun q=>M q.symm)
end
theorem Pst.pre {w w1 w':World}{d c:DV}{ob:Nat}{O b:OL}(a:Below w.heap.size w w1)(h:Pst w1 d ob O w' c b):Pst w d ob O w' c b:=
 ⟨h.dep,h.own,h.dj,(aE.of_below a).then h.frm fun _ _ q=>q,fun k q=>by
  rcases h.foot k q with e|e
  ·exact Or.inl e
  exact Or.inr (zF a.size e),⟨fun k q=>by
  rcases h.ost.foot k q with e|e
  ·exact Or.inl e
  exact Or.inr (zF a.size e),h.ost.il,h.ost.fl,h.ost.rl,h.ost.gl,h.ost.el,h.ost.r0,h.ost.g0⟩,h.sb,h.rb⟩
structure qX (w w1:World) (d:DV) (o:iH):Prop where
 b:Below w.heap.size w w1
 z:w.heap.size+2<=w1.heap.size
 p:w1.heap[w.heap.size]?=some (.cells #[.pointer (some ⟨d.sb,0,none⟩),.pointer (some ⟨d.rb,0,none⟩)] 53 (0,0))
 q:w1.heap[w.heap.size+1]?=some (.cells o.v 44 (0,0))
theorem iD (w:World)(a:DV)(o:iH):qX w ((w.alloc (.cells #[some a.sb,some a.rb] 53)).alloc (.cells o.v 44)) a o:=by
 have b:=zZ w (.cells #[some a.sb,some a.rb] 53 (0,0));have c:=zZ (w.alloc (.cells #[some a.sb,some a.rb] 53)) (.cells o.v 44 (0,0));refine⟨((zV _ _).alloc (zz _) _).alloc (by simp) _,by simp,?_,by simpa using c⟩;rw[zr _ _ (by simp)];exact b
theorem qX.on {w w1 b:World}{c:DV}{o:iH}(h:qX w w1 c o)(a:Below w1.heap.size w1 b):qX w b c o:=⟨h.b.trans (a.mono h.b.size),zF h.z a.size,ag h.p a,ag h.q a⟩
structure Bx (w w2:World) (d:DV) (o:iH):Prop where
 z:w.heap.size+2<=w2.heap.size
 p:w2.heap[w.heap.size]?=some (.cells #[.pointer (some ⟨d.sb,0,none⟩),.pointer (some ⟨d.rb,0,none⟩)] 53 (0,0))
 q:w2.heap[w.heap.size+1]?=some (.cells o.v 44 (0,0))
theorem qX.bx {w w1:World}{d:DV}{o:iH}(h:qX w w1 d o):Bx w w1 d o:=⟨h.z,h.p,h.q⟩
theorem Bx.on {w w1 c:World}{d:DV}{o:iH}{S:Nat->Prop}(h:Bx w w1 d o)(a:aE S w1 c)(b:∀k,S k->k<w.heap.size):Bx w c d o:=
 ⟨zF h.z a.size,aQ h.p a fun q=>by have:=b _ q;omega,aQ h.q a fun q=>by have:=b _ q;omega⟩
theorem Bx.c0 {w w1:World}{d:DV}{o:iH}(h:Bx w w1 d o):w1.cell? ⟨w.heap.size,0,none⟩=some (.pointer (some ⟨d.sb,0,none⟩)):=(af h.p 0).trans rfl
theorem Bx.c1 {w w1:World}{d:DV}{o:iH}(h:Bx w w1 d o):w1.cell? ⟨w.heap.size,1,none⟩=some (.pointer (some ⟨d.rb,0,none⟩)):=(af h.p 1).trans rfl
theorem Bx.o {w w1:World}{d:DV}{o:iH}(h:Bx w w1 d o)(j:Nat):w1.cell? ⟨w.heap.size+1,j,none⟩=o.v[j]?:=af h.q j
section
variable {w w1:World}{d:DV}{v:Int}{e:Ending}
theorem sF (f:PinR d.sb d.keep (d.bs.length:Nat) d.sl d.pv d.LS d.PI v w e w1):aE (XF d) w w1:=by
 rcases f with ⟨_,b,a⟩|⟨_,_,b,a⟩|⟨_,_,b,c,_⟩
 ·exact aE.of_below a
 ·exact aE.of_below a
 exact c.frm.mono fun k _ q=>by rcases q with q|q;exact Or.inl q;exact Or.inr (Or.inr q)
theorem sH (b:UnpR d.sb d.keep (d.bs.length:Nat) d.sl d.LS d.PI v w e w1):aE (XF d) w w1:=by
 rcases b with ⟨_,f,c⟩|⟨_,f,a,_⟩
 ·exact aE.of_below c
 exact a.frm.mono fun k _ q=>Or.inl q
end
section
variable {w:World}{d:DV}{ob wb:Nat}{O:OL}{o:iH}
theorem rG (h:Dep w d)(t:io w ob O)(p:∀k,df d k->¬OF ob O k)(K:o.kind=3) :
  Calls prog 12 #[some wb,.agg #[some d.sb,some d.rb],.agg o.v] w fun e w'=>e=.returned (.bool true)/\∃l F,Pst w d ob O w' l F:=by
 have a:=iD w d o;have j:=ae a;have G:=a.bx.c0;have v:=(a.bx.o 0).trans (show _=some (Value.int .i64 o.kind) from rfl);have L:=(a.bx.o 2).trans (show _=some (Value.int .i64 o.a) from rfl);rw[K] at v;have b:=h.on a.b;have x:=h.pr.max;have D:=ae (Pin_any d.sb d.keep (d.bs.length:Nat) d.sl d.pv d.LS d.PI o.a _ b.x (fun g q M=>by obtain⟨c,e⟩:=b.x.pins.ty q;obtain⟨N,I⟩:=b.x.own.ty M;exact aI e I (by decide) rfl) h.p h.k (by omega));have s:=ae h;have m:=ae b;have C:=ae t;have y:=ae p;clear a b h t p;go_enter func12,ntmps12
 go_wp2_with fail
 refine(aa D).mono ?_;intro e Q f;obtain⟨n,S,rfl⟩:=sK (aa m) f;have i:=(aa j).bx.on (sF f) fun k q=>(aa s).lt (Or.inl q);have H:=i.c1;have B:=(i.o 2).trans (show _=some (Value.int .i64 o.a) from rfl);have E:=ae (sj o.a n (aa s).p x);have z:=ae f;clear f n i G v L
 go_wp2_with fail
 refine(aa E).mono ?_;intro e R u;obtain⟨P,l,J,rfl,r⟩:=sU (aa m) (bA.on (aa C) (aa j).b) (aa y) (aa z) u
 cases J
 have A:=ae (r.pre (aa j).b);clear r u H B
 go_wp2
 go_ret
 exact⟨rfl,l,O,aa A⟩
theorem qz (h:Dep w d)(r:io w ob O)(m:∀k,df d k->¬OF ob O k)(G:o.kind=4) :
  Calls prog 12 #[some wb,.agg #[some d.sb,some d.rb],.agg o.v] w fun e w'=>e=.returned (.bool true)/\∃g C,Pst w d ob O w' g C:=by
 have a:=iD w d o;have f:=ae a;have D:=a.bx.c0;have t:=(a.bx.o 0).trans (show _=some (Value.int .i64 o.kind) from rfl);have H:=(a.bx.o 2).trans (show _=some (Value.int .i64 o.a) from rfl);rw[G] at t;have i:=h.on a.b;have A:=ae (Unpin_any d.sb d.keep (d.bs.length:Nat) d.sl d.pv d.LS d.PI o.a _ i.x h.p);have p:=ae h;have j:=ae i;have z:=ae r;have u:=ae m;clear a i h r m;go_enter func12,ntmps12
 go_wp2_with fail
 refine(aa A).mono ?_;intro e J b;obtain⟨l,L,rfl⟩:=sI (aa j) b;have c:=(aa f).bx.on (sH b) fun k q=>(aa p).lt (Or.inl q);have E:=c.c1;have y:=(c.o 2).trans (show _=some (Value.int .i64 o.a) from rfl);have B:=ae (rA o.a l (aa p).p);have v:=ae b;clear b l c D t H
 go_wp2_with fail
 refine(aa B).mono ?_;intro e K s;obtain⟨I,g,F,rfl,n⟩:=sO (aa j) (bA.on (aa z) (aa f).b) (aa u) (aa v) s
 cases F
 have x:=ae (n.pre (aa f).b);clear n s E y
 go_wp2
 go_ret
 exact⟨rfl,g,O,aa x⟩
theorem qA (h:Dep w d)(y:io w ob O)(q:∀k,df d k->¬OF ob O k)(N:o.kind=6) :
  Calls prog 12 #[some wb,.agg #[some d.sb,some d.rb],.agg o.v] w fun e w'=>e=.returned (.bool true)/\∃M J,Pst w d ob O w' M J:=by
 have a:=iD w d o;have s:=ae a;have K:=a.bx.c0;have A:=(a.bx.o 0).trans (show _=some (Value.int .i64 o.kind) from rfl);have P:=(a.bx.o 2).trans (show _=some (Value.int .i64 o.a) from rfl);rw[N] at A;have kr:∀i:World,Bx w i d o->i.rangeAt (w.heap.size+1) 5 #[Value.int .i64 o.kl,.int .i64 o.kz,.int .i64 o.kx,.int .i64 o.ky].toList:=fun i b j u z=>by
  have:=b.o (5+j);rw[this]
  rcases j with _|_|_|_|j<;>simp at z<;>subst z<;>rfl
 have r:=kr _ a.bx;have I:=ae kr;have f:=h.on a.b;have B:=h.pr.max;obtain⟨p,g⟩:∃p,qf d.bs o.a o.kl o.kz o.kx o.ky=p:=⟨_,rfl⟩;have v:=ae (rB o.a o.kl o.kz o.kx o.ky f.x h.pr);rw[g] at v;have E:=ae g;have t:=ae h;have C:=ae f;have H:=ae y;have D:=ae q;clear a f h y q kr g;go_enter func12,ntmps12
 go_wp2_with (refine vM r rfl _ rfl rfl ?_)
 refine(aa v).mono ?_;rintro e Q ⟨rfl,c⟩;have b:=((aa s).on c).bx;have L:=b.c1;have G:=(b.o 2).trans (show _=some (Value.int .i64 o.a) from rfl);have l:=aa I _ b;have x:=ae (rh o.a o.kl o.kz o.kx o.ky ((aa C).on c).r B (aa t).b8);rw[aa E] at x;have m:=ae ((aa s).on c).b;clear c b K A P r
 go_wp2_with (refine vM l rfl _ rfl rfl ?_)
 refine(aa x).mono ?_;rintro e R ⟨rfl,n⟩;have F:=ae (Pst.still (aa t) (aa H) (aa D) ((aa m).trans (n.mono (aa m).size)));clear n L G l
 go_wp2
 go_ret
 exact⟨rfl,d,O,aa F⟩
theorem qM (h:Dep w d)(i:io w ob O)(c:∀k,df d k->¬OF ob O k)(hw:w.cell? ⟨wb,2,none⟩=some (.pointer (some ⟨ob,0,none⟩)))(m:wb<w.heap.size)(t:O.IS.length<=10000000)(s:o.kind=7) :
  Calls prog 12 #[some wb,.agg #[some d.sb,some d.rb],.agg o.v] w fun e w'=>e=.returned (.bool true)/\∃r b,Pst w d ob O w' r b:=by
 have a:=iD w d o;have n:=ae a;have g:=ao a.p;have j:=(a.bx.o 0).trans (show _=some (Value.int .i64 o.kind) from rfl);rw[s] at j;have u:=a.b.size;have q:=ae (held_any (h.on a.b) (bA.on i a.b) c ((a.b.cell (p:=⟨wb,2,none⟩) m).trans hw) (by omega) t);clear a h i c hw;go_enter func12,ntmps12
 go_wp2_with (refine bU 53 _ underlying53 rfl (by kernel_rfl) _ _ g rfl _ rfl rfl ?_)
 refine(aa q).mono ?_;rintro e v ⟨rfl,b,f⟩;have l:=ae (f.pre (aa n).b);clear f g j
 go_wp2
 go_ret
 exact⟨rfl,d,b,aa l⟩
end
def rO (w:World) (d:DV) (v a n:Int) (e:Ending) (w':World):Prop:=
 Below w.heap.size w w'/\((bS d.keep (d.bs.length:Nat) (ri d.PI) v=false/\e=.returned (.tuple #[.slice none 0 0,.int .i64 12]))\/
 (bS d.keep (d.bs.length:Nat) (ri d.PI) v=true/\(n<1\/8<n)/\e=.returned (.tuple #[.slice none 0 0,.int .i64 14]))\/
 (bS d.keep (d.bs.length:Nat) (ri d.PI) v=true/\1<=n/\n<=8/\∃R rv,e=.returned (.tuple #[rv,()])/\bf 66 24 w' w.heap.size rv R/\jB (dk d.bs v.toNat) a R/\R.length<=n.toNat/\(R.length=n.toNat\/gH (dk d.bs v.toNat) (lP a R R.length) (dk d.bs v.toNat).length=(dk d.bs v.toNat).length)))
theorem rU {w:World}{b:DV}(v a n:Int)(h:Dep w b):Calls prog 34 #[some b.sb,v,a,n] w fun e w'=>rO w b v a n e w':=by
 have j:=h.pr.max;have i:(ri b.PI).length<=100:=by rw[fI];have:=h.p;omega
 cases c:bS b.keep (b.bs.length:Nat) (ri b.PI) v with
 | false=>exact(Read_no b.sb b.keep (b.bs.length:Nat) b.sl b.pv b.LS (ri b.PI) v a n w h.x i h.k (by omega) c).mono fun e w' q=>⟨q.2,Or.inl ⟨c,q.1⟩⟩
 | true=>
  by_cases g:n<1\/8<n
  ·exact(sw h.x v a n h.p h.k j c g).mono fun e w' q=>⟨q.2,Or.inr (Or.inl ⟨c,g,q.1⟩)⟩
  obtain⟨d,rfl⟩:∃d:Nat,n=d:=⟨n.toNat,by omega⟩;obtain⟨f,rfl,hm⟩:=qe c;refine(Read_any b.sb b.keep (b.bs.length:Nat) b.sl b.pv b.LS (ri b.PI) (dk b.bs f) (f:Nat) a d w h.x (by have:=h.pr.le;omega) i h.k (by omega) c (h.pr.rel f hm) (by omega)).mono fun e w' q=>⟨q.2,Or.inr (Or.inr ⟨c,by omega,by omega,?_⟩)⟩;rw[Int.toNat_natCast,Int.toNat_natCast]
  exact q.1
theorem ti {f:Nat->Int}(h:Rt f):0<f 0:=by
 have:=lH h;unfold right bO at this;simp only[zl,dm,zN] at this;omega
theorem Dep.at {w:World}{a:DV}(h:Dep w a)(v:Nat)(b:v<=a.bs.length):Dis (dk a.bs v)/\∀j,j<(dk a.bs v).length->0<gf (dk a.bs v) j 0:=
 ⟨dis_in (h.pr.rel v b).dis,fun j c=>ti ((h.pr.rel v b).rt j c)⟩
theorem rS {w w1 E:World}{g:DV}{v a n:Int}{e x:Ending}(h:Dep w g)(o:rO w g v a n e w1)(m:pP w1 g.keep g.bs g.PI v a n x E) :
  ∃lv r H l,e=.returned (.tuple #[lv,.int .i64 H])/\x=.returned (.tuple #[r,.int .i64 H])/\ah rF 66 w1 lv l/\(∀k,lv.ownBlock=some k->w.heap.size<=k)/\l.length<=8/\kU E r l.length (gf l):=by
 have D:∀F:World,kU F (.slice none 0 0) (List.length (α:=Nat->Int) []) (gf []):=fun F=>⟨none,0,rfl,yF _,fun h=>absurd h (by simp)⟩;obtain⟨_,o⟩:=o;obtain⟨_,m⟩:=m
 rcases o with ⟨q,c⟩|⟨q,X,c⟩|⟨q,V,W,R,rv,c,A,u,N,s⟩<;>rcases m with ⟨p,d⟩|⟨p,U,d⟩|⟨p,S,T,r,B,d,y,I⟩
 ·exact⟨_,_,_,[],c,d,aU,fun k f=>by simp[Value.ownBlock] at f,by simp,D _⟩
 ·rw[q] at p;cases p
 ·rw[q] at p;cases p
 ·rw[q] at p;cases p
 ·exact⟨_,_,_,[],c,d,aU,fun k f=>by simp[Value.ownBlock] at f,by simp,D _⟩
 ·omega
 ·rw[q] at p;cases p
 ·omega
 obtain⟨G,rfl,hm⟩:=qe q;rw[Int.toNat_natCast] at u s y;obtain⟨P,Q⟩:=rQ (h.at G hm).1 (h.at G hm).2 y u N s;refine⟨_,_,_,R,c,d,A.toF,fun k f=>(A.lt k f).1,by omega,?_⟩;obtain⟨O,cap,e,t,C⟩:=bL.csF I;rw[<-P] at e t C;refine⟨O,cap,e,t,fun K=>?_⟩;obtain⟨b,off,J,L,M⟩:=C K
 exact⟨b,off,J,L,fun i hi j z=>by rw[M i hi j z,Q i hi j z]⟩
section
variable {w:World}{d:DV}{ob wb:Nat}{O:OL}{o:iH}
theorem qC (h:Dep w d)(J:io w ob O)(G:∀k,df d k->¬OF ob O k)(hw:w.cell? ⟨wb,2,none⟩=some (.pointer (some ⟨ob,0,none⟩)))(X:wb<w.heap.size)(al:O.FS.length<=10000000)(ak:o.kind=5) :
  Calls prog 12 #[some wb,.agg #[some d.sb,some d.rb],.agg o.v] w fun e w'=>e=.returned (.bool true)/\∃ai r,Pst w d ob O w' ai r:=by
 have a:=iD w d o;have n:=ae a;have ag:=a.bx.c0;have L:=(a.bx.o 0).trans (show _=some (Value.int .i64 o.kind) from rfl);have aq:=(a.bx.o 2).trans (show _=some (Value.int .i64 o.a) from rfl);have ar:=(a.bx.o 3).trans (show _=some (Value.int .i64 o.b) from rfl);have au:=(a.bx.o 4).trans (show _=some (Value.int .i64 o.c) from rfl);rw[ak] at L;have t:=h.on a.b;have P:=h.pr.max;have Z:=ae (rU o.a o.b o.c t);have c:=ae h;have C:=ae t;have H:=ae J;have Q:=ae G;have ad:=ae hw;clear a t h J G hw;go_enter func12,ntmps12
 go_wp2_with fail
 refine(aa Z).mono ?_;intro e aC j;have g:=j.1;have b:=((aa n).on g).bx;have ah:=b.c1;have an:=(b.o 2).trans (show _=some (Value.int .i64 o.a) from rfl);have ao:=(b.o 3).trans (show _=some (Value.int .i64 o.b) from rfl);have ap:=(b.o 4).trans (show _=some (Value.int .i64 o.c) from rfl);have ab:=ae (rT o.a o.b o.c ((aa C).on g).r (by have:=(aa c).p;omega) P (aa c).b8 (aa c).at);have W:∃lv N,e=.returned (.tuple #[lv,.int .i64 N]):=by
  rcases j.2 with ⟨_,f⟩|⟨_,_,f⟩|⟨_,_,_,R,rv,f,_⟩
  ·exact⟨_,_,f⟩
  ·exact⟨_,_,f⟩
  exact⟨_,_,f⟩
 obtain⟨lv,N,rfl⟩:=W;have af:=ae j;have A:=ae ((aa n).on g).b;clear j g b ag L aq ar au
 go_wp2_with fail
 refine(aa ab).mono ?_;intro e ax x;obtain⟨az,av,aB,M,aj,rfl,y,K,ay,F⟩:=rS (aa C) (aa af) x
 cases aj
 have i:=x.1;have ac:=ae (lE lv av M.length (gf M) ax (bL.csF (y.on i).at) F (by omega));have T:=ae (y.on i);have S:=ae K;have B:=ae ((aa A).trans (i.mono (aa A).size));clear x y K F i ah an ao ap
 go_wp2_with fail
 refine(aa ac).mono ?_;rintro e aD ⟨rfl,m⟩;have l:=(aa B).trans (m.mono (aa B).size);have aA:=(l.cell (p:=⟨wb,2,none⟩) X).trans (aa ad);have u:=Pst.still (aa c) (aa H) (aa Q) l;have z:∀k,lv.ownBlock=some k->w.heap.size<=k:=fun k q=>by have:=aa S k q;have:=(aa n).b.size;omega
 have Y:=ae (keepF_any (v:=lv) u.own ((aa T).on m) (fun s am=>new_list (aa H) z s (Or.inr (Or.inl am))) al);have I:=ae z;have V:=ae u;clear m l u z
 go_wp2_with fail
 refine(aa Y).mono ?_;intro e aE D;obtain⟨rfl,r,E⟩:=(aa V).joinF D fun k q=>⟨aa I k q,fun aw=>by have:=aa I k q;have:=(aa c).lt aw;omega⟩;have U:=ae E;clear E D
 go_wp2
 go_ret
 exact⟨rfl,d,r,aa U⟩
end
section
variable {w:World}{d:DV}{ob wb:Nat}{O:OL}{o:iH}
theorem qr (h:Dep w d)(aQ:io w ob O)(aI:∀k,df d k->¬OF ob O k)(hw:w.cell? ⟨wb,2,none⟩=some (.pointer (some ⟨ob,0,none⟩)))(aN:¬df d wb/\¬OF ob O wb)(aL:wb<w.heap.size)(aR:O.ES.length<=10000000)(b:bK)(ax:bL rE w o.bat b)(ak:b.length<=10000000)(aH:0<b.length->∀g,o.bat.ownBlock=some g->¬df d g/\¬OF ob O g)(a3:o.kind=2) :
  Calls prog 12 #[some wb,.agg #[some d.sb,some d.rb],.agg o.v] w fun e w'=>e=.returned (.bool true)/\∃u N,Pst w d ob O w' u N:=by
 have E:=iD w d o;have am:=ae E;have aP:=E.bx.c0;have ay:=(E.bx.o 0).trans (show _=some (Value.int .i64 o.kind) from rfl);have B:=(E.bx.o 11).trans (show _=some (Value.slice o.bo o.bn o.bc) from rfl);rw[a3] at ay;have aA:=h.pr.max;obtain⟨w1,aM⟩:∃w1,((w.alloc (.cells #[some d.sb,some d.rb] 53)).alloc (.cells o.v 44))=w1:=⟨_,rfl⟩;have aF:=ae aM;have a1:=ae (handed_any (.slice o.bo o.bn o.bc) b _ (bL.on (show bL rE w (.slice o.bo o.bn o.bc) b from ax) E.b) ak);have af:=ae aH;have ad:=ae (show bL rE w (.slice o.bo o.bn o.bc) b from ax);have t:=ae h;have Z:=ae aQ;have aC:=ae aI;have aO:=ae hw;have V:=ae aN;clear E h aQ aI hw ax aH aN aM;go_enter func12,ntmps12
 go_wp2_with fail
 refine(aa a1).mono ?_;intro e aS ab;rw[aa aF] at am;rw[aa aF] at ab;obtain⟨aj,ab⟩:=ab;have z:=(aa am).on aj;have Y:=z.bx;have aG:=Y.c0;have M:=(aa t).on z.b;have ai:=bA.on (aa Z) z.b;have R:=ae z;have U:=ae M;have aD:=ae ai;have T:=ae Y
 rcases ab with ⟨⟨c,Q⟩,rfl,rfl⟩|⟨⟨a2,c,Q⟩,rfl,aB⟩
 ·have ar:=ae Q
  clear Q;have ao:=ae (p9 (b:=[]) (v:=.slice none 0 0) M ⟨none,0,rfl,yF _,fun h=>absurd h (by simp)⟩);clear M ai Y z aj aP ay B
  go_wp2_with fail
  refine(aa ao).mono ?_;intro e az x;obtain⟨L,r,n,a9,rfl⟩:=qY (aa U) x;have j:=(aa T).on r fun k q=>(aa t).lt (Or.inl (Or.inl q));have av:=j.c1;have B:=(j.o 11).trans (show _=some (Value.slice o.bo o.bn o.bc) from rfl);have G:bL rE az (.slice o.bo o.bn o.bc) []:=((aa ad).on (aa R).b).frm r fun D=>absurd D (by simp);have ap:=ae (rApply_any (.slice o.bo o.bn o.bc) [] L G aA (aa t).b8);have au:=ae x;have ba:=ae j;clear x L r j G aG
  go_wp2_with fail
  refine(aa ap).mono ?_;intro e F P;obtain⟨a5,a6,u,aw,rfl,i⟩:=qV (aa U) (aa aD) (aa aC) (aa au) P
  cases aw
  have H:=(aa T).on i.frm fun k q=>by
   rcases q with q|q
   ·exact(aa t).lt q
   exact bA.lt (aa Z) q
  have I:=(H.o 11).trans (show _=some (Value.slice o.bo o.bn o.bc) from rfl);rw[aa ar] at I;have m:=i.pre (aa R).b;have C:F.cell? ⟨wb,2,none⟩=some (.pointer (some ⟨ob,0,none⟩)):=by
   rw[zP (a:=⟨wb,2,none⟩) (m.frm.block wb aL (fun q=>by rcases q with q|q;exact(aa V).1 q;exact(aa V).2 q))];exact aa aO
  have aq:=ae (fun a8=>mL c 0 0 none a8);have an:=ae (nK (v:=.slice none 0 0) (l:=[]) i.own aU (fun s _ g _ q=>by simp[Value.ownBlock] at q) aR);have f:=ae m;clear P i m H av B
  go_wp2_with fail
  refine(aa aq _).mono ?_;rintro e aT ⟨rfl,rfl⟩
  go_wp2_with fail
  refine(aa an).mono ?_;intro e a7 J;obtain⟨rfl,N,K⟩:=(aa f).joinE J fun k q=>by simp[Value.ownBlock] at q
  have ag:=ae K;clear K J C I
  go_wp2
  go_ret
  exact⟨rfl,u,N,aa ag⟩
 have ar:=ae Q;clear Q;have W:Hnd aS w1.heap.size w1.heap.size b:=⟨aB⟩;have aK:w.heap.size<=w1.heap.size:=(aa am).b.size;have a0:w1.heap.size<aS.heap.size:=W.lt;have ao:=ae (p9 (b:=b) M (W.at ak));have aW:=ae W;clear M ai Y z aj aP ay B W aB
 go_wp2_with fail
 refine(aa ao).mono ?_;intro e az x;obtain⟨L,r,n,a9,rfl⟩:=qY (aa U) x;have j:=(aa T).on r fun k q=>(aa t).lt (Or.inl (Or.inl q));have av:=j.c1;have B:=(j.o 11).trans (show _=some (Value.slice o.bo o.bn o.bc) from rfl);have G:bL rE az (.slice o.bo o.bn o.bc) b:=((aa ad).on (aa R).b).frm r fun D g q y=>(aa af D g q).1 (Or.inl (Or.inl y));have ap:=ae (rApply_any (.slice o.bo o.bn o.bc) b L G aA (aa t).b8);have au:=ae x;clear x L r j G aG
 go_wp2_with fail
 refine(aa ap).mono ?_;intro e F P;obtain⟨a5,a6,u,aw,rfl,i⟩:=qV (aa U) (aa aD) (aa aC) (aa au) P
 cases aw
 have al:∀k,df d k\/OF ob O k->k<w.heap.size:=fun k q=>by
  rcases q with q|q
  ·exact(aa t).lt q
  exact bA.lt (aa Z) q
 have H:=(aa T).on i.frm al;have I:=(H.o 11).trans (show _=some (Value.slice o.bo o.bn o.bc) from rfl);have m:=i.pre (aa R).b;have C:F.cell? ⟨wb,2,none⟩=some (.pointer (some ⟨ob,0,none⟩)):=by
  rw[zP (a:=⟨wb,2,none⟩) (m.frm.block wb aL (fun q=>by rcases q with q|q;exact(aa V).1 q;exact(aa V).2 q))];exact aa aO
 have ah:Hnd F w1.heap.size w1.heap.size b:=(aa aW).same (i.frm.block _ a0 fun q=>by have:=al _ q;omega);have ac:bL rE F (.slice o.bo o.bn o.bc) b:=(aa ad).frm m.frm fun D g q y=>by
  rcases y with y|y
  ·exact(aa af D g q).1 y
  exact(aa af D g q).2 y
 rw[aa ar] at I ac;have aq:=ae (mM w1.heap.size w1.heap.size a2 c b F ah ac ak);have f:=ae m;have aX:=ae ah;have aY:=ae (show ¬df u w1.heap.size from fun q=>by
  rcases i.foot _ q with q|q
  ·have:=al _ (Or.inl q);omega
  omega)
 have aV:=ae C;have bb:=i.frm.size;clear P i m H av B ah ac C
 go_wp2_with fail
 refine(aa aq).mono ?_;rintro e aT ⟨rfl,A⟩;have X:=(aa f);have C:=(A.cell (p:=⟨wb,2,none⟩) (by have:=(aa f).frm.size;show wb<_;omega)).trans (aa aV);have X:Pst w d ob O aT u O:=⟨(aa f).dep.on A,bA.on (aa f).own A,(aa f).dj,(aa f).frm.then (aE.of_below (S:=fun _=>False) A) (fun _ _ q=>q.elim),(aa f).foot,(aa f).ost,(aa f).sb,(aa f).rb⟩;have aJ:∀k,(Value.slice (some ⟨w1.heap.size,0,none⟩) b.length (b.length+2)).ownBlock=some k->k=w1.heap.size:=fun k q=>by cases q;rfl
 have an:=ae (nK (v:=.slice (some ⟨w1.heap.size,0,none⟩) b.length (b.length+2)) X.own ((aa aX).on A).pre (fun s a4=>new_list (aa Z) (fun k q=>by rw[aJ k q];exact aK) s (Or.inr (Or.inr (Or.inr (Or.inr a4))))) aR);have aZ:=ae X;clear A X
 go_wp2_with fail
 refine(aa an).mono ?_;intro e a7 J;obtain⟨rfl,N,K⟩:=(aa aZ).joinE J fun k q=>by rw[aJ k q];exact⟨aK,aa aY⟩
 have ag:=ae K;clear K J C I
 go_wp2
 go_ret
 exact⟨rfl,u,N,aa ag⟩
end
theorem td (p q:Nat):prog.built 53 [(0,.pointer (some ⟨p,0,none⟩)),(1,.pointer (some ⟨q,0,none⟩))]=some #[.pointer (some ⟨p,0,none⟩),.pointer (some ⟨q,0,none⟩)]:=by kernel_rfl
theorem sG (p q:Nat)(A:Act)(o:Oper)(x y:Operand)(b:o.op=.build 53 #[(0,x),(1,y)])(c:A.eval x=.pointer (some ⟨p,0,none⟩))(hy:A.eval y=.pointer (some ⟨q,0,none⟩))(w:World):(execOp A.eval o).run prog w=.ok (.value (.agg #[some p,some q])) w:=by
 have a:=run_build (P:=prog) w 53 #[(0,.pointer (some ⟨p,0,none⟩)),(1,.pointer (some ⟨q,0,none⟩))] _ (td p q);unfold execOp;simp[b,c,hy,a]
section
variable {w0 w w':World}{wb ob:Nat}{sv fv:Value}{D:List DV}{E:List EV}{O O':OL}{c:Nat->Nat}{n:Nat}
theorem WJ.wbd (h:WJ w0 w wb ob sv fv D E O n c){i:Nat}{a:DV}(b:D[i]?=some a):¬df a wb/\¬OF ob O wb:=by
 have:=h.cw
 exact⟨fun q=>by have:=h.cd i a wb b q;omega,h.wbo⟩
theorem WL.stepD (h:WL D E O n){i:Nat}{b:DV}(a:OStp w O ob O'):WL (D.set i b) E O' (n+1):=by
 have:=h.d;have:=h.e;have:=h.i;have:=h.f;have:=h.r;have:=h.g;have:=h.es;have:=a.il;have:=a.fl;have:=a.rl;have:=a.gl;have:=a.el
 exact⟨by rw[zn];omega,by omega,by omega,by omega,by omega,by omega,by omega⟩
end
section
variable {w0 w w':World}{wb ob:Nat}{sv fv:Value}{D:List DV}{E:List EV}{O O':OL}{c:Nat->Nat}{n:Nat}
theorem WJ.openD (h:WJ w0 w wb ob sv fv D E O n c){m p:World}{x:Value}{o:Obj}{e:DV}(H:Below w.heap.size w m)(K:Dep m e)(G:∀k,df e k->w.heap.size<=k)
  (L:ah rTwo 53 p x (D.map twoOf++[twoOf e])) (i:(m.alloc o).grownBy p sv.ownBlock) (A:x.ownBlock=sv.ownBlock\/∀g,x.ownBlock=some g->m.heap.size<=g):∃S,WJ w0 (p.setCell ⟨wb,0,none⟩ x) wb ob x fv (D++[e]) E O n S:=by
 have a:=h.on H;have R:=an a.blk;have X:=H.size;have V:=i.size;simp only[World.alloc,Array.size_push] at V;have M:∀q,q<m.heap.size->q≠wb->sv.ownBlock≠some q->(p.setCell ⟨wb,0,none⟩ x).heap[q]?=m.heap[q]?:=fun q y C U=>by
  rw[zW _ _ _ _ (fun e=>C e),i.block q (by simp;omega) (fun e=>U e.symm),zr _ _ y]
 have J:p.heap[wb]?=some (.cells #[sv,fv,some ob] 37 (0,0)):=by
  rw[i.block _ (by simp;omega) (fun q=>by obtain⟨F,l⟩:=a.st.ty q.symm;exact aI l a.blk (by decide) rfl),zr _ _ R]
  exact a.blk
 have I:∀q,sv.ownBlock=some q->q<w.heap.size:=fun q y=>h.st.lt y;have r:aE (fun q=>q=wb\/sv.ownBlock=some q) m (p.setCell ⟨wb,0,none⟩ x):=⟨i.os,i.tape,i.output,by simp[World.setCell];omega,fun q y C=>M q y (fun e=>C (Or.inl e)) (fun e=>C (Or.inr e))⟩;have t:∀k,(k=wb\/sv.ownBlock=some k)->c k=1:=fun k q=>by
  rcases q with rfl|q
  ·exact h.cw
  exact h.cs k q
 have N:∀k,(k=wb\/sv.ownBlock=some k)->4<=k:=fun k q=>h.four (by rw[t k q];decide);have P:∀k,(k=wb\/sv.ownBlock=some k)->k<w.heap.size:=fun k q=>by
  rcases q with rfl|q
  ·exact an h.blk
  exact I k q
 classical
 refine⟨fun k=>if k<w.heap.size then c k else if df e k then 3+2*D.length else 1,⟨i.os.trans a.base.os,i.tape.trans a.base.tape,i.output.trans a.base.output,by have:=a.base.size;simp[World.setCell];omega,fun k s=>?_⟩,?_,?_,?_,fun j f d=>?_,fun j B u=>?_,bA.frm a.own r (fun k q b=>by have:=t k b;have:=h.co k q;omega),fun j f k d q=>?_,fun j B k u q=>?_,fun k q=>?_,?_,fun k q=>?_,fun k q=>?_,fun k s=>?_,h.glb⟩
 ·have Q:=zC s a.base.size
  rw[r.block k Q (fun q=>by have:=t k q;have:=h.cb k s;omega)]
  exact a.base.block k s
 ·show(p.setCell ⟨wb,0,none⟩ x).heap[wb]?=_
  simp[World.setCell,zk,J]
 ·rw[yV]
  exact L.same fun g v=>zW _ _ _ _ (by obtain⟨F,l⟩:=L.ty v;exact aI l J (by decide))
 ·exact a.fr.same fun g v=>r.block g (a.fr.lt v) (fun q=>by
   rcases q with rfl|q
   ·obtain⟨F,l⟩:=a.fr.ty v;exact aI l a.blk (by decide) rfl
   obtain⟨F,l⟩:=a.fr.ty v;obtain⟨Y,T⟩:=a.st.ty q;exact aI l T (by decide) rfl)
 ·rcases getElem?_snoc d with d|⟨rfl,rfl⟩
  ·exact(a.dep j f d).frm r (fun k q b=>by have:=t k b;have:=h.cd j f k d q;omega)
  exact K.frm r (fun k q b=>by have:=P k b;have:=G k q;omega)
 ·exact(a.des j B u).frm r (fun k q b=>by have:=t k b;have:=h.ce j B k u q;omega) N
 ·show(if k<w.heap.size then c k else if df e k then 3+2*D.length else 1)=3+2*j
  rcases getElem?_snoc d with d|⟨rfl,rfl⟩
  ·rw[zJ ((h.dep j f d).lt q)];exact h.cd j f k d q
  have:=G k q;rw[zK (by omega),zJ q]
 ·show(if k<w.heap.size then c k else if df e k then 3+2*D.length else 1)=4+2*j
  rw[zJ ((h.des j B u).lt q)];exact h.ce j B k u q
 ·show(if k<w.heap.size then c k else if df e k then 3+2*D.length else 1)=2
  rw[zJ (bA.lt h.own q)];exact h.co k q
 ·show(if wb<w.heap.size then c wb else if df e wb then 3+2*D.length else 1)=1
  rw[zJ (an h.blk)];exact h.cw
 ·show(if k<w.heap.size then c k else if df e k then 3+2*D.length else 1)=1
  rcases A with A|A
  ·have b:sv.ownBlock=some k:=A▸q
   rw[zJ (I k b)];exact h.cs k b
  have z:=A k q;rw[zK (by omega),zK (fun W=>by have:=K.lt W;omega)]
 ·show(if k<w.heap.size then c k else if df e k then 3+2*D.length else 1)=1
  rw[zJ (h.fr.lt q)];exact h.cf k q
 show(if k<w.heap.size then c k else if df e k then 3+2*D.length else 1)=0
 rw[zJ (zC s h.base.size)];exact h.cb k s
theorem sV {k:Int}(w:World)(l:0<=k/\k<=4):∃e:DV,Dep ((w.alloc (.cells #[k,(),.slice none 0 0,.slice none 0 0] 119)).alloc (.cells #[k,.slice none 0 0,.slice none 0 0] 121)) e/\(∀q,df e q->w.heap.size<=q)/\twoOf e=⟨w.heap.size,w.heap.size+1⟩:=by
 let a:DV:=⟨w.heap.size,.slice none 0 0,.slice none 0 0,[],w.heap.size+1,.slice none 0 0,.slice none 0 0,[],k,[],[]⟩
 have o:((w.alloc (.cells #[k,(),.slice none 0 0,.slice none 0 0] 119)).alloc (.cells #[k,.slice none 0 0,.slice none 0 0] 121)).heap[w.heap.size]?=some (.cells #[k,(),.slice none 0 0,.slice none 0 0] 119 (0,0)):=by
  rw[zr _ _ (by simp)]
  exact zZ w (.cells #[k,(),.slice none 0 0,.slice none 0 0] 119 (0,0))
 have p:((w.alloc (.cells #[k,(),.slice none 0 0,.slice none 0 0] 119)).alloc (.cells #[k,.slice none 0 0,.slice none 0 0] 121)).heap[w.heap.size+1]?=some (.cells #[k,.slice none 0 0,.slice none 0 0] 121 (0,0)):=by
  have:=zZ (w.alloc (.cells #[k,(),.slice none 0 0,.slice none 0 0] 119)) (.cells #[k,.slice none 0 0,.slice none 0 0] 121 (0,0));simpa using this
 refine⟨a,⟨⟨o,jQ _ _ _ _,jQ _ _ _ _⟩,⟨p,aU,rfl,fun i s b d=>by simp[a] at d,aU⟩,pr_nil,l,by simp[a],fun j h=>by simp[a] at h,fun g f=>by simp[a,Value.ownBlock] at f⟩,fun q m=>?_,rfl⟩
 rcases m with (q|q|q)|(q|q|q|⟨s,d,_⟩)
 ·have e:_=w.heap.size:=q
  omega
 ·simp[a,Value.ownBlock] at q
 ·simp[a,Value.ownBlock] at q
 ·have e:_=w.heap.size+1:=q
  omega
 ·simp[a,Value.ownBlock] at q
 ·simp[a,Value.ownBlock] at q
 simp[a] at d
theorem qE (k:Int)(h:ni w0 w wb ob n)(ah:n<=2000000) :
  Calls prog 10 #[some wb,k] w fun e w'=>e=.returned (.bool true)/\ni w0 w' wb ob (n+1):=by
 by_cases A:k<0\/4<k
 ·have t:=ae (fun l=>tj k l A)
  have u:=ae (fun l=>pO k l);have M:=ae h.more;clear h;go_enter func10,ntmps10
  go_wp2_with fail
  refine(aa t _).mono ?_;rintro e w1 ⟨rfl,rfl⟩
  go_wp2_with fail
  refine(aa u _).mono ?_;intro e w1 y
  rcases y with ⟨_,rfl,rfl⟩|⟨I,aj,_⟩
  ·clear A
   go_wp2
   go_ret
   exact⟨rfl,aa M⟩
  omega
 have G:0<=k/\k<=4:=by omega
 obtain⟨sv,fv,D,E,O,c,p,b⟩:=h;have t:=ae (New_any k w G);have u:=ae (fun l=>pO k l);obtain⟨dd,s,C,F⟩:=sV w G;have ab:=b.d;obtain⟨a,i⟩:∃a,(w.alloc (.cells #[k,(),.slice none 0 0,.slice none 0 0] 119))=a:=⟨_,rfl⟩;have H:a.heap.size=w.heap.size+1:=by rw[<-i];simp
 obtain⟨j,o⟩:∃j,a.alloc (.cells #[k,.slice none 0 0,.slice none 0 0] 121)=j:=⟨_,rfl⟩;have z:Below w.heap.size w j:=by rw[<-o,<-i];exact((zV _ _).alloc (zz _) _).alloc (by simp) _
 rw[i,o] at s;have d:=p.on z;obtain⟨V,W,m⟩:=p.st.slice;have ac:j.cell? ⟨wb,0,none⟩=some (.slice V D.length W):=by
  have:=(af d.blk 0).trans (show _=some sv from rfl);rw[this,m,zY]
 obtain⟨x,K,J,r,B,f⟩:=tq (d.st.on ((zV _ _).alloc (zz _) (.cells #[some w.heap.size,some a.heap.size] 53))) (aZ rTwo 53 j ⟨w.heap.size,a.heap.size⟩ #[.pointer (some ⟨w.heap.size,0,none⟩),.pointer (some ⟨a.heap.size,0,none⟩)] rfl) (by simp;omega);obtain⟨X,Z,Y,rfl⟩:=r.slc;have v:K.heap[wb]?=some (.cells #[sv,fv,some ob] 37 (0,0)):=by
  rw[B.block _ (by have:=an d.blk;simp;omega) (fun e=>by obtain⟨ad,S⟩:=d.st.ty e.symm;exact aI S d.blk (by decide) rfl),zr _ _ (an d.blk)]
  exact d.blk
 have R:=(af v 0).trans (show _=some sv from rfl);rw[m,zY] at R;have ag:=bi v 0;have L:Hid (ni w0 (K.setCell ⟨wb,0,none⟩ (.slice X Z Y)) wb ob (n+1)):=by
  rw[H] at r;obtain⟨Q,T⟩:=p.openD z s C (by rw[F];exact r) B (by
   rcases f with f|f
   ·exact Or.inl f
   exact Or.inr fun g U=>by have I:=f g U;simp at I;omega)
  have:=b.d;have:=b.i;have:=b.f;have:=b.r;have:=b.g;have:=b.es;have:=b.e
  exact⟨_,fv,D++[dd],E,O,Q,T.more,⟨by simp;omega,by omega,by omega,by omega,by omega,by omega,by omega⟩⟩
 rw[m,zY] at J;have N:=ae i;have P:=ae o;have ai:¬(w.heap.size=a.heap.size):=by omega
 clear p d r B f v z m A i o H s C F b;go_enter func10,ntmps10
 go_wp2_with fail
 refine(aa t).mono ?_;rintro e w1 ⟨rfl,rfl⟩;rw[aa N]
 go_wp2_with fail
 refine(aa u _).mono ?_;intro e w1 y
 rcases y with ⟨q,_,_⟩|⟨_,_,rfl,rfl⟩
 ·omega
 rw[aa P]
 go_wp2_with (first|refine cP _ _ (sG w.heap.size a.heap.size _ _ _ _ rfl rfl rfl _) rfl ?_|refine cP _ _ (tm w.heap.size a.heap.size _ _ _ rfl rfl _) rfl ?_|(at_builtin;refine fS 34 J rfl _ _ rfl rfl rfl rfl ?_))
 go_ret
 exact⟨rfl,aa L⟩
end
section
variable {w0 w:World}{wb ob n:Nat}{sv fv:Value}{D:List DV}{E:List EV}{O:OL}{c:Nat->Nat}{o:iH}{b:bK}
theorem qL (h:WJ w0 w wb ob sv fv D E O n c)(l:WL D E O n)(L:n<=400000)(t:od w0 o b){i:Nat}{a:DV}(m:D[i]?=some a)(K:2<=o.kind/\o.kind<=7) :
  Calls prog 12 #[some wb,.agg #[some a.sb,some a.rb],.agg o.v] w fun J w'=>J=.returned (.bool true)/\aE (fun k=>df a k\/OF ob O k) w w'/\∃D' f s,WJ w0 w' wb ob sv fv D' E f (n+1) s/\WL D' E f (n+1):=by
 have j:=h.dep i a m;have d:=h.djd m;have p:w.cell? ⟨wb,2,none⟩=some (.pointer (some ⟨ob,0,none⟩)):=(af h.blk 2).trans rfl;have r:=an h.blk;have y:=h.wbd m;have:=l.i;have:=l.f;have:=l.r;have:=l.g;have:=l.es;have x:0<b.length->∀g,o.bat.ownBlock=some g->¬df a g/\¬OF ob O g:=fun z g B=>by
  have:=h.bat t.toOpOk z g B
  exact⟨fun q=>by have:=h.cd i a g m q;omega,fun q=>by have:=h.co g q;omega⟩
 have v:Calls prog 12 #[some wb,.agg #[some a.sb,some a.rb],.agg o.v] w fun e w'=>e=.returned (.bool true)/\∃u f,Pst w a ob O w' u f:=by
  by_cases C:o.kind=2
  ·exact qr j h.own d p y r (by omega) b (t.bat.on h.base) t.len x C
  by_cases F:o.kind=3
  ·exact rG j h.own d F
  by_cases G:o.kind=4
  ·exact qz j h.own d G
  by_cases H:o.kind=5
  ·exact qC j h.own d p r (by omega) H
  by_cases I:o.kind=6
  ·exact qA j h.own d I
  exact qM j h.own d p r (by omega) (by omega)
 refine v.mono ?_;rintro e w' ⟨rfl,u,f,hP⟩;obtain⟨s,A⟩:=h.stepD m hP
 exact⟨rfl,hP.frm,_,f,s,A.more,l.stepD hP.ost⟩
theorem rY (h:ni w0 w wb ob n)(aD:n<=400000)(ak:od w0 o b)(z:1<=o.kind/\o.kind<=7) :
  Calls prog 7 #[some wb,.agg o.v] w fun e w'=>e=.returned (.bool true)/\ni w0 w' wb ob (n+1):=by
 have y:=zZ w (.cells o.v 44 (0,0));have v:=aj w (.cells o.v 44);have aF:=(af y 0).trans (show _=some (Value.int .i64 o.kind) from rfl);have F:=h.on v;have aL:(w.alloc (.cells o.v 44)).heap.size=w.heap.size+1:=by simp
 have X:=ae ak;clear ak;have aM:=(af y 1).trans (show _=some (Value.int .i64 o.on) from rfl);have aN:=(af y 2).trans (show _=some (Value.int .i64 o.a) from rfl)
 by_cases x:o.kind=1
 ·have ay:=ae (qE o.a F (by omega))
  rw[x] at aF;clear h F v z x;go_enter func7,ntmps7
  go_wp2_with fail
  refine(aa ay).mono ?_;rintro e al ⟨rfl,r⟩;have M:=ae r;clear r
  go_wp2
  go_ret
  exact⟨rfl,aa M⟩
 obtain⟨sv,fv,D,E,O,c,A,H⟩:=h;have p:=A.on v;obtain⟨aP,R,t⟩:=p.st.slice;have ai:=(af p.blk 0).trans (show _=some sv from rfl);rw[t,zY] at ai;have aO:¬o.kind=1:=x;have aK:¬o.kind=11:=by omega
 have aB:2<=o.kind:=by omega
 have aC:o.kind<=7:=z.2
 by_cases Y:D.length=0
 ·have M:Hid (ni w0 (w.alloc (.cells o.v 44)) wb ob (n+1)):=ni.more ⟨sv,fv,D,E,O,c,p,H⟩
  rw[Y] at ai;clear p A v F t H z x Y;go_enter func7,ntmps7
  go_wp2
  go_ret
  exact⟨rfl,aa M⟩
 have aG:¬((D.length:Nat):Int)=0:=by omega
 have aH:=H.d;have av:=(aa X).on;have aw:=pk_in o.on (n:=((D.length:Nat):Int)) (by omega);obtain⟨i,hi⟩:∃i:Nat,pk o.on ((D.length:Nat):Int)=i:=⟨(pk o.on ((D.length:Nat):Int)).toNat,by omega⟩;have ar:i<D.length:=by omega
 have au:(i:Int)<D.length:=by omega
 obtain⟨l,G⟩:∃l,D[i]?=some l:=⟨_,zQ ar⟩;obtain⟨aR,aS,T,_,_,Q⟩:=p.st.at;rw[zY] at T Q;rw[t,zY] at T
 cases T
 obtain⟨g,s,rfl,aJ,ab⟩:=Q (by omega);have U:(w.alloc (.cells o.v 44)).rangeAt g (s+i*2) #[Value.pointer (some ⟨l.sb,0,none⟩),.pointer (some ⟨l.rb,0,none⟩)].toList:=ab i (twoOf l) (by rw[zg,G];rfl);have aq:c g=1:=p.cs g (by rw[t];rfl);have N:=fun m=>pick_any o.on ((D.length:Nat):Int) m av (by omega);rw[hi] at N;have an:=ae N;have ac:=ae p;have am:=ae U;have ax:=ae y;have V:=ae A;clear Q ab N aw hi U y p A v F z x;go_enter func7,ntmps7
 go_wp2_with fail
 refine z8 (S:=fun w'=>w'.heap[wb]?=some (.cells #[sv,fv,some ob] 37 (0,0))/\w'.heap[w.heap.size]?=some (.cells o.v 44 (0,0))/\w'.heap[g]?=(w.alloc (.cells o.v 44)).heap[g]?) (by kernel_rfl) ?_
 change wpAnyH _ _ _ _ _ _ _ _ (World.drew _)
 have f:(World.drew (w.alloc (.cells o.v 44))).heap[wb]?=some (.cells #[sv,fv,some ob] 37 (0,0))/\(World.drew (w.alloc (.cells o.v 44))).heap[w.heap.size]?=some (.cells o.v 44 (0,0))/\(World.drew (w.alloc (.cells o.v 44))).heap[g]?=(w.alloc (.cells o.v 44)).heap[g]?:=⟨(aa ac).blk,aa ax,rfl⟩;have C:Below (w.alloc (.cells o.v 44)).heap.size (w.alloc (.cells o.v 44)) (World.drew (w.alloc (.cells o.v 44))):=zE (zV _ _);have B:=(aa ac).on C;generalize World.drew (w.alloc (.cells o.v 44))=al at f C B ⊢;have ah:=qL B H aD (aa X) G ⟨aB,aC⟩;have W:=ae B;have P:∀m:World,m.heap[wb]?=some (.cells #[sv,fv,some ob] 37 (0,0))->m.cell? ⟨wb,0,none⟩=some (.slice (some ⟨g,s,none⟩) D.length R):=fun m r=>by rw[af r 0];show some sv=_;rw[t,zY]
 have ad:∀m:World,m.heap[w.heap.size]?=some (.cells o.v 44 (0,0))->m.cell? ⟨w.heap.size,1,none⟩=some (.int .i64 o.on):=fun m r=>(af r 1).trans rfl;have ag:∀m:World,m.heap[g]?=(w.alloc (.cells o.v 44)).heap[g]?->m.rangeAt g (s+i*2) #[Value.pointer (some ⟨l.sb,0,none⟩),.pointer (some ⟨l.rb,0,none⟩)].toList:=fun m r j u aE=>by
  rw[zP (a:=⟨g,s+i*2+j,none⟩) r];exact aa am j u aE
 clear t B;refine t_take 0 rfl (.pointer (some ⟨wb,0,none⟩)) (by kernel_rfl) (by kernel_rfl) (by kernel_rfl) (fun _ _ _ h=>h) rfl (fun w' d=>by simp[go_sem]) f ?_;simp only[qZ];refine t_take 1 rfl (.pointer (some ⟨wb,0,none⟩)) (by kernel_rfl) (by kernel_rfl) (by kernel_rfl) (fun _ _ _ h=>h) rfl (fun w' d=>by simp[go_sem]) f ?_;simp only[qZ];refine t_take 2 rfl (.pointer (some ⟨wb,0,none⟩)) (by kernel_rfl) (by kernel_rfl) (by kernel_rfl) (fun _ _ _ h=>h) rfl (fun w' d=>by simp[go_sem]) f ?_;simp only[qZ];refine t_take 3 rfl (.pointer (some ⟨wb,0,none⟩)) (by kernel_rfl) (by kernel_rfl) (by kernel_rfl) (fun _ _ _ h=>h) rfl (fun w' d=>by simp[go_sem]) f ?_;simp only[qZ];refine t_take 4 rfl (.slice (some ⟨g,s,none⟩) D.length R) (by kernel_rfl) (by kernel_rfl) (by kernel_rfl) (fun _ _ _ h=>h) rfl (fun w' d=>by simp[go_sem,P w' d.1]) f ?_;simp only[qZ];refine t_take 5 rfl (.pointer (some ⟨w.heap.size,1,none⟩)) (by kernel_rfl) (by kernel_rfl) (by kernel_rfl) (fun _ _ _ h=>h) rfl (fun w' d=>by simp[go_sem]) f ?_;simp only[qZ];refine t_take 6 rfl (.int .i64 o.on) (by kernel_rfl) (by kernel_rfl) (by kernel_rfl) (fun _ _ _ h=>h) rfl (fun w' d=>by simp[go_sem,ad w' d.2.1]) f ?_;simp only[qZ];refine t_take 7 rfl (.pointer (some ⟨wb,0,none⟩)) (by kernel_rfl) (by kernel_rfl) (by kernel_rfl) (fun _ _ _ h=>h) rfl (fun w' d=>by simp[go_sem]) f ?_;simp only[qZ];refine t_take 8 rfl (.pointer (some ⟨wb,0,none⟩)) (by kernel_rfl) (by kernel_rfl) (by kernel_rfl) (fun _ _ _ h=>h) rfl (fun w' d=>by simp[go_sem]) f ?_;simp only[qZ];refine t_take 9 rfl (.pointer (some ⟨wb,0,none⟩)) (by kernel_rfl) (by kernel_rfl) (by kernel_rfl) (fun _ _ _ h=>h) rfl (fun w' d=>by simp[go_sem]) f ?_;simp only[qZ];refine t_take 10 rfl (.slice (some ⟨g,s,none⟩) D.length R) (by kernel_rfl) (by kernel_rfl) (by kernel_rfl) (fun _ _ _ h=>h) rfl (fun w' d=>by simp[go_sem,P w' d.1]) f ?_;simp only[qZ];refine t_take 11 rfl (.int .i64 (D.length:Nat)) (by kernel_rfl) (by kernel_rfl) (by kernel_rfl) (fun _ _ _ h=>h) rfl (fun w' d=>by simp[go_sem]) f ?_;simp only[qZ];refine t_take 15 rfl (.agg o.v) (by kernel_rfl) (by kernel_rfl) (by kernel_rfl) (fun _ _ _ h=>h) rfl (fun w' d=>run_ldR 44 o.v underlying44 rfl (sz44 o) _ _ _ rfl w.heap.size 0 rfl (ao d.2.1)) f ?_;simp only[qZ];refine y6 (rs:=[12]) (by kernel_rfl) (by simp) ?_;intro i hi;simp only[z7] at hi;subst hi;refine ow 12 rfl rfl 13 #[.int .i64 o.on,.int .i64 (D.length:Nat)] (by simp[go_sem]) (.int .i64 i) (aa an al) f ?_;simp only[qZ];refine t_take 13 rfl (.pointer (some ⟨g,s+i*2,none⟩)) (by kernel_rfl) (by kernel_rfl) (by kernel_rfl) (fun _ _ _ h=>h) rfl (fun w' d=>by simp[go_sem,au]) f ?_;simp only[qZ];refine t_take 14 rfl (.agg #[some l.sb,some l.rb]) (by kernel_rfl) (by kernel_rfl) (by kernel_rfl) (fun _ _ _ h=>h) rfl (fun w' d=>run_ldR 53 #[.pointer (some ⟨l.sb,0,none⟩),.pointer (some ⟨l.rb,0,none⟩)] underlying53 rfl (sz53 _ _) _ _ _ rfl g (s+i*2) rfl (ag w' d.2.2)) f ?_;simp only[qZ];refine y6 (rs:=[16]) (by kernel_rfl) (by simp) ?_;intro i hi;simp only[z7] at hi;subst hi;refine t_callW 16 rfl rfl 12 #[.pointer (some ⟨wb,0,none⟩),.agg #[some l.sb,some l.rb],.agg o.v] (by simp[go_sem]) (.bool true) _ ah ?_;rintro I ⟨J,D',az,aA,L,Z⟩;have aI:=C.size;have nf:∀k,c k=1->¬(df l k\/OF ob O k):=fun k z q=>by
  rcases q with q|q
  ·have:=(aa W).cd i l k G q;omega
  have:=(aa W).co k q;omega
 have nw:¬(df l w.heap.size\/OF ob O w.heap.size):=fun q=>by
  rcases q with q|q
  ·have:=((aa V).dep i l G).lt q;omega
  have:=bA.lt (aa V).own q;omega
 have K:I.heap[wb]?=some (.cells #[sv,fv,some ob] 37 (0,0))/\I.heap[w.heap.size]?=some (.cells o.v 44 (0,0))/\I.heap[g]?=(w.alloc (.cells o.v 44)).heap[g]?:=⟨L.blk,aQ f.2.1 J nw,(J.block g (by omega) (nf g aq)).trans f.2.2⟩;refine⟨K,?_⟩;simp only[qZ];refine t_take 17 rfl (.bool true) (by kernel_rfl) (by kernel_rfl) (by kernel_rfl) (fun _ _ _ h=>h) rfl (fun w' d=>by simp[go_sem]) K ?_;simp only[qZ];refine zm (by kernel_rfl) ?_ _;have ap:Hid (ni w0 I wb ob (n+1)):=⟨sv,fv,D',E,az,aA,L,Z⟩;clear f K J L Z nf nw ah P ad ag C
 go_wp2
 go_ret
 exact⟨rfl,aa ap⟩
end
theorem ql (W:World)(fs:Nat->Nat->Int):kU W (.slice none 0 0) 0 fs:=⟨none,0,rfl,yF _,fun h=>absurd h (by omega)⟩
theorem qT (l:List UInt8):((⟨l.toArray⟩:ByteArray).toList == (⟨l.toArray⟩:ByteArray).toList)=true:=by simp
theorem ro (l z x y:Int)(w:World) :
  Calls prog 53 #[.slice none 0 0,.agg #[.int .i64 l,z,x,.int .i64 y]] w fun e w'=>e=.returned (.bool true)/\Below w.heap.size w w':=by
 have k:=zZ w (.cells #[l,z,x,y] 39 (0,0));have n:=fun a=>Lib.run_eql_slice_nil (P:=prog) a 62 66 none 0 0 0 0 underlying62;have c:=fun a=>Paint_any (.slice none 0 0) 0 (fun _ _=>0) l z x y a (ql _ _);have d:=fun a=>oR (.slice none 0 0) 0 (fun _ _=>0) l z x y a (ql _ _);generalize jj (fun _ _=>0) 0 l z x y=m at c d;generalize jm (fun _ _=>0) 0 l z x y=q at c d;have o:=qT m;go_enter func53,ntmps53
 go_wp2_with fail
 refine(c _).mono ?_;rintro e w1 ⟨rfl,b⟩;have g:=ag k b;have j:=af g;have h:=ae ((aj _ _).trans (b.mono (by simp)));clear b
 go_wp2_with fail
 refine(d _).mono ?_;rintro e p ⟨rfl,f⟩;have i:=ae ((aa h).trans (f.mono (aa h).size));clear f g j
 go_wp2
 go_ret
 exact⟨rfl,aa i⟩
theorem eQ:(prog.info? 66).map (fun i=>(i.zero,i.size,i.bytes))=some (some (.agg (fc zf)),24,192):=by kernel_rfl
theorem tw {f:Array Oper}{rest:List Oper}{o:Oper}{a:Act}{w:World}{l:Exit->Act->World->Prop}(m:o.guard=none)(lo c:Operand)(p:o.op=.makeSlice 62 lo c)(n:Nat)(b:Int)
  (B:a.eval lo=.int .i64 b) (y:a.eval c=.int .i64 b) (i:b=(n:Int)) (x:192*n<=281474976710656) (e:Nat) (v:w.heap.size=e)
  (u:∀w' d,w'.heap[e]?=some (.cells d 66 (0,0))->d.size=n*24->Below e w w'->wpList prog f l rest (a.put o.dst (.slice (some ⟨e,0,none⟩) n n)) w') :
  wpList prog f l (o::rest) a w:=by
 obtain⟨C,hi,r,s,t⟩:=info_parts eQ;subst v;refine wpList_make_full w m lo c 62 p w.heap.size 66 C (.agg (fc zf)) 24 underlying62 hi r s .i64 .i64 b b n B y i i (by rw[t];exact x) (by unfold maxLen;omega) (zz _) ?_;intro w' hown hgr
 rcases hown.2 with ⟨h,_⟩|⟨g,cap,d,j,D,z,_,_,q,_⟩
 ·cases h
 simp only[Value.slice.injEq,zy,Addr.mk.injEq,and_true,true_and] at j;obtain⟨rfl,rfl⟩:=j
 exact u w' d z q ((zV _ _).grown hgr (zz _) (fun k A=>by cases A))
theorem ru {P:Program}(w:World)(k B C e:TypeId)(g o c m:Nat)(a:Addr)(d q f:Nat)(b:Array Value)(t:TypeId)(cs:List Value)
  (A:P.underlying k=some (.slice e)) (l:(P.info? e).map (·.size)=some f)
  (x:w.heap[g]?=some (.cells b t (0,0))) (z:cs.length=Nat.min d c*f)
  (p:∀j v,cs[j]?=some v->w.cell? (a.add j)=some v) (n:o+cs.length<=b.size) (u:∀v∈cs,v.oneCell'=true) :
  (Builtin.copy_ #[k,B] C #[.slice (some ⟨g,o,none⟩) c m,.slice (some a) d q]).run P w =
   .ok (goInt (Nat.min d c)) (w.setRow g (b.toList.take o++cs++b.toList.drop (o+cs.length)).toArray):=by
 have y:=run_loadCells_list (P:=P) w a cs p;have s:=run_storeCells_at P g o t cs 0 b w x (by simpa using n) u
 cases h:P.info? e with
 | none=>simp[h] at l
 | some i=>
  have hi:i.size=f:=by simpa[h] using l
  have r:cs.length=Nat.min d c*i.size:=by rw[hi];exact z
  simp[Builtin.copy_,run_underlying A,Builtin.lenOf,Builtin.firstCells,sizeOf,typeInfo,h,<-r,y,s]
def m9 (fs:Nat->Nat->Int) (n:Nat):List Value:=(List.range (n*24)).map fun m=>.int .i64 (fs (m / 24) (m%24))
theorem kQ (fs:Nat->Nat->Int)(n:Nat):(m9 fs n).length=n*24:=by simp[m9]
theorem qU (fs:Nat->Nat->Int)(n i j:Nat)(hi:i<n)(a:j<24):(m9 fs n)[i*24+j]?=some (.int .i64 (fs i j)):=by
 have h:i*24+j<n*24:=by omega
 simp only[m9,zg,List.getElem?_range h,Option.map_some];rw[show(i*24+j) / 24=i by omega,show(i*24+j)%24=j by omega]
theorem tr {q:Array Oper}{rest:List Oper}{o:Oper}{a:Act}{w:World}{u:Exit->Act->World->Prop}(B:o.guard=none)(x s:Operand)
  (G:o.op=.call { callee:=.builtin .copy,args:=#[x,s],argTypes:=#[62,62] }) (g n cap:Nat) (k:Addr) (fs:Nat->Nat->Int)
  (E:a.eval x=.slice (some ⟨g,0,none⟩) (n+2) (n+2)) (H:a.eval s=.slice (some k) n cap) (d:Array Value) (r:w.heap[g]?=some (.cells d 66 (0,0))) (p:d.size=(n+2)*24)
  (A:0<n->∃b off,k=⟨b,off,none⟩/\∀i,i<n->∀j,j<24->w.cell? ⟨b,off+i*24+j,none⟩=some (.int .i64 (fs i j)))
  (C:∀c,c.size=(n+2)*24->(∀i,i<n->∀j,j<24->c[i*24+j]?=some (.int .i64 (fs i j)))->(w.setRow g c).heap[g]?=some (.cells c 66 (0,0))->wpList prog q u rest (a.put o.dst (goInt n)) (w.setRow g c)) :
  wpList prog q u (o::rest) a w:=by
 refine wpList_plain B fun I z=>?_;have l:Nat.min n (n+2)=n:=Nat.min_eq_left (by omega);have y:∀j v,(m9 fs n)[j]?=some v->w.cell? (k.add j)=some v:=by
  intro j v f;have t:j<n*24:=by
   have:=(zX.1 f).1
   rwa [kQ] at this
  obtain⟨b,off,rfl,D⟩:=A (by omega);rw[Addr.add_mid];have e:=qU fs n (j / 24) (j%24) (by omega) (by omega);rw[show j / 24*24+j%24=j by omega,f] at e;rw[e,<-D (j / 24) (by omega) (j%24) (by omega)]
  congr 2
  omega
 have m:=ru (P:=prog) w 62 62 o.type 66 g 0 (n+2) (n+2) k n cap 24 d 66 (m9 fs n) underlying62 (by kernel_rfl) r (by rw[kQ,l]) y (by rw[kQ,p];omega)
  (fun v f=>by simp only[m9,yH] at f;obtain⟨J,_,rfl⟩:=f;rfl)
 rw[l] at m;have h:=C (d.toList.take 0++m9 fs n++d.toList.drop (0+(m9 fs n).length)).toArray (by simp[kQ,p];omega) ?_ (yX _ _ _ _ _ _ r)
 ·unfold Oper.wp
  simp only[execOp,G,resolve,invoke,builtin];simp[E,H,m,Result.andThen];simp at h
  exact z _ _ h
 intro i hi j t;have e:=qU fs n i j hi t;have F:i*24+j<(m9 fs n).length:=by rw[kQ];omega
 simp only[List.take_zero,yp,List.getElem?_toArray];rw[y3 F,e]
theorem pR {w:World}{g o:Nat}{c:Array Value}{t:TypeId}(h:w.heap[g]?=some (.cells c t (0,0)))(v:Value):(w.setCell ⟨g,o,none⟩ v).heap[g]?=some (.cells (c.setIfInBounds o v) t (0,0)):=by
 simp[World.setCell,zk,h]
theorem pZ {w:World}{g:Nat}{c:Array Value}{t:TypeId}(h:w.heap[g]?=some (.cells c t (0,0)))(o:Nat):w.frozen? ⟨g,o,none⟩=false:=by
 simp[World.frozen?,h]
theorem qS (q:Addr)(n cap:Nat)(fs:Nat->Nat->Int)(l z x y:Int)(w:World)(ar:kU w (.slice (some q) n cap) n fs)(a0:192*n<=140737488355328) :
  Calls prog 53 #[.slice (some q) n cap,.agg #[.int .i64 l,z,x,.int .i64 y]] w fun e w'=>e=.returned (.bool true)/\Below w.heap.size w w':=by
 have aF:=zZ w (.cells #[l,z,x,y] 39 (0,0));have aQ:=fun d=>Lib.run_eql_slice_nil (P:=prog) d 62 66 (some q) n cap 0 0 underlying62;have g:=fun d v h=>Paint_any v n fs l z x y d h;have A:=fun d v h=>oR v n fs l z x y d h;generalize jj fs n l z x y=C at g A;generalize jm fs n l z x y=N at g A;have aT:=qT C;have ap:=ae ar;have aV:(n:Int)<=1000000000000:=by omega
 clear ar;go_enter func53,ntmps53
 go_wp2_with (at_make;refine tw rfl (.tmp 38) (.tmp 38) rfl (n+2) _ rfl rfl ?_ ?_ (w.heap.size+1) ?_ ?_)
 ·omega
 ·omega
 ·simp
 intro B ax ad al J;have D:Below w.heap.size w B:=(aj _ _).trans (J.mono (by omega));have ai:B.heap[w.heap.size]?=some (.cells #[l,z,x,y] 39 (0,0)):=(J.block _ (by omega)).trans aF;have ac:0<n->∃b off,q=⟨b,off,none⟩/\∀i,i<n->∀j,j<24->B.cell? ⟨b,off+i*24+j,none⟩=some (.int .i64 (fs i j)):=by
  intro aL;obtain⟨a1,aP,e,_,h⟩:=(aa ap).on D;simp only[Value.slice.injEq] at e;obtain⟨b,off,aq,_,aN⟩:=h aL;rw[<-e.1] at aq
  exact⟨b,off,zu aq,aN⟩
 have ao:=ae ac;have Q:=ae D;have X:=ae ai;clear ac J D ai
 go_wp2_with (refine tr rfl (.tmp 40) (.tmp 41) rfl (w.heap.size+1) n cap q fs rfl rfl ax ad al ?_ ?_)
 ·exact aa ao
 intro a aR ab m;have K:=(setRow_other (show w.heap.size+1≠w.heap.size by omega) a).trans (aa X);have E:=aK (aa Q) (show w.heap.size<=w.heap.size+1 by omega) a;generalize B.setRow (w.heap.size+1) a=M at m K E ⊢;clear ad al Q X;have s:=pR (o:=n*24) m (.int .i64 (-77));have c:=pR (o:=(n+1)*24) s (.int .i64 (-77));have aA:=af m;have aB:=af s;have aD:=pZ m;have aE:=pZ s;have aW:((n:Int)+1).toNat=n+1:=by omega
 obtain⟨aX,ay⟩:∃V,a[n*24]?=some V:=⟨_,Array.getElem?_eq_getElem (by omega)⟩;obtain⟨aY,az⟩:∃V,(a.setIfInBounds (n*24) (.int .i64 (-77)))[(n+1)*24]?=some V:=⟨_,Array.getElem?_eq_getElem (by simp;omega)⟩;have Y:=ae K;have R:=ae E;have W:=ae c;have T:=ae ab;clear K E c ab
 go_wp2_with fail
 have u:=(zW (M.setCell ⟨w.heap.size+1,n*24,none⟩ (.int .i64 (-77))) ⟨w.heap.size+1,(n+1)*24,none⟩ (.int .i64 (-77)) w.heap.size (by simp)).trans ((zW M ⟨w.heap.size+1,n*24,none⟩ (.int .i64 (-77)) w.heap.size (by simp)).trans (aa Y));have r:=((aa R).setCell (p:=⟨w.heap.size+1,n*24,none⟩) (by simp) (.int .i64 (-77))).setCell (p:=⟨w.heap.size+1,(n+1)*24,none⟩) (by simp) (.int .i64 (-77));have c:=aa W;have t:∀i,i<n->∀j,j<24->((a.setIfInBounds (n*24) (.int .i64 (-77))).setIfInBounds ((n+1)*24) (.int .i64 (-77)))[i*24+j]?=some (.int .i64 (fs i j)):=by
  intro i hi j L;rw[Array.getElem?_setIfInBounds_ne (by omega),Array.getElem?_setIfInBounds_ne (by omega)]
  exact aa T i hi j L
 have aH:((a.setIfInBounds (n*24) (.int .i64 (-77))).setIfInBounds ((n+1)*24) (.int .i64 (-77)))[n*24]?=some (.int .i64 (-77)):=by
  rw[Array.getElem?_setIfInBounds_ne (by omega),Array.getElem?_setIfInBounds_self_of_lt (by omega)]
 have aI:((a.setIfInBounds (n*24) (.int .i64 (-77))).setIfInBounds ((n+1)*24) (.int .i64 (-77)))[(n+1)*24]?=some (.int .i64 (-77)):=by
  rw[Array.getElem?_setIfInBounds_self_of_lt (by simp;omega)]
 generalize (M.setCell ⟨w.heap.size+1,n*24,none⟩ (.int .i64 (-77))).setCell ⟨w.heap.size+1,(n+1)*24,none⟩ (.int .i64 (-77))=aO at u r c ⊢
 generalize (a.setIfInBounds (n*24) (.int .i64 (-77))).setIfInBounds ((n+1)*24) (.int .i64 (-77))=aZ at c t aH aI
 clear aA aB aD aE m s ay az Y R W T ao;have am:kU aO (.slice (some ⟨w.heap.size+1,0,none⟩) n (n+2)) n fs:=⟨_,_,rfl,by unfold maxLen;omega,fun _=>⟨w.heap.size+1,0,rfl,(zM.1 c).1,fun i hi j L=>by rw[zb,af c];exact t i hi j L⟩⟩;have an:=(aa ap).on r;have aJ:(n:Int)<=(n:Int)+2:=by omega
 have I:=ae am;have U:=ae an;have G:=ae r;have aS:=ae t;clear t r am an;have g:=fun d h=>g d _ ((aa I).on h);refine aM (by kernel_rfl) (by kernel_rfl) ?_;refine lN rfl _ rfl (.slice (some ⟨w.heap.size+1,0,none⟩) (n+2) (n+2)) rfl ?_;simp only[qZ];refine lN rfl _ rfl (.int .i64 n) rfl ?_;simp only[qZ];refine q_val rfl (.slice (some ⟨w.heap.size+1,0,none⟩) n (n+2)) (fun _ _=>by simp[go_sem,aJ]) ?_;simp only[qZ];refine vK w.heap.size 0 (fun w' h=>dz u h) ?_;refine eB rfl 107 #[.slice (some ⟨w.heap.size+1,0,none⟩) n (n+2),.agg #[l,z,x,y]] (fun _=>by simp[go_sem]) _ g ?_;simp only[qZ];refine lN rfl _ rfl (.tuple #[.string ⟨C.toArray⟩,N]) rfl ?_;simp only[qZ];refine q_val rfl (.string ⟨C.toArray⟩) (fun _ _=>by simp[go_sem]) ?_;simp only[qZ];refine q_val rfl (.int .i64 N) (fun _ _=>by simp[go_sem]) ?_;simp only[qZ];refine vA (.string ⟨C.toArray⟩) ?_;refine vA (.int .i64 N) ?_;refine zq ?_;intro a2 f;have ah:=ag c f;have ak:=ag u f;have aC:=af ak;have O:=ae ((aa I).on f);have F:=ae ((aa U).on f);have H:=ae ((aa G).trans (f.mono (aa G).size));clear f c u I U G g
 go_wp2_with fail
 refine(A _ _ (aa F)).mono ?_;rintro e a3 ⟨rfl,k⟩;have aG:=ag ah k;have aU:=af aG;have au:=ae ((aa O).on k);have av:=ae ((aa F).on k);have S:=ae ((aa H).trans (k.mono (aa H).size));clear k ah ak aC O F H A
 go_wp2_with fail
 refine(lE _ _ n fs _ (aa au) (aa av) (by omega)).mono ?_;rintro e a4 ⟨rfl,Z⟩;have aw:=ae ((aa S).trans (Z.mono (aa S).size));clear Z
 go_wp2
 go_ret
 exact⟨rfl,aa aw⟩
namespace Dw
theorem qP (s:ByteArray)(w:World)(n:s.size<=1048576)(g:Nm w) :
  Calls prog 98 #[s] w fun e w'=>e=.returned (.bool true)/\Below w.heap.size w w':=by
 have k:=ae g;clear g;have j:s.size<=maxLen:=by unfold maxLen;omega
 go_enter func98,ntmps98
 go_wp2_with fail
 refine(parse_any s _ j (aa k)).mono ?_;rintro e w1 ⟨⟨l,z,x,y,er,h,rfl⟩,a⟩;have m:=ae h;clear h
 go_wp2_with fail
 refine(refParse_any s _ n).mono ?_;rintro e i ⟨⟨t,A,u,v,o,c,rfl⟩,b⟩;rw[aa m] at c;simp only[Prod.mk.injEq] at c;obtain⟨⟨rfl,rfl,rfl,rfl⟩,rfl⟩:=c;obtain⟨p,q⟩:=mw b;have r:w1.heap.size<i.heap.size:=by have:=b.size;simp at this;omega
 have f:Below w.heap.size w i:=(a.alloc a.size _).trans (b.mono (by have:=a.size;simp;omega));have d:=ae f;clear a b f
 go_wp2
 go_ret
 exact⟨rfl,(aa d).alloc (aa d).size _⟩
theorem dK (l z x y:Int)(h:keyErr l z x y=0):(0<=l/\l<=3)/\(0<=z/\z<=22)/\(0<=x/\x<4194304)/\(0<=y/\y<4194304):=by
 unfold keyErr at h
 by_cases a:l<0\/3<l
 ·rw[zJ a] at h;cases h
 rw[zK a] at h
 by_cases b:z<0\/22<z
 ·rw[zJ b] at h;cases h
 rw[zK b] at h;obtain⟨d,e⟩:=gi z (by omega)
 by_cases c:x<0\/(2:Int) ^ z.toNat<=x\/y<0\/(2:Int) ^ z.toNat<=y
 ·rw[zJ c] at h;cases h
 omega
theorem qd (P a:ByteArray)(l:List UInt8)(h:P.data.toList=l)(b:a.data.toList=l):(P.toList == a.toList)=true:=by
 rw[ByteArray.toList_eq,ByteArray.toList_eq,h,b];simp
structure KI (w:World) (l z x y:Int) (W:World):Prop where
 kl:W.cell? ⟨w.heap.size,0,none⟩=some (.int .i64 l)
 kz:W.cell? ⟨w.heap.size,1,none⟩=some (.int .i64 z)
 kx:W.cell? ⟨w.heap.size,2,none⟩=some (.int .i64 x)
 ky:W.cell? ⟨w.heap.size,3,none⟩=some (.int .i64 y)
 wl:w.heap.size<W.heap.size
 bel:Below w.heap.size w W
theorem KI.start (w:World)(l z x y:Int):KI w l z x y (w.alloc (.cells #[l,z,x,y] 39)):=by
 refine⟨?_,?_,?_,?_,?_,?_⟩
 all_goals first
  | exact(zV _ _).alloc (zz _) _
  | simp[go_sem]
theorem KI.on {w b c:World}{l z x y:Int}(h:KI w l z x y b)(a:Below b.heap.size b c):KI w l z x y c:=by
 have d:=a.size;have hw:=h.wl
 exact⟨(a.cell (p:=⟨w.heap.size,0,none⟩) hw).trans h.kl,(a.cell (p:=⟨w.heap.size,1,none⟩) hw).trans h.kz,(a.cell (p:=⟨w.heap.size,2,none⟩) hw).trans h.kx,(a.cell (p:=⟨w.heap.size,3,none⟩) hw).trans h.ky,by omega,h.bel.trans (a.mono (by omega))⟩
theorem qH (l z x y v:Int)(w:World)(h:¬keyErr l z x y=0) :
  Calls prog 99 #[.agg #[.int .i64 l,z,x,.int .i64 y],v] w fun e w'=>e=.returned (.bool true)/\Below w.heap.size w w':=by
 have g:=ae h;clear h;go_enter func99,ntmps99
 go_wp2_with fail
 refine(qu l z x y _ (aa g)).mono ?_;rintro e w1 ⟨rfl,p⟩;have m:=(KI.start w l z x y).on p;have i:=ae m;obtain⟨b,f,c,d,wl,a⟩:=m;clear p a
 go_wp2_with fail
 refine(pQ l z x y _ (aa g)).mono ?_;rintro e u ⟨rfl,q⟩;have n:=(aa i).on q;clear b f c d wl i q;have j:=ae n;obtain⟨b,f,c,d,wl,a⟩:=n;clear a
 go_wp2_with fail
 refine(tk l z x y v _ (aa g)).mono ?_;rintro e A ⟨rfl,r⟩;have o:=(aa j).on r;clear b f c d wl j r;have k:=ae o;obtain⟨b,f,c,d,wl,a⟩:=o;clear a
 go_wp2_with fail
 refine(rP l z x y v _ (aa g)).mono ?_;rintro e B ⟨rfl,s⟩;have t:=ae ((aa k).on s).bel;clear b f c d wl k s
 go_wp2
 go_ret
 exact⟨rfl,aa t⟩
theorem qK (l z x y:Nat)(v:Int)(w:World)(i:l<4)(k:z<=1000000)(j:x<=10000000)(hy:y<=10000000)(h:keyErr l z x y=0)(E:Nm w)(H:Tab w)(I:v<0\/100<v) :
  Calls prog 99 #[.agg #[.int .i64 l,z,x,.int .i64 y],v] w fun e w'=>e=.returned (.bool true)/\Below w.heap.size w w':=by
 have m:=ae h;have B:=ae E;have C:=ae H;have D:=ae I;clear h E H I;go_enter func99,ntmps99
 go_wp2_with fail
 refine(print_yes l z x y _ i k j hy (aa m) ((aa B).on (aj _ _)) (tab_on (aa C) (aj _ _))).mono ?_;rintro e w1 ⟨⟨P,rfl,F,O⟩,s⟩;have J:=ae F;have p:=(KI.start w l z x y).on s;have n:=ae p;obtain⟨b,f,c,d,wl,a⟩:=p;clear s a F
 go_wp2_with fail
 refine(oH l z x y _ i k j hy (aa m)).mono ?_;rintro e R ⟨⟨M,rfl,G,Q⟩,t⟩;have K:=ae G;have q:=(aa n).on t;clear b f c d wl n t G;have g:=ae q;obtain⟨b,f,c,d,wl,a⟩:=q;clear a
 go_wp2_with fail
 refine(th l z x y v _ i k j hy (aa m) ((aa B).on (aa g).bel) (tab_on (aa C) (aa g).bel) (aa D)).mono ?_;rintro e S ⟨rfl,u⟩;have r:=(aa g).on u;clear b f c d wl g u;have o:=ae r;obtain⟨b,f,c,d,wl,a⟩:=r;clear a
 go_wp2_with fail
 refine(rC l z x y v _ i k j hy (aa m) (aa D)).mono ?_;rintro e T ⟨rfl,A⟩;have L:=ae ((aa o).on A).bel;clear b f c d wl o A;have N:=qd P M _ (aa J) (aa K)
 go_wp2
 go_ret
 exact⟨rfl,aa L⟩
theorem qI (l z x y v:Nat)(w:World)(i:l<4)(k:z<=1000000)(j:x<=10000000)(hy:y<=10000000)(h:keyErr l z x y=0)(D:Nm w)(I:Tab w)(J:v<=100) :
  Calls prog 99 #[.agg #[.int .i64 l,z,x,.int .i64 y],v] w fun e w'=>e=.returned (.bool true)/\Below w.heap.size w w':=by
 have m:=ae h;have B:=ae D;have C:=ae I;clear h D I;go_enter func99,ntmps99
 go_wp2_with fail
 refine(print_yes l z x y _ i k j hy (aa m) ((aa B).on (aj _ _)) (tab_on (aa C) (aj _ _))).mono ?_;rintro e w1 ⟨⟨P,rfl,E,U⟩,s⟩;have K:=ae E;have p:=(KI.start w l z x y).on s;have n:=ae p;obtain⟨b,f,c,d,wl,a⟩:=p;clear s a E
 go_wp2_with fail
 refine(oH l z x y _ i k j hy (aa m)).mono ?_;rintro e W ⟨⟨O,rfl,F,V⟩,t⟩;have L:=ae F;have q:=(aa n).on t;clear b f c d wl n t F;have g:=ae q;obtain⟨b,f,c,d,wl,a⟩:=q;clear a
 go_wp2_with fail
 refine(tag_yes l z x y v _ i k j hy (aa m) ((aa B).on (aa g).bel) (tab_on (aa C) (aa g).bel) J).mono ?_;rintro e X ⟨⟨S,rfl,H⟩,u⟩;have M:=ae H;have r:=(aa g).on u;clear b f c d wl g u H;have o:=ae r;obtain⟨b,f,c,d,wl,a⟩:=r;clear a
 go_wp2_with fail
 refine(refTag_yes l z x y v _ i k j hy (aa m) J).mono ?_;rintro e Y ⟨⟨R,rfl,G⟩,A⟩;have N:=ae ((aa o).on A).bel;clear b f c d wl o A;have Q:=qd P O _ (aa K) (aa L);have T:=qd S R _ (aa M) G;clear G
 go_wp2
 go_ret
 exact⟨rfl,aa N⟩
theorem qp (l z x y v:Int)(w:World)(a:Nm w)(b:Tab w) :
  Calls prog 99 #[.agg #[.int .i64 l,z,x,.int .i64 y],v] w fun e w'=>e=.returned (.bool true)/\Below w.heap.size w w':=by
 by_cases h:keyErr l z x y=0
 ·obtain⟨⟨d,j⟩,⟨i,n⟩,⟨f,k⟩,⟨g,m⟩⟩:=dK l z x y h
  obtain⟨l,rfl⟩:=Int.eq_ofNat_of_zero_le d;obtain⟨z,rfl⟩:=Int.eq_ofNat_of_zero_le i;obtain⟨x,rfl⟩:=Int.eq_ofNat_of_zero_le f;obtain⟨y,rfl⟩:=Int.eq_ofNat_of_zero_le g
  by_cases c:v<0\/100<v
  ·exact qK l z x y v w (by omega) (by omega) (by omega) (by omega) h a b c
  obtain⟨v,rfl⟩:=Int.eq_ofNat_of_zero_le (show 0<=v by omega)
  exact qI l z x y v w (by omega) (by omega) (by omega) (by omega) h a b (by omega)
 exact qH l z x y v w h
theorem paths_walk (s:ByteArray)(l z x y v:Int)(w:World)(m:s.size<=1048576)(g:Nm w)(h:Tab w) :
  Calls prog 50 #[s,.agg #[.int .i64 l,z,x,.int .i64 y],v] w fun e w'=>e=.returned (.bool true)/\Below w.heap.size w w':=by
 have f:=ae g;have j:=ae h;clear g h;go_enter func50,ntmps50
 go_wp2_with fail
 refine(qP s _ m ((aa f).on (aj _ _))).mono ?_;rintro e w1 ⟨rfl,c⟩;have b:=(KI.start w l z x y).on c;have a:=ae b;obtain⟨n,q,o,p,wl,i⟩:=b;clear c i
 go_wp2_with fail
 refine(qp l z x y v _ ((aa f).on (aa a).bel) (tab_on (aa j) (aa a).bel)).mono ?_;rintro e r ⟨rfl,d⟩;have k:=ae ((aa a).on d).bel;clear n q o p wl a d
 go_wp2
 go_ret
 exact⟨rfl,aa k⟩
end Dw
def nE (e:Nat->Int):Nat->Int:=fun j=>e (j+1)
theorem rM {c:World}{b off:Nat}{e:Nat->Int}(h:c.rangeAt b off (cc 25 e).toList):c.rangeAt b (off+1) (fc (nE e)).toList:=fun j u a=>by
 rw[cc_fc] at a;have d:j<24:=by have:=(zX.1 a).1;rwa [iB] at this
 rw[yS,dc 24 _ j d] at a
 cases a
 have:=pF h (j+1) (by omega)
 rwa [show off+(j+1)=off+1+j by omega] at this
section
variable {w:World}{o:iH}{b:bK}
theorem qo {c:World}{g:Nat}(h:c.heap[g]?=some (.cells o.v 44 (0,0))):c.rangeAt g 5 #[Value.int .i64 o.kl,.int .i64 o.kz,.int .i64 o.kx,.int .i64 o.ky].toList:=fun j u a=>by
 have:=ao h (5+j) u;rw[zb] at this;refine this ?_
 match j with
 | 0 | 1 | 2 | 3=>exact a
 | n+4=>simp at a
theorem rr (i:Glb w)(n:o.s.size<=1048576)(j:o.kind=21) :
  Calls prog 15 #[.agg o.v] w fun e w'=>e=.returned (.bool true)/\Below w.heap.size w w':=by
 have a:=zZ w (.cells o.v 44 (0,0));have c:=aj w (.cells o.v 44);have k:=(af a 0).trans (show _=some (Value.int .i64 o.kind) from rfl);have p:=(af a 2).trans (show _=some (Value.int .i64 o.a) from rfl);have q:=(af a 9).trans (show _=some (Value.string o.s) from rfl);rw[j] at k;have g:=qo a;have d:=i.on c;have m:=ae (Dw.paths_walk o.s o.kl o.kz o.kx o.ky o.a _ n d.nm d.tab);have h:=ae c;clear c i d a j;go_enter func15,ntmps15
 go_wp2_with (refine vM g rfl _ rfl rfl ?_)
 refine(aa m).mono ?_;rintro e r ⟨rfl,f⟩;have l:=ae ((aa h).trans (f.mono (aa h).size));clear f k p q g
 go_wp2
 go_ret
 exact⟨rfl,aa l⟩
theorem rK (m:o.s.size<=1048576)(n:o.t.size<=1048576)(g:o.kind=22) :
  Calls prog 15 #[.agg o.v] w fun e w'=>e=.returned (.bool true)/\Below w.heap.size w w':=by
 have a:=zZ w (.cells o.v 44 (0,0));have c:=aj w (.cells o.v 44);have h:=(af a 0).trans (show _=some (Value.int .i64 o.kind) from rfl);have l:=(af a 9).trans (show _=some (Value.string o.s) from rfl);have j:=(af a 10).trans (show _=some (Value.string o.t) from rfl);rw[g] at h;have k:=ae (Pk.packs_walk o.s o.t (w.alloc (.cells o.v 44)) (by unfold maxLen;omega) (by unfold maxLen;omega));have f:=ae c;clear c a g;go_enter func15,ntmps15
 go_wp2_with fail
 refine(aa k).mono ?_;rintro e p ⟨rfl,d⟩;have i:=ae ((aa f).trans (d.mono (aa f).size));clear d h j l
 go_wp2
 go_ret
 exact⟨rfl,aa i⟩
theorem rW (d:¬o.kind=21)(f:¬o.kind=22)(g:¬o.kind=23)(h:¬o.kind=24) :
  Calls prog 15 #[.agg o.v] w fun e w'=>e=.returned (.bool true)/\Below w.heap.size w w':=by
 have a:=zZ w (.cells o.v 44 (0,0));have c:=ae (aj w (.cells o.v 44));have i:=(af a 0).trans (show _=some (Value.int .i64 o.kind) from rfl);clear a;go_enter func15,ntmps15
 go_wp2
 go_ret
 exact⟨rfl,aa c⟩
theorem qO (N:bL rE w o.bat b)(S:b.length<=10000000)(r:o.kind=23) :
  Calls prog 15 #[.agg o.v] w fun e w'=>e=.returned (.bool true)/\Below w.heap.size w w':=by
 have c:=zZ w (.cells o.v 44 (0,0));have O:=(af c 0).trans (show _=some (Value.int .i64 o.kind) from rfl);rw[r] at O;obtain⟨P,cap,e,Q,hm,F⟩:=N;have L:=ae F;have A:=ae e;have K:Hid (Below w.heap.size w (w.alloc (.cells o.v 44))/\(w.alloc (.cells o.v 44)).heap[w.heap.size]?=some (.cells o.v 44 (0,0))):=ae ⟨aj _ _,c⟩;clear c r F e hm;go_enter func15,ntmps15
 go_wp2
 go_loopw [3,4] (fun i _ wr=>∃k:Nat,k<=b.length/\i=.int .i64 k/\Hid (Below w.heap.size w wr/\wr.heap[w.heap.size]?=some (.cells o.v 44 (0,0)))) (fun i _ _=>b.length-(intOf i).toNat)
 ·exact⟨0,by omega,rfl,K⟩
 obtain⟨k,r,rfl,m⟩:=hrel;have h:=(aa m).1;have c:=(aa m).2;have R:=an c;have J:wr.cell? ⟨w.heap.size,11,none⟩=some (.slice P b.length cap):=by rw[<-aa A];exact(af c 11).trans rfl
 by_cases I:k<b.length
 ·have n:(k:Int)<b.length:=by omega
  obtain⟨g,off,rfl,H,x⟩:=aa L (by omega);have t:=rM (rngE x I);have z:∀a,Below wr.heap.size wr a->a.rangeAt g (off+k*25+1) (fc (nE (gf b k))).toList:=fun a f j u s=>(f.cell (p:=⟨g,off+k*25+1+j,none⟩) (by have:=h.size;show g<_;omega)).trans ((h.cell (p:=⟨g,off+k*25+1+j,none⟩) H).trans (t j u s));have C:∀(j:Nat) (u:Value),o.v[j]?=some u->∀a,Below wr.heap.size wr a->a.cell? ⟨w.heap.size,j,none⟩=some u:=fun j u s a f=>(af (ag c f) j).trans s;have v:∀a,Below wr.heap.size wr a->a.cell? ⟨w.heap.size,11,none⟩=some (.slice (some ⟨g,off,none⟩) b.length cap):=fun a f=>by rw[<-aa A];exact C 11 _ rfl a f
  have B:=C 2 (.int .i64 o.a) rfl;have D:=C 3 (.int .i64 o.b) rfl;have K4:=C 4 (.int .i64 o.c) rfl;have y:=fun a (f:Below wr.heap.size wr a)=>qo (ag c f);have E:=fun a=>qN (nE (gf b k)) o.a o.b o.c o.kl o.kz o.kx o.ky a;have l:=ae (And.intro h c);clear t x C m h c
  go_wp2_with fail
  refine aM (by kernel_rfl) (by kernel_rfl) ?_;refine bd w.heap.size 11 ?_;refine bH (.slice (some ⟨g,off,none⟩) b.length cap) ?_ (fun w' d=>by simp[go_sem,v w' d]);refine bD (.int .i64 k) ?_;refine bd g (off+k*25) ?_ (fun w' d=>by simp[go_sem,n]);refine bd g (off+k*25+1) ?_;refine vF g (off+k*25+1) z ?_;refine bd w.heap.size 2 ?_;refine bH (.int .i64 o.a) ?_ (fun w' d=>by simp[go_sem,B w' d]);refine bd w.heap.size 3 ?_;refine bH (.int .i64 o.b) ?_ (fun w' d=>by simp[go_sem,D w' d]);refine bd w.heap.size 4 ?_;refine bH (.int .i64 o.c) ?_ (fun w' d=>by simp[go_sem,K4 w' d]);refine bd w.heap.size 5 ?_;refine vK w.heap.size 5 y ?_;refine vC E ?_;refine vA (.bool true) ?_;refine zq ?_;intro G q;have M:Hid (Below w.heap.size w G/\G.heap[w.heap.size]?=some (.cells o.v 44 (0,0))):=ae ⟨(aa l).1.trans (q.mono (aa l).1.size),ag (aa l).2 q⟩;clear z v B D K4 y E l q J
  go_wp2
  go_roundw
  ·exact⟨k+1,by omega,by go_num,M⟩
  simp[intOf];omega
 have n:k=b.length:=by omega
 subst n;clear h c
 go_wp2
 go_ret
 exact⟨rfl,(aa m).1⟩
end
structure Pf (w0:World) (b:bK) (wr:World) (fv:Value) (k:Nat):Prop where
 own:ah rF 66 wr fv ((b.take k).map nE)
 fr:∀g,fv.ownBlock=some g->w0.heap.size<=g
 bel:Below w0.heap.size w0 wr
theorem Pf.zero (a:World)(b:bK):Pf a b a (.slice none 0 0) 0:=⟨by simpa using aU,fun g c=>by simp[Value.ownBlock] at c,zV _ _⟩
theorem Pf.step {f wr:World}{b:bK}{fv:Value}{k:Nat}(h:Pf f b wr fv k)(i:k<b.length)(o:b.length<=10000000) :
  ∃c d,(Builtin.append_ #[62,62] 62 #[fv,.slice (some ⟨wr.heap.size,0,none⟩) 1 1]).run prog (wr.alloc (.cells (fc (nE (gf b k))) 66))=.ok c d/\Pf f b d c (k+1):=by
 obtain⟨c,d,l,m,n,a⟩:=apF (h.own.allocF (.cells (fc (nE (gf b k))) 66)) (aZ rF 66 wr (nE (gf b k)) (fc (nE (gf b k))) rfl) (by simp;omega);have j:=h.bel.size;refine⟨c,d,l,?_,fun g e=>?_,(h.bel.alloc j _).grown n (by simp;omega) h.fr⟩
 ·rw[ys,ix i]
  simpa using m
 rcases a with a|a
 ·exact h.fr g (a▸e)
 have:=a g e;simp at this;omega
section
variable {w:World}{o:iH}{b:bK}
theorem qR (J:bL rE w o.bat b)(K:b.length<=10000000)(r:o.kind=24) :
  Calls prog 15 #[.agg o.v] w fun e w'=>e=.returned (.bool true)/\Below w.heap.size w w':=by
 have a:=zZ w (.cells o.v 44 (0,0));have M:=(af a 0).trans (show _=some (Value.int .i64 o.kind) from rfl);rw[r] at M;obtain⟨N,cap,e,Q,hm,C⟩:=J;have H:=ae C;have I:=ae e;have G:=ae a;have t:=ae (aj w (.cells o.v 44));have F:=ae (Pf.zero (w.alloc (.cells o.v 44)) b);clear a r C e hm;go_enter func15,ntmps15
 go_wp2
 go_loopw [5,6] (fun fv i wr=>∃k:Nat,k<=b.length/\i=.int .i64 k/\Hid (Pf (w.alloc (.cells o.v 44)) b wr fv k)) (fun _ i _=>b.length-(intOf i).toNat)
 ·exact⟨0,by omega,rfl,F⟩
 obtain⟨k,r,rfl,c⟩:=hrel;have a:=ag (aa G) (aa c).bel;have d:=(aa t).trans ((aa c).bel.mono (aa t).size);have A:wr.cell? ⟨w.heap.size,11,none⟩=some (.slice N b.length cap):=by rw[<-aa I];exact(af a 11).trans rfl
 by_cases z:k<b.length
 ·have y:(k:Int)<b.length:=by omega
  obtain⟨g,off,rfl,D,v⟩:=aa H (by omega);have s:=rM (rngE v z);have E:wr.rangeAt g (off+k*25+1) (fc (nE (gf b k))).toList:=fun j u L=>(d.cell (p:=⟨g,off+k*25+1+j,none⟩) D).trans (s j u L);obtain⟨U,V,O,B⟩:=(aa c).step z K;have h:=ae B;clear s v c a B d
  go_wp2_with (first|refine bU 66 (fc (nE (gf b k))) underlying66 rfl (gK _) g (off+k*25+1) E rfl _ rfl rfl ?_|refine cP _ _ (jN _ _ _ rfl (nE (gf b k)) rfl _) rfl ?_|(at_builtin;refine fS 62 O rfl _ _ rfl rfl rfl rfl ?_))
  go_roundw
  ·exact⟨k+1,by omega,by go_num,h⟩
  simp[intOf];omega
 have y:k=b.length:=by omega
 subst y;have n:=qo a;have m:=(aa c).own.at.csF;rw[zx,zY] at m;have l:=ae d
 rcases (aa c).own with ⟨rfl,_⟩|⟨g,T,S,R,x,_⟩
 ·have h:=ae (ro o.kl o.kz o.kx o.ky wr)
  clear m c a d
  go_wp2_with (refine vM n rfl _ rfl rfl ?_)
  refine(aa h).mono ?_;rintro e P ⟨rfl,f⟩;have q:=ae ((aa l).trans (f.mono (aa l).size));clear f A n
  go_wp2
  go_ret
  exact⟨rfl,aa q⟩
 rw[zx,zY] at x;subst x;have h:=ae (qS _ _ _ _ o.kl o.kz o.kx o.ky wr m (by omega));clear m c a d
 go_wp2_with (refine vM n rfl _ rfl rfl ?_)
 refine(aa h).mono ?_;rintro e P ⟨rfl,f⟩;have q:=ae ((aa l).trans (f.mono (aa l).size));clear f A n
 go_wp2
 go_ret
 exact⟨rfl,aa q⟩
theorem sA (j:Glb w)(i:o.s.size<=1048576)(k:o.t.size<=1048576)(g:bL rE w o.bat b)(h:b.length<=10000000) :
  Calls prog 15 #[.agg o.v] w fun e w'=>e=.returned (.bool true)/\Below w.heap.size w w':=by
 by_cases a:o.kind=21
 ·exact rr j i a
 by_cases c:o.kind=22
 ·exact rK i k c
 by_cases d:o.kind=23
 ·exact qO g h d
 by_cases f:o.kind=24
 ·exact qR g h f
 exact rW a c d f
end
section
variable {w0 w:World}{wb ob n:Nat}{o:iH}{b:bK}
theorem rX (h:ni w0 w wb ob n)(d:od w0 o b)(r:8<=o.kind)(s:¬(11<=o.kind/\o.kind<=16)) :
  Calls prog 7 #[some wb,.agg o.v] w fun e w'=>e=.returned (.bool true)/\ni w0 w' wb ob (n+1):=by
 have l:=zZ w (.cells o.v 44 (0,0));have i:=aj w (.cells o.v 44);have u:=(af l 0).trans (show _=some (Value.int .i64 o.kind) from rfl);have f:=ao l;have p:=ae (h.on i);have j:Below w0.heap.size w0 (w.alloc (.cells o.v 44)):=by
  obtain⟨v,fv,D,y,O,c,m,_⟩:=h.on i
  exact m.base
 have t:Glb w0:=by
  obtain⟨v,fv,D,y,O,c,m,_⟩:=h
  exact m.glb
 have q:=ae (sA (t.on j) d.str d.txt (d.bat.on j) d.len);have E:¬o.kind=1:=by omega
 have z:¬o.kind=11:=by omega
 have C:¬o.kind<=7:=by omega
 have B:2<=o.kind:=by omega
 clear h d i l j t
 by_cases g:12<=o.kind
 ·have A:¬o.kind<=16:=by omega
  clear r s;go_enter func7,ntmps7
  go_wp2_with (refine bU 44 o.v underlying44 rfl (sz44 o) w.heap.size 0 f rfl _ rfl rfl ?_)
  refine(aa q).mono ?_;rintro e x ⟨rfl,a⟩;have k:=ae ((aa p).on a).more;clear a u f
  go_wp2
  go_ret
  exact⟨rfl,aa k⟩
 clear r s;go_enter func7,ntmps7
 go_wp2_with (refine bU 44 o.v underlying44 rfl (sz44 o) w.heap.size 0 f rfl _ rfl rfl ?_)
 refine(aa q).mono ?_;rintro e x ⟨rfl,a⟩;have k:=ae ((aa p).on a).more;clear a u f
 go_wp2
 go_ret
 exact⟨rfl,aa k⟩
theorem rV (h:ni w0 w wb ob n)(d:n<=400000)(a:od w0 o b)(g:1<=o.kind/\o.kind<=24) :
  Calls prog 7 #[some wb,.agg o.v] w fun e w'=>e=.returned (.bool true)/\ni w0 w' wb ob (n+1):=by
 by_cases f:o.kind<=7
 ·exact rY h d a ⟨g.1,f⟩
 by_cases c:11<=o.kind/\o.kind<=16
 ·exact fstep_any h d a c
 exact rX h a (by omega) c
end
theorem sR (v:Value)(l:List iH)(w:World)(h:ScrOk2 w v l)(a:Glb w) :
  Calls prog 5 #[v] w fun e w'=>e=.returned (.bool true)/\Below w.heap.size w w':=by
 have d:=ae (upTo_any v l w h a 1 24 fun k wb ob n o b f j i g=>rV f (by omega) i g);clear h a;go_enter func5,ntmps5
 go_wp2_with fail
 refine(aa d).mono ?_;rintro e w' ⟨rfl,hb⟩;have c:=ae hb;clear hb
 go_wp2
 go_ret
 exact⟨rfl,aa c⟩
section
open Go.ChangeShapes Go.WideShapes Go.ChangeAt Go.Joins
open Go.ChangeMaps (open_string shut_string)
theorem qt (c:Type)(enc:TypeId × Value->c)(a:World)(base:Nat)(args:Array Value)(b h:List (DataW c))(m:List MemPlace)
  (d:∀(j:Nat) t v,Tryz.f5.params[j]?=some t->args[j]?=some v->Value.okWide Tryz.prog a .any base t v)
  (k:DataW.Whole enc Tryz.prog Tryz.f5.params.toList Rows.allSpec.vars false a args.toList b h m) (y:Rows.uptoSmall c (b++h)=true) (s:laidMetH Tryz.prog Rows.allUptoRow.laid a) :
  Calls Tryz.prog 5 args a fun e g=>∃v,e=.returned v/\Rows.allSpec.post enc Tryz.prog Tryz.f5 false true false false a args v g:=by
 have n:=k;obtain⟨p,q,f,u,rfl,C,D⟩:=k;have i:DataW.TrodAll enc Tryz.prog a 0 (fun _=>true) true Tryz.f5.params.toList args.toList b p:=f;rw[Tryz.params5] at i d;obtain⟨l,o,rfl,rfl,r⟩:=trodAll_one i;obtain⟨rfl,rfl⟩:=trodVars_none u;clear f;have w:Rows.uptoBulk o<=1048576:=by
  have:=of_decide_eq_true y;simp only[yW,Rows.uptoBulkAll] at this;omega
 obtain⟨A,z⟩:=oS (d 0 22 l rfl rfl) r w;refine(sR l A a z (glb_of (show laidMetH Tryz.prog Rows.frontsUptoRow.laid a from s))).mono fun e g ⟨x,bel⟩=>?_;subst x
 exact⟨_,rfl,law_post n rfl rfl (by kernel_rfl) (fun B e=>by subst e;rfl) bel⟩
theorem sW (a:Os):laidMet Tryz.prog Rows.allUptoRow.laid ((World.doorLaid Tryz.prog 29 a).forCall (fun _ _=>0) ⟨#[],#[.slice none 0 0],[]⟩).memory:=
 laidMet_of_run' 8 (by kernel_rfl) (by kernel_rfl)
theorem sd (b:Os){c:Type}(enc:TypeId × Value->c):∃a,DataW.whole enc Tryz.prog ((World.doorLaid Tryz.prog 29 b).forCall (fun _ _=>0) ⟨#[],#[.slice none 0 0],[]⟩).memory Tryz.f5.params.toList Rows.allSpec.vars false
  #[.slice none 0 0].toList 8=some ([.nil],[],a):=
 ⟨[],by kernel_rfl⟩
set_option maxRecDepth 100000 in
theorem rf (a:Os)(started:a.Started)(b:Type)(enc:TypeId × Value->b)(m:Stop.Interp) :
  ReturnsInHanded {} Tryz.checked a 5 .any ((Rows.OpenSpec.upto Rows.allSpec).preRow enc Tryz.prog Tryz.f5 Rows.allUptoRow.domain false Rows.allUptoRow.laid) (((Rows.OpenSpec.upto Rows.allSpec).at m).post enc Tryz.prog Tryz.f5 false true false false):=by
 obtain⟨o,l⟩:=sd a enc;refine returnsInHanded_of_row (C:=Tryz.checked) (s:=Rows.OpenSpec.upto Rows.allSpec) Tryz.own started (by kernel_rfl) Tryz.func5
  (witness_row_at (enc:=enc) (C:=Tryz.checked) false (World.doorLaid Tryz.prog 29 a) #[.slice none 0 0] rfl (by kernel_rfl) (by kernel_rfl) (by kernel_rfl)
   (OpenSpec.preRow_of_cond 8 l (by kernel_rfl) (fun k j=>by cases j;kernel_rfl) (by kernel_rfl) (sW a))) ?_
 intro n base args f g c e i _ d _ h _ _
 exact qt b enc n base args f g c e i (d _ rfl) h
theorem sC:Rows.AllUptoSaid:=
 OpenClaim.holds_of_cond 5 Tryz.f5 rfl rfl rfl rfl rfl rfl rfl ⟨rfl,rfl,rfl,rfl,rfl⟩ rfl rfl rfl rfl rfl (by kernel_rfl) Tryz.func5 (by kernel_rfl)
  (of_decide_eq_true (by kernel_rfl)) (by unfold Func.isWrapper;first|(rw[zJ (by decide +kernel)];kernel_rfl)|(rw[zK (by decide +kernel)];exact⟨rfl,rfl⟩))
  (fun a started c enc _ b=>by rw[OpenClaim.pre_eq_preRow];exact rf a started c enc b)
theorem se (f : FuncId) (a : Func) (e : Tryz.pinned.checked.prog.funcNamed "atlas/atlaslaw.All" = some f) (d : Tryz.pinned.checked.prog.funcs[f]? = some a) :
    false = Tryz.pinned.checked.prog.looks [] ∧ ∀ (j : Nat) t, a.params[j]? = some t → Tryz.pinned.checked.prog.wantsStandIn t = false := by
  obtain rfl : f = 5 := zu ((show Tryz.prog.funcNamed "atlas/atlaslaw.All" = some 5 by kernel_rfl).symm.trans e) |>.symm
  obtain rfl : a = Tryz.f5 := (zu (Tryz.func5.symm.trans d)).symm
  refine ⟨by kernel_rfl, fun j t b => ?_⟩
  rw [Tryz.params5] at b
  have hm : t ∈ [22] := by simpa using Array.mem_of_getElem? b
  have c : ([22].all fun u => !Tryz.prog.wantsStandIn u) = true := by kernel_rfl
  exact (show Tryz.prog.wantsStandIn t = false by simpa using zi.1 c t hm)
theorem all_upto_card : Rows.AllUptoCardSaid :=
  Claim7.holds_tied_plain_at .later [] _ _ _ _ sC (fun _ h => by cases h) (by kernel_rfl) (fun _ h => by cases h) allUpto_row_tie rfl ⟨rfl, rfl⟩ (by kernel_rfl) rfl se (by kernel_rfl)
end
end Go.Proofs.YtpabpniaekldeaaGreatDoor
