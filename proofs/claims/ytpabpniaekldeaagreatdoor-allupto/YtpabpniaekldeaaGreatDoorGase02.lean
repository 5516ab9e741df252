import Derived.Test.YtpabpniaekldeaaGreatDoorGase01
import Derived.Test.YtpabpniaekldeaaGreatDoorRows
import Derived.WalkKit
import Derived.WalkSpells
import Derived.WalkLawsBesides
import Derived.Deep.QuietTactic
import Derived.BigQuiet
import Derived.Lib.Strings
import Derived.Lib.ItoaNum
import Derived.Laws.IdiomStrings
set_option maxHeartbeats 25600000
set_option maxRecDepth 20000
open Go.RowKit Go.Proofs.Tryz
namespace Go.Proofs.YtpabpniaekldeaaGreatDoor
def lsB (c:Bool)(n L:Nat):Nat:=bif c then n else L
theorem lsB_more (a b:Bool)(n L:Nat):lsB b n (lsB a n L)=lsB (a || b) n L:=by cases a<;>cases b<;>rfl
theorem any_take {M:List (Nat->Int)}{p:(Nat->Int)->Bool}{j:Nat}(h:j<M.length):(M.take (j+1)).any p=((M.take j).any p || p (gf M j)):=by
 rw[ys,ix h]; simp
theorem ls_step (bs:List bK)(l z x y:Int)(k:Nat):mF bs l z x y (k+1)=lsB ((mvT (dk bs k) (gf (ff bs k)) (ff bs k).length).any (fun f=>cJ f l z x y)) (k+1) (mF bs l z x y k):=rfl
theorem mv_step {fs:List (Nat->Int)}{es:Nat->Nat->Int}{j:Nat}{p:(Nat->Int)->Bool}(n L:Nat):lsB ((mvT fs es (j+1)).any p) n L=lsB ((nP (jX fs es j) (es j)).any p) n (lsB ((mvT fs es j).any p) n L):=by
 rw[lsB_more,mvT,List.any_append]
theorem edM_le {fs:List (Nat->Int)}{e:Nat->Int}(h:fs.length<=40):(nP fs e).length<=41:=by have:=edM_len (fs:=fs) (e:=e); omega
theorem Last_any (rb:Nat)(aD:Int)(bv pv:Value)(SL:List cA)(bs:List bK)(PI:List Int)(v:Nat)(l z x y:Int)(w:World)(az:eV w rb aD bv pv SL bs PI)(bj:v<=bs.length)(bi:bs.length<=100)(a3:∀k,k<bs.length->(ff bs k).length<=8):
  Calls prog 79 #[some rb,v,.agg #[l,z,x,y]] w fun en w'=>en=.returned (.int .i64 (mF bs l z x y v:Nat))/\Below w.heap.size w w':=by
 have ay:=ae (zZ w (.cells #[l,z,x,y] 39));have H:=ae (aj w (.cells #[l,z,x,y] 39));have D:=ae (az.on (aa H))
 have aY:(w.alloc (.cells #[l,z,x,y] 39)).heap.size=w.heap.size+1:=by simp
 clear az;go_enter func79,ntmps79
 go_wp2_with fail
 obtain⟨w1,aw⟩:∃w1,(w.alloc (.cells #[l,z,x,y] 39))=w1:=⟨_,rfl⟩;rw[aw] at ay H D aY ⊢;clear aw
 go_loopw [7,8,9,10,11,12,13,14,15] (fun fv A i _ _ _ _ _ _ wr=>∃k:Nat,k<=v/\i=.int .i64 k/\A=.int .i64 (mF bs l z x y k:Nat)/\Hid (bL rF wr fv (dk bs k))/\Hid (Below w1.heap.size w1 wr)) (fun _ _ i _ _ _ _ _ _ _=>v-(intOf i).toNat)
 ·exact⟨0,by omega,rfl,rfl,ae (mV _),ae bu⟩
 obtain⟨k,bh,rfl,rfl,a4,n⟩:=hrel
 by_cases bc:k<v
 ·have aV:(k:Int)<v:=by omega
  have bb:(k:Int)<bs.length:=by omega
  obtain⟨b,off,cap,bn,c,e,E,R⟩:=((aa D).on (aa n)).batch (k:=k) (by omega)
  have Z:=((aa D).on (aa n)).c1
  have aW:b<wr.heap.size:=by
   rcases yP b wr.heap.size with q|q
   ·exact q
   simp[World.cell?,xK q] at E
  have aX:rb<wr.heap.size:=((aa D).on (aa n)).lt;rw[e] at Z;obtain⟨m,V⟩:∃m,(ff bs k).length=m:=⟨_,rfl⟩
  have aR:=a3 k (by omega)
  rw[V] at E R aR;have N:=ae V;have a0:=ae R;have aZ:=ae E;have aP:=ae Z;have aE:=ae (ag (aa ay) (aa n));obtain⟨r,S⟩:∃r,mF bs l z x y k=r:=⟨_,rfl⟩;rw[S];have a1:=ae S;clear R e V S
  go_wp2
  go_loopw [7,8,10,11,12,13,14,15] (fun fv A i _ _ _ _ _ aB=>∃j:Nat,j<=m/\i=.int .i64 j/\A=.int .i64 (lsB ((mvT (dk bs k) (gf (ff bs k)) j).any (fun f=>cJ f l z x y)) (k+1) r:Nat)/\Hid (bL rF aB fv (jX (dk bs k) (gf (ff bs k)) j))/\Hid (Below wr.heap.size wr aB)) (fun _ _ i _ _ _ _ _ _=>m-(intOf i).toNat)
  ·exact⟨0,by omega,rfl,rfl,a4,ae bu⟩
  obtain⟨j,bg,rfl,rfl,K,o⟩:=hrel;have a6:=((aa o).cell (p:=⟨rb,1,none⟩) aX).trans (aa aP);have a7:=((aa o).cell (p:=⟨b,off+k,none⟩) aW).trans (aa aZ);clear Z E
  by_cases ba:j<m
  ·have am:(j:Int)<m:=by omega
   obtain⟨bf,a9,a2,_,_,aA⟩:=aa a0;have J:(ff bs k).length=m:=aa N;cases a2
   obtain⟨P,G,rfl,aS,ar⟩:=aA (by rw[J]; omega)
   have ab:=rngE ar (k:=j) (by rw[J]; omega)
   have av:wr.rangeAt P (G+j*25) (cc 25 (gf (ff bs k) j)).toList:=fun q u Y=>((aa o).cell (p:=⟨P,G+j*25+q,none⟩) aS).trans (ab q u Y);obtain⟨C,Q⟩:∃C,lsB ((mvT (dk bs k) (gf (ff bs k)) j).any (fun f=>cJ f l z x y)) (k+1) r=C:=⟨_,rfl⟩;rw[Q];have aI:=ae Q;clear aA ar ab J Q
   go_wp2_with (refine bU 100 (cc 25 (gf (ff bs k) j)) underlying100 rfl (sz56 _) P (G+j*25) av rfl _ rfl rfl ?_)
   refine(jD _ _ (gf (ff bs k) j) _ (aa K) (eZ (d7 bs k) j)).mono ?_;rintro en aC ⟨bm,bl,rfl,ak,ai,al⟩;have aN:=ae ak;have F:=(aa o).trans (al.mono (aa o).size);have B:=ae F;have aF:=ae (ag (aa aE) F);have aQ:(nP (jX (dk bs k) (gf (ff bs k)) j) (gf (ff bs k) j)).length<=41:=edM_le (eZ (d7 bs k) j);obtain⟨M,U⟩:∃M,nP (jX (dk bs k) (gf (ff bs k)) j) (gf (ff bs k) j)=M:=⟨_,rfl⟩;rw[U] at ai aQ;have aK:=ae U;obtain⟨bk,a5,rfl,_,_,ap⟩:=ai;have aL:=ae ap;clear ak al F a6 a7 av ap U
   go_wp2
   go_loopw [8,14,15] (fun A i _ a8=>∃a:Nat,a<=M.length/\i=.int .i64 a/\A=.int .i64 (lsB ((M.take a).any (fun f=>cJ f l z x y)) (k+1) C:Nat)/\Hid (Below aC.heap.size aC a8)) (fun _ i _ _=>M.length-(intOf i).toNat)
   ·exact⟨0,by omega,rfl,rfl,ae bu⟩
   obtain⟨a,hm,rfl,rfl,g⟩:=hrel
   by_cases an:a<M.length
   ·have L:(a:Int)<M.length:=by omega
    obtain⟨t,s,rfl,aT,au⟩:=aa aL (by omega)
    have ac:∀d,Below wr.heap.size wr d->d.rangeAt t (s+a*24) (fc (gf M a)).toList:=fun d X q u Y=>(((aa g).trans (X.mono (aa g).size)).cell (p:=⟨t,s+a*24+q,none⟩) aT).trans (rngF au an q u Y);have ah:∀d,Below wr.heap.size wr d->d.rangeAt w.heap.size 0 #[Value.int .i64 l,.int .i64 z,.int .i64 x,.int .i64 y].toList:=fun d X=>ao (ag (aa aF) ((aa g).trans (X.mono (aa g).size)));have O:=fun d=>lJ (gf M a) l z x y d;obtain⟨T,W⟩:∃T,cJ (gf M a) l z x y=T:=⟨_,rfl⟩
    have aq:lsB ((M.take (a+1)).any (fun f=>cJ f l z x y)) (k+1) C=bif T then k+1 else lsB ((M.take a).any (fun f=>cJ f l z x y)) (k+1) C:=by
     rw[any_take an,W,<-lsB_more]; rfl
    rw[W] at O;have af:=ae aq;clear aq au W
    go_wp2_with fail
    refine aM (by kernel_rfl) (by kernel_rfl) ?_
    refine bD (.slice (some ⟨t,s,none⟩) M.length a5) ?_;refine bD (.int .i64 a) ?_
    refine bd t (s+a*24) ?_ (h:=fun _ _=>by simp[go_sem,L])
    refine vF t (s+a*24) ac ?_;refine vK w.heap.size 0 ah ?_
    refine vC O ?_;refine bH (.bool T) ?_;refine zq ?_;intro bo ax;have ad:=ae ((aa g).trans (ax.mono (aa g).size));clear ax O ac ah
    cases T with
    | false=>
     go_wp2
     go_roundw
     ·exact⟨a+1,by omega,by go_num,by rw[aa af]; rfl,ad⟩
     simp[intOf]; omega
    | true=>
     have be:IntKind.i64.wrap ((k:Int)+1)=((k+1:Nat):Int):=by rw[bG _ (by omega)]; omega
     go_wp2
     go_roundw
     ·exact⟨a+1,by omega,by go_num,by rw[aa af]; rfl,ad⟩
     simp[intOf]; omega
   have L:a=M.length:=by omega
   subst L;rw[zx]
   have I:Hid (lsB (M.any fun f=>cJ f l z x y) (k+1) C=lsB ((mvT (dk bs k) (gf (ff bs k)) (j+1)).any (fun f=>cJ f l z x y)) (k+1) r):=by
    show _=_;rw[mv_step,aa aK,aa aI]
   have aG:=ae ((aa B).trans ((aa g).mono (aa B).size));have aO:=ae ((aa aN).on (aa g))
   go_wp2
   go_roundw
   ·exact⟨j+1,by omega,by go_num,by rw[aa I],aO,aG⟩
   simp[intOf]; omega
  have am:j=m:=by omega
  subst am
  have aJ:Hid (bL rF wr u7 (dk bs (k+1))):=by rw[at_step,aa N]; exact K
  have I:Hid (lsB ((mvT (dk bs k) (gf (ff bs k)) j).any (fun f=>cJ f l z x y)) (k+1) r=mF bs l z x y (k+1)):=by
   show _=_;rw[ls_step,aa N,aa a1]
  have B:=ae ((aa n).trans ((aa o).mono (aa n).size));clear K
  go_wp2
  go_roundw
  ·exact⟨k+1,by omega,by go_num,by rw[aa I],aJ,B⟩
  simp[intOf]; omega
 have aU:k=v:=by omega
 subst aU
 have aV:¬(k:Int)<k:=by omega
 have aH:=ae ((aa H).trans ((aa n).mono (by omega)))
 go_wp2
 go_ret;exact⟨rfl,aa aH⟩
section
variable {w:World}{rb:Nat}{keep:Int}{bv pv:Value}{SL:List cA}{bs:List bK}{PI:List Int}
theorem count_take {v:Int}{k:Nat}(h:k<PI.length):(PI.take (k+1)).count v=(PI.take k).count v+(if PI[k]=v then 1 else 0):=by
 rw[ys,zQ h,List.count_append]
 by_cases c:PI[k]=v
 ·simp[c]
 simp[c]
theorem count_pos (PI:List Int)(v:Int):decide (0<PI.count v)=decide (v∈PI):=by
 by_cases c:v∈PI
 ·rw[zU c,zU (List.count_pos_iff.2 c)]
 rw[zG c,zG (fun q=>c (List.count_pos_iff.1 q))]
theorem pd (keep:Int)(n:Nat)(PI:List Int)(v:Int):bS keep n (ri PI) v=(decide (0<=v) && decide (v<=n) && (decide (0<PI.count v) || decide ((n:Int)-v<=keep))):=by
 unfold bS;rw[hasP_ri,count_pos,Bool.or_comm (decide (v∈PI))]
 congr 2
 by_cases c:(n:Int)-keep<=v
 ·rw[zU c,zU (by omega)]
 rw[zG c,zG (by omega)]
theorem pins_any (v:Int)(d:eV w rb keep bv pv SL bs PI)(y:PI.length<=100):
  Calls prog 118 #[some rb,v] w fun en w'=>en=.returned (.int .i64 (PI.count v:Nat))/\w=w':=by
 have p:=d.c2;obtain⟨z,cap,e,_,_,j⟩:=d.pin.at;rw[e] at p;have o:=ae j;clear j d e;go_enter func118,ntmps118
 go_wp2_with fail
 go_loop [5,6] (fun s i=>∃k:Nat,k<=PI.length/\i=.int .i64 k/\s=.int .i64 ((PI.take k).count v:Nat)) (fun _ i=>PI.length-(intOf i).toNat)
 ·exact⟨0,by omega,rfl,by simp⟩
 obtain⟨k,u,rfl,rfl⟩:=hrel
 by_cases h:k<PI.length
 ·have g:(k:Int)<PI.length:=by omega
  obtain⟨b,off,rfl,r,f⟩:=aa o (by omega)
  have hi:PI[k]?=some PI[k]:=zQ h;have q:=rngI f hi;have c:=ae (count_take (PI:=PI) (v:=v) h)
  have t:(PI.take k).count v<=k:=by have:=List.count_le_length (a:=v) (l:=PI.take k); rw[zD] at this; omega
  obtain⟨x,n⟩:∃x,PI[k]=x:=⟨_,rfl⟩;rw[n] at q c;clear f hi n
  by_cases m:x=v
  ·subst m
   have hw:IntKind.i64.wrap (((PI.take k).count x:Nat)+1:Int)=(((PI.take k).count x+1:Nat):Int):=by rw[bG _ (by omega)]; omega
   go_wp2_with fail
   go_round
   ·exact⟨k+1,by omega,by go_num,by rw[aa c,zJ rfl,Int.natCast_add]; rfl⟩
   simp[intOf]; omega
  go_wp2_with fail
  go_round
  ·exact⟨k+1,by omega,by go_num,by rw[aa c,zK m]; rfl⟩
  simp[intOf]; omega
 have g:k=PI.length:=by omega
 subst g;rw[zx]
 go_wp2
 go_ret;exact⟨rfl,rfl⟩
theorem IsHeld_any (v:Int)(b:eV w rb keep bv pv SL bs PI)(n:PI.length<=100)(t:bs.length<=100):
  Calls prog 72 #[some rb,v] w fun en w'=>en=.returned (.bool (bS keep (bs.length:Nat) (ri PI) v))/\Below w.heap.size w w':=by
 have p:=b.c0;have l:=b.c1;obtain⟨u,cap,e,_,_,m⟩:=b.bat.at;rw[e,b.len] at l;have k:=ae b;clear b m e
 by_cases r:v<0
 ·have a:Hid (bS keep (bs.length:Nat) (ri PI) v=false):=by show _=_; rw[pd,zG (by omega)]; rfl
  go_enter func72,ntmps72
  go_wp2
  go_ret;exact⟨ai (aa a).symm,zV _ _⟩
 by_cases s:(bs.length:Int)<v
 ·have a:Hid (bS keep (bs.length:Nat) (ri PI) v=false):=by show _=_; rw[pd,zG (show ¬v<=(bs.length:Nat) by omega),xJ]; rfl
  go_enter func72,ntmps72
  go_wp2
  go_ret;exact⟨ai (aa a).symm,zV _ _⟩
 have a:Hid (bS keep (bs.length:Nat) (ri PI) v=(decide (0<PI.count v) || decide ((bs.length:Int)-v<=keep))):=by show _=_; rw[pd,zU (show 0<=v by omega),zU (show v<=(bs.length:Nat) by omega)]; rfl
 have q:IntKind.i64.wrap ((bs.length:Int)-v)=(bs.length:Int)-v:=bG _ (by omega)
 obtain⟨P,c⟩:∃P,PI.count v=P:=⟨_,rfl⟩;have o:=ae c;have g:=ae (pins_any v (aa k) n);rw[c] at g;rw[c] at a;clear c;go_enter func72,ntmps72
 go_wp2_with fail
 refine(aa g).mono ?_;rintro en x ⟨rfl,rfl⟩
 by_cases h:0<P
 ·have j:(0:Int)<P:=by omega
  have d:decide (0<P)=true:=zU h
  go_wp2_with fail
  go_quiet (fail)
  go_wp2
  go_ret
  refine⟨ai (by rw[aa a,d]; rfl),?_⟩
  repeat first|exact zV _ _|refine ap ?_ _|refine zE ?_
 have j:¬(0:Int)<P:=by omega
 have d:decide (0<P)=false:=zG h
 by_cases i:(bs.length:Int)-v<=keep
 focus
  have f:decide ((bs.length:Int)-v<=keep)=true:=zU i
 rotate_left
 focus
  have f:decide ((bs.length:Int)-v<=keep)=false:=zG i
 all_goals
  go_wp2_with fail
  go_quiet (fail)
  go_wp2
  go_ret
  refine⟨ai (by rw[aa a,d,f]; rfl),?_⟩
  repeat first|exact zV _ _|refine ap ?_ _|refine zE ?_
end
def md (keep:Int)(n:Nat)(PI:List Int)(k:Nat):List Int:=((List.range k).filter fun v=>bS keep n (ri PI) (v:Nat)).map fun v=>((v:Nat):Int)
theorem nL (a:Int)(n:Nat)(PI:List Int)(k:Nat):md a n PI (k+1)=md a n PI k++(bif bS a n (ri PI) (k:Nat) then [(k:Int)] else []):=by
 unfold md;rw[y5,yI,yV]
 congr 1
 cases h:bS a n (ri PI) (k:Nat)<;>simp[h]
theorem hldL_len (a:Int)(n:Nat)(PI:List Int)(k:Nat):(md a n PI k).length<=k:=by
 unfold md;rw[zY]
 exact zF (ze _ _) (by simp)
theorem ah.slice {α:Type}{R:dR α}{T:TypeId}{w:World}{v:Value}{l:List α}(h:ah R T w v l):∃a c,v=.slice a l.length c:=by
 obtain⟨a,c,e,_⟩:=h.at;exact⟨a,c,e⟩
section
variable {w:World}{rb:Nat}{keep:Int}{bv pv:Value}{SL:List cA}{bs:List bK}{PI:List Int}
theorem rHeld_any (a:eV w rb keep bv pv SL bs PI)(H:PI.length<=100)(I:bs.length<=100):
  Calls prog 58 #[some rb] w fun en w'=>∃rv,en=.returned rv/\ah rI 3 w' rv (md keep bs.length PI (bs.length+1))/\(∀g,rv.ownBlock=some g->w.heap.size<=g)/\Below w.heap.size w w':=by
 have m:=a.c1;have E:=a.lt;obtain⟨Q,cap,e,_,_,G⟩:=a.bat.at;rw[e,a.len] at m;have F:=ae a;have A:=ae m;clear a G e m;go_enter func58,ntmps58
 go_wp2
 go_loopw [3,4,5] (fun lv i _ wr=>∃k:Nat,k<=bs.length+1/\i=.int .i64 k/\Hid (ah rI 3 wr lv (md keep bs.length PI k))/\Hid (∀g,lv.ownBlock=some g->w.heap.size<=g)/\Hid (Below w.heap.size w wr)) (fun _ i _ _=>bs.length+1-(intOf i).toNat)
 ·exact⟨0,by omega,rfl,ae (aU),ae (fun g b=>by simp[Value.ownBlock] at b),ae bu⟩
 obtain⟨k,M,rfl,t,h,f⟩:=hrel;have n:=((aa f).cell (p:=⟨rb,1,none⟩) E).trans (aa A)
 by_cases P:k<=bs.length
 ·have q:(k:Int)<=bs.length:=by omega
  have r:=ae (IsHeld_any (v:=(k:Nat)) ((aa F).on (aa f)) H I);obtain⟨B,s⟩:∃B,bS keep (bs.length:Nat) (ri PI) (k:Nat)=B:=⟨_,rfl⟩;have l:=ae (nL keep bs.length PI k);rw[s] at r l;clear s
  go_wp2_with fail
  refine(aa r).mono ?_;rintro en K ⟨rfl,j⟩;have o:=ae ((aa t).on j);have d:=ae ((aa f).trans (j.mono (aa f).size));clear j n
  cases B with
  | false=>
   go_wp2
   go_roundw
   ·exact⟨k+1,by omega,by go_num,by rw[aa l,cond_false,yW]; exact o,h,d⟩
   simp[intOf]; omega
  | true=>
   have O:=hldL_len keep bs.length PI k
   obtain⟨y,L,n,u,x,c⟩:=apI ((aa o).on (bu.alloc aD (.cells #[(k:Int)] 3))) (aZ rI 3 K (k:Int) #[(k:Int)] rfl) (by simp; omega)
   have D:Hid (ah rI 3 L y (md keep bs.length PI (k+1))):=by rw[aa l]; exact u
   have C:Hid (∀g,y.ownBlock=some g->w.heap.size<=g):=fun g b=>by
    rcases c with c|c
    ·exact aa h g (c▸b)
    have J:=c g b; have:=(aa d).size; simp at J; omega
   have z:=ae (((aa d).alloc (aa d).size _).grown x (by have:=(aa d).size; simp; omega) (fun g b=>aa h g b))
   clear u x c
   go_wp2_with (first|refine cP _ _ (bsI (k:Int) _ _ _ rfl rfl _) rfl ?_|(at_builtin; refine fS 60 n rfl _ _ rfl rfl rfl rfl ?_))
   go_roundw
   ·exact⟨k+1,by omega,by go_num,D,C,z⟩
   simp[intOf]; omega
 have q:k=bs.length+1:=by omega
 subst q
 have N:¬((bs.length+1:Nat):Int)<=bs.length:=by omega
 go_wp2
 go_ret;exact⟨_,rfl,aa t,aa h,aa f⟩
end
theorem cn {w w1 w':World}{o:Obj}{a:Option Nat}(b:Below w.heap.size w w1)(c:(w1.alloc o).grownBy w' a):aE (fun k=>a=some k) w w':=
 (aE.of_below (S:=fun k=>a=some k) (b.alloc b.size o)).grown c fun _ q _=>q
theorem ah.slc {α:Type}{R:dR α}{T:TypeId}{w:World}{v:Value}{l:List α}(h:ah R T w v l):∃a n c,v=.slice a n c:=by
 obtain⟨a,c,e,_⟩:=h.at;exact⟨a,_,c,e⟩
section
variable {w:World}{rb:Nat}{keep:Int}{bv pv:Value}{SL:List cA}{bs:List bK}{PI:List Int}
theorem dv (a:eV w rb keep bv pv SL bs PI):
  Calls prog 56 #[some rb] w fun e w'=>e=.returned (.int .i64 (bs.length:Nat))/\w=w':=by
 have b:=a.c1;obtain⟨c,cap,e⟩:=a.bat.slice;rw[e,a.len] at b;clear a e;go_enter func56,ntmps56
 go_wp2
 go_ret;exact⟨rfl,rfl⟩
end
structure FV where
 q:Int
 wt:Int
 ch:Int
 nw:Int
 ar:Int
 st:Int
 sb:Nat
 wv:Value
 lv:Value
 kv:Value
 rm:Int
 tv:Value
def FV.a (X:FV):Array Value:=#[X.q,X.wt,X.ch,X.nw,X.ar,X.st,.pointer (some ⟨X.sb,0,none⟩),X.wv,X.lv,X.kv,X.rm,X.tv]
abbrev aq (w:World)(fb:Nat)(X:FV):Prop:=w.heap[fb]?=some (.cells X.a 129)
theorem FV.set_tv (X:FV)(v:Value):X.a.setIfInBounds 11 v=({ X with tv:=v }:FV).a:=rfl
theorem FV.set_lv (X:FV)(v:Value):X.a.setIfInBounds 8 v=({ X with lv:=v }:FV).a:=rfl
theorem FV.set_wv (X:FV)(v:Value):X.a.setIfInBounds 7 v=({ X with wv:=v }:FV).a:=rfl
theorem FV.set_st (X:FV)(v:Int):X.a.setIfInBounds 5 (.int .i64 v)=({ X with st:=v }:FV).a:=rfl
theorem FV.set_ar (X:FV)(v:Int):X.a.setIfInBounds 4 (.int .i64 v)=({ X with ar:=v }:FV).a:=rfl
theorem FV.set_nw (X:FV)(v:Int):X.a.setIfInBounds 3 (.int .i64 v)=({ X with nw:=v }:FV).a:=rfl
theorem aq.cells {w:World}{fb:Nat}{X:FV}(h:aq w fb X):w.cell? ⟨fb,0,none⟩=some (.int .i64 X.q)/\w.cell? ⟨fb,1,none⟩=some (.int .i64 X.wt)/\w.cell? ⟨fb,2,none⟩=some (.int .i64 X.ch)/\w.cell? ⟨fb,3,none⟩=some (.int .i64 X.nw)/\w.cell? ⟨fb,4,none⟩=some (.int .i64 X.ar)/\w.cell? ⟨fb,5,none⟩=some (.int .i64 X.st) /\
  w.cell? ⟨fb,6,none⟩=some (.pointer (some ⟨X.sb,0,none⟩))/\w.cell? ⟨fb,7,none⟩=some X.wv/\w.cell? ⟨fb,8,none⟩=some X.lv/\w.cell? ⟨fb,9,none⟩=some X.kv/\w.cell? ⟨fb,10,none⟩=some (.int .i64 X.rm)/\w.cell? ⟨fb,11,none⟩=some X.tv:=
 ⟨(af h 0).trans rfl,(af h 1).trans rfl,(af h 2).trans rfl,(af h 3).trans rfl,(af h 4).trans rfl,(af h 5).trans rfl,(af h 6).trans rfl,(af h 7).trans rfl,(af h 8).trans rfl,(af h 9).trans rfl,(af h 10).trans rfl,(af h 11).trans rfl⟩
theorem aq.set {w:World}{fb:Nat}{X:FV}(h:aq w fb X)(i:Nat)(v:Value){a:FV}(e:X.a.setIfInBounds i v=a.a):aq (w.setCell ⟨fb,i,none⟩ v) fb a:=by
 show(w.setCell ⟨fb,i,none⟩ v).heap[fb]?=_;rw[<-e];have b:w.heap[fb]?=some (.cells X.a 129):=h;simp[World.setCell,zk,b]
theorem jU {w:World}{fb:Nat}{X:FV}(h:aq w fb X)(i:Nat):w.frozen? ⟨fb,i,none⟩=false:=bi h i
theorem au {α:Type}{R:dR α}{T b:TypeId}{w:World}{v:Value}{l:List α}{fb:Nat}{cs:Array Value}{c:Nat × Nat}(i:ah R T w v l)(a:w.heap[fb]?=some (.cells cs b c))(d:T≠b):∀g,v.ownBlock=some g->g≠fb:=by
 intro g h e;obtain⟨j,f⟩:=i.ty h;subst e;rw[f] at a;simp only[zy,Obj.cells.injEq] at a;exact d a.2.1
theorem be {α:Type}{l:List α}{k:Nat}{a:α}(h:l[k]?=some a):l.take (k+1)=l.take k++[a]:=by
 rw[ys,h]; rfl
theorem outT_app (a b:List aL)(k:K4):bm (a++b) k=bm a k++bm b k:=by simp[bm]
theorem outT_yes {t:aL}{k:K4}(h:t.k=k):bm [t] k=[]:=by simp[bm,h]
theorem outT_keep {t:aL}{k:K4}(h:t.k≠k):bm [t] k=[t]:=by simp[bm,h]
theorem bytesT_take {ts:List aL}{k:Nat}{t:aL}(h:ts[k]?=some t):aA (ts.take (k+1))=aA (ts.take k)+t.body.size:=by
 rw[be h,ep]; simp[aA]
theorem nV (fb:Nat)(X:FV)(ts:List aL)(w:World)(l:aq w fb X)(x:bL aW w X.tv ts)(h:aA ts<=1000000000)(C:ts.length<=100000000):
  Calls prog 109 #[.pointer (some ⟨fb,10,none⟩)] w fun e w'=>e=.returned (.int .i64 (aA ts))/\w=w':=by
 obtain⟨_,_,_,_,_,_,_,_,_,_,_,n⟩:=l.cells;obtain⟨D,cap,e,y,hm,j⟩:=x;rw[e] at n;have u:=ae j;have r:=ae h;clear l j hm h e;go_enter func109,ntmps109
 go_wp2_with fail
 go_loop [3,4] (fun s i=>∃k:Nat,k<=ts.length/\i=.int .i64 k/\s=.int .i64 (aA (ts.take k))) (fun _ i=>ts.length-(intOf i).toNat)
 ·exact⟨0,by omega,rfl,by simp[aA]⟩
 obtain⟨k,B,rfl,rfl⟩:=hrel
 by_cases q:k<ts.length
 ·have f:(k:Int)<ts.length:=by omega
  obtain⟨b,off,rfl,z,d⟩:=aa u (by omega)
  obtain⟨⟨⟨E,I,G,H⟩,a,F⟩,m⟩:∃t,ts[k]?=some t:=⟨_,zQ q⟩;have g:=bL.tile d m;have A:=g 4 (.string a) rfl;have c:aA (ts.take (k+1))=aA (ts.take k)+a.size:=bytesT_take m;have p:=eo (List.take_sublist (k+1) ts);have o:=aa r
  have hw:IntKind.i64.wrap ((aA (ts.take k):Int)+(a.size:Int))=((aA (ts.take k)+a.size:Nat):Int):=by
   rw[bG _ (by omega)]; omega
  have v:=ae c;clear g d c p o
  go_wp2_with fail
  go_round
  ·exact⟨k+1,by omega,by go_num,by rw[aa v]; rfl⟩
  simp[intOf]; omega
 have f:k=ts.length:=by omega
 subst f
 go_wp2
 go_ret;exact⟨rfl,rfl⟩
theorem gJ (fb:Nat)(X:FV)(ts:List aL)(l z x y:Int)(w:World)(M:aq w fb X)(aB:ah aW 196 w X.tv ts)(bc:ts.length<=10000000):
  Calls prog 172 #[.pointer (some ⟨fb,10,none⟩),.agg #[l,z,x,y]] w fun e w'=>e=.returned (.tuple #[])/\(∃B,aq w' fb { X with tv:=B }/\ah aW 196 w' B (bm ts ⟨l,z,x,y⟩)/\∀g,B.ownBlock=some g->w.heap.size<=g)/\aE (fun k=>k=fb) w w':=by
 have aJ:=an M;obtain⟨Y,cap,e,a4,hm,aA⟩:=aB.at;have aV:=ae aA;have aX:=ae M;unfold maxLen at hm;have ax:=zZ w (.cells #[l,z,x,y] 39);have ai:=(zV w.heap.size w).alloc aD (.cells #[l,z,x,y] 39)
 have az:=cr (R:=aW) (T:=196) (w.alloc (.cells #[l,z,x,y] 39)) [] #[] rfl (by simp)
 have aj:=ai.alloc (by simp) (.cells #[] 196)
 have af:=(zr (w.alloc (.cells #[l,z,x,y] 39)) (.cells #[] 196) (show w.heap.size<_ by simp)).trans ax
 have a0:=ae az;have aO:=ae af;have aP:=ae aj
 have ad:w.cell? ⟨fb,11,none⟩=some (.slice Y ts.length cap):=by rw[<-e]; exact M.cells.2.2.2.2.2.2.2.2.2.2.2
 have aI:=ae ad;clear M aB aA az ai aj ax af e ad;go_enter func172,ntmps172
 go_wp2
 go_loopw [4,5] (fun lv i wr=>∃k:Nat,k<=ts.length/\i=.int .i64 k/\ah aW 196 wr lv (bm (ts.take k) ⟨l,z,x,y⟩)/\Hid (∀g,lv.ownBlock=some g->w.heap.size<=g)/\wr.heap[w.heap.size]?=some (.cells #[l,z,x,y] 39)/\Below w.heap.size w wr) (fun _ i _=>ts.length-(intOf i).toNat)
 ·exact⟨0,by omega,rfl,by simpa[bm] using aa a0,ae (fun g A=>by simp[Value.ownBlock] at A; omega),aa aO,aa aP⟩
 obtain⟨k,bb,rfl,C,J,V,r⟩:=hrel;have a8:=r.size;have aw:=(r.cell (p:=⟨fb,11,none⟩) aJ).trans (aa aI)
 by_cases aU:k<ts.length
 ·have K:(k:Int)<ts.length:=by omega
  obtain⟨b,off,rfl,aT,am⟩:=aa aV (by omega)
  obtain⟨⟨⟨a,m,d,f⟩,s,v⟩,aC⟩:∃t,ts[k]?=some t:=⟨_,zQ aU⟩;have ap:=bL.tile am aC;have W:∀o,Below wr.heap.size wr o->o.rangeAt b (off+k*6) (tv (some ⟨⟨a,m,d,f⟩,s,v⟩)).toList:=fun o h j u a1=>((r.trans (h.mono r.size)).cell (p:=⟨b,off+k*6+j,none⟩) aT).trans (ap j u a1);have ak:=fun o h=>rng4 (W o h);have ay:∀o,Below wr.heap.size wr o->o.rangeAt w.heap.size 0 (#[l,z,x,y]:Array Value).toList:=fun o h=>ao (ag V h)
  have N:∀o,Below wr.heap.size wr o->o.cell? ⟨fb,11,none⟩=some (.slice (some ⟨b,off,none⟩) ts.length cap):=fun o h=>(h.cell (p:=⟨fb,11,none⟩) (by show fb<_; omega)).trans aw
  go_wp2_with fail
  refine aM (by kernel_rfl) (by kernel_rfl) ?_
  refine eI fb 10 ?_;refine bd fb 10 ?_;refine bd fb 11 ?_
  refine bH (.slice (some ⟨b,off,none⟩) ts.length cap) ?_ (h:=fun w' S=>by simp[go_sem,N w' S])
  refine bD (.int .i64 k) ?_
  refine bd b (off+k*6) ?_ (h:=fun w' S=>by simp[go_sem,K])
  refine bd b (off+k*6) ?_;refine vK b (off+k*6) ak ?_;refine vK w.heap.size 0 ay ?_
  refine bH (.bool (!decide ((⟨a,m,d,f⟩:K4)=⟨l,z,x,y⟩))) ?_ (h:=fun w' S=>by simp[go_sem,neq39])
  refine zq ?_;intro G D;have av:=ag V D;have aK:=W G D;have H:=C.on D;have a6:=N G D;have O:=r.trans (D.mono r.size);have aN:=O.size;have ac:=ae O;have I:=ae av;clear W ak ay N ap am r V av D C aw O;have L:=be aC
  by_cases E:(⟨a,m,d,f⟩:K4)=⟨l,z,x,y⟩
  ·have P:(!decide ((⟨a,m,d,f⟩:K4)=⟨l,z,x,y⟩))=false:=by simp[E]
   have U:=ae (show ah aW 196 G u4 (bm (ts.take (k+1)) ⟨l,z,x,y⟩) by rw[L,outT_app,outT_yes (t:=⟨⟨a,m,d,f⟩,s,v⟩) E,yW]; exact H)
   clear E H L;simp only[P]
   go_wp2
   go_roundw
   ·exact⟨k+1,by omega,by go_num,aa U,J,aa I,aa ac⟩
   simp[intOf]; omega
  have P:(!decide ((⟨a,m,d,f⟩:K4)=⟨l,z,x,y⟩))=true:=by simp[E]
  have al:=aZ aW 196 G ⟨⟨a,m,d,f⟩,s,v⟩ (tv (some ⟨⟨a,m,d,f⟩,s,v⟩)) rfl;have ab:ah aW 196 (G.alloc (.cells (tv (some ⟨⟨a,m,d,f⟩,s,v⟩)) 196)) u4 (bm (ts.take k) ⟨l,z,x,y⟩):=H.on (bu.alloc aD _)
  obtain⟨aG,a3,a2,aF,Z,F⟩:=mz ab al (by have:=eL (ts.take k) ⟨l,z,x,y⟩; simp at this ⊢; omega)
  have U:=ae (show ah aW 196 a3 aG (bm (ts.take (k+1)) ⟨l,z,x,y⟩) by rw[L,outT_app,outT_keep (t:=⟨⟨a,m,d,f⟩,s,v⟩) E]; exact aF)
  have aQ:=ae (((aa ac).alloc aN (.cells (tv (some ⟨⟨a,m,d,f⟩,s,v⟩)) 196)).grown Z (by simp; omega) (fun g A=>aa J g A))
  have aS:=ae ((Z.block w.heap.size (by have:=an (aa I); simp; omega) (fun q=>by have:=au H (aa I) (by decide) w.heap.size q.symm; exact this rfl)).trans ((zr G (.cells (tv (some ⟨⟨a,m,d,f⟩,s,v⟩)) 196) (an (aa I))).trans (aa I)))
  have aR:=ae (show ∀g,aG.ownBlock=some g->w.heap.size<=g from fun g A=>by
   rcases F with F|F
   ·exact aa J g (F▸A)
   have:=F g A; simp at this; omega)
  clear E H L al ab aF Z F;simp only[P]
  go_wp2_with (first|refine bU 196 (tv (some ⟨⟨a,m,d,f⟩,s,v⟩)) underlying196 rfl (d9 _) b (off+k*6) aK rfl _ rfl rfl ?_|refine cP _ _ (jt a m d f s v _ _ _ rfl rfl _) rfl ?_|(at_builtin; refine fS 123 a2 rfl _ _ rfl rfl rfl rfl ?_))
  go_roundw
  ·exact⟨k+1,by omega,by go_num,aa U,aa aR,aa aS,aa aQ⟩
  simp[intOf]; omega
 have K:k=ts.length:=by omega
 have Q:=ag (aa aX) r;have a7:=jU Q 11
 have ar:ts.take k=ts:=by rw[K,zx]
 rw[ar] at C
 have aY:Hid ((∃B,aq (wr.setCell ⟨fb,11,none⟩ u4) fb { X with tv:=B }/\ah aW 196 (wr.setCell ⟨fb,11,none⟩ u4) B (bm ts ⟨l,z,x,y⟩)/\∀g,B.ownBlock=some g->w.heap.size<=g)/\aE (fun k=>k=fb) w (wr.setCell ⟨fb,11,none⟩ u4)):=
  ⟨⟨u4,aq.set Q 11 u4 (FV.set_tv X u4),C.same (fun g A=>zW _ _ _ _ (by have:=aa J g A; show g≠fb; omega)),aa J⟩,(aE.of_below r).setCell u4 (fun _=>rfl)⟩
 have aH:∃Y n c,u4=.slice Y n c:=by
  rcases C with⟨rfl,_⟩|⟨g,off,c,a5,rfl,_⟩
  ·exact⟨_,_,_,rfl⟩
  exact⟨_,_,_,rfl⟩
 obtain⟨a9,bf,ba,rfl⟩:=aH;clear C r Q ar;subst K
 go_wp2_with fail
 exact yB (yY results172 _ _ _) rfl ⟨rfl,aa aY⟩
theorem bL.req {d:World}{b off:Nat}{ws:List dJ}{k:Nat}{c:dJ}(h:∀i a,ws[i]?=some a->d.rangeAt b (off+i*cW.wid) (cW.enc a))(e:ws[k]?=some c):d.rangeAt b (off+k*7) c.a.toList:=h k c e
theorem rngK {d:World}{b o:Nat}{c:dJ}(h:d.rangeAt b o c.a.toList):d.rangeAt b (o+1) #[Value.int .i64 c.k.l,.int .i64 c.k.z,.int .i64 c.k.x,.int .i64 c.k.y].toList:=by
 intro j v a;rw[yr];refine h (1+j) v ?_
 rcases j with _|_|_|_|j
 ·exact a
 ·exact a
 ·exact a
 ·exact a
 simp at a
theorem ng {ws:List dJ}{k:Nat}{r:dJ}(h:ws[k]?=some r)(b:K4):aC (ws.take (k+1)) b=aC (ws.take k) b+(if r.k.blk=b then 1 else 0):=by
 unfold aC;rw[be h,List.countP_append]
 congr 1
 by_cases e:r.k.blk=b
 ·simp[e]
 simp[e]
theorem countFor_le (ws:List dJ)(b:K4):aC ws b<=ws.length:=List.countP_le_length
theorem dA {w a:World}{b off:Nat}{cs:List Value}(h:w.rangeAt b off cs)(d:Below w.heap.size w a)(c:b<w.heap.size):a.rangeAt b off cs:=fun j v e=>(d.cell (p:=⟨b,off+j,none⟩) c).trans (h j v e)
def bP (k:K4):Prop:=(0<=k.x/\k.x<=4194304)/\(0<=k.y/\k.y<=4194304)
theorem fe (fb:Nat)(X:FV)(ws:List dJ)(l z x y:Int)(w:World)(D:aq w fb X)(ai:bL cW w X.wv ws)(S:∀ap∈ws,bP ap.k)(ax:ws.length<=100000000):
  Calls prog 111 #[some fb,.agg #[l,z,x,y]] w fun e w'=>e=.returned (.int .i64 (aC ws ⟨l,z,x,y⟩))/\Below w.heap.size w w':=by
 have V:=an D;obtain⟨aj,cap,e,ar,hm,R⟩:=ai;have af:=ae R;have ah:=ae S
 have M:w.cell? ⟨fb,7,none⟩=some (.slice aj ws.length cap):=by rw[<-e]; exact D.cells.2.2.2.2.2.2.2.1
 have Y:=ae M;have ad:=ae (zZ w (.cells #[l,z,x,y] 39));have W:=ae ((zV w.heap.size w).alloc aD (.cells #[l,z,x,y] 39));clear D R hm e S M;go_enter func111,ntmps111
 go_wp2
 go_loopw [5,6] (fun n i wr=>∃k:Nat,k<=ws.length/\i=.int .i64 k/\n=.int .i64 (aC (ws.take k) ⟨l,z,x,y⟩)/\wr.heap[w.heap.size]?=some (.cells #[l,z,x,y] 39)/\Below w.heap.size w wr) (fun _ i _=>ws.length-(intOf i).toNat)
 ·exact⟨0,by omega,rfl,by simp[aC],aa ad,aa W⟩
 obtain⟨k,aw,rfl,rfl,B,f⟩:=hrel;have au:=f.size;have ak:=(f.cell (p:=⟨fb,7,none⟩) V).trans (aa Y)
 by_cases ab:k<ws.length
 ·have u:(k:Int)<ws.length:=by omega
  obtain⟨b,off,rfl,Z,H⟩:=aa af (by omega)
  obtain⟨⟨av,⟨g,j,c,d⟩,ay,rd⟩,E⟩:∃t,ws[k]?=some t:=⟨_,zQ ab⟩;have ac:=aa ah _ (zR E);obtain⟨⟨T,al⟩,⟨U,am⟩⟩:=ac;dsimp only at T al U am;have J:=rngK (bL.req H E);have Q:∀a,Below wr.heap.size wr a->a.rangeAt b (off+k*7+1) (#[g,j,c,d]:Array Value).toList:=fun a h=>dA J (f.trans (h.mono f.size)) Z;have P:∀a,Below wr.heap.size wr a->a.rangeAt w.heap.size 0 (#[l,z,x,y]:Array Value).toList:=fun a h=>ao (ag B h)
  have O:∀a,Below wr.heap.size wr a->a.cell? ⟨fb,7,none⟩=some (.slice (some ⟨b,off,none⟩) ws.length cap):=fun a h=>(h.cell (p:=⟨fb,7,none⟩) (by show fb<_; omega)).trans ak
  have L:=fun a=>kL g j c d a ⟨T,by omega⟩ ⟨U,by omega⟩
  go_wp2_with fail
  refine aM (by kernel_rfl) (by kernel_rfl) ?_
  refine eI fb 0 ?_;refine bd fb 0 ?_;refine bd fb 7 ?_
  refine bH (.slice (some ⟨b,off,none⟩) ws.length cap) ?_ (h:=fun w' v=>by simp[go_sem,O w' v])
  refine bD (.int .i64 k) ?_
  refine bd b (off+k*7) ?_ (h:=fun w' v=>by simp[go_sem,u])
  refine bd b (off+k*7+1) ?_;refine vK b (off+k*7+1) Q ?_
  refine vC L ?_;refine vK w.heap.size 0 P ?_
  refine bH (.bool (decide ((⟨g,j,c-c%2,d-d%2⟩:K4)=⟨l,z,x,y⟩))) ?_ (h:=fun w' v=>by simp[go_sem,eql39])
  refine zq ?_;intro az A;have K:=ag B A;have r:=ng E ⟨l,z,x,y⟩;have I:=countFor_le (ws.take k) ⟨l,z,x,y⟩;rw[zD] at I;have F:=ae (f.trans (A.mono f.size));have G:=ae K;clear Q P O J H f B K A L
  by_cases m:(⟨g,j,c-c%2,d-d%2⟩:K4)=⟨l,z,x,y⟩
  ·have s:decide ((⟨g,j,c-c%2,d-d%2⟩:K4)=⟨l,z,x,y⟩)=true:=by simp[m]
   have o:aC (ws.take (k+1)) ⟨l,z,x,y⟩=aC (ws.take k) ⟨l,z,x,y⟩+1:=by rw[r,zJ (show(⟨g,j,c,d⟩:K4).blk=_ from m)]
   have q:=ae o;obtain⟨C,N⟩:∃C,aC (ws.take k) ⟨l,z,x,y⟩=C:=⟨_,rfl⟩;rw[N] at q I ⊢;clear m r o N;simp only[s]
   go_wp2
   go_roundw
   ·exact⟨k+1,by omega,by go_num,by rw[aa q]; go_num,aa G,aa F⟩
   simp[intOf]; omega
  have s:decide ((⟨g,j,c-c%2,d-d%2⟩:K4)=⟨l,z,x,y⟩)=false:=by simp[m]
  have o:aC (ws.take (k+1)) ⟨l,z,x,y⟩=aC (ws.take k) ⟨l,z,x,y⟩:=by rw[r,zK (show ¬(⟨g,j,c,d⟩:K4).blk=_ from m),yG]
  have q:=ae o;clear m r o;simp only[s]
  go_wp2
  go_roundw
  ·exact⟨k+1,by omega,by go_num,by rw[aa q],aa G,aa F⟩
  simp[intOf]; omega
 have u:k=ws.length:=by omega
 subst u
 go_wp2
 go_ret
 exact⟨aB (by rw[zx]),f⟩
structure Wk where
 g:Nat
 f:Fl
 rv:Value
 R:List Ft
def Wk.a (u:Wk):Array Value:=#[u.f.b.l,u.f.b.z,u.f.b.x,u.f.b.y,u.f.reads,u.f.left,u.rv]
structure f8 (w:World)(kv:Value)(W:List (Option Wk)):Prop where
 kv:bL fK w kv (W.map (Option.map Wk.g))
 at_:∀(i:Nat) (u:Wk),W[i]?=some (some u)->w.heap[u.g]?=some (.cells u.a 170)
theorem f8.on {w w':World}{b:Value}{c:List (Option Wk)}(h:f8 w b c)(a:Below w.heap.size w w'):f8 w' b c:=⟨h.kv.on a,fun i u d=>ag (h.at_ i u d) a⟩
def hasW (W:List (Option Wk))(b:K4):Bool:=W.any fun o=>match o with
 | some u=>decide (u.f.b=b)
 | none=>false
theorem any_no {α:Type}{p:α->Bool}{l:List α}(h:∀i a,i<l.length->l[i]?=some a->p a=false):l.any p=false:=by
 rw[List.any_eq_false];intro a b;obtain⟨i,hi⟩:=zB.1 b;rw[h i a (zX.1 hi).1 hi];simp
theorem any_yes {α:Type}{p:α->Bool}{l:List α}{i:Nat}{a:α}(h:l[i]?=some a)(b:p a=true):l.any p=true:=List.any_eq_true.2 ⟨a,zR h,b⟩
theorem bL.key {d:World}{b off:Nat}{ws:List K4}{k:Nat}{c:K4}(h:∀i a,ws[i]?=some a->d.rangeAt b (off+i*bT.wid) (bT.enc a))(e:ws[k]?=some c):d.rangeAt b (off+k*4) c.a.toList:=h k c e
theorem rng4u {b:World}{g:Nat}{u:Wk}(h:b.heap[u.g]?=some (.cells u.a 170))(e:g=u.g):b.rangeAt g 0 #[Value.int .i64 u.f.b.l,.int .i64 u.f.b.z,.int .i64 u.f.b.x,.int .i64 u.f.b.y].toList:=by
 subst e;intro j v a;rw[af h,zb]
 rcases j with _|_|_|_|j
 ·simpa[Wk.a] using a
 ·simpa[Wk.a] using a
 ·simpa[Wk.a] using a
 ·simpa[Wk.a] using a
 simp at a
theorem m8 (fb:Nat)(X:FV)(g:List K4)(c:List (Option Wk))(l z x y:Int)(w:World)(N:aq w fb X)(aJ:bL bT w X.lv g)(hw:f8 w X.kv c)(aQ:g.length<=100000000)(aO:c.length<=100):
  Calls prog 133 #[some fb,.agg #[l,z,x,y]] w fun e w'=>e=.returned (.bool (g.any (fun k=>decide (k=⟨l,z,x,y⟩)) || hasW c ⟨l,z,x,y⟩))/\Below w.heap.size w w':=by
 have W:=an N;obtain⟨aK,cap,e,aN,hm,aj⟩:=aJ;obtain⟨⟨ob,ar,V,ap,aB,Q⟩,ak⟩:=hw;rw[zY] at V ap aB Q;have aG:=ae aj;have ay:=ae Q;have aH:=ae ak
 have ad:w.cell? ⟨fb,8,none⟩=some (.slice aK g.length cap):=by rw[<-e]; exact N.cells.2.2.2.2.2.2.2.2.1
 have af:w.cell? ⟨fb,9,none⟩=some (.slice ob c.length ar):=by rw[<-V]; exact N.cells.2.2.2.2.2.2.2.2.2.1
 have aw:=ae ad;have ax:=ae af;have aF:=ae (zZ w (.cells #[l,z,x,y] 39));have au:=ae ((zV w.heap.size w).alloc aD (.cells #[l,z,x,y] 39));clear N aj hm e V Q ak ad af;go_enter func133,ntmps133
 go_wp2
 go_loopw [5] (fun i wr=>∃k:Nat,k<=g.length/\i=.int .i64 k/\Hid (∀i a,i<k->g[i]?=some a->decide (a=(⟨l,z,x,y⟩:K4))=false)/\wr.heap[w.heap.size]?=some (.cells #[l,z,x,y] 39)/\Below w.heap.size w wr) (fun i _=>g.length-(intOf i).toNat)
 ·exact⟨0,by omega,rfl,ae (fun i a hi=>absurd hi (by omega)),aa aF,aa au⟩
 obtain⟨k,aI,rfl,G,v,d⟩:=hrel;have aE:=d.size;have aL:=(d.cell (p:=⟨fb,8,none⟩) W).trans (aa aw)
 by_cases R:k<g.length
 ·have C:(k:Int)<g.length:=by omega
  obtain⟨b,off,rfl,P,F⟩:=aa aG (by omega)
  obtain⟨⟨n,s,q,r⟩,B⟩:∃t,g[k]?=some t:=⟨_,zQ R⟩;have Y:=bL.key F B;have J:∀c,Below wr.heap.size wr c->c.rangeAt b (off+k*4) (#[n,s,q,r]:Array Value).toList:=fun c h=>dA Y (d.trans (h.mono d.size)) P;have H:∀c,Below wr.heap.size wr c->c.rangeAt w.heap.size 0 (#[l,z,x,y]:Array Value).toList:=fun c h=>ao (ag v h)
  have ah:∀c,Below wr.heap.size wr c->c.cell? ⟨fb,8,none⟩=some (.slice (some ⟨b,off,none⟩) g.length cap):=fun c h=>(h.cell (p:=⟨fb,8,none⟩) (by show fb<_; omega)).trans aL
  go_wp2_with fail
  refine aM (by kernel_rfl) (by kernel_rfl) ?_
  refine eI fb 0 ?_;refine bd fb 0 ?_;refine bd fb 8 ?_
  refine bH (.slice (some ⟨b,off,none⟩) g.length cap) ?_ (h:=fun w' L=>by simp[go_sem,ah w' L])
  refine bD (.int .i64 k) ?_
  refine bd b (off+k*4) ?_ (h:=fun w' L=>by simp[go_sem,C])
  refine vK b (off+k*4) J ?_;refine vK w.heap.size 0 H ?_
  refine bH (.bool (decide ((⟨n,s,q,r⟩:K4)=⟨l,z,x,y⟩))) ?_ (h:=fun w' L=>by simp[go_sem,eql39])
  refine zq ?_;intro al m;have D:=ag v m;have E:=ae (d.trans (m.mono d.size));have I:=ae D;clear J H ah Y F d v D m
  by_cases A:(⟨n,s,q,r⟩:K4)=⟨l,z,x,y⟩
  ·have j:decide ((⟨n,s,q,r⟩:K4)=⟨l,z,x,y⟩)=true:=by simp[A]
   have U:=ae (any_yes (p:=fun k=>decide (k=(⟨l,z,x,y⟩:K4))) B j);clear A;simp only[j]
   go_wp2
   go_ret
   exact⟨ai (by rw[aa U]; rfl),aa E⟩
  have j:decide ((⟨n,s,q,r⟩:K4)=⟨l,z,x,y⟩)=false:=by simp[A]
  clear A;have T:=ae j;simp only[j]
  go_wp2
  go_roundw
  ·exact⟨k+1,by omega,by go_num,ae (fun i a hi f=>by
   by_cases e:i=k
   ·subst e; rw[B] at f; simp only[zy] at f; subst f; exact aa T
   exact aa G i a (by omega) f),aa I,aa E⟩
  simp[intOf]; omega
 have C:k=g.length:=by omega
 have ac:=ae (any_no (p:=fun k=>decide (k=(⟨l,z,x,y⟩:K4))) (by rw[<-C]; exact aa G))
 have av:=ae d;have az:=ae v;subst C;clear d v
 go_wp2
 go_loopw [6,7] (fun i _ am=>∃k:Nat,k<=c.length/\i=.int .i64 k/\Hid (∀i a,i<k->c[i]?=some a->(match a with|some u=>decide (u.f.b=(⟨l,z,x,y⟩:K4))|none=>false)=false)/\am.heap[w.heap.size]?=some (.cells #[l,z,x,y] 39)/\Below w.heap.size w am) (fun i _ _=>c.length-(intOf i).toNat)
 ·exact⟨0,by omega,rfl,ae (fun i a hi=>absurd hi (by omega)),aa az,aa av⟩
 obtain⟨k,aI,rfl,G,v,d⟩:=hrel;have aE:=d.size;have aR:=(d.cell (p:=⟨fb,9,none⟩) W).trans (aa ax)
 by_cases R:k<c.length
 ·have C:(k:Int)<c.length:=by omega
  obtain⟨b,off,rfl,P,F⟩:=aa ay (by omega)
  obtain⟨o,B⟩:∃t,c[k]?=some t:=⟨_,zQ R⟩
  have S:w.cell? ⟨b,off+k,none⟩=some (ptr (o.map Wk.g)):=by
   have:=F k (o.map Wk.g) (by rw[zg,B]; rfl) 0 _ rfl
   rwa [show off+k*fK.wid+0=off+k by simp[fK]] at this
  have O:=(d.cell (p:=⟨b,off+k,none⟩) P).trans S;have H:∀c,Below wr.heap.size wr c->c.rangeAt w.heap.size 0 (#[l,z,x,y]:Array Value).toList:=fun c h=>ao (ag v h);have M:=ae d;have ab:=ae v
  cases o with
  | none=>
   have aC:wr.cell? ⟨b,off+k,none⟩=some (.pointer none):=O;clear O F S d
   go_wp2_with fail
   refine aM (by kernel_rfl) (by kernel_rfl) ?_
   refine bD (.pointer none) ?_;refine bH (.bool false) ?_;refine bD (.bool false) ?_;refine kn rfl ?_;simp only[qZ];refine kn rfl ?_;simp only[qZ];refine kn rfl ?_;simp only[qZ];refine kn rfl ?_;simp only[qZ];refine kn rfl ?_;simp only[qZ];refine kn rfl ?_;simp only[qZ];refine bH (.bool false) ?_;refine zq ?_;intro al m;have D:=ag (aa ab) m;have E:=ae ((aa M).trans (m.mono (aa M).size));have I:=ae D;clear D m H v
   go_wp2
   go_roundw
   ·exact⟨k+1,by omega,by go_num,ae (fun i a hi f=>by
    by_cases e:i=k
    ·subst e; rw[B] at f; simp only[zy] at f; subst f; rfl
    exact aa G i a (by omega) f),aa I,aa E⟩
   simp[intOf]; omega
  | some u=>
   have aC:wr.cell? ⟨b,off+k,none⟩=some (.pointer (some ⟨u.g,0,none⟩)):=O;have Z:=ag (aa aH k u B) d;have J:∀c,Below wr.heap.size wr c->c.rangeAt u.g 0 #[Value.int .i64 u.f.b.l,.int .i64 u.f.b.z,.int .i64 u.f.b.x,.int .i64 u.f.b.y].toList:=fun c h=>rng4u (ag Z h) rfl;obtain⟨K,⟨⟨n,s,q,r⟩,aV,aT,aU⟩,aP,aS⟩:=u;clear O F S d Z
   go_wp2_with fail
   refine aM (by kernel_rfl) (by kernel_rfl) ?_
   refine eI K 0 ?_;refine bH (.bool true) ?_;refine bD (.bool true) ?_;refine eI K 0 ?_;refine bd K 0 ?_;refine bd K 0 ?_;refine vK K 0 J ?_;refine vK w.heap.size 0 H ?_
   refine bH (.bool (decide ((⟨n,s,q,r⟩:K4)=⟨l,z,x,y⟩))) ?_ (h:=fun w' L=>by simp[go_sem,eql39])
   refine bH (.bool (decide ((⟨n,s,q,r⟩:K4)=⟨l,z,x,y⟩))) ?_;refine zq ?_;intro al m;have D:=ag (aa ab) m;have E:=ae ((aa M).trans (m.mono (aa M).size));have I:=ae D;clear D m H v J
   by_cases A:(⟨n,s,q,r⟩:K4)=⟨l,z,x,y⟩
   ·have j:decide ((⟨n,s,q,r⟩:K4)=⟨l,z,x,y⟩)=true:=by simp[A]
    have U:=ae (any_yes (p:=fun o:Option Wk=>match o with|some u=>decide (u.f.b=(⟨l,z,x,y⟩:K4))|none=>false) B j)
    clear A;simp only[j]
    go_wp2
    go_ret
    exact⟨ai (by rw[aa ac]; unfold hasW; rw[aa U]; rfl),aa E⟩
   have j:decide ((⟨n,s,q,r⟩:K4)=⟨l,z,x,y⟩)=false:=by simp[A]
   clear A;have T:=ae j;simp only[j]
   go_wp2
   go_roundw
   ·exact⟨k+1,by omega,by go_num,ae (fun i a hi f=>by
    by_cases e:i=k
    ·subst e; rw[B] at f; simp only[zy] at f; subst f; exact aa T
    exact aa G i a (by omega) f),aa I,aa E⟩
   simp[intOf]; omega
 have C:k=c.length:=by omega
 have aA:=ae (any_no (p:=fun o:Option Wk=>match o with|some u=>decide (u.f.b=(⟨l,z,x,y⟩:K4))|none=>false) (by rw[<-C]; exact aa G))
 subst C
 go_wp2
 go_ret
 exact⟨ai (by rw[aa ac]; unfold hasW; rw[aa aA]; rfl),d⟩
theorem dy.err {k:K4}(h:dy k):keyErr k.l k.z k.x k.y=0:=by
 have a:=h.l;have b:=h.z;have c:=h.x;have d:=h.y;unfold keyErr
 rw[zK (by omega),zK (by omega),zK (by omega)]
theorem dD.sto {w:World}{b:Nat}{a ver:Int}{sl pv:Value}{LS c:List (Nat->Int)}(h:dD w b a ver sl pv LS c):Sto w b a ver sl pv LS:=⟨h.blk,h.own⟩
def eA (v:Int)(k:K4)(LS:List Ft):Int:=eW v k.l k.z k.x k.y LS LS.length
theorem eU (fb:Nat)(X:FV)(ver:Int)(sl pv:Value)(LS i:List Ft)(l z x y reads:Int)(w:World)(f:aq w fb X)(r:dD w X.sb 0 ver sl pv LS i)(A:LS.length<=1000)(q:dy ⟨l,z,x,y⟩)(B:0<=ver):
  Calls prog 148 #[some fb,.agg #[l,z,x,y],reads] w fun e w'=>e=.returned (.bool (decide (eA ver ⟨l,z,x,y⟩ LS<=reads)))/\Below w.heap.size w w':=by
 have s:=an f;have o:=q.err;have b:=(zV w.heap.size w).alloc aD (.cells #[l,z,x,y] 39);have k:=zZ w (.cells #[l,z,x,y] 39)
 have C:(w.alloc (.cells #[l,z,x,y] 39)).heap.size=w.heap.size+1:=by simp
 have j:=(b.cell (p:=⟨fb,6,none⟩) s).trans f.cells.2.2.2.2.2.2.1;have c:=r.on b;have V:=dQ X.sb 0 ver sl pv LS i _ c
 have m:∀a,Below (w.alloc (.cells #[l,z,x,y] 39)).heap.size (w.alloc (.cells #[l,z,x,y] 39)) a->a.cell? ⟨fb,6,none⟩=some (.pointer (some ⟨X.sb,0,none⟩)):=fun a h=>(h.cell (p:=⟨fb,6,none⟩) (by show fb<_; omega)).trans j
 have n:∀a,Below (w.alloc (.cells #[l,z,x,y] 39)).heap.size (w.alloc (.cells #[l,z,x,y] 39)) a->a.rangeAt w.heap.size 0 (#[l,z,x,y]:Array Value).toList:=fun a h=>ao (ag k h);have d:∀a,Below (w.alloc (.cells #[l,z,x,y] 39)).heap.size (w.alloc (.cells #[l,z,x,y] 39)) a->Calls prog 38 #[some X.sb,ver,.agg #[l,z,x,y]] a fun e w'=>e=.returned (.tuple #[.int .i64 (eW ver l z x y LS LS.length),()])/\Below a.heap.size a w':=fun a h=>nZ X.sb 0 ver sl pv LS ver l z x y a (c.on h).sto A o ⟨B,yw _⟩;have t:=ae b;unfold eA;clear f r c b o q;generalize eW ver l z x y LS LS.length=S at d ⊢;go_enter func148,ntmps148
 go_wp2_with fail
 refine V.mono ?_;rintro e E ⟨rfl,rfl⟩
 go_wp2_with fail
 refine aM (by kernel_rfl) (by kernel_rfl) ?_
 refine eI fb 0 ?_;refine bd fb 0 ?_;refine bd fb 6 ?_
 refine bd X.sb 0 ?_ (h:=fun w' v=>by simp[go_sem,m w' v])
 refine bD (.int .i64 ver) ?_;refine vK w.heap.size 0 n ?_
 refine eB rfl 38 (#[.pointer (some ⟨X.sb,0,none⟩),ver,.agg #[l,z,x,y]]) (fun _=>by simp[go_sem]) (.tuple #[S,()]) (d) ?_
 simp only[qZ];refine bD (.tuple #[S,()]) ?_;refine bH (.int .i64 S) ?_;refine bH (.int .i64 0) ?_;refine vA (.int .i64 S) ?_;refine vA (.int .i64 0) ?_;refine zq ?_;intro D g
 have u:=ae ((aa t).trans (g.mono (by simp)))
 clear g m n d V k j
 go_wp2
 go_ret;exact⟨rfl,aa u⟩
theorem pb (fb:Nat)(X:FV)(ver:Int)(sl pv:Value)(LS g:List Ft)(n l z x y a k reads:Int)(w:World)(h:aq w fb X)(j:dD w X.sb 0 ver sl pv LS g)(o:LS.length<=1000)(i:dy ⟨l,z,x,y⟩)(p:0<=ver):
  Calls prog 176 #[some fb,.agg #[n,l,z,x,y,a,k],reads] w fun e w'=>e=.returned (.bool (decide (a<=reads) || decide (eA ver ⟨l,z,x,y⟩ LS<=reads)))/\Below w.heap.size w w':=by
 have b:=(zV w.heap.size w).alloc aD (.cells #[n,l,z,x,y,a,k] 201);have q:=eU fb X ver sl pv LS g l z x y reads _ (ag h b) (j.on b) o i p;have d:=ae b;clear h j b i
 by_cases c:a<=reads
 ·go_enter func176,ntmps176
  go_wp2
  go_ret
  exact⟨ai (by simp[c]),aa d⟩
 go_enter func176,ntmps176
 go_wp2_with fail
 refine q.mono ?_;rintro e r ⟨rfl,f⟩
 have m:=ae ((aa d).trans (f.mono (by simp)))
 clear f
 go_wp2
 go_ret
 exact⟨ai (by rw[zG (show ¬a<=reads by omega)]; rfl),aa m⟩
theorem dN {α:Type}{l:List α}{k:Nat}{a:α}(p:α->Bool)(h:l[k]?=some a):(l.take (k+1)).filter p=(l.take k).filter p++(if p a=true then [a] else []):=by
 rw[be h,yI]
 by_cases c:p a=true
 ·rw[zJ c]; simp[c]
 rw[zK c]; simp[c]
theorem ah.sl {α:Type}{R:dR α}{T:TypeId}{w:World}{v:Value}{l:List α}(h:ah R T w v l):∃a n c,v=.slice a n c:=by
 rcases h with⟨rfl,_⟩|⟨g,off,c,b,rfl,_⟩
 ·exact⟨_,_,_,rfl⟩
 exact⟨_,_,_,rfl⟩
theorem kR (fb:Nat)(X:FV)(a:List K4)(ws:List dJ)(w:World)(x:aq w fb X)(ad:bL cW w X.wv ws)(Z:ah bT 39 w X.lv a)(ab:∀aJ∈ws,bP aJ.k)(aA:ws.length<=100000000)(aM:a.length<=10000000):
  Calls prog 97 #[some fb] w fun e w'=>e=.returned (.tuple #[])/\(∃n,aq w' fb { X with lv:=n }/\ah bT 39 w' n (a.filter fun b=>decide (0<aC ws b))/\∀g,n.ownBlock=some g->w.heap.size<=g)/\aE (fun k=>k=fb) w w':=by
 have H:=an x;obtain⟨aB,cap,e,aK,hm,Y⟩:=Z.at;have au:=ae Y;have U:=ae x;have az:=ae ad;have ay:=ae ab;unfold maxLen at hm
 have W:=cr (R:=bT) (T:=39) w [] #[] rfl (by simp)
 have K:=(zV w.heap.size w).alloc aD (.cells #[] 39);have aw:=ae W;have ak:=ae K
 have V:w.cell? ⟨fb,8,none⟩=some (.slice aB a.length cap):=by rw[<-e]; exact x.cells.2.2.2.2.2.2.2.2.1
 have J:=ae V;clear x Z Y W K e V ad ab;go_enter func97,ntmps97
 go_wp2
 go_loopw [2,3] (fun lv i wr=>∃k:Nat,k<=a.length/\i=.int .i64 k/\ah bT 39 wr lv ((a.take k).filter fun b=>decide (0<aC ws b))/\Hid (∀g,lv.ownBlock=some g->w.heap.size<=g)/\Below w.heap.size w wr) (fun _ i _=>a.length-(intOf i).toNat)
 ·exact⟨0,by omega,rfl,by simpa using aa aw,ae (fun g d=>by simp[Value.ownBlock] at d; omega),aa ak⟩
 obtain⟨k,aQ,rfl,o,u,c⟩:=hrel;have aN:=c.size;have aG:=(c.cell (p:=⟨fb,8,none⟩) H).trans (aa J)
 by_cases ap:k<a.length
 ·have E:(k:Int)<a.length:=by omega
  obtain⟨b,off,rfl,M,N⟩:=aa au (by omega)
  obtain⟨⟨f,l,h,j⟩,ac⟩:∃t,a[k]?=some t:=⟨_,zQ ap⟩;have z:w.rangeAt b (off+k*4) (#[f,l,h,j]:Array Value).toList:=bL.key N ac;have O:=dA z c M;have Q:=fe fb X ws f l h j wr (ag (aa U) c) ((aa az).on c) (aa ay) aA;have S:=ae c;have ao:=ae z;have ax:=ae o;clear c N z o
  go_wp2_with (refine vM O rfl _ rfl rfl ?_)
  refine Q.mono ?_;rintro e aI ⟨rfl,B⟩;have s:=(aa S).trans (B.mono (aa S).size);have ai:=dA (aa ao) s M;have aS:=(s.cell (p:=⟨fb,8,none⟩) H).trans (aa J);have r:=(aa ax).on B;have aj:=s.size;have I:=ae s;have m:=dN (fun b=>decide (0<aC ws b)) ac;obtain⟨C,v⟩:∃C,aC ws ⟨f,l,h,j⟩=C:=⟨_,rfl⟩;rw[v] at m;rw[v];clear Q B s O aG
  by_cases y:0<C
  ·have ar:(0:Int)<C:=by omega
   rw[zJ (by simpa using y)] at m
   have L:=aZ bT 39 aI ⟨f,l,h,j⟩ #[f,l,h,j] rfl;have G:=r.on (bu.alloc aD (.cells #[f,l,h,j] 39))
   obtain⟨aH,aT,aF,F,af,q⟩:=apKey G L (by have:=ze (fun b=>decide (0<aC ws b)) (a.take k); simp at this ⊢; omega)
   rw[<-m] at F;have A:=ae F
   have al:=ae (((aa I).alloc aj (.cells #[f,l,h,j] 39)).grown af (by simp; omega) (fun g d=>aa u g d))
   have am:=ae (show ∀g,aH.ownBlock=some g->w.heap.size<=g from fun g d=>by
    rcases q with q|q
    ·exact aa u g (q▸d)
    have:=q g d; simp at this; omega)
   clear r L G F af q m y v
   go_wp2_with (first|refine vM ai rfl _ rfl rfl ?_|refine cP _ _ (mt f l h j _ _ _ rfl rfl _) rfl ?_|(at_builtin; refine fS 127 aF rfl _ _ rfl rfl rfl rfl ?_))
   go_roundw
   ·exact⟨k+1,by omega,by go_num,aa A,aa am,aa al⟩
   simp[intOf]; omega
  have ar:¬(0:Int)<C:=by omega
  rw[zK (by simpa using y),yW] at m
  rw[<-m] at r;have A:=ae r;clear r m y v
  go_wp2
  go_roundw
  ·exact⟨k+1,by omega,by go_num,aa A,u,aa I⟩
  simp[intOf]; omega
 have E:k=a.length:=by omega
 have D:=ag (aa U) c;have aL:=jU D 8
 have P:a.take k=a:=by rw[E,zx]
 rw[P] at o
 have av:Hid ((∃n,aq (wr.setCell ⟨fb,8,none⟩ u2) fb { X with lv:=n }/\ah bT 39 (wr.setCell ⟨fb,8,none⟩ u2) n (a.filter fun b=>decide (0<aC ws b))/\∀g,n.ownBlock=some g->w.heap.size<=g)/\aE (fun k=>k=fb) w (wr.setCell ⟨fb,8,none⟩ u2)):=
  ⟨⟨u2,aq.set D 8 u2 (FV.set_lv X u2),o.same (fun g d=>zW _ _ _ _ (by have:=aa u g d; show g≠fb; omega)),aa u⟩,(aE.of_below c).setCell u2 (fun _=>rfl)⟩
 obtain⟨aO,aR,aP,rfl⟩:=o.sl;clear o c D P;subst E
 go_wp2_with fail
 exact yB (yY results97 _ _ _) rfl ⟨rfl,aa av⟩
theorem ns (n l z x y a d:Int):(prog.info? 201).map (·.size)=some (#[Value.int .i64 n,Value.int .i64 l,Value.int .i64 z,Value.int .i64 x,Value.int .i64 y,Value.int .i64 a,Value.int .i64 d]:Array Value).size:=by kernel_rfl
def iU (ws:List dJ)(now:Int):List gD:=(ws.filter fun r=>decide (r.due<=now)).map fun r=>⟨r.who,504,⟨#[]⟩,⟨#[]⟩⟩
def gY (ws:List dJ)(now:Int):List dJ:=ws.filter fun r=>decide (¬r.due<=now)
theorem lateR_snoc {ws:List dJ}{k:Nat}{r:dJ}(now:Int)(h:ws[k]?=some r):iU (ws.take (k+1)) now=iU (ws.take k) now++(if r.due<=now then [⟨r.who,504,⟨#[]⟩,⟨#[]⟩⟩] else []):=by
 unfold iU;rw[dN _ h,yV]
 congr 1
 by_cases c:r.due<=now<;>simp[c]
theorem lateL_snoc {ws:List dJ}{k:Nat}{r:dJ}(now:Int)(h:ws[k]?=some r):gY (ws.take (k+1)) now=gY (ws.take k) now++(if r.due<=now then [] else [r]):=by
 unfold gY;rw[dN _ h]
 congr 1
 by_cases c:r.due<=now<;>simp[c]
theorem lateR_len (ws:List dJ)(now:Int):(iU ws now).length<=ws.length:=by unfold iU; rw[zY]; exact ze _ _
theorem nJ (ws:List dJ)(now:Int):(gY ws now).length<=ws.length:=ze _ _
theorem bN {v b:Value}{B n:Nat}(d:∀g,v.ownBlock=some g->B<=g)(a:b.ownBlock=v.ownBlock\/∀g,b.ownBlock=some g->n<=g)(e:B<=n):∀g,b.ownBlock=some g->B<=g:=fun g c=>by
 rcases a with a|a
 ·exact d g (a▸c)
 have:=a g c; omega
theorem mA (fb:Nat)(X:FV)(ws:List dJ)(w:World)(I:aq w fb X)(aI:ah cW 201 w X.wv ws)(bc:ws.length<=10000000):
  Calls prog 96 #[some fb] w fun e w'=>(∃rv,e=.returned rv/\ah bE 103 w' rv (iU ws X.nw)/\∀g,rv.ownBlock=some g->w.heap.size<=g)/\(∃x,aq w' fb { X with wv:=x }/\ah cW 201 w' x (gY ws X.nw)/\∀g,x.ownBlock=some g->w.heap.size<=g)/\aE (fun k=>k=fb) w w':=by
 have ap:=an I;obtain⟨a1,cap,e,a4,hm,aH⟩:=aI.at;have aU:=ae aH;have aV:=ae I;unfold maxLen at hm
 have a7:(w.alloc (.cells #[] 103)).heap.size=w.heap.size+1:=by simp
 have aw:=(zV w.heap.size w).alloc aD (.cells #[] 103)
 have ax:=aw.alloc (by simp) (.cells #[] 201)
 have aG:=(cr (R:=bE) (T:=103) w [] #[] rfl (by simp)).on (bu.alloc aD (.cells #[] 201))
 have aF:=cr (R:=cW) (T:=201) (w.alloc (.cells #[] 103)) [] #[] rfl (by simp)
 have aY:=ae aG;have aX:=ae aF;have aN:=ae ax;obtain⟨nw,E⟩:∃nw,X.nw=nw:=⟨_,rfl⟩
 have aC:w.cell? ⟨fb,7,none⟩=some (.slice a1 ws.length cap):=by rw[<-e]; exact I.cells.2.2.2.2.2.2.2.1
 have ad:w.cell? ⟨fb,3,none⟩=some (.int .i64 nw):=by rw[<-E]; exact I.cells.2.2.2.1
 have aP:=ae aC;have aO:=ae ad;rw[E];have aQ:=ae E;clear I aI aH aG aF aw ax e aC ad E;go_enter func96,ntmps96
 go_wp2
 go_loopw [3,4,5,6] (fun rv lv i _ wr=>∃k:Nat,k<=ws.length/\i=.int .i64 k/\ah bE 103 wr rv (iU (ws.take k) nw)/\ah cW 201 wr lv (gY (ws.take k) nw)/\Hid (∀g,rv.ownBlock=some g->w.heap.size<=g)/\Hid (∀g,lv.ownBlock=some g->w.heap.size<=g)/\Below w.heap.size w wr) (fun _ _ i _ _=>ws.length-(intOf i).toNat)
 ·exact⟨0,by omega,rfl,by simpa[iU] using aa aY,by simpa[gY] using aa aX,ae (fun g c=>by simp[Value.ownBlock] at c; omega),ae (fun g c=>by simp[Value.ownBlock] at c; omega),aa aN⟩
 obtain⟨k,bb,rfl,D,C,H,F,o⟩:=hrel;have aT:=o.size;have a2:=(o.cell (p:=⟨fb,7,none⟩) ap).trans (aa aP)
 by_cases aS:k<ws.length
 ·have Z:(k:Int)<ws.length:=by omega
  obtain⟨b,off,rfl,aR,W⟩:=aa aU (by omega)
  obtain⟨⟨a,⟨f,m,j,l⟩,d,rd⟩,ak⟩:∃t,ws[k]?=some t:=⟨_,zQ aS⟩;have aA:wr.rangeAt b (off+k*7) (#[a,f,m,j,l,d,rd]:Array Value).toList:=dA (bL.req W ak) o aR;have aj:=zZ wr (.cells #[a,f,m,j,l,d,rd] 201);have n:=(zV wr.heap.size wr).alloc aD (.cells #[a,f,m,j,l,d,rd] 201)
  have az:∀B,Below (wr.alloc (.cells #[a,f,m,j,l,d,rd] 201)).heap.size (wr.alloc (.cells #[a,f,m,j,l,d,rd] 201)) B->B.cell? ⟨fb,3,none⟩=some (.int .i64 nw):=fun B h=>((o.trans ((n.trans (h.mono (by simp))).mono o.size)).cell (p:=⟨fb,3,none⟩) ap).trans (aa aO)
  have ay:∀B,Below (wr.alloc (.cells #[a,f,m,j,l,d,rd] 201)).heap.size (wr.alloc (.cells #[a,f,m,j,l,d,rd] 201)) B->B.cell? ⟨wr.heap.size,6,none⟩=some (.int .i64 rd):=fun B h=>(af (ag aj h) 6).trans rfl;clear W
  go_wp2_with (refine bU 201 _ underlying201 rfl (ns _ _ _ _ _ _ _) _ _ aA rfl _ rfl rfl ?_)
  refine aM (by kernel_rfl) (by kernel_rfl) ?_
  refine bd wr.heap.size 6 ?_
  refine bH (.int .i64 rd) ?_ (h:=fun w' ab=>by simp[go_sem,ay w' ab])
  refine eI fb 0 ?_;refine bd fb 0 ?_;refine bd fb 3 ?_
  refine bH (.int .i64 nw) ?_ (h:=fun w' ab=>by simp[go_sem,az w' ab])
  refine bH (.bool (decide (rd<=nw))) ?_;refine zq ?_;intro A ac;have M:=ag aj ac
  have N:=n.trans (ac.mono (by simp))
  have L:=D.on N;have K:=C.on N;have V:=o.trans (N.mono o.size);have ar:=V.size;have v:=lateR_snoc nw ak;have u:=lateL_snoc nw ak;have aJ:=lateR_len (ws.take k) nw;have aK:=nJ (ws.take k) nw;rw[zD] at aJ aK;have av:=ae V;have a5:w.heap.size<=wr.heap.size:=aT;clear az ay aj n ac N o V D C aA a2;dsimp only at v u
  by_cases O:rd<=nw
  ·rw[zJ O] at v
   rw[zJ O,yW] at u;have G:=aZ bE 103 A ⟨a,504,⟨#[]⟩,⟨#[]⟩⟩ #[a,(504:Int),.string ⟨#[]⟩,.string ⟨#[]⟩] rfl;have n:=(zV A.heap.size A).alloc aD (.cells #[a,(504:Int),.string ⟨#[]⟩,.string ⟨#[]⟩] 103);have s:=L.on n;have r:=K.on n
   obtain⟨a3,am,al,y,z,J⟩:=apRep s G (by simp; omega)
   rw[<-v] at y;rw[<-u] at r;have W:=(af M 0).trans (show _=some (Value.int .i64 a) from rfl);have U:=ae y
   have S:=ae (r.same (w':=am) fun g c=>z.block g (r.lt c) (fun q=>by
    obtain⟨a0,ai⟩:=s.ty q.symm
    exact au r ai (by decide) g c rfl))
   have P:=ae (((aa av).alloc ar (.cells #[a,(504:Int),.string ⟨#[]⟩,.string ⟨#[]⟩] 103)).grown z (by simp; omega) (fun g c=>aa H g c))
   have Q:=ae (bN (aa H) J (by simp; omega))
   clear L K G s r y z J v u n M
   go_wp2_with (first|refine cP _ _ (gz a 504 ⟨#[]⟩ ⟨#[]⟩ _ _ _ rfl rfl _) rfl ?_|(at_builtin; refine fS 89 al rfl _ _ rfl rfl rfl rfl ?_))
   go_roundw
   ·exact⟨k+1,by omega,by go_num,aa U,aa S,aa Q,F,aa P⟩
   simp[intOf]; omega
  rw[zK O,yW] at v;rw[zK O] at u;have G:=aZ cW 201 A ⟨a,⟨f,m,j,l⟩,d,rd⟩ #[a,f,m,j,l,d,rd] rfl;have n:=(zV A.heap.size A).alloc aD (.cells #[a,f,m,j,l,d,rd] 201);have s:=L.on n;have r:=K.on n
  obtain⟨a3,am,al,y,z,J⟩:=apReq r G (by simp; omega)
  rw[<-u] at y;rw[<-v] at s;have S:=ae y
  have U:=ae (s.same (w':=am) fun g c=>z.block g (s.lt c) (fun q=>by
   obtain⟨a0,ai⟩:=r.ty q.symm
   exact au s ai (by decide) g c rfl))
  have P:=ae (((aa av).alloc ar (.cells #[a,f,m,j,l,d,rd] 201)).grown z (by simp; omega) (fun g c=>aa F g c))
  have Q:=ae (bN (aa F) J (by simp; omega))
  have aL:A.rangeAt wr.heap.size 0 (#[a,f,m,j,l,d,rd]:Array Value).toList:=ao M;clear L K G s r y z J v u n M
  go_wp2_with (first|refine bU 201 _ underlying201 rfl (ns _ _ _ _ _ _ _) _ _ aL rfl _ rfl rfl ?_|refine cP _ _ (bsReq a f m j l d rd _ _ _ rfl rfl _) rfl ?_|(at_builtin; refine fS 126 al rfl _ _ rfl rfl rfl rfl ?_))
  go_roundw
  ·exact⟨k+1,by omega,by go_num,aa U,aa S,H,aa Q,aa P⟩
  simp[intOf]; omega
 have Z:k=ws.length:=by omega
 have E:=aa aQ;subst E;have Y:=ag (aa aV) o;have a6:=jU Y 7
 have aB:ws.take k=ws:=by rw[Z,zx]
 rw[aB] at D C
 have aW:Hid (∀rv,rv=u3->(∃rv',Ending.returned rv=.returned rv'/\ah bE 103 (wr.setCell ⟨fb,7,none⟩ u4) rv' (iU ws X.nw)/\∀g,rv'.ownBlock=some g->w.heap.size<=g)/\(∃x,aq (wr.setCell ⟨fb,7,none⟩ u4) fb { X with wv:=x }/\ah cW 201 (wr.setCell ⟨fb,7,none⟩ u4) x (gY ws X.nw)/\∀g,x.ownBlock=some g->w.heap.size<=g)/\aE (fun k=>k=fb) w (wr.setCell ⟨fb,7,none⟩ u4)):=by
  rintro rv rfl
  exact⟨⟨_,rfl,D.same (fun g c=>zW _ _ _ _ (by have:=aa H g c; show g≠fb; omega)),aa H⟩,⟨u4,aq.set Y 7 u4 (FV.set_wv X u4),C.same (fun g c=>zW _ _ _ _ (by have:=aa F g c; show g≠fb; omega)),aa F⟩,(aE.of_below o).setCell u4 (fun _=>rfl)⟩
 obtain⟨a9,bf,ba,rfl⟩:=C.sl;obtain⟨a8,be,ad,rfl⟩:=D.sl;clear D C o Y aB;subst Z
 go_wp2
 go_ret;exact aa aW _ rfl
def iX (ver:Int)(LS:List Ft)(ts:List aL)(reads:Int)(r:dJ):Option aL:=
 match cS ts r.k with
 | some t=>if decide (r.asked<=reads) || decide (eA ver r.k LS<=reads) then some t else none
 | none=>none
def dI (ver:Int)(LS:List Ft)(ts:List aL)(reads:Int)(ws:List dJ):List gD:=ws.filterMap fun r=>(iX ver LS ts reads r).map fun t=>⟨r.who,200,t.body,t.tag⟩
def cN (ver:Int)(LS:List Ft)(ts:List aL)(reads:Int)(ws:List dJ):List dJ:=ws.filter fun r=>(iX ver LS ts reads r).isNone
section
variable {ver:Int}{LS:List Ft}{ts:List aL}{reads:Int}{ws:List dJ}{k:Nat}{r:dJ}
theorem fineR_some {t:aL}(h:ws[k]?=some r)(a:iX ver LS ts reads r=some t):dI ver LS ts reads (ws.take (k+1))=dI ver LS ts reads (ws.take k)++[⟨r.who,200,t.body,t.tag⟩]/\cN ver LS ts reads (ws.take (k+1))=cN ver LS ts reads (ws.take k):=by
 unfold dI cN;rw[dN _ h,be h,List.filterMap_append];simp[a]
theorem mi (h:ws[k]?=some r)(a:iX ver LS ts reads r=none):dI ver LS ts reads (ws.take (k+1))=dI ver LS ts reads (ws.take k)/\cN ver LS ts reads (ws.take (k+1))=cN ver LS ts reads (ws.take k)++[r]:=by
 unfold dI cN;rw[dN _ h,be h,List.filterMap_append];simp[a]
theorem fineR_len:(dI ver LS ts reads ws).length<=ws.length:=List.length_filterMap_le _ _
theorem nN:(cN ver LS ts reads ws).length<=ws.length:=ze _ _
end
theorem mB (fb:Nat)(X:FV)(ver:Int)(sl pv:Value)(LS a4:List Ft)(ws:List dJ)(aQ:Value)(ts:List aL)(reads:Int)(w:World)(aI:aq w fb X)(bd:dD w X.sb 0 ver sl pv LS a4)(bz:LS.length<=1000)(bM:0<=ver)(bc:ah cW 201 w X.wv ws)(aR:∀bQ∈ws,dy bQ.k)(aN:bL aW w aQ ts)(b1:ws.length<=10000000):
  Calls prog 143 #[some fb,aQ,reads] w fun e w'=>(∃rv,e=.returned rv/\ah bE 103 w' rv (dI ver LS ts reads ws)/\∀g,rv.ownBlock=some g->w.heap.size<=g)/\(∃H,aq w' fb { X with wv:=H }/\ah cW 201 w' H (cN ver LS ts reads ws)/\∀g,H.ownBlock=some g->w.heap.size<=g)/\aE (fun k=>k=fb) w w':=by
 have bl:=an aI;obtain⟨bO,cap,e,bR,hm,bb⟩:=bc.at;have bC:=ae bb;have a3:=ae aI;have bJ:=ae bd;have bF:=ae aR;have bq:=ae aN
 have bo:∃be bg bf,aQ=.slice be bg bf:=by obtain⟨bX,bY,bK,_⟩:=aN; exact⟨_,_,_,bK⟩
 unfold maxLen at hm;have aV:=(zV w.heap.size w).alloc aD (.cells #[] 103)
 have z:=aV.alloc (by simp) (.cells #[] 201)
 have ba:=(cr (R:=bE) (T:=103) w [] #[] rfl (by simp)).on (bu.alloc aD (.cells #[] 201))
 have a9:=cr (R:=cW) (T:=201) (w.alloc (.cells #[] 103)) [] #[] rfl (by simp)
 have bH:=ae ba;have bG:=ae a9;have br:=ae z
 have a7:w.cell? ⟨fb,7,none⟩=some (.slice bO ws.length cap):=by rw[<-e]; exact aI.cells.2.2.2.2.2.2.2.1
 have bs:=ae a7;clear aI bc bb ba a9 aV z e a7 bd aR aN;obtain⟨be,bg,bf,rfl⟩:=bo;go_enter func143,ntmps143
 go_wp2
 go_loopw [7,8,9,10,11,12] (fun rv lv i _ _ _ wr=>∃k:Nat,k<=ws.length/\i=.int .i64 k/\ah bE 103 wr rv (dI ver LS ts reads (ws.take k))/\ah cW 201 wr lv (cN ver LS ts reads (ws.take k))/\Hid (∀g,rv.ownBlock=some g->w.heap.size<=g)/\Hid (∀g,lv.ownBlock=some g->w.heap.size<=g)/\Below w.heap.size w wr) (fun _ _ i _ _ _ _=>ws.length-(intOf i).toNat)
 ·exact⟨0,by omega,rfl,by simpa[dI] using aa bH,by simpa[cN] using aa bG,ae (fun g a=>by simp[Value.ownBlock] at a; omega),ae (fun g a=>by simp[Value.ownBlock] at a; omega),aa br⟩
 obtain⟨k,aR,rfl,P,O,U,G,C⟩:=hrel;have bT:=C.size;have bP:=(C.cell (p:=⟨fb,7,none⟩) bl).trans (aa bs)
 by_cases bB:k<ws.length
 ·have aP:(k:Int)<ws.length:=by omega
  obtain⟨b,off,rfl,bA,aX⟩:=aa bC (by omega)
  obtain⟨⟨c,⟨d,j,f,h⟩,l,rd⟩,al⟩:∃t,ws[k]?=some t:=⟨_,zQ bB⟩;have a0:wr.rangeAt b (off+k*7) (#[c,d,j,f,h,l,rd]:Array Value).toList:=dA (bL.req aX al) C bA;have aY:=aa bF _ (zR al);dsimp only at aY;have a8:=zZ wr (.cells #[c,d,j,f,h,l,rd] 201);have n:=(zV wr.heap.size wr).alloc aD (.cells #[c,d,j,f,h,l,rd] 201);have aJ:=C.trans (n.mono C.size);have a2:=mj _ ts d j f h _ ((aa bq).on aJ);have bi:=fineR_len (ver:=ver) (LS:=LS) (ts:=ts) (reads:=reads) (ws:=ws.take k);have bj:=nN (ver:=ver) (LS:=LS) (ts:=ts) (reads:=reads) (ws:=ws.take k);rw[zD] at bi bj;have bI:=ae (P.on n);have bw:=ae (O.on n);have aS:=ae aJ;have bt:=ae a8;clear aX C P O n aJ
  go_wp2_with (refine bU 201 _ underlying201 rfl (ns _ _ _ _ _ _ _) _ _ a0 rfl _ rfl rfl ?_)
  refine a2.mono ?_;rintro e m ⟨rfl,ai⟩;have az:=ag (aa bt) ai;have aw:=(aa bI).on ai;have ar:=(aa bw).on ai;have z:=(aa aS).trans (ai.mono (aa aS).size);have bn:wr.heap.size<m.heap.size:=an az;have ad:=zZ m (.cells (tv none) 196);have aA:=(zr m (.cells (tv none) 196) bn).trans az;have aG:=(zV m.heap.size m).alloc aD (.cells (tv none) 196);clear a2 ai a8 a0 bP
  cases aj:cS ts ⟨d,j,f,h⟩ with
  | none=>
   have a:iX ver LS ts reads ⟨c,⟨d,j,f,h⟩,l,rd⟩=none:=by unfold iX; dsimp only; rw[aj]
   obtain⟨B,E⟩:=mi al a;have aC:=yX _ _ _ (tv none) _ _ ad
   have Q:=(setRow_other (show m.heap.size≠wr.heap.size by omega) (tv none)).trans aA
   have A:=aK aG aD (tv none);have y:=z.trans (A.mono z.size);have N:=aw.on A;have V:=ar.on A;rw[<-B] at N;have D:=aZ cW 201 ((m.alloc (.cells (tv none) 196)).setRow m.heap.size (tv none)) ⟨c,⟨d,j,f,h⟩,l,rd⟩ #[c,d,j,f,h,l,rd] rfl;have n:=(zV ((m.alloc (.cells (tv none) 196)).setRow m.heap.size (tv none)).heap.size ((m.alloc (.cells (tv none) 196)).setRow m.heap.size (tv none))).alloc aD (.cells #[c,d,j,f,h,l,rd] 201);have o:=N.on n;have r:=V.on n
   obtain⟨bh,ap,am,v,x,F⟩:=apReq r D (by simp; omega)
   rw[<-E] at v;have Z:=ae v
   have ab:=ae (o.same (w':=ap) fun g a=>x.block g (o.lt a) (fun q=>by
    obtain⟨a6,ak⟩:=r.ty q.symm
    exact au o ak (by decide) g a rfl))
   have W:=ae ((y.alloc y.size (.cells #[c,d,j,f,h,l,rd] 201)).grown x (by simp; have:=y.size; omega) (fun g a=>aa G g a))
   have Y:=ae (bN (aa G) F (by simp; have:=y.size; omega))
   have ay:((m.alloc (.cells (tv none) 196)).setRow m.heap.size (tv none)).rangeAt wr.heap.size 0 (#[c,d,j,f,h,l,rd]:Array Value).toList:=ao Q;have aM:=ae aj;clear aw ar D o r v x F B E n az aA Q aC A y z N V aG a aj
   go_wp2_with (first|refine stG 196 (tv none) (tv none) (d9 none) (je none) rfl m.heap.size ad rfl _ _ rfl rfl rfl ?_|refine bU 201 _ underlying201 rfl (ns _ _ _ _ _ _ _) _ _ ay rfl _ rfl rfl ?_|refine cP _ _ (bsReq c d j f h l rd _ _ _ rfl rfl _) rfl ?_|(at_builtin; refine fS 126 am rfl _ _ rfl rfl rfl rfl ?_))
   go_roundw
   ·exact⟨k+1,by omega,by go_num,aa ab,aa Z,U,aa Y,aa W⟩
   simp[intOf]; omega
  | some t=>
   obtain⟨⟨I,L,J,K⟩,s,u⟩:=t;have aC:=yX _ _ _ (tv (some ⟨⟨I,L,J,K⟩,s,u⟩)) _ _ ad
   have Q:=(setRow_other (show m.heap.size≠wr.heap.size by omega) (tv (some ⟨⟨I,L,J,K⟩,s,u⟩))).trans aA
   have A:=aK aG aD (tv (some ⟨⟨I,L,J,K⟩,s,u⟩));have y:=z.trans (A.mono z.size);have N:=aw.on A;have V:=ar.on A;have a5:=pb fb X ver sl pv LS a4 c d j f h l rd reads ((m.alloc (.cells (tv none) 196)).setRow m.heap.size (tv (some ⟨⟨I,L,J,K⟩,s,u⟩))) (ag (aa a3) y) ((aa bJ).on y) bz aY bM;have ay:((m.alloc (.cells (tv none) 196)).setRow m.heap.size (tv (some ⟨⟨I,L,J,K⟩,s,u⟩))).rangeAt wr.heap.size 0 (#[c,d,j,f,h,l,rd]:Array Value).toList:=ao Q;have aM:=ae aj;have aU:=ae y;have bx:=ae aC;have bp:=ae Q;have bv:=ae N;have bk:=ae V;clear aw ar az aA A z aG aj y aC Q N V
   go_wp2_with (first|refine stG 196 (tv (some ⟨⟨I,L,J,K⟩,s,u⟩)) (tv none) (d9 _) (je _) rfl m.heap.size ad rfl _ _ rfl rfl rfl ?_|refine bU 201 _ underlying201 rfl (ns _ _ _ _ _ _ _) _ _ ay rfl _ rfl rfl ?_)
   refine a5.mono ?_;rintro e M ⟨rfl,S⟩;have aF:=ag (aa bx) S;have aB:=ag (aa bp) S;have ax:=(aa bv).on S;have av:=(aa bk).on S;have ac:=(aa aU).trans (S.mono (aa aU).size);have aT:=ac.size;clear a5 S ay ad
   cases aH:(decide (l<=reads) || decide (eA ver ⟨d,j,f,h⟩ LS<=reads)) with
   | true=>
    have a:iX ver LS ts reads ⟨c,⟨d,j,f,h⟩,l,rd⟩=some ⟨⟨I,L,J,K⟩,s,u⟩:=by unfold iX; dsimp only; rw[aa aM]; dsimp only; rw[zJ aH]
    obtain⟨B,E⟩:=fineR_some al a;have D:=aZ bE 103 M ⟨c,200,s,u⟩ #[c,(200:Int),s,u] rfl;have n:=(zV M.heap.size M).alloc aD (.cells #[c,(200:Int),s,u] 103);have o:=ax.on n;have r:=av.on n
    obtain⟨bh,ap,am,v,x,F⟩:=apRep o D (by simp; omega)
    dsimp only at B;rw[<-B] at v;rw[<-E] at r;have ab:=ae v
    have Z:=ae (r.same (w':=ap) fun g a=>x.block g (r.lt a) (fun q=>by
     obtain⟨a6,ak⟩:=o.ty q.symm
     exact au r ak (by decide) g a rfl))
    have W:=ae ((ac.alloc aT (.cells #[c,(200:Int),s,u] 103)).grown x (by simp; omega) (fun g a=>aa U g a))
    have Y:=ae (bN (aa U) F (by simp; omega))
    have b4:=(af aB 0).trans (show _=some (Value.int .i64 c) from rfl);have b5:=(af aF 4).trans (show _=some (Value.string s) from rfl);have b6:=(af aF 5).trans (show _=some (Value.string u) from rfl);clear ax av D o r v x F B E n aB aF ac a aH
    go_wp2_with (first|refine cP _ _ (gz c 200 s u _ _ _ rfl rfl _) rfl ?_|(at_builtin; refine fS 89 am rfl _ _ rfl rfl rfl rfl ?_))
    go_roundw
    ·exact⟨k+1,by omega,by go_num,aa ab,aa Z,aa Y,G,aa W⟩
    simp[intOf]; omega
   | false=>
    have a:iX ver LS ts reads ⟨c,⟨d,j,f,h⟩,l,rd⟩=none:=by unfold iX; dsimp only; rw[aa aM]; dsimp only; rw[zK (by rw[aH]; simp)]
    obtain⟨B,E⟩:=mi al a;have D:=aZ cW 201 M ⟨c,⟨d,j,f,h⟩,l,rd⟩ #[c,d,j,f,h,l,rd] rfl;have n:=(zV M.heap.size M).alloc aD (.cells #[c,d,j,f,h,l,rd] 201);have o:=ax.on n;have r:=av.on n
    obtain⟨bh,ap,am,v,x,F⟩:=apReq r D (by simp; omega)
    rw[<-E] at v;rw[<-B] at o;have Z:=ae v
    have ab:=ae (o.same (w':=ap) fun g a=>x.block g (o.lt a) (fun q=>by
     obtain⟨a6,ak⟩:=r.ty q.symm
     exact au o ak (by decide) g a rfl))
    have W:=ae ((ac.alloc aT (.cells #[c,d,j,f,h,l,rd] 201)).grown x (by simp; omega) (fun g a=>aa G g a))
    have Y:=ae (bN (aa G) F (by simp; omega))
    have bm:M.rangeAt wr.heap.size 0 (#[c,d,j,f,h,l,rd]:Array Value).toList:=ao aB;clear ax av D o r v x F B E n aB aF ac a aH
    go_wp2_with (first|refine bU 201 _ underlying201 rfl (ns _ _ _ _ _ _ _) _ _ bm rfl _ rfl rfl ?_|refine cP _ _ (bsReq c d j f h l rd _ _ _ rfl rfl _) rfl ?_|(at_builtin; refine fS 126 am rfl _ _ rfl rfl rfl rfl ?_))
    go_roundw
    ·exact⟨k+1,by omega,by go_num,aa ab,aa Z,U,aa Y,aa W⟩
    simp[intOf]; omega
 have aP:k=ws.length:=by omega
 have aO:=ag (aa a3) C;have bS:=jU aO 7
 have a1:ws.take k=ws:=by rw[aP,zx]
 rw[a1] at P O
 have bD:Hid (∀rv,rv=u7->(∃rv',Ending.returned rv=.returned rv'/\ah bE 103 (wr.setCell ⟨fb,7,none⟩ u8) rv' (dI ver LS ts reads ws)/\∀g,rv'.ownBlock=some g->w.heap.size<=g)/\(∃H,aq (wr.setCell ⟨fb,7,none⟩ u8) fb { X with wv:=H }/\ah cW 201 (wr.setCell ⟨fb,7,none⟩ u8) H (cN ver LS ts reads ws)/\∀g,H.ownBlock=some g->w.heap.size<=g)/\aE (fun k=>k=fb) w (wr.setCell ⟨fb,7,none⟩ u8)):=by
  rintro rv rfl
  exact⟨⟨_,rfl,P.same (fun g a=>zW _ _ _ _ (by have:=aa U g a; show g≠fb; omega)),aa U⟩,⟨u8,aq.set aO 7 u8 (FV.set_wv X u8),O.same (fun g a=>zW _ _ _ _ (by have:=aa G g a; show g≠fb; omega)),aa G⟩,(aE.of_below C).setCell u8 (fun _=>rfl)⟩
 obtain⟨bW,b3,b0,rfl⟩:=O.sl;obtain⟨bV,b2,bZ,rfl⟩:=P.sl;clear P O C aO a1;subst aP
 go_wp2
 go_ret;exact aa bD _ rfl
theorem jT (ev:Operand->Value)(o:Oper)(x:Operand)(c:TypeId)(h:o.op=.load c x)(a:Addr)(j:ev x=.pointer (some a))(cs:Array Value){d:TypeDesc}(i:prog.underlying c=some d)(g:d.isRow=true)(hi:(prog.info? c).map (·.size)=some cs.size)(b off:Nat)(e:a=⟨b,off,none⟩)(w:World)(f:w.rangeAt b off cs.toList):(execOp ev o).run prog w=.ok (.value (.agg cs)) w:=by
 subst e
 have:=run_loadVar_mid (P:=prog) w b off c cs.toList d f i g (by simpa using hi)
 unfold execOp;simp only[h,j,Instr.loadAt,Instr.sureAddr,Sem.run_bind,Sem.run_pure,Result.andThen_ok,this,Array.toArray_toList]
theorem stS (ev:Operand->Value)(o:Oper)(x y:Operand)(t:TypeId)(e:o.op=.store t x y)(g:∀w,(sizeOf t).run prog w=.ok 1 w)(fb i:Nat)(a:Option Addr)(n c:Nat)(f:ev x=.pointer (some ⟨fb,i,none⟩))(hy:ev y=.slice a n c)(w:World){u:Value}(b:w.cell? ⟨fb,i,none⟩=some u)(d:w.frozen? ⟨fb,i,none⟩=false):(execOp ev o).run prog w=.ok .skip (w.setCell ⟨fb,i,none⟩ (.slice a n c)):=by
 unfold execOp;simp only[e,f,hy];simp[go_sem,g,b,d]
theorem use_any (fb:Nat)(X:FV)(ts:List aL)(a d b c:Int)(f j:ByteArray)(w:World)(P:aq w fb X)(ax:ah aW 196 w X.tv ts)(aY:ts.length<=1000000):
  Calls prog 131 #[.pointer (some ⟨fb,10,none⟩),.agg #[a,d,b,c,f,j]] w fun e w'=>e=.returned (.tuple #[])/\(∃O,aq w' fb { X with tv:=O }/\ah aW 196 w' O (bm ts ⟨a,d,b,c⟩++[⟨⟨a,d,b,c⟩,f,j⟩])/\∀g,O.ownBlock=some g->w.heap.size<=g)/\aE (fun k=>k=fb) w w':=by
 have aU:=an P;have G:=(zV w.heap.size w).alloc aD (.cells #[a,d,b,c,f,j] 196);have aw:=zZ w (.cells #[a,d,b,c,f,j] 196)
 have av:=gJ fb X ts a d b c _ (ag P G) (ax.on G) (by omega)
 have aT:=ae aw;have aJ:=ae G;clear P ax G aw;go_enter func131,ntmps131
 go_wp2_with fail
 refine av.mono ?_;rintro e x ⟨rfl,⟨s,ad,al,U⟩,L⟩
 have aR:w.heap.size≠fb:=by omega
 have W:=aQ (aa aT) L aR;have T:aE (fun k=>k=fb) w x:=(aE.of_below (aa aJ)).then L (fun _ _ h=>h);have aI:=ae W;have aK:=ae ad;have aN:=ae al
 have aF:=ae (show ∀g,s.ownBlock=some g->w.heap.size+1<=g from fun g t=>by have:=U g t; simp at this; omega)
 have y:=ae T;clear av ad al U L W T
 go_wp2_with fail
 refine z8 (S:=fun w'=>w'.heap[w.heap.size]?=some (.cells #[a,d,b,c,f,j] 196)) (by kernel_rfl) ?_
 change wpAnyH _ _ _ _ _ _ _ _ (World.drew _);have m:(World.drew x).heap[w.heap.size]?=some (.cells #[a,d,b,c,f,j] 196):=aa aI;have C:aq (World.drew x) fb { X with tv:=s }:=aa aK;have H:ah aW 196 (World.drew x) s (bm ts ⟨a,d,b,c⟩):=aa aN;have F:aE (fun k=>k=fb) w (World.drew x):=⟨(aa y).os,(aa y).tape,(aa y).output,(aa y).size,(aa y).block⟩;have E:=aa aF;generalize World.drew x=l at m C H F ⊢;have aP:w.heap.size<l.heap.size:=an m;have aj:fb<l.heap.size:=an C;have K:l.cell? ⟨fb,11,none⟩=some s:=(af C 11).trans rfl;have v:=(zV l.heap.size l).alloc aD (.cells #[a,d,b,c,f,j] 196);have A:=ag m v;have M:=ag C v;have R:=(v.cell (p:=⟨fb,11,none⟩) aj).trans K;have ac:=aZ aW 196 l ⟨⟨a,d,b,c⟩,f,j⟩ #[a,d,b,c,f,j] rfl;have N:=H.on v
 obtain⟨a0,u,aA,I,J,aB⟩:=mz N ac (by have:=eL ts ⟨a,d,b,c⟩; simp; omega)
 have z:=(J.block w.heap.size (by simp; omega) (fun q=>by have:=E w.heap.size q.symm; omega)).trans A
 have D:aq u fb { X with tv:=s }:=(J.block fb (by simp; omega) (fun q=>au N M (by decide) fb q.symm rfl)).trans M
 have ak:=jU D 11;have Q:u.cell? ⟨fb,11,none⟩=some s:=(af D 11).trans rfl
 have Y:=(F.then (aE.of_below v) (fun _ _ h=>h)).grown J (fun g t aX=>by have:=E g t; omega)
 have V:=bN (B:=w.heap.size) (fun g t=>by have:=E g t; omega) aB (by simp; have:=F.size; omega)
 obtain⟨n,r,o,rfl⟩:=I.sl;have ai:=aq.set D 11 (.slice n r o) (FV.set_tv { X with tv:=s } _)
 have ap:ah aW 196 (u.setCell ⟨fb,11,none⟩ (.slice n r o)) (.slice n r o) _:=I.same (fun g t=>zW _ _ _ _ (au I D (by decide) g t))
 have Z:=Y.setCell (p:=⟨fb,11,none⟩) (.slice n r o) (fun _=>rfl)
 have ab:=(zW u ⟨fb,11,none⟩ (.slice n r o) w.heap.size (by show w.heap.size≠fb; omega)).trans z
 have aM:=ae ai;have aO:=ae ap;have aC:=ae Z;have aG:=ae V;obtain⟨ar,az,ay,rfl⟩:=H.sl;refine am 0 rfl fb 10 m ?_;refine am 1 rfl fb 10 m ?_;refine am 2 rfl fb 10 m ?_;refine am 3 rfl fb 11 m ?_;refine aH 5 rfl (.agg #[a,d,b,c,f,j]) m ?_ (hy:=fun w' aS=>jT _ _ _ 196 rfl _ rfl _ underlying196 rfl (d9 (some ⟨⟨a,d,b,c⟩,f,j⟩)) w.heap.size 0 rfl _ (ao aS))
 refine y6 (rs:=[4,6]) (by kernel_rfl) (by simp) ?_
 intro i hi;simp only[zv,yT,or_false] at hi
 rcases hi with rfl|rfl
 focus
  refine bI 4 rfl rfl (.slice ar az ay) (l) (by simp[go_sem,K]) (m) ?_
  simp only[qZ];refine aV 6 ?_;refine bI 6 rfl rfl (.slice (some ⟨l.heap.size,0,none⟩) 1 1) (l.alloc (.cells #[a,d,b,c,f,j] 196)) (jt a d b c f j _ _ _ rfl rfl _) (A) ?_
 rotate_left
 focus
  refine bI 6 rfl rfl (.slice (some ⟨l.heap.size,0,none⟩) 1 1) (l.alloc (.cells #[a,d,b,c,f,j] 196)) (jt a d b c f j _ _ _ rfl rfl _) (A) ?_;simp only[qZ];refine aV 4 ?_
  refine bI 4 rfl rfl (.slice ar az ay) (l.alloc (.cells #[a,d,b,c,f,j] 196)) (by simp[go_sem,R]) (A) ?_
 all_goals
  simp only[qZ];refine aV 7 ?_;refine bI 7 rfl rfl (.slice n r o) (u) (exR 123 aA _ _ _ _ rfl rfl rfl rfl) (z) ?_;simp only[qZ];refine am 8 rfl fb 10 z ?_;refine am 9 rfl fb 11 z ?_;refine aV 10 ?_
  refine cL 10 rfl rfl (u.setCell ⟨fb,11,none⟩ (.slice n r o)) (stS _ _ _ _ 123 rfl (fun _=>by simp[go_sem]) fb 11 n r o rfl rfl u Q ak) (ab) ?_
  simp only[Act.put]
  refine zm (by kernel_rfl) ?_ _
  clear m C H F aP aj K v A M R ac N aA J aB z D ak Q Y ai ap Z ab V I E
  go_wp2_with fail
  exact yB (yY results131 _ _ _) rfl ⟨rfl,⟨_,aa aM,aa aO,aa aG⟩,aa aC⟩
section
variable {O:Ora}{F:FM}
theorem fj (room n:Nat):∀(a:Nat) (ts:List aL),ts.length<=a->(evict room n ts).Sublist ts/\(n<=room->aA (evict room n ts)+n<=room)
 | 0,ts,h=>by
  obtain rfl:ts=[]:=yU (by omega)
  unfold evict
  exact⟨yt _,fun h=>by simp only[aA]; omega⟩
 | a+1,[],h=>by unfold evict; exact⟨yt _,fun h=>by simp only[aA]; omega⟩
 | a+1,t::ts,h=>by
  unfold evict
  split
  ·have c:=eL ts t.k
   have b:=fj room n a (bm ts t.k) (by simp only[zS] at h; omega)
   exact⟨(b.1.trans (eK ts t.k)).cons t,b.2⟩
  exact⟨yt _,fun _=>by omega⟩
structure CaOk (O:Ora)(F:FM)(ts:List aL):Prop where
 byt:aA ts<=F.room
 til:∀t∈ts,dy t.k/\t=F.tileOf O F.ver t.k
 tno:(ts.map aL.k).Nodup
theorem CaOk.lay {ts:List aL}(h:CaOk O F ts){t:aL}(c:dy t.k/\t=F.tileOf O F.ver t.k):CaOk O F (eT F.room ts t):=by
 unfold eT
 split
 ·exact h
 rename_i d
 have b:=fj F.room t.body.size _ (bm ts t.k) aD;refine⟨?_,?_,nF h.tno t b.1⟩
 ·rw[ep]
  have:=b.2 (by omega)
  simp only[aA]; omega
 intro u a
 rcases zh.1 a with a|a
 ·exact h.til u ((eK _ _).subset (b.1.subset a))
 simp at a; subst a; exact c
theorem Ok.still (h:Ok O F){k:K4}(b:dy k){reads:Nat}(c:reads<=F.ver)(a:F.same O k reads=true):F.tileOf O reads k=F.tileOf O F.ver k:=by
 unfold FM.same FM.stamp at a
 have:=h.hi.still reads F.ver c aD k b (by simpa using a)
 unfold FM.tileOf FM.stamp;rw[this.1,this.2]
theorem CaOk.layU (h:Ok O F){reads:Nat}(c:reads<=F.ver):∀(b ts:List aL),CaOk O F ts->(∀t∈b,dy t.k/\t=F.tileOf O reads t.k)->CaOk O F (F.layU O reads ts b)
 | [],ts,a,_=>a
 | u::b,ts,a,d=>by
  unfold FM.layU;rw[List.foldl_cons];refine CaOk.layU h c b _ ?_ fun t f=>d t (zt _ f)
  split
  ·rename_i e
   have:=d u (yJ ..)
   exact a.lay ⟨this.1,by rw[<-h.still this.1 c e]; exact this.2⟩
  exact a
theorem kC (F:FM)(f:Fl){k:K4}(d:dy k)(c:f.b=k.blk):∀t∈F.tilesOf O f,dy t.k/\t.k.blk=f.b/\t=F.tileOf O f.reads t.k:=by
 intro t b;unfold FM.tilesOf at b;obtain⟨e,a,rfl⟩:=yH.1 b;rw[c] at a ⊢;have:=(jR d).1 a;exact⟨this.1,this.2,rfl⟩
theorem ot (F:FM)(f:Fl){k:K4}(h:dy k)(b:f.b=k.blk)(a:K4)(i:dy a):cS (F.tilesOf O f) a=if a.blk=f.b then some (F.tileOf O f.reads a) else none:=by
 cases e:cS (F.tilesOf O f) a with
 | some t=>
  have d:=ml e;have g:=kC F f h b t d.1;rw[<-d.2,zJ g.2.1,<-g.2.2]
 | none=>
  by_cases c:a.blk=f.b
  ·exfalso
   have:=mm e (F.tileOf O f.reads a) (by unfold FM.tilesOf; rw[b]; exact yH.2 ⟨a,(jR h).2 ⟨i,by rw[c,b]⟩,rfl⟩)
   exact this rfl
  rw[zK c]
theorem Ok.good (h:Ok O F){f:Fl}(e:f∈F.fls){a:dJ}(i:a∈F.waiting):F.good O (F.tilesOf O f) f.reads a=if a.k.blk=f.b/\(a.asked<=f.reads\/F.same O a.k f.reads=true) then some (F.tileOf O f.reads a.k) else none:=by
 obtain⟨_,_,k,g,d⟩:=h.flt f e;unfold FM.good;rw[ot F f g d a.k (h.req a i).2.2.2.1]
 by_cases c:a.k.blk=f.b
 ·rw[zJ c]
  dsimp only
  by_cases b:a.asked<=f.reads\/F.same O a.k f.reads=true
  ·rw[zJ (show(decide (a.asked<=(f.reads:Int)) || F.same O a.k f.reads)=true by simpa using b),zJ ⟨c,b⟩]
  rw[zK (show ¬(decide (a.asked<=(f.reads:Int)) || F.same O a.k f.reads)=true by simpa using b),zK (fun q=>b q.2)]
 rw[zK c,zK (fun q=>c q.1)]
theorem eY {i:Nat}{f:Fl}(h:F.wks[i]?=some (some f)):f∈F.fls:=by
 unfold FM.fls;rw[List.mem_filterMap];exact⟨some f,zR h,rfl⟩
theorem Ok.take (h:Ok O F){i:Nat}(hi:F.wks[i]?=some none):Ok O (F.takeW i):=by
 unfold FM.takeW
 cases d:F.line with
 | nil=>exact h
 | cons b rest=>
  have m:i<F.wks.length:=(zX.1 hi).1
  have a:((F.wks.set i (some ⟨b,F.ver,bB (F.FLs F.ver).length F.chunk,0⟩)).filterMap id).Perm (⟨b,F.ver,bB (F.FLs F.ver).length F.chunk,0⟩::F.fls):=by
   have k:=lm F.wks i (some ⟨b,F.ver,bB (F.FLs F.ver).length F.chunk,0⟩) m;rw[gP F.wks i none hi] at k;exact k
  obtain⟨l,n,o⟩:=h.lin b (by rw[d]; exact yJ ..)
  have j:=h.nod;rw[d] at j;refine{ h with wn:=?_,fl:=?_,lin:=?_,nod:=?_,flt:=?_,pin:=?_,bus:=?_ }
  ·show 1<=(F.wks.set i _).length/\(F.wks.set i _).length<=4
   rw[zn]; exact h.wn
  ·intro g r
   show g.k.blk∈rest\/g.k.blk∈((F.wks.set i _).filterMap id).map Fl.b;have:=h.fl g r;rw[d] at this
   rcases this with q|q
   ·rcases zv.1 q with q|q
    ·right
     rw[(a.map Fl.b).mem_iff,q];exact yJ ..
    exact Or.inl q
   right
   rw[(a.map Fl.b).mem_iff];exact zt _ q
  ·intro c p
   exact h.lin c (by rw[d]; exact zt _ p)
  ·show(rest++((F.wks.set i _).filterMap id).map Fl.b).Nodup
   refine((a.map Fl.b).append_left rest).nodup_iff.2 ?_;exact(List.perm_middle.nodup_iff).2 j
  ·intro f e
   rcases zv.1 (a.mem_iff.1 e) with rfl|e
   ·exact⟨zz _,flOk_start _ _ _ _ h.ch.1,l.k,(h.req l n).2.2.2.1,o.symm⟩
   exact h.flt f e
  ·show(F.PI++[(F.ver:Int)]).Perm (((F.wks.set i _).filterMap id).map _)
   refine List.Perm.trans ?_ (a.map _).symm;rw[zA];exact(List.perm_append_singleton _ _).trans (yh _ h.pin)
  show((F.wks.set i _).filterMap id).length<=F.started+1;rw[a.length_eq,zS];have:=h.bus;omega
theorem Ok.step (h:Ok O F){i:Nat}{f:Fl}(hi:F.wks[i]?=some (some f))(m:1<f.left):Ok O { F with wks:=F.wks.set i (some (f.step (F.FLs f.reads).length F.chunk)) }:=by
 have j:i<F.wks.length:=(zX.1 hi).1;have a:=lm F.wks i (some (f.step (F.FLs f.reads).length F.chunk)) j;have b:F.fls.Perm (f::(F.wks.set i none).filterMap id):=fls_at hi;have e:(((F.wks.set i (some (f.step (F.FLs f.reads).length F.chunk))).filterMap id).map Fl.b).Perm (F.fls.map Fl.b):=(a.map Fl.b).trans (b.map Fl.b).symm;have c:=h.flt f (eY hi);refine{ h with wn:=?_,fl:=?_,nod:=?_,flt:=?_,pin:=?_,bus:=?_ }
 ·show 1<=(F.wks.set i _).length/\(F.wks.set i _).length<=4
  rw[zn]; exact h.wn
 ·intro o n
  rcases h.fl o n with q|q
  ·exact Or.inl q
  exact Or.inr (e.mem_iff.2 q)
 ·exact(e.append_left F.line).nodup_iff.2 h.nod
 ·intro g d
  rcases zv.1 (a.mem_iff.1 d) with rfl|d
  ·exact⟨c.1,(c.2.1.next m).1,c.2.2⟩
  exact h.flt g (b.mem_iff.2 (zt _ d))
 ·exact h.pin.trans ((b.map fun f=>(f.reads:Int)).trans (a.map fun f=>(f.reads:Int)).symm)
 show((F.wks.set i _).filterMap id).length<=F.started;have k:=a.length_eq;have l:=b.length_eq;have:=h.bus;simp only[Option.toList,yj,yp,zS] at k l;omega
theorem Ok.finish (h:Ok O F){i:Nat}{f:Fl}(hi:F.wks[i]?=some (some f)):Ok O (F.finishW O i f).1:=by
 have p:=eY hi;have s:=h.flt f p;obtain⟨k,A,x⟩:=s.2.2;have j:F.fls.Perm (f::(F.wks.set i none).filterMap id):=fls_at hi
 have n:(f.b::(F.line++((F.wks.set i none).filterMap id).map Fl.b)).Nodup:=by
  have:=((j.map Fl.b).append_left F.line).nodup_iff.1 h.nod;exact(List.perm_middle.nodup_iff).1 this
 have l:(F.fineL O (F.tilesOf O f) f.reads).Sublist F.waiting:=yy
 have o:=CaOk.layU h s.1 (F.tilesOf O f) F.tiles ⟨h.byt,h.til,h.tno⟩ fun t B=>by have:=kC F f A x t B; exact⟨this.1,this.2.2⟩
 have u:∀a∈F.waiting,a.k.blk≠f.b->a∈F.fineL O (F.tilesOf O f) f.reads:=by
  intro a d v;unfold FM.fineL;rw[yA]
  exact⟨d,by rw[h.good p d,zK (fun q=>v q.1)]; rfl⟩
 refine{ h with
  wn:=?_,wq:=zF l.length_le h.wq,req:=fun a d=>h.req a (l.subset d),srt:=h.srt.sublist l,fl:=?_,lin:=?_,nod:=?_,flt:=?_,pin:=?_,bus:=?_,
  byt:=o.byt,til:=o.til,tno:=o.tno }
 ·show 1<=(F.wks.set i _).length/\(F.wks.set i _).length<=4
  rw[zn]; exact h.wn
 ·intro a d
  show a.k.blk∈(if 0<aC (F.fineL O (F.tilesOf O f) f.reads) f.b then F.line++[f.b] else F.line)\/a.k.blk∈((F.wks.set i none).filterMap id).map Fl.b
  have r:a∈F.fineL O (F.tilesOf O f) f.reads:=d
  by_cases c:a.k.blk=f.b
  ·left
   rw[zJ ((e8 _ _).2 ⟨a,r,c⟩),c];simp
  rcases h.fl a (l.subset r) with q|q
  ·left; split
   ·exact y8 _ q
   exact q
  right
  rcases zv.1 ((j.map Fl.b).mem_iff.1 q) with q|q
  ·exact absurd q c
  exact q
 ·intro c y
  have b:c∈(if 0<aC (F.fineL O (F.tilesOf O f) f.reads) f.b then F.line++[f.b] else F.line):=y
  show ∃a∈F.fineL O (F.tilesOf O f) f.reads,_
  by_cases m:c∈F.line
  ·obtain⟨a,d,e⟩:=h.lin c m
   refine⟨a,u a d (fun q=>?_),e⟩;rw[e] at q;exact(yd.1 n).1 (y8 _ (q▸m))
  split at b
  ·rename_i q
   rcases zh.1 b with b|b
   ·exact absurd b m
   simp at b;rw[b];exact(e8 _ _).1 q
  exact absurd b m
 ·show((if 0<aC (F.fineL O (F.tilesOf O f) f.reads) f.b then F.line++[f.b] else F.line)++((F.wks.set i none).filterMap id).map Fl.b).Nodup
  split
  ·rw[yM]
   exact(List.perm_middle.nodup_iff).2 n
  exact(yd.1 n).2
 ·intro g z
  exact h.flt g (j.mem_iff.2 (zt _ z))
 ·show(F.PI.erase (f.reads:Int)).Perm (((F.wks.set i none).filterMap id).map _)
  have:=(h.pin.trans (j.map _)).erase (f.reads:Int);rw[zA,List.erase_cons_head] at this;exact this
 show((F.wks.set i none).filterMap id).length<=F.started;have w:=j.length_eq;have:=h.bus;simp only[zS] at w;omega
theorem Ok.work (h:Ok O F)(i:Nat):Ok O (F.work O i).1:=by
 unfold FM.work
 cases e:F.wks[i]? with
 | none=>exact h
 | some o=>
  cases o with
  | none=>exact h.take e
  | some f=>
   dsimp only
   split
   ·exact h.step e (by assumption)
   exact h.finish e
theorem Ok.tick (h:Ok O F):Ok O F.tick.1:=by
 have e:(F.waiting.filter fun a=>decide (¬a.due<=((F.now+1:Nat):Int))).Sublist F.waiting:=yy;have f:(F.line.filter fun b=>decide (0<aC (F.waiting.filter fun a=>decide (¬a.due<=((F.now+1:Nat):Int))) b)).Sublist F.line:=yy;refine{ h with wq:=zF e.length_le h.wq,req:=?_,srt:=h.srt.sublist e,fl:=?_,lin:=?_,nod:=?_ }
 ·intro a d
  have c:=h.req a (e.subset d)
  have i:¬a.due<=((F.now+1:Nat):Int):=by simpa using(yA.1 d).2
  refine⟨by show((F.now+1:Nat):Int)<a.due; omega,c.2.1,c.2.2.1,c.2.2.2.1,c.2.2.2.2.1,c.2.2.2.2.2.1,by show a.due<=((F.now+1:Nat):Int)+F.wait; omega⟩
 ·intro a d
  rcases h.fl a (e.subset d) with q|q
  ·left
   show a.k.blk∈F.line.filter _;rw[yA]
   exact⟨q,by rw[zN]; exact(e8 _ _).2 ⟨a,d,rfl⟩⟩
  exact Or.inr q
 ·intro b g
  have:=(yA.1 g).2;rw[zN] at this;exact(e8 _ _).1 this
 show(F.line.filter _++F.fls.map Fl.b).Nodup;exact(List.Sublist.append f (yt _)).nodup h.nod
structure Nxt (O:Ora)(LS:List Ft)(n:Nat)(FLs:Nat->List Ft)(LS' FL':List Ft):Prop where
 hi:Hi O LS' (n+1) (fun v=>if v=n+1 then FL' else FLs v)
 old:∀v:Nat,v<=n->∀k,dy k->O.stamp LS' v k=O.stamp LS v k
theorem tileOf_old (F:FM){b a:List Ft}(e:Nxt O F.LS F.ver F.FLs b a){v:Nat}(d:v<=F.ver){k:K4}(c:dy k):(F.write O b a).tileOf O v k=F.tileOf O v k:=by
 unfold FM.tileOf FM.stamp FM.write;dsimp only
 rw[zK (by omega),e.old v d k c]
theorem Ok.write (h:Ok O F){a b:List Ft}(p:F.ver<100)(g:Nxt O F.LS F.ver F.FLs a b):Ok O (F.write O a b):=by
 have d:((F.write O a b).tiles).Sublist F.tiles:=yy
 have k:∀t∈(F.write O a b).tiles,dy t.k/\t=(F.write O a b).tileOf O (F.ver+1) t.k:=by
  intro t i;have c:=h.til t (d.subset i);refine⟨c.1,?_⟩
  have l:O.stamp a ((F.ver+1:Nat):Int) t.k<=F.ver:=by
   have:decide (O.stamp a ((F.ver+1:Nat):Int) t.k<=F.ver)=true:=(yA.1 i).2;exact of_decide_eq_true this
  have e:=g.hi.still F.ver (F.ver+1) (by omega) aD t.k c.1 l
  have m:=tileOf_old F g aD c.1;rw[c.2,<-m];unfold FM.tileOf FM.stamp FM.write;dsimp only at e ⊢;rw[e.1,e.2]
 refine{ h with v100:=?_,req:=?_,flt:=?_,hi:=g.hi,byt:=zF (eo d) h.byt,til:=k,tno:=(d.map _).nodup h.tno }
 ·show F.ver+1<=100; omega
 ·intro j o
  have:=h.req j o
  exact⟨this.1,this.2.1,by show j.asked<=((F.ver+1:Nat):Int); omega,this.2.2.2⟩
 intro f n;have:=h.flt f n
 refine⟨by show f.reads<=F.ver+1; omega,?_,this.2.2⟩
 show kA (if f.reads=F.ver+1 then b else F.FLs f.reads).length F.chunk f
 rw[zK (by omega)]
 exact this.2.1
end
theorem evict_nil (room n:Nat):evict room n []=[]:=by unfold evict; rfl
theorem evict_go {room n:Nat}{t:aL}{ts:List aL}(h:room<aA (t::ts)+n):evict room n (t::ts)=evict room n (bm (t::ts) t.k):=by
 rw[evict,zJ h]; congr 1; simp[bm]
theorem evict_stop {room n:Nat}{t:aL}{ts:List aL}(h:¬room<aA (t::ts)+n):evict room n (t::ts)=t::ts:=by rw[evict,zK h]
theorem outT_less (t:aL)(ts:List aL):(bm (t::ts) t.k).length<(t::ts).length:=by
 have:bm (t::ts) t.k=bm ts t.k:=by simp[bm]
 rw[this];have:=eL ts t.k
 simp only[zS]; omega
theorem nc (w:World)(n:Nat):Below w.heap.size w (w.drewN n):=⟨rfl,rfl,rfl,zz _,fun _ _=>rfl⟩
def tlen (fb:Nat)(w:World):Nat:=match w.cell? ⟨fb,11,none⟩ with
 | some (.slice _ n _)=>n
 | _=>0
theorem tlen_eq {fb:Nat}{w:World}{X:FV}{ts:List aL}(a:aq w fb X)(b:bL aW w X.tv ts):tlen fb w=ts.length:=by
 obtain⟨c,cap,e,_⟩:=b;have:=a.cells.2.2.2.2.2.2.2.2.2.2.2;unfold tlen;rw[this,e]
theorem lay_any (fb:Nat)(X:FV)(room:Nat)(ts:List aL)(c j d f:Int)(a m:ByteArray)(w:World)(a9:aq w fb X)(a2:X.rm=room)(bX:ah aW 196 w X.tv ts)(cv:ts.length<=1000000)(bD:aA ts<=100000000)(cB:a.size<=1000000):
  Calls prog 177 #[.pointer (some ⟨fb,10,none⟩),.agg #[c,j,d,f,a,m]] w fun e w'=>e=.returned (.tuple #[])/\(∃T,aq w' fb { X with tv:=T }/\ah aW 196 w' T (eT room ts ⟨⟨c,j,d,f⟩,a,m⟩)/\∀g,T.ownBlock=some g->X.tv.ownBlock=some g\/w.heap.size<=g)/\aE (fun k=>k=fb) w w':=by
 have cy:=an a9;have aG:=(zV w.heap.size w).alloc aD (.cells #[c,j,d,f,a,m] 196);have a7:=zZ w (.cells #[c,j,d,f,a,m] 196)
 have cq:(w.alloc (.cells #[c,j,d,f,a,m] 196)).heap.size=w.heap.size+1:=by simp
 have aY:=ag a9 aG;have bM:=bX.on aG
 have ap:(w.alloc (.cells #[c,j,d,f,a,m] 196)).cell? ⟨fb,10,none⟩=some (.int .i64 room):=by rw[<-a2]; exact(aq.cells aY).2.2.2.2.2.2.2.2.2.2.1
 have bh:∀o,Below (w.alloc (.cells #[c,j,d,f,a,m] 196)).heap.size (w.alloc (.cells #[c,j,d,f,a,m] 196)) o->o.cell? ⟨fb,10,none⟩=some (.int .i64 room):=fun o h=>(h.cell (p:=⟨fb,10,none⟩) (by show fb<_; omega)).trans ap
 have bB:∀o,Below (w.alloc (.cells #[c,j,d,f,a,m] 196)).heap.size (w.alloc (.cells #[c,j,d,f,a,m] 196)) o->o.cell? ⟨w.heap.size,4,none⟩=some (.string a):=fun o h=>(af (ag a7 h) 4).trans rfl;have cd:=ae aY;have cf:=ae bM;have cr:=ae a7;have b9:=ae aG
 have cb:=ae bD
 have ch:=ae a2;clear a9 bX aG a7 aY bM bD ap a2;go_enter func177,ntmps177
 go_wp2_with fail
 refine aM (by kernel_rfl) (by kernel_rfl) ?_
 refine bd w.heap.size 4 ?_
 refine bH (.string a) ?_ (h:=fun w' ay=>by simp[go_sem,bB w' ay])
 refine bH (.int .i64 a.size) ?_;refine eI fb 10 ?_;refine bd fb 10 ?_;refine bd fb 10 ?_
 refine bH (.int .i64 room) ?_ (h:=fun w' ay=>by simp[go_sem,bh w' ay])
 refine bH (.bool (decide ((room:Int)<(a.size:Int)))) ?_;refine zq ?_;intro x s;have v:=ag (aa cd) s;have y:=(aa cf).on s;have u:=ag (aa cr) s
 have aI:=(aa b9).trans (s.mono (by simp))
 have bt:=s.size;rw[cq] at bt;clear bh bB s
 by_cases bj:room<a.size
 ·have aR:decide ((room:Int)<(a.size:Int))=true:=zU (by omega)
  have cs:Hid ((∃T,aq x fb { X with tv:=T }/\ah aW 196 x T (eT room ts ⟨⟨c,j,d,f⟩,a,m⟩)/\∀g,T.ownBlock=some g->X.tv.ownBlock=some g\/w.heap.size<=g)/\aE (fun k=>k=fb) w x):=
   ⟨⟨X.tv,v,by unfold eT; rw[zJ bj]; exact y,fun g A=>Or.inl A⟩,aE.of_below aI⟩
  clear v y u aI;simp only[aR]
  go_wp2_with fail
  exact zL (yY results177 _ _ _) rfl ⟨rfl,aa cs⟩
 have aR:decide ((room:Int)<(a.size:Int))=false:=zG (by omega)
 have bo:eT room ts ⟨⟨c,j,d,f⟩,a,m⟩=evict room a.size (bm ts ⟨c,j,d,f⟩)++[⟨⟨c,j,d,f⟩,a,m⟩]:=by unfold eT; rw[zK bj]
 have b6:=ae bo
 have aB:=gJ fb X ts c j d f x v y (by omega)
 have bs:x.rangeAt w.heap.size 0 #[Value.int .i64 c,.int .i64 j,.int .i64 d,.int .i64 f].toList:=rng4 (t:=⟨⟨c,j,d,f⟩,a,m⟩) (ao u);have Y:=ae u;have ca:=ae aI;clear v y u aI bo;simp only[aR]
 go_wp2_with (refine vM bs rfl _ rfl rfl ?_)
 refine aB.mono ?_;rintro e n ⟨rfl,⟨a4,E,F,G⟩,C⟩
 have cn:w.heap.size≠fb:=by omega
 have bx:=aQ (aa Y) C cn;have bi:aE (fun k=>k=fb) w n:=(aE.of_below (aa ca)).then C (fun _ _ h=>h);have bk:aA (bm ts ⟨c,j,d,f⟩)<=100000000:=zF (eo (eK _ _)) (aa cb);have bp:(bm ts ⟨c,j,d,f⟩).length<=1000000:=zF (eL _ _) cv
 have ct:Hid (∃(r:Value) (l:List aL),aq n fb { X with tv:=r }/\ah aW 196 n r l/\(∀g,r.ownBlock=some g->w.heap.size+1<=g)/\evict room a.size l=evict room a.size (bm ts ⟨c,j,d,f⟩)/\l.length<=1000000/\aA l<=100000000/\n.heap[w.heap.size]?=some (.cells #[c,j,d,f,a,m] 196)/\aE (fun k=>k=fb) w n):=
  ⟨a4,_,E,F,fun g A=>by have:=G g A; omega,rfl,bp,bk,bx,bi⟩
 clear aB bs E F G C bx bi bk bp
 go_wp2
 go_loopw [4] (fun _ wr=>Hid (∃(r:Value) (l:List aL),aq wr fb { X with tv:=r }/\ah aW 196 wr r l/\(∀g,r.ownBlock=some g->w.heap.size+1<=g)/\evict room a.size l=evict room a.size (bm ts ⟨c,j,d,f⟩)/\l.length<=1000000/\aA l<=100000000/\wr.heap[w.heap.size]?=some (.cells #[c,j,d,f,a,m] 196)/\aE (fun k=>k=fb) w wr)) (fun _ wr=>tlen fb wr)
 ·exact ct
 obtain⟨r,l,z,R,N,ax,bq,bl,P,Q⟩:=aa hrel;have cA:w.heap.size<wr.heap.size:=an P;have a3:=tlen_eq z R.at;obtain⟨cw,cap,aK,b7,hm,a8⟩:=R.at
 have aU:∀o,Below wr.heap.size wr o->o.cell? ⟨fb,10,none⟩=some (.int .i64 room):=fun o h=>by rw[<-aa ch]; exact(aq.cells (ag z h)).2.2.2.2.2.2.2.2.2.2.1
 have ar:∀o,Below wr.heap.size wr o->o.cell? ⟨fb,11,none⟩=some (.slice cw l.length cap):=fun o h=>by rw[<-aK]; exact(aq.cells (ag z h)).2.2.2.2.2.2.2.2.2.2.2
 have a6:∀o,Below wr.heap.size wr o->o.cell? ⟨w.heap.size,4,none⟩=some (.string a):=fun o h=>(af (ag P h) 4).trans rfl
 have a5:=fun q=>nV fb { X with tv:=r } l (wr.drewN q) (ag z (nc wr q)) (R.at.on (nc wr q)) (by omega) (by omega)
 have bR:∀o,Below wr.heap.size wr o->o.rangeAt w.heap.size 0 (#[c,j,d,f,a,m]:Array Value).toList:=fun o h=>ao (ag P h)
 have al:Hid (evict room a.size l=l->∀aj,Below wr.heap.size wr aj->(∃r:Value,aq aj fb { X with tv:=r }/\ah aW 196 aj r (evict room a.size (bm ts ⟨c,j,d,f⟩))/\(∀g,r.ownBlock=some g->w.heap.size+1<=g)/\aj.heap[w.heap.size]?=some (.cells #[c,j,d,f,a,m] 196)/\aE (fun k=>k=fb) w aj)):=
  fun q aj aN=>⟨r,ag z aN,by rw[<-ax,q]; exact R.on aN,N,ag P aN,Q.then (aE.of_below aN) (fun _ _ h=>h)⟩
 have cx:(evict room a.size (bm ts ⟨c,j,d,f⟩)).length<=1000000:=by rw[<-ax]; exact zF (fj room a.size _ l aD).1.length_le bq
 rcases hus:l with _|⟨⟨⟨ab,ai,ac,ad⟩,cu,ck⟩,rest⟩
 case' nil=>
  have bW:l.length=0:=by rw[hus]; rfl
  have az:=ae (aa al (by rw[hus]; exact evict_nil _ _))
  rw[bW] at ar;clear z R N ax bl P Q a8 a5 aU a6 bR al hrel hus bW a3 bq aK b7 hm;have I:=ar wr bu
  go_wp2_with fail
  go_quiet (fail)
  have s:=nc wr nq;obtain⟨U,v,y,ak,u,M⟩:=aa az (wr.drewN nq) s;generalize wr.drewN nq=x at v y u M ⊢;have Y:=ae u;have aF:=ae v;have bv:=ae y;have be:=ae ak;have W:=ae M;clear v y ak u M az s ar I
 case' cons=>
  have cz:(0:Int)<l.length:=by rw[hus]; simp
  have cE:IntKind.i64.wrap ((aA l:Int)+(a.size:Int))=(aA l:Int)+(a.size:Int):=bG _ (by omega)
  obtain⟨b,off,co,cl,bE⟩:=a8 (by omega)
  have aC:=rng4 (bL.tile bE (show l[0]?=some ⟨⟨ab,ai,ac,ad⟩,cu,ck⟩ by rw[hus]; rfl))
  rw[Nat.zero_mul,yG] at aC;dsimp only at aC;subst co;have aS:=ae (show aq wr fb { X with tv:=r }/\ah aW 196 wr r l/\(∀g,r.ownBlock=some g->w.heap.size+1<=g)/\wr.heap[w.heap.size]?=some (.cells #[c,j,d,f,a,m] 196)/\aE (fun k=>k=fb) w wr from⟨z,R,N,P,Q⟩);have O:=ae hus;have aT:=ae ax;have bw:=ae a3;have cc:=ae aK;clear z R N P Q a8 bE bR hrel hus ax a3 aK;have ap:=aU wr bu;have I:=ar wr bu;have bQ:=a6 wr bu;have aJ:∀q,Calls prog 109 #[.pointer (some ⟨fb,10,none⟩)] (wr.drewN q) fun e w'=>e=.returned (.int .i64 (aA l))/\wr.drewN q=w':=a5
  have cp:0<l.length:=by omega
  have cD:decide (0<l.length)=true:=zU cp;clear aU ar a6
  by_cases Z:room<aA l+a.size
  ·have b8:(room:Int)<(aA l:Int)+(a.size:Int):=by omega
   have bn:evict room a.size (bm l ⟨ab,ai,ac,ad⟩)=evict room a.size (bm ts ⟨c,j,d,f⟩):=by
    rw[<-aa aT,aa O];rw[aa O] at Z;exact(evict_go Z).symm
   have bc:(bm l ⟨ab,ai,ac,ad⟩).length<l.length:=by rw[aa O]; exact outT_less _ _
   have ba:aA (bm l ⟨ab,ai,ac,ad⟩)<=100000000:=zF (eo (eK _ _)) bl;obtain⟨bS,bT,cF,bU,bV⟩:=aa aS;have b3:=ae bn;have bb:=ae bc;have b2:=ae ba;clear al aT aS O Z bn bc ba;have s:=fun q=>nc wr q
   go_wp2_with fail
   go_quiet (exact(aJ _).mono fun e w' h=>⟨h.1,_,h.2.symm⟩)
   have v:=ag bS (s nq);have y:=bT.on (s nq);have u:=ag bU (s nq);have aX:=bV.then (aE.of_below (s nq)) (fun _ _ h=>h);have br:=dA aC (s nq) cl;generalize wr.drewN nq=x at v y u aX br ⊢
   have I:x.cell? ⟨fb,11,none⟩=some (.slice (some ⟨b,off,none⟩) l.length cap):=by rw[<-aa cc]; exact(aq.cells v).2.2.2.2.2.2.2.2.2.2.2
   have D:=(zV x.heap.size x).alloc aD (.cells #[ab,ai,ac,ad] 39)
   have aB:=gJ fb { X with tv:=r } l ab ai ac ad _ (ag v D) (y.on D) (by omega)
   have Y:=ae (ag u D);have aF:=ae (aX.then (aE.of_below D) (fun _ _ h=>h));have bt:w.heap.size<x.heap.size:=an u;clear v y u aX D bS bT bU bV s ap bQ aJ a5 aC
   go_wp2_with (refine vM br rfl _ rfl rfl ?_)
   refine aB.mono ?_;rintro e n ⟨rfl,⟨a4,E,F,G⟩,C⟩
   have cj:Hid (∃(r:Value) (l:List aL),aq n fb { X with tv:=r }/\ah aW 196 n r l/\(∀g,r.ownBlock=some g->w.heap.size+1<=g)/\evict room a.size l=evict room a.size (bm ts ⟨c,j,d,f⟩)/\l.length<=1000000/\aA l<=100000000/\n.heap[w.heap.size]?=some (.cells #[c,j,d,f,a,m] 196)/\aE (fun k=>k=fb) w n):=
    ⟨a4,_,E,F,fun g A=>by have:=G g A; simp at this; omega,aa b3,by have:=aa bb; omega,aa b2,aQ (aa Y) C (by omega),(aa aF).then C (fun _ _ h=>h)⟩
   have ci:=ae (tlen_eq E F.at);clear aB E F G C I
   go_wp2
   go_roundw
   ·exact cj
   have cG:=aa ci;have cH:=aa bw;have cI:=aa bb;omega
  have b8:¬(room:Int)<(aA l:Int)+(a.size:Int):=by omega
  have az:=ae (aa al (by rw[aa O]; rw[aa O] at Z; exact evict_stop Z))
  clear al aT aS O bw Z
  go_wp2_with fail
  go_quiet (exact(aJ _).mono fun e w' h=>⟨h.1,_,h.2.symm⟩)
  have s:=nc wr nq;obtain⟨U,v,y,ak,u,M⟩:=aa az (wr.drewN nq) s;generalize wr.drewN nq=x at v y u M ⊢;have Y:=ae u;have aF:=ae v;have bv:=ae y;have be:=ae ak;have W:=ae M;clear v y ak u M az s ap I bQ aJ
 all_goals
  go_wp2_with fail
  refine z8 (S:=fun w'=>w'.heap[w.heap.size]?=some (.cells #[c,j,d,f,a,m] 196)) (by kernel_rfl) ?_
  change wpAnyH _ _ _ _ _ _ _ _ (World.drew _);have H:(World.drew x).heap[w.heap.size]?=some (.cells #[c,j,d,f,a,m] 196):=aa Y;have E:aq (World.drew x) fb { X with tv:=U }:=aa aF;have F:ah aW 196 (World.drew x) U (evict room a.size (bm ts ⟨c,j,d,f⟩)):=aa bv;have C:aE (fun k=>k=fb) w (World.drew x):=⟨(aa W).os,(aa W).tape,(aa W).output,(aa W).size,(aa W).block⟩;have G:=aa be;generalize World.drew x=n at H E F C ⊢;have cm:w.heap.size<n.heap.size:=an H;have bJ:fb<n.heap.size:=an E;have I:n.cell? ⟨fb,11,none⟩=some U:=(af E 11).trans rfl;have D:=(zV n.heap.size n).alloc aD (.cells #[c,j,d,f,a,m] 196);have aw:=ag H D;have a0:=ag E D;have bg:=(D.cell (p:=⟨fb,11,none⟩) bJ).trans I;have bC:=aZ aW 196 n ⟨⟨c,j,d,f⟩,a,m⟩ #[c,j,d,f,a,m] rfl;have a1:=F.on D
  obtain⟨cJ,V,b0,aO,aP,b1⟩:=mz a1 bC (by simp; omega)
  have av:=(aP.block w.heap.size (by simp; omega) (fun q=>by have:=G w.heap.size q.symm; omega)).trans aw
  have z:aq V fb { X with tv:=U }:=(aP.block fb (by simp; omega) (fun q=>au a1 a0 (by decide) fb q.symm rfl)).trans a0
  have bK:=jU z 11;have bf:V.cell? ⟨fb,11,none⟩=some U:=(af z 11).trans rfl
  have Q:=(C.then (aE.of_below D) (fun _ _ h=>h)).grown aP (fun g A cC=>by have:=G g A; omega)
  have N:=bN (B:=w.heap.size) (fun g A=>by have:=G g A; omega) b1 (by simp; have:=C.size; omega)
  obtain⟨J,L,K,rfl⟩:=aO.sl;have bF:=aq.set z 11 (.slice J L K) (FV.set_tv { X with tv:=U } _)
  have bO:ah aW 196 (V.setCell ⟨fb,11,none⟩ (.slice J L K)) (.slice J L K) _:=aO.same (fun g A=>zW _ _ _ _ (au aO z (by decide) g A))
  have bz:=Q.setCell (p:=⟨fb,11,none⟩) (.slice J L K) (fun _=>rfl)
  have bA:=(zW V ⟨fb,11,none⟩ (.slice J L K) w.heap.size (by show w.heap.size≠fb; omega)).trans av
  have ce:=ae bF;have cg:=ae bO;have b4:=ae bz;have b5:=ae N;obtain⟨bP,bZ,bY,rfl⟩:=F.sl;refine am 0 rfl fb 10 H ?_;refine am 1 rfl fb 10 H ?_;refine am 2 rfl fb 10 H ?_;refine am 3 rfl fb 11 H ?_;refine aH 5 rfl (.agg #[c,j,d,f,a,m]) H ?_ (hy:=fun w' ay=>jT _ _ _ 196 rfl _ rfl _ underlying196 rfl (d9 (some ⟨⟨c,j,d,f⟩,a,m⟩)) w.heap.size 0 rfl _ (ao ay))
  refine y6 (rs:=[4,6]) (by kernel_rfl) (by simp) ?_
  intro i hi;simp only[zv,yT,or_false] at hi
  rcases hi with rfl|rfl
  focus
   refine bI 4 rfl rfl (.slice bP bZ bY) (n) (by simp[go_sem,I]) (H) ?_
   simp only[qZ];refine aV 6 ?_;refine bI 6 rfl rfl (.slice (some ⟨n.heap.size,0,none⟩) 1 1) (n.alloc (.cells #[c,j,d,f,a,m] 196)) (jt c j d f a m _ _ _ rfl rfl _) (aw) ?_
  rotate_left
  focus
   refine bI 6 rfl rfl (.slice (some ⟨n.heap.size,0,none⟩) 1 1) (n.alloc (.cells #[c,j,d,f,a,m] 196)) (jt c j d f a m _ _ _ rfl rfl _) (aw) ?_;simp only[qZ];refine aV 4 ?_
   refine bI 4 rfl rfl (.slice bP bZ bY) (n.alloc (.cells #[c,j,d,f,a,m] 196)) (by simp[go_sem,bg]) (aw) ?_
  all_goals
   simp only[qZ];refine aV 7 ?_;refine bI 7 rfl rfl (.slice J L K) (V) (exR 123 b0 _ _ _ _ rfl rfl rfl rfl) (av) ?_;simp only[qZ];refine am 8 rfl fb 10 av ?_;refine am 9 rfl fb 11 av ?_;refine aV 10 ?_
   refine cL 10 rfl rfl (V.setCell ⟨fb,11,none⟩ (.slice J L K)) (stS _ _ _ _ 123 rfl (fun _=>by simp[go_sem]) fb 11 J L K rfl rfl V bf bK) (bA) ?_
   simp only[Act.put]
   refine zm (by kernel_rfl) ?_ _
   clear H E F C cm bJ I D aw a0 bg bC a1 b0 aP b1 av z bK bf Q bF bO bz bA N aO G
   go_wp2_with fail
   exact yB (yY results177 _ _ _) rfl ⟨rfl,⟨_,aa ce,(aa b6).symm▸aa cg,fun g A=>Or.inr (aa b5 g A)⟩,aa b4⟩
theorem it {l:List Oper}{b:Exit->Act->World->Prop}{S:World->Prop}{c:Array Bool}{a:Act}{w:World}{d:Nat}{o:Oper}{rest:List Oper}(i:Nat)(n:l.drop i=o::rest)(hw:Region.wanted o (yielded l.toArray a.tmps)=true)(f:FuncId)(args:Array Value)(k:(execOp a.eval o).run prog w=.ok (.enter f args) w)(v:Value)(R:World->Prop)
  (m:Calls prog f args w fun e w'=>e=.returned v/\R w') (h:∀w',R w'->S w'/\wpAnyH prog .any l.toArray b S d (c.setIfInBounds i true) (a.put o.dst v) w') :
  wpOp prog l.toArray b i (fun g w'=>S w'/\wpAnyH prog .any l.toArray b S d (c.setIfInBounds i true) g w') a w:=by
 unfold wpOp;simp only[gw n];rw[zJ hw]
 left
 unfold Oper.wp;rw[k]
 exact m.mono fun e w' ⟨j,e2⟩=>by subst j; exact h w' e2
theorem kS (fb:Nat)(X:FV)(ver a:Int)(sl pv:Value)(LS Z:List Ft)(ts:List aL)(w:World)(x:aq w fb X)(S:dD w X.sb 0 ver sl pv LS Z)(aw:LS.length<=1000)(am:0<=ver)(aN:0<=a/\a<=1000)(af:ah aW 196 w X.tv ts)(E:∀t∈ts,dy t.k)(aM:ts.length<=10000000):
  Calls prog 94 #[some fb,a] w fun e w'=>e=.returned (.tuple #[])/\(∃m,aq w' fb { X with tv:=m }/\ah aW 196 w' m (ts.filter fun t=>decide (eA ver t.k LS<=a-1))/\∀g,m.ownBlock=some g->w.heap.size<=g)/\aE (fun k=>k=fb) w w':=by
 have I:=an x;obtain⟨aF,cap,e,aJ,hm,ad⟩:=af.at;have ay:=ae ad;have Y:=ae x;have av:=ae S;have aA:=ae E;unfold maxLen at hm
 have ac:=cr (R:=aW) (T:=196) w [] #[] rfl (by simp)
 have M:=(zV w.heap.size w).alloc aD (.cells #[] 196);have aB:=ae ac;have ao:=ae M
 have ab:w.cell? ⟨fb,11,none⟩=some (.slice aF ts.length cap):=by rw[<-e]; exact x.cells.2.2.2.2.2.2.2.2.2.2.2
 have L:=ae ab
 have aP:IntKind.i64.wrap (a-1)=a-1:=bG _ (by omega)
 clear x af ad ac M e ab S E;go_enter func94,ntmps94
 go_wp2
 go_loopw [4,5] (fun lv i wr=>∃k:Nat,k<=ts.length/\i=.int .i64 k/\ah aW 196 wr lv ((ts.take k).filter fun t=>decide (eA ver t.k LS<=a-1))/\Hid (∀g,lv.ownBlock=some g->w.heap.size<=g)/\Below w.heap.size w wr) (fun _ i _=>ts.length-(intOf i).toNat)
 ·exact⟨0,by omega,rfl,by simpa using aa aB,ae (fun g v=>by simp[Value.ownBlock] at v; omega),aa ao⟩
 obtain⟨k,E,rfl,q,u,c⟩:=hrel;have aO:=c.size;have aH:=(c.cell (p:=⟨fb,11,none⟩) I).trans (aa L)
 by_cases ax:k<ts.length
 ·have D:(k:Int)<ts.length:=by omega
  obtain⟨b,off,rfl,O,P⟩:=aa ay (by omega)
  obtain⟨⟨⟨d,j,f,h⟩,n,o⟩,F⟩:∃t,ts[k]?=some t:=⟨_,zQ ax⟩;have Q:=aa aA _ (zR F);dsimp only at Q;have z:w.rangeAt b (off+k*6) (tv (some ⟨⟨d,j,f,h⟩,n,o⟩)).toList:=bL.tile P F;have J:=rng4 (dA z c O);have V:=eU fb X ver sl pv LS Z d j f h (a-1) wr (ag (aa Y) c) ((aa av).on c) aw Q am;have W:=ae c;have au:=ae z;have aC:=ae q;clear c P z q
  go_wp2_with (refine vM J rfl _ rfl rfl ?_)
  refine V.mono ?_;rintro e aI ⟨rfl,B⟩;have s:=(aa W).trans (B.mono (aa W).size);have ak:=dA (aa au) s O;have aT:=(s.cell (p:=⟨fb,11,none⟩) I).trans (aa L);have r:=(aa aC).on B;have al:=s.size;have K:=ae s;have l:=dN (fun t:aL=>decide (eA ver t.k LS<=a-1)) F;dsimp only at l;clear V B s J aH
  cases y:decide (eA ver ⟨d,j,f,h⟩ LS<=a-1) with
  | true=>
   rw[zJ y] at l;have N:=aZ aW 196 aI ⟨⟨d,j,f,h⟩,n,o⟩ #[d,j,f,h,n,o] rfl;have H:=r.on (bu.alloc aD (.cells #[d,j,f,h,n,o] 196))
   obtain⟨aU,aV,aG,G,ai,aj⟩:=mz H N (by have:=ze (fun t:aL=>decide (eA ver t.k LS<=a-1)) (ts.take k); simp at this ⊢; omega)
   rw[<-l] at G;have A:=ae G
   have ap:=ae (((aa K).alloc al (.cells #[d,j,f,h,n,o] 196)).grown ai (by simp; omega) (fun g v=>aa u g v))
   have ar:=ae (bN (aa u) aj (by simp; omega))
   clear r N H G ai aj l y
   go_wp2_with (first|refine bU 196 (tv (some ⟨⟨d,j,f,h⟩,n,o⟩)) underlying196 rfl (d9 _) b (off+k*6) ak rfl _ rfl rfl ?_|refine cP _ _ (jt d j f h n o _ _ _ rfl rfl _) rfl ?_|(at_builtin; refine fS 123 aG rfl _ _ rfl rfl rfl rfl ?_))
   go_roundw
   ·exact⟨k+1,by omega,by go_num,aa A,aa ar,aa ap⟩
   simp[intOf]; omega
  | false=>
   rw[zK (by rw[y]; simp),yW] at l
   rw[<-l] at r;have A:=ae r;clear r l y
   go_wp2
   go_roundw
   ·exact⟨k+1,by omega,by go_num,aa A,u,aa K⟩
   simp[intOf]; omega
 have D:k=ts.length:=by omega
 have C:=ag (aa Y) c;have aK:=jU C 11
 have U:ts.take k=ts:=by rw[D,zx]
 rw[U] at q
 have az:Hid ((∃m,aq (wr.setCell ⟨fb,11,none⟩ u4) fb { X with tv:=m }/\ah aW 196 (wr.setCell ⟨fb,11,none⟩ u4) m (ts.filter fun t=>decide (eA ver t.k LS<=a-1))/\∀g,m.ownBlock=some g->w.heap.size<=g)/\aE (fun k=>k=fb) w (wr.setCell ⟨fb,11,none⟩ u4)):=
  ⟨⟨u4,aq.set C 11 u4 (FV.set_tv X u4),q.same (fun g v=>zW _ _ _ _ (by have:=aa u g v; show g≠fb; omega)),aa u⟩,(aE.of_below c).setCell u4 (fun _=>rfl)⟩
 obtain⟨aQ,aS,aR,rfl⟩:=q.sl;clear q c C U;subst D
 go_wp2_with fail
 exact yB (yY results94 _ _ _) rfl ⟨rfl,aa az⟩
theorem dD.frm {w w':World}{c:Nat}{d ver:Int}{sl pv:Value}{LS e:List (Nat->Int)}{S:Nat->Prop}(h:dD w c d ver sl pv LS e)(b:aE S w w')(f:¬S c)(i:∀g,sl.ownBlock=some g->¬S g)(j:∀g,pv.ownBlock=some g->¬S g):dD w' c d ver sl pv LS e:=
 ⟨aQ h.blk b f,h.own.same fun g a=>b.block g (y9 h.own g a).2 (i g a),h.pins.same fun g a=>b.block g (y9 h.pins g a).2 (j g a)⟩
theorem dD.fb {w w':World}{i:Nat}{e ver:Int}{sl pv:Value}{LS f:List (Nat->Int)}{fb:Nat}{X:FV}(h:dD w i e ver sl pv LS f)(a:aq w fb X)(j:aE (fun k=>k=fb) w w'):dD w' i e ver sl pv LS f:=by
 refine h.frm j (aI h.blk a (by decide)) (fun g d=>?_) (fun g d=>?_)
 ·obtain⟨c,b⟩:=h.own.ty d; exact aI b a (by decide)
 obtain⟨c,b⟩:=h.pins.ty d; exact aI b a (by decide)
def cR (ver:Int)(LS:List Ft)(room:Nat)(reads:Int)(cs ts:List aL):List aL:=ts.foldl (fun c t=>if decide (eA ver t.k LS<=reads) then eT room c t else c) cs
theorem layUl_snoc {ver:Int}{LS:List Ft}{room:Nat}{reads:Int}{cs ts:List aL}{k:Nat}{t:aL}(h:ts[k]?=some t):cR ver LS room reads cs (ts.take (k+1))=if decide (eA ver t.k LS<=reads) then eT room (cR ver LS room reads cs (ts.take k)) t else cR ver LS room reads cs (ts.take k):=by
 unfold cR;rw[be h,List.foldl_append];rfl
theorem layT_bytes (room:Nat)(ts:List aL)(t:aL):aA (eT room ts t)<=max (aA ts) room:=by
 unfold eT
 split
 ·exact Nat.le_max_left _ _
 have:=(fj room t.body.size _ (bm ts t.k) aD).2 (by omega)
 rw[ep];simp only[aA];have:=Nat.le_max_right (aA ts) room;omega
theorem layT_len (room:Nat)(ts:List aL)(t:aL):(eT room ts t).length<=ts.length+1:=by
 unfold eT
 split
 ·omega
 have:=(fj room t.body.size _ (bm ts t.k) aD).1.length_le;have:=eL ts t.k
 simp; omega
theorem kq (fb:Nat)(X:FV)(room:Nat)(ver reads:Int)(sl pv:Value)(LS aQ:List Ft)(cs ts:List aL)(aM:Value)(w:World)(K:aq w fb X)(aF:X.rm=room)(aG:dD w X.sb 0 ver sl pv LS aQ)(a4:LS.length<=1000)(aX:0<=ver)(aS:ah aW 196 w X.tv cs)(U:ah aW 196 w aM ts)(ac:∀t∈ts,dy t.k/\t.body.size<=1000000)(bg:cs.length<=1000)(bl:ts.length<=1000)(a7:aA cs<=1000000)(bm:room<=1000000):
  Calls prog 144 #[some fb,aM,reads] w fun e w'=>e=.returned (.tuple #[])/\(∃c,aq w' fb { X with tv:=c }/\ah aW 196 w' c (cR ver LS room reads cs ts)/\∀g,c.ownBlock=some g->X.tv.ownBlock=some g\/w.heap.size<=g)/\aE (fun k=>k=fb) w w':=by
 have bj:=an K
 have R:=au U K (by decide)
 obtain⟨bo,cap,e,bi,hm,aR⟩:=U.at;have bc:=ae aR;have aO:=ae K;have a3:=ae aG;have be:=ae ac;have bf:=ae aS;have a2:=ae aF;unfold maxLen at hm;rw[e] at R;have a0:=ae R;clear K aS U aR aG ac aF R;subst e;go_enter func144,ntmps144
 go_wp2
 go_loopw [6] (fun i wr=>∃(k:Nat) (d:Value),k<=ts.length/\i=.int .i64 k/\Hid (aq wr fb { X with tv:=d }/\ah aW 196 wr d (cR ver LS room reads cs (ts.take k))/\(∀g,d.ownBlock=some g->X.tv.ownBlock=some g\/w.heap.size<=g)/\(cR ver LS room reads cs (ts.take k)).length<=1000+k/\aA (cR ver LS room reads cs (ts.take k))<=1000000/\aE (fun k=>k=fb) w wr)) (fun i _=>ts.length-(intOf i).toNat)
 ·exact⟨0,X.tv,by omega,rfl,ae ⟨aa aO,by simpa[cR] using aa bf,fun g Z=>Or.inl Z,by simpa[cR] using bg,by simpa[cR] using a7,aE.rfl' _ _⟩⟩
 obtain⟨k,d,ac,rfl,ab⟩:=hrel;obtain⟨y,A,J,W,Y,s⟩:=aa ab
 by_cases a8:k<ts.length
 ·have I:(k:Int)<ts.length:=by omega
  obtain⟨b,off,rfl,a6,az⟩:=aa bc (by omega)
  obtain⟨⟨⟨f,n,l,m⟩,o,p⟩,ad⟩:∃t,ts[k]?=some t:=⟨_,zQ a8⟩;obtain⟨aB,aI⟩:=aa be _ (zR ad);dsimp only at aB aI;have a5:b≠fb:=aa a0 b rfl
  have V:∀ai,aE (fun k=>k=fb) w ai->ai.rangeAt b (off+k*6) (tv (some ⟨⟨f,n,l,m⟩,o,p⟩)).toList:=fun ai h j u bh=>by
   rw[zP (a:=⟨b,off+k*6+j,none⟩) (h.block b a6 a5)]; exact bL.tile az ad j u bh
  have ak:=rng4 (V wr s);have al:=(aa a3).fb (aa aO) s;have aN:=eU fb { X with tv:=d } ver sl pv LS aQ f n l m reads wr y al a4 aB aX;have r:=layUl_snoc (ver:=ver) (LS:=LS) (room:=room) (reads:=reads) (cs:=cs) ad;dsimp only at r;have bd:=ae (show aq wr fb { X with tv:=d }/\ah aW 196 wr d (cR ver LS room reads cs (ts.take k))/\aE (fun k=>k=fb) w wr from⟨y,A,s⟩);have aw:=ae V;have ao:=ae J;have ap:=ae W;have ar:=ae Y;clear az y A J W Y s ab V al
  go_wp2_with (refine vM ak rfl _ rfl rfl ?_)
  refine aN.mono ?_;rintro e x ⟨rfl,D⟩;obtain⟨y,A,s⟩:=aa bd;have H:=ag y D;have E:=A.on D;have C:=s.then (aE.of_below D) (fun _ _ h=>h);have bn:w.heap.size<=wr.heap.size:=s.size;have bk:=D.size;clear aN D ak y A s
  cases L:decide (eA ver ⟨f,n,l,m⟩ LS<=reads) with
  | false=>
   rw[zK (by rw[L]; simp)] at r
   rw[<-r] at E
   have F:Hid (aq x fb { X with tv:=d }/\ah aW 196 x d (cR ver LS room reads cs (ts.take (k+1)))/\(∀g,d.ownBlock=some g->X.tv.ownBlock=some g\/w.heap.size<=g)/\(cR ver LS room reads cs (ts.take (k+1))).length<=1000+(k+1)/\aA (cR ver LS room reads cs (ts.take (k+1)))<=1000000/\aE (fun k=>k=fb) w x):=
    ⟨H,E,aa ao,by rw[r]; have:=aa ap; omega,by rw[r]; exact aa ar,C⟩
   clear H E C r L
   go_wp2
   go_roundw
   ·exact⟨k+1,d,by omega,by go_num,F⟩
   simp[intOf]; omega
  | true=>
   rw[zJ L] at r;have aC:=layT_bytes room (cR ver LS room reads cs (ts.take k)) ⟨⟨f,n,l,m⟩,o,p⟩;have aD:=layT_len room (cR ver LS room reads cs (ts.take k)) ⟨⟨f,n,l,m⟩,o,p⟩;rw[<-r] at aC aD;have aj:=aa aw x C;have aY:=ae H;have a1:=ae E;have B:=ae C;have aZ:=ae r;clear H E C r L
   go_wp2_with fail
   refine z8 (S:=fun w'=>w'.rangeAt b (off+k*6) (tv (some ⟨⟨f,n,l,m⟩,o,p⟩)).toList) (by kernel_rfl) ?_
   change wpAnyH _ _ _ _ _ _ _ _ (World.drew _);have v:(World.drew x).rangeAt b (off+k*6) (tv (some ⟨⟨f,n,l,m⟩,o,p⟩)).toList:=aj;have Q:aq (World.drew x) fb { X with tv:=d }:=aa aY;have T:ah aW 196 (World.drew x) d (cR ver LS room reads cs (ts.take k)):=aa a1;have G:aE (fun k=>k=fb) w (World.drew x):=⟨(aa B).os,(aa B).tape,(aa B).output,(aa B).size,(aa B).block⟩;generalize World.drew x=af at v Q T G ⊢;have a9:=aa ap;have ba:=aa ar
   have aP:=lay_any fb { X with tv:=d } room _ f n l m o p af Q (aa a2) T (by omega) (by omega) aI
   have av:Hid (∀q,((∃c,aq q fb { X with tv:=c }/\ah aW 196 q c (eT room (cR ver LS room reads cs (ts.take k)) ⟨⟨f,n,l,m⟩,o,p⟩)/\∀g,c.ownBlock=some g->d.ownBlock=some g\/af.heap.size<=g)/\aE (fun k=>k=fb) af q)->q.rangeAt b (off+k*6) (tv (some ⟨⟨f,n,l,m⟩,o,p⟩)).toList/\∃c,aq q fb { X with tv:=c }/\ah aW 196 q c (cR ver LS room reads cs (ts.take (k+1)))/\(∀g,c.ownBlock=some g->X.tv.ownBlock=some g\/w.heap.size<=g)/\(cR ver LS room reads cs (ts.take (k+1))).length<=1000+(k+1)/\aA (cR ver LS room reads cs (ts.take (k+1)))<=1000000/\aE (fun k=>k=fb) w q):=by
    rintro q ⟨⟨c,M,N,O⟩,P⟩;have zf:=G.then P (fun _ _ h=>h)
    refine⟨aa aw q zf,c,M,by rw[aa aZ]; exact N,fun g Z=>?_,by omega,by omega,zf⟩
    rcases O g Z with z|z
    ·exact aa ao g z
    right; have:=G.size; omega
   refine am 0 rfl fb 0 v ?_;refine am 1 rfl fb 0 v ?_;refine am 2 rfl fb 10 v ?_;refine aH 3 rfl (.slice (some ⟨b,off,none⟩) ts.length cap) v ?_;refine aH 4 rfl (.int .i64 k) v ?_
   refine am 5 rfl b (off+k*6) v ?_ (hy:=fun w' aK=>by simp[go_sem,I])
   refine aH 6 rfl (.agg (tv (some ⟨⟨f,n,l,m⟩,o,p⟩))) v ?_ (hy:=fun w' aK=>jT _ _ _ 196 rfl _ rfl _ underlying196 rfl (d9 (some ⟨⟨f,n,l,m⟩,o,p⟩)) b (off+k*6) rfl _ aK);refine aV 7 ?_
   refine it 7 rfl rfl 177 #[.pointer (some ⟨fb,10,none⟩),.agg #[f,n,l,m,o,p]] (by simp[go_sem,tv]) (.tuple #[]) _ aP ?_
   intro q ax;obtain⟨ay,bb,M,N,O,P,aT,aU⟩:=aa av q ax;refine⟨ay,?_⟩;simp only[qZ]
   refine zm (by kernel_rfl) ?_ _
   have F:=ae (And.intro M (And.intro N (And.intro O (And.intro P (And.intro aT aU)))));clear v Q T G aP ax ay M N O P aT aU av aj aC aD a9 ba
   go_wp2
   go_roundw
   ·exact⟨k+1,bb,by omega,by go_num,F⟩
   simp[intOf]; omega
 have I:k=ts.length:=by omega
 have aJ:ts.take k=ts:=by rw[I,zx]
 rw[aJ] at A;have F:=ae (show(∃c,aq wr fb { X with tv:=c }/\ah aW 196 wr c (cR ver LS room reads cs ts)/\∀g,c.ownBlock=some g->X.tv.ownBlock=some g\/w.heap.size<=g)/\aE (fun k=>k=fb) w wr from⟨⟨d,y,A,J⟩,s⟩);clear y A J W Y s ab aJ;subst I
 go_wp2_with fail
 exact yB (yY results144 _ _ _) rfl ⟨rfl,aa F⟩
namespace Dw
namespace Pp
def cutL (m:UInt8):List UInt8->List UInt8 × List UInt8
 | []=>([],[])
 | c::r=>if c=m then ([],r) else (c::(cutL m r).1,(cutL m r).2)
theorem cutL_none (a:UInt8):∀l:List UInt8,a∉l->cutL a l=(l,[])
 | [],_=>rfl
 | c::f,h=>by
  have b:c≠a:=fun e=>h (by simp[e])
  have d:=cutL_none a f (fun e=>h (by simp[e]))
  simp[cutL,b,d]
theorem cutL_found (b:UInt8)(d:List UInt8):∀a:List UInt8,b∉a->cutL b (a++b::d)=(a,d)
 | [],_=>by simp[cutL]
 | c::a,h=>by
  have f:c≠b:=fun e=>h (by simp[e])
  have g:=cutL_found b d a (fun e=>h (by simp[e]))
  simp[cutL,f,g]
theorem fm (a:UInt8):∀l:List UInt8,(cutL a l).2≠[]->l=(cutL a l).1++a::(cutL a l).2
 | [],h=>by simp[cutL] at h
 | c::e,h=>by
  by_cases b:c=a
  ·simp[cutL,b]
  simp only[cutL,b,if_false] at h ⊢;have d:=fm a e h;rw[yj,<-d]
def within (lo hi:Nat)(l:List UInt8):Bool:=l.all fun c=>decide (lo<=c.toNat/\c.toNat<=hi)
def nameB (l:List UInt8):Bool:=decide (1<=l.length/\l.length<=8) && within 97 122 l
def numB (l:List UInt8):Bool:=decide (1<=l.length/\l.length<=9) && (!(decide (1<l.length) && (l.getD 0 0==48)) && within 48 57 l)
theorem i8 (lo hi:Nat)(l:List UInt8)(a:UInt8)(hm:a.toNat<lo\/hi<a.toNat)(h:within lo hi l=true):a∉l:=by
 intro b;simp only[within,zi,zN] at h;have:=h a b;omega
theorem oW (l:List UInt8)(h:nameB l=true):within 97 122 l=true:=by
 simp only[nameB,zl] at h; exact h.2
theorem numB_within (l:List UInt8)(h:numB l=true):within 48 57 l=true:=by
 simp only[numB,zl] at h; exact h.2.2
theorem numB_len (l:List UInt8)(h:numB l=true):1<=l.length/\l.length<=9:=by
 simp only[numB,zl,zN] at h; exact h.1
theorem name_47 (l:List UInt8)(h:nameB l=true):(47:UInt8)∉l:=i8 _ _ l 47 (Or.inl (by decide)) (oW l h)
theorem lV (l:List UInt8)(h:numB l=true):(47:UInt8)∉l:=i8 _ _ l 47 (Or.inl (by decide)) (numB_within l h)
theorem num_46 (l:List UInt8)(h:numB l=true):(46:UInt8)∉l:=i8 _ _ l 46 (Or.inl (by decide)) (numB_within l h)
def tile:List UInt8:=[116,105,108,101]
def dotTile:List UInt8:=[46,116,105,108,101]
abbrev Quad:=List UInt8 × List UInt8 × List UInt8 × List UInt8
def Form (p:List UInt8)(q:Quad):Prop:=
 p=47::(q.1++47::(q.2.1++47::(q.2.2.1++47::(q.2.2.2++46::tile))))/\nameB q.1=true/\numB q.2.1=true/\numB q.2.2.1=true/\numB q.2.2.2=true
def splitOk (a n z x y:List UInt8 × List UInt8):Bool:=decide (a.1=[]/\y.2=tile) && (nameB n.1 && (numB z.1 && (numB x.1 && numB y.1)))
def splitL (p:List UInt8):Option Quad:=
 let a:=cutL 47 p
 let n:=cutL 47 a.2
 let z:=cutL 47 n.2
 let x:=cutL 47 z.2
 let y:=cutL 46 x.2
 if splitOk a n z x y=true then some (n.1,z.1,x.1,y.1) else none
theorem kF (a n z x y:List UInt8 × List UInt8):splitOk a n z x y=true↔(a.1=[]/\y.2=tile)/\nameB n.1=true/\numB z.1=true/\numB x.1=true/\numB y.1=true:=by
 simp[splitOk]
theorem splitL_iff (p:List UInt8)(q:Quad):splitL p=some q↔Form p q:=by
 constructor
 ·intro h
  unfold splitL at h;simp only at h;generalize m:cutL 47 p=a at h;generalize o:cutL 47 a.2=n at h;generalize s:cutL 47 n.2=z at h;generalize r:cutL 47 z.2=x at h;generalize hy:cutL 46 x.2=y at h
  by_cases f:splitOk a n z x y=true
  ·rw[zJ f] at h
   obtain⟨⟨u,l⟩,b,c,d,e⟩:=(kF _ _ _ _ _).1 f
   have i:=fm 46 x.2 (by rw[hy,l]; decide)
   rw[hy,l] at i
   have g:=fm 47 z.2 (by rw[r,i]; simp)
   rw[r,i] at g
   have j:=fm 47 n.2 (by rw[s,g]; simp)
   rw[s,g] at j
   have en:=fm 47 a.2 (by rw[o,j]; simp)
   rw[o,j] at en
   have k:=fm 47 p (by rw[m,en]; simp)
   rw[m,u,en] at k;have v:=zu h;subst v
   exact⟨by simpa using k,b,c,d,e⟩
  rw[zK f] at h;cases h
 rintro⟨rfl,b,c,d,e⟩;obtain⟨n,z,x,y⟩:=q;simp only at b c d e ⊢;unfold splitL
 have t:cutL 47 (47::(n++47::(z++47::(x++47::(y++46::tile)))))=([],n++47::(z++47::(x++47::(y++46::tile)))):=by simp[cutL]
 simp only[t,cutL_found 47 _ n (name_47 n b),cutL_found 47 _ z (lV z c),cutL_found 47 _ x (lV x d),cutL_found 46 _ y (num_46 y e)];rw[zJ ((kF _ _ _ _ _).2 ⟨⟨rfl,rfl⟩,b,c,d,e⟩)]
def pieces:List UInt8->List (List UInt8)
 | []=>[[]]
 | c::r=>if c=47 then []::pieces r else (c::(pieces r).headD [])::(pieces r).tail
theorem pieces_ne:∀l,pieces l≠[]
 | []=>by simp[pieces]
 | c::r=>by unfold pieces; split<;>simp
theorem pieces_none:∀a:List UInt8,(47:UInt8)∉a->pieces a=[a]
 | [],_=>rfl
 | c::a,h=>by
  have b:c≠47:=fun e=>h (by simp[e])
  have d:=pieces_none a (fun e=>h (by simp[e]))
  simp[pieces,b,d]
theorem pieces_found (b:List UInt8):∀a:List UInt8,(47:UInt8)∉a->pieces (a++47::b)=a::pieces b
 | [],_=>by simp[pieces]
 | c::a,h=>by
  have d:c≠47:=fun e=>h (by simp[e])
  have f:=pieces_found b a (fun e=>h (by simp[e]))
  simp[pieces,d,f]
theorem kH:∀l,l=(pieces l).headD []++(pieces l).tail.flatMap (47::·)
 | []=>rfl
 | c::b=>by
  have a:=kH b;have f:=pieces_ne b
  by_cases d:c=47
  ·subst d
   simp only[pieces,if_true,List.headD_cons,List.tail_cons,yp]
   cases e:pieces b with
   | nil=>exact absurd e f
   | cons h t=>
    rw[e] at a;simp only[List.headD_cons,List.tail_cons] at a;rw[yv,yj,<-a]
  simp only[pieces,d,if_false,List.headD_cons,List.tail_cons,yj];rw[<-a]
def refOk (l:List (List UInt8)):Bool:=decide (l.length=5/\l.getD 0 []=[]) && (nameB (l.getD 1 []) && (numB (l.getD 2 []) && (numB (l.getD 3 []) && numB (l.getD 4 []))))
def refL (p:List UInt8):Option Quad:=
 if p.length<5\/p.drop (p.length-5)≠dotTile then none else
 let l:=pieces (p.take (p.length-5))
 if refOk l=true then some (l.getD 1 [],l.getD 2 [],l.getD 3 [],l.getD 4 []) else none
theorem refOk_iff (l:List (List UInt8)):refOk l=true↔(l.length=5/\l.getD 0 []=[])/\nameB (l.getD 1 [])=true/\numB (l.getD 2 [])=true/\numB (l.getD 3 [])=true/\numB (l.getD 4 [])=true:=by
 unfold refOk;simp only[zl,zN]
theorem refL_iff (p:List UInt8)(q:Quad):refL p=some q↔Form p q:=by
 constructor
 ·intro h
  unfold refL at h
  by_cases i:p.length<5\/p.drop (p.length-5)≠dotTile
  ·rw[zJ i] at h; cases h
  rw[zK i] at h;have j:¬p.length<5:=fun e=>i (Or.inl e);have w:p.drop (p.length-5)=dotTile:=Classical.not_not.1 (fun e=>i (Or.inr e));simp only at h;have m:=kH (p.take (p.length-5));generalize D:pieces (p.take (p.length-5))=l at h m
  by_cases k:refOk l=true
  ·rw[zJ k] at h
   obtain⟨⟨A,B⟩,b,c,d,f⟩:=(refOk_iff _).1 k
   match l,A with
   | [a,n,z,x,y],_=>
    have s:a=[]:=B;subst s;have C:=zu h;subst C;refine⟨?_,b,c,d,f⟩;have:=List.take_append_drop (p.length-5) p;rw[w,m] at this;rw[<-this];simp[dotTile,tile]
  rw[zK k] at h; cases h
 rintro⟨o,b,c,d,f⟩;obtain⟨n,z,x,y⟩:=q;simp only at o b c d f
 have g:p=(47::(n++47::(z++47::(x++47::y))))++dotTile:=by rw[o]; simp[dotTile,tile]
 have j:p.length-5=(47::(n++47::(z++47::(x++47::y)))).length:=by rw[g,zH]; simp[dotTile]
 have v:p.take (p.length-5)=47::(n++47::(z++47::(x++47::y))):=by rw[j,g]; exact List.take_left' rfl
 have t:p.drop (p.length-5)=dotTile:=by rw[j,g]; exact List.drop_left' rfl
 have u:pieces (47::(n++47::(z++47::(x++47::y))))=[[],n,z,x,y]:=by
  have e:=pieces_found (n++47::(z++47::(x++47::y))) [] (by simp)
  simp only[yp] at e;rw[e,pieces_found _ n (name_47 n b),pieces_found _ z (lV z c),pieces_found _ x (lV x d),pieces_none y (lV y f)]
 unfold refL
 have r:¬(p.length<5\/p.drop (p.length-5)≠dotTile):=by
  intro e
  rcases e with e|e
  ·rw[g] at e; simp[dotTile] at e; omega
  exact e t
 rw[zK r];simp only[v,u];rw[zJ ((refOk_iff [[],n,z,x,y]).2 ⟨⟨rfl,rfl⟩,b,c,d,f⟩)];rfl
theorem refL_eq (p:List UInt8):refL p=splitL p:=by
 cases h:splitL p with
 | some q=>exact(refL_iff p q).2 ((splitL_iff p q).1 h)
 | none=>
  cases a:refL p with
  | none=>rfl
  | some q=>
   have:=(splitL_iff p q).2 ((refL_iff p q).1 a);rw[h] at this;cases this
def valL (l:List UInt8):Nat:=l.foldl (fun n c=>10*n+(c.toNat-48)) 0
theorem valL_snoc (l:List UInt8)(c:UInt8):valL (l++[c])=10*valL l+(c.toNat-48):=by simp[valL]
theorem valL_lt (l:List UInt8)(h:within 48 57 l=true):valL l<10 ^ l.length:=by
 have key:∀(l:List UInt8) (n k:Nat),within 48 57 l=true->n<10 ^ k->l.foldl (fun n c=>10*n+(c.toNat-48)) n<10 ^ (k+l.length):=by
  intro l
  induction l with
  | nil=>intro n k _ a; simpa using a
  | cons c b d=>
   intro n k hw a;simp only[within,List.all_cons,zl,zN] at hw
   have:=d (10*n+(c.toNat-48)) (k+1) hw.2 (by rw[Nat.pow_succ]; omega)
   rw[List.foldl_cons,zS,show k+(b.length+1)=k+1+b.length from by omega]
   exact this
 have:=key l 0 0 h (by decide)
 simpa[valL] using this
def land:List UInt8:=[108,97,110,100]
def water:List UInt8:=[119,97,116,101,114]
def road:List UInt8:=[114,111,97,100]
def mark:List UInt8:=[109,97,114,107]
def names (i:Nat):List UInt8:=[land,water,road,mark].getD i []
def layerL (l:List UInt8):Int:=if l=land then 0 else if l=water then 1 else if l=road then 2 else if l=mark then 3 else -1
end Pp
theorem ret_str {a b:List UInt8}(h:a=b):Ending.returned (.string ⟨a.toArray⟩)=.returned (.string ⟨b.toArray⟩):=by rw[h]
theorem eg (s:ByteArray)(k:Nat)(h:k<s.size):s.data.toList.take (k+1)=s.data.toList.take k++[s[k]]:=by
 rw[List.take_succ_eq_append_getElem (by simpa using h)]; rfl
theorem dP (s:ByteArray)(k:Nat)(h:k<s.size):s.data.toList.drop k=s[k]::s.data.toList.drop (k+1):=by
 rw[yl (by simpa using h)]; rfl
theorem dH (x:Int)(a:-9223372036854775808<=x)(b:x<=9223372036854775807):IntKind.i64.wrap x=x:=by rw[IntKind.wrap_i64]; omega
theorem dd (w:World)(q n:Nat):∃k,(w.drewN q).drewN n=w.drewN k:=⟨_,World.drewN_drewN _ _ _⟩
theorem cC (lo hi:Nat)(s:ByteArray)(k:Nat)(h:k<s.size)(b:¬(lo<=s[k].toNat/\s[k].toNat<=hi)):Pp.within lo hi s.data.toList=false:=by
 rw[xZ];intro a;simp only[Pp.within,zi,zN] at a;exact b (a s[k] (Array.mem_toList_iff.2 (Array.getElem_mem _)))
theorem eG (lo hi:Nat)(s:ByteArray)(k:Nat)(h:k<s.size)(a:Pp.within lo hi (s.data.toList.take k)=true)(b:lo<=s[k].toNat/\s[k].toNat<=hi):Pp.within lo hi (s.data.toList.take (k+1))=true:=by
 rw[eg s k h];unfold Pp.within at a ⊢;rw[List.all_append,a];simp[b]
theorem lz (lo hi:Nat)(s:ByteArray)(h:Pp.within lo hi s.data.toList=true)(k:Nat)(a:k<s.size):lo<=s[k].toNat/\s[k].toNat<=hi:=by
 simp only[Pp.within,zi,zN] at h;exact h s[k] (Array.mem_toList_iff.2 (Array.getElem_mem _))
theorem dG (s:ByteArray)(lo hi:Nat)(b a:Int)(w:World)(h:s.size<=maxLen)(f:(lo:Int)=b)(g:(hi:Int)=a):
  Calls prog 194 #[s,.int .u8 b,.int .u8 a] w fun e w'=>e=.returned (.bool (Pp.within lo hi s.data.toList))/\w=w':=by
 unfold maxLen at h
 have j:(lo:Int)<=b:=by omega
 have l:b<=(lo:Int):=by omega
 have m:(hi:Int)<=a:=by omega
 have n:a<=(hi:Int):=by omega
 clear f g;go_enter func194,ntmps194
 go_wp2
 go_loop [7] (fun i=>∃k:Nat,k<=s.size/\i=.int .i64 k/\Hid (Pp.within lo hi (s.data.toList.take k)=true)) (fun i=>s.size-(intOf i).toNat)
 ·exact⟨0,yF _,rfl,ae rfl⟩
 obtain⟨k,q,rfl,d⟩:=hrel
 by_cases c:k<s.size
 ·by_cases o:(s[k].toNat:Int)<b
  ·go_wp2
   go_ret
   exact⟨ai (cC lo hi s k c (by omega)).symm,rfl⟩
  by_cases p:a<(s[k].toNat:Int)
  ·go_wp2
   go_ret
   exact⟨ai (cC lo hi s k c (by omega)).symm,rfl⟩
  go_wp2
  go_round
  ·exact⟨k+1,by omega,by go_num,ae (eG lo hi s k c (aa d) (by omega))⟩
  simp[intOf]; omega
 go_wp2
 go_ret;refine⟨ai ?_,rfl⟩;have:=aa d
 rw[z1 (by simp; omega)] at this
 exact this.symm
theorem bw (s:ByteArray):s.data.toList.length=s.size:=by simp
theorem fA (s:ByteArray)(w:World)(f:s.size<=maxLen):
  Calls prog 170 #[s] w fun e w'=>e=.returned (.bool (Pp.nameB s.data.toList))/\w=w':=by
 have g:=f;unfold maxLen at g
 by_cases c:1<=s.size
 ·by_cases d:s.size<=8
  ·have a:Hid (Pp.nameB s.data.toList=Pp.within 97 122 s.data.toList):=by
    show Pp.nameB s.data.toList=_
    unfold Pp.nameB; rw[bw]; simp[c,d]
   have b:(1:Int)<=(s.size:Int):=by omega
   have h:(s.size:Int)<=8:=by omega
   go_enter func170,ntmps170
   go_wp2_with (go_at_call 194; refine(dG s 97 122 _ _ _ f rfl rfl).mono ?_; rintro e w' ⟨rfl,rfl⟩)
   go_ret;exact⟨ai (aa a).symm,rfl⟩
  have a:Hid (Pp.nameB s.data.toList=false):=by
   show Pp.nameB s.data.toList=_
   unfold Pp.nameB; rw[bw]; simp[d]
  have b:decide ((s.size:Int)<=8)=false:=by simp; omega
  go_enter func170,ntmps170
  go_wp2
  go_ret;exact⟨ai (aa a).symm,rfl⟩
 have a:Hid (Pp.nameB s.data.toList=false):=by
  show Pp.nameB s.data.toList=_
  unfold Pp.nameB; rw[bw]; simp[c]
 have b:decide ((1:Int)<=(s.size:Int))=false:=by simp; omega
 go_enter func170,ntmps170
 go_wp2
 go_ret;exact⟨ai (aa a).symm,rfl⟩
theorem head_at (s:ByteArray)(h:0<s.size):s.data.toList.getD 0 0=s[0]:=by
 rw[List.getD_eq_getElem?_getD,zQ (by simpa using h)]; rfl
theorem bZ (s:ByteArray)(w:World)(f:s.size<=maxLen):
  Calls prog 171 #[s] w fun e w'=>e=.returned (.bool (Pp.numB s.data.toList))/\w=w':=by
 have l:=f;unfold maxLen at l
 by_cases m:s.size<1
 ·have a:Hid (Pp.numB s.data.toList=false):=by
   show Pp.numB s.data.toList=_
   have:¬ 1<=s.size:=by omega
   unfold Pp.numB; rw[bw]; simp[this]
  go_enter func171,ntmps171
  go_wp2
  go_ret;exact⟨ai (aa a).symm,rfl⟩
 by_cases n:9<s.size
 ·have a:Hid (Pp.numB s.data.toList=false):=by
   show Pp.numB s.data.toList=_
   have:¬s.size<=9:=by omega
   unfold Pp.numB; rw[bw]; simp[this]
  go_enter func171,ntmps171
  go_wp2
  go_ret;exact⟨ai (aa a).symm,rfl⟩
 have k:0<s.size:=by omega
 have j:=ae (head_at s k)
 by_cases i:1<s.size
 ·by_cases b:s[0]=48
  ·have a:Hid (Pp.numB s.data.toList=false):=by
    show Pp.numB s.data.toList=_
    unfold Pp.numB; rw[bw,aa j]; simp[i,b]
   have g:((s[0].toNat:Int)==48)=true:=by rw[b]; rfl
   clear b;go_enter func171,ntmps171
   go_wp2
   go_ret;exact⟨ai (aa a).symm,rfl⟩
  have a:Hid (Pp.numB s.data.toList=Pp.within 48 57 s.data.toList):=by
   show Pp.numB s.data.toList=_
   have c:1<=s.size:=by omega
   have d:s.size<=9:=by omega
   unfold Pp.numB; rw[bw,aa j]; simp[c,d,b]
  have g:((s[0].toNat:Int)==48)=false:=by
   rw[zc];intro h
   apply b
   apply UInt8.toNat_inj.1
   have:(48:UInt8).toNat=48:=rfl;omega
  clear b;go_enter func171,ntmps171
  go_wp2_with (go_at_call 194; refine(dG s 48 57 _ _ _ f rfl rfl).mono ?_; rintro e w' ⟨rfl,rfl⟩)
  go_ret;exact⟨ai (aa a).symm,rfl⟩
 have a:Hid (Pp.numB s.data.toList=Pp.within 48 57 s.data.toList):=by
  show Pp.numB s.data.toList=_
  have c:1<=s.size:=by omega
  have d:s.size<=9:=by omega
  unfold Pp.numB; rw[bw]; simp[c,d,i]
 have g:decide ((1:Int)<(s.size:Int))=false:=by simp; omega
 go_enter func171,ntmps171
 go_wp2_with (go_at_call 194; refine(dG s 48 57 _ _ _ f rfl rfl).mono ?_; rintro e w' ⟨rfl,rfl⟩)
 go_ret;exact⟨ai (aa a).symm,rfl⟩
theorem cut_lo (S:ByteArray)(i:Nat):(S.extract 0 i).data.toList=S.data.toList.take i:=by rw[Lib.extract_data]; simp
theorem cut_hi (S:ByteArray)(i:Nat):(S.extract i S.size).data.toList=S.data.toList.drop i:=by rw[Lib.extract_data,z1 (by simp)]
theorem cut_at (s:ByteArray)(a:UInt8)(k:Nat)(h:k<s.size)(c:s[k]=a)(b:a∉s.data.toList.take k):Pp.cutL a s.data.toList=(s.data.toList.take k,s.data.toList.drop (k+1)):=by
 have e:s.data.toList=s.data.toList.take k++a::s.data.toList.drop (k+1):=by
  rw[<-c,<-dP s k h,List.take_append_drop]
 have:=Pp.cutL_found a (s.data.toList.drop (k+1)) (s.data.toList.take k) b;rw[<-e] at this;exact this
theorem not_snoc (s:ByteArray)(a:UInt8)(k:Nat)(h:k<s.size)(c:¬s[k]=a)(b:a∉s.data.toList.take k):a∉s.data.toList.take (k+1):=by
 rw[eg s k h];intro hm
 rcases zh.1 hm with hm|hm
 ·exact b hm
 exact c (z7.1 hm).symm
theorem jY (s:ByteArray)(a:UInt8)(c:Int)(w:World)(n:s.size<=maxLen)(j:(a.toNat:Int)=c):
  Calls prog 169 #[s,.int .u8 c] w fun e w'=>∃A R:ByteArray,e=.returned (.tuple #[A,R])/\A.data.toList=(Pp.cutL a s.data.toList).1/\R.data.toList=(Pp.cutL a s.data.toList).2/\A.size<=s.size/\R.size<=s.size/\∃q,w'=w.drewN q:=by
 unfold maxLen at n
 have r:(a.toNat:Int)<=c:=by omega
 have t:c<=(a.toNat:Int):=by omega
 clear j;go_enter func169,ntmps169
 go_wp2
 go_loop [6] (fun i=>∃k:Nat,k<=s.size/\i=.int .i64 k/\Hid (a∉s.data.toList.take k)) (fun i=>s.size-(intOf i).toNat)
 ·exact⟨0,yF _,rfl,ae (by simp)⟩
 obtain⟨k,u,rfl,f⟩:=hrel
 by_cases g:k<s.size
 ·by_cases b:s[k]=a
  ·have l:((s[k].toNat:Int)==c)=true:=by rw[b]; simp; omega
   have d:=ae (cut_at s a k g b (aa f))
   have o:k<=s.size:=by omega
   have p:k+1<=s.size:=by omega
   clear b f
   go_wp2_with fail
   go_region
   all_goals
    go_wp2
    go_ret2
    exact⟨_,_,rfl,by rw[aa d,cut_lo],by rw[aa d,cut_hi],by simp; omega,by simp,1,rfl⟩
  have l:((s[k].toNat:Int)==c)=false:=by
   rw[zc];intro h
   exact b (UInt8.toNat_inj.1 (by omega))
  have m:=ae (not_snoc s a k g b (aa f));clear b
  go_wp2
  go_round
  ·exact⟨k+1,by omega,by go_num,m⟩
  simp[intOf]; omega
 have d:Hid (Pp.cutL a s.data.toList=(s.data.toList,[])):=by
  have:=aa f
  rw[z1 (by simp; omega)] at this
  exact Pp.cutL_none a _ this
 go_wp2
 go_ret2
 exact⟨_,_,rfl,by rw[aa d],by rw[aa d],zz _,yF _,0,rfl⟩
theorem val_snoc (s:ByteArray)(k:Nat)(h:k<s.size):Pp.valL (s.data.toList.take (k+1))=10*Pp.valL (s.data.toList.take k)+(s[k].toNat-48):=by
 rw[eg s k h,Pp.valL_snoc]
theorem within_take (lo hi:Nat)(l:List UInt8)(k:Nat)(h:Pp.within lo hi l=true):Pp.within lo hi (l.take k)=true:=by
 simp only[Pp.within,zi] at h ⊢;exact fun c a=>h c (List.mem_of_mem_take a)
theorem dU (s:ByteArray)(k:Nat)(d:s.size<=9)(h:Pp.within 48 57 s.data.toList=true):Pp.valL (s.data.toList.take k)<1000000000:=by
 have b:=Pp.valL_lt _ (within_take 48 57 _ k h)
 have a:(s.data.toList.take k).length<=9:=by simp; omega
 have c:10 ^ (s.data.toList.take k).length<=10 ^ 9:=Nat.pow_le_pow_right (by decide) a
 omega
theorem kg (s:ByteArray)(w:World)(f:s.size<=9)(hw:Pp.within 48 57 s.data.toList=true):
  Calls prog 128 #[s] w fun e w'=>e=.returned (.int .i64 (Pp.valL s.data.toList:Int))/\w=w':=by
 have c:=ae hw;clear hw;go_enter func128,ntmps128
 go_wp2
 go_loop [3,4] (fun n i=>∃k:Nat,k<=s.size/\i=.int .i64 k/\n=.int .i64 (Pp.valL (s.data.toList.take k):Int)) (fun _ i=>s.size-(intOf i).toNat)
 ·exact⟨0,yF _,rfl,rfl⟩
 obtain⟨k,j,rfl,rfl⟩:=hrel;have d:=dU s k f (aa c)
 by_cases a:k<s.size
 ·have b:=ae (val_snoc s k a)
  obtain⟨g,h⟩:=lz 48 57 s (aa c) k a;generalize Pp.valL (s.data.toList.take k)=V at d b
  go_wp2
  go_round
  ·exact⟨k+1,by omega,by go_num,by rw[aa b]; go_num⟩
  simp[intOf]; omega
 go_wp2
 go_ret
 exact⟨aB (by rw[z1 (by simp; omega)]),rfl⟩
def NamesIn (w:World):Prop:=
 w.cell? ⟨0,0,none⟩=some (.string ⟨#[108,97,110,100]⟩)/\w.cell? ⟨0,1,none⟩=some (.string ⟨#[119,97,116,101,114]⟩) /\
 w.cell? ⟨0,2,none⟩=some (.string ⟨#[114,111,97,100]⟩)/\w.cell? ⟨0,3,none⟩=some (.string ⟨#[109,97,114,107]⟩)
theorem fG (a b:List UInt8)(h:b=a):(a==b)=true:=by simp[h]
theorem im (a b:List UInt8)(h:¬b=a):(a==b)=false:=by
 rw[zc]; exact fun e=>h e.symm
theorem layerOf_any (s:ByteArray)(w:World)(k:NamesIn w):
  Calls prog 127 #[s] w fun e w'=>e=.returned (.int .i64 (Pp.layerL s.data.toList))/\w=w':=by
 obtain⟨m,n,o,p⟩:=k;have l:s.toList=s.data.toList:=ByteArray.toList_eq s
 by_cases a:s.data.toList=Pp.land
 ·have b:Hid (Pp.layerL s.data.toList=0):=by show Pp.layerL s.data.toList=_; simp[Pp.layerL,a]
  have g:([108,97,110,100]==s.data.toList)=true:=fG _ _ a;clear a;go_enter func127,ntmps127
  go_wp2
  refine wp_loop_rounds 4 ?_
  rw[zw]; go_wp2
  go_ret;exact⟨aB (aa b).symm,rfl⟩
 have g:([108,97,110,100]==s.data.toList)=false:=im _ _ a
 by_cases c:s.data.toList=Pp.water
 ·have b:Hid (Pp.layerL s.data.toList=1):=by show Pp.layerL s.data.toList=_; simp[Pp.layerL,c,Pp.land,Pp.water]
  have h:([119,97,116,101,114]==s.data.toList)=true:=fG _ _ c;clear a c;go_enter func127,ntmps127
  go_wp2
  refine wp_loop_rounds 4 ?_
  rw[zw]; go_wp2
  rw[zw]; go_wp2
  go_ret;exact⟨aB (aa b).symm,rfl⟩
 have h:([119,97,116,101,114]==s.data.toList)=false:=im _ _ c
 by_cases d:s.data.toList=Pp.road
 ·have b:Hid (Pp.layerL s.data.toList=2):=by show Pp.layerL s.data.toList=_; simp[Pp.layerL,d,Pp.land,Pp.water,Pp.road]
  have i:([114,111,97,100]==s.data.toList)=true:=fG _ _ d;clear a c d;go_enter func127,ntmps127
  go_wp2
  refine wp_loop_rounds 4 ?_
  rw[zw]; go_wp2
  rw[zw]; go_wp2
  rw[zw]; go_wp2
  go_ret;exact⟨aB (aa b).symm,rfl⟩
 have i:([114,111,97,100]==s.data.toList)=false:=im _ _ d
 by_cases f:s.data.toList=Pp.mark
 ·have b:Hid (Pp.layerL s.data.toList=3):=by show Pp.layerL s.data.toList=_; simp[Pp.layerL,f,Pp.land,Pp.water,Pp.road,Pp.mark]
  have j:([109,97,114,107]==s.data.toList)=true:=fG _ _ f;clear a c d f;go_enter func127,ntmps127
  go_wp2
  refine wp_loop_rounds 4 ?_
  rw[zw]; go_wp2
  rw[zw]; go_wp2
  rw[zw]; go_wp2
  rw[zw]; go_wp2
  go_ret;exact⟨aB (aa b).symm,rfl⟩
 have j:([109,97,114,107]==s.data.toList)=false:=im _ _ f
 have b:Hid (Pp.layerL s.data.toList=-1):=by show Pp.layerL s.data.toList=_; simp[Pp.layerL,a,c,d,f]
 clear a c d f;go_enter func127,ntmps127
 go_wp2
 refine wp_loop_rounds 5 ?_
 rw[zw]; go_wp2
 rw[zw]; go_wp2
 rw[zw]; go_wp2
 rw[zw]; go_wp2
 rw[zw]; go_wp2
 go_ret;exact⟨aB (aa b).symm,rfl⟩
def fY (lo hi most:Nat)(l:List UInt8):Bool:=Pp.within lo hi l && decide (0<l.length/\l.length<=most)
theorem da (s:ByteArray)(lo hi b:Nat)(d c a:Int)(w:World)(o:s.size<=maxLen)(l:(lo:Int)=d)(m:(hi:Int)=c)(n:(b:Int)=a):
  Calls prog 135 #[s,.int .u8 d,.int .u8 c,a] w fun e w'=>e=.returned (.bool (fY lo hi b s.data.toList))/\w=w':=by
 unfold maxLen at o
 have q:(lo:Int)<=d:=by omega
 have r:d<=(lo:Int):=by omega
 have t:(hi:Int)<=c:=by omega
 have u:c<=(hi:Int):=by omega
 have v:(b:Int)<=a:=by omega
 have x:a<=(b:Int):=by omega
 clear l m n;go_enter func135,ntmps135
 go_wp2
 go_loop [9] (fun i=>∃k:Nat,k<=s.size/\i=.int .i64 k/\Hid (Pp.within lo hi (s.data.toList.take k)=true)) (fun i=>s.size-(intOf i).toNat)
 ·exact⟨0,yF _,rfl,ae rfl⟩
 obtain⟨k,A,rfl,h⟩:=hrel
 by_cases f:k<s.size
 ·by_cases y:(s[k].toNat:Int)<d
  ·go_wp2
   go_ret
   exact⟨ai (by unfold fY; rw[cC lo hi s k f (by omega)]; rfl),rfl⟩
  by_cases z:c<(s[k].toNat:Int)
  ·go_wp2
   go_ret
   exact⟨ai (by unfold fY; rw[cC lo hi s k f (by omega)]; rfl),rfl⟩
  go_wp2
  go_round
  ·exact⟨k+1,by omega,by go_num,ae (eG lo hi s k f (aa h) (by omega))⟩
  simp[intOf]; omega
 have hw:Hid (Pp.within lo hi s.data.toList=true):=by
  have:=aa h
  rw[z1 (by simp; omega)] at this
  exact this
 by_cases j:0<s.size
 ·by_cases hm:(s.size:Int)<=a
  ·have g:s.size<=b:=by omega
   go_wp2
   go_ret
   exact⟨ai (by unfold fY; rw[aa hw,bw]; simp[j,g]),rfl⟩
  have g:¬s.size<=b:=by omega
  have p:decide ((s.size:Int)<=a)=false:=by simp; omega
  go_wp2
  go_ret
  exact⟨ai (by unfold fY; rw[aa hw,bw]; simp[g]),rfl⟩
 have p:decide ((0:Int)<(s.size:Int))=false:=zG (by omega)
 go_wp2
 go_ret
 exact⟨ai (by unfold fY; rw[aa hw,bw]; simp[j]),rfl⟩
theorem dw (l:List UInt8):fY 97 122 8 l=Pp.nameB l:=by
 unfold fY Pp.nameB;rw[Bool.and_comm]
 congr 1
theorem lone_num (l:List UInt8):Pp.numB l=(fY 48 57 9 l && !(decide (1<l.length) && (l.getD 0 0==48))):=by
 unfold fY Pp.numB;have e:decide (1<=l.length/\l.length<=9)=decide (0<l.length/\l.length<=9):=rfl;rw[e]
 cases Pp.within 48 57 l<;>cases decide (0<l.length/\l.length<=9)<;>simp
def eH (l:List UInt8):Int:=if Pp.numB l=true then (Pp.valL l:Int) else -1
theorem jF (l:List UInt8)(h:Pp.numB l=false):eH l=-1:=by unfold eH; rw[h]; rfl
theorem fq (l:List UInt8)(h:Pp.numB l=true):eH l=(Pp.valL l:Int):=by unfold eH; rw[zJ h]
theorem aJ (s:ByteArray)(w:World)(j:s.size<=maxLen):
  Calls prog 136 #[s] w fun e w'=>e=.returned (.int .i64 (eH s.data.toList))/\w=w':=by
 have y:=j;unfold maxLen at y
 cases a:fY 48 57 9 s.data.toList with
 | false=>
  have g:Hid (Pp.numB s.data.toList=false):=by show Pp.numB _=_; rw[lone_num,a]; rfl
  have c:=ae a;clear a;go_enter func136,ntmps136
  go_wp2_with fail
  refine(da s 48 57 9 _ _ _ _ j rfl rfl rfl).mono ?_;rintro e w' ⟨rfl,rfl⟩;rw[aa c]
  go_wp2
  go_ret;exact⟨aB (jF _ (aa g)).symm,rfl⟩
 | true=>
  have v:0<s.size/\s.size<=9:=by
   simp only[fY,zl,zN,bw] at a;exact a.2
  have p:Pp.within 48 57 s.data.toList=true:=by
   simp only[fY,zl] at a;exact a.1
  obtain⟨x,z⟩:=v;have t:=ae (head_at s x);have l:=ae (lone_num s.data.toList);have c:=ae a;have q:=ae p;clear a p
  by_cases f:1<s.size/\s[0]=48
  ·obtain⟨d,b⟩:=f
   have g:Hid (Pp.numB s.data.toList=false):=by
    show Pp.numB _=_;rw[aa l,aa c,bw,aa t];simp[d,b]
   have r:((s[0].toNat:Int)==48)=true:=by rw[b]; rfl
   clear b;go_enter func136,ntmps136
   go_wp2_with fail
   refine(da s 48 57 9 _ _ _ _ j rfl rfl rfl).mono ?_;rintro e w' ⟨rfl,rfl⟩;rw[aa c]
   go_wp2
   go_ret;exact⟨aB (jF _ (aa g)).symm,rfl⟩
  have g:Hid (Pp.numB s.data.toList=true):=by
   show Pp.numB _=_;rw[aa l,aa c,bw,aa t]
   by_cases d:1<s.size
   ·have b:¬s[0]=48:=fun e=>f ⟨d,e⟩
    simp[b]
   simp[d]
  by_cases d:1<s.size
  focus
   have b:¬s[0]=48:=fun e=>f ⟨d,e⟩
   have r:((s[0].toNat:Int)==48)=false:=by
    rw[zc];intro h
    apply b
    apply UInt8.toNat_inj.1
    have:(48:UInt8).toNat=48:=rfl;omega
   clear b f
  rotate_left
  focus
   have r:decide ((1:Int)<(s.size:Int))=false:=by simp; omega
   clear f
  all_goals
   go_enter func136,ntmps136
   go_wp2_with fail
   refine(da s 48 57 9 _ _ _ _ j rfl rfl rfl).mono ?_;rintro e w' ⟨rfl,rfl⟩;rw[aa c]
   go_wp2
   go_loop [4,5] (fun n i=>∃k:Nat,k<=s.size/\i=.int .i64 k/\n=.int .i64 (Pp.valL (s.data.toList.take k):Int)) (fun _ i=>s.size-(intOf i).toNat)
   ·exact⟨0,yF _,rfl,rfl⟩
   obtain⟨k,C,rfl,rfl⟩:=hrel;have u:=dU s k z (aa q)
   by_cases m:k<s.size
   ·have o:=ae (val_snoc s k m)
    obtain⟨A,B⟩:=lz 48 57 s (aa q) k m;generalize Pp.valL (s.data.toList.take k)=V at u o
    go_wp2
    go_round
    ·exact⟨k+1,by omega,by go_num,by rw[aa o]; go_num⟩
    simp[intOf]; omega
   go_wp2
   go_ret
   exact⟨aB (by rw[fq _ (aa g),z1 (by simp; omega)]),rfl⟩
theorem gV (i:Nat)(hi:i<4)(w:World):
  Calls prog 137 #[i] w fun e w'=>e=.returned (.string ⟨(Pp.names i).toArray⟩)/\Below w.heap.size w w':=by
 match i,hi with
 | 0,_=>
  go_enter func137,ntmps137
  go_wp2
  go_ret;exact⟨rfl,bu.alloc aD _⟩
 | 1,_=>
  go_enter func137,ntmps137
  go_wp2
  go_ret;exact⟨rfl,bu.alloc aD _⟩
 | 2,_=>
  go_enter func137,ntmps137
  go_wp2
  go_ret;exact⟨rfl,bu.alloc aD _⟩
 | 3,_=>
  go_enter func137,ntmps137
  go_wp2
  go_ret;exact⟨rfl,bu.alloc aD _⟩
theorem str_one (v:UInt8)(a:World)(g:Nat)(h:a.cell? ⟨g,0,none⟩=some (.int .u8 (v.toNat:Int))):(convert 220 9 (.slice (some ⟨g,0,none⟩) 1 1)).run prog a=.ok (.string ⟨#[v]⟩) a:=by
 refine run_convert_bytes_back a 220 9 5 ⟨g,0,none⟩ 1 [v] underlying220 underlying5 underlying9 ?_;intro j b
 have:j=0:=by simpa using b
 subst this;simpa[Addr.add] using h
theorem dec_len (u:Nat):(Lib.decDigits u).length<=u+1:=by
 induction u using Nat.strongRecOn with
 | _ u a=>
  rw[Lib.decDigits]
  split
  ·simp
  have:=a (u / 10) (by omega)
  simp;omega
def ir (N m:Nat)(acc:List UInt8):Prop:=Lib.decDigits m++acc=Lib.decDigits N
theorem digSo_end (d a:Nat)(b:List UInt8)(h:a<10)(c:ir d a b):UInt8.ofNat (48+a%10)::b=Lib.decDigits d:=by
 unfold ir at c;rw[<-c,Lib.decDigits_one h,Nat.mod_eq_of_lt h];rfl
theorem digSo_more (d a:Nat)(b:List UInt8)(h:¬a<10)(c:ir d a b):ir d (a / 10) (UInt8.ofNat (48+a%10)::b):=by
 unfold ir at c ⊢;rw[<-c,Lib.decDigits.eq_def a,dif_neg h];simp
theorem digSo_len (a e:Nat)(b:List UInt8)(f:a<=1000000000)(c:ir a e b):b.length<=1000000001:=by
 unfold ir at c;have d:=congrArg List.length c;rw[zH] at d;have:=dec_len a;omega
theorem cons_str (v:UInt8)(a:List UInt8):(⟨#[v]⟩:ByteArray)++⟨a.toArray⟩=⟨(v::a).toArray⟩:=by
 apply ByteArray.ext
 simp
theorem digits_any (c:Nat)(w:World)(k:c<=1000000000):
  Calls prog 173 #[c] w fun e w'=>e=.returned (.string ⟨(Lib.decDigits c).toArray⟩)/\Below w.heap.size w w':=by
 go_enter func173,ntmps173
 go_wp2
 go_loopw [0,3] (fun n s wr=>∃(a:Nat) (b:List UInt8),a<=c/\n=.int .i64 a/\s=.string ⟨b.toArray⟩/\Hid (ir c a b)/\Below w.heap.size w wr) (fun n _ _=>(intOf n).toNat)
 ·exact⟨c,[],zz _,rfl,rfl,ae (by simp[ir]),zV _ _⟩
 obtain⟨a,b,hm,rfl,rfl,g,d⟩:=hrel;have o:=digSo_len c a b k (aa g)
 obtain⟨v,t,i⟩:∃v:UInt8,(48+(a:Int)%10)=(v.toNat:Int)/\v=UInt8.ofNat (48+a%10):=⟨UInt8.ofNat (48+a%10),by rw[UInt8.toNat_ofNat']; omega,rfl⟩
 have j:=ae i;clear i;have p:=fun m=>str_one v m wr.heap.size;have r:(⟨b.toArray⟩:ByteArray).size=b.length:=rfl;have q:=cons_str v b
 by_cases h:a<10
 ·have f:Hid (v::b=Lib.decDigits c):=by
   show v::b=_
   rw[aa j]; exact digSo_end c a b h (aa g)
  have l:((a:Int) / 10==0)=true:=by
   rw[beq_iff_eq]; omega
  go_wp2
  go_ret;exact⟨ret_str (aa f),d.alloc d.size _⟩
 have f:Hid (ir c (a / 10) (v::b)):=by
  show ir c (a / 10) (v::b)
  rw[aa j]; exact digSo_more c a b h (aa g)
 have l:((a:Int) / 10==0)=false:=by
  rw[zc]; omega
 go_wp2
 go_roundw
 ·exact⟨a / 10,v::b,by omega,by go_num,rfl,f,d.alloc d.size _⟩
 simp[intOf]; omega
theorem Tryz.info9:(prog.info? 9).map (fun i=>(i.zero,i.size,i.bytes))=some (some (.string ⟨#[]⟩),1,16):=by kernel_rfl
def OwnS (w:World)(B:Nat)(v:Value)(l:List ByteArray):Prop:=w.ownsRow B 9 1 v l.length (l.map Value.string)
theorem ownS_nil (w:World)(B:Nat):OwnS w B (.slice none 0 0) []:=World.ownsRow_nil _ _ _ _
theorem iI {f:Array Oper}{rest:List Oper}{o:Oper}{a:Act}{i:Exit->Act->World->Prop}(n:o.guard=none)(s x:Operand)
  (y:o.op=.call { callee:=.builtin .append,args:=#[s,x],argTypes:=#[203,203] })
  (c:World) (B:Nat) (v:Value) (l:List ByteArray) (b:ByteArray) (z:a.eval s=v) (e:OwnS c B v l) (A:a.eval x=.slice (some ⟨c.heap.size,0,none⟩) 1 1)
  (D:l.length<=2000000) (t:B<=c.heap.size)
  (h:∀d w',OwnS w' B d (l++[b])->Below B c w'->wpList prog f i rest (a.put o.dst d) w') :
  wpList prog f i (o::rest) a (c.alloc (.cells #[b] 9)):=by
 obtain⟨C,hi,p,q,r⟩:=info_parts Tryz.info9
 refine wpList_append_own _ n s x 203 y B 9 C (.string ⟨#[]⟩) 1 16 underlying203 hi p q r rfl (by decide) v l.length (l.map Value.string) z (World.ownsRow.alloc e _) ⟨c.heap.size,0,none⟩ 1 1 [.string b] A rfl (cell_one_new _ _ _) ?_ ?_ ?_ ?_ ?_
 ·intro u g; simp at g; subst g; rfl
 ·unfold maxLen; omega
 ·omega
 ·simp; omega
 intro d w1 m j _;refine h d w1 ?_ ?_
 ·unfold OwnS
  simpa using m
 exact((zV B c).alloc t _).grown j (by simp; omega) (fun k w=>(y9 e k w).1)
def jC (s:ByteArray)(f i:Nat)(l:List ByteArray):Prop:=
 l.map (fun b=>b.data.toList)++Pp.pieces (s.data.toList.drop f)=Pp.pieces s.data.toList/\(47:UInt8)∉(s.data.toList.drop f).take (i-f)
theorem oM (s:ByteArray):jC s 0 0 []:=⟨rfl,by simp⟩
theorem mid_split (s:ByteArray)(f i:Nat)(h:f<=i)(hi:i<s.size):s.data.toList.drop f=(s.data.toList.drop f).take (i-f)++s[i]::s.data.toList.drop (i+1):=by
 have e:=List.take_append_drop (i-f) (s.data.toList.drop f)
 rw[List.drop_drop,show f+(i-f)=i from by omega,dP s i hi] at e
 exact e.symm
theorem partSo_hit (s:ByteArray)(f i:Nat)(l:List ByteArray)(h:f<=i)(hi:i<s.size)(c:s[i]=47)(d:jC s f i l):jC s (i+1) (i+1) (l++[s.extract f i]):=by
 obtain⟨a,b⟩:=d
 refine⟨?_,by simp⟩
 rw[mid_split s f i h hi,c,Pp.pieces_found _ _ b] at a;rw[yV,yM,<-a];simp
theorem partSo_miss (s:ByteArray)(f i:Nat)(l:List ByteArray)(h:f<=i)(hi:i<s.size)(c:¬s[i]=47)(d:jC s f i l):jC s f (i+1) l:=by
 obtain⟨a,b⟩:=d;refine⟨a,?_⟩
 have e:(s.data.toList.drop f).take (i+1-f)=(s.data.toList.drop f).take (i-f)++[s[i]]:=by
  rw[show i+1-f=(i-f)+1 from by omega,List.take_succ_eq_append_getElem (by simp; omega)]
  simp[show f+(i-f)=i from by omega]
  rfl
 rw[e];intro hm
 rcases zh.1 hm with hm|hm
 ·exact b hm
 exact c (z7.1 hm).symm
theorem partSo_last (s:ByteArray)(f i:Nat)(l:List ByteArray)(h:f<=i)(hi:i=s.size)(d:jC s f i l):(l++[s.extract f i]).map (fun b=>b.data.toList)=Pp.pieces s.data.toList:=by
 obtain⟨a,c⟩:=d;subst hi
 have e:(s.data.toList.drop f).take (s.size-f)=s.data.toList.drop f:=z1 (by simp)
 rw[e] at c;rw[Pp.pieces_none _ c] at a;rw[yV,<-a];simp[e]
def PartR (s:ByteArray)(F k:Nat)(l:List ByteArray):Prop:=(k<=s.size/\F<=k/\jC s F k l)\/(k=s.size+1/\l.map (fun b=>b.data.toList)=Pp.pieces s.data.toList)
theorem sizes_snoc (s:ByteArray)(l:List ByteArray)(f i:Nat)(c:s.size<=1048576)(h:∀b∈l,b.size<=maxLen):∀b∈l++[s.extract f i],b.size<=maxLen:=by
 intro b a
 rcases zh.1 a with a|a
 ·exact h b a
 rw[z7.1 a];unfold maxLen;simp;omega
theorem parts_any (s:ByteArray)(w:World)(F:s.size<=1048576):
  Calls prog 134 #[s] w fun e w'=>∃(v:Value) (l:List ByteArray),e=.returned v/\OwnS w' w.heap.size v l/\l.map (fun b=>b.data.toList)=Pp.pieces s.data.toList/\(∀b∈l,b.size<=maxLen)/\Below w.heap.size w w':=by
 go_enter func134,ntmps134
 go_wp2
 go_loopw [3,4,5] (fun v f i wr=>∃(a k:Nat) (l:List ByteArray),f=.int .i64 a/\i=.int .i64 k/\l.length<=k/\Hid (PartR s a k l)/\Hid (∀b∈l,b.size<=maxLen)/\OwnS wr w.heap.size v l/\Below w.heap.size w wr) (fun _ _ i _=>s.size+2-(intOf i).toNat)
 ·exact⟨0,0,[],rfl,rfl,zz _,ae (Or.inl ⟨yF _,zz _,oM s⟩),ae (by simp),ownS_nil _ _,zV _ _⟩
 obtain⟨a,k,l,rfl,rfl,H,t,q,d,c⟩:=hrel;have z:=c.size
 rcases aa t with⟨B,r,A⟩|⟨B,u⟩
 ·have g:=ae A
  clear A t;have x:=ae (sizes_snoc s l a k F (aa q))
  by_cases y:k<s.size
  ·have D:((k:Int)==(s.size:Int))=false:=by rw[zc]; omega
   by_cases j:s[k]=47
   ·have E:((s[k].toNat:Int)==47)=true:=by rw[j]; rfl
    have n:=ae (partSo_hit s a k l r y j (aa g));clear j g
    go_wp2_with (at_builtin; refine iI rfl (.tmp 22) (.tmp 27) rfl _ w.heap.size _ l _ rfl d rfl ?_ ?_ ?_)
    ·omega
    ·exact z
    intro G w1 o m;have p:=c.trans m;clear d c m
    go_wp2
    go_roundw
    ·exact⟨k+1,k+1,l++[s.extract a k],by go_num,by go_num,by simp; omega,ae (Or.inl ⟨by omega,zz _,aa n⟩),x,o,p⟩
    simp[intOf]; omega
   have E:((s[k].toNat:Int)==47)=false:=by
    rw[zc];intro h
    apply j
    apply UInt8.toNat_inj.1
    have:(47:UInt8).toNat=47:=rfl;omega
   have n:=ae (partSo_miss s a k l r y j (aa g));clear j g
   go_wp2
   go_roundw
   ·exact⟨a,k+1,l,rfl,by go_num,by omega,ae (Or.inl ⟨by omega,by omega,aa n⟩),q,d,c⟩
   simp[intOf]; omega
  have D:((k:Int)==(s.size:Int))=true:=by rw[beq_iff_eq]; omega
  have n:=ae (partSo_last s a k l r (by omega) (aa g))
  clear g
  go_wp2_with (at_builtin; refine iI rfl (.tmp 22) (.tmp 27) rfl _ w.heap.size _ l _ rfl d rfl ?_ ?_ ?_)
  ·omega
  ·exact z
  intro G w1 o m;have p:=c.trans m;clear d c m
  go_wp2
  go_roundw
  ·exact⟨k+1,k+1,l++[s.extract a k],by go_num,by go_num,by simp; omega,ae (Or.inr ⟨by omega,aa n⟩),x,o,p⟩
  simp[intOf]; omega
 have C:=ae u;clear u t
 have I:s.size<k:=by omega
 clear B
 go_wp2
 go_ret;exact⟨_,l,rfl,d,aa C,aa q,c⟩
theorem empty_of (A:ByteArray)(l:List UInt8)(h:A.data.toList=l):A.toList.isEmpty=l.isEmpty:=by rw[ByteArray.toList_eq,h]
theorem below_dn {B:Nat}{a w:World}(h:Below B a w)(n:Nat):Below B a (w.drewN n):=h.trans ⟨rfl,rfl,rfl,zz _,fun _ _=>rfl⟩
theorem split_no1 (p:List UInt8)(h:(Pp.cutL 47 p).1.isEmpty=false):Pp.splitL p=none:=by
 unfold Pp.splitL
 have a:¬(Pp.cutL 47 p).1=[]:=fun e=>by rw[e] at h; cases h
 simp[Pp.splitOk,a]
theorem split_eq (p a b n c z d x e y f:List UInt8)(h:a=(Pp.cutL 47 p).1)(i:b=(Pp.cutL 47 p).2)(j:n=(Pp.cutL 47 b).1)(k:c=(Pp.cutL 47 b).2)
  (l:z=(Pp.cutL 47 c).1) (m:d=(Pp.cutL 47 c).2) (o:x=(Pp.cutL 47 d).1) (q:e=(Pp.cutL 47 d).2) (r:y=(Pp.cutL 46 e).1) (g:f=(Pp.cutL 46 e).2) :
  Pp.splitL p=if (decide (a=[]/\f=Pp.tile) && (Pp.nameB n && (Pp.numB z && (Pp.numB x && Pp.numB y))))=true then some (n,z,x,y) else none:=by
 subst h i j k l m o q r g;rfl
theorem ju (w:World)(o:Obj)(q:Nat)(a b c d:Value):Below w.heap.size w ((((((w.alloc o).drewN q).setCell ⟨w.heap.size,0,none⟩ a).setCell ⟨w.heap.size,1,none⟩ b).setCell ⟨w.heap.size,2,none⟩ c).setCell ⟨w.heap.size,3,none⟩ d):=
 ((((below_dn (bu.alloc aD _) _).setCell aD _).setCell aD _).setCell aD _).setCell aD _
theorem split_any (s:ByteArray)(w:World)(r:s.size<=maxLen):
  Calls prog 126 #[s] w fun e w'=>
   ((Pp.splitL s.data.toList=none/\e=.returned (.tuple #[.agg #[.string ⟨#[]⟩,.string ⟨#[]⟩,.string ⟨#[]⟩,.string ⟨#[]⟩],false])) \/
    (∃c f X h:ByteArray,Pp.splitL s.data.toList=some (c.data.toList,f.data.toList,X.data.toList,h.data.toList)/\e=.returned (.tuple #[.agg #[c,f,X,h],true])))/\Below w.heap.size w w':=by
 go_enter func126,ntmps126
 go_wp2_with fail
 refine(jY s 47 _ _ r rfl).mono ?_;rintro e w1 ⟨A,al,rfl,B,I,-,q,ao,rfl⟩;have y:=ae B;have E:=ae I;have W:=empty_of A _ B;clear B I
 cases l:(Pp.cutL 47 s.data.toList).1.isEmpty with
 | false=>
  rw[l] at W;have g:=ae (split_no1 _ l);clear l
  go_wp2_with fail
  exact zL (v:=.tuple #[.agg #[.string ⟨#[]⟩,.string ⟨#[]⟩,.string ⟨#[]⟩,.string ⟨#[]⟩],false]) (by simp[results,results126,go_sem]) rfl ⟨Or.inl ⟨aa g,rfl⟩,ju _ _ _ _ _ _ _⟩
 | true=>
  rw[l] at W
  have ak:Hid (A.data.toList=[]):=by
   show A.data.toList=[]
   rw[aa y]; exact List.isEmpty_iff.1 l
  clear l
  go_wp2_with fail
  refine(jY al 47 _ _ (zF q r) rfl).mono ?_;rintro e w1 ⟨c,T,rfl,Y,J,af,N,ap,rfl⟩;have Q:=ae Y;have F:=ae J;clear Y J;have p:c.size<=maxLen:=zF (zF af q) r;have t:T.size<=maxLen:=zF (zF N q) r;clear af N q
  go_wp2_with fail
  refine(jY T 47 _ _ t rfl).mono ?_;rintro e w1 ⟨f,U,rfl,ac,K,ai,O,aq,rfl⟩;have S:=ae ac;have G:=ae K;clear ac K;have x:f.size<=maxLen:=zF ai t;have u:U.size<=maxLen:=zF O t;clear ai O t
  go_wp2_with fail
  refine(jY U 47 _ _ u rfl).mono ?_;rintro e w1 ⟨X,V,rfl,Z,L,ag,P,ar,rfl⟩;have R:=ae Z;have H:=ae L;clear Z L;have D:X.size<=maxLen:=zF ag u;have C:V.size<=maxLen:=zF P u;clear ag P u
  go_wp2_with fail
  refine(jY V 46 _ _ C rfl).mono ?_;rintro e w1 ⟨h,m,rfl,ab,M,ah,-,au,rfl⟩;have b:=ae (split_eq _ _ _ _ _ _ _ _ _ _ _ (aa y) (aa E) (aa Q) (aa F) (aa S) (aa G) (aa R) (aa H) ab M);clear y E Q F S G R H ab M;have ad:h.size<=maxLen:=zF ah C;clear ah C;have an:m.toList=m.data.toList:=ByteArray.toList_eq m;rw[aa ak] at b
  by_cases n:m.data.toList=Pp.tile
  ·have am:(m.data.toList==[116,105,108,101])=true:=by rw[n]; rfl
   rw[n] at b;clear n
   cases a:Pp.nameB c.data.toList with
   | false=>
    have g:Hid (Pp.splitL s.data.toList=none):=by
     show Pp.splitL s.data.toList=none
     rw[aa b]; simp[a]
    have i:=ae a;clear a b
    go_wp2_with (go_at_call 170; refine(fA c _ p).mono ?_; rintro e w' ⟨rfl,rfl⟩; rw[aa i])
    exact zL (v:=.tuple #[.agg #[.string ⟨#[]⟩,.string ⟨#[]⟩,.string ⟨#[]⟩,.string ⟨#[]⟩],false]) (by simp[results,results126,go_sem]) rfl ⟨Or.inl ⟨aa g,rfl⟩,ju _ _ _ _ _ _ _⟩
   | true=>
    cases d:Pp.numB f.data.toList with
    | false=>
     have g:Hid (Pp.splitL s.data.toList=none):=by
      show Pp.splitL s.data.toList=none
      rw[aa b]; simp[a,d]
     have i:=ae a;have k:=ae d;clear a d b
     go_wp2_with (first|(go_at_call 170; refine(fA c _ p).mono ?_; rintro e w' ⟨rfl,rfl⟩; rw[aa i])|(go_at_call 171; refine(bZ f _ x).mono ?_; rintro e w' ⟨rfl,rfl⟩; rw[aa k]))
     exact zL (v:=.tuple #[.agg #[.string ⟨#[]⟩,.string ⟨#[]⟩,.string ⟨#[]⟩,.string ⟨#[]⟩],false]) (by simp[results,results126,go_sem]) rfl ⟨Or.inl ⟨aa g,rfl⟩,ju _ _ _ _ _ _ _⟩
    | true=>
     cases j:Pp.numB X.data.toList with
     | false=>
      have g:Hid (Pp.splitL s.data.toList=none):=by
       show Pp.splitL s.data.toList=none
       rw[aa b]; simp[a,d,j]
      have i:=ae a;have k:=ae d;have o:=ae j;clear a d j b
      go_wp2_with fail
      refine(fA c _ p).mono ?_;rintro e w' ⟨rfl,rfl⟩;rw[aa i]
      go_wp2_with fail
      refine(bZ f _ x).mono ?_;rintro e w' ⟨rfl,rfl⟩;rw[aa k]
      go_wp2_with fail
      refine(bZ X _ D).mono ?_;rintro e w' ⟨rfl,rfl⟩;rw[aa o]
      go_wp2_with fail
      exact zL (v:=.tuple #[.agg #[.string ⟨#[]⟩,.string ⟨#[]⟩,.string ⟨#[]⟩,.string ⟨#[]⟩],false]) (by simp[results,results126,go_sem]) rfl ⟨Or.inl ⟨aa g,rfl⟩,ju _ _ _ _ _ _ _⟩
     | true=>
      cases hy:Pp.numB h.data.toList with
      | false=>
       have g:Hid (Pp.splitL s.data.toList=none):=by
        show Pp.splitL s.data.toList=none
        rw[aa b]; simp[a,d,j,hy]
       have i:=ae a;have k:=ae d;have o:=ae j;have z:=ae hy;clear a d j hy b
       go_wp2_with fail
       refine(fA c _ p).mono ?_;rintro e w' ⟨rfl,rfl⟩;rw[aa i]
       go_wp2_with fail
       refine(bZ f _ x).mono ?_;rintro e w' ⟨rfl,rfl⟩;rw[aa k]
       go_wp2_with fail
       refine(bZ X _ D).mono ?_;rintro e w' ⟨rfl,rfl⟩;rw[aa o]
       go_wp2_with fail
       refine(bZ h _ ad).mono ?_;rintro e w' ⟨rfl,rfl⟩;rw[aa z]
       go_wp2_with fail
       exact zL (v:=.tuple #[.agg #[.string ⟨#[]⟩,.string ⟨#[]⟩,.string ⟨#[]⟩,.string ⟨#[]⟩],false]) (by simp[results,results126,go_sem]) rfl ⟨Or.inl ⟨aa g,rfl⟩,ju _ _ _ _ _ _ _⟩
      | true=>
       have aj:Hid (Pp.splitL s.data.toList=some (c.data.toList,f.data.toList,X.data.toList,h.data.toList)):=by
        show Pp.splitL s.data.toList=_
        rw[aa b]; simp[a,d,j,hy]
       have i:=ae a;have k:=ae d;have o:=ae j;have z:=ae hy;clear a d j hy b
       go_wp2_with fail
       refine(fA c _ p).mono ?_;rintro e w' ⟨rfl,rfl⟩;rw[aa i]
       go_wp2_with fail
       refine(bZ f _ x).mono ?_;rintro e w' ⟨rfl,rfl⟩;rw[aa k]
       go_wp2_with fail
       refine(bZ X _ D).mono ?_;rintro e w' ⟨rfl,rfl⟩;rw[aa o]
       go_wp2_with fail
       refine(bZ h _ ad).mono ?_;rintro e w' ⟨rfl,rfl⟩;rw[aa z]
       go_wp2_with fail
       exact zL (v:=.tuple #[.agg #[c,f,X,h],true]) (by simp[results,results126,go_sem]) rfl ⟨Or.inr ⟨c,f,X,h,aa aj,rfl⟩,ju _ _ _ _ _ _ _⟩
  have am:(m.data.toList==[116,105,108,101])=false:=by
   rw[zc]; exact n
  have g:Hid (Pp.splitL s.data.toList=none):=by
   show Pp.splitL s.data.toList=none
   rw[aa b]; simp[n]
  clear n b
  go_wp2_with fail
  exact zL (v:=.tuple #[.agg #[.string ⟨#[]⟩,.string ⟨#[]⟩,.string ⟨#[]⟩,.string ⟨#[]⟩],false]) (by simp[results,results126,go_sem]) rfl ⟨Or.inl ⟨aa g,rfl⟩,ju _ _ _ _ _ _ _⟩
theorem mw {a w1:World}(c:Below a.heap.size a w1):(∀b o,b<a.heap.size->w1.cell? ⟨b,o,none⟩=a.cell? ⟨b,o,none⟩)/\(∀b o,b<a.heap.size->w1.frozen? ⟨b,o,none⟩=a.frozen? ⟨b,o,none⟩):=
 ⟨fun b o h=>c.cell (p:=⟨b,o,none⟩) h,fun b o h=>c.frozen (p:=⟨b,o,none⟩) h⟩
def Nm (w:World):Prop:=0<w.heap.size/\NamesIn w
theorem Nm.on {w w':World}(h:Nm w)(a:Below w.heap.size w w'):Nm w':=by
 obtain⟨b,c,d,e,f⟩:=h;have g:=a.size
 refine⟨by omega,?_,?_,?_,?_⟩
 ·rw[a.cell (p:=⟨0,0,none⟩) b]; exact c
 ·rw[a.cell (p:=⟨0,1,none⟩) b]; exact d
 ·rw[a.cell (p:=⟨0,2,none⟩) b]; exact e
 rw[a.cell (p:=⟨0,3,none⟩) b]; exact f
def parseL (p:List UInt8):(Int × Int × Int × Int) × Int:=
 match Pp.splitL p with
 | none=>((0,0,0,0),1)
 | some (n,z,x,y)=>
  if keyErr (Pp.layerL n) (Pp.valL z) (Pp.valL x) (Pp.valL y)=0 then ((Pp.layerL n,(Pp.valL z:Int),(Pp.valL x:Int),(Pp.valL y:Int)),0)
  else ((0,0,0,0),keyErr (Pp.layerL n) (Pp.valL z) (Pp.valL x) (Pp.valL y))
theorem cQ (p:List UInt8)(h:Pp.splitL p=none):parseL p=((0,0,0,0),1):=by unfold parseL; rw[h]
theorem fW (p n z x y:List UInt8)(h:Pp.splitL p=some (n,z,x,y))(a:keyErr (Pp.layerL n) (Pp.valL z) (Pp.valL x) (Pp.valL y)=0):
  parseL p=((Pp.layerL n,(Pp.valL z:Int),(Pp.valL x:Int),(Pp.valL y:Int)),0):=by unfold parseL; rw[h]; simp only; rw[zJ a]
theorem eh (p n z x y:List UInt8)(h:Pp.splitL p=some (n,z,x,y))(a:¬keyErr (Pp.layerL n) (Pp.valL z) (Pp.valL x) (Pp.valL y)=0):
  parseL p=((0,0,0,0),keyErr (Pp.layerL n) (Pp.valL z) (Pp.valL x) (Pp.valL y)):=by unfold parseL; rw[h]; simp only; rw[zK a]
theorem split_nums (p n z x y:List UInt8)(h:Pp.splitL p=some (n,z,x,y)):Pp.nameB n=true/\Pp.numB z=true/\Pp.numB x=true/\Pp.numB y=true:=
 ((Pp.splitL_iff p (n,z,x,y)).1 h).2
theorem layer_cap (n:List UInt8):-1<=Pp.layerL n/\Pp.layerL n<=3:=by
 unfold Pp.layerL
 split
 ·omega
 split
 ·omega
 split
 ·omega
 split<;>omega
theorem parse_any (s:ByteArray)(w:World)(ao:s.size<=maxLen)(ah:Nm w):
  Calls prog 80 #[s] w fun e w'=>(∃l z x y er:Int,parseL s.data.toList=((l,z,x,y),er)/\e=.returned (.tuple #[.agg #[l,z,x,y],er]))/\Below w.heap.size w w':=by
 have am:=ae ah;clear ah;go_enter func80,ntmps80
 go_wp2_with fail
 refine(split_any s _ ao).mono ?_;rintro e w1 ⟨⟨ai,rfl⟩|⟨N,P,X,O,h,rfl⟩,c⟩
 ·have j:=ae (cQ _ ai)
  clear ai;obtain⟨n,an⟩:=mw c
  have o:w.heap.size<w1.heap.size:=by have:=c.size; simp at this; omega
  have al:=ae c;clear c
  have d:Below w.heap.size w w1:=(bu.alloc aD _).trans ((aa al).mono (by simp))
  have k:=ae d;clear d
  go_wp2_with fail
  refine zL (v:=.tuple #[.agg #[(),(),(),()],(1:Int)]) (by simp[results,results80,go_sem,o,n]) rfl ⟨⟨0,0,0,0,1,aa j,rfl⟩,?_⟩
  exact(((((aa k).setCell aD _).setCell aD _).setCell aD _).setCell aD _).alloc (by simp; omega) _
 have aj:=ae h;obtain⟨ap,F,G,H⟩:=split_nums _ _ _ _ _ h;have b:=ae (fW _ _ _ _ _ h);have a:=ae (eh _ _ _ _ _ h);clear h;have ak:=layer_cap N.data.toList;have M:=(Pp.numB_len _ F).2;have K:=(Pp.numB_len _ G).2;have L:=(Pp.numB_len _ H).2;rw[bw] at M K L;have E:=ae (Pp.numB_within _ F);have C:=ae (Pp.numB_within _ G);have D:=ae (Pp.numB_within _ H);have af:=dU P 9 M (aa E);have ac:=dU X 9 K (aa C);have ad:=dU O 9 L (aa D)
 rw[z1 (by simp; omega)] at af ac ad
 clear ap F G H;obtain⟨n,an⟩:=mw c
 have o:w.heap.size<w1.heap.size:=by have:=c.size; simp at this; omega
 have d:Below w.heap.size w w1:=(bu.alloc aD _).trans (c.mono (by simp))
 have W:Nm w1:=(aa am).on d;have Q:∀I J,Hid (NamesIn ((w1.alloc I).alloc J)):=fun I J=>((W.on (bu.alloc aD I)).on (bu.alloc aD J)).2;have k:=ae d;clear d c W
 go_wp2_with fail
 refine(layerOf_any N _ (aa (Q _ _))).mono ?_;rintro e f ⟨rfl,rfl⟩;clear Q;obtain⟨g,ag⟩:∃g,Pp.layerL N.data.toList=g:=⟨_,rfl⟩;obtain⟨r,B⟩:∃v,Pp.valL P.data.toList=v:=⟨_,rfl⟩;obtain⟨p,u⟩:∃v,Pp.valL X.data.toList=v:=⟨_,rfl⟩;obtain⟨q,A⟩:∃v,Pp.valL O.data.toList=v:=⟨_,rfl⟩;rw[ag] at b a ak ⊢;rw[B] at b a af;rw[u] at b a ac;rw[A] at b a ad;have U:=ae B;have S:=ae u;have T:=ae A;clear ag B u A
 go_wp2_with fail
 refine(kg P _ M (aa E)).mono ?_;rintro e f ⟨rfl,rfl⟩;rw[aa U]
 go_wp2_with fail
 refine(kg X _ K (aa C)).mono ?_;rintro e f ⟨rfl,rfl⟩;rw[aa S]
 go_wp2_with fail
 refine(kg O _ L (aa D)).mono ?_;rintro e f ⟨rfl,rfl⟩;rw[aa T];clear U S T E C D aj
 go_wp2_with fail
 refine(bV g r p q _).mono ?_;rintro e f ⟨rfl,m⟩;generalize keyErr g r p q=t at b a;obtain⟨Y,ar⟩:=mw m
 have au:w1.heap.size+1<f.heap.size:=by have:=m.size; simp at this; omega
 have Z:w.heap.size<w1.heap.size+1+1:=by omega
 have ab:w.heap.size<w1.heap.size+1:=by omega
 have V:Below w.heap.size w f:=(((aa k).alloc (by omega) _).alloc (by simp; omega) _).trans (m.mono (by simp; omega))
 have R:=ae V;clear m V k
 by_cases i:t=0
 ·have j:=ae (aa b i)
  subst i;clear b a
  go_wp2_with fail
  refine zL (v:=.tuple #[.agg #[g,r,p,q],()]) (by simp[results,results80,go_sem,o,Z,ab,n,Y]) rfl ⟨⟨g,r,p,q,0,aa j,rfl⟩,?_⟩
  exact((((aa R).setCell aD _).setCell aD _).setCell aD _).setCell aD _
 have j:=ae (aa a i)
 have aq:(t != 0)=true:=by rw[bne_iff_ne]; exact i
 clear b a i
 go_wp2_with fail
 refine zL (v:=.tuple #[.agg #[(),(),(),()],t]) (by simp[results,results80,go_sem,o,Z,ab,n,Y]) rfl ⟨⟨0,0,0,0,t,aa j,rfl⟩,?_⟩
 exact((((aa R).setCell aD _).setCell aD _).setCell aD _).setCell aD _
end Dw
end Go.Proofs.YtpabpniaekldeaaGreatDoor
