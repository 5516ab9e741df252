import Derived.Test.YtpabpniaekldeaaGreatDoorGase04
import Derived.Laws.CopyRow
import Derived.Laws.OwnMore
set_option maxHeartbeats 25600000
set_option maxRecDepth 20000
open Go.RowKit Go.Proofs.Tryz
namespace Go.Proofs.YtpabpniaekldeaaGreatDoor
def dS (s:Nat->Rq->List gD):Nat->List Rq->List gD
 | _,[]=>[]
 | o,r::l=>s o r++dS s (o+1) l
theorem repG_app (s:Nat->Rq->List gD):∀(l a:List Rq) (o:Nat),dS s o (l++a)=dS s o l++dS s (o+l.length) a
 | [],a,o=>by simp[dS]
 | b::l,a,o=>by rw[yj,dS,dS,repG_app s l a (o+1),yM,zS,show o+1+l.length=o+(l.length+1) by omega]
def gW (f:Rq->Rq)(rq:List Rq)(k:Nat):List Rq:=(rq.take k).map f++rq.drop k
section
variable {f:Rq->Rq}{s:Nat->Rq->List gD}{rq:List Rq}{k:Nat}{r:Rq}
theorem nz (h:rq[k]?=some r):dS s 0 (rq.take (k+1))=dS s 0 (rq.take k)++s k r:=by
 have a:k<rq.length:=(zX.1 h).1
 rw[be h,repG_app,zD,zb,show min k rq.length=k by omega]
 simp[dS]
theorem repG_len (a:∀o r,(s o r).length<=1):∀(l:List Rq) (o:Nat),(dS s o l).length<=l.length
 | [],_=>by simp[dS]
 | r::l,o=>by
  rw[dS,zH,zS];have:=repG_len a l (o+1);have:=a o r;omega
theorem midG_zero (f:Rq->Rq)(rq:List Rq):gW f rq 0=rq:=by simp[gW]
theorem midG_all (f:Rq->Rq)(rq:List Rq):gW f rq rq.length=rq.map f:=by simp[gW]
theorem midG_len (f:Rq->Rq)(rq:List Rq)(k:Nat):(gW f rq k).length=rq.length:=by
 simp[gW,List.length_take,List.length_drop]; omega
theorem midG_at (h:k<rq.length):(gW f rq k)[k]?=rq[k]?:=by
 unfold gW
 rw[List.getElem?_append_right (by simp[List.length_take]; omega),List.length_map,List.length_take,show min k rq.length=k by omega,Nat.sub_self,List.getElem?_drop,Nat.add_zero]
theorem midG_set (h:rq[k]?=some r):(gW f rq k).set k (f r)=gW f rq (k+1):=by
 have a:k<rq.length:=(List.getElem?_eq_some_iff.1 h).1;unfold gW;rw[be h,List.map_append,List.map_cons,List.map_nil,List.append_assoc]
 rw[List.set_append_right _ _ (by simp[List.length_take]; omega),List.length_map,List.length_take,show min k rq.length=k by omega,Nat.sub_self]
 congr 1
 rw[List.drop_eq_getElem_cons a];rfl
theorem midG_no (h:rq[k]?=some r)(e:f r=r):gW f rq (k+1)=gW f rq k:=by
 have a:k<rq.length:=(zX.1 h).1;rw[<-midG_set h,e]
 apply y0
 intro i;rw[yZ]
 by_cases c:k=i
 ·subst c
  rw[zJ rfl,zJ (by rw[midG_len]; exact a),midG_at a,h]
 rw[zK c]
end
def ltd (nw:Int)(r:Rq):Bool:=!r.done && decide (r.due<=nw)
def li (nw:Int)(r:Rq):Rq:=if ltd nw r then { r with done:=true } else r
def nH (nw:Int)(o:Nat)(r:Rq):List gD:=if ltd nw r then [⟨o,504,⟨#[]⟩,⟨#[]⟩⟩] else []
theorem ltS_len (nw:Int)(o:Nat)(r:Rq):(nH nw o r).length<=1:=by unfold nH; split<;>simp
def tkP (rq:List Rq)(j:Jb):Bool:=decide (0<bg rq j.b false) || decide (0<=j.wk)
def tkJ (rq:List Rq)(jb:List Jb):List Jb:=jb.filter (tkP rq)
theorem tkJ_snoc {rq:List Rq}{jb:List Jb}{k:Nat}{j:Jb}(h:jb[k]?=some j):tkJ rq (jb.take (k+1))=tkJ rq (jb.take k)++(if tkP rq j then [j] else []):=by
 unfold tkJ;rw[be h,yI]
 congr 1
 by_cases e:tkP rq j=true
 ·rw[zJ e,y1 e,List.filter_nil]
 rw[zK e,yC e,List.filter_nil]
def plA (jb:List Jb)(i:Nat):Int:=(jb[i]?.map Jb.pl).getD 0
def wkI (jb:List Jb)(a:Int):Option Nat:=jb.findIdx? fun j=>decide (j.wk=a)
def kf (jb:List Jb):Nat->Option Nat
 | 0=>none
 | k+1=>match jb[k]?,kf jb k with
  | some j,none=>if j.wk=-1 then some k else none
  | some j,some h=>if j.wk=-1/\j.pl<plA jb h then some k else some h
  | none,o=>o
theorem pe (jb:List Jb):∀k h,kf jb k=some h->h<k
 | 0,h,e=>by simp[kf] at e
 | k+1,h,e=>by
  cases a:jb[k]? with
  | none=>
   rw[kf,a] at e
   have:=pe jb k h (by simpa using e)
   omega
  | some c=>
   cases b:kf jb k with
   | none=>
    rw[kf,a,b] at e;dsimp only at e
    split at e
    ·cases e; omega
    cases e
   | some g=>
    have:=pe jb k g b;rw[kf,a,b] at e;dsimp only at e
    split at e
    ·cases e; omega
    cases e; omega
theorem hdI_min (jb:List Jb):∀k,k<=jb.length->(∀h,kf jb k=some h->(∃j,jb[h]?=some j/\j.wk=-1)/\∀i j,i<k->jb[i]?=some j->j.wk=-1->plA jb h<=j.pl)/\(kf jb k=none->∀i j,i<k->jb[i]?=some j->j.wk≠-1)
 | 0,_=>⟨fun h e=>by simp[kf] at e,fun _ i j hi=>by omega⟩
 | k+1,r=>by
  obtain⟨o,m⟩:=hdI_min jb k (by omega)
  obtain⟨b,d⟩:∃j,jb[k]?=some j:=⟨_,zQ (by omega)⟩
  have l:plA jb k=b.pl:=by unfold plA; rw[d]; rfl
  cases e:kf jb k with
  | none=>
   have f:kf jb (k+1)=if b.wk=-1 then some k else none:=by rw[kf,d,e]
   rw[f]
   by_cases c:b.wk=-1
   ·rw[zJ c]
    refine⟨fun h q=>?_,fun q=>by cases q⟩
    cases q;refine⟨⟨b,d,c⟩,fun i j hi a hw=>?_⟩
    rcases yP i k with q|q
    ·exact absurd hw (m e i j q a)
    have:i=k:=by omega
    subst this
    rw[d] at a; cases a
    rw[l]; exact yw _
   rw[zK c]
   refine⟨fun h q=>(by cases q),fun _ i j hi a=>?_⟩
   rcases yP i k with q|q
   ·exact m e i j q a
   have:i=k:=by omega
   subst this
   rw[d] at a; cases a
   exact c
  | some g=>
   have f:kf jb (k+1)=if b.wk=-1/\b.pl<plA jb g then some k else some g:=by rw[kf,d,e]
   obtain⟨p,n⟩:=o g e;rw[f]
   by_cases c:b.wk=-1/\b.pl<plA jb g
   ·rw[zJ c]
    refine⟨fun h q=>?_,fun q=>by cases q⟩
    cases q;refine⟨⟨b,d,c.1⟩,fun i j hi a hw=>?_⟩;rw[l]
    rcases yP i k with q|q
    ·have:=n i j q a hw
     omega
    have:i=k:=by omega
    subst this
    rw[d] at a; cases a
    exact yw _
   rw[zK c]
   refine⟨fun h q=>?_,fun q=>by cases q⟩
   cases q;refine⟨p,fun i j hi a hw=>?_⟩
   rcases yP i k with q|q
   ·exact n i j q a hw
   have:i=k:=by omega
   subst this
   rw[d] at a; cases a
   have:¬b.pl<plA jb g:=fun q=>c ⟨hw,q⟩;omega
structure DF where
 q:Nat
 wk:Nat
 wt:Nat
 ca:Nat
 ch:Nat
 now:Nat
 ct:Nat
 st:Nat
 bs:List bK
 rq:List Rq
 jb:List Jb
 en:List En
def DF.tick (D:DF):DF × List gD:=
 ({ D with now:=D.now+1,rq:=D.rq.map (li (D.now+1:Nat)),jb:=tkJ (D.rq.map (li (D.now+1:Nat))) D.jb },dS (nH (D.now+1:Nat)) 0 D.rq)
def DF.paint (D:DF)(i:Nat)(j:Jb):DF × List gD:=
 let c:=layN D.bs D.ca j.b j.rd.toNat (D.ct,D.en) 4
 let p:=ptJ (fP D.bs j D.rq) c.1 D.jb i j.b
 ({ D with ct:=p.1,rq:=fP D.bs j D.rq,jb:=p.2,en:=c.2 },iC D.bs j 0 D.rq)
def DF.take (D:DF)(a:Nat)(h:Nat)(j:Jb):DF:=
 { D with st:=D.st+1,jb:=D.jb.set h { j with wk:=a,rd:=D.bs.length,lf:=bB (dk D.bs D.bs.length).length D.ch } }
def DF.work (D:DF)(a:Nat):DF × List gD:=
 if D.wk<=a then (D,[]) else
 match wkI D.jb a with
 | some i=>match D.jb[i]? with
  | some j=>if j.lf=1 then DF.paint { D with jb:=D.jb.set i { j with lf:=j.lf-1 } } i { j with lf:=j.lf-1 } else ({ D with jb:=D.jb.set i { j with lf:=j.lf-1 } },[])
  | none=>(D,[])
 | none=>match kf D.jb D.jb.length with
  | some h=>match D.jb[h]? with
   | some j=>(D.take a h j,[])
   | none=>(D,[])
  | none=>(D,[])
def DF.arrive (D:DF)(k:K4)(e:Int)(tag:ByteArray):DF × List gD:=
 let r:Rq:=⟨k,D.bs.length,(D.now:Int)+D.wt,true⟩
 let D1:={ D with rq:=D.rq++[r] }
 if e=1 then (D1,[⟨D.rq.length,400,⟨#[]⟩,⟨#[]⟩⟩])
 else if e≠0 then (D1,[⟨D.rq.length,404,⟨#[]⟩,⟨#[]⟩⟩])
 else if du k (fB D.bs D.bs.length k)=tag then (D1,[⟨D.rq.length,304,⟨#[]⟩,du k (fB D.bs D.bs.length k)⟩])
 else match dB D.en k with
  | some i=>match D.en[i]? with
   | some n=>({ D1 with ct:=D.ct+1,en:=D.en.set i { n with use:=(D.ct:Int)+1 } },[⟨D.rq.length,200,n.body,n.tag⟩])
   | none=>(D1,[])
  | none=>
   if bg D.rq k true=D.q then (D1,[⟨D.rq.length,503,⟨#[]⟩,⟨#[]⟩⟩])
   else match o7 D.jb k.blk with
    | some _=>({ D with rq:=D.rq++[{ r with done:=false }] },[])
    | none=>({ D with rq:=D.rq++[{ r with done:=false }],ct:=D.ct+1,jb:=D.jb++[⟨k.blk,-1,(D.ct:Int)+1,0,0⟩] },[])
def DF.write (D:DF)(b:bK):DF:=
 { D with bs:=D.bs++[b],en:=D.en.filter fun e=>decide (fB (D.bs++[b]) (D.bs.length+1) e.k<=D.bs.length) }
theorem fx {α:Type}:∀{l:List α} {i:Nat} {a:α} (b:α),l[i]?=some a->l.Perm (a::l.eraseIdx i)/\(l.set i b).Perm (b::l.eraseIdx i)
 | [],i,a,b,h=>by simp at h
 | x::l,0,a,b,h=>by
  simp only[List.getElem?_cons_zero,zy] at h;subst h;exact⟨List.Perm.refl _,List.Perm.refl _⟩
 | x::l,i+1,a,b,h=>by
  obtain⟨c,d⟩:=fx b (l:=l) (i:=i) (by simpa using h)
  exact⟨(yh x c).trans (List.Perm.swap a x _),(yh x d).trans (List.Perm.swap b x _)⟩
theorem mid_perm {α:Type}(a:α)(s t:List α):(s++a::t).Perm (a::(s++t)):=yu
abbrev Jt:=K4 × Int × Int × Int
def Jb.t (j:Jb):Jt:=(j.b,j.wk,j.rd,j.lf)
def Fl.t (f:Fl)(i:Int):Jt:=(f.b,i,(f.reads:Int),(f.left:Int))
def wl:Nat->List (Option Fl)->List Jt
 | _,[]=>[]
 | o,none::l=>wl (o+1) l
 | o,some f::l=>f.t o::wl (o+1) l
theorem oh:∀(l:List (Option Fl)) (o:Nat) (t:Jt),t∈wl o l↔∃(i:Nat) (f:Fl),l[i]?=some (some f)/\t=f.t ((o+i:Nat):Int)
 | [],o,t=>by simp[wl]
 | a::l,o,t=>by
  have d:=oh l (o+1) t
  have e:(∃(i:Nat) (f:Fl),(a::l)[i]?=some (some f)/\t=f.t ((o+i:Nat):Int))↔(∃f:Fl,a=some f/\t=f.t (o:Int))\/t∈wl (o+1) l:=by
   rw[d]
   constructor
   ·rintro⟨i,f,b,c⟩
    cases i with
    | zero=>exact Or.inl ⟨f,by simpa using b,by simpa using c⟩
    | succ i=>exact Or.inr ⟨i,f,by simpa using b,by rw[c]; congr 2; omega⟩
   rintro(⟨f,b,c⟩|⟨i,f,b,c⟩)
   ·exact⟨0,f,by rw[b]; rfl,by simpa using c⟩
   exact⟨i+1,f,by simpa using b,by rw[c]; congr 2; omega⟩
  rw[e]
  cases a with
  | none=>simp[wl]
  | some f=>simp[wl]
theorem og:∀(l:List (Option Fl)) (o i:Nat) (x:Option Fl),i<l.length->(wl o (l.set i x)).Perm ((x.map fun f=>f.t ((o+i:Nat):Int)).toList++wl o (l.set i none))
 | [],o,i,x,h=>by simp at h
 | a::l,o,0,x,h=>by cases x<;>simp[wl]
 | a::l,o,i+1,x,h=>by
  have b:=og l (o+1) i x (by simpa using h)
  rw[show o+1+i=o+(i+1) by omega] at b
  cases a with
  | none=>simpa[wl] using b
  | some f=>
   simp only[List.set_cons_succ,wl];exact(yh _ b).trans (yu.symm)
theorem wl_at {l:List (Option Fl)}{i:Nat}{f:Fl}(h:l[i]?=some (some f)):(wl 0 l).Perm (f.t (i:Int)::wl 0 (l.set i none)):=by
 have:=og l 0 i (some f) (zX.1 h).1;rw[gP l i (some f) h] at this;simpa using this
theorem wl_b:∀(l:List (Option Fl)) (o:Nat),(wl o l).map (fun t=>t.1)=(l.filterMap id).map Fl.b
 | [],o=>by simp[wl]
 | none::l,o=>by simp[wl,wl_b l (o+1)]
 | some f::l,o=>by simp[wl,wl_b l (o+1),Fl.t]
structure cK (jb:List Jb)(line:List K4)(wks:List (Option Fl))(ct:Nat)(LL BB:List Jb):Prop where
 perm:jb.Perm (LL++BB)
 lin:∀j∈LL,j.wk=-1/\0<=j.pl/\j.pl<=ct/\j.rd=0/\j.lf=0
 srt:LL.Pairwise fun a b=>a.pl<b.pl
 line:LL.map Jb.b=line
 wks:(BB.map Jb.t).Perm (wl 0 wks)
section
variable {jb LL BB:List Jb}{line:List K4}{wks:List (Option Fl)}{ct:Nat}
theorem cK.mono (h:cK jb line wks ct LL BB){a:Nat}(c:ct<=a):cK jb line wks a LL BB:=
 { h with lin:=fun j b=>by have:=h.lin j b; exact⟨this.1,this.2.1,by omega,this.2.2.2⟩ }
theorem cK.bb (h:cK jb line wks ct LL BB){j:Jb}(c:j∈BB):∃(i:Nat) (f:Fl),wks[i]?=some (some f)/\j.t=f.t (i:Int):=by
 have:=(h.wks.mem_iff).1 (yE (f:=Jb.t) c);obtain⟨i,f,a,b⟩:=(oh _ _ _).1 this
 exact⟨i,f,a,by rw[b,zb]⟩
theorem cK.bb0 (h:cK jb line wks ct LL BB){j:Jb}(a:j∈BB):0<=j.wk:=by
 obtain⟨i,f,_,e⟩:=h.bb a;have:j.wk=(i:Int):=congrArg (fun t:Jt=>t.2.1) e;omega
theorem cK.mem (h:cK jb line wks ct LL BB){j:Jb}(a:j∈jb):(j∈LL/\j.wk=-1)\/(j∈BB/\0<=j.wk):=by
 rcases zh.1 (h.perm.mem_iff.1 a) with q|q
 ·exact Or.inl ⟨q,(h.lin j q).1⟩
 exact Or.inr ⟨q,h.bb0 q⟩
theorem cK.find (h:cK jb line wks ct LL BB){j:Jb}(d:j∈jb){i:Nat}(hw:j.wk=(i:Int)):j∈BB/\∃f:Fl,wks[i]?=some (some f)/\j.t=f.t (i:Int):=by
 rcases h.mem d with⟨_,q⟩|⟨q,_⟩
 ·omega
 obtain⟨b,f,c,a⟩:=h.bb q;have:j.wk=(b:Int):=congrArg (fun t:Jt=>t.2.1) a
 have:b=i:=by omega
 subst this;exact⟨q,f,c,a⟩
theorem cK.idle (h:cK jb line wks ct LL BB){i:Nat}(hi:i<wks.length)(b:∀j∈jb,j.wk≠(i:Int)):wks[i]?=some none:=by
 obtain⟨o,a⟩:∃o,wks[i]?=some o:=⟨_,zQ hi⟩
 cases o with
 | none=>exact a
 | some f=>
  exfalso
  have:f.t (i:Int)∈BB.map Jb.t:=h.wks.mem_iff.2 ((oh _ _ _).2 ⟨i,f,a,by rw[zb]⟩)
  obtain⟨j,c,e⟩:=yH.1 this;exact b j (h.perm.mem_iff.2 (xY _ c)) (congrArg (fun t:Jt=>t.2.1) e)
theorem cK.has (h:cK jb line wks ct LL BB)(b:K4):(∃j∈jb,j.b=b)↔b∈line\/b∈(wks.filterMap id).map Fl.b:=by
 have e:(BB.map Jb.b).Perm ((wks.filterMap id).map Fl.b):=by
  have:=h.wks.map (fun t=>t.1);rw[wl_b,List.map_map] at this;exact this
 rw[<-h.line,<-e.mem_iff]
 constructor
 ·rintro⟨j,a,rfl⟩
  rcases zh.1 (h.perm.mem_iff.1 a) with q|q
  ·exact Or.inl (yE q)
  exact Or.inr (yE q)
 rintro(q|q)
 ·obtain⟨j,a,e⟩:=yH.1 q
  exact⟨j,h.perm.mem_iff.2 (y8 _ a),e⟩
 obtain⟨j,a,e⟩:=yH.1 q;exact⟨j,h.perm.mem_iff.2 (xY _ a),e⟩
theorem cK.add (h:cK jb line wks ct LL BB)(b:K4):cK (jb++[⟨b,-1,(ct:Int)+1,0,0⟩]) (line++[b]) wks (ct+1) (LL++[⟨b,-1,(ct:Int)+1,0,0⟩]) BB:=by
 refine⟨?_,?_,?_,by rw[yV,h.line]; rfl,h.wks⟩
 ·refine((h.perm.append_right _).trans ?_)
  rw[yM,yM];exact(List.perm_append_comm (l₁:=BB) (l₂:=[_])).append_left LL
 ·intro j d
  rcases zh.1 d with d|d
  ·have:=h.lin j d; exact⟨this.1,this.2.1,by omega,this.2.2.2⟩
  simp only[z7] at d;subst d
  exact⟨rfl,by show(0:Int)<=(ct:Int)+1; omega,by show(ct:Int)+1<=((ct+1:Nat):Int); omega,rfl,rfl⟩
 rw[List.pairwise_append]
 refine⟨h.srt,by simp,fun a f c e=>?_⟩
 simp only[z7] at e;subst e;have:=(h.lin a f).2.2;show a.pl<(ct:Int)+1;omega
theorem cK.head (h:cK jb line wks ct LL BB):(line=[]->kf jb jb.length=none)/\∀b rest,line=b::rest->∃i j k,kf jb jb.length=some i/\jb[i]?=some j/\LL=j::k/\j.b=b/\k.map Jb.b=rest:=by
 obtain⟨r,v⟩:=hdI_min jb jb.length aD
 constructor
 ·intro e
  cases q:kf jb jb.length with
  | none=>rfl
  | some i=>
   exfalso
   obtain⟨⟨j,g,hw⟩,_⟩:=r i q
   rcases h.mem (zR g) with⟨a,_⟩|⟨_,a⟩
   ·have:=yE (f:=Jb.b) a
    rw[h.line,e] at this;simp at this
   omega
 intro b rest e;have c:=h.line;rw[e] at c
 cases d:LL with
 | nil=>rw[d] at c; simp at c
 | cons l k=>
  rw[d] at c;simp only[zA,List.cons.injEq] at c
  have t:l∈jb:=h.perm.mem_iff.2 (y8 _ (by rw[d]; exact yJ ..))
  have p:=(h.lin l (by rw[d]; exact yJ ..)).1
  obtain⟨n,m⟩:=zB.1 t;have o:n<jb.length:=(zX.1 m).1
  cases q:kf jb jb.length with
  | none=>exact absurd p (v q n l o m)
  | some i=>
   obtain⟨⟨j,g,hw⟩,hm⟩:=r i q;have u:=hm n l o m p
   have w:plA jb i=j.pl:=by unfold plA; rw[g]; rfl
   rw[w] at u
   rcases h.mem (zR g) with⟨a,_⟩|⟨_,a⟩
   ·rw[d] at a
    have s:=h.srt;rw[d,ya] at s
    rcases zv.1 a with rfl|a
    ·exact⟨i,j,k,rfl,g,rfl,c.1,c.2⟩
    have:=s.1 j a; omega
   omega
theorem cK.take {j:Jb}{b:List Jb}{rest:List K4}(h:cK jb line wks ct (j::b) BB)(n:b.map Jb.b=rest){i:Nat}(hi:jb[i]?=some j){a:Nat}(c:wks[a]?=some none)(f:Fl)(l:f.b=j.b):∃d,cK (jb.set i { j with wk:=a,rd:=f.reads,lf:=f.left }) rest (wks.set a (some f)) ct b d:=by
 obtain⟨o,p⟩:=fx { j with wk:=(a:Int),rd:=(f.reads:Int),lf:=(f.left:Int) } hi;have r:(jb.eraseIdx i).Perm (b++BB):=List.Perm.cons_inv (a:=j) (o.symm.trans h.perm);refine⟨{ j with wk:=(a:Int),rd:=(f.reads:Int),lf:=(f.left:Int) }::BB,?_,fun k m=>h.lin k (zt _ m),(ya.1 h.srt).2,n,?_⟩
 ·exact(p.trans (yh _ r)).trans (yu.symm)
 have g:a<wks.length:=(zX.1 c).1;have q:=og wks 0 a (some f) g;rw[gP wks a none c] at q;rw[zA];refine List.Perm.trans ?_ q.symm
 have e:Jb.t { j with wk:=(a:Int),rd:=(f.reads:Int),lf:=(f.left:Int) }=f.t ((0+a:Nat):Int):=by
  unfold Jb.t Fl.t;rw[l,zb]
 rw[e];exact yh _ h.wks
theorem cK.out (h:cK jb line wks ct LL BB){i:Nat}{j:Jb}(hi:jb[i]?=some j){a:Nat}(hw:j.wk=(a:Int)):∃(f:Fl) (b:List Jb),wks[a]?=some (some f)/\j.t=f.t (a:Int)/\(jb.eraseIdx i).Perm (LL++b)/\(b.map Jb.t).Perm (wl 0 (wks.set a none)):=by
 obtain⟨k,f,d,e⟩:=h.find (zR hi) hw;obtain⟨s,t,c⟩:=List.append_of_mem k;obtain⟨l,_⟩:=fx j hi;refine⟨f,s++t,d,e,?_,?_⟩
 ·refine List.Perm.cons_inv (a:=j) (l.symm.trans (h.perm.trans ?_))
  rw[c];exact((mid_perm j s t).append_left LL).trans yu
 have p:=h.wks;rw[c] at p;have g:(Jb.t j::(s++t).map Jb.t).Perm (wl 0 wks):=(((mid_perm j s t).map Jb.t).symm).trans p;rw[e] at g;exact List.Perm.cons_inv (a:=f.t (a:Int)) (g.trans (wl_at d))
theorem cK.step (h:cK jb line wks ct LL BB){i:Nat}{j:Jb}(hi:jb[i]?=some j){a:Nat}(hw:j.wk=(a:Int))(b:Fl)(lf:Int)(m:b.b=j.b)(o:(b.reads:Int)=j.rd)(n:(b.left:Int)=lf):∃c,cK (jb.set i { j with lf:=lf }) line (wks.set a (some b)) ct LL c:=by
 obtain⟨f,c,g,r,k,l⟩:=h.out hi hw;obtain⟨_,p⟩:=fx { j with lf:=lf } hi;refine⟨{ j with lf:=lf }::c,?_,h.lin,h.srt,h.line,?_⟩
 ·exact(p.trans (yh _ k)).trans (yu.symm)
 have d:a<wks.length:=(zX.1 g).1;have q:=og wks 0 a (some b) d;rw[zA];refine List.Perm.trans ?_ q.symm
 have e:Jb.t { j with lf:=lf }=b.t ((0+a:Nat):Int):=by
  unfold Jb.t Fl.t;rw[m,zb,o,n];exact congrArg (fun z=>(j.b,z,j.rd,lf)) hw
 rw[e];exact yh _ l
theorem cK.gone (h:cK jb line wks ct LL BB){i:Nat}{j:Jb}(hi:jb[i]?=some j){a:Nat}(hw:j.wk=(a:Int)):∃b,cK (jb.eraseIdx i) line (wks.set a none) ct LL b:=by
 obtain⟨f,b,e,g,c,d⟩:=h.out hi hw;exact⟨b,c,h.lin,h.srt,h.line,d⟩
theorem cK.back (h:cK jb line wks ct LL BB){i:Nat}{j:Jb}(hi:jb[i]?=some j){a:Nat}(hw:j.wk=(a:Int))(b:K4):∃e d,cK (jb.set i ⟨b,-1,(ct:Int)+1,0,0⟩) (line++[b]) (wks.set a none) (ct+1) e d:=by
 obtain⟨d,g⟩:=h.gone hi hw;have c:=g.add b;refine⟨_,d,?_,c.lin,c.srt,c.line,c.wks⟩;obtain⟨_,f⟩:=fx ⟨b,-1,(ct:Int)+1,0,0⟩ hi;refine(f.trans ?_).trans c.perm;exact(List.perm_append_singleton _ _).symm
theorem cK.filter (h:cK jb line wks ct LL BB)(p:K4->Bool):cK (jb.filter fun j=>p j.b || decide (0<=j.wk)) (line.filter p) wks ct (LL.filter fun j=>p j.b) BB:=by
 refine⟨?_,fun j a=>h.lin j (yA.1 a).1,h.srt.sublist yy,?_,h.wks⟩
 ·refine(h.perm.filter _).trans ?_
  rw[yI]
  have b:(LL.filter fun j=>p j.b || decide (0<=j.wk))=LL.filter fun j=>p j.b:=by
   apply xQ
   intro j a;have:=(h.lin j a).1
   rw[zG (by omega),Bool.or_false]
  have c:(BB.filter fun j=>p j.b || decide (0<=j.wk))=BB:=by
   rw[List.filter_eq_self];intro j a;rw[zU (h.bb0 a),Bool.or_true]
  rw[b,c]
 rw[<-h.line,List.filter_map];rfl
end
theorem bytesT_perm {a b:List aL}(h:a.Perm b):aA a=aA b:=by
 induction h with
 | nil=>rfl
 | cons t _ e=>simp only[aA,e]
 | swap s t l=>simp only[aA]; omega
 | trans _ _ c d=>rw[c,d]
theorem oQ {ts:List aL}{k:K4}(h:∀t∈ts,t.k≠k):bm ts k=ts:=by
 unfold bm;rw[List.filter_eq_self];intro t a;exact zU (h t a)
theorem outT_mid {s t:List aL}{a:aL}(h:((s++a::t).map aL.k).Nodup):bm (s++a::t) a.k=s++t:=by
 have g:(a.k::(s++t).map aL.k).Nodup:=by
  refine List.Perm.nodup_iff ?_ |>.1 h;exact(yu (a:=a) (l₁:=s) (l₂:=t)).map aL.k
 have c:∀u∈s++t,u.k≠a.k:=fun u b e=>(yd.1 g).1 (e▸yE b);have d:=oQ (k:=a.k) fun u b=>c u (y8 _ b);have f:=oQ (k:=a.k) fun u b=>c u (xY _ b);unfold bm at d f ⊢
 rw[yI,yC (by simp),d,f]
theorem findT_mem {ts:List aL}(c:(ts.map aL.k).Nodup){t:aL}(b:t∈ts):cS ts t.k=some t:=by
 induction ts with
 | nil=>simp at b
 | cons a ts d=>
  rw[zA,yd] at c;unfold cS
  rcases zv.1 b with rfl|b
  ·rw[List.find?_cons_of_pos (by simp)]
  rw[List.find?_cons_of_neg (by
   simp only[zN];intro e;exact c.1 (e▸yE b))]
  exact d c.2 b
theorem lU (ws:List En):∀k,∀i,i<k->mJ ws (dE ws k)<=mJ ws i
 | 0,i,h=>by omega
 | k+1,i,h=>by
  unfold dE
  split
  ·rename_i c
   rcases yP i k with q|q
   ·have:=lU ws k i q; omega
   have:i=k:=by omega
   subst this; exact yw _
  rename_i c
  rcases yP i k with q|q
  ·exact lU ws k i q
  have:i=k:=by omega
  subst this; omega
structure fR (en:List En)(tiles:List aL)(ct:Nat)(EE:List En):Prop where
 perm:en.Perm EE
 srt:EE.Pairwise fun a b=>a.use<b.use
 le:∀e∈EE,e.use<=ct
 til:EE.map En.t=tiles
 nod:(tiles.map aL.k).Nodup
section
variable {en EE:List En}{tiles:List aL}{ct:Nat}
theorem fR.mono (h:fR en tiles ct EE){a:Nat}(c:ct<=a):fR en tiles a EE:=
 { h with le:=fun e b=>by have:=h.le e b; omega }
theorem fR.bytes (h:fR en tiles ct EE):aY en=aA tiles:=by
 unfold aY;rw[<-h.til];exact bytesT_perm (h.perm.map _)
theorem fR.len (h:fR en tiles ct EE):en.length=tiles.length:=by
 rw[<-h.til,zY]; exact h.perm.length_eq
theorem fR.find (h:fR en tiles ct EE)(k:K4):(dB en k=none/\cS tiles k=none)\/∃i e,dB en k=some i/\en[i]?=some e/\e.k=k/\cS tiles k=some e.t:=by
 cases q:dB en k with
 | none=>
  left
  refine⟨rfl,?_⟩;unfold dB at q;rw[List.findIdx?_eq_none_iff] at q;unfold cS;rw[List.find?_eq_none];intro t b;rw[<-h.til] at b;obtain⟨e,c,rfl⟩:=yH.1 b;have:=q e (h.perm.mem_iff.2 c);exact fun d=>of_decide_eq_false this (of_decide_eq_true d)
 | some i=>
  right
  unfold dB at q;rw[yf] at q;obtain⟨hi,f,_⟩:=q
  have a:en[i].k=k:=by simpa using f
  refine⟨i,en[i],rfl,zQ hi,a,?_⟩
  have hm:en[i].t∈tiles:=by
   rw[<-h.til];exact yE (h.perm.mem_iff.1 (List.getElem_mem hi))
  have:=findT_mem h.nod hm;rw[show en[i].t.k=k from a] at this;exact this
theorem fR.out (h:fR en tiles ct EE){i:Nat}{e:En}(hi:en[i]?=some e):∃s t,EE=s++e::t/\(en.eraseIdx i).Perm (s++t)/\bm tiles e.k=(s++t).map En.t:=by
 obtain⟨s,t,b⟩:=List.append_of_mem (h.perm.mem_iff.1 (zR hi));refine⟨s,t,b,?_,?_⟩
 ·obtain⟨f,_⟩:=fx e hi
  refine List.Perm.cons_inv (a:=e) (f.symm.trans (h.perm.trans ?_));rw[b];exact yu
 have d:=h.nod;have c:=h.til;rw[b,yV,zA] at c;rw[<-c] at d ⊢;rw[show e.k=e.t.k from rfl,outT_mid d,yV]
theorem fR.drop (h:fR en tiles ct EE){i:Nat}{e:En}(hi:en[i]?=some e):∃b,fR (en.eraseIdx i) (bm tiles e.k) ct b:=by
 obtain⟨s,t,c,d,f⟩:=h.out hi
 have a:(s++t).Sublist EE:=by rw[c]; exact List.Sublist.append_left (List.sublist_cons_self _ _) _
 exact⟨s++t,d,h.srt.sublist a,fun u g=>h.le u (a.subset g),f.symm,((eK tiles e.k).map _).nodup h.nod⟩
theorem fR.put (h:fR en tiles ct EE)(e:En)(j:e.use=(ct:Int)+1)(g:∀t∈tiles,t.k≠e.k):fR (en++[e]) (tiles++[e.t]) (ct+1) (EE++[e]):=by
 refine⟨h.perm.append_right _,?_,?_,by rw[yV,h.til]; rfl,?_⟩
 ·rw[List.pairwise_append]
  refine⟨h.srt,by simp,fun a d b c=>?_⟩
  simp only[z7] at c;subst c;have:=h.le a d;omega
 ·intro u f
  rcases zh.1 f with q|q
  ·have:=h.le u q; omega
  simp only[z7] at q;subst q;omega
 rw[yV,List.nodup_append]
 refine⟨h.nod,by simp,fun a d b c=>?_⟩
 simp only[zA,yQ,z7] at c;subst c;obtain⟨t,i,rfl⟩:=yH.1 d;exact g t i
theorem fR.used (h:fR en tiles ct EE){i:Nat}{e:En}(hi:en[i]?=some e):∃b,fR (en.set i { e with use:=(ct:Int)+1 }) (bm tiles e.k++[e.t]) (ct+1) b:=by
 obtain⟨b,g⟩:=h.drop hi
 have a:=g.put { e with use:=(ct:Int)+1 } rfl (fun t c q=>by
  unfold bm at c;have:=(yA.1 c).2;simp only[zN] at this;exact this q)
 obtain⟨_,d⟩:=fx { e with use:=(ct:Int)+1 } hi;exact⟨_,(d.trans (List.perm_append_singleton _ _).symm).trans a.perm,a.srt,a.le,a.til,a.nod⟩
theorem fR.dropK (h:fR en tiles ct EE)(k:K4):∃a,fR (dropK en k) (bm tiles k) ct a:=by
 unfold YtpabpniaekldeaaGreatDoor.dropK
 rcases h.find k with⟨b,c⟩|⟨i,e,b,c,d,_⟩
 ·rw[b,oQ (mm c)]
  exact⟨EE,h⟩
 rw[b];obtain⟨a,g⟩:=h.drop c;rw[d] at g;exact⟨a,g⟩
theorem fR.old (h:fR en tiles ct EE){t:aL}{ts:List aL}(l:tiles=t::ts):∃c,fR (en.eraseIdx (dE en en.length)) (bm ts t.k) ct c:=by
 have b:EE.map En.t=t::ts:=h.til.trans l
 cases a:EE with
 | nil=>rw[a] at b; simp at b
 | cons d rest=>
  have n:0<en.length:=by rw[h.perm.length_eq,a]; simp
  have s:dE en en.length<en.length:=lg en _ n;have o:=lU en en.length
  have p:d∈en:=h.perm.mem_iff.2 (by rw[a]; exact yJ ..)
  obtain⟨i,j⟩:=zB.1 p;have m:i<en.length:=(zX.1 j).1;have u:=o i m;obtain⟨e,f⟩:∃e,en[dE en en.length]?=some e:=⟨_,zQ s⟩
  have u1:mJ en (dE en en.length)=e.use:=by unfold mJ; rw[f]; rfl
  have u0:mJ en i=d.use:=by unfold mJ; rw[j]; rfl
  rw[u1,u0] at u
  have r:e=d:=by
   have hm:=h.perm.mem_iff.1 (zR f);rw[a] at hm
   rcases zv.1 hm with q|q
   ·exact q
   have k:=h.srt;rw[a,ya] at k;have:=k.1 e q;omega
  subst r;obtain⟨c,g⟩:=h.drop f;rw[a,zA,List.cons.injEq] at b
  have v:e.k=t.k:=by rw[<-b.1]; rfl
  have w:bm tiles e.k=bm ts t.k:=by
   rw[l,v];simp[bm]
  rw[w] at g;exact⟨c,g⟩
theorem fR.evict (room n:Nat):∀(a:Nat) {en EE:List En} {tiles:List aL},tiles.length<=a->fR en tiles ct EE->∃d,fR (pD room n en) (evict room n tiles) ct d
 | a,en,EE,[],_,h=>by
  have b:=h.len
  rw[jV (by rw[b]; simp),YtpabpniaekldeaaGreatDoor.evict]
  exact⟨EE,h⟩
 | a,en,EE,t::ts,hm,h=>by
  have b:=h.len;have e:=h.bytes;rw[YtpabpniaekldeaaGreatDoor.evict]
  by_cases c:room<aA (t::ts)+n
  ·rw[zJ c,evE_go (by rw[b]; simp) (by rw[e]; exact c)]
   obtain⟨d,g⟩:=h.old rfl;have:=eL ts t.k
   cases a with
   | zero=>simp at hm
   | succ a=>exact fR.evict room n a (by simp only[zS] at hm; omega) g
  rw[zK c,jV (by rw[e]; exact fun q=>c q.2)]
  exact⟨EE,h⟩
theorem fR.lay (h:fR en tiles ct EE)(room:Nat)(t:aL):∃a,fR (mG room ct en t).2 (eT room tiles t) (mG room ct en t).1 a:=by
 unfold mG eT
 by_cases c:room<t.body.size
 ·rw[zJ c,zJ c]; exact⟨EE,h⟩
 rw[zK c,zK c];obtain⟨g,b⟩:=h.dropK t.k;obtain⟨i,d⟩:=b.evict room t.body.size _ aD;refine⟨_,d.put ⟨t.k,t.body,t.tag,(ct:Int)+1⟩ rfl (fun u f q=>?_)⟩;have e:=(fj room t.body.size _ (bm tiles t.k) aD).1;have hm:u.k∈(bm tiles t.k).map aL.k:=yE (e.subset f);rw[show u.k=t.k from q] at hm;exact outT_not tiles t.k hm
theorem fR.filter (h:fR en tiles ct EE)(p:K4->Bool):∃b,fR (en.filter fun e=>p e.k) (tiles.filter fun t=>p t.k) ct b:=by
 have a:(EE.filter fun e=>p e.k).Sublist EE:=yy;refine⟨EE.filter fun e=>p e.k,h.perm.filter _,h.srt.sublist a,fun e c=>h.le e (a.subset c),?_,(List.filter_sublist.map _).nodup h.nod⟩;rw[<-h.til,List.filter_map];rfl
end
def gG:Nat->List Rq->List dJ
 | _,[]=>[]
 | o,r::l=>if r.done then gG (o+1) l else ⟨o,r.k,r.asked,r.due⟩::gG (o+1) l
theorem oo:∀(l a:List Rq) (o:Nat),gG o (l++a)=gG o l++gG (o+l.length) a
 | [],a,o=>by simp[gG]
 | c::l,a,o=>by
  have b:=oo l a (o+1)
  rw[show o+1+l.length=o+(c::l).length by simp; omega] at b
  rw[yj,gG,gG]
  split
  ·exact b
  rw[b]; rfl
theorem om:∀(l:List Rq) (o:Nat) (b:K4),(gG o l).length=bg l b true
 | [],o,b=>by simp[gG,bg]
 | c::l,o,b=>by
  have a:=om l (o+1) b;unfold bg at a ⊢;rw[gG,List.countP_cons]
  cases h:c.done with
  | true=>simp[a]
  | false=>simp[a]
theorem jG:∀(l:List Rq) (o:Nat) (b:K4),aC (gG o l) b=bg l b false
 | [],o,b=>by simp[gG,bg,aC]
 | c::l,o,b=>by
  have a:=jG l (o+1) b;unfold bg aC at a ⊢;rw[gG,List.countP_cons]
  cases h:c.done with
  | true=>simp[a]
  | false=>
   simp only[Bool.false_eq_true,if_false];rw[List.countP_cons,a];simp
theorem ol:∀(l:List Rq) (o i:Nat) (b:Rq),l[i]?=some b->b.done=false->(⟨((o+i:Nat):Int),b.k,b.asked,b.due⟩:dJ)∈gG o l
 | [],o,i,b,h,_=>by simp at h
 | a::l,o,0,b,h,c=>by
  simp only[List.getElem?_cons_zero,zy] at h;subst h;rw[gG,c];exact yJ ..
 | a::l,o,i+1,b,h,c=>by
  have d:=ol l (o+1) i b (by simpa using h) c
  rw[show o+1+i=o+(i+1) by omega] at d
  rw[gG]
  split
  ·exact d
  exact zt _ d
theorem jd (p:dJ->Bool)(g:Rq->Rq):∀(l:List Rq) (o:Nat),(∀i a,l[i]?=some a->g a=if !a.done && p ⟨((o+i:Nat):Int),a.k,a.asked,a.due⟩ then { a with done:=true } else a)->(gG o l).filter (fun a=>!p a)=gG o (l.map g)
 | [],o,_=>by simp[gG]
 | a::l,o,h=>by
  have f:=jd p g l (o+1) fun i a j=>by
   have:=h (i+1) a (by simpa using j)
   rw[show o+(i+1)=o+1+i by omega] at this
   exact this
  have b:=h 0 a rfl;rw[yG] at b;rw[zA,gG,gG]
  cases c:a.done with
  | true=>
   rw[c] at b
   have:(g a).done=true:=by rw[b]; exact c
   rw[this];simpa using f
  | false=>
   rw[c] at b
   cases d:p ⟨(o:Int),a.k,a.asked,a.due⟩ with
   | true=>
    rw[d] at b
    have:(g a).done=true:=by rw[b]; rfl
    rw[this];simpa[d] using f
   | false=>
    rw[d] at b
    have e:g a=a:=by rw[b]; rfl
    rw[e,c];simpa[d] using f
theorem oi (p:dJ->Bool)(q:dJ->gD)(s:Nat->Rq->List gD):∀(l:List Rq) (o:Nat),(∀i a,l[i]?=some a->s (o+i) a=if !a.done && p ⟨((o+i:Nat):Int),a.k,a.asked,a.due⟩ then [q ⟨((o+i:Nat):Int),a.k,a.asked,a.due⟩] else [])->((gG o l).filter p).map q=dS s o l
 | [],o,_=>by simp[gG,dS]
 | a::l,o,h=>by
  have b:=oi p q s l (o+1) fun i a e=>by
   have:=h (i+1) a (by simpa using e)
   rw[show o+(i+1)=o+1+i by omega] at this
   exact this
  have c:=h 0 a rfl;rw[yG] at c;rw[gG,dS,c]
  cases f:a.done with
  | true=>simpa using b
  | false=>
   cases d:p ⟨(o:Int),a.k,a.asked,a.due⟩ with
   | true=>simp[d,b]
   | false=>simp[d,b]
structure Vs (LS:List Ft)(FLs:Nat->List Ft)(bs:List bK):Prop where
 stm:∀v:Nat,v<=bs.length->∀k,eA v k LS=(fB bs v k:Int)
 bod:∀v:Nat,v<=bs.length->∀k,dy k->cg (FLs v) k=cg (dk bs v) k
 len:∀v:Nat,v<=bs.length->(FLs v).length=(dk bs v).length
structure fC (F:FM)(D:DF):Prop where
 q:F.queue=D.q
 wk:F.wks.length=D.wk
 wt:F.wait=D.wt
 ca:F.room=D.ca
 ch:F.chunk=D.ch
 now:F.now=D.now
 arr:F.arrived=D.rq.length
 st:F.started=D.st
 ver:F.ver=D.bs.length
 vs:Vs F.LS F.FLs D.bs
 wai:F.waiting=gG 0 D.rq
 job:∃LL BB,cK D.jb F.line F.wks D.ct LL BB
 cac:∃EE,fR D.en F.tiles D.ct EE
section
variable {F:FM}{D:DF}
theorem fC.tick (h:fC F D):fC F.tick.1 D.tick.1/\F.tick.2=D.tick.2:=by
 have hw:F.tick.1.waiting=gG 0 (D.rq.map (li (D.now+1:Nat))):=by
  rw[<-jd (fun a=>decide (a.due<=((D.now+1:Nat):Int))) (li (D.now+1:Nat)) D.rq 0 (fun i a _=>rfl),<-h.wai];show F.waiting.filter (fun a=>decide (¬a.due<=((F.now+1:Nat):Int)))=_;rw[h.now]
  apply xQ
  intro a _
  by_cases c:a.due<=((D.now+1:Nat):Int)
  ·rw[zU c,zG (fun q=>q c)]; rfl
  rw[zG c,zU c]; rfl
 constructor
 ·obtain⟨f,d,g⟩:=h.job
  refine⟨h.q,h.wk,h.wt,h.ca,h.ch,?_,?_,h.st,h.ver,h.vs,hw,?_,h.cac⟩
  ·show F.now+1=D.now+1
   rw[h.now]
  ·show F.arrived=(D.rq.map _).length
   rw[zY]; exact h.arr
  refine⟨f.filter fun j=>decide (0<bg (D.rq.map (li (D.now+1:Nat))) j.b false),d,?_⟩;have:=g.filter (fun b=>decide (0<bg (D.rq.map (li (D.now+1:Nat))) b false))
  have e:F.tick.1.line=F.line.filter (fun b=>decide (0<bg (D.rq.map (li (D.now+1:Nat))) b false)):=by
   show F.line.filter (fun b=>decide (0<aC F.tick.1.waiting b))=_;rw[hw]
   apply xQ
   intro b _;rw[jG]
  rw[e];exact this
 show((F.waiting.filter fun a=>decide (a.due<=((F.now+1:Nat):Int))).map fun a=>(⟨a.who,504,⟨#[]⟩,⟨#[]⟩⟩:gD))=_;rw[h.wai,h.now];refine oi (fun a=>decide (a.due<=((D.now+1:Nat):Int))) _ (nH (D.now+1:Nat)) D.rq 0 fun i a _=>?_;rw[zb];rfl
theorem fC.jlen (h:fC F D):D.jb.length=F.line.length+F.fls.length:=by
 obtain⟨f,e,a⟩:=h.job;have b:=congrArg List.length a.line;have c:=a.wks.length_eq;have d:=congrArg List.length (wl_b F.wks 0);simp only[zY] at b c d;rw[a.perm.length_eq,zH];unfold FM.fls;omega
theorem fC.elen (h:fC F D):D.en.length=F.tiles.length/\aY D.en=aA F.tiles:=by
 obtain⟨b,a⟩:=h.cac;exact⟨a.len,a.bytes⟩
end
def fL (bs:List bK)(ca:Nat)(b:K4)(rd:Nat)(ts:List aL):Nat->List aL
 | 0=>ts
 | n+1=>if keyErr (cm b n).l (cm b n).z (cm b n).x (cm b n).y=0/\fB bs bs.length (cm b n)<=rd then eT ca (fL bs ca b rd ts n) (dx bs rd (cm b n)) else fL bs ca b rd ts n
theorem fR.layN {en a:List En}{tiles:List aL}{ct:Nat}(h:fR en tiles ct a)(bs:List bK)(ca:Nat)(b:K4)(rd:Nat):∀n,∃c,fR (layN bs ca b rd (ct,en) n).2 (fL bs ca b rd tiles n) (layN bs ca b rd (ct,en) n).1 c
 | 0=>⟨a,h⟩
 | n+1=>by
  obtain⟨d,g⟩:=fR.layN h bs ca b rd n;rw[YtpabpniaekldeaaGreatDoor.layN,fL]
  split
  ·exact g.lay ca _
  exact⟨d,g⟩
theorem keyN0 (b:K4):cm b 0=b:=by apply ib<;>simp[cm]
theorem keyN1 (b:K4):cm b 1=⟨b.l,b.z,b.x+1,b.y⟩:=by apply ib<;>simp[cm]
theorem keyN2 (b:K4):cm b 2=⟨b.l,b.z,b.x,b.y+1⟩:=by apply ib<;>simp[cm]
theorem keyN3 (b:K4):cm b 3=⟨b.l,b.z,b.x+1,b.y+1⟩:=by apply ib<;>simp[cm]
theorem layN_ct (bs:List bK)(ca:Nat)(b:K4)(rd:Nat)(c:Nat × List En):∀n,c.1<=(layN bs ca b rd c n).1
 | 0=>zz _
 | n+1=>by
  have a:=layN_ct bs ca b rd c n;rw[layN]
  split
  ·unfold mG
   split
   ·exact a
   exact Nat.le_succ_of_le a
  exact a
section
variable {F:FM}{D:DF}
theorem fC.tile (h:fC F D){v:Nat}(a:v<=F.ver){k:K4}(b:dy k):F.tileOf Oz v k=dx D.bs v k:=by
 rw[h.ver] at a;unfold FM.tileOf FM.stamp dx;rw[show Oz.body (F.FLs v) k=cg (F.FLs v) k from rfl,h.vs.bod v a k b,show Oz.stamp F.LS (v:Int) k=eA v k F.LS from rfl,h.vs.stm v a k];rfl
theorem fC.same (h:fC F D)(k:K4)(rd:Int):F.same Oz k rd=decide ((fB D.bs D.bs.length k:Int)<=rd):=by
 unfold FM.same FM.stamp;rw[show Oz.stamp F.LS (F.ver:Int) k=eA F.ver k F.LS from rfl,h.ver,h.vs.stm _ aD k]
theorem fC.lay1 (h:fC F D){rd:Nat}(b:rd<=F.ver){k:K4}(a:dy k)(c:List aL):(if F.same Oz (F.tileOf Oz rd k).k rd=true then eT F.room c (F.tileOf Oz rd k) else c)=if keyErr k.l k.z k.x k.y=0/\fB D.bs D.bs.length k<=rd then eT D.ca c (dx D.bs rd k) else c:=by
 rw[h.tile b a,h.ca,show(dx D.bs rd k).k=k from rfl,h.same]
 by_cases q:fB D.bs D.bs.length k<=rd
 ·rw[zJ (zU (by omega)),zJ ⟨a.err,q⟩]
 rw[zK (by rw[zN]; omega),zK (fun z=>q z.2)]
theorem lay0 {bs:List bK}{ca rd:Nat}{k:K4}(a:¬dy k)(c:List aL):(if keyErr k.l k.z k.x k.y=0/\fB bs bs.length k<=rd then eT ca c (dx bs rd k) else c)=c:=by
 rw[zK];intro z;exact a (kerr_ok z.1)
theorem fC.lay (h:fC F D){f:Fl}{rd:Nat}(p:f.reads=rd)(b:rd<=F.ver){k:K4}(s:dy k)(r:f.b=k.blk):F.layU Oz f.reads F.tiles (F.tilesOf Oz f)=fL D.bs D.ca f.b rd F.tiles 4:=by
 subst p
 have j:fL D.bs D.ca f.b f.reads F.tiles 4=(if keyErr (cm f.b 3).l (cm f.b 3).z (cm f.b 3).x (cm f.b 3).y=0/\fB D.bs D.bs.length (cm f.b 3)<=f.reads then eT D.ca (fL D.bs D.ca f.b f.reads F.tiles 3) (dx D.bs f.reads (cm f.b 3)) else fL D.bs D.ca f.b f.reads F.tiles 3):=by rw[fL]
 have i:fL D.bs D.ca f.b f.reads F.tiles 3=(if keyErr (cm f.b 2).l (cm f.b 2).z (cm f.b 2).x (cm f.b 2).y=0/\fB D.bs D.bs.length (cm f.b 2)<=f.reads then eT D.ca (fL D.bs D.ca f.b f.reads F.tiles 2) (dx D.bs f.reads (cm f.b 2)) else fL D.bs D.ca f.b f.reads F.tiles 2):=by rw[fL]
 have g:fL D.bs D.ca f.b f.reads F.tiles 2=(if keyErr (cm f.b 1).l (cm f.b 1).z (cm f.b 1).x (cm f.b 1).y=0/\fB D.bs D.bs.length (cm f.b 1)<=f.reads then eT D.ca (fL D.bs D.ca f.b f.reads F.tiles 1) (dx D.bs f.reads (cm f.b 1)) else fL D.bs D.ca f.b f.reads F.tiles 1):=by rw[fL]
 have e:fL D.bs D.ca f.b f.reads F.tiles 1=(if keyErr (cm f.b 0).l (cm f.b 0).z (cm f.b 0).x (cm f.b 0).y=0/\fB D.bs D.bs.length (cm f.b 0)<=f.reads then eT D.ca F.tiles (dx D.bs f.reads (cm f.b 0)) else F.tiles):=by rw[fL,fL]
 rw[keyN0] at e;rw[keyN1] at g;rw[keyN2] at i;rw[keyN3] at j
 have a:∀l,l∈f.b.keys->dy l:=fun l o=>by rw[r] at o; exact((jR s).1 o).1
 unfold FM.layU FM.tilesOf
 by_cases d:f.b.z=0
 ·have c:f.b.keys=[f.b]:=by unfold K4.keys; rw[zJ d]
  have n:=a f.b (by rw[c]; exact yJ ..)
  have m:∀x y:Int,(x≠f.b.x\/y≠f.b.y)->¬dy ⟨f.b.l,f.b.z,x,y⟩:=fun x y u q=>by
   have t:=q.zero d;have v:=n.zero d;dsimp only at t;omega
  rw[j,lay0 (m _ _ (by omega)),i,lay0 (m _ _ (by omega)),g,lay0 (m _ _ (by omega)),e,c]
  rw[zA,yQ,List.foldl_cons,List.foldl_nil,h.lay1 b n]
 have c:f.b.keys=[f.b,⟨f.b.l,f.b.z,f.b.x+1,f.b.y⟩,⟨f.b.l,f.b.z,f.b.x,f.b.y+1⟩,⟨f.b.l,f.b.z,f.b.x+1,f.b.y+1⟩]:=by unfold K4.keys; rw[zK d]
 rw[c] at a ⊢;simp only[zA,yQ,List.foldl_cons,List.foldl_nil]
 rw[h.lay1 b (a _ (by simp)),h.lay1 b (a _ (by simp)),h.lay1 b (a _ (by simp)),h.lay1 b (a _ (by simp)),j,i,g,e]
theorem kZ (bs:List bK)(j:Jb):∀(l:List Rq) (o:Nat),iC bs j o l=dS (svR bs j) o l
 | [],o=>rfl
 | r::l,o=>by rw[iC,dS,kZ bs j l (o+1)]
theorem fC.paint (h:fC F D)(p:Ok Oz F){i a:Nat}{j:Jb}{f:Fl}(hi:D.jb[i]?=some j)(hw:j.wk=(a:Int))(w:F.wks[a]?=some (some f))(H:j.t=f.t (a:Int)):fC (F.finishW Oz a f).1 (D.paint i j).1/\(F.finishW Oz a f).2=(D.paint i j).2:=by
 have v:j.b=f.b:=congrArg (fun t:Jt=>t.1) H;have A:j.rd=(f.reads:Int):=congrArg (fun t:Jt=>t.2.2.1) H
 have B:j.rd.toNat=f.reads:=by rw[A]; exact Int.toNat_natCast _
 obtain⟨s,_,k,S,M⟩:=p.flt f (eY w)
 have x:∀(n:Nat) (b:Rq),D.rq[n]?=some b->b.done=false->F.good Oz (F.tilesOf Oz f) f.reads ⟨((0+n:Nat):Int),b.k,b.asked,b.due⟩=if svd D.bs j b then some (dx D.bs f.reads b.k) else none:=by
  intro n b d m
  have hm:(⟨((0+n:Nat):Int),b.k,b.asked,b.due⟩:dJ)∈F.waiting:=by rw[h.wai]; exact ol D.rq 0 n b d m
  rw[p.good (eY w) hm];dsimp only;have P:dy b.k:=(p.req _ hm).2.2.2.1;rw[h.tile s P,h.same];unfold svd;rw[m,v,A]
  by_cases r:b.k.blk=f.b
  ·rw[zU r]
   by_cases o:b.asked<=(f.reads:Int)\/(fB D.bs D.bs.length b.k:Int)<=(f.reads:Int)
   ·rw[zJ ⟨r,by simpa using o⟩,zJ (by
     rcases o with q|q
     ·simp[q]
     rw[zU q]; rfl)]
   rw[zK (fun q=>o (by simpa using q.2)),zK (by
    have V:¬b.asked<=(f.reads:Int):=fun q=>o (Or.inl q);have W:¬(fB D.bs D.bs.length b.k:Int)<=(f.reads:Int):=fun q=>o (Or.inr q)
    rw[zG V,zG W]; decide)]
  rw[zK (fun q=>r q.1),zG r]; rfl
 have y:F.fineL Oz (F.tilesOf Oz f) f.reads=gG 0 (fP D.bs j D.rq):=by
  unfold FM.fineL fP;rw[<-jd (fun b=>(F.good Oz (F.tilesOf Oz f) f.reads b).isSome) (svF D.bs j) D.rq 0 ?_,<-h.wai]
  ·apply xQ
   intro b _
   cases F.good Oz (F.tilesOf Oz f) f.reads b<;>rfl
  intro n b d;unfold svF
  cases m:b.done with
  | true=>
   have:svd D.bs j b=false:=by unfold svd; rw[m]; rfl
   rw[this]; rfl
  | false=>
   rw[x n b d m]
   cases svd D.bs j b<;>rfl
 have J:F.fineR Oz (F.tilesOf Oz f) f.reads=iC D.bs j 0 D.rq:=by
  unfold FM.fineR;rw[kZ,h.wai];rw[<-oi (fun b=>(F.good Oz (F.tilesOf Oz f) f.reads b).isSome) (fun b=>⟨b.who,200,(dx D.bs f.reads b.k).body,(dx D.bs f.reads b.k).tag⟩) (svR D.bs j) D.rq 0 ?_]
  ·have key:∀b∈gG 0 D.rq,F.good Oz (F.tilesOf Oz f) f.reads b=none\/F.good Oz (F.tilesOf Oz f) f.reads b=some (dx D.bs f.reads b.k):=by
    intro b d;rw[<-h.wai] at d;rw[p.good (eY w) d,h.tile s (p.req _ d).2.2.2.1]
    split
    ·exact Or.inr rfl
    exact Or.inl rfl
   generalize gG 0 D.rq=l at key ⊢
   induction l with
   | nil=>rfl
   | cons b l U=>
    have C:=U fun q T=>key q (zt _ T)
    rcases key b (yJ ..) with e|e
    ·rw[List.filterMap_cons,e,yC (by rw[e]; simp)]
     exact C
    rw[List.filterMap_cons,e,y1 (by rw[e]; rfl),zA]
    exact congrArg _ C
  intro n b d;unfold svR;rw[zb,B]
  cases m:b.done with
  | true=>
   have:svd D.bs j b=false:=by unfold svd; rw[m]; rfl
   rw[this]; rfl
  | false=>
   have:=x n b d m;rw[zb] at this;rw[this]
   cases svd D.bs j b<;>rfl
 refine⟨?_,J⟩;obtain⟨u,E,R⟩:=h.job;obtain⟨G,Q⟩:=h.cac;obtain⟨L,N⟩:=Q.layN D.bs D.ca j.b j.rd.toNat 4
 have I:F.layU Oz f.reads F.tiles (F.tilesOf Oz f)=fL D.bs D.ca j.b j.rd.toNat F.tiles 4:=by rw[B,v]; exact h.lay rfl s S M
 have O:=layN_ct D.bs D.ca j.b j.rd.toNat (D.ct,D.en) 4;have z:=R.mono O;refine⟨h.q,?_,h.wt,h.ca,h.ch,h.now,?_,h.st,h.ver,h.vs,y,?_,?_⟩
 ·show(F.wks.set a none).length=_
  rw[zn]; exact h.wk
 ·show F.arrived=(fP D.bs j D.rq).length
  unfold fP
  rw[zY]; exact h.arr
 ·show ∃u E,cK (ptJ (fP D.bs j D.rq) (layN D.bs D.ca j.b j.rd.toNat (D.ct,D.en) 4).1 D.jb i j.b).2 (if 0<aC (F.fineL Oz (F.tilesOf Oz f) f.reads) f.b then F.line++[f.b] else F.line) (F.wks.set a none) (ptJ (fP D.bs j D.rq) (layN D.bs D.ca j.b j.rd.toNat (D.ct,D.en) 4).1 D.jb i j.b).1 u E
  rw[y,jG,<-v];unfold ptJ
  by_cases c:0<bg (fP D.bs j D.rq) j.b false
  ·rw[zJ c,zJ c]
   exact z.back hi hw j.b
  rw[zK c,zK c];obtain⟨K,g⟩:=z.gone hi hw;exact⟨u,K,g⟩
 show ∃G,fR (layN D.bs D.ca j.b j.rd.toNat (D.ct,D.en) 4).2 (F.layU Oz f.reads F.tiles (F.tilesOf Oz f)) (ptJ (fP D.bs j D.rq) (layN D.bs D.ca j.b j.rd.toNat (D.ct,D.en) 4).1 D.jb i j.b).1 G;rw[I];refine⟨L,N.mono ?_⟩;unfold ptJ
 split
 ·exact yn _
 exact zz _
end
section
variable {F:FM}{D:DF}
theorem idx_some {α:Type}{p:α->Bool}{l:List α}{i:Nat}(h:l.findIdx? p=some i):∃a,l[i]?=some a/\p a=true:=by
 rw[yf] at h;obtain⟨hi,b,_⟩:=h;exact⟨l[i],zQ hi,b⟩
theorem idx_none {α:Type}{p:α->Bool}{l:List α}(h:l.findIdx? p=none):∀a∈l,p a=false:=by
 rw[List.findIdx?_eq_none_iff] at h;exact h
theorem jW {α:Type}:∀(l:List α) (i:Nat) (a:α),(l.set i a).eraseIdx i=l.eraseIdx i
 | [],i,a=>by simp
 | b::l,0,a=>by simp
 | b::l,i+1,a=>by simp[jW l i a]
theorem fC.step (h:fC F D){i a:Nat}{j:Jb}{b:Fl}(lf:Int)(hi:D.jb[i]?=some j)(hw:j.wk=(a:Int))(e:b.b=j.b)(l:(b.reads:Int)=j.rd)(k:(b.left:Int)=lf):fC { F with wks:=F.wks.set a (some b) } { D with jb:=D.jb.set i { j with lf:=lf } }:=by
 obtain⟨d,m,f⟩:=h.job;obtain⟨c,g⟩:=f.step hi hw b lf e l k
 exact⟨h.q,by show(F.wks.set a _).length=_; rw[zn]; exact h.wk,h.wt,h.ca,h.ch,h.now,h.arr,h.st,h.ver,h.vs,h.wai,⟨d,c,g⟩,h.cac⟩
theorem fC.work (h:fC F D)(v:Ok Oz F)(a:Nat):fC (F.work Oz a).1 (D.work a).1/\(F.work Oz a).2=(D.work a).2:=by
 unfold FM.work DF.work
 by_cases n:D.wk<=a
 ·rw[zJ n,yR (by rw[h.wk]; exact n)]
  exact⟨h,rfl⟩
 rw[zK n]
 have x:a<F.wks.length:=by rw[h.wk]; omega
 obtain⟨N,M,d⟩:=h.job
 cases w:wkI D.jb a with
 | some i=>
  obtain⟨j,hi,H⟩:=idx_some w;have hw:j.wk=(a:Int):=of_decide_eq_true H;obtain⟨_,f,p,l⟩:=d.find (zR hi) hw;have E:j.b=f.b:=congrArg (fun t:Jt=>t.1) l;have z:j.rd=(f.reads:Int):=congrArg (fun t:Jt=>t.2.2.1) l;have L:j.lf=(f.left:Int):=congrArg (fun t:Jt=>t.2.2.2) l;have K:=(v.flt f (eY p)).2.1.pos;rw[p];dsimp only;rw[hi];dsimp only
  by_cases c:1<f.left
  ·rw[zJ c,zK (by omega)]
   exact⟨h.step (j.lf-1) hi hw E.symm z.symm (by show((f.left-1:Nat):Int)=_; omega),rfl⟩
  rw[zK c,zJ (by omega)]
  have G:=h.paint v hi hw p l
  have e:DF.paint { D with jb:=D.jb.set i { j with lf:=j.lf-1 } } i { j with lf:=j.lf-1 }=D.paint i j:=by
   unfold DF.paint;have m:∀rq:List Rq,fP D.bs { j with lf:=j.lf-1 } rq=fP D.bs j rq:=fun rq=>rfl
   have k:∀rq:List Rq,∀o,iC D.bs { j with lf:=j.lf-1 } o rq=iC D.bs j o rq:=fun rq o=>by
    rw[kZ,kZ]; rfl
   dsimp only;rw[m,k];unfold ptJ;rw[List.set_set,jW]
  rw[e];exact G
 | none=>
  have y:=idx_none w
  have s:=d.idle x fun j d e=>by
   have:=y j d;rw[decide_eq_false_iff_not] at this;exact this e
  rw[s];dsimp only;unfold FM.takeW;obtain⟨I,J⟩:=d.head
  cases u:F.line with
  | nil=>
   rw[I u];exact⟨h,rfl⟩
  | cons b rest=>
   obtain⟨i,j,r,m,k,A,B,C⟩:=J b rest u;rw[m];dsimp only;rw[k];dsimp only;refine⟨?_,rfl⟩;subst A;obtain⟨q,g⟩:=d.take C k s ⟨b,F.ver,bB (F.FLs F.ver).length F.chunk,0⟩ B.symm
   refine⟨h.q,by show(F.wks.set a _).length=_; rw[zn]; exact h.wk,h.wt,h.ca,h.ch,h.now,h.arr,?_,h.ver,h.vs,h.wai,⟨r,q,?_⟩,h.cac⟩
   ·show F.started+1=D.st+1
    rw[h.st]
   show cK (D.jb.set i { j with wk:=(a:Int),rd:=(D.bs.length:Int),lf:=(bB (dk D.bs D.bs.length).length D.ch:Int) }) rest (F.wks.set a _) D.ct r q;rw[<-h.vs.len _ aD,<-h.ver,<-h.ch];exact g
theorem fC.came (h:fC F D)(a:Rq)(b:a.done=true):fC { F with arrived:=F.arrived+1 } { D with rq:=D.rq++[a] }:=by
 refine⟨h.q,h.wk,h.wt,h.ca,h.ch,h.now,?_,h.st,h.ver,h.vs,?_,h.job,h.cac⟩
 ·show F.arrived+1=(D.rq++[a]).length
  rw[zH,h.arr]; rfl
 show F.waiting=gG 0 (D.rq++[a]);rw[oo,h.wai];unfold gG;rw[b];simp[gG]
theorem fC.arriveE (h:fC F D)(k:K4){e:Int}(a:e≠0)(tag:ByteArray):fC (F.arriveE e).1 (D.arrive k e tag).1/\(F.arriveE e).2=(D.arrive k e tag).2:=by
 unfold FM.arriveE DF.arrive;dsimp only
 by_cases c:e=1
 ·rw[zJ c,zJ c,h.arr]
  have:=h.came ⟨k,D.bs.length,(D.now:Int)+D.wt,true⟩ rfl;rw[h.arr] at this;exact⟨this,rfl⟩
 rw[zK c,zK c,zJ a,h.arr];have:=h.came ⟨k,D.bs.length,(D.now:Int)+D.wt,true⟩ rfl;rw[h.arr] at this;exact⟨this,rfl⟩
theorem fC.arriveK (h:fC F D)(C:Ok Oz F)(k:K4)(tag:ByteArray):fC (F.arriveK Oz k tag).1 (D.arrive k 0 tag).1/\(F.arriveK Oz k tag).2=(D.arrive k 0 tag).2:=by
 have A:F.stamp Oz F.ver k=(fB D.bs D.bs.length k:Int):=by
  unfold FM.stamp;rw[show Oz.stamp F.LS (F.ver:Int) k=eA F.ver k F.LS from rfl,h.ver,h.vs.stm _ aD k]
 have d:=h.came ⟨k,D.bs.length,(D.now:Int)+D.wt,true⟩ rfl;unfold FM.arriveK DF.arrive;dsimp only
 rw[zK (show ¬(0:Int)=1 by decide),zK (show ¬(0:Int)≠0 by decide),A,show Oz.tag k (fB D.bs D.bs.length k:Int)=du k (fB D.bs D.bs.length k:Int) from rfl]
 by_cases c:du k (fB D.bs D.bs.length k:Int)=tag
 ·rw[zJ c.symm,zJ c]
  exact⟨d,by rw[h.arr]⟩
 rw[zK (fun q=>c q.symm),zK c];obtain⟨B,n⟩:=h.cac
 rcases n.find k with⟨o,l⟩|⟨i,e,o,l,I,G⟩
 ·rw[o,l]
  dsimp only
  have u:F.waiting.length=bg D.rq k true:=by rw[h.wai]; exact om _ _ _
  have H:=C.wq
  by_cases w:F.queue<=F.waiting.length
  ·rw[zJ w,zJ (by rw[<-u,<-h.q]; omega)]
   exact⟨d,by rw[h.arr]⟩
  rw[zK w,zK (by rw[<-u,<-h.q]; omega)]
  obtain⟨b,a,f⟩:=h.job;have r:=f.has k.blk;have t:=nM F k.blk
  have s:F.waiting++[(⟨(F.arrived:Int),k,F.ver,F.now+F.wait⟩:dJ)]=gG 0 (D.rq++[⟨k,D.bs.length,(D.now:Int)+D.wt,false⟩]):=by
   rw[oo,h.wai,h.arr,h.ver,h.now,h.wt];unfold gG;simp[gG]
  have p:F.arrived+1=(D.rq++[(⟨k,D.bs.length,(D.now:Int)+D.wt,false⟩:Rq)]).length:=by rw[zH,h.arr]; rfl
  cases v:o7 D.jb k.blk with
  | some J=>
   obtain⟨j,hi,E⟩:=idx_some v;have m:F.hasFl k.blk=true:=t.2 (r.1 ⟨j,zR hi,of_decide_eq_true E⟩);refine⟨⟨h.q,h.wk,h.wt,h.ca,h.ch,h.now,p,h.st,h.ver,h.vs,s,?_,h.cac⟩,rfl⟩
   show ∃b a,cK D.jb (if F.hasFl k.blk=true then F.line else F.line++[k.blk]) F.wks D.ct b a
   rw[zJ m];exact h.job
  | none=>
   have z:=idx_none v
   have m:¬F.hasFl k.blk=true:=fun q=>by
    obtain⟨j,y,e⟩:=r.2 (t.1 q);have:=z j y;rw[decide_eq_false_iff_not] at this;exact this e
   refine⟨⟨h.q,h.wk,h.wt,h.ca,h.ch,h.now,p,h.st,h.ver,h.vs,s,?_,?_⟩,rfl⟩
   ·show ∃b a,cK (D.jb++[⟨k.blk,-1,(D.ct:Int)+1,0,0⟩]) (if F.hasFl k.blk=true then F.line else F.line++[k.blk]) F.wks (D.ct+1) b a
    rw[zK m];exact⟨_,a,f.add k.blk⟩
   exact⟨B,n.mono (yn _)⟩
 rw[o,G];dsimp only;rw[l];dsimp only;obtain⟨x,g⟩:=n.used l;obtain⟨b,a,f⟩:=h.job;refine⟨⟨h.q,h.wk,h.wt,h.ca,h.ch,h.now,d.arr,h.st,h.ver,h.vs,d.wai,⟨b,a,f.mono (yn _)⟩,⟨x,g⟩⟩,?_⟩
 rw[h.arr]; rfl
theorem fC.write (h:fC F D)(b:bK){a d:List Ft}(g:Vs a (fun v=>if v=F.ver+1 then d else F.FLs v) (D.bs++[b])):fC (F.write Oz a d) (D.write b):=by
 obtain⟨j,i⟩:=h.cac
 have f:(D.bs++[b]).length=D.bs.length+1:=by simp
 refine⟨h.q,h.wk,h.wt,h.ca,h.ch,h.now,h.arr,h.st,by show F.ver+1=(D.bs++[b]).length; rw[f,h.ver],g,h.wai,h.job,?_⟩
 have e:(F.write Oz a d).tiles=F.tiles.filter fun t=>decide (fB (D.bs++[b]) (D.bs.length+1) t.k<=D.bs.length):=by
  show F.tiles.filter (fun t=>decide (eA ((F.ver+1:Nat):Int) t.k a<=(F.ver:Int)))=_
  apply xQ
  intro t _
  rw[h.ver,g.stm (D.bs.length+1) (by rw[f]; exact zz _)]
  by_cases c:fB (D.bs++[b]) (D.bs.length+1) t.k<=D.bs.length
  ·rw[zU c,zU (by omega)]
  rw[zG c,zG (by omega)]
 rw[e];exact i.filter fun k=>decide (fB (D.bs++[b]) (D.bs.length+1) k<=D.bs.length)
end
theorem perm_one {α:Type}{a b:List α}(h:a.Perm b)(c:b.length<=1):a=b:=by
 cases b with
 | nil=>exact h.eq_nil
 | cons x b=>
  cases b with
  | nil=>exact List.perm_singleton.1 h
  | cons y b=>simp at c
theorem eN {α d:Type}{f g:α->List d}:∀{l:List α},(∀a∈l,f a=g a)->l.flatMap f=l.flatMap g
 | [],_=>rfl
 | a::l,h=>by rw[yv,yv,h a (yJ ..),eN fun b c=>h b (zt _ c)]
theorem wl_ge:∀(l:List (Option Fl)) (o:Nat),∀t∈wl o l,(o:Int)<=t.2.1
 | l,o,t,a=>by
  obtain⟨i,f,_,e⟩:=(oh l o t).1 a;rw[e];show(o:Int)<=((o+i:Nat):Int);omega
theorem wl_no {l:List (Option Fl)}{o w:Nat}(h:w<o):(wl o l).filter (fun t=>decide (t.2.1=(w:Int)))=[]:=by
 rw[yx];intro t a;have:=wl_ge l o t a;rw[zN];omega
theorem wl_le1:∀(l:List (Option Fl)) (o w:Nat),((wl o l).filter (fun t=>decide (t.2.1=(w:Int)))).length<=1
 | [],o,w=>by simp[wl]
 | none::l,o,w=>wl_le1 l (o+1) w
 | some f::l,o,w=>by
  rw[wl]
  by_cases c:o=w
  ·subst c
   rw[y1 (by rw[zN]; rfl),wl_no (Nat.lt_succ_self _)]
   simp
  rw[yC (by rw[zN]; show ¬((o:Int)=(w:Int)); omega)]
  exact wl_le1 l (o+1) w
theorem wl_all:∀(l:List (Option Fl)) (o:Nat),(List.range' o l.length).flatMap (fun(w:Nat)=>(wl o l).filter (fun t=>decide (t.2.1=(w:Int))))=wl o l
 | [],o=>by simp[wl]
 | none::l,o=>by
  have a:=wl_all l (o+1);rw[zS,List.range'_succ,yv,wl,wl_no (Nat.lt_succ_self _),yp];exact a
 | some f::l,o=>by
  have a:=wl_all l (o+1);rw[zS,List.range'_succ,yv,wl]
  rw[y1 (by rw[zN]; rfl),wl_no (Nat.lt_succ_self _)]
  have e:(List.range' (o+1) l.length).flatMap (fun(w:Nat)=>(f.t o::wl (o+1) l).filter (fun t=>decide (t.2.1=(w:Int))))=wl (o+1) l:=by
   rw[eN (g:=fun(w:Nat)=>(wl (o+1) l).filter (fun t=>decide (t.2.1=(w:Int)))) fun w hw=>?_]
   ·exact a
   rw[yC];have:=(List.mem_range'_1.1 hw).1;rw[zN];show ¬((o:Int)=(w:Int));omega
  rw[e];rfl
theorem pl_all:∀(n:Nat) (l:List Jb) (lo:Nat),l.Pairwise (fun a b=>a.pl<b.pl)->(∀j∈l,(lo:Int)<=j.pl/\j.pl<(lo:Int)+n)->(List.range' lo n).flatMap (fun(p:Nat)=>l.filter (fun j=>decide (j.pl=(p:Int))))=l
 | 0,l,lo,_,h=>by
  cases l with
  | nil=>simp
  | cons j l=>have:=h j (yJ ..); omega
 | n+1,l,lo,i,h=>by
  rw[List.range'_succ,yv]
  cases l with
  | nil=>simp
  | cons j l=>
   have e:=ya.1 i;have r:=h j (yJ ..)
   by_cases c:j.pl=(lo:Int)
   ·have f:(j::l).filter (fun j=>decide (j.pl=(lo:Int)))=[j]:=by
     rw[y1 (p:=fun(j:Jb)=>decide (j.pl=(lo:Int))) (zU c)]
     congr 1
     rw[yx];intro a d;have:=e.1 a d;rw[zN];omega
    have k:(List.range' (lo+1) n).flatMap (fun(p:Nat)=>(j::l).filter (fun j=>decide (j.pl=(p:Int))))=l:=by
     rw[eN (g:=fun(p:Nat)=>l.filter (fun j=>decide (j.pl=(p:Int)))) fun p o=>?_]
     ·refine pl_all n l (lo+1) e.2 fun a d=>?_
      have q:=e.1 a d;have m:=h a (zt _ d);omega
     rw[yC];have:=(List.mem_range'_1.1 o).1;rw[zN];omega
    rw[f,k];rfl
   have f:(j::l).filter (fun j=>decide (j.pl=(lo:Int)))=[]:=by
    rw[yx];intro a d;rw[zN]
    rcases zv.1 d with rfl|d
    ·exact c
    have:=e.1 a d;omega
   rw[f,yp];refine pl_all n (j::l) (lo+1) i fun a d=>?_;have m:=h a d
   rcases zv.1 d with rfl|d
   ·omega
   have:=e.1 a d;omega
theorem pl_le1:∀(l:List Jb) (p:Nat),l.Pairwise (fun a b=>a.pl<b.pl)->(l.filter (fun j=>decide (j.pl=(p:Int)))).length<=1
 | [],p,_=>by simp
 | j::l,p,f=>by
  have d:=ya.1 f
  by_cases c:j.pl=(p:Int)
  ·rw[y1 (p:=fun(j:Jb)=>decide (j.pl=(p:Int))) (zU c)]
   have:l.filter (fun j=>decide (j.pl=(p:Int)))=[]:=by
    rw[yx];intro a e;have:=d.1 a e;rw[zN];omega
   rw[this]; simp
  rw[yC (by rw[zN]; exact c)]
  exact pl_le1 l p d.2
def DF.toldW (D:DF)(w:Nat)(l:List Jb):List f9:=(l.filter fun j=>decide (j.wk=(w:Int))).map fun j=>⟨j.b,w,j.rd,j.lf,bg D.rq j.b false⟩
def DF.toldP (D:DF)(p:Nat)(l:List Jb):List f9:=(l.filter fun j=>decide (j.wk<0) && decide (j.pl=(p:Int))).map fun j=>⟨j.b,-1,-1,0,bg D.rq j.b false⟩
def DF.told (D:DF):List f9:=(List.range D.wk).flatMap (fun w=>D.toldW w D.jb)++(List.range (D.ct+1)).flatMap fun p=>D.toldP p D.jb
section
variable {F:FM}{D:DF}
theorem zip_wl (ws:List dJ):∀(l:List (Option Fl)) (o:Nat),((l.zipIdx o).filterMap fun(p:Option Fl × Nat)=>p.1.map fun fl=>(⟨fl.b,p.2,fl.reads,fl.left,aC ws fl.b⟩:f9))=(wl o l).map fun t=>⟨t.1,t.2.1,t.2.2.1,t.2.2.2,aC ws t.1⟩
 | [],o=>by simp[wl]
 | none::l,o=>by
  rw[List.zipIdx_cons,List.filterMap_cons];exact zip_wl ws l (o+1)
 | some f::l,o=>by
  rw[List.zipIdx_cons,List.filterMap_cons,wl,zA];exact congrArg _ (zip_wl ws l (o+1))
theorem fC.told (h:fC F D):F.told=D.told:=by
 obtain⟨d,q,b⟩:=h.job;unfold FM.told DF.told
 congr 1
 ·have r:=zip_wl F.waiting F.wks 0
  rw[show(F.wks.zipIdx.filterMap fun(x:Option Fl × Nat)=>match x with
   | (o,i)=>o.map fun fl=>(⟨fl.b,i,fl.reads,fl.left,aC F.waiting fl.b⟩:f9))=_ from r]
  have k:∀w∈List.range D.wk,D.toldW w D.jb=((wl 0 F.wks).filter (fun t=>decide (t.2.1=(w:Int)))).map fun t=>⟨t.1,t.2.1,t.2.2.1,t.2.2.2,aC F.waiting t.1⟩:=by
   intro w _
   have l:((D.jb.filter fun j=>decide (j.wk=(w:Int))).map Jb.t).Perm ((wl 0 F.wks).filter (fun t=>decide (t.2.1=(w:Int)))):=by
    have c:=((b.perm.filter fun j=>decide (j.wk=(w:Int)))).map Jb.t;rw[yI] at c
    have n:d.filter (fun j=>decide (j.wk=(w:Int)))=[]:=by
     rw[yx];intro a e;have:=(b.lin a e).1;rw[zN];omega
    rw[n,yp] at c;refine c.trans ?_;have f:=b.wks.filter fun t=>decide (t.2.1=(w:Int));rw[List.filter_map] at f;exact f
   have m:=perm_one l (wl_le1 _ _ _);rw[<-m,List.map_map];unfold DF.toldW
   apply List.map_congr_left
   intro j g;have hw:=of_decide_eq_true (yA.1 g).2;show(⟨j.b,(w:Int),j.rd,j.lf,(bg D.rq j.b false:Int)⟩:f9)=⟨j.b,j.wk,j.rd,j.lf,(aC F.waiting j.b:Int)⟩;rw[h.wai,jG,hw]
  rw[eN k,<-List.map_flatMap]
  congr 1
  rw[<-h.wk,List.range_eq_range'];exact(wl_all F.wks 0).symm
 have k:∀p∈List.range (D.ct+1),D.toldP p D.jb=(d.filter (fun j=>decide (j.pl=(p:Int)))).map fun j=>⟨j.b,-1,-1,0,aC F.waiting j.b⟩:=by
  intro p _
  have l:(D.jb.filter fun j=>decide (j.wk<0) && decide (j.pl=(p:Int))).Perm (d.filter (fun j=>decide (j.pl=(p:Int)))):=by
   have c:=b.perm.filter fun j=>decide (j.wk<0) && decide (j.pl=(p:Int));rw[yI] at c
   have n:q.filter (fun j=>decide (j.wk<0) && decide (j.pl=(p:Int)))=[]:=by
    rw[yx];intro a e;have:=b.bb0 e
    rw[zG (by omega)]
    simp
   rw[n,yW] at c
   have f:d.filter (fun j=>decide (j.wk<0) && decide (j.pl=(p:Int)))=d.filter (fun j=>decide (j.pl=(p:Int))):=by
    apply xQ
    intro a e;have:=(b.lin a e).1
    rw[zU (by omega),Bool.true_and]
   rw[f] at c;exact c
  have m:=perm_one l (pl_le1 _ _ b.srt);unfold DF.toldP;rw[m]
  apply List.map_congr_left
  intro j _;rw[h.wai,jG]
 rw[eN k,<-List.map_flatMap,List.range_eq_range',pl_all (D.ct+1) d 0 b.srt (fun j g=>by have:=(b.lin j g).2; omega),<-b.line,List.map_map]
 rfl
def gC (jb:List Jb):Nat:=jb.countP fun j=>decide (j.wk<0)
theorem fC.line (h:fC F D):F.line.length=gC D.jb/\(F.busy:Int)=(D.jb.length:Int)-gC D.jb:=by
 have l:=h.jlen;obtain⟨b,f,c⟩:=h.job
 have e:gC D.jb=b.length:=by
  unfold gC;rw[c.perm.countP_eq,List.countP_append]
  have g:b.countP (fun j=>decide (j.wk<0))=b.length:=by
   rw[List.countP_eq_length];intro a d;have:=(c.lin a d).1
   exact zU (by omega)
  have i:f.countP (fun j=>decide (j.wk<0))=0:=by
   rw[List.countP_eq_zero];intro a d;have:=c.bb0 d;rw[zN];omega
  rw[g,i,yG]
 have k:b.length=F.line.length:=by rw[<-c.line,zY]
 rw[busy_fls]
 constructor
 ·omega
 omega
theorem fC.look (h:fC F D)(b:K4):F.ver=D.bs.length/\F.now=D.now/\F.arrived=D.rq.length/\F.waiting.length=bg D.rq b true/\F.line.length=gC D.jb/\(F.busy:Int)=(D.jb.length:Int)-gC D.jb/\F.tiles.length=D.en.length/\aA F.tiles=aY D.en/\F.started=D.st:=
 ⟨h.ver,h.now,h.arr,by rw[h.wai]; exact om _ _ _,h.line.1,h.line.2,h.elen.1.symm,h.elen.2.symm,h.st⟩
end
theorem ed (f:Ft){j:Nat}(h:j<24):nf f j=f j:=iQ f j h
theorem nf_zf:nf zf=zf:=by funext j; simp[nf,zf]
theorem edge_nf {f:Ft}{n:Int}{k:Nat}(e:n<=8)(d:(k:Int)<n)(x y:Int):ig (nf f) n k x y=ig f n k x y:=by
 unfold ig
 have a:=ed f (j:=8+k) (by omega)
 have b:=ed f (j:=16+k) (by omega)
 by_cases c:n<=(k:Int)+1
 ·rw[zJ c,a,b,ed f (j:=8+0) (by omega),ed f (j:=16+0) (by omega)]
 rw[zK c,a,b,ed f (j:=8+(k+1)) (by omega),ed f (j:=16+(k+1)) (by omega)]
theorem par_nf {f:Ft}{n:Int}(a:n<=8)(x y:Int):∀k:Nat,(k:Int)<=n->lQ (nf f) n x y k=lQ f n x y k
 | 0,_=>rfl
 | k+1,h=>by rw[lQ,lQ,par_nf a x y k (by omega),edge_nf a (by omega)]
theorem cov_nf {f:Ft}(h:Rt f)(u x y:Int):jZ (nf f) u x y=jZ f u x y:=by
 unfold jZ
 rw[ed f (j:=2) (by omega),ed f (j:=8) (by omega),ed f (j:=16) (by omega),ed f (j:=6) (by omega),ed f (j:=7) (by omega)]
 have a:0<=f 7/\f 7<=8:=by rcases h.kind with q|q<;>omega
 rw[par_nf a.2 x y _ (by omega)]
theorem isAb_nf (a b:Ft):fM (nf a) (nf b)=fM a b:=by
 unfold fM
 rw[ed a (j:=0) (by omega),ed b (j:=0) (by omega),ed a (j:=4) (by omega),ed b (j:=4) (by omega)]
theorem top_nf {a:List Ft}(d:∀i,i<a.length->Rt (gf a i))(l z u b c:Int):∀k,k<=a.length->fO (gf (a.map nf)) l z u b c k=nf (fO (gf a) l z u b c k)
 | 0,_=>nf_zf.symm
 | k+1,f=>by
  have e:iw (nf (gf a k)) l z=iw (gf a k) l z:=by
   unfold iw
   rw[ed _ (j:=1) (by omega),ed _ (j:=5) (by omega)]
  rw[fO,fO,top_nf d l z u b c k (by omega),fE (by omega),e,isAb_nf,cov_nf (d k (by omega))]
  cases (iw (gf a k) l z && !fM (fO (gf a) l z u b c k) (gf a k) && jZ (gf a k) u b c)<;>rfl
theorem bodyB_nf {a:List Ft}(c:∀i,i<a.length->Rt (gf a i))(k:K4):cg (a.map nf) k=cg a k:=by
 have b:kP (gf (a.map nf)) (a.map nf).length k.l k.z k.x k.y 64=kP (gf a) a.length k.l k.z k.x k.y 64:=by
  unfold kP
  apply List.map_congr_left
  intro p _;unfold ink
  rw[zY,top_nf c _ _ _ _ _ _ aD,ed _ (j:=3) (by omega)]
 unfold cg tile;rw[b]
theorem vs_of {LS:List Ft}{bs:List bK}{FLs:Nat->List Ft}(h:PR LS bs)(b:∀v:Nat,v<=bs.length->FLs v=(dk bs v).map nf):Vs LS FLs bs:=by
 refine⟨fun v a k=>?_,fun v a k _=>?_,fun v a=>?_⟩
 ·unfold eA fB
  exact h.stm v a k.l k.z k.x k.y
 ·rw[b v a]
  exact bodyB_nf (h.rel v a).rt k
 rw[b v a,zY]
theorem fver_of {LS:List Ft}{bs:List bK}{FLs:Nat->List Ft}(h:PR LS bs)(a:∀v:Nat,v<=bs.length->FLs v=(dk bs v).map nf):FVer LS bs.length FLs:=by
 refine⟨fun v b=>?_,?_,h.bnd,h.le⟩
 ·rw[a v b]
  exact⟨relV_nf (h.rel v b),oT _⟩
 rw[a _ aD];exact rel_nf h.now
theorem bsok_of {LS:List Ft}{bs:List bK}(h:PR LS bs)(a:∀k,k<bs.length->(ff bs k).length<=8):ke bs:=⟨h.max,a,fun v b=>(h.rel v b).rt⟩
theorem ah.past {α f:Type}{R:dR α}{k:dR f}{T b:TypeId}{w e:World}{v u x:Value}{l:List α}{t:List f}{ob i:Nat}{c:Array Value}{o:Obj}(h:ah R T w v l)(r:ah k b w u t)(n:T≠b)(p:w.heap[ob]?=some (.cells c 33))(j:T≠33)(s:(w.alloc o).grownBy e u.ownBlock):ah R T (e.setCell ⟨ob,i,none⟩ x) v l:=by
 refine h.same fun g a=>?_;obtain⟨y,d⟩:=h.ty a
 rw[zW _ _ _ _ (aI d p j),s.block g (by have:=h.lt a; simp; omega) (fun q=>?_),zr w _ (h.lt a)]
 obtain⟨z,m⟩:=r.ty q.symm;exact aI d m n rfl
theorem cu {e:Type}{f:dR e}{b:TypeId}{w d:World}{u:Value}{k:List e}{ob:Nat}{c:Array Value}{o:Obj}(i:ah f b w u k)(h:b≠33)(a:w.heap[ob]?=some (.cells c 33))(j:(w.alloc o).grownBy d u.ownBlock):d.heap[ob]?=some (.cells c 33):=by
 rw[j.block ob (by have:=an a; simp; omega) (fun q=>?_),zr w _ (an a)]
 ·exact a
 obtain⟨l,g⟩:=i.ty q.symm;exact aI g a h rfl
theorem getElem?_snoc {α:Type}{l:List α}{a b:α}{j:Nat}(h:(l++[a])[j]?=some b):l[j]?=some b\/(j=l.length/\a=b):=by
 rcases yP j l.length with c|c
 ·rw[y3 c] at h; exact Or.inl h
 rw[yk c] at h
 cases e:j-l.length with
 | zero=>rw[e] at h; simp at h; exact Or.inr ⟨by omega,h⟩
 | succ m=>rw[e] at h; simp at h
theorem built66 (n:Nat):prog.built 66 [(0,.int .i64 (ei n))]=some (fc (oP n)):=by kernel_rfl
theorem run_bF (n:Nat)(A:Act)(o:Oper)(x:Operand)(b:o.op=.build 66 #[(0,x)])(c:A.eval x=.int .i64 (ei n))(w:World):(execOp A.eval o).run prog w=.ok (.value (.agg (fc (oP n)))) w:=by
 have a:=run_build (P:=prog) w 66 #[(0,.int .i64 (ei n))] (fc (oP n)) (built66 n);unfold execOp;simp[b,c,a]
theorem built100 (n:Nat):prog.built 100 [(0,.int .i64 (ei n))]=some (cc 25 (owE n)):=by kernel_rfl
theorem run_bE (n:Nat)(A:Act)(o:Oper)(x:Operand)(b:o.op=.build 100 #[(0,x)])(c:A.eval x=.int .i64 (ei n))(w:World):(execOp A.eval o).run prog w=.ok (.value (.agg (cc 25 (owE n)))) w:=by
 have a:=run_build (P:=prog) w 100 #[(0,.int .i64 (ei n))] (cc 25 (owE n)) (built100 n);unfold execOp;simp[b,c,a]
section
variable {w w1 w3:World}{ob:Nat}{V:OV}{IS FS RS GS ES:List cA}{v:Value}
theorem bA.fillI {l:List _}(h:bA w ob V IS FS RS GS ES)(r:ah rI 3 w v l)(m:aE (fun k=>v.ownBlock=some k) w w1)(o:∀s∈IS,∀g,s.v.ownBlock=some g->v.ownBlock≠some g):bA w1 ob V IS FS RS GS ES:=by
 have b:∀{c:Array Value} {f:TypeId} {k:Nat},w.heap[k]?=some (.cells c f (0,0))->f≠3->¬v.ownBlock=some k:=fun e n q=>by
  obtain⟨t,i⟩:=r.ty q;exact aI e i n rfl
 refine h.frm m fun k p=>?_
 rcases p with rfl|q|q|q|q|q|⟨s,a,q⟩
 ·exact b h.blk (by decide)
 ·obtain⟨c,e⟩:=h.i.ty q; exact b e (by decide)
 ·obtain⟨c,e⟩:=h.f.ty q; exact b e (by decide)
 ·obtain⟨c,e⟩:=h.r.ty q; exact b e (by decide)
 ·obtain⟨c,e⟩:=h.g.ty q; exact b e (by decide)
 ·obtain⟨c,e⟩:=h.e.ty q; exact b e (by decide)
 rcases a with a|a|a|a|a
 ·exact o s a k q
 ·obtain⟨j,d⟩:=zB.1 a; obtain⟨c,e⟩:=(h.fl j s d).ty q; exact b e (by decide)
 ·obtain⟨j,d⟩:=zB.1 a; obtain⟨c,e⟩:=(h.rl j s d).ty q; exact b e (by decide)
 ·obtain⟨j,d⟩:=zB.1 a; obtain⟨c,e⟩:=(h.gl j s d).ty q; exact b e (by decide)
 obtain⟨j,d⟩:=zB.1 a; obtain⟨c,e⟩:=(h.el j s d).ty q; exact b e (by decide)
theorem bA.addI {s:cA}{x:Value}{o:Obj}(h:bA w ob V IS FS RS GS ES)(e:ah cq 60 w3 x (IS++[s]))(a:(w.alloc o).grownBy w3 V.iv.ownBlock)(k:ah rI 3 w s.v (List.replicate s.n (ei IS.length))):
  bA (w3.setCell ⟨ob,0,none⟩ x) ob { V with iv:=x } (IS++[s]) FS RS GS ES:=by
 have d:=cu (c:=V.a) h.i (by decide) h.blk a
 refine⟨?_,e.same fun g i=>zW _ _ _ _ (by obtain⟨l,f⟩:=e.ty i; exact aI f d (by decide)),h.f.past h.i (by decide) h.blk (by decide) a,h.r.past h.i (by decide) h.blk (by decide) a,h.g.past h.i (by decide) h.blk (by decide) a,h.e.past h.i (by decide) h.blk (by decide) a,?_,?_,?_,?_,?_⟩
 ·show(w3.setCell ⟨ob,0,none⟩ x).heap[ob]?=_
  simp[World.setCell,zk,d];rfl
 ·intro j t b
  rcases getElem?_snoc b with q|⟨rfl,rfl⟩
  ·exact(h.il j t q).past h.i (by decide) h.blk (by decide) a
  exact k.past h.i (by decide) h.blk (by decide) a
 ·exact fun j t b=>(h.fl j t b).past h.i (by decide) h.blk (by decide) a
 ·exact fun j t b=>(h.rl j t b).past h.i (by decide) h.blk (by decide) a
 ·exact fun j t b=>(h.gl j t b).past h.i (by decide) h.blk (by decide) a
 exact fun j t b=>(h.el j t b).past h.i (by decide) h.blk (by decide) a
def KeptI (w:World)(ob:Nat)(V:OV)(IS FS RS GS ES:List cA)(v:Value)(e:Ending)(w':World):Prop:=
 e=.returned (.tuple #[])/\∃(s:cA) (x:Value),s.v.ownBlock=v.ownBlock/\bA w' ob { V with iv:=x } (IS++[s]) FS RS GS ES/\aE (fun k=>k=ob\/V.iv.ownBlock=some k\/v.ownBlock=some k) w w'/\(x.ownBlock=V.iv.ownBlock\/∀g,x.ownBlock=some g->w.heap.size<=g)
theorem keepI_any {l:List _}(h:bA w ob V IS FS RS GS ES)(z:ah rI 3 w v l)(L:∀s∈IS,∀g,s.v.ownBlock=some g->v.ownBlock≠some g)(au:IS.length<=10000000):
  Calls prog 60 #[some ob,v] w fun e w'=>KeptI w ob V IS FS RS GS ES v e w':=by
 obtain⟨C,G,r⟩:=h.i.slice
 have Z:w.cell? ⟨ob,0,none⟩=some (.slice C IS.length G):=by rw[h.cells 0,<-r]; rfl
 have ak:=an h.blk;obtain⟨d,t⟩:∃d,IS.length=d:=⟨_,rfl⟩;rw[t] at Z au
 rcases z with⟨rfl,rfl⟩|⟨g,off,cap,ai,rfl,E,o,D,ac,ad⟩
 ·obtain⟨x,w3,A,p,j,b⟩:=ap27 (h.i.on (bu.alloc aD (.cells #[.slice none 0 0] 60))) (aZ cq 60 w ⟨none,0,0⟩ #[.slice none 0 0] rfl) (by simp; omega)
  obtain⟨O,Q,P,rfl⟩:=p.slc
  have m:=cu (c:=V.a) h.i (by decide) h.blk j
  have y:w3.cell? ⟨ob,0,none⟩=V.a[0]?:=af m 0
  have ar:w3.cell? ⟨ob,0,none⟩=some (.slice C d G):=by rw[y,<-t,<-r]; rfl
  have ab:=bi m 0
  have J:Hid (KeptI w ob V IS FS RS GS ES (.slice none 0 0) (.returned (.tuple #[])) (w3.setCell ⟨ob,0,none⟩ (.slice O Q P))):=by
   refine⟨rfl,⟨none,0,0⟩,_,rfl,h.addI p j (Or.inl ⟨rfl,rfl⟩),((cn bu j).mono fun _ _ q=>Or.inr (Or.inl q)).setCell _ (fun _=>Or.inl rfl),?_⟩
   rcases b with b|b
   ·exact Or.inl b
   exact Or.inr fun g M=>by have N:=b g M; simp at N; omega
  rw[r,t] at A;clear p j b m y h L r t;go_enter func60,ntmps60
  go_wp2
  go_loopw [5] (fun i wr=>i=.int .i64 0/\wr=w) (fun _ _=>0)
  ·exact⟨rfl,rfl⟩
  obtain⟨rfl,rfl⟩:=hrel
  go_wp2_with (first|refine cP _ _ (bsS27 none 0 0 _ _ _ rfl rfl _) rfl ?_|(at_builtin; refine fS 27 A rfl _ _ rfl rfl rfl rfl ?_))
  exact yB (yY results60 _ _ _) rfl (aa J)
 have z:ah rI 3 w (.slice (some ⟨g,off,none⟩) l.length cap) l:=Or.inr ⟨g,off,cap,ai,rfl,E,o,D,ac,ad⟩;have ax:=an E
 have aj:ob≠g:=(aI h.blk E (by decide))
 have ag:=ae (lw.zero (x:=ei d) z);have ap:=ae z;have am:=ae h;have al:=ae L
 have ay:(l.length:Int)<=cap:=by omega
 have aw:(cap:Int)<=9223372036854775807:=by unfold maxLen at D; omega
 have ao:=ae D;have T:=ae r;have B:=ae t;clear z E ac ad h L D r t;go_enter func60,ntmps60
 go_wp2
 go_loopw [5] (fun i wr=>∃k:Nat,k<=cap/\i=.int .i64 k/\Hid (lw rI 3 wr g off cap k (ei d))/\Hid (w.grownBy wr (some g))) (fun i _=>cap-(intOf i).toNat)
 ·exact⟨0,by omega,rfl,ag,ae (ym _ _)⟩
 obtain⟨k,aA,rfl,K,f⟩:=hrel
 have aC:wr.cell? ⟨ob,0,none⟩=some (.slice C d G):=by
  rw[zP (a:=⟨ob,0,none⟩) ((aa f).block ob ak (fun q=>by cases q; exact aj rfl))]; exact Z
 by_cases W:k<cap
 ·have U:(k:Int)<cap:=by omega
  have aq:=ae (fun av=>eC d av (by omega))
  have n:=(aa K).step W;have S:Hid (w.grownBy (wr.setCells g (off+k*1) (rI.enc (ei d))) (some g)):=⟨n.2.os.trans (aa f).os,n.2.tape.trans (aa f).tape,n.2.output.trans (aa f).output,zF (aa f).size n.2.size,fun q F X=>(n.2.block q (zC F (aa f).size) X).trans ((aa f).block q F X)⟩;have R:Hid (lw rI 3 (wr.setCells g (off+k*1) (rI.enc (ei d))) g off cap (k+1) (ei d)):=n.1;have I:wr.there g (off+k*1) 1:=(aa K).there W
  obtain⟨u,aB⟩:∃u,wr.cell? ⟨g,off+k,none⟩=some u:=by
   have:=(I 0 (by omega)).1
   rw[Nat.mul_one,yG] at this;exact za.1 this
  have ab:wr.frozen? ⟨g,off+k,none⟩=false:=by
   have:=(I 0 (by omega)).2
   rwa [Nat.mul_one,yG] at this
  rw[Nat.mul_one] at S R;clear n I
  go_wp2_with fail
  refine(aa aq _).mono ?_;rintro e aF ⟨rfl,rfl⟩
  go_wp2
  go_roundw
  ·exact⟨k+1,by omega,by go_num,R,S⟩
  simp[intOf]; omega
 have U:k=cap:=by omega
 subst U
 have H:aE (fun q=>(Value.slice (some ⟨g,off,none⟩) l.length k).ownBlock=some q) w wr:=(aE.rfl' _ w).grown (aa f) fun q F _=>by cases F; rfl
 have o:=(aa am).fillI (aa ap) H (aa al);have Y:ah rI 3 wr (cA.v ⟨some ⟨g,off,none⟩,k,k⟩) (List.replicate k (ei d)):=(aa K).own (aa ao)
 obtain⟨x,w3,A,p,j,b⟩:=ap27 (o.i.on (bu.alloc aD (.cells #[.slice (some ⟨g,off,none⟩) k k] 60))) (aZ cq 60 wr ⟨some ⟨g,off,none⟩,k,k⟩ #[.slice (some ⟨g,off,none⟩) k k] rfl) (by have:=aa B; simp; omega)
 obtain⟨O,Q,P,rfl⟩:=p.slc
 have m:=cu (c:=V.a) o.i (by decide) o.blk j
 have y:w3.cell? ⟨ob,0,none⟩=V.a[0]?:=af m 0
 have ar:w3.cell? ⟨ob,0,none⟩=some (.slice C d G):=by rw[y,<-aa B,<-aa T]; rfl
 have ab:=bi m 0;have az:=(aa f).size
 have J:Hid (KeptI w ob V IS FS RS GS ES (.slice (some ⟨g,off,none⟩) l.length k) (.returned (.tuple #[])) (w3.setCell ⟨ob,0,none⟩ (.slice O Q P))):=by
  refine⟨rfl,⟨some ⟨g,off,none⟩,k,k⟩,_,rfl,o.addI p j (by rw[aa B]; exact Y),((H.mono fun _ _ q=>Or.inr (Or.inr q)).then (cn bu j) fun _ _ q=>Or.inr (Or.inl q)).setCell _ (fun _=>Or.inl rfl),?_⟩
  rcases b with b|b
  ·exact Or.inl b
  exact Or.inr fun g M=>by have N:=b g M; simp at N; omega
 rw[aa T,aa B] at A;clear p j b m y o H Y
 go_wp2_with (first|refine cP _ _ (bsS27 (some ⟨g,off,none⟩) k k _ _ _ rfl rfl _) rfl ?_|(at_builtin; refine fS 27 A rfl _ _ rfl rfl rfl rfl ?_))
 exact yB (yY results60 _ _ _) rfl (aa J)
end
section
variable {w w1 w3:World}{ob:Nat}{V:OV}{IS FS RS GS ES:List cA}{v:Value}
theorem bA.fillF {l:List _}(h:bA w ob V IS FS RS GS ES)(r:ah rF 66 w v l)(m:aE (fun k=>v.ownBlock=some k) w w1)(o:∀s∈FS,∀g,s.v.ownBlock=some g->v.ownBlock≠some g):bA w1 ob V IS FS RS GS ES:=by
 have b:∀{c:Array Value} {f:TypeId} {k:Nat},w.heap[k]?=some (.cells c f (0,0))->f≠66->¬v.ownBlock=some k:=fun e n q=>by
  obtain⟨t,i⟩:=r.ty q;exact aI e i n rfl
 refine h.frm m fun k p=>?_
 rcases p with rfl|q|q|q|q|q|⟨s,a,q⟩
 ·exact b h.blk (by decide)
 ·obtain⟨c,e⟩:=h.i.ty q; exact b e (by decide)
 ·obtain⟨c,e⟩:=h.f.ty q; exact b e (by decide)
 ·obtain⟨c,e⟩:=h.r.ty q; exact b e (by decide)
 ·obtain⟨c,e⟩:=h.g.ty q; exact b e (by decide)
 ·obtain⟨c,e⟩:=h.e.ty q; exact b e (by decide)
 rcases a with a|a|a|a|a
 ·obtain⟨j,d⟩:=zB.1 a; obtain⟨c,e⟩:=(h.il j s d).ty q; exact b e (by decide)
 ·exact o s a k q
 ·obtain⟨j,d⟩:=zB.1 a; obtain⟨c,e⟩:=(h.rl j s d).ty q; exact b e (by decide)
 ·obtain⟨j,d⟩:=zB.1 a; obtain⟨c,e⟩:=(h.gl j s d).ty q; exact b e (by decide)
 obtain⟨j,d⟩:=zB.1 a; obtain⟨c,e⟩:=(h.el j s d).ty q; exact b e (by decide)
theorem bA.addF {s:cA}{x:Value}{o:Obj}(h:bA w ob V IS FS RS GS ES)(e:ah cq 62 w3 x (FS++[s]))(a:(w.alloc o).grownBy w3 V.fv.ownBlock)(k:ah rF 66 w s.v (List.replicate s.n (oP FS.length))):
  bA (w3.setCell ⟨ob,1,none⟩ x) ob { V with fv:=x } IS (FS++[s]) RS GS ES:=by
 have d:=cu (c:=V.a) h.f (by decide) h.blk a
 refine⟨?_,h.i.past h.f (by decide) h.blk (by decide) a,e.same fun g i=>zW _ _ _ _ (by obtain⟨l,f⟩:=e.ty i; exact aI f d (by decide)),h.r.past h.f (by decide) h.blk (by decide) a,h.g.past h.f (by decide) h.blk (by decide) a,h.e.past h.f (by decide) h.blk (by decide) a,?_,?_,?_,?_,?_⟩
 ·show(w3.setCell ⟨ob,1,none⟩ x).heap[ob]?=_
  simp[World.setCell,zk,d];rfl
 ·exact fun j t b=>(h.il j t b).past h.f (by decide) h.blk (by decide) a
 ·intro j t b
  rcases getElem?_snoc b with q|⟨rfl,rfl⟩
  ·exact(h.fl j t q).past h.f (by decide) h.blk (by decide) a
  exact k.past h.f (by decide) h.blk (by decide) a
 ·exact fun j t b=>(h.rl j t b).past h.f (by decide) h.blk (by decide) a
 ·exact fun j t b=>(h.gl j t b).past h.f (by decide) h.blk (by decide) a
 exact fun j t b=>(h.el j t b).past h.f (by decide) h.blk (by decide) a
def KeptF (w:World)(ob:Nat)(V:OV)(IS FS RS GS ES:List cA)(v:Value)(e:Ending)(w':World):Prop:=
 e=.returned (.tuple #[])/\∃(s:cA) (x:Value),s.v.ownBlock=v.ownBlock/\bA w' ob { V with fv:=x } IS (FS++[s]) RS GS ES/\aE (fun k=>k=ob\/V.fv.ownBlock=some k\/v.ownBlock=some k) w w'/\(x.ownBlock=V.fv.ownBlock\/∀g,x.ownBlock=some g->w.heap.size<=g)
theorem keepF_any {l:List _}(h:bA w ob V IS FS RS GS ES)(y:ah rF 66 w v l)(J:∀s∈FS,∀g,s.v.ownBlock=some g->v.ownBlock≠some g)(ar:FS.length<=10000000):
  Calls prog 37 #[some ob,v] w fun e w'=>KeptF w ob V IS FS RS GS ES v e w':=by
 obtain⟨B,F,r⟩:=h.f.slice
 have U:w.cell? ⟨ob,1,none⟩=some (.slice B FS.length F):=by rw[h.cells 1,<-r]; rfl
 have ag:=an h.blk;obtain⟨b,t⟩:∃b,FS.length=b:=⟨_,rfl⟩;rw[t] at U ar
 rcases y with⟨rfl,rfl⟩|⟨g,off,cap,ac,rfl,D,o,C,W,X⟩
 ·obtain⟨x,w3,z,p,j,d⟩:=ap28 (h.f.on (bu.alloc aD (.cells #[.slice none 0 0] 62))) (aZ cq 62 w ⟨none,0,0⟩ #[.slice none 0 0] rfl) (by simp; omega)
  obtain⟨M,O,N,rfl⟩:=p.slc
  have m:=cu (c:=V.a) h.f (by decide) h.blk j
  have u:w3.cell? ⟨ob,1,none⟩=V.a[1]?:=af m 1
  have ap:w3.cell? ⟨ob,1,none⟩=some (.slice B b F):=by rw[u,<-t,<-r]; rfl
  have aq:=bi m 1
  have H:Hid (KeptF w ob V IS FS RS GS ES (.slice none 0 0) (.returned (.tuple #[])) (w3.setCell ⟨ob,1,none⟩ (.slice M O N))):=by
   refine⟨rfl,⟨none,0,0⟩,_,rfl,h.addF p j (Or.inl ⟨rfl,rfl⟩),((cn bu j).mono fun _ _ q=>Or.inr (Or.inl q)).setCell _ (fun _=>Or.inl rfl),?_⟩
   rcases d with d|d
   ·exact Or.inl d
   exact Or.inr fun g K=>by have L:=d g K; simp at L; omega
  rw[r,t] at z;clear p j d m u h J r t;go_enter func37,ntmps37
  go_wp2
  go_loopw [5] (fun i wr=>i=.int .i64 0/\wr=w) (fun _ _=>0)
  ·exact⟨rfl,rfl⟩
  obtain⟨rfl,rfl⟩:=hrel
  go_wp2_with (first|refine cP _ _ (bsS28 none 0 0 _ _ _ rfl rfl _) rfl ?_|(at_builtin; refine fS 28 z rfl _ _ rfl rfl rfl rfl ?_))
  exact yB (yY results37 _ _ _) rfl (aa H)
 have y:ah rF 66 w (.slice (some ⟨g,off,none⟩) l.length cap) l:=Or.inr ⟨g,off,cap,ac,rfl,D,o,C,W,X⟩;have aw:=an D
 have ad:ob≠g:=(aI h.blk D (by decide))
 have Y:=ae (lw.zero (x:=oP b) y);have am:=ae y;have ak:=ae h;have aj:=ae J
 have ax:(l.length:Int)<=cap:=by omega
 have av:(cap:Int)<=9223372036854775807:=by unfold maxLen at C; omega
 have al:=ae C;have P:=ae r;have A:=ae t;clear y D W X h J C r t;go_enter func37,ntmps37
 go_wp2
 go_loopw [5] (fun i wr=>∃k:Nat,k<=cap/\i=.int .i64 k/\Hid (lw rF 66 wr g off cap k (oP b))/\Hid (w.grownBy wr (some g))) (fun i _=>cap-(intOf i).toNat)
 ·exact⟨0,by omega,rfl,Y,ae (ym _ _)⟩
 obtain⟨k,az,rfl,I,f⟩:=hrel
 have aA:wr.cell? ⟨ob,1,none⟩=some (.slice B b F):=by
  rw[zP (a:=⟨ob,1,none⟩) ((aa f).block ob ag (fun q=>by cases q; exact ad rfl))]; exact U
 by_cases R:k<cap
 ·have Q:(k:Int)<cap:=by omega
  have ao:=ae (fun au=>eC b au (by omega))
  have n:=(aa I).step R;have ab:Hid (w.grownBy (wr.setCells g (off+k*24) (rF.enc (oP b))) (some g)):=⟨n.2.os.trans (aa f).os,n.2.tape.trans (aa f).tape,n.2.output.trans (aa f).output,zF (aa f).size n.2.size,fun q E S=>(n.2.block q (zC E (aa f).size) S).trans ((aa f).block q E S)⟩;have Z:Hid (lw rF 66 (wr.setCells g (off+k*24) (rF.enc (oP b))) g off cap (k+1) (oP b)):=n.1;have ai:wr.there g (off+k*24) 24:=(aa I).there R;clear n
  go_wp2_with fail
  refine(aa ao _).mono ?_;rintro e aB ⟨rfl,rfl⟩
  go_wp2_with (first|refine cP _ _ (run_bF b _ _ _ rfl rfl _) rfl ?_|refine wpList_store_mid rfl 66 _ _ rfl g (off+k*24) (fc (oP b)) rfl rfl (by rw[dX]; exact ai) (gK _) (fc_one _) ?_)
  go_roundw
  ·exact⟨k+1,by omega,by go_num,Z,ab⟩
  simp[intOf]; omega
 have Q:k=cap:=by omega
 subst Q
 have G:aE (fun q=>(Value.slice (some ⟨g,off,none⟩) l.length k).ownBlock=some q) w wr:=(aE.rfl' _ w).grown (aa f) fun q E _=>by cases E; rfl
 have o:=(aa ak).fillF (aa am) G (aa aj);have T:ah rF 66 wr (cA.v ⟨some ⟨g,off,none⟩,k,k⟩) (List.replicate k (oP b)):=(aa I).own (aa al)
 obtain⟨x,w3,z,p,j,d⟩:=ap28 (o.f.on (bu.alloc aD (.cells #[.slice (some ⟨g,off,none⟩) k k] 62))) (aZ cq 62 wr ⟨some ⟨g,off,none⟩,k,k⟩ #[.slice (some ⟨g,off,none⟩) k k] rfl) (by have:=aa A; simp; omega)
 obtain⟨M,O,N,rfl⟩:=p.slc
 have m:=cu (c:=V.a) o.f (by decide) o.blk j
 have u:w3.cell? ⟨ob,1,none⟩=V.a[1]?:=af m 1
 have ap:w3.cell? ⟨ob,1,none⟩=some (.slice B b F):=by rw[u,<-aa A,<-aa P]; rfl
 have aq:=bi m 1;have ay:=(aa f).size
 have H:Hid (KeptF w ob V IS FS RS GS ES (.slice (some ⟨g,off,none⟩) l.length k) (.returned (.tuple #[])) (w3.setCell ⟨ob,1,none⟩ (.slice M O N))):=by
  refine⟨rfl,⟨some ⟨g,off,none⟩,k,k⟩,_,rfl,o.addF p j (by rw[aa A]; exact T),((G.mono fun _ _ q=>Or.inr (Or.inr q)).then (cn bu j) fun _ _ q=>Or.inr (Or.inl q)).setCell _ (fun _=>Or.inl rfl),?_⟩
  rcases d with d|d
  ·exact Or.inl d
  exact Or.inr fun g K=>by have L:=d g K; simp at L; omega
 rw[aa P,aa A] at z;clear p j d m u o G T
 go_wp2_with (first|refine cP _ _ (bsS28 (some ⟨g,off,none⟩) k k _ _ _ rfl rfl _) rfl ?_|(at_builtin; refine fS 28 z rfl _ _ rfl rfl rfl rfl ?_))
 exact yB (yY results37 _ _ _) rfl (aa H)
theorem bA.fillE {l:List _}(h:bA w ob V IS FS RS GS ES)(r:ah rE 100 w v l)(m:aE (fun k=>v.ownBlock=some k) w w1)(o:∀s∈ES,∀g,s.v.ownBlock=some g->v.ownBlock≠some g):bA w1 ob V IS FS RS GS ES:=by
 have b:∀{c:Array Value} {f:TypeId} {k:Nat},w.heap[k]?=some (.cells c f (0,0))->f≠100->¬v.ownBlock=some k:=fun e n q=>by
  obtain⟨t,i⟩:=r.ty q;exact aI e i n rfl
 refine h.frm m fun k p=>?_
 rcases p with rfl|q|q|q|q|q|⟨s,a,q⟩
 ·exact b h.blk (by decide)
 ·obtain⟨c,e⟩:=h.i.ty q; exact b e (by decide)
 ·obtain⟨c,e⟩:=h.f.ty q; exact b e (by decide)
 ·obtain⟨c,e⟩:=h.r.ty q; exact b e (by decide)
 ·obtain⟨c,e⟩:=h.g.ty q; exact b e (by decide)
 ·obtain⟨c,e⟩:=h.e.ty q; exact b e (by decide)
 rcases a with a|a|a|a|a
 ·obtain⟨j,d⟩:=zB.1 a; obtain⟨c,e⟩:=(h.il j s d).ty q; exact b e (by decide)
 ·obtain⟨j,d⟩:=zB.1 a; obtain⟨c,e⟩:=(h.fl j s d).ty q; exact b e (by decide)
 ·obtain⟨j,d⟩:=zB.1 a; obtain⟨c,e⟩:=(h.rl j s d).ty q; exact b e (by decide)
 ·obtain⟨j,d⟩:=zB.1 a; obtain⟨c,e⟩:=(h.gl j s d).ty q; exact b e (by decide)
 exact o s a k q
theorem bA.addE {s:cA}{x:Value}{o:Obj}(h:bA w ob V IS FS RS GS ES)(e:ah cq 40 w3 x (ES++[s]))(a:(w.alloc o).grownBy w3 V.ev.ownBlock)(k:ah rE 100 w s.v (List.replicate s.n (owE ES.length))):
  bA (w3.setCell ⟨ob,4,none⟩ x) ob { V with ev:=x } IS FS RS GS (ES++[s]):=by
 have d:=cu (c:=V.a) h.e (by decide) h.blk a
 refine⟨?_,h.i.past h.e (by decide) h.blk (by decide) a,h.f.past h.e (by decide) h.blk (by decide) a,h.r.past h.e (by decide) h.blk (by decide) a,h.g.past h.e (by decide) h.blk (by decide) a,e.same fun g i=>zW _ _ _ _ (by obtain⟨l,f⟩:=e.ty i; exact aI f d (by decide)),?_,?_,?_,?_,?_⟩
 ·show(w3.setCell ⟨ob,4,none⟩ x).heap[ob]?=_
  simp[World.setCell,zk,d];rfl
 ·exact fun j t b=>(h.il j t b).past h.e (by decide) h.blk (by decide) a
 ·exact fun j t b=>(h.fl j t b).past h.e (by decide) h.blk (by decide) a
 ·exact fun j t b=>(h.rl j t b).past h.e (by decide) h.blk (by decide) a
 ·exact fun j t b=>(h.gl j t b).past h.e (by decide) h.blk (by decide) a
 intro j t b
 rcases getElem?_snoc b with q|⟨rfl,rfl⟩
 ·exact(h.el j t q).past h.e (by decide) h.blk (by decide) a
 exact k.past h.e (by decide) h.blk (by decide) a
def KeptE (w:World)(ob:Nat)(V:OV)(IS FS RS GS ES:List cA)(v:Value)(e:Ending)(w':World):Prop:=
 e=.returned (.tuple #[])/\∃(s:cA) (x:Value),s.v.ownBlock=v.ownBlock/\bA w' ob { V with ev:=x } IS FS RS GS (ES++[s])/\aE (fun k=>k=ob\/V.ev.ownBlock=some k\/v.ownBlock=some k) w w'/\(x.ownBlock=V.ev.ownBlock\/∀g,x.ownBlock=some g->w.heap.size<=g)
theorem nK {l:List _}(h:bA w ob V IS FS RS GS ES)(y:ah rE 100 w v l)(J:∀s∈ES,∀g,s.v.ownBlock=some g->v.ownBlock≠some g)(ar:ES.length<=10000000):
  Calls prog 29 #[some ob,v] w fun e w'=>KeptE w ob V IS FS RS GS ES v e w':=by
 obtain⟨B,F,r⟩:=h.e.slice
 have U:w.cell? ⟨ob,4,none⟩=some (.slice B ES.length F):=by rw[h.cells 4,<-r]; rfl
 have ag:=an h.blk;obtain⟨b,t⟩:∃b,ES.length=b:=⟨_,rfl⟩;rw[t] at U ar
 rcases y with⟨rfl,rfl⟩|⟨g,off,cap,ac,rfl,D,o,C,W,X⟩
 ·obtain⟨x,w3,z,p,j,d⟩:=ap31 (h.e.on (bu.alloc aD (.cells #[.slice none 0 0] 40))) (aZ cq 40 w ⟨none,0,0⟩ #[.slice none 0 0] rfl) (by simp; omega)
  obtain⟨M,O,N,rfl⟩:=p.slc
  have m:=cu (c:=V.a) h.e (by decide) h.blk j
  have u:w3.cell? ⟨ob,4,none⟩=V.a[4]?:=af m 4
  have ap:w3.cell? ⟨ob,4,none⟩=some (.slice B b F):=by rw[u,<-t,<-r]; rfl
  have aq:=bi m 4
  have H:Hid (KeptE w ob V IS FS RS GS ES (.slice none 0 0) (.returned (.tuple #[])) (w3.setCell ⟨ob,4,none⟩ (.slice M O N))):=by
   refine⟨rfl,⟨none,0,0⟩,_,rfl,h.addE p j (Or.inl ⟨rfl,rfl⟩),((cn bu j).mono fun _ _ q=>Or.inr (Or.inl q)).setCell _ (fun _=>Or.inl rfl),?_⟩
   rcases d with d|d
   ·exact Or.inl d
   exact Or.inr fun g K=>by have L:=d g K; simp at L; omega
  rw[r,t] at z;clear p j d m u h J r t;go_enter func29,ntmps29
  go_wp2
  go_loopw [5] (fun i wr=>i=.int .i64 0/\wr=w) (fun _ _=>0)
  ·exact⟨rfl,rfl⟩
  obtain⟨rfl,rfl⟩:=hrel
  go_wp2_with (first|refine cP _ _ (bsS31 none 0 0 _ _ _ rfl rfl _) rfl ?_|(at_builtin; refine fS 31 z rfl _ _ rfl rfl rfl rfl ?_))
  exact yB (yY results29 _ _ _) rfl (aa H)
 have y:ah rE 100 w (.slice (some ⟨g,off,none⟩) l.length cap) l:=Or.inr ⟨g,off,cap,ac,rfl,D,o,C,W,X⟩;have aw:=an D
 have ad:ob≠g:=(aI h.blk D (by decide))
 have Y:=ae (lw.zero (x:=owE b) y);have am:=ae y;have ak:=ae h;have aj:=ae J
 have ax:(l.length:Int)<=cap:=by omega
 have av:(cap:Int)<=9223372036854775807:=by unfold maxLen at C; omega
 have al:=ae C;have P:=ae r;have A:=ae t;clear y D W X h J C r t;go_enter func29,ntmps29
 go_wp2
 go_loopw [5] (fun i wr=>∃k:Nat,k<=cap/\i=.int .i64 k/\Hid (lw rE 100 wr g off cap k (owE b))/\Hid (w.grownBy wr (some g))) (fun i _=>cap-(intOf i).toNat)
 ·exact⟨0,by omega,rfl,Y,ae (ym _ _)⟩
 obtain⟨k,az,rfl,I,f⟩:=hrel
 have aA:wr.cell? ⟨ob,4,none⟩=some (.slice B b F):=by
  rw[zP (a:=⟨ob,4,none⟩) ((aa f).block ob ag (fun q=>by cases q; exact ad rfl))]; exact U
 by_cases R:k<cap
 ·have Q:(k:Int)<cap:=by omega
  have ao:=ae (fun au=>eC b au (by omega))
  have n:=(aa I).step R;have ab:Hid (w.grownBy (wr.setCells g (off+k*25) (rE.enc (owE b))) (some g)):=⟨n.2.os.trans (aa f).os,n.2.tape.trans (aa f).tape,n.2.output.trans (aa f).output,zF (aa f).size n.2.size,fun q E S=>(n.2.block q (zC E (aa f).size) S).trans ((aa f).block q E S)⟩;have Z:Hid (lw rE 100 (wr.setCells g (off+k*25) (rE.enc (owE b))) g off cap (k+1) (owE b)):=n.1;have ai:wr.there g (off+k*25) 25:=(aa I).there R;clear n
  go_wp2_with fail
  refine(aa ao _).mono ?_;rintro e aB ⟨rfl,rfl⟩
  go_wp2_with (first|refine cP _ _ (run_bE b _ _ _ rfl rfl _) rfl ?_|refine wpList_store_mid rfl 100 _ _ rfl g (off+k*25) (cc 25 (owE b)) rfl rfl (by rw[eE]; exact ai) (sz56 _) (cc_one 25 _) ?_)
  go_roundw
  ·exact⟨k+1,by omega,by go_num,Z,ab⟩
  simp[intOf]; omega
 have Q:k=cap:=by omega
 subst Q
 have G:aE (fun q=>(Value.slice (some ⟨g,off,none⟩) l.length k).ownBlock=some q) w wr:=(aE.rfl' _ w).grown (aa f) fun q E _=>by cases E; rfl
 have o:=(aa ak).fillE (aa am) G (aa aj);have T:ah rE 100 wr (cA.v ⟨some ⟨g,off,none⟩,k,k⟩) (List.replicate k (owE b)):=(aa I).own (aa al)
 obtain⟨x,w3,z,p,j,d⟩:=ap31 (o.e.on (bu.alloc aD (.cells #[.slice (some ⟨g,off,none⟩) k k] 40))) (aZ cq 40 wr ⟨some ⟨g,off,none⟩,k,k⟩ #[.slice (some ⟨g,off,none⟩) k k] rfl) (by have:=aa A; simp; omega)
 obtain⟨M,O,N,rfl⟩:=p.slc
 have m:=cu (c:=V.a) o.e (by decide) o.blk j
 have u:w3.cell? ⟨ob,4,none⟩=V.a[4]?:=af m 4
 have ap:w3.cell? ⟨ob,4,none⟩=some (.slice B b F):=by rw[u,<-aa A,<-aa P]; rfl
 have aq:=bi m 4;have ay:=(aa f).size
 have H:Hid (KeptE w ob V IS FS RS GS ES (.slice (some ⟨g,off,none⟩) l.length k) (.returned (.tuple #[])) (w3.setCell ⟨ob,4,none⟩ (.slice M O N))):=by
  refine⟨rfl,⟨some ⟨g,off,none⟩,k,k⟩,_,rfl,o.addE p j (by rw[aa A]; exact T),((G.mono fun _ _ q=>Or.inr (Or.inr q)).then (cn bu j) fun _ _ q=>Or.inr (Or.inl q)).setCell _ (fun _=>Or.inl rfl),?_⟩
  rcases d with d|d
  ·exact Or.inl d
  exact Or.inr fun g K=>by have L:=d g K; simp at L; omega
 rw[aa P,aa A] at z;clear p j d m u o G T
 go_wp2_with (first|refine cP _ _ (bsS31 (some ⟨g,off,none⟩) k k _ _ _ rfl rfl _) rfl ?_|(at_builtin; refine fS 31 z rfl _ _ rfl rfl rfl rfl ?_))
 exact yB (yY results29 _ _ _) rfl (aa H)
end
theorem inf100:(prog.info? 100).map (fun i=>(i.zero,i.size,i.bytes))=some (some (.agg (cc 25 zf)),25,200):=by kernel_rfl
theorem bf.toE {w:World}{B:Nat}{v:Value}{l:List (Nat->Int)}(h:bf 100 25 w B v l):ah rE 100 w v l:=by
 obtain⟨k,b⟩:=h
 rcases b with⟨rfl,d⟩|⟨g,cap,a,rfl,_,c,e,f,i,j⟩
 ·exact Or.inl ⟨rfl,yU d⟩
 exact Or.inr ⟨g,0,cap,a,rfl,c,e,f,by rw[i]; show 0+cap*25<=cap*25; omega,by rw[List.drop_zero]; exact j⟩
theorem made_fl (n:Nat):(madeCells (Value.agg (cc 25 zf)).cells (n*25)).toList=fl 25 (List.replicate n zf):=by
 apply y0
 intro k
 by_cases c:k<n*25
 ·have a:k / 25<n:=(xW (by omega)).2 c
  have b:k%25<25:=Nat.mod_lt _ (by omega)
  have e:k / 25*25+k%25=k:=Nat.div_add_mod' k 25
  have d:(fl 25 (List.replicate n zf))[k]?=some (.int .i64 0):=by
   rw[<-e,gy 25 _ _ _ (by rw[zI]; exact a) b]
   have:gf (List.replicate n zf) (k / 25)=zf:=by unfold gf; rw[yc,zJ a]; rfl
   rw[this]; rfl
  rw[d];have f:((Value.agg (cc 25 zf)).cells)[k%25]?=some (.int .i64 0):=dc 25 zf _ b;have g:((Value.agg (cc 25 zf)).cells).size=25:=eE 25 zf;unfold madeCells;rw[Array.toList_map,zg,Array.toList_range,List.getElem?_range c];simp only[Option.map_some,g];rw[getElem!_def,f]
 rw[yR (by rw[zj,size_madeCells]; omega),yR (by rw[dp,zI]; omega)]
theorem run_mkE (w:World)(n:Nat)(h:n<=100000000):∃w',(Instr.makeSlice 40 (.int .i64 (n:Int)) (.int .i64 (n:Int))).run prog w=.ok (.slice (some ⟨w.heap.size,0,none⟩) n n) w'/\bf 100 25 w' w.heap.size (.slice (some ⟨w.heap.size,0,none⟩) n n) (List.replicate n zf)/\w.grownBy w' none:=by
 obtain⟨i,a,b,c,d⟩:=ee inf100
 obtain⟨w',e,f,g⟩:=run_make_full (P:=prog) w w.heap.size 40 100 i _ 25 underlying40 a b c .i64 .i64 n (by rw[d]; omega) (by unfold maxLen; omega) aD
 refine⟨w',e,?_,g⟩;unfold bf;rw[zI,<-made_fl];exact f
theorem fl_drop (c:Nat)(b:List (Nat->Int))(k:Nat):(fl c b).drop (k*c)=fl c (b.drop k):=by
 induction b generalizing k with
 | nil=>simp[fl]
 | cons a b d=>
  cases k with
  | zero=>simp
  | succ k=>
   rw[lp,zd,List.drop_succ_cons,Nat.add_comm,<-d k,<-List.drop_drop,List.drop_left' (iB c a)]
theorem run_cpE (w:World)(B g cap:Nat)(a l:List (Nat->Int))(v:bf 100 25 w B (.slice (some ⟨g,0,none⟩) a.length cap) a)(f:Addr)(c:Nat)(o:bL rE w (.slice (some f) l.length c) l)(h:l.length<=a.length):
  ∃w',(∀r,(Builtin.copy_ #[40,40] r #[.slice (some ⟨g,0,none⟩) a.length cap,.slice (some f) l.length c]).run prog w=.ok (.int .i64 (l.length:Nat)) w')/\bf 100 25 w' B (.slice (some ⟨g,0,none⟩) a.length cap) (l++a.drop l.length)/\w.grownBy w' (some g):=by
 obtain⟨i,D,R,E,S⟩:=ee inf100;obtain⟨V,K⟩:=v
 rcases K with⟨e,_⟩|⟨Q,N,d,e,F,n,p,L,q,M⟩
 ·cases e
 cases e
 have x:∀j u,(fl 25 l)[j]?=some u->w.cell? (f.add j)=some u:=by
  intro j u m
  have I:0<l.length:=Nat.pos_of_ne_zero fun C=>by rw[yU C] at m; simp[fl] at m
  have A:=o;obtain⟨U,O,e,_,_,J⟩:=o;cases e;obtain⟨b,off,e,T,_⟩:=J I;cases e;exact bL.cells A j u m
 have s:0+(fl 25 l).length<=d.size:=by rw[dp,q]; have:=zp 25 (zF h p); omega
 have G:=run_firstCells_some (P:=prog) w 25 l.length f l.length c (fl 25 l) (by rw[dp]) x
 have z:=run_storeCells_at prog g 0 100 (fl 25 l) 0 d w n (by simpa using s) (fl_one 25 l)
 have t:Nat.min l.length a.length=l.length:=Nat.min_eq_left h
 refine⟨w.setRow g (d.toList.take (0+0)++fl 25 l++d.toList.drop (0+0+(fl 25 l).length)).toArray,fun r=>?_,⟨?_,Or.inr ⟨g,cap,_,?_,F,yX w g d _ 100 _ n,?_,L,?_,?_⟩⟩,⟨rfl,rfl,rfl,by simp[World.setRow],fun k _ H=>Go.setRow_other w g k _ (fun e=>H (by rw[e]))⟩⟩
 ·simp[Builtin.copy_,run_underlying underlying40,Builtin.lenOf,sizeOf,typeInfo,D,E,t,G,z,goInt]
 ·rw[dp]
 ·rw[zH,yz,show l.length+(a.length-l.length)=a.length by omega]
 ·rw[zH,yz]; omega
 ·simp only[List.size_toArray,zH,zD,yz,zj,dp,q]
  have:=zp 25 (zF h p);omega
 rw[zH,yz,show l.length+(a.length-l.length)=a.length by omega,pB,<-fl_drop,<-M]
 simp only[yG,List.take_zero,yp,dp];have y:l.length*25<=a.length*25:=zp 25 h
 rw[List.take_append,dp,z1 (by rw[dp]; exact y),List.drop_take,zb]
section
variable {ops:Array Oper}{rest:List Oper}{o:Oper}{a:Act}{Q:Exit->Act->World->Prop}{w w':World}{v x' v':Value}
theorem wlM (t:TypeId)(n:Int)(i:(Instr.makeSlice t (.int .i64 n) (.int .i64 n)).run prog w=.ok v' w')(b:o.guard=none)(l c:Operand)(g:o.op=.makeSlice t l c)(f:a.eval l=.int .i64 n)(e:a.eval c=.int .i64 n)
  (h:wpList prog ops Q rest (a.put o.dst v') w'):wpList prog ops Q (o::rest) a w:=
 wpList_plain b fun _ d=>by
  unfold Oper.wp;simp[execOp,g,f,e,i,Result.andThen];exact d _ _ h
theorem wlC (t:TypeId)(e:∀i,(Builtin.copy_ #[t,t] i #[v,x']).run prog w=.ok v' w')(b:o.guard=none)(s x:Operand)(d:o.op=.call { callee:=.builtin .copy,args:=#[s,x],argTypes:=#[t,t] })(f:a.eval s=v)(g:a.eval x=x')
  (h:wpList prog ops Q rest (a.put o.dst v') w'):wpList prog ops Q (o::rest) a w:=
 wpList_plain b fun _ c=>by
  unfold Oper.wp;simp[execOp,d,resolve,invoke,builtin,f,g,e,Result.andThen];exact c _ _ h
end
def RApR (w:World)(rb:Nat)(keep:Int)(bv pv:Value)(SL:List cA)(bs:List bK)(PI:List Int)(b:bK)(e:Ending)(w':World):Prop:=
 ((b.length<1\/8<b.length)/\e=.returned (.tuple #[(),(8:Int)])/\Below w.heap.size w w') \/
 (1<=b.length/\b.length<=8/\100<=bs.length/\e=.returned (.tuple #[(),(11:Int)])/\Below w.heap.size w w') \/
 (1<=b.length/\b.length<=8/\bs.length<100/\∃k r,k<b.length/\(∀j,j<k->fF (jX (dk bs bs.length) (gf b) j) (gf b j)=0)/\fF (jX (dk bs bs.length) (gf b) k) (gf b k)=r/\r≠0/\e=.returned (.tuple #[(),r])/\Below w.heap.size w w') \/
 (1<=b.length/\b.length<=8/\bs.length<100/\(∀j,j<b.length->fF (jX (dk bs bs.length) (gf b) j) (gf b j)=0)/\e=.returned (.tuple #[.int .i64 ((bs.length+1:Nat):Int),()])/\aE (fun k=>k=rb\/bv.ownBlock=some k) w w' /\
  ∃bv' s,eV w' rb keep bv' pv (SL++[s]) (bs++[b]) PI/\(bv'.ownBlock=bv.ownBlock\/∀g,bv'.ownBlock=some g->w.heap.size<=g)/\∀g,s.v.ownBlock=some g->w.heap.size<=g)
theorem eV.more {w w1 d:World}{rb:Nat}{j:Int}{bv pv:Value}{SL:List cA}{bs:List bK}{PI:List Int}{b:bK}{s:cA}{x:Value}{o:Obj}(h:eV w rb j bv pv SL bs PI)(D:Below w.heap.size w w1)(E:ah rE 100 w1 s.v b)(v:ah cq 40 d x (SL++[s]))(y:(w1.alloc o).grownBy d bv.ownBlock):
  d.heap[rb]?=some (.cells #[j,bv,pv] 121)/\eV (d.setCell ⟨rb,1,none⟩ x) rb j x pv (SL++[s]) (bs++[b]) PI:=by
 have a:=h.on D
 have n:∀{α:Type} {R:dR α} {T:TypeId} {u:Value} {l:List α},ah R T w1 u l->T≠40->T≠121->ah R T (d.setCell ⟨rb,1,none⟩ x) u l:=fun m C z=>by
  refine m.same fun g f=>?_;obtain⟨A,k⟩:=m.ty f
  rw[zW _ _ _ _ (aI k a.blk z),y.block g (by have:=m.lt f; simp; omega) (fun q=>?_),zr w1 _ (m.lt f)]
  obtain⟨B,r⟩:=a.bat.ty q.symm;exact aI k r C rfl
 have p:d.heap[rb]?=some (.cells #[j,bv,pv] 121):=by
  rw[y.block rb (by have:=a.lt; simp; omega) (fun q=>?_),zr w1 _ a.lt]
  ·exact a.blk
  obtain⟨B,r⟩:=a.bat.ty q.symm
  exact aI r a.blk (by decide) rfl
 refine⟨p,?_,?_,by simp[h.len],fun i t c F e=>?_,n a.pin (by decide) (by decide)⟩
 ·show(d.setCell ⟨rb,1,none⟩ x).heap[rb]?=_
  simp[World.setCell,zk,p]
 ·exact v.same fun g f=>zW _ _ _ _ (by obtain⟨A,k⟩:=v.ty f; exact aI k p (by decide))
 rcases getElem?_snoc F with q|⟨rfl,rfl⟩
 ·have hi:i<SL.length:=(zX.1 q).1
  rw[y3 (by rw[<-h.len]; exact hi)] at e
  exact n (a.bts i t c q e) (by decide) (by decide)
 rw[h.len] at e;simp at e;subst e
 exact n E (by decide) (by decide)
theorem rApply_any {w:World}{rb:Nat}{h:Int}{bv pv:Value}{SL:List cA}{bs:List bK}{PI:List Int}(v:Value)(b:bK)(t:eV w rb h bv pv SL bs PI)(M:bL rE w v b)(aO:bs.length<=100)(aL:∀k,k<bs.length->(ff bs k).length<=8):
  Calls prog 27 #[some rb,v] w fun e w'=>RApR w rb h bv pv SL bs PI b e w':=by
 have I:=t.c1;obtain⟨a0,a1,H⟩:=t.bat.slice;rw[H,t.len] at I;obtain⟨a7,cap,rfl,au,hm,an⟩:=id M;have aG:=ae M;have D:=ae t;have am:=ae an;have T:=ae H
 have aE:(b.length:Int)<=9223372036854775807:=by unfold maxLen at hm; omega
 clear M t an hm H;obtain⟨n,o⟩:∃n,b.length=n:=⟨_,rfl⟩;rw[o] at aE au ⊢;have C:=ae o
 by_cases J:n<1\/8<n
 ·have d:Hid (RApR w rb h bv pv SL bs PI b (.returned (.tuple #[(),(8:Int)])) w):=Or.inl ⟨by rw[o]; exact J,rfl,zV _ _⟩
  clear o
  by_cases a3:n<1
  ·have W:(n:Int)<1:=by omega
   clear J;go_enter func27,ntmps27
   go_wp2
   go_ret2
   exact aa d
  have W:¬(n:Int)<1:=by omega
  have az:(8:Int)<n:=by omega
  clear J;go_enter func27,ntmps27
  go_wp2
  go_ret2
  exact aa d
 have W:¬(n:Int)<1:=by omega
 have az:¬(8:Int)<n:=by omega
 by_cases aK:100<=bs.length
 ·have aA:(99:Int)<bs.length:=by omega
  have d:Hid (RApR w rb h bv pv SL bs PI b (.returned (.tuple #[(),(11:Int)])) w):=Or.inr (Or.inl ⟨by omega,by omega,aK,rfl,zV _ _⟩)
  clear o;go_enter func27,ntmps27
  go_wp2
  go_ret2
  exact aa d
 have aA:¬(99:Int)<bs.length:=by omega
 have aF:=ae (At_any rb h bv pv SL bs PI bs.length w (aa D) aD aO aL);clear o;go_enter func27,ntmps27
 go_wp2_with fail
 refine(aa aF).mono ?_;rintro e w1 ⟨rv,rfl,Y,Z⟩;have aw:=ae Z;have av:=ae Y;have aY:=(aa D).lt;have aX:=ae I;clear Y Z I
 go_wp2
 go_loopw [6,7,8,9,10] (fun fv i _ _ _ wr=>∃(k:Nat),k<=n/\i=.int .i64 k/\Hid (bL rF wr fv (jX (dk bs bs.length) (gf b) k))/\Hid (∀j,j<k->fF (jX (dk bs bs.length) (gf b) j) (gf b j)=0)/\Hid (Below w.heap.size w wr)) (fun _ i _ _ _ _=>n-(intOf i).toNat)
 ·exact⟨0,by omega,rfl,av,ae (fun j aN=>by omega),aw⟩
 obtain⟨k,a4,rfl,aM,K,a⟩:=hrel
 by_cases aC:k<n
 ·have ad:(k:Int)<n:=by omega
  obtain⟨m,off,rfl,ac,B⟩:=aa am (by rw[aa C]; omega)
  have ai:wr.rangeAt m (off+k*25) (cc 25 (gf b k)).toList:=fun q u aQ=>((aa a).cell (p:=⟨m,off+k*25+q,none⟩) ac).trans (rngE B (k:=k) (by rw[aa C]; exact aC) q u aQ)
  obtain⟨z,L⟩:∃z,fF (jX (dk bs bs.length) (gf b) k) (gf b k)=z:=⟨_,rfl⟩;have U:=ae (jD u6 _ (gf b k) wr (aa aM) (eZ (d7 bs bs.length) k));rw[L] at U;have V:=ae L;clear B L
  go_wp2_with (refine bU 100 (cc 25 (gf b k)) underlying100 rfl (sz56 _) m (off+k*25) ai rfl _ rfl rfl ?_)
  refine(aa U).mono ?_;rintro en aT ⟨a6,a5,rfl,X,aB,ab⟩;have ax:=ae X;have S:=ae ((aa a).trans (ab.mono (aa a).size));clear X aB ab ai
  by_cases ag:z=0
  ·subst ag
   have ay:Hid (∀j,j<k+1->fF (jX (dk bs bs.length) (gf b) j) (gf b j)=0):=fun j aN=>by
    by_cases c:j=k
    ·subst c; exact aa V
    exact aa K j (by omega)
   go_wp2
   go_roundw
   ·exact⟨k+1,by omega,by go_num,ax,ay,S⟩
   simp[intOf]; omega
  have d:Hid (RApR w rb h bv pv SL bs PI b (.returned (.tuple #[(),z])) aT):=by
   have e:=aa C
   exact Or.inr (Or.inr (Or.inl ⟨by omega,by omega,by omega,k,z,by omega,aa K,aa V,ag,rfl,aa S⟩))
  go_wp2
  go_ret2
  exact aa d
 have ad:k=n:=by omega
 subst ad;have e:=aa C
 obtain⟨m,off,rfl,ac,B⟩:=aa am (by omega)
 obtain⟨E,aR,ao,ap⟩:=run_mkE wr k (by omega)
 have F:Below wr.heap.size wr E:=bu.grown ap aD (fun q aP=>by cases aP)
 have ak:bL rE E (.slice (some ⟨m,off,none⟩) b.length cap) b:=by
  have:=((aa aG).on ((aa a).trans (F.mono (aa a).size)));exact this
 have al:bf 100 25 E wr.heap.size (.slice (some ⟨wr.heap.size,0,none⟩) (List.replicate k zf).length k) (List.replicate k zf):=by rw[zI]; exact ao
 obtain⟨R,aq,N,ar⟩:=run_cpE E wr.heap.size wr.heap.size k (List.replicate k zf) b al ⟨m,off,none⟩ cap ak (by rw[zI]; omega)
 rw[zI,e] at aq
 rw[zI,xX (by rw[zI]; omega),yW] at N
 have s:Below w.heap.size w R:=by
  have q:=(aa a).trans (F.mono (aa a).size)
  exact q.grown ar (by have:=(aa a).size; have:=q.size; omega) (fun g y=>by cases y; exact(aa a).size)
 have l:=(aa D).on s;have aj:ah rE 100 R (cA.v ⟨some ⟨wr.heap.size,0,none⟩,k,k⟩) b:=N.toE
 obtain⟨x,aU,O,P,Q,f⟩:=ap31 (l.bat.on (bu.alloc aD (.cells #[.slice (some ⟨wr.heap.size,0,none⟩) k k] 40))) (aZ cq 40 R ⟨some ⟨wr.heap.size,0,none⟩,k,k⟩ #[.slice (some ⟨wr.heap.size,0,none⟩) k k] rfl) (by have:=l.len; simp; omega)
 obtain⟨aV,aW,rfl⟩:=P.slice;obtain⟨G,A⟩:=(aa D).more s aj P Q;have aH:=l.c1;have aI:=(af G 1).trans (show _=some bv from rfl);have aJ:=A.c1;rw[aa T,l.len] at aH O;rw[aa T,l.len] at aI;have a2:=bi G 1
 have r:(SL++[(⟨some ⟨wr.heap.size,0,none⟩,k,k⟩:cA)]).length=bs.length+1:=by rw[zH,l.len]; rfl
 rw[r] at aJ A
 have d:Hid (RApR w rb h bv pv SL bs PI b (.returned (.tuple #[.int .i64 ((bs.length+1:Nat):Int),()])) (aU.setCell ⟨rb,1,none⟩ (.slice aV (bs.length+1) aW))):=by
  refine Or.inr (Or.inr (Or.inr ⟨by omega,by omega,by omega,by rw[e]; exact aa K,rfl,((cn s Q).mono fun _ _ q=>Or.inr q).setCell _ (fun _=>Or.inl rfl),_,_,A,?_,fun g y=>?_⟩))
  ·rcases f with f|f
   ·refine Or.inl ?_
    rw[r] at f; exact f
   exact Or.inr fun g y=>by rw[r] at f; have aS:=f g y; have:=s.size; simp at aS; omega
  cases y; exact(aa a).size
 rw[r] at O;clear P Q f A G l aj s N ar ao al ap F ak B r e
 go_wp2_with (first|refine wlM 40 _ aR rfl _ _ rfl rfl rfl ?_|refine wlC 40 aq rfl _ _ rfl rfl rfl ?_|refine cP _ _ (bsS31 (some ⟨wr.heap.size,0,none⟩) k k _ _ _ rfl rfl _) rfl ?_|(at_builtin; refine fS 31 O rfl _ _ rfl rfl rfl rfl ?_))
 go_ret2
 exact aa d
def mkL (b:bK):List (Nat->Int):=dg (dg (b++[zf,zf]) b.length 0 (-77)) (b.length+1) 0 (-77)
theorem mkL_len (b:bK):(mkL b).length=b.length+2:=by simp[mkL,bp]
theorem oZ (b:bK){i:Nat}(h:i<b.length):gf (mkL b) i=gf b i:=by
 unfold mkL
 rw[cz _ _ _ _ _ (by simp[bp]; omega),zK (by omega),cz _ _ _ _ _ (by simp; omega),zK (by omega)]
 unfold gf; rw[y3 h]
theorem mkL_one (b:bK):gf (mkL b) b.length 0=-77:=by
 unfold mkL
 rw[cz _ _ _ _ _ (by simp[bp]),zK (by omega),cz _ _ _ _ _ (by simp),zJ rfl]
 simp[upd]
theorem mkL_two (b:bK):gf (mkL b) (b.length+1) 0=-77:=by
 unfold mkL
 rw[cz _ _ _ _ _ (by simp[bp]),zJ rfl]
 simp[upd]
theorem mkL_take (b:bK):(mkL b).take b.length=b:=by
 unfold mkL dg
 rw[List.take_set_of_le (by omega),List.take_set_of_le aD,List.take_left]
theorem bf.pre {T:TypeId}{a:Nat}{hm:0<a}{w:World}{B g cap:Nat}{b:List (Nat->Int)}(h:bf T a w B (.slice (some ⟨g,0,none⟩) b.length cap) b){n:Nat}(j:n<=b.length):ah (rN a hm) T w (.slice (some ⟨g,0,none⟩) n cap) (b.take n):=by
 obtain⟨q,f⟩:=h
 rcases f with⟨e,_⟩|⟨p,o,d,e,_,i,r,k,l,m⟩
 ·cases e
 cases e
 have c:(b.take n).length=n:=by rw[zD]; omega
 refine Or.inr ⟨g,0,cap,d,by rw[c],i,by omega,k,by rw[l]; show 0+cap*a<=cap*a; omega,?_⟩
 rw[List.drop_zero,c]
 have:(rN a hm).all (b.take n)=(fl a b).take (n*a):=by
  show fl a (b.take n)=_;have e:=pB a (b.take n) (b.drop n);rw[List.take_append_drop] at e
  rw[e,List.take_left' (by rw[dp,c])]
 rw[this,<-m,List.take_take,Nat.min_eq_left (zp a j)];rfl
theorem exNil (t e:TypeId)(f:prog.underlying t=some (.slice e))(a:Option Addr)(n c:Nat)(ev:Operand->Value)(o:Oper)(x:Operand)(d:o.op=.binOp .eql t x (.const (.slice none 0 0)) t)(g:ev x=.slice a n c)(b:ev (.const (.slice none 0 0))=.slice none 0 0)(w:World):(execOp ev o).run prog w=.ok (.value (.bool a.isNone)) w:=by
 unfold execOp;simp only[d];simp[go_sem,g,b,Lib.run_eql_slice_nil (P:=prog) w t e a n c 0 0 f]
def HndR (w:World)(v:Value)(b:bK)(e:Ending)(w':World):Prop:=
 Below w.heap.size w w'/\(((∃c,v=.slice none 0 c)/\b=[]/\e=.returned (.slice none 0 0)) \/
 ((∃ad c,v=.slice (some ad) b.length c)/\e=.returned (.slice (some ⟨w.heap.size,0,none⟩) b.length (b.length+2))/\bf 100 25 w' w.heap.size (.slice (some ⟨w.heap.size,0,none⟩) (mkL b).length (b.length+2)) (mkL b)))
theorem handed_any (v:Value)(b:bK)(w:World)(K:bL rE w v b)(ak:b.length<=10000000):
  Calls prog 25 #[v] w fun e w'=>HndR w v b e w':=by
 have x:=K;obtain⟨Z,cap,rfl,ab,hm,C⟩:=K
 cases Z with
 | none=>
  have T:b=[]:=by
   rcases Nat.eq_zero_or_pos b.length with q|q
   ·exact yU q
   obtain⟨_,_,e,_⟩:=C q; cases e
  subst T;have A:Hid (HndR w (.slice none (List.length (α:=Nat->Int) []) cap) [] (.returned (.slice none 0 0)) w):=⟨zV _ _,Or.inl ⟨⟨cap,rfl⟩,rfl,rfl⟩⟩;clear C x;go_enter func25,ntmps25
  go_wp2_with (refine cP _ _ (exNil 40 100 underlying40 none _ _ _ _ _ rfl rfl rfl _) rfl ?_)
  go_ret;exact aa A
 | some f=>
  have U:=ae x;clear C x;obtain⟨n,j⟩:∃n,b.length=n:=⟨_,rfl⟩;obtain⟨M,B⟩:∃M,n+2=M:=⟨_,rfl⟩;obtain⟨a,J⟩:∃a,n+1=a:=⟨_,rfl⟩
  have ah:IntKind.i64.wrap ((n:Int)+2)=(M:Int):=by rw[bG _ (by omega)]; omega
  have ag:IntKind.i64.wrap ((n:Int)+1)=(a:Int):=by rw[bG _ (by omega)]; omega
  have af:(n:Int)<M:=by omega
  have ad:(a:Int)<M:=by omega
  have ac:(n:Int)<=M:=by omega
  obtain⟨o,Y,L,N⟩:=run_mkE w M (by omega)
  have l:Below w.heap.size w o:=bu.grown N aD (fun q X=>by cases X)
  have H:bL rE o (.slice (some f) b.length cap) b:=(aa U).on l
  have I:bf 100 25 o w.heap.size (.slice (some ⟨w.heap.size,0,none⟩) (List.replicate M zf).length M) (List.replicate M zf):=by rw[zI]; exact L
  obtain⟨p,D,m,O⟩:=run_cpE o w.heap.size w.heap.size M (List.replicate M zf) b I f cap H (by rw[zI]; omega)
  rw[zI] at D m
  have G:b++(List.replicate M zf).drop b.length=b++[zf,zf]:=by
   rw[List.drop_replicate,show M-b.length=2 by omega]; rfl
  rw[G] at m
  have s:Below w.heap.size w p:=l.grown O (by have:=l.size; omega) (fun g k=>by cases k; exact zz _)
  have E:(b++[zf,zf]).length=M:=by simp; omega
  have y:bf 100 25 p w.heap.size (.slice (some ⟨w.heap.size,0,none⟩) (b++[zf,zf]).length M) (b++[zf,zf]):=by rw[E]; exact m
  obtain⟨P,Q⟩:=y.stored n 0 (by omega) (by omega) (-77)
  have z:bf 100 25 (p.setCell ⟨w.heap.size,n*25+0,none⟩ (.int .i64 (-77))) w.heap.size (.slice (some ⟨w.heap.size,0,none⟩) (dg (b++[zf,zf]) n 0 (-77)).length M) (dg (b++[zf,zf]) n 0 (-77)):=by rw[bp]; exact P
  obtain⟨R,S⟩:=z.stored a 0 (by rw[bp]; omega) (by omega) (-77)
  have t:=s.grown Q (by have:=s.size; omega) (fun g k=>by cases k; exact zz _)
  have F:=t.grown S (by have:=t.size; omega) (fun g k=>by cases k; exact zz _)
  have u:∀{r:World} {d:List (Nat->Int)} {c:Nat},bf 100 25 r w.heap.size (.slice (some ⟨w.heap.size,0,none⟩) d.length c) d->∀i,i<d.length->r.cell? ⟨w.heap.size,i*25,none⟩=some (.int .i64 (gf d i 0))/\r.frozen? ⟨w.heap.size,i*25,none⟩=false:=fun{r d c} h i hi=>by
   have q:=(h.there i hi) 0 (by omega)
   refine⟨?_,by simpa using q.2⟩
   have:=y7 h (i*25+0) (by have:=zp 25 hi; omega)
   rw[gy 25 d i 0 hi (by omega)] at this
   simpa using this
  obtain⟨ai,aj⟩:=u y n (by omega)
  obtain⟨V,W⟩:=u z a (by rw[bp]; omega)
  simp only[yG] at V W
  have A:Hid (HndR w (.slice (some f) n cap) b (.returned (.slice (some ⟨w.heap.size,0,none⟩) n M)) ((p.setCell ⟨w.heap.size,n*25,none⟩ (.int .i64 (-77))).setCell ⟨w.heap.size,a*25,none⟩ (.int .i64 (-77)))):=by
   refine⟨F,Or.inr ⟨⟨f,cap,by rw[j]⟩,by rw[j,B],?_⟩⟩
   unfold mkL;rw[j,B,J,bp];exact R
  rw[j] at D ⊢;clear u R S P z Q F t s m y O E G L I N l H j B J;go_enter func25,ntmps25
  go_wp2_with (first|refine cP _ _ (exNil 40 100 underlying40 (some f) _ _ _ _ _ rfl rfl rfl _) rfl ?_|refine wlM 40 _ Y rfl _ _ rfl rfl rfl ?_|refine wlC 40 D rfl _ _ rfl rfl rfl ?_)
  go_ret;exact aa A
structure Hnd (w:World)(g B:Nat)(b:bK):Prop where
 own:bf 100 25 w B (.slice (some ⟨g,0,none⟩) (mkL b).length (b.length+2)) (mkL b)
theorem Hnd.cell {w:World}{g B:Nat}{b:bK}(h:Hnd w g B b){i j:Nat}(hi:i<b.length+2)(c:j<25):w.cell? ⟨g,i*25+j,none⟩=some (.int .i64 (gf (mkL b) i j)):=by
 have a:i<(mkL b).length:=by rw[mkL_len]; exact hi
 have:=y7 h.own (i*25+j) (by have:=zp 25 a; omega)
 rw[gy 25 _ i j a c] at this;exact this
theorem Hnd.lt {w:World}{g B:Nat}{b:bK}(h:Hnd w g B b):g<w.heap.size:=(bf.lt h.own g rfl).2
theorem Hnd.on {w w':World}{g B:Nat}{b:bK}(h:Hnd w g B b)(a:Below w.heap.size w w'):Hnd w' g B b:=⟨h.own.on a⟩
theorem Hnd.same {w w':World}{g B:Nat}{b:bK}(h:Hnd w g B b)(a:w'.heap[g]?=w.heap[g]?):Hnd w' g B b:=⟨h.own.same fun k c=>by cases c; exact a⟩
theorem Hnd.at {w:World}{g B:Nat}{b:bK}(h:Hnd w g B b)(c:b.length<=10000000):mD 25 w (.slice (some ⟨g,0,none⟩) b.length (b.length+2)) b.length (gf b):=
 ⟨_,_,rfl,by unfold maxLen; omega,fun _=>⟨g,0,rfl,h.lt,fun i hi j a=>by rw[zb,h.cell (by omega) a,oZ b hi]⟩⟩
theorem Hnd.pre {w:World}{g B:Nat}{b:bK}(h:Hnd w g B b):ah rE 100 w (.slice (some ⟨g,0,none⟩) b.length (b.length+2)) b:=by
 have:=h.own.pre (hm:=by decide) (n:=b.length) (by rw[mkL_len]; omega)
 rw[mkL_take] at this;exact this
theorem mM (g B:Nat)(z:Addr)(c:Nat)(b:bK)(w:World)(q:Hnd w g B b)(R:bL rE w (.slice (some z) b.length c) b)(al:b.length<=10000000):
  Calls prog 28 #[.slice (some ⟨g,0,none⟩) b.length (b.length+2),.slice (some z) b.length c] w fun e w'=>e=.returned (.bool true)/\Below w.heap.size w w':=by
 have A:=q.cell (i:=b.length) (j:=0) (by omega) (by omega)
 have t:=q.cell (i:=b.length+1) (j:=0) (by omega) (by omega)
 rw[mkL_one,yG] at A;rw[mkL_two,yG] at t;have J:=ae q;have Z:=ae R;have I:=q.lt;clear q R;obtain⟨n,D⟩:∃n,b.length=n:=⟨_,rfl⟩;obtain⟨M,C⟩:∃M,n+2=M:=⟨_,rfl⟩;obtain⟨v,P⟩:∃v,n+1=v:=⟨_,rfl⟩
 have ai:IntKind.i64.wrap ((n:Int)+2)=(M:Int):=by rw[bG _ (by omega)]; omega
 have ah:IntKind.i64.wrap ((n:Int)+1)=(v:Int):=by rw[bG _ (by omega)]; omega
 have ag:(n:Int)<M:=by omega
 have ac:(v:Int)<M:=by omega
 rw[D] at A t ⊢;rw[P] at t;rw[C];have Y:=ae D;have ad:n+2=M:=C;clear D P C;go_enter func28,ntmps28
 go_wp2_with (refine cP _ _ (exNil 40 100 underlying40 (some z) _ _ _ _ _ rfl rfl rfl _) rfl ?_)
 clear A t
 go_loopw [7,8] (fun i _ wr=>∃k:Nat,k<=n/\i=.int .i64 k/\Hid (Below w.heap.size w wr)) (fun i _ _=>n-(intOf i).toNat)
 ·exact⟨0,by omega,rfl,ae bu⟩
 obtain⟨k,ak,rfl,d⟩:=hrel
 by_cases X:k<n
 ·have x:(k:Int)<n:=by omega
  have W:(k:Int)<M:=by omega
  have r:k<b.length:=by rw[aa Y]; exact X
  obtain⟨am,ab,e,_,_,Q⟩:=aa Z;cases e
  obtain⟨f,off,e,G,y⟩:=Q (by omega)
  cases e
  have N:∀a,Below wr.heap.size wr a->a.rangeAt g (k*25+1) (fc (eF (gf b k))).toList:=fun a m j u o=>by
   have E:j<24:=by have:=(zX.1 o).1; rw[zj,dX] at this; exact this
   rw[yS,aN _ _ E] at o;cases o;have l:=(aa d).trans (m.mono (aa d).size)
   have:=(l.cell (p:=⟨g,k*25+(1+j),none⟩) I).trans ((aa J).cell (i:=k) (j:=1+j) (by omega) (by omega))
   rw[oZ b r] at this;rw[yr];exact this
  have O:∀a,Below wr.heap.size wr a->a.rangeAt f (off+k*25+1) (fc (eF (gf b k))).toList:=fun a m j u o=>by
   have E:j<24:=by have:=(zX.1 o).1; rw[zj,dX] at this; exact this
   rw[yS,aN _ _ E] at o;cases o;have l:=(aa d).trans (m.mono (aa d).size)
   have:=(l.cell (p:=⟨f,off+k*25+(1+j),none⟩) G).trans (pF (rngE y r) (1+j) (by omega))
   rw[yr (off+k*25)];exact this
  have K:∀a,Below wr.heap.size wr a->a.cell? ⟨g,k*25,none⟩=some (.int .i64 (gf b k 0)):=fun a m=>by
   have l:=(aa d).trans (m.mono (aa d).size)
   have:=(l.cell (p:=⟨g,k*25+0,none⟩) I).trans ((aa J).cell (i:=k) (j:=0) (by omega) (by omega))
   rw[oZ b r] at this;exact this
  have L:∀a,Below wr.heap.size wr a->a.cell? ⟨f,off+k*25,none⟩=some (.int .i64 (gf b k 0)):=fun a m=>by
   have l:=(aa d).trans (m.mono (aa d).size)
   exact(l.cell (p:=⟨f,off+k*25+0,none⟩) G).trans (pF (rngE y r) 0 (by omega))
  have F:=fun a=>fy (eF (gf b k)) a;have U:=ae K;have V:=ae L;clear Q y K L
  go_wp2_with fail
  refine aM (by kernel_rfl) (by kernel_rfl) ?_
  refine bD (.slice (some ⟨g,0,none⟩) M M) ?_;refine bD (.int .i64 k) ?_
  refine bd g (k*25) ?_ (h:=fun _ _=>by simp[go_sem,W])
  refine bd g (k*25+1) ?_;refine vF g (k*25+1) N ?_;refine bD (.slice (some ⟨f,off,none⟩) n c) ?_;refine bD (.int .i64 k) ?_
  refine bd f (off+k*25) ?_ (h:=fun _ _=>by simp[go_sem,x])
  refine bd f (off+k*25+1) ?_;refine vF f (off+k*25+1) O ?_
  refine vC F ?_;refine bH (.bool true) ?_;refine zq ?_;intro S s;have an:=aa U S s;have ao:=aa V S s;have H:=(aa d).trans (s.mono (aa d).size);have T:=ae H
  have aj:(gf b k 0 != gf b k 0)=false:=by simp
  clear s F N O H
  go_wp2_with fail
  go_quiet (fail)
  go_wp2
  go_roundw
  ·exact⟨k+1,by omega,by go_num,ae (by repeat first|exact aa T|refine ap ?_ _|refine zE ?_)⟩
  simp[intOf]; omega
 have x:k=n:=by omega
 subst x
 have af:¬(k:Int)<k:=by omega
 go_wp2
 go_ret;exact⟨rfl,aa d⟩
theorem mL (c n a:Nat)(o:Option Addr)(w:World):Calls prog 28 #[.slice o n a,.slice none 0 c] w fun e w'=>e=.returned (.bool true)/\w=w':=by
 go_enter func28,ntmps28
 go_wp2_with (refine cP _ _ (exNil 40 100 underlying40 none _ _ _ _ _ rfl rfl rfl _) rfl ?_)
 go_ret;exact⟨rfl,rfl⟩
theorem oB (j m:Value)(l:List Int)(w:World)(B:bL rI w j l)(a:bL rI w m l):
  Calls prog 59 #[j,m] w fun e w'=>e=.returned (.bool true)/\Below w.heap.size w w':=by
 obtain⟨F,ca,rfl,_,r,f⟩:=B;obtain⟨ob,D,rfl,_,s,g⟩:=a;have t:=ae f;have u:=ae g;unfold maxLen at r;clear f g s;go_enter func59,ntmps59
 go_wp2
 go_loopw [5] (fun i wr=>∃k:Nat,k<=l.length/\i=.int .i64 k/\Hid (Below w.heap.size w wr)) (fun i _=>l.length-(intOf i).toNat)
 ·exact⟨0,by omega,rfl,ae bu⟩
 obtain⟨k,E,rfl,a⟩:=hrel
 by_cases q:k<l.length
 ·have d:(k:Int)<l.length:=by omega
  obtain⟨v,A,rfl,n,b⟩:=aa t (by omega)
  obtain⟨x,fb,rfl,o,c⟩:=aa u (by omega)
  have hi:l[k]?=some l[k]:=zQ q;have y:=((aa a).cell (p:=⟨v,A+k,none⟩) n).trans (rngI b hi);have z:=((aa a).cell (p:=⟨x,fb+k,none⟩) o).trans (rngI c hi);obtain⟨X,h⟩:∃X,l[k]=X:=⟨_,rfl⟩;rw[h] at y z
  have C:(X != X)=false:=by simp
  clear b c hi h
  go_wp2_with fail
  go_quiet (fail)
  go_wp2
  go_roundw
  ·exact⟨k+1,by omega,by go_num,ae (by repeat first|exact aa a|refine ap ?_ _|refine zE ?_)⟩
  simp[intOf]; omega
 have d:k=l.length:=by omega
 subst d
 go_wp2
 go_ret;exact⟨rfl,aa a⟩
theorem gf_rep {n i:Nat}{x:Nat->Int}(h:i<n):gf (List.replicate n x) i=x:=by unfold gf; rw[yc,zJ h]; rfl
theorem eF_owE (j:Nat):fc (eF (owE j))=fc zf:=by
 rw[cc_fc,cc_fc];refine cc_ext fun t _=>?_
 show(if 1+t=0 then _ else (0:Int))=zf t
 rw[zK (by omega)]; rfl
theorem built0:prog.built 66 []=some (fc zf):=by kernel_rfl
theorem run_b0 (A:Act)(o:Oper)(b:o.op=.build 66 #[])(w:World):(execOp A.eval o).run prog w=.ok (.value (.agg (fc zf))) w:=by
 have a:=run_build (P:=prog) w 66 #[] (fc zf) built0;unfold execOp;simp[b,a]
theorem at_rngF {d:World}{b off n:Nat}{x:Nat->Int}(h:∀i a,(List.replicate n x)[i]?=some a->d.rangeAt b (off+i*rF.wid) (rF.enc a)){t:Nat}(c:t<n):d.rangeAt b (off+t*24) (fc x).toList:=by
 have:=rngF h (k:=t) (by rw[zI]; exact c)
 rwa [gf_rep c] at this
section
variable {w:World}{ob:Nat}{V:OV}{IS FS RS GS ES:List cA}
theorem looks_any (h:bA w ob V IS FS RS GS ES)(aL:IS.length<=10000000)(aN:FS.length<=10000000)(ak:∀a,Below w.heap.size w a->Calls prog 18 #[some ob] a fun e w'=>e=.returned (.bool true)/\Below a.heap.size a w'):
  Calls prog 8 #[some ob] w fun e w'=>e=.returned (.bool true)/\Below w.heap.size w w':=by
 obtain⟨aC,aD,R⟩:=h.i.slice;obtain⟨ay,W,Q⟩:=h.f.slice
 have am:=ae (show w.cell? ⟨ob,0,none⟩=some (.slice aC IS.length aD) by rw[h.cells 0]; show some V.iv=_; rw[R])
 have ab:=ae (show w.cell? ⟨ob,1,none⟩=some (.slice ay FS.length W) by rw[h.cells 1]; show some V.fv=_; rw[Q])
 have T:=an h.blk;have H:=ae h;have aq:=ae R;have ao:=ae Q;have ax:=ae ak;clear h R Q ak;go_enter func8,ntmps8
 go_wp2
 go_loopw [3,4] (fun i _ wr=>∃k:Nat,k<=IS.length/\i=.int .i64 k/\Hid (Below w.heap.size w wr)) (fun i _ _=>IS.length-(intOf i).toNat)
 ·exact⟨0,by omega,rfl,ae bu⟩
 obtain⟨k,az,rfl,d⟩:=hrel;have x:=((aa d).cell (p:=⟨ob,0,none⟩) T).trans (aa am)
 by_cases S:k<IS.length
 ·have r:(k:Int)<IS.length:=by omega
  obtain⟨⟨G,c,o⟩,F⟩:∃s,IS[k]?=some s:=⟨_,zQ S⟩;obtain⟨aE,cap,e,_,_,E⟩:=(aa H).i.at;rw[aa aq] at e;cases e
  obtain⟨b,off,rfl,P,z⟩:=E (by omega)
  have y:=(rngS z F).trans (show _=some (Value.slice G c o) from rfl);have C:=show ah rI 3 _ (.slice G c o) (List.replicate c (ei k)) from((aa H).il k _ F);obtain⟨aw,al,B,_,m,n⟩:=C.at;rw[zI] at B m n;cases B;have M:=ae n;have rs:=((aa d).cell (p:=⟨b,off+k,none⟩) P).trans y
  have av:(c:Int)<=9223372036854775807:=by unfold maxLen at m; omega
  have L:=ae x;have N:=ae rs;have au:=(aa d).size;clear E z y C n m
  go_wp2_with fail
  clear x rs
  go_loopw [4] (fun i Z=>∃t:Nat,t<=c/\i=.int .i64 t/\Hid (Below wr.heap.size wr Z)) (fun i _=>c-(intOf i).toNat)
  ·exact⟨0,by omega,rfl,ae bu⟩
  obtain⟨t,aA,rfl,f⟩:=hrel
  have X:=((aa f).cell (p:=⟨ob,0,none⟩) (by show ob<_; omega)).trans (aa L)
  have Y:=((aa f).cell (p:=⟨b,off+k,none⟩) (by show b<_; omega)).trans (aa N)
  by_cases U:t<c
  ·have v:(t:Int)<c:=by omega
   obtain⟨l,g,rfl,O,A⟩:=aa M (by omega)
   have q:=(aa d).trans ((aa f).mono (aa d).size)
   have aO:=(q.cell (p:=⟨l,g+t,none⟩) O).trans (rngI A (show(List.replicate c (ei k))[t]?=some (ei k) by rw[yc,zJ U]))
   have I:=ae (fun a=>eC k a (by omega))
   have aK:(ei k != ei k)=false:=by simp
   clear A q
   go_wp2_with fail
   go_quiet (exact(aa I _).mono fun e w' h=>⟨h.1,_,h.2.symm⟩)
   go_wp2
   go_roundw
   ·exact⟨t+1,by omega,by go_num,ae (by repeat first|exact aa f|refine ap ?_ _|refine zE ?_)⟩
   simp[intOf]; omega
  have v:t=c:=by omega
  subst v;have K:=ae ((aa d).trans ((aa f).mono (aa d).size))
  go_wp2
  go_roundw
  ·exact⟨k+1,by omega,by go_num,K⟩
  simp[intOf]; omega
 have r:k=IS.length:=by omega
 subst r;have aF:=((aa d).cell (p:=⟨ob,1,none⟩) T).trans (aa ab);have aI:=(aa d).size
 go_wp2_with fail
 clear x aF
 go_loopw [5,6,7] (fun i _ _ aG=>∃k:Nat,k<=FS.length/\i=.int .i64 k/\Hid (Below w.heap.size w aG)) (fun i _ _ _=>FS.length-(intOf i).toNat)
 ·exact⟨0,by omega,rfl,d⟩
 obtain⟨k,az,rfl,d⟩:=hrel;have x:=((aa d).cell (p:=⟨ob,1,none⟩) T).trans (aa ab)
 by_cases S:k<FS.length
 ·have r:(k:Int)<FS.length:=by omega
  obtain⟨⟨G,c,o⟩,F⟩:∃s,FS[k]?=some s:=⟨_,zQ S⟩;obtain⟨aE,cap,e,_,_,E⟩:=(aa H).f.at;rw[aa ao] at e;cases e
  obtain⟨b,off,rfl,P,z⟩:=E (by omega)
  have y:=(rngS z F).trans (show _=some (Value.slice G c o) from rfl);have C:=show ah rF 66 _ (.slice G c o) (List.replicate c (oP k)) from((aa H).fl k _ F);obtain⟨aw,al,B,_,m,n⟩:=C.at;rw[zI] at B m n;cases B;have M:=ae n;have rs:=((aa d).cell (p:=⟨b,off+k,none⟩) P).trans y
  have av:(c:Int)<=9223372036854775807:=by unfold maxLen at m; omega
  have L:=ae x;have N:=ae rs;have au:=(aa d).size;clear E z y C n m
  go_wp2_with fail
  clear x rs
  go_loopw [6,7] (fun i _ Z=>∃t:Nat,t<=c/\i=.int .i64 t/\Hid (Below wr.heap.size wr Z)) (fun i _ _=>c-(intOf i).toNat)
  ·exact⟨0,by omega,rfl,ae bu⟩
  obtain⟨t,aA,rfl,f⟩:=hrel;have aJ:=(aa f).size
  have X:=((aa f).cell (p:=⟨ob,1,none⟩) (by show ob<_; omega)).trans (aa L)
  have Y:=((aa f).cell (p:=⟨b,off+k,none⟩) (by show b<_; omega)).trans (aa N)
  by_cases U:t<c
  ·have v:(t:Int)<c:=by omega
   obtain⟨l,g,rfl,O,A⟩:=aa M (by omega)
   have q:=(aa d).trans ((aa f).mono (aa d).size)
   have af:∀a,Below wr.heap.size wr a->a.cell? ⟨ob,1,none⟩=some (.slice (some ⟨b,off,none⟩) FS.length W):=fun a D=>(D.cell (p:=⟨ob,1,none⟩) (by show ob<_; omega)).trans X
   have ag:∀a,Below wr.heap.size wr a->a.cell? ⟨b,off+k,none⟩=some (.slice (some ⟨l,g,none⟩) c o):=fun a D=>(D.cell (p:=⟨b,off+k,none⟩) (by show b<_; omega)).trans Y
   have ai:∀a,Below wr.heap.size wr a->a.rangeAt l (g+t*24) (fc (oP k)).toList:=fun a D j u aB=>((q.trans (D.mono q.size)).cell (p:=⟨l,g+t*24+j,none⟩) O).trans (at_rngF A U j u aB)
   have I:∀a,Calls prog 16 #[.int .i64 (k:Nat)] a fun e w'=>e=.returned (.int .i64 (ei k))/\Below a.heap.size a w':=fun a=>(eC k a (by omega)).mono fun e w' h=>⟨h.1,by rw[<-h.2]; exact zV _ _⟩
   have aj:=fun a=>fy (oP k) a;clear A q
   go_wp2_with fail
   clear X Y
   refine aM (by kernel_rfl) (by kernel_rfl) ?_
   refine eI ob 0 ?_;refine bd ob 0 ?_;refine bd ob 1 ?_
   refine bH (.slice (some ⟨b,off,none⟩) FS.length W) ?_ (h:=fun w' h=>by simp[go_sem,af w' h])
   refine bD (.int .i64 k) ?_
   refine bd b (off+k) ?_ (h:=fun _ _=>by simp[go_sem,r])
   refine bH (.slice (some ⟨l,g,none⟩) c o) ?_ (h:=fun w' h=>by simp[go_sem,ag w' h])
   refine bD (.int .i64 t) ?_
   refine bd l (g+t*24) ?_ (h:=fun _ _=>by simp[go_sem,v])
   refine vF l (g+t*24) ai ?_;refine bD (.int .i64 k) ?_
   refine vC I ?_;refine bH (.agg (fc (oP k))) ?_ (h:=fun w' _=>run_bF k _ _ _ rfl rfl w')
   refine vC aj ?_;refine bH (.bool true) ?_;refine zq ?_;intro aH ad;have J:=ae ((aa f).trans (ad.mono (aa f).size));clear ad aj I ai af ag
   go_wp2
   go_roundw
   ·exact⟨t+1,by omega,by go_num,J⟩
   simp[intOf]; omega
  have v:t=c:=by omega
  subst v;have K:=ae ((aa d).trans ((aa f).mono (aa d).size))
  go_wp2
  go_roundw
  ·exact⟨k+1,by omega,by go_num,K⟩
  simp[intOf]; omega
 have r:k=FS.length:=by omega
 subst r;have ar:=ae (aa ax wr (aa d))
 go_wp2_with fail
 refine(aa ar).mono ?_;rintro e aH ⟨rfl,ac⟩;have J:=ae ((aa d).trans (ac.mono (aa d).size));clear ac
 go_wp2
 go_ret;exact⟨rfl,aa J⟩
end
section
variable {w:World}{sb:Nat}{keep:Int}{n:Nat}{sl pv:Value}{LS:List (Nat->Int)}{PI:List Int}
theorem xHeld_any (f:dD w sb keep (n:Nat) sl pv LS (ri PI))(P:PI.length<=6)(H:0<=keep/\keep<=4)(Q:n<=100):
  Calls prog 57 #[some sb] w fun en w'=>∃rv,en=.returned rv/\ah rI 3 w' rv (md keep n PI (n+1))/\(∀g,rv.ownBlock=some g->w.heap.size<=g)/\Below w.heap.size w w':=by
 obtain⟨_,r,_,_⟩:=f.cells;have F:=f.lt;have G:=ae f;have A:=ae r
 have D:=ae (cr (R:=rI) (T:=3) w [] #[] rfl (by simp))
 have y:=ae (aj w (.cells #[] 3));clear f r;go_enter func57,ntmps57
 go_wp2
 go_loopw [3,4] (fun lv i wr=>∃k:Nat,k<=n+1/\i=.int .i64 k/\Hid (ah rI 3 wr lv (md keep n PI k))/\Hid (∀g,lv.ownBlock=some g->w.heap.size<=g)/\Hid (Below w.heap.size w wr)) (fun _ i _=>n+1-(intOf i).toNat)
 ·exact⟨0,by omega,rfl,D,ae (fun g a=>by simp[Value.ownBlock] at a; omega),y⟩
 obtain⟨k,L,rfl,t,e,d⟩:=hrel;have l:=((aa d).cell (p:=⟨sb,1,none⟩) F).trans (aa A)
 by_cases O:k<=n
 ·have o:(k:Int)<=n:=by omega
  have q:=ae (gm sb keep (n:Nat) sl pv LS (ri PI) (k:Nat) wr ((aa G).on (aa d)) (by rw[fI]; omega) H (by omega))
  obtain⟨B,s⟩:∃B,bS keep (n:Nat) (ri PI) (k:Nat)=B:=⟨_,rfl⟩;have h:=ae (nL keep n PI k);rw[s] at q h;clear s
  go_wp2_with fail
  refine(aa q).mono ?_;rintro en J ⟨rfl,j⟩;have m:=ae ((aa t).on j);have c:=ae ((aa d).trans (j.mono (aa d).size));clear j l
  cases B with
  | false=>
   go_wp2
   go_roundw
   ·exact⟨k+1,by omega,by go_num,by rw[aa h,cond_false,yW]; exact m,e,c⟩
   simp[intOf]; omega
  | true=>
   have N:=hldL_len keep n PI k
   obtain⟨x,K,l,u,v,b⟩:=apI ((aa m).on (bu.alloc aD (.cells #[(k:Int)] 3))) (aZ rI 3 J (k:Int) #[(k:Int)] rfl) (by simp; omega)
   have E:Hid (ah rI 3 K x (md keep n PI (k+1))):=by rw[aa h]; exact u
   have C:Hid (∀g,x.ownBlock=some g->w.heap.size<=g):=fun g a=>by
    rcases b with b|b
    ·exact aa e g (b▸a)
    have I:=b g a; have:=(aa c).size; simp at I; omega
   have z:=ae (((aa c).alloc (aa c).size _).grown v (by have:=(aa c).size; simp; omega) (fun g a=>aa e g a))
   clear u v b
   go_wp2_with (first|refine cP _ _ (bsI (k:Int) _ _ _ rfl rfl _) rfl ?_|(at_builtin; refine fS 60 l rfl _ _ rfl rfl rfl rfl ?_))
   go_roundw
   ·exact⟨k+1,by omega,by go_num,E,C,z⟩
   simp[intOf]; omega
 have o:k=n+1:=by omega
 subst o
 have M:¬((n+1:Nat):Int)<=n:=by omega
 go_wp2
 go_ret;exact⟨_,rfl,aa t,aa e,aa d⟩
theorem Apply_big {v:Value}{k:Nat}{es:Nat->Nat->Int}(a:mD 25 w v k es)(d:8<k)(sb:Nat):
  Calls prog 26 #[some sb,v] w fun e w'=>e=.returned (.tuple #[(),(8:Int)])/\w=w':=by
 obtain⟨f,cap,rfl,hm,_⟩:=a
 have b:¬(k:Int)<1:=by omega
 have c:(8:Int)<k:=by omega
 unfold maxLen at hm;go_enter func26,ntmps26
 go_wp2
 go_ret2
 exact⟨rfl,rfl⟩
end
structure DV where
 sb:Nat
 sl:Value
 pv:Value
 LS:List (Nat->Int)
 rb:Nat
 bv:Value
 rp:Value
 SL:List cA
 keep:Int
 bs:List bK
 PI:List Int
def XF (d:DV)(k:Nat):Prop:=k=d.sb\/d.sl.ownBlock=some k\/d.pv.ownBlock=some k
def RF (d:DV)(k:Nat):Prop:=k=d.rb\/d.bv.ownBlock=some k\/d.rp.ownBlock=some k\/∃s∈d.SL,s.v.ownBlock=some k
def df (d:DV)(k:Nat):Prop:=XF d k\/RF d k
abbrev XSt (w:World)(d:DV):Prop:=dD w d.sb d.keep (d.bs.length:Nat) d.sl d.pv d.LS (ri d.PI)
abbrev RS' (w:World)(d:DV):Prop:=eV w d.rb d.keep d.bv d.rp d.SL d.bs d.PI
structure Dep (w:World)(d:DV):Prop where
 x:XSt w d
 r:RS' w d
 pr:PR d.LS d.bs
 k:0<=d.keep/\d.keep<=4
 p:d.PI.length<=6
 b8:∀k,k<d.bs.length->(ff d.bs k).length<=8
 dj:∀g,d.pv.ownBlock=some g->d.rp.ownBlock≠some g
theorem dD.frmS {w w':World}{c:Nat}{d ver:Int}{sl pv:Value}{LS e:List (Nat->Int)}{S:Nat->Prop}(h:dD w c d ver sl pv LS e)(b:aE S w w')(f:¬S c)(i:∀k,sl.ownBlock=some k->¬S k)(j:∀k,pv.ownBlock=some k->¬S k):dD w' c d ver sl pv LS e:=
 ⟨aQ h.blk b f,h.own.same fun g a=>b.block g (h.own.lt g a).2 (i g a),h.pins.same fun g a=>b.block g (h.pins.lt g a).2 (j g a)⟩
theorem eV.frm {w w':World}{rb:Nat}{c:Int}{bv pv:Value}{SL:List cA}{bs:List bK}{PI:List Int}{S:Nat->Prop}(h:eV w rb c bv pv SL bs PI)(a:aE S w w')(e:¬S rb)(f:∀k,bv.ownBlock=some k->¬S k)(g:∀k,pv.ownBlock=some k->¬S k)(j:∀s∈SL,∀k,s.v.ownBlock=some k->¬S k):eV w' rb c bv pv SL bs PI:=
 ⟨aQ h.blk a e,h.bat.frm a f,h.len,fun i s b d l=>(h.bts i s b d l).frm a (j s (zR d)),h.pin.frm a g⟩
theorem XSt.fr {w w':World}{b:DV}{S:Nat->Prop}(h:XSt w b)(c:aE S w w')(a:∀k,XF b k->¬S k):XSt w' b:=dD.frmS h c (a _ (Or.inl rfl)) (fun k q=>a k (Or.inr (Or.inl q))) (fun k q=>a k (Or.inr (Or.inr q)))
theorem RS'.fr {w w':World}{b:DV}{S:Nat->Prop}(h:RS' w b)(c:aE S w w')(a:∀k,RF b k->¬S k):RS' w' b:=eV.frm h c (a _ (Or.inl rfl)) (fun k q=>a k (Or.inr (Or.inl q))) (fun k q=>a k (Or.inr (Or.inr (Or.inl q)))) (fun s d k q=>a k (Or.inr (Or.inr (Or.inr ⟨s,d,q⟩))))
theorem Dep.frm {w w':World}{a:DV}{S:Nat->Prop}(h:Dep w a)(b:aE S w w')(c:∀k,df a k->¬S k):Dep w' a:=
 ⟨XSt.fr h.x b fun k q=>c k (Or.inl q),RS'.fr h.r b fun k q=>c k (Or.inr q),h.pr,h.k,h.p,h.b8,h.dj⟩
theorem Dep.on {w w':World}{a:DV}(h:Dep w a)(b:Below w.heap.size w w'):Dep w' a:=h.frm (S:=fun _=>False) (aE.of_below b) (fun _ _ q=>q)
theorem eV.sl {w:World}{rb:Nat}{a:Int}{bv pv:Value}{SL:List cA}{bs:List bK}{PI:List Int}(h:eV w rb a bv pv SL bs PI){s:cA}(d:s∈SL):∃b,ah rE 100 w s.v b:=by
 obtain⟨i,hi⟩:=zB.1 d
 have c:i<bs.length:=by rw[<-h.len]; exact(zX.1 hi).1
 exact⟨_,h.bts i s _ hi (zQ c)⟩
theorem XSt.lt {w:World}{a:DV}(h:XSt w a){k:Nat}(b:XF a k):k<w.heap.size:=by
 rcases b with rfl|q|q
 ·exact an h.blk
 ·exact(h.own.lt k q).2
 exact(h.pins.lt k q).2
theorem RS'.lt {w:World}{a:DV}(h:RS' w a){k:Nat}(d:RF a k):k<w.heap.size:=by
 rcases d with rfl|q|q|⟨s,e,q⟩
 ·exact an h.blk
 ·exact h.bat.lt q
 ·exact h.pin.lt q
 obtain⟨b,c⟩:=h.sl e;exact c.lt q
theorem Dep.lt {w:World}{a:DV}(h:Dep w a){k:Nat}(b:df a k):k<w.heap.size:=by
 rcases b with q|q
 ·exact XSt.lt h.x q
 exact RS'.lt h.r q
structure OL where
 V:OV
 IS:List cA
 FS:List cA
 RS:List cA
 GS:List cA
 ES:List cA
abbrev io (w:World)(ob:Nat)(O:OL):Prop:=bA w ob O.V O.IS O.FS O.RS O.GS O.ES
abbrev OF (ob:Nat)(O:OL)(k:Nat):Prop:=j8 ob O.V O.IS O.FS O.RS O.GS O.ES k
structure OStp (w:World)(O:OL)(ob:Nat)(O':OL):Prop where
 foot:∀k,OF ob O' k->OF ob O k\/w.heap.size<=k
 il:O'.IS.length<=O.IS.length+1
 fl:O'.FS.length<=O.FS.length+1
 rl:O'.RS.length<=O.RS.length+1
 gl:O'.GS.length<=O.GS.length+1
 el:O'.ES.length<=O.ES.length+1
 r0:O.RS=[]->O'.RS=[]
 g0:O.GS=[]->O'.GS=[]
theorem OStp.rfl' (w:World)(O:OL)(ob:Nat):OStp w O ob O:=⟨fun _ q=>Or.inl q,by omega,by omega,by omega,by omega,by omega,id,id⟩
structure Pst (w:World)(d:DV)(ob:Nat)(O:OL)(w':World)(d':DV)(O':OL):Prop where
 dep:Dep w' d'
 own:io w' ob O'
 dj:∀k,df d' k->¬OF ob O' k
 frm:aE (fun k=>df d k\/OF ob O k) w w'
 foot:∀k,df d' k->df d k\/w.heap.size<=k
 ost:OStp w O ob O'
 sb:d'.sb=d.sb
 rb:d'.rb=d.rb
theorem Pst.plain {w w':World}{a b:DV}{ob:Nat}{O:OL}(g:io w ob O)(d:∀k,df a k->¬OF ob O k)(i:Dep w' b)(f:aE (df a) w w')(h:∀k,df b k->df a k\/w.heap.size<=k)(l:b.sb=a.sb)(j:b.rb=a.rb):Pst w a ob O w' b O:=
 ⟨i,bA.frm g f fun k q c=>d k c q,fun k q c=>by
  rcases h k q with e|e
  ·exact d k e c
  have:=bA.lt g c; omega,f.mono fun _ _ q=>Or.inl q,h,OStp.rfl' _ _ _,l,j⟩
theorem Pst.still {w w':World}{a:DV}{ob:Nat}{O:OL}(h:Dep w a)(d:io w ob O)(c:∀k,df a k->¬OF ob O k)(b:Below w.heap.size w w'):Pst w a ob O w' a O:=
 Pst.plain d c (h.on b) (aE.of_below b) (fun _ q=>Or.inl q) rfl rfl
theorem Pst.join {w w1 w':World}{m f:DV}{ob:Nat}{O a:OL}{v:Value}{u:Value}(h:Pst w m ob O w1 f O)(n:io w' ob a)(i:aE (fun k=>k=ob\/u.ownBlock=some k\/v.ownBlock=some k) w1 w')(l:∀k,u.ownBlock=some k->OF ob O k)(d:∀k,v.ownBlock=some k->w.heap.size<=k/\¬df f k)
  (j:∀k,OF ob a k->OF ob O k\/v.ownBlock=some k\/w1.heap.size<=k) (c:a.IS.length<=O.IS.length+1/\a.FS.length<=O.FS.length+1/\a.RS.length<=O.RS.length+1/\a.GS.length<=O.GS.length+1/\a.ES.length<=O.ES.length+1) (g:(O.RS=[]->a.RS=[])/\(O.GS=[]->a.GS=[])):Pst w m ob O w' f a:=by
 have o:=h.frm.size;refine⟨h.dep.frm i fun k q b=>?_,n,fun k q b=>?_,h.frm.then i fun k p q=>?_,h.foot,⟨fun k q=>?_,c.1,c.2.1,c.2.2.1,c.2.2.2.1,c.2.2.2.2,g.1,g.2⟩,h.sb,h.rb⟩
 ·rcases b with rfl|b|b
  ·exact h.dj _ q (Or.inl rfl)
  ·exact h.dj k q (l k b)
  exact(d k b).2 q
 ·rcases j k b with e|e|e
  ·exact h.dj k q e
  ·exact(d k e).2 q
  have:=h.dep.lt q; omega
 ·rcases q with rfl|q|q
  ·exact Or.inr (Or.inl rfl)
  ·exact Or.inr (l k q)
  have:=(d k q).1; omega
 rcases j k q with e|e|e
 ·exact Or.inl e
 ·exact Or.inr (d k e).1
 exact Or.inr (by omega)
structure RNum (Y:RV)(D:DF):Prop where
 q:Y.q=D.q
 wk:Y.wk=D.wk
 wt:Y.wt=D.wt
 ca:Y.ca=D.ca
 ch:Y.ch=D.ch
 nw:Y.nw=D.now
 ct:Y.ct=D.ct
 st:Y.st=D.st
structure RD (w:World)(rb:Nat)(Y:RV)(bv:Value)(SL:List cA)(D:DF):Prop where
 blk:aF w rb Y
 mem:cE w Y D.rq D.jb D.en
 sto:eV w Y.sb 0 bv (.slice none 0 0) SL D.bs []
 num:RNum Y D
def RDF (rb:Nat)(Y:RV)(bv:Value)(SL:List cA)(k:Nat):Prop:=RSet rb Y k\/k=Y.sb\/bv.ownBlock=some k\/∃s∈SL,s.v.ownBlock=some k
section
variable {w w':World}{rb:Nat}{Y Y':RV}{bv:Value}{SL:List cA}{D D':DF}
theorem RD.ty (h:RD w rb Y bv SL D):fQ (RDF rb Y bv SL) w [135,158,165,162,121,40,100]:=fun k f=>by
 rcases f with q|rfl|q|⟨s,g,q⟩
 ·obtain⟨c,T,e,a⟩:=h.mem.ty h.blk k q
  exact⟨c,T,e,by simp only[zv,yT,or_false] at a ⊢; rcases a with rfl|rfl|rfl|rfl<;>simp⟩
 ·exact⟨_,_,h.sto.blk,by simp⟩
 ·obtain⟨c,e⟩:=h.sto.bat.ty q; exact⟨_,_,e,by simp⟩
 obtain⟨b,d⟩:=h.sto.sl g
 obtain⟨c,e⟩:=d.ty q; exact⟨_,_,e,by simp⟩
theorem RD.lt (h:RD w rb Y bv SL D){k:Nat}(a:RDF rb Y bv SL k):k<w.heap.size:=by
 obtain⟨c,T,e,_⟩:=h.ty k a;exact an e
theorem cE.frm {X:RV}{rq:List Rq}{jb:List Jb}{en:List En}{S:Nat->Prop}(h:cE w X rq jb en)(a:aE S w w')(b:∀k,RSet rb X k->¬S k):cE w' X rq jb en:=
 ⟨h.rq.frm a fun k q=>b k (Or.inr (Or.inl q)),h.jb.frm a fun k q=>b k (Or.inr (Or.inr (Or.inl q))),h.en.frm a fun k q=>b k (Or.inr (Or.inr (Or.inr q)))⟩
theorem RD.frm {S:Nat->Prop}(h:RD w rb Y bv SL D)(b:aE S w w')(a:∀k,RDF rb Y bv SL k->¬S k):RD w' rb Y bv SL D:=
 ⟨aQ h.blk b (a _ (Or.inl (Or.inl rfl))),h.mem.frm (rb:=rb) b (fun k q=>a k (Or.inl q)),eV.frm h.sto b (a _ (Or.inr (Or.inl rfl))) (fun k q=>a k (Or.inr (Or.inr (Or.inl q)))) (fun k q=>by cases q) (fun s c k q=>a k (Or.inr (Or.inr (Or.inr ⟨s,c,q⟩)))),h.num⟩
theorem RD.on (h:RD w rb Y bv SL D)(a:Below w.heap.size w w'):RD w' rb Y bv SL D:=h.frm (S:=fun _=>False) (aE.of_below a) (fun _ _ q=>q)
theorem RD.step (h:RD w rb Y bv SL D)(a:aP w rb Y w' Y' D'.rq D'.jb D'.en)(b:D'.bs=D.bs)(c:RNum Y' D'):RD w' rb Y' bv SL D'/\(∀k,RDF rb Y' bv SL k->RDF rb Y bv SL k\/w.heap.size<=k)/\aE (RDF rb Y bv SL) w w':=by
 refine⟨⟨a.blk,a.mem,?_,c⟩,fun k q=>?_,a.frm.mono fun k _ q=>Or.inl q⟩
 ·rw[a.sb,b]
  exact a.rst h.blk h.mem h.sto
 rcases q with q|q|q
 ·rcases a.new k q with e|e
  ·exact Or.inl (Or.inl e)
  exact Or.inr e
 ·exact Or.inl (Or.inr (Or.inl (by rw[q,a.sb])))
 exact Or.inl (Or.inr (Or.inr q))
end
structure EV where
 fb:Nat
 X:FV
 sl:Value
 pv:Value
 W:List (Option Wk)
 F:FM
 rb:Nat
 Y:RV
 bv:Value
 SL:List cA
 D:DF
abbrev EV.P (e:EV)(k:Nat):Prop:=aw e.fb e.X e.sl e.pv e.W k
abbrev EV.R (e:EV)(k:Nat):Prop:=RDF e.rb e.Y e.bv e.SL k
def aX (e:EV)(k:Nat):Prop:=e.P k\/e.R k
structure cF (F:FM)(D:DF)(n:Nat):Prop where
 ok:Ok Oz F
 sim:fC F D
 pr:PR F.LS D.bs
 fls:∀v:Nat,v<=D.bs.length->F.FLs v=(dk D.bs v).map nf
 b8:∀k,k<D.bs.length->(ff D.bs k).length<=8
 sml:∀r∈D.rq,bP r.k
 ct:D.ct<=5*n
 rl:D.rq.length<=n
 now:D.now<=n
 st:D.st<=n
structure cO (w:World)(n:Nat)(e:EV):Prop where
 x:gF w e.fb e.X e.sl e.pv e.W e.F
 r:RD w e.rb e.Y e.bv e.SL e.D
 m:cF e.F e.D n
 lo:∀k,e.R k->4<=k
section
variable {w w':World}{n:Nat}{e:EV}
theorem gF.ty {fb:Nat}{X:FV}{sl pv:Value}{a:List (Option Wk)}{j:FM}(h:gF w fb X sl pv a j):fQ (aw fb X sl pv a) w [129,119,147,3,201,39,196,166,170,66]:=fun k f=>by
 rcases f with rfl|rfl|q|q|q|q|q|q|⟨i,u,g,q⟩
 ·exact⟨_,_,h.blk,by simp⟩
 ·exact⟨_,_,h.mem.sto.blk,by simp⟩
 ·obtain⟨c,e⟩:=h.mem.sto.own.ty q; exact⟨_,_,e,by simp⟩
 ·obtain⟨c,e⟩:=h.mem.sto.pins.ty q; exact⟨_,_,e,by simp⟩
 ·obtain⟨c,e⟩:=h.mem.wai.ty q; exact⟨_,_,e,by simp⟩
 ·obtain⟨c,e⟩:=h.mem.lin.ty q; exact⟨_,_,e,by simp⟩
 ·obtain⟨c,e⟩:=h.mem.wkv.ty q; exact⟨_,_,e,by simp⟩
 ·obtain⟨c,e⟩:=h.mem.til.ty q; exact⟨_,_,e,by simp⟩
 obtain⟨b,d⟩:=h.mem.wat i u g
 rcases q with rfl|q
 ·exact⟨_,_,b,by simp⟩
 obtain⟨c,e⟩:=d.ty q; exact⟨_,_,e,by simp⟩
end
section
variable (O:Ora)
variable {O}{F:FM}
structure Like (F G:FM):Prop where
 queue:G.queue=F.queue
 wait:G.wait=F.wait
 chunk:G.chunk=F.chunk
 room:G.room=F.room
 now:G.now=F.now
 arrived:G.arrived=F.arrived
 ver:G.ver=F.ver
 LS:G.LS=F.LS
 FLs:G.FLs=F.FLs
 wks:G.wks.length=F.wks.length
theorem Like.rfl' (F:FM):Like F F:=⟨rfl,rfl,rfl,rfl,rfl,rfl,rfl,rfl,rfl,rfl⟩
theorem work_like (F:FM)(i:Nat):Like F (F.work O i).1:=by
 unfold FM.work
 cases F.wks[i]? with
 | none=>exact Like.rfl' F
 | some o=>
  cases o with
  | none=>
   dsimp only;unfold FM.takeW
   cases F.line with
   | nil=>exact Like.rfl' F
   | cons b rest=>exact⟨rfl,rfl,rfl,rfl,rfl,rfl,rfl,rfl,rfl,by simp⟩
  | some f=>
   dsimp only
   split
   ·exact⟨rfl,rfl,rfl,rfl,rfl,rfl,rfl,rfl,rfl,by simp⟩
   exact⟨rfl,rfl,rfl,rfl,rfl,rfl,rfl,rfl,rfl,by simp[FM.finishW]⟩
theorem Ok.left40 (h:Ok O F){i:Nat}{f:Fl}(hi:F.wks[i]?=some (some f)):f.left<=40:=by
 have:=h.flt f (eY hi);exact this.2.1.le (h.hi.le40 _ this.1) h.ch.1
end
section
variable {F:FM}{D:DF}{n:Nat}
theorem kpE_ct (ca cnt:Nat)(ts:List En)(t:aL):(mG ca cnt ts t).1<=cnt+1:=(kpE_le ca cnt ts t).1
theorem layN_c4 (bs:List bK)(ca:Nat)(b:K4)(rd:Nat)(c:Nat × List En):∀n,(layN bs ca b rd c n).1<=c.1+n
 | 0=>zz _
 | n+1=>by
  have a:=layN_c4 bs ca b rd c n;rw[layN]
  split
  ·have:=kpE_ct ca (layN bs ca b rd c n).1 (layN bs ca b rd c n).2 (dx bs rd (cm b n))
   omega
  omega
theorem paint_ct (D:DF)(i:Nat)(j:Jb):(D.paint i j).1.ct<=D.ct+5:=by
 unfold DF.paint ptJ;have:=layN_c4 D.bs D.ca j.b j.rd.toNat (D.ct,D.en) 4;dsimp only at this ⊢
 split
 ·dsimp only; omega
 dsimp only; omega
theorem work_ct (D:DF)(a:Nat):(D.work a).1.ct<=D.ct+5:=by
 have b:D.ct<=D.ct+5:=Nat.le_add_right _ _;unfold DF.work
 split
 ·exact b
 split
 ·split
  ·split
   ·exact paint_ct { D with jb:=_ } _ _
   exact b
  exact b
 split
 ·split
  ·exact b
  exact b
 exact b
theorem svF_k (bs:List bK)(j:Jb)(r:Rq):(svF bs j r).k=r.k:=by unfold svF; split<;>rfl
theorem ltF_k (m:Int)(r:Rq):(li m r).k=r.k:=by unfold li; split<;>rfl
structure kM (D D':DF):Prop where
 bs:D'.bs=D.bs
 q:D'.q=D.q
 wk:D'.wk=D.wk
 wt:D'.wt=D.wt
 ca:D'.ca=D.ca
 ch:D'.ch=D.ch
theorem kM.rfl' (D:DF):kM D D:=⟨rfl,rfl,rfl,rfl,rfl,rfl⟩
theorem work_dl (D:DF)(a:Nat):kM D (D.work a).1/\(D.work a).1.now=D.now/\(D.work a).1.st<=D.st+1/\(D.work a).1.rq.length=D.rq.length/\((∀b∈D.rq,bP b.k)->∀b∈(D.work a).1.rq,bP b.k):=by
 have c:∀jb,kM D { D with jb:=jb }/\({ D with jb:=jb }:DF).now=D.now/\({ D with jb:=jb }:DF).st<=D.st+1/\({ D with jb:=jb }:DF).rq.length=D.rq.length/\((∀b∈D.rq,bP b.k)->∀b∈({ D with jb:=jb }:DF).rq,bP b.k):=fun jb=>⟨⟨rfl,rfl,rfl,rfl,rfl,rfl⟩,rfl,yn _,rfl,fun h=>h⟩;unfold DF.work
 split
 ·exact c D.jb
 split
 ·split
  ·split
   ·refine⟨⟨rfl,rfl,rfl,rfl,rfl,rfl⟩,rfl,yn _,?_,fun h b f=>?_⟩
    ·show(fP D.bs _ D.rq).length=_
     unfold fP; rw[zY]
    obtain⟨g,d,e⟩:=yH.1 f;have:=h g d;rw[<-e,svF_k];exact this
   exact c _
  exact c D.jb
 split
 ·split
  ·exact⟨⟨rfl,rfl,rfl,rfl,rfl,rfl⟩,rfl,zz _,rfl,fun h=>h⟩
  exact c D.jb
 exact c D.jb
theorem tick_dl (D:DF):kM D D.tick.1/\D.tick.1.now=D.now+1/\D.tick.1.st=D.st/\D.tick.1.ct=D.ct/\D.tick.1.rq.length=D.rq.length/\((∀a∈D.rq,bP a.k)->∀a∈D.tick.1.rq,bP a.k):=by
 refine⟨⟨rfl,rfl,rfl,rfl,rfl,rfl⟩,rfl,rfl,rfl,?_,fun h a c=>?_⟩
 ·show(D.rq.map _).length=_
  rw[zY]
 obtain⟨d,b,e⟩:=yH.1 c;have:=h d b;rw[<-e,ltF_k];exact this
theorem nX (D:DF)(k:K4)(e:Int)(tag:ByteArray):kM D (D.arrive k e tag).1/\(D.arrive k e tag).1.now=D.now/\(D.arrive k e tag).1.st=D.st/\(D.arrive k e tag).1.ct<=D.ct+1/\(D.arrive k e tag).1.rq.length=D.rq.length+1/\(bP k->(∀a∈D.rq,bP a.k)->∀a∈(D.arrive k e tag).1.rq,bP a.k):=by
 have c:∀a:Rq,a.k=k->bP k->(∀a∈D.rq,bP a.k)->∀q∈D.rq++[a],bP q.k:=fun a g f h q d=>by
  rcases zh.1 d with d|d
  ·exact h q d
  simp only[z7] at d
  rw[d,g]; exact f
 have b:∀a:Rq,(D.rq++[a]).length=D.rq.length+1:=fun a=>by simp
 unfold DF.arrive;dsimp only
 split
 ·exact⟨⟨rfl,rfl,rfl,rfl,rfl,rfl⟩,rfl,rfl,yn _,b _,c _ rfl⟩
 split
 ·exact⟨⟨rfl,rfl,rfl,rfl,rfl,rfl⟩,rfl,rfl,yn _,b _,c _ rfl⟩
 split
 ·exact⟨⟨rfl,rfl,rfl,rfl,rfl,rfl⟩,rfl,rfl,yn _,b _,c _ rfl⟩
 split
 ·split
  ·exact⟨⟨rfl,rfl,rfl,rfl,rfl,rfl⟩,rfl,rfl,zz _,b _,c _ rfl⟩
  exact⟨⟨rfl,rfl,rfl,rfl,rfl,rfl⟩,rfl,rfl,yn _,b _,c _ rfl⟩
 split
 ·exact⟨⟨rfl,rfl,rfl,rfl,rfl,rfl⟩,rfl,rfl,yn _,b _,c _ rfl⟩
 split
 ·exact⟨⟨rfl,rfl,rfl,rfl,rfl,rfl⟩,rfl,rfl,yn _,b _,c _ rfl⟩
 exact⟨⟨rfl,rfl,rfl,rfl,rfl,rfl⟩,rfl,rfl,zz _,b _,c _ rfl⟩
theorem cF.of {a:FM}{D':DF}(h:cF F D n)(e:Ok Oz a)(g:fC a D')(d:a.LS=F.LS)(c:a.FLs=F.FLs)(b:kM D D')(f:∀i∈D'.rq,bP i.k)(j:D'.ct<=D.ct+5)(l:D'.rq.length<=D.rq.length+1)(k:D'.now<=D.now+1)(m:D'.st<=D.st+1):cF a D' (n+1):=by
 have o:=h.ct;have p:=h.rl;have q:=h.now;have r:=h.st
 exact⟨e,g,by rw[d,b.bs]; exact h.pr,by rw[c,b.bs]; exact h.fls,by rw[b.bs]; exact h.b8,f,by omega,by omega,by omega,by omega⟩
theorem cF.work (h:cF F D n)(a:Nat):cF (F.work Oz a).1 (D.work a).1 (n+1)/\(F.work Oz a).2=(D.work a).2:=by
 obtain⟨c,i,d,j,e⟩:=work_dl D a;obtain⟨f,g⟩:=h.sim.work h.ok a;have b:=work_like (O:=Oz) F a
 exact⟨h.of (h.ok.work a) f b.LS b.FLs c (e h.sml) (work_ct D a) (by omega) (by omega) d,g⟩
theorem cF.still (h:cF F D n):cF F D (n+1):=h.of h.ok h.sim rfl rfl (kM.rfl' D) h.sml (by omega) (by omega) (by omega) (by omega)
theorem cF.tick (h:cF F D n):cF F.tick.1 D.tick.1 (n+1)/\F.tick.2=D.tick.2:=by
 obtain⟨a,e,f,g,i,b⟩:=tick_dl D;obtain⟨c,d⟩:=h.sim.tick
 exact⟨h.of h.ok.tick c rfl rfl a (b h.sml) (by omega) (by omega) (by omega) (by omega),d⟩
theorem nD (p:ByteArray):bP (k8 p).1:=by
 rcases oK p with⟨_,h⟩|⟨_,h⟩
 ·exact h.small
 rw[h]; exact⟨by dsimp only; omega,by dsimp only; omega⟩
theorem arrK_like (F:FM)(k:K4)(tag:ByteArray):(F.arriveK Oz k tag).1.LS=F.LS/\(F.arriveK Oz k tag).1.FLs=F.FLs:=by
 unfold FM.arriveK;dsimp only
 split
 ·exact⟨rfl,rfl⟩
 split
 ·exact⟨rfl,rfl⟩
 split
 ·exact⟨rfl,rfl⟩
 exact⟨rfl,rfl⟩
theorem cF.arr (h:cF F D n)(p tag:ByteArray):cF (arr F p tag).1 (D.arrive (k8 p).1 (k8 p).2 tag).1 (n+1)/\(arr F p tag).2=(D.arrive (k8 p).1 (k8 p).2 tag).2:=by
 obtain⟨c,i,j,k,l,m⟩:=nX D (k8 p).1 (k8 p).2 tag;have b:=m (nD p) h.sml;unfold YtpabpniaekldeaaGreatDoor.arr
 rcases oK p with⟨a,f⟩|⟨a,f⟩
 ·rw[zJ a]
  rw[a] at c i j k l b ⊢;obtain⟨d,e⟩:=h.sim.arriveK h.ok (k8 p).1 tag;have g:=arrK_like F (k8 p).1 tag
  exact⟨h.of (h.ok.arriveK f tag) d g.1 g.2 c b (by omega) (by omega) (by omega) (by omega),e⟩
 rw[zK a];obtain⟨d,e⟩:=h.sim.arriveE (k8 p).1 a tag
 exact⟨h.of (h.ok.arriveE _) d rfl rfl c b (by omega) (by omega) (by omega) (by omega),e⟩
theorem cF.bs (h:cF F D n):ke D.bs:=bsok_of h.pr h.b8
theorem cF.kok (h:cF F D n):∀a∈D.rq,a.done=false->dy a.k:=fun a c b=>by
 obtain⟨i,hi⟩:=zB.1 c;have hm:=ol D.rq 0 i a hi b;rw[<-h.sim.wai] at hm;exact(h.ok.req _ hm).2.2.2.1
theorem nW {k:K4}(h:bP k):bP k.blk:=by
 obtain⟨⟨a,b⟩,⟨c,d⟩⟩:=h;unfold K4.blk
 exact⟨⟨by dsimp only; omega,by dsimp only; omega⟩,⟨by dsimp only; omega,by dsimp only; omega⟩⟩
theorem cF.lens (h:cF F D n):D.jb.length<=12/\D.en.length<=2000/\aY D.en<=2000/\D.wk<=4/\D.wt<=50/\1<=D.ch/\D.ch<=8/\D.ca<=2000:=by
 have m:=h.sim.jlen;have o:=h.ok.linLe;have p:=h.ok.wq;have q:=h.ok.q;have r:=fls_len F;have s:=h.ok.wn;obtain⟨k,l⟩:=h.sim.elen;have u:=h.ok.byt;have v:=h.ok.rm
 have w:F.tiles.length<=aA F.tiles:=by
  have:=f5 F.tiles fun t b=>by
   obtain⟨a,e⟩:=h.ok.til t b;rw[e];exact(h.ok.hi.bod F.ver aD t.k a).1
  omega
 have c:=h.sim.wk;have d:=h.sim.wt;have f:=h.sim.ch;have g:=h.sim.ca;have i:=h.ok.wt;have j:=h.ok.ch
 exact⟨by omega,by omega,by omega,by omega,by omega,by omega,by omega,by omega⟩
end
theorem built165 (l z x y p:Int):prog.built 165 [(0,.agg #[l,z,x,y]),(1,.int .i64 (-1)),(2,.int .i64 p)]=some (Jb.a ⟨⟨l,z,x,y⟩,-1,p,0,0⟩):=by kernel_rfl
theorem bJb (l z x y u:Int)(ev:Operand->Value)(o:Oper)(p q a:Operand)(f:o.op=.build 165 #[(0,p),(1,q),(2,a)])(b:ev p=.agg #[l,z,x,y])(c:ev q=.int .i64 (-1))(d:ev a=.int .i64 u)(w:World):(execOp ev o).run prog w=.ok (.value (.agg (Jb.a ⟨⟨l,z,x,y⟩,-1,u,0,0⟩))) w:=by
 have e:=run_build (P:=prog) w 165 #[(0,.agg #[l,z,x,y]),(1,.int .i64 (-1)),(2,.int .i64 u)] _ (built165 l z x y u);unfold execOp;simp[f,b,c,d,e]
theorem stMid (ev:Operand->Value)(o:Oper)(x y:Operand)(a:TypeId)(c:o.op=.store a x y)(g off:Nat)(cs:Array Value)(e:ev x=.pointer (some ⟨g,off,none⟩))(hy:ev y=.agg cs)(w w1:World)(d:w.there g off cs.size)(hi:(prog.info? a).map (·.size)=some cs.size)(b:cs.all (·.oneCell')=true)(hw:w.setCells g off cs.toList=w1):(execOp ev o).run prog w=.ok .skip w1:=by
 subst hw;have:=run_storeAt_mid (P:=prog) w g off a cs d hi b;unfold execOp;simp only[c,e,hy];simp[this]
def PtP (w:World)(fb:Nat)(X:RV)(bs:List bK)(ca cnt:Nat)(rq:List Rq)(jb:List Jb)(en:List En)(i:Nat)(j:Jb)(e:Ending)(w':World):Prop:=
 ∃rv jv' ev',e=.returned rv/\ah bE 103 w' rv (iC bs j 0 rq)/\(∀g,rv.ownBlock=some g->w.heap.size<=g) /\
  aP w fb X w' { X with ct:=((ptJ (fP bs j rq) (layN bs ca j.b j.rd.toNat (cnt,en) 4).1 jb i j.b).1:Int),jv:=jv',ev:=ev' } (fP bs j rq) (ptJ (fP bs j rq) (layN bs ca j.b j.rd.toNat (cnt,en) 4).1 jb i j.b).2 (layN bs ca j.b j.rd.toNat (cnt,en) 4).2
section
variable {w:World}{fb:Nat}{X:RV}{keep:Int}{bv pv:Value}{SL:List cA}{bs:List bK}{PI:List Int}
theorem painted_any (i:Nat)(a l d f r o m:Int)(rd ca cnt:Nat)(rq:List Rq)(jb:List Jb)(en:List En)(cz:aF w fb X)(hm:cE w X rq jb en)(df:X.ca=ca)(dg:X.ct=cnt)(eI:cnt<=100000000)(cy:eV w X.sb keep bv pv SL bs PI)(dF:ke bs)(bI:rd<=bs.length)(dI:jb[i]?=some ⟨⟨a,l,d,f⟩,r,o,(rd:Int),m⟩)(ee:bP ⟨a,l,d,f⟩)
  (cv:∀a2∈rq,bP a2.k) (cb:∀a2∈rq,a2.done=false->dy a2.k) (eL:rq.length<=10000000) (eK:jb.length<=1000000) (eJ:en.length<=50000) (eH:aY en<=500000) :
  Calls prog 93 #[some fb,i] w fun e w'=>PtP w fb X bs ca cnt rq jb en i ⟨⟨a,l,d,f⟩,r,o,(rd:Int),m⟩ e w':=by
 have c1:i<jb.length:=(zX.1 dI).1
 have ed:(i:Int)<jb.length:=by omega
 obtain⟨aw,ay,ci,b9⟩:=hm.jb.blkAt (by omega)
 have eD:aw<w.heap.size:=hm.jb.lt (by rw[b9]; rfl)
 have cZ:w.rangeAt aw (ay+i*8) #[.int .i64 a,.int .i64 l,.int .i64 d,.int .i64 f,.int .i64 r,.int .i64 o,.int .i64 (rd:Int),.int .i64 m].toList:=by
  obtain⟨dN,dW,e,_,_,aC⟩:=hm.jb.at
  obtain⟨eu,d0,cO,ec,cH⟩:=aC (by omega)
  rw[b9,cO] at e;cases e;exact bL.jb cH dI
 have d8:w.cell? ⟨fb,10,none⟩=some (.slice (some ⟨aw,ay,none⟩) jb.length ci):=by rw[<-b9]; exact aF.c cz 10 rfl
 obtain⟨⟨el,em⟩,⟨eo,ep⟩⟩:=ee;dsimp only at el em eo ep;have ab:=zZ w (.cells #[a,l,d,f,r,o,(rd:Int),m] 165);have K:=aj w (.cells #[a,l,d,f,r,o,(rd:Int),m] 165);have dd:=(aP.refl cz hm).on K
 have et:Hid (aP w fb X (w.alloc (.cells #[a,l,d,f,r,o,(rd:Int),m] 165)) X (gB bs ⟨⟨a,l,d,f⟩,r,o,(rd:Int),m⟩ rq (0)) jb en/\ah bE 103 (w.alloc (.cells #[a,l,d,f,r,o,(rd:Int),m] 165)) (Value.slice none 0 0) (iC bs ⟨⟨a,l,d,f⟩,r,o,(rd:Int),m⟩ 0 (rq.take (0)))/\(∀g,((Value.slice none 0 0)).ownBlock=some g->w.heap.size<=g)/\(w.alloc (.cells #[a,l,d,f,r,o,(rd:Int),m] 165)).heap[w.heap.size]?=some (.cells #[a,l,d,f,r,o,(rd:Int),m] 165)):=⟨by rw[midQ_zero]; exact dd,by simpa[iC] using aU,fun g ex=>by simp[Value.ownBlock] at ex,ab⟩
 have a9:=ae cz;have a0:=ae hm;have bM:=ae cy;have a4:=ae dF;have c7:=ae cv;have d5:=ae cb;have d3:=ae df;have d4:=ae dg;have bY:=ae b9;have d1:=ae kB;have d7:=ae jL;clear cz hm cy dF cv cb ab K dd df dg b9;go_enter func93,ntmps93
 go_wp2_with (refine bU 165 #[a,l,d,f,r,o,(rd:Int),m] underlying165 rfl (fu ⟨⟨a,l,d,f⟩,r,o,(rd:Int),m⟩) aw (ay+i*8) cZ rfl _ rfl rfl ?_)
 clear d8 cZ
 go_loopw [6,7,8,9,10,11,12] (fun dO a2 _ _ _ _ _ wr=>∃k:Nat,k<=rq.length/\a2=.int .i64 k/\Hid (aP w fb X wr X (gB bs ⟨⟨a,l,d,f⟩,r,o,(rd:Int),m⟩ rq (k)) jb en/\ah bE 103 wr dO (iC bs ⟨⟨a,l,d,f⟩,r,o,(rd:Int),m⟩ 0 (rq.take (k)))/\(∀g,(dO).ownBlock=some g->w.heap.size<=g)/\wr.heap[w.heap.size]?=some (.cells #[a,l,d,f,r,o,(rd:Int),m] 165))) (fun _ a2 _ _ _ _ _ _=>rq.length-(intOf a2).toNat)
 ·exact⟨0,by omega,rfl,et⟩
 obtain⟨k,eQ,rfl,bz⟩:=hrel;obtain⟨E,aB,av,ac⟩:=aa bz;have bb:wr.cell? ⟨fb,9,none⟩=some X.rv:=aF.c E.blk 9 rfl;obtain⟨eR,eB,eS,cu⟩:=E.mem.rq.sl
 have ej:eB=rq.length:=by
  obtain⟨dN,cap,e,_⟩:=E.mem.rq.at;rw[cu,fX] at e
  cases e; rfl
 rw[cu,ej] at bb
 by_cases bF:k<rq.length
 ·have cs:(k:Int)<rq.length:=by omega
  obtain⟨b,off,cap,bK⟩:=E.mem.rq.blkAt (by rw[fX]; omega)
  rw[fX] at bK;obtain⟨⟨⟨y,z,s,v⟩,L,R,ax⟩,aD⟩:∃t,rq[k]?=some t:=⟨_,zQ bF⟩;have cv:=aa c7 _ (zR aD);have dU:=ae (aa d5 _ (zR aD));obtain⟨⟨dQ,dR⟩,⟨dS,dT⟩⟩:=cv;dsimp only at dQ dR dS dT;have aK:=(lh (bs:=bs) (j:=⟨⟨a,l,d,f⟩,r,o,(rd:Int),m⟩) bF).trans aD
  have a3:wr.rangeAt b (off+k*7) (#[y,z,s,v,L,R,ax]:Array Value).toList:=by
   obtain⟨dN,dW,e,_,_,aC⟩:=E.mem.rq.at
   obtain⟨eu,d0,cO,ec,cH⟩:=aC (by rw[fX]; omega)
   rw[bK,cO,fX] at e;cases e;exact bL.rq cH aK
  have dX:b<wr.heap.size:=E.mem.rq.lt (by rw[bK]; rfl)
  clear bb cu
  have bb:wr.cell? ⟨fb,9,none⟩=some (.slice (some ⟨b,off,none⟩) rq.length cap):=by rw[<-bK]; exact aF.c E.blk 9 rfl
  have a5:=ae bK;have c4:=ae dX;have ab:=zZ wr (.cells #[y,z,s,v,L,R,ax] 158);have K:=aj wr (.cells #[y,z,s,v,L,R,ax] 158);have eF:w.heap.size<wr.heap.size:=an ac;have G:=E.on K;have aT:=ag ac K;have dH:∀O,Below (wr.alloc (.cells #[y,z,s,v,L,R,ax] 158)).heap.size (wr.alloc (.cells #[y,z,s,v,L,R,ax] 158)) O->O.rangeAt wr.heap.size 0 (#[y,z,s,v]:Array Value).toList:=fun O h=>dV (ao (ag ab h)) rfl;have dG:∀O,Below (wr.alloc (.cells #[y,z,s,v,L,R,ax] 158)).heap.size (wr.alloc (.cells #[y,z,s,v,L,R,ax] 158)) O->O.rangeAt w.heap.size 0 (#[a,l,d,f]:Array Value).toList:=fun O h=>dV (ao (ag aT h)) rfl;have dr:=fun O=>aa d1 y z s v O ⟨dQ,dR⟩ ⟨dS,dT⟩;have dB:=fun O=>aa d7 y z (s-s%2) (v-v%2) a l d f O;have c8:=ae (And.intro G (And.intro (aB.on K) (And.intro ab (And.intro aT av))));clear E aB av ac aK ab K G aT bz bK
  go_wp2_with (refine bU 158 #[y,z,s,v,L,R,ax] underlying158 rfl (sz158 ⟨⟨y,z,s,v⟩,L,R,ax⟩) b (off+k*7) a3 rfl _ rfl rfl ?_)
  refine aM (by kernel_rfl) (by kernel_rfl) ?_
  refine bd wr.heap.size 0 ?_;refine vK wr.heap.size 0 dH ?_
  refine vC dr ?_;refine bd w.heap.size 0 ?_;refine vK w.heap.size 0 dG ?_
  refine vC dB ?_;refine vA (.bool (decide ((⟨y,z,s-s%2,v-v%2⟩:K4)=⟨a,l,d,f⟩))) ?_;refine zq ?_;intro U bw;obtain⟨G,bV,ab,aT,av⟩:=aa c8;have A:=G.on bw;have H:=bV.on bw;have aI:=ag ab bw;have I:=ag aT bw;have bx:U.cell? ⟨wr.heap.size,6,none⟩=some (.bool ax):=(af aI 6).trans rfl;clear dH dG dr dB c8 G bV ab aT a3 bb
  have skip:svd bs ⟨⟨a,l,d,f⟩,r,o,(rd:Int),m⟩ ⟨⟨y,z,s,v⟩,L,R,ax⟩=false->∀O,Below U.heap.size U O->aP w fb X O X (gB bs ⟨⟨a,l,d,f⟩,r,o,(rd:Int),m⟩ rq (k+1)) jb en/\ah bE 103 O u6 (iC bs ⟨⟨a,l,d,f⟩,r,o,(rd:Int),m⟩ 0 (rq.take (k+1)))/\(∀g,(u6).ownBlock=some g->w.heap.size<=g)/\O.heap[w.heap.size]?=some (.cells #[a,l,d,f,r,o,(rd:Int),m] 165):=fun dJ O cS=>by
   refine⟨?_,?_,av,ag I cS⟩
   ·rw[midQ_no aD dJ]; exact A.on cS
   rw[ptR_no aD dJ]; exact H.on cS
  have cC:=ae skip
  cases ax with
  | true=>
   have ap:=ae (skip rfl U bu);clear skip cC A H aI I av bw
   go_wp2
   go_roundw
   ·exact⟨k+1,by omega,by go_num,ap⟩
   simp[intOf]; omega
  | false=>
   by_cases cq:(⟨y,z,s-s%2,v-v%2⟩:K4)=⟨a,l,d,f⟩
   ·have bD:decide ((⟨y,z,s-s%2,v-v%2⟩:K4)=⟨a,l,d,f⟩)=true:=by simp[cq]
    have bQ:decide ((⟨y,z,s,v⟩:K4).blk=⟨a,l,d,f⟩)=true:=bD;have bC:=ae (aa dU rfl);have b5:=A.rst (aa a9) (aa a0) (aa bM);have ch:=fH (rd:Int) y z s v A.blk b5 (aa a4);have dP:U.rangeAt wr.heap.size 0 (#[y,z,s,v]:Array Value).toList:=dV (ao aI) rfl;have cT:U.cell? ⟨w.heap.size,6,none⟩=some (.int .i64 (rd:Int)):=(af I 6).trans rfl
    have dm:svd bs ⟨⟨a,l,d,f⟩,r,o,(rd:Int),m⟩ ⟨⟨y,z,s,v⟩,L,R,false⟩=(decide ((fB bs bs.length ⟨y,z,s,v⟩:Int)<=(rd:Int)) || decide (L<=(rd:Int))):=by
     unfold svd;dsimp only
     rw[bQ]; rfl
    have bh:=ae dm;have a8:=ae (And.intro A (And.intro H (And.intro aI (And.intro I av))));clear skip A H aI I av bw b5 cq bQ dm;simp only[bD]
    go_wp2_with (refine vM dP rfl _ rfl rfl ?_)
    refine ch.mono ?_;rintro e F ⟨rfl,al⟩;obtain⟨A,H,aI,I,av⟩:=aa a8;have eO:F.cell? ⟨wr.heap.size,4,none⟩=some (.int .i64 L):=(af (ag aI al) 4).trans rfl;have dK:F.cell? ⟨w.heap.size,6,none⟩=some (.int .i64 (rd:Int)):=(af (ag I al) 6).trans rfl;have aN:=ae (And.intro (A.on al) (And.intro (H.on al) (And.intro (ag aI al) (And.intro (ag I al) av))));have d2:=ae al;clear A H aI I av al a8 ch dP cT bx bD;obtain⟨LS,a7⟩:∃n:Int,((fB bs bs.length ⟨y,z,s,v⟩:Nat):Int)=n:=⟨_,rfl⟩;rw[a7] at bh ⊢
    by_cases aO:LS<=(rd:Int)
    ·have aL:decide (LS<=(rd:Int))=true:=zU aO
     have b0:Hid (svd bs ⟨⟨a,l,d,f⟩,r,o,(rd:Int),m⟩ ⟨⟨y,z,s,v⟩,L,R,false⟩=true):=by show _=_; rw[aa bh,aL]; rfl
     clear a7 bh aO;simp only[aL];have bo:=lZ (bs:=bs) (j:=⟨⟨a,l,d,f⟩,r,o,(rd:Int),m⟩) aD
     rw[show svF bs ⟨⟨a,l,d,f⟩,r,o,(rd:Int),m⟩ ⟨⟨y,z,s,v⟩,L,R,false⟩=⟨⟨y,z,s,v⟩,L,R,true⟩ by unfold svF; rw[aa b0]; rfl] at bo
     have br:=lO (bs:=bs) (j:=⟨⟨a,l,d,f⟩,r,o,(rd:Int),m⟩) aD
     rw[show svR bs ⟨⟨a,l,d,f⟩,r,o,(rd:Int),m⟩ k ⟨⟨y,z,s,v⟩,L,R,false⟩=[⟨k,200,cg (dk bs rd) ⟨y,z,s,v⟩,du ⟨y,z,s,v⟩ (fB bs rd ⟨y,z,s,v⟩)⟩] by unfold svR; rw[aa b0]; rfl] at br
     obtain⟨D,V,b4,P,bR⟩:=aa aN;have ak:=D.mem.rq;rw[aa a5] at ak;have aK:=(lh (bs:=bs) (j:=⟨⟨a,l,d,f⟩,r,o,(rd:Int),m⟩) bF).trans aD;obtain⟨b2,a1⟩:=ak.cellF aK (j:=6) (u:=.bool false) rfl;have bx:F.cell? ⟨b,off+k*7+6,none⟩=some (.bool false):=b2;have a1:F.frozen? ⟨b,off+k*7+6,none⟩=false:=a1;obtain⟨J,aX⟩:∃J,F.setCell ⟨b,off+k*7+6,none⟩ (.bool true)=J:=⟨_,rfl⟩
     have bp:=ak.setF aK (j:=6) (x:=.bool true) (by decide) (Rq.enc_done _ true)
     rw[show off+k*rRq.wid+6=off+k*7+6 from rfl,aX,bo] at bp
     have bl:X.rv.ownBlock=some b:=by rw[aa a5]; rfl
     have az:aE (fun q=>X.rv.ownBlock=some q) F J:=aX▸(aE.rfl' _ _).setCell (p:=⟨b,off+k*7+6,none⟩) _ (fun _=>bl)
     have bi:fQ (fun q=>X.rv.ownBlock=some q) F [158]:=fun q Y=>by
      obtain⟨c,aC⟩:=D.mem.rq.ty Y
      exact⟨_,_,aC,by simp⟩
     have M:=D.trans (D.mem.rin D.blk (by rw[aa a5]; exact bp) az)
     have bb:F.cell? ⟨fb,9,none⟩=some (.slice (some ⟨b,off,none⟩) rq.length cap):=by rw[<-aa a5]; exact aF.c D.blk 9 rfl
     have ad:=bJ P az bi (by decide)
     have b8:b≠wr.heap.size:=by have:=aa c4; omega
     have aq:=aQ b4 az (fun q=>b8 (by rw[bl] at q; exact zu q))
     have aA:=V.frmT az bi (by decide)
     have bn:=M.rst (aa a9) (aa a0) (aa bM);have cc:=mu rd y z s v M.blk bn (aa a4) bI (aa bC);have cf:=ae (fun(O:World) (h:Below J.heap.size J O)=>kX rd y z s v (ag M.blk h) (bn.on h) (aa a4) bI (aa bC));have cj:J.rangeAt wr.heap.size 0 (#[y,z,s,v]:Array Value).toList:=dV (ao aq) rfl;have cV:J.cell? ⟨w.heap.size,6,none⟩=some (.int .i64 (rd:Int)):=(af ad 6).trans rfl;have cd:=ae (And.intro M (And.intro aA (And.intro aq (And.intro ad bR))));have aS:=ae br;have cD:=ae aX;have dY:(k:Int)<rq.length:=cs;clear bo br D V b4 P bR ak aK b2 bp az bi M ad aq aA bn aN aX bl b8
     go_wp2_with (first|refine cU J (stB _ _ _ _ rfl b (off+k*7+6) true (by simp[go_sem]) (by simp[go_sem]) F J bx a1 (aa cD)) rfl ?_|refine vM cj rfl _ rfl rfl ?_)
     refine cc.mono ?_;rintro e bB ⟨rfl,ai⟩;have b1:=aa cf bB ai;obtain⟨M,aA,aq,ad,bS⟩:=aa cd;have ck:bB.rangeAt wr.heap.size 0 (#[y,z,s,v]:Array Value).toList:=dV (ao (ag aq ai)) rfl;have cW:bB.cell? ⟨w.heap.size,6,none⟩=some (.int .i64 (rd:Int)):=(af (ag ad ai) 6).trans rfl;have ce:=ae (And.intro (M.on ai) (And.intro (aA.on ai) (And.intro (ag ad ai) bS)));clear M aA aq ad bS cd cc cf ai bb bx a1 cj cV;generalize cg (dk bs rd) ⟨y,z,s,v⟩=B at aS ⊢
     go_wp2_with (refine vM ck rfl _ rfl rfl ?_)
     refine b1.mono ?_;rintro e Z ⟨rfl,aW⟩;obtain⟨b6,bT,b3,bk⟩:=aa ce;have W:=b6.on aW;have aR:=bT.on aW;have aG:=ag b3 aW;clear b6 bT b3 ce b1 aW ck cW;generalize du ⟨y,z,s,v⟩ (fB bs rd ⟨y,z,s,v⟩)=T at aS ⊢;have b7:=aZ bE 103 Z ⟨k,200,B,T⟩ #[k,(200:Int),B,T] rfl;have K:=aj Z (.cells #[k,(200:Int),B,T] 103);have bf:=aR.on K;have bH:=oJ bs ⟨⟨a,l,d,f⟩,r,o,(rd:Int),m⟩ (rq.take k) 0;rw[zD] at bH
     obtain⟨cn,N,cY,bA,cl,cm⟩:=apRep bf b7 (by simp only[zT]; omega)
     rw[<-aa aS] at bA;have G:=W.on K;have Q:aE (fun q=>u6.ownBlock=some q) (Z.alloc (.cells #[k,(200:Int),B,T] 103)) N:=(aE.rfl' _ _).grown cl (fun q Y _=>Y)
     have ar:fQ (fun q=>u6.ownBlock=some q) (Z.alloc (.cells #[k,(200:Int),B,T] 103)) [103]:=fun q Y=>by
      obtain⟨c,aC⟩:=bf.ty Y
      exact⟨_,_,aC,by simp⟩
     have dZ:=W.frm.size
     have ap:Hid (aP w fb X N X (gB bs ⟨⟨a,l,d,f⟩,r,o,(rd:Int),m⟩ rq (k+1)) jb en/\ah bE 103 N cn (iC bs ⟨⟨a,l,d,f⟩,r,o,(rd:Int),m⟩ 0 (rq.take (k+1)))/\(∀g,(cn).ownBlock=some g->w.heap.size<=g)/\N.heap[w.heap.size]?=some (.cells #[a,l,d,f,r,o,(rd:Int),m] 165)):=by
      refine⟨⟨bJ G.blk Q ar (by decide),⟨G.mem.rq.frmT Q ar (by decide),G.mem.jb.frmT Q ar (by decide),G.mem.en.frmT Q ar (by decide)⟩,G.frm.then Q (fun q Y e=>by have:=bk q e; omega),G.new,G.sb⟩,bA,bN bk cm (by simp; omega),bJ (ag aG K) Q ar (by decide)⟩
     clear b7 K bf bH bA cl cm G Q ar W aR aG bk aS
     go_wp2_with (first|refine cP _ _ (gz k 200 B T _ _ _ rfl rfl _) rfl ?_|(at_builtin; refine fS 89 cY rfl _ _ rfl rfl rfl rfl ?_))
     go_roundw
     ·exact⟨k+1,by omega,by go_num,ap⟩
     simp[intOf]; omega
    have aL:decide (LS<=(rd:Int))=false:=zG aO
    by_cases Y:L<=(rd:Int)
    ·have b0:Hid (svd bs ⟨⟨a,l,d,f⟩,r,o,(rd:Int),m⟩ ⟨⟨y,z,s,v⟩,L,R,false⟩=true):=by show _=_; rw[aa bh,zU Y]; simp
     clear a7 bh aO;simp only[aL];have bo:=lZ (bs:=bs) (j:=⟨⟨a,l,d,f⟩,r,o,(rd:Int),m⟩) aD
     rw[show svF bs ⟨⟨a,l,d,f⟩,r,o,(rd:Int),m⟩ ⟨⟨y,z,s,v⟩,L,R,false⟩=⟨⟨y,z,s,v⟩,L,R,true⟩ by unfold svF; rw[aa b0]; rfl] at bo
     have br:=lO (bs:=bs) (j:=⟨⟨a,l,d,f⟩,r,o,(rd:Int),m⟩) aD
     rw[show svR bs ⟨⟨a,l,d,f⟩,r,o,(rd:Int),m⟩ k ⟨⟨y,z,s,v⟩,L,R,false⟩=[⟨k,200,cg (dk bs rd) ⟨y,z,s,v⟩,du ⟨y,z,s,v⟩ (fB bs rd ⟨y,z,s,v⟩)⟩] by unfold svR; rw[aa b0]; rfl] at br
     obtain⟨D,V,b4,P,bR⟩:=aa aN;have ak:=D.mem.rq;rw[aa a5] at ak;have aK:=(lh (bs:=bs) (j:=⟨⟨a,l,d,f⟩,r,o,(rd:Int),m⟩) bF).trans aD;obtain⟨b2,a1⟩:=ak.cellF aK (j:=6) (u:=.bool false) rfl;have bx:F.cell? ⟨b,off+k*7+6,none⟩=some (.bool false):=b2;have a1:F.frozen? ⟨b,off+k*7+6,none⟩=false:=a1;obtain⟨J,aX⟩:∃J,F.setCell ⟨b,off+k*7+6,none⟩ (.bool true)=J:=⟨_,rfl⟩
     have bp:=ak.setF aK (j:=6) (x:=.bool true) (by decide) (Rq.enc_done _ true)
     rw[show off+k*rRq.wid+6=off+k*7+6 from rfl,aX,bo] at bp
     have bl:X.rv.ownBlock=some b:=by rw[aa a5]; rfl
     have az:aE (fun q=>X.rv.ownBlock=some q) F J:=aX▸(aE.rfl' _ _).setCell (p:=⟨b,off+k*7+6,none⟩) _ (fun _=>bl)
     have bi:fQ (fun q=>X.rv.ownBlock=some q) F [158]:=fun q Y=>by
      obtain⟨c,aC⟩:=D.mem.rq.ty Y
      exact⟨_,_,aC,by simp⟩
     have M:=D.trans (D.mem.rin D.blk (by rw[aa a5]; exact bp) az)
     have bb:F.cell? ⟨fb,9,none⟩=some (.slice (some ⟨b,off,none⟩) rq.length cap):=by rw[<-aa a5]; exact aF.c D.blk 9 rfl
     have ad:=bJ P az bi (by decide)
     have b8:b≠wr.heap.size:=by have:=aa c4; omega
     have aq:=aQ b4 az (fun q=>b8 (by rw[bl] at q; exact zu q))
     have aA:=V.frmT az bi (by decide)
     have bn:=M.rst (aa a9) (aa a0) (aa bM);have cc:=mu rd y z s v M.blk bn (aa a4) bI (aa bC);have cf:=ae (fun(O:World) (h:Below J.heap.size J O)=>kX rd y z s v (ag M.blk h) (bn.on h) (aa a4) bI (aa bC));have cj:J.rangeAt wr.heap.size 0 (#[y,z,s,v]:Array Value).toList:=dV (ao aq) rfl;have cV:J.cell? ⟨w.heap.size,6,none⟩=some (.int .i64 (rd:Int)):=(af ad 6).trans rfl;have cd:=ae (And.intro M (And.intro aA (And.intro aq (And.intro ad bR))));have aS:=ae br;have cD:=ae aX;have dY:(k:Int)<rq.length:=cs;clear bo br D V b4 P bR ak aK b2 bp az bi M ad aq aA bn aN aX bl b8
     go_wp2_with (first|refine cU J (stB _ _ _ _ rfl b (off+k*7+6) true (by simp[go_sem]) (by simp[go_sem]) F J bx a1 (aa cD)) rfl ?_|refine vM cj rfl _ rfl rfl ?_)
     refine cc.mono ?_;rintro e bB ⟨rfl,ai⟩;have b1:=aa cf bB ai;obtain⟨M,aA,aq,ad,bS⟩:=aa cd;have ck:bB.rangeAt wr.heap.size 0 (#[y,z,s,v]:Array Value).toList:=dV (ao (ag aq ai)) rfl;have cW:bB.cell? ⟨w.heap.size,6,none⟩=some (.int .i64 (rd:Int)):=(af (ag ad ai) 6).trans rfl;have ce:=ae (And.intro (M.on ai) (And.intro (aA.on ai) (And.intro (ag ad ai) bS)));clear M aA aq ad bS cd cc cf ai bb bx a1 cj cV;generalize cg (dk bs rd) ⟨y,z,s,v⟩=B at aS ⊢
     go_wp2_with (refine vM ck rfl _ rfl rfl ?_)
     refine b1.mono ?_;rintro e Z ⟨rfl,aW⟩;obtain⟨b6,bT,b3,bk⟩:=aa ce;have W:=b6.on aW;have aR:=bT.on aW;have aG:=ag b3 aW;clear b6 bT b3 ce b1 aW ck cW;generalize du ⟨y,z,s,v⟩ (fB bs rd ⟨y,z,s,v⟩)=T at aS ⊢;have b7:=aZ bE 103 Z ⟨k,200,B,T⟩ #[k,(200:Int),B,T] rfl;have K:=aj Z (.cells #[k,(200:Int),B,T] 103);have bf:=aR.on K;have bH:=oJ bs ⟨⟨a,l,d,f⟩,r,o,(rd:Int),m⟩ (rq.take k) 0;rw[zD] at bH
     obtain⟨cn,N,cY,bA,cl,cm⟩:=apRep bf b7 (by simp only[zT]; omega)
     rw[<-aa aS] at bA;have G:=W.on K;have Q:aE (fun q=>u6.ownBlock=some q) (Z.alloc (.cells #[k,(200:Int),B,T] 103)) N:=(aE.rfl' _ _).grown cl (fun q Y _=>Y)
     have ar:fQ (fun q=>u6.ownBlock=some q) (Z.alloc (.cells #[k,(200:Int),B,T] 103)) [103]:=fun q Y=>by
      obtain⟨c,aC⟩:=bf.ty Y
      exact⟨_,_,aC,by simp⟩
     have dZ:=W.frm.size
     have ap:Hid (aP w fb X N X (gB bs ⟨⟨a,l,d,f⟩,r,o,(rd:Int),m⟩ rq (k+1)) jb en/\ah bE 103 N cn (iC bs ⟨⟨a,l,d,f⟩,r,o,(rd:Int),m⟩ 0 (rq.take (k+1)))/\(∀g,(cn).ownBlock=some g->w.heap.size<=g)/\N.heap[w.heap.size]?=some (.cells #[a,l,d,f,r,o,(rd:Int),m] 165)):=by
      refine⟨⟨bJ G.blk Q ar (by decide),⟨G.mem.rq.frmT Q ar (by decide),G.mem.jb.frmT Q ar (by decide),G.mem.en.frmT Q ar (by decide)⟩,G.frm.then Q (fun q Y e=>by have:=bk q e; omega),G.new,G.sb⟩,bA,bN bk cm (by simp; omega),bJ (ag aG K) Q ar (by decide)⟩
     clear b7 K bf bH bA cl cm G Q ar W aR aG bk aS
     go_wp2_with (first|refine cP _ _ (gz k 200 B T _ _ _ rfl rfl _) rfl ?_|(at_builtin; refine fS 89 cY rfl _ _ rfl rfl rfl rfl ?_))
     go_roundw
     ·exact⟨k+1,by omega,by go_num,ap⟩
     simp[intOf]; omega
    have ap:=ae (aa cC (by rw[aa bh,aL,zG Y]; rfl) F (aa d2))
    clear a7 bh aO;simp only[aL]
    go_wp2
    go_roundw
    ·exact⟨k+1,by omega,by go_num,ap⟩
    simp[intOf]; omega
   have bD:decide ((⟨y,z,s-s%2,v-v%2⟩:K4)=⟨a,l,d,f⟩)=false:=by simp[cq]
   have bQ:decide ((⟨y,z,s,v⟩:K4).blk=⟨a,l,d,f⟩)=false:=bD
   have ap:=ae (skip (by unfold svd; dsimp only; rw[bQ]; rfl) U bu)
   clear skip cC A H aI I av bw cq bQ;simp only[bD]
   go_wp2
   go_roundw
   ·exact⟨k+1,by omega,by go_num,ap⟩
   simp[intOf]; omega
 have cs:k=rq.length:=by omega
 subst cs;rw[midQ_all] at E;rw[zx] at aB
 have es:Hid (∃ev':Value,aP w fb X wr { X with ct:=((layN bs ca ⟨a,l,d,f⟩ rd (cnt,en) (0)).1:Int),ev:=ev' } (fP bs ⟨⟨a,l,d,f⟩,r,o,(rd:Int),m⟩ rq) jb (layN bs ca ⟨a,l,d,f⟩ rd (cnt,en) (0)).2/\ah bE 103 wr u6 (iC bs ⟨⟨a,l,d,f⟩,r,o,(rd:Int),m⟩ 0 rq)/\wr.heap[w.heap.size]?=some (.cells #[a,l,d,f,r,o,(rd:Int),m] 165)):=⟨X.ev,by have eb:=E; rw[show({ X with ct:=((layN bs ca ⟨a,l,d,f⟩ rd (cnt,en) 0).1:Int),ev:=X.ev }:RV)=X by rw[show((layN bs ca ⟨a,l,d,f⟩ rd (cnt,en) 0).1:Int)=X.ct from(aa d4).symm]]; exact eb,aB,ac⟩
 have c5:=ae av;have eg:=aB.sl;obtain⟨be,bc,ba,rfl⟩:=eg;clear E aB av ac bz cu
 go_wp2
 go_loopw [13,14,15,16] (fun cX _ _ _ wr=>∃n:Nat,n<=4/\cX=.int .i64 n/\Hid (∃ev':Value,aP w fb X wr { X with ct:=((layN bs ca ⟨a,l,d,f⟩ rd (cnt,en) (n)).1:Int),ev:=ev' } (fP bs ⟨⟨a,l,d,f⟩,r,o,(rd:Int),m⟩ rq) jb (layN bs ca ⟨a,l,d,f⟩ rd (cnt,en) (n)).2/\ah bE 103 wr (.slice be bc ba) (iC bs ⟨⟨a,l,d,f⟩,r,o,(rd:Int),m⟩ 0 rq)/\wr.heap[w.heap.size]?=some (.cells #[a,l,d,f,r,o,(rd:Int),m] 165))) (fun cX _ _ _ _=>4-(intOf cX).toNat)
 ·exact⟨0,by omega,rfl,es⟩
 obtain⟨n,ey,rfl,bz⟩:=hrel;obtain⟨a6,E,aB,ac⟩:=aa bz;obtain⟨dq,eq,er⟩:=layN_le bs ca ⟨a,l,d,f⟩ rd (cnt,en) (aa a4) bI n;dsimp only at dq eq er
 by_cases bF:n<4
 ·have dj:(n:Int)<4:=by omega
  have a3:wr.rangeAt w.heap.size 0 (#[a,l,d,f]:Array Value).toList:=dV (ao ac) rfl;have ab:=zZ wr (.cells #[a,l,.int .i64 (d+(n:Int)%2),.int .i64 (f+(n:Int) / 2)] 39);have K:=aj wr (.cells #[a,l,.int .i64 (d+(n:Int)%2),.int .i64 (f+(n:Int) / 2)] 39);have dh:(wr.alloc (.cells #[a,l,.int .i64 (d+(n:Int)%2),.int .i64 (f+(n:Int) / 2)] 39)).rangeAt wr.heap.size 0 #[.int .i64 a,.int .i64 l,.int .i64 (d+(n:Int)%2),.int .i64 (f+(n:Int) / 2)].toList:=ao ab;have dt:=ae (And.intro (E.on K) (And.intro (aB.on K) (And.intro (ag ac K) ab)));have dz:=bq a l (d+(n:Int)%2) (f+(n:Int) / 2) (wr.alloc (.cells #[a,l,.int .i64 (d+(n:Int)%2),.int .i64 (f+(n:Int) / 2)] 39))
  have eM:0<=(n:Int)%2/\(n:Int)%2<=1:=by omega
  have eN:0<=(n:Int) / 2/\(n:Int) / 2<=1:=by omega
  clear E aB ac bz ab K
  go_wp2_with (first|refine vM a3 rfl _ rfl rfl ?_|refine vM dh rfl _ rfl rfl ?_)
  refine dz.mono ?_;rintro e U ⟨rfl,aJ⟩;obtain⟨G,bV,aT,ab⟩:=aa dt;have A:=G.on aJ;have H:=bV.on aJ;have I:=ag aT aJ;have bm:=ag ab aJ;clear G bV aT ab dt dz a3 dh aJ
  have bO:layN bs ca ⟨a,l,d,f⟩ rd (cnt,en) (n+1)=if keyErr a l (d+(n:Int)%2) (f+(n:Int) / 2)=0/\fB bs bs.length ⟨a,l,d+(n:Int)%2,f+(n:Int) / 2⟩<=rd then mG ca (layN bs ca ⟨a,l,d,f⟩ rd (cnt,en) n).1 (layN bs ca ⟨a,l,d,f⟩ rd (cnt,en) n).2 (dx bs rd ⟨a,l,d+(n:Int)%2,f+(n:Int) / 2⟩) else layN bs ca ⟨a,l,d,f⟩ rd (cnt,en) n:=rfl
  obtain⟨cA,cx⟩:∃cA,keyErr a l (d+(n:Int)%2) (f+(n:Int) / 2)=cA:=⟨_,rfl⟩;rw[cx] at bO ⊢
  by_cases cF:cA=0
  ·subst cF
   have cb:=kerr_ok cx;have b5:=A.rst (aa a9) (aa a0) (aa bM);have ch:=fH (rd:Int) a l (d+(n:Int)%2) (f+(n:Int) / 2) A.blk b5 (aa a4);have dL:U.rangeAt wr.heap.size 0 #[.int .i64 a,.int .i64 l,.int .i64 (d+(n:Int)%2),.int .i64 (f+(n:Int) / 2)].toList:=ao bm;have cT:U.cell? ⟨w.heap.size,6,none⟩=some (.int .i64 (rd:Int)):=(af I 6).trans rfl;have a8:=ae (And.intro A (And.intro H (And.intro I bm)));have bC:=ae cb;have bZ:=ae bO;clear A H I bm b5 cx cb bO
   go_wp2_with (refine vM dL rfl _ rfl rfl ?_)
   refine ch.mono ?_;rintro e F ⟨rfl,al⟩;obtain⟨A,H,I,bm⟩:=aa a8;have D:=A.on al;have V:=H.on al;have P:=ag I al;have cG:=ag bm al;clear A H I bm a8 ch al dL cT;obtain⟨LS,a7⟩:∃eC:Nat,fB bs bs.length ⟨a,l,d+(n:Int)%2,f+(n:Int) / 2⟩=eC:=⟨_,rfl⟩;rw[a7] at bZ ⊢
   by_cases aO:LS<=rd
   focus
    have aL:decide ((LS:Int)<=(rd:Int))=true:=zU (by omega)
    have db:=D.rst (aa a9) (aa a0) (aa bM)
    have dA:=keep_any rd a l (d+(n:Int)%2) (f+(n:Int) / 2) ca (layN bs ca ⟨a,l,d,f⟩ rd (cnt,en) n).1 (layN bs ca ⟨a,l,d,f⟩ rd (cnt,en) n).2 D.blk (aa d3) rfl (by omega) db (aa a4) bI (aa bC) D.mem.en (by omega) (by omega)
    have dM:F.rangeAt wr.heap.size 0 #[.int .i64 a,.int .i64 l,.int .i64 (d+(n:Int)%2),.int .i64 (f+(n:Int) / 2)].toList:=ao cG;have dK:F.cell? ⟨w.heap.size,6,none⟩=some (.int .i64 (rd:Int)):=(af P 6).trans rfl;have aN:=ae (And.intro D (And.intro V P))
    have c0:Hid (layN bs ca ⟨a,l,d,f⟩ rd (cnt,en) (n+1)=mG ca (layN bs ca ⟨a,l,d,f⟩ rd (cnt,en) n).1 (layN bs ca ⟨a,l,d,f⟩ rd (cnt,en) n).2 (dx bs rd ⟨a,l,d+(n:Int)%2,f+(n:Int) / 2⟩)):=by show _=_; rw[aa bZ,zJ ⟨by first|trivial|rfl,aO⟩]
    clear D V P cG db a7 bZ aO;simp only[aL]
    go_wp2_with (refine vM dM rfl _ rfl rfl ?_)
    refine dA.mono ?_;rintro e J ⟨rfl,di⟩
    have ap:Hid (∃ev':Value,aP w fb X J { X with ct:=((layN bs ca ⟨a,l,d,f⟩ rd (cnt,en) (n+1)).1:Int),ev:=ev' } (fP bs ⟨⟨a,l,d,f⟩,r,o,(rd:Int),m⟩ rq) jb (layN bs ca ⟨a,l,d,f⟩ rd (cnt,en) (n+1)).2/\ah bE 103 J (.slice be bc ba) (iC bs ⟨⟨a,l,d,f⟩,r,o,(rd:Int),m⟩ 0 rq)/\J.heap[w.heap.size]?=some (.cells #[a,l,d,f,r,o,(rd:Int),m] 165)):=by
     obtain⟨D,V,P⟩:=aa aN;obtain⟨d9,M⟩:=D.mem.kp D.blk di;rw[aa c0];have eP:=D.mem.ty D.blk
     exact⟨d9,D.trans M,M.own D.blk D.mem V (by decide),aQ P M.frm (fun q=>by
      rcases q with q|q|q|q
      ·have:=an (aa a9); omega
      ·have:=(aa a0).rq.lt q; omega
      ·have:=(aa a0).jb.lt q; omega
      exact au D.mem.en P (by decide) _ q rfl)⟩
    clear di dA aN c0 dM dK
   rotate_left
   focus
    have aL:decide ((LS:Int)<=(rd:Int))=false:=zG (by omega)
    have ap:Hid (∃ev':Value,aP w fb X F { X with ct:=((layN bs ca ⟨a,l,d,f⟩ rd (cnt,en) (n+1)).1:Int),ev:=ev' } (fP bs ⟨⟨a,l,d,f⟩,r,o,(rd:Int),m⟩ rq) jb (layN bs ca ⟨a,l,d,f⟩ rd (cnt,en) (n+1)).2/\ah bE 103 F (.slice be bc ba) (iC bs ⟨⟨a,l,d,f⟩,r,o,(rd:Int),m⟩ 0 rq)/\F.heap[w.heap.size]?=some (.cells #[a,l,d,f,r,o,(rd:Int),m] 165)):=by
     rw[aa bZ,zK (fun q=>aO q.2)];exact⟨a6,D,V,P⟩
    clear D V P cG a7 bZ aO;simp only[aL]
   all_goals
    go_wp2
    go_roundw
    ·exact⟨n+1,by omega,by go_num,ap⟩
    simp[intOf]; omega
  have eG:(cA==0)=false:=by simpa using cF
  have ap:Hid (∃ev':Value,aP w fb X U { X with ct:=((layN bs ca ⟨a,l,d,f⟩ rd (cnt,en) (n+1)).1:Int),ev:=ev' } (fP bs ⟨⟨a,l,d,f⟩,r,o,(rd:Int),m⟩ rq) jb (layN bs ca ⟨a,l,d,f⟩ rd (cnt,en) (n+1)).2/\ah bE 103 U (.slice be bc ba) (iC bs ⟨⟨a,l,d,f⟩,r,o,(rd:Int),m⟩ 0 rq)/\U.heap[w.heap.size]?=some (.cells #[a,l,d,f,r,o,(rd:Int),m] 165)):=by
   rw[bO,zK (fun q=>cF q.1)];exact⟨a6,A,H,I⟩
  clear A H I bm bO cx
  go_wp2
  go_roundw
  ·exact⟨n+1,by omega,by go_num,ap⟩
  simp[intOf]; omega
 have dj:n=4:=by omega
 subst dj;clear ey bF bz;have cy:=E.rst (aa a9) (aa a0) (aa bM);have a3:wr.rangeAt w.heap.size 0 (#[a,l,d,f]:Array Value).toList:=dV (ao ac) rfl
 have cN:=fh fb _ (fP bs ⟨⟨a,l,d,f⟩,r,o,(rd:Int),m⟩ rq) a l d f false wr E.blk E.mem.rq.at (fun a2 ez=>by
  obtain⟨eA,ei,e⟩:=yH.1 ez;have:=aa c7 eA ei
  rw[<-e]; unfold svF; split<;>exact this) (by unfold fP; rw[zY]; omega)
 have ek:=ef (fP bs ⟨⟨a,l,d,f⟩,r,o,(rd:Int),m⟩ rq) ⟨a,l,d,f⟩ false
 have bH:(fP bs ⟨⟨a,l,d,f⟩,r,o,(rd:Int),m⟩ rq).length=rq.length:=by unfold fP; rw[zY]
 obtain⟨co,cR⟩:∃co,bg (fP bs ⟨⟨a,l,d,f⟩,r,o,(rd:Int),m⟩ rq) ⟨a,l,d,f⟩ false=co:=⟨_,rfl⟩;rw[cR] at cN ek;obtain⟨C,cQ⟩:∃C,(layN bs ca ⟨a,l,d,f⟩ rd (cnt,en) 4).1=C:=⟨_,rfl⟩;rw[cQ] at E dq;have dv:=ae cQ;have dw:=ae cR;have c6:=ae (And.intro E (And.intro aB ac));clear E aB ac cy cR cQ
 go_wp2_with (refine vM a3 rfl _ rfl rfl ?_)
 refine cN.mono ?_;rintro e U ⟨rfl,aJ⟩;obtain⟨dc,c2,ac⟩:=aa c6;have A:=dc.on aJ;have H:=c2.on aJ;have I:=ag ac aJ;clear dc c2 ac c6 cN aJ a3
 by_cases c3:0<co
 ·have eh:(0:Int)<co:=by omega
  have bW:ptJ (fP bs ⟨⟨a,l,d,f⟩,r,o,(rd:Int),m⟩ rq) C jb i ⟨a,l,d,f⟩=(C+1,jb.set i ⟨⟨a,l,d,f⟩,-1,(C:Int)+1,0,0⟩):=by unfold ptJ; rw[aa dw,zJ c3]
  have ew:U.cell? ⟨fb,7,none⟩=some (.int .i64 (C:Int)):=aF.c A.blk 7 rfl;have ea:=kr A.blk 7;obtain⟨F,cw⟩:∃F,U.setCell ⟨fb,7,none⟩ (.int .i64 ((C:Int)+1))=F:=⟨_,rfl⟩;have ak:=A.mem.ct A.blk ((C:Int)+1);rw[cw] at ak;have D:=A.trans ak
  have V:=ak.own A.blk A.mem H (by decide)
  have P:=aQ I (show aE (fun k=>k=fb) U F from cw▸(aE.rfl' _ _).setCell (p:=⟨fb,7,none⟩) _ (fun _=>rfl)) (by have:=an (aa a9); omega)
  have eE:IntKind.i64.wrap ((C:Int)+1)=(C:Int)+1:=bG _ (by omega)
  have aN:=ae (And.intro D (And.intro V P));have d6:=ae cw;have cB:=ae bW;clear ak D V P A H I cw bW
  go_wp2_with (refine cU F (kO _ _ _ _ rfl fb 7 ((C:Int)+1) rfl (by simp[go_sem]) U F ew ea (aa d6)) rfl ?_)
  refine z8 (S:=fun w'=>w'.cell? ⟨fb,10,none⟩=some (.slice (some ⟨aw,ay,none⟩) jb.length ci)/\w'.cell? ⟨fb,7,none⟩=some (.int .i64 ((C:Int)+1))/\w'.heap[w.heap.size]?=some (.cells #[a,l,d,f,r,o,(rd:Int),m] 165)) (by kernel_rfl) ?_
  change wpAnyH _ _ _ _ _ _ _ _ (World.drew _);obtain⟨D,V,P⟩:=aa aN;have cp:Below F.heap.size F (World.drew F):=⟨rfl,rfl,rfl,zz _,fun _ _=>rfl⟩;have W:=D.on cp;have aR:=V.on cp;have aG:=ag P cp;generalize World.drew F=Z at W aR aG ⊢;have cr:=W.mem.jb;rw[show({ X with ct:=(C:Int)+1,ev:=a6 }:RV).jv=X.jv from rfl,aa bY] at cr
  have E:Z.cell? ⟨fb,10,none⟩=some (.slice (some ⟨aw,ay,none⟩) jb.length ci)/\Z.cell? ⟨fb,7,none⟩=some (.int .i64 ((C:Int)+1))/\Z.heap[w.heap.size]?=some (.cells #[a,l,d,f,r,o,(rd:Int),m] 165):=⟨by rw[<-aa bY]; exact aF.c W.blk 10 rfl,aF.c W.blk 7 rfl,aG⟩
  have dn:Z.there aw (ay+i*8) ((Jb.a ⟨⟨a,l,d,f⟩,-1,(C:Int)+1,0,0⟩)).size:=cr.thereE c1;obtain⟨cJ,cI⟩:=cr.setE c1 ⟨⟨a,l,d,f⟩,-1,(C:Int)+1,0,0⟩;obtain⟨N,cK⟩:∃N,Z.setCells aw (ay+i*8) ((Jb.a ⟨⟨a,l,d,f⟩,-1,(C:Int)+1,0,0⟩)).toList=N:=⟨_,rfl⟩;rw[show Z.setCells aw (ay+i*jP.wid) (jP.enc ⟨⟨a,l,d,f⟩,-1,(C:Int)+1,0,0⟩)=N from cK] at cJ cI
  have Q:aE (fun k=>X.jv.ownBlock=some k) Z N:=(aE.rfl' _ _).grown cI (fun q Y _=>by rw[aa bY]; exact Y)
  have bX:=W.mem.jin W.blk (jb':=jb.set i ⟨⟨a,l,d,f⟩,-1,(C:Int)+1,0,0⟩) (by rw[show({ X with ct:=(C:Int)+1,ev:=a6 }:RV).jv=X.jv from rfl,aa bY]; exact cJ) Q
  have da:=aQ aG Q (fun q=>by have:=(aa a0).jb.lt q; omega)
  have de:N.cell? ⟨fb,10,none⟩=some (.slice (some ⟨aw,ay,none⟩) jb.length ci)/\N.cell? ⟨fb,7,none⟩=some (.int .i64 ((C:Int)+1))/\N.heap[w.heap.size]?=some (.cells #[a,l,d,f,r,o,(rd:Int),m] 165):=⟨by rw[<-aa bY]; exact aF.c bX.blk 10 rfl,aF.c bX.blk 7 rfl,da⟩
  have cM:Hid (PtP w fb X bs ca cnt rq jb en i ⟨⟨a,l,d,f⟩,r,o,(rd:Int),m⟩ (.returned (.slice be bc ba)) N):=by
   refine⟨.slice be bc ba,X.jv,a6,rfl,bX.own W.blk W.mem aR (by decide),aa c5,?_⟩
   have:=W.trans bX;show aP w fb X N { X with ct:=((ptJ (fP bs ⟨⟨a,l,d,f⟩,r,o,(rd:Int),m⟩ rq) (layN bs ca ⟨a,l,d,f⟩ rd (cnt,en) 4).1 jb i ⟨a,l,d,f⟩).1:Int),jv:=X.jv,ev:=a6 } (fP bs ⟨⟨a,l,d,f⟩,r,o,(rd:Int),m⟩ rq) (ptJ (fP bs ⟨⟨a,l,d,f⟩,r,o,(rd:Int),m⟩ rq) (layN bs ca ⟨a,l,d,f⟩ rd (cnt,en) 4).1 jb i ⟨a,l,d,f⟩).2 (layN bs ca ⟨a,l,d,f⟩ rd (cnt,en) 4).2;rw[show(layN bs ca ⟨a,l,d,f⟩ rd (cnt,en) 4).1=C from aa dv];rw[aa cB];exact this
  clear cJ cI Q bX da cr W aR aG cp D V P aN;refine am 0 rfl fb 0 E ?_;refine am 1 rfl fb 0 E ?_;refine am 2 rfl fb 10 E ?_
  refine aH 3 rfl (.slice (some ⟨aw,ay,none⟩) jb.length ci) E ?_ (hy:=fun w' bt=>by simp[go_sem,bt.1])
  refine aH 4 rfl (.int .i64 i) E ?_;refine am 5 rfl w.heap.size 0 E ?_;refine aH 6 rfl (.agg #[a,l,d,f]) E ?_ (hy:=fun w' bt=>jT _ _ _ 39 rfl _ rfl _ underlying39 rfl (bj _ _ _ _) w.heap.size 0 rfl _ (dV (ao bt.2.2) rfl));refine am 7 rfl fb 0 E ?_;refine am 8 rfl fb 0 E ?_;refine am 9 rfl fb 7 E ?_
  refine aH 10 rfl (.int .i64 ((C:Int)+1)) E ?_ (hy:=fun w' bt=>by simp[go_sem,bt.2.1])
  refine aH 11 rfl (.agg (Jb.a ⟨⟨a,l,d,f⟩,-1,(C:Int)+1,0,0⟩)) E ?_ (hy:=fun w' bt=>bJb _ _ _ _ _ _ _ _ _ _ rfl rfl rfl rfl w')
  refine am 12 rfl aw (ay+i*8) E ?_ (hy:=fun w' bt=>by simp[go_sem,ed])
  refine aV 13 ?_;refine cL 13 rfl rfl (N) (stMid _ _ _ _ 165 rfl aw (ay+i*8) (Jb.a ⟨⟨a,l,d,f⟩,-1,(C:Int)+1,0,0⟩) rfl rfl Z N dn (fu _) (one165 _) cK) (de) ?_;simp only[Act.put]
  refine zm (by kernel_rfl) ?_ _
  clear E de dn cK
  go_wp2
  go_ret;exact aa cM
 have eh:¬(0:Int)<co:=by omega
 have bW:ptJ (fP bs ⟨⟨a,l,d,f⟩,r,o,(rd:Int),m⟩ rq) C jb i ⟨a,l,d,f⟩=(C,jb.eraseIdx i):=by unfold ptJ; rw[aa dw,zK c3]
 have ds:=dropJob_any fb _ jb i U A.blk A.mem.jb (by omega)
 have a8:=ae (And.intro A H);have cB:=ae bW;clear A H I bW
 go_wp2_with fail
 refine ds.mono ?_;rintro e F ⟨rfl,⟨dp,dC,dD,dE⟩,c9⟩
 have cM:Hid (PtP w fb X bs ca cnt rq jb en i ⟨⟨a,l,d,f⟩,r,o,(rd:Int),m⟩ (.returned (.slice be bc ba)) F):=by
  obtain⟨A,H⟩:=aa a8;have dl:=A.mem.jv' A.blk dC dD dE c9
  refine⟨.slice be bc ba,dp,a6,rfl,dl.own A.blk A.mem H (by decide),aa c5,?_⟩
  have:=A.trans dl;show aP w fb X F { X with ct:=((ptJ (fP bs ⟨⟨a,l,d,f⟩,r,o,(rd:Int),m⟩ rq) (layN bs ca ⟨a,l,d,f⟩ rd (cnt,en) 4).1 jb i ⟨a,l,d,f⟩).1:Int),jv:=dp,ev:=a6 } (fP bs ⟨⟨a,l,d,f⟩,r,o,(rd:Int),m⟩ rq) (ptJ (fP bs ⟨⟨a,l,d,f⟩,r,o,(rd:Int),m⟩ rq) (layN bs ca ⟨a,l,d,f⟩ rd (cnt,en) 4).1 jb i ⟨a,l,d,f⟩).2 (layN bs ca ⟨a,l,d,f⟩ rd (cnt,en) 4).2;rw[show(layN bs ca ⟨a,l,d,f⟩ rd (cnt,en) 4).1=C from aa dv];rw[aa cB];exact this
 clear dC dD dE c9 ds a8
 go_wp2
 go_ret;exact aa cM
end
end Go.Proofs.YtpabpniaekldeaaGreatDoor
