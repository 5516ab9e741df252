/-
  The texts SdP, SeA, SeB, SeC, SeD, SeE, SeF, SeG, SbL, SbM, SbN, SbO, SbP, SbQ, SbR, SbS, SbT, SbU, SfA, FrK, SfE, SdH.
-/
import Derived.Test.YtpabpniaekldeaaGreatDoorFase04
import Derived.Laws.CopyRow
import Derived.Laws.OwnMore
set_option maxHeartbeats 25600000
namespace Go.Proofs.YtpabpniaekldeaaGreatDoor
open Go.Proofs.Tryz
open Go.RowKit
set_option maxRecDepth 20000
def dS (s:Nat->Rq->List gD):Nat->List Rq->List gD
 | _,[]=>[]
 | o,r::l=>s o r++dS s (o+1) l
theorem repG_app (s:Nat->Rq->List gD):∀(l l':List Rq) (o:Nat),dS s o (l++l')=dS s o l++dS s (o+l.length) l'
 | [],l',o=>by simp[dS]
 | r::l,l',o=>by rw[List.cons_append,dS,dS,repG_app s l l' (o+1),List.append_assoc,List.length_cons,show o+1+l.length=o+(l.length+1) by omega]
def gW (f:Rq->Rq)(rq:List Rq)(k:Nat):List Rq:=(rq.take k).map f++rq.drop k
section
variable {f:Rq->Rq}{s:Nat->Rq->List gD}{rq:List Rq}{k:Nat}{r:Rq}
theorem nz (h:rq[k]?=some r):dS s 0 (rq.take (k+1))=dS s 0 (rq.take k)++s k r:=by
 have hk:k<rq.length:=(List.getElem?_eq_some_iff.1 h).1
 rw[be h,repG_app,List.length_take,Nat.zero_add,show min k rq.length=k by omega]
 simp[dS]
theorem repG_len (hs:∀o r,(s o r).length<=1):∀(l:List Rq) (o:Nat),(dS s o l).length<=l.length
 | [],_=>by simp[dS]
 | r::l,o=>by
  rw[dS,List.length_append,List.length_cons];have:=repG_len hs l (o+1);have:=hs o r;omega
theorem midG_zero (f:Rq->Rq)(rq:List Rq):gW f rq 0=rq:=by simp[gW]
theorem midG_all (f:Rq->Rq)(rq:List Rq):gW f rq rq.length=rq.map f:=by simp[gW]
theorem midG_len (f:Rq->Rq)(rq:List Rq)(k:Nat):(gW f rq k).length=rq.length:=by
 simp[gW,List.length_take,List.length_drop]; omega
theorem midG_at (h:k<rq.length):(gW f rq k)[k]?=rq[k]?:=by
 unfold gW
 rw[List.getElem?_append_right (by simp[List.length_take]; omega),List.length_map,List.length_take,show min k rq.length=k by omega,Nat.sub_self,List.getElem?_drop,Nat.add_zero]
theorem midG_set (h:rq[k]?=some r):(gW f rq k).set k (f r)=gW f rq (k+1):=by
 have hk:k<rq.length:=(List.getElem?_eq_some_iff.1 h).1;unfold gW;rw[be h,List.map_append,List.map_cons,List.map_nil,List.append_assoc]
 rw[List.set_append_right _ _ (by simp[List.length_take]; omega),List.length_map,List.length_take,show min k rq.length=k by omega,Nat.sub_self]
 congr 1
 rw[List.drop_eq_getElem_cons hk];rfl
theorem midG_no (h:rq[k]?=some r)(e:f r=r):gW f rq (k+1)=gW f rq k:=by
 have hk:k<rq.length:=(List.getElem?_eq_some_iff.1 h).1;rw[<-midG_set h,e]
 apply List.ext_getElem?
 intro i;rw[List.getElem?_set]
 by_cases c:k=i
 ·subst c
  rw[if_pos rfl,if_pos (by rw[midG_len]; exact hk),midG_at hk,h]
 rw[if_neg c]
end
def ltd (nw:Int)(r:Rq):Bool:=!r.done && decide (r.due<=nw)
def li (nw:Int)(r:Rq):Rq:=if ltd nw r then { r with done:=true } else r
def nH (nw:Int)(o:Nat)(r:Rq):List gD:=if ltd nw r then [⟨o,504,⟨#[]⟩,⟨#[]⟩⟩] else []
theorem ltS_len (nw:Int)(o:Nat)(r:Rq):(nH nw o r).length<=1:=by unfold nH; split<;>simp
def tkP (rq:List Rq)(j:Jb):Bool:=decide (0<bg rq j.b false) || decide (0<=j.wk)
def tkJ (rq:List Rq)(jb:List Jb):List Jb:=jb.filter (tkP rq)
theorem tkJ_snoc {rq:List Rq}{jb:List Jb}{k:Nat}{j:Jb}(h:jb[k]?=some j):tkJ rq (jb.take (k+1))=tkJ rq (jb.take k)++(if tkP rq j then [j] else []):=by
 unfold tkJ;rw[be h,List.filter_append]
 congr 1
 by_cases e:tkP rq j=true
 ·rw[if_pos e,List.filter_cons_of_pos e,List.filter_nil]
 rw[if_neg e,List.filter_cons_of_neg e,List.filter_nil]
def plA (jb:List Jb)(i:Nat):Int:=(jb[i]?.map Jb.pl).getD 0
def wkI (jb:List Jb)(a:Int):Option Nat:=jb.findIdx? fun j=>decide (j.wk=a)
def kf (jb:List Jb):Nat->Option Nat
 | 0=>none
 | k+1=>match jb[k]?,kf jb k with
  | some j,none=>if j.wk=-1 then some k else none
  | some j,some h=>if j.wk=-1/\j.pl<plA jb h then some k else some h
  | none,o=>o
theorem pe (jb:List Jb):∀k h,kf jb k=some h->h<k
 | 0,h,e=>by simp[kf] at e
 | k+1,h,e=>by
  cases e0:jb[k]? with
  | none=>
   rw[kf,e0] at e
   have:=pe jb k h (by simpa using e)
   omega
  | some j0=>
   cases e1:kf jb k with
   | none=>
    rw[kf,e0,e1] at e;dsimp only at e
    split at e
    ·cases e; omega
    cases e
   | some g=>
    have:=pe jb k g e1;rw[kf,e0,e1] at e;dsimp only at e
    split at e
    ·cases e; omega
    cases e; omega
theorem hdI_min (jb:List Jb):∀k,k<=jb.length->(∀h,kf jb k=some h->(∃j,jb[h]?=some j/\j.wk=-1)/\∀i j,i<k->jb[i]?=some j->j.wk=-1->plA jb h<=j.pl)/\(kf jb k=none->∀i j,i<k->jb[i]?=some j->j.wk≠-1)
 | 0,_=>⟨fun h e=>by simp[kf] at e,fun _ i j hi=>by omega⟩
 | k+1,hk=>by
  obtain⟨ih1,ih2⟩:=hdI_min jb k (by omega)
  obtain⟨j0,hj0⟩:∃j,jb[k]?=some j:=⟨_,List.getElem?_eq_getElem (by omega)⟩
  have hp0:plA jb k=j0.pl:=by unfold plA; rw[hj0]; rfl
  cases e:kf jb k with
  | none=>
   have e':kf jb (k+1)=if j0.wk=-1 then some k else none:=by rw[kf,hj0,e]
   rw[e']
   by_cases c:j0.wk=-1
   ·rw[if_pos c]
    refine⟨fun h q=>?_,fun q=>by cases q⟩
    cases q;refine⟨⟨j0,hj0,c⟩,fun i j hi hj hw=>?_⟩
    rcases Nat.lt_or_ge i k with q|q
    ·exact absurd hw (ih2 e i j q hj)
    have:i=k:=by omega
    subst this
    rw[hj0] at hj; cases hj
    rw[hp0]; exact Int.le_refl _
   rw[if_neg c]
   refine⟨fun h q=>(by cases q),fun _ i j hi hj=>?_⟩
   rcases Nat.lt_or_ge i k with q|q
   ·exact ih2 e i j q hj
   have:i=k:=by omega
   subst this
   rw[hj0] at hj; cases hj
   exact c
  | some g=>
   have e':kf jb (k+1)=if j0.wk=-1/\j0.pl<plA jb g then some k else some g:=by rw[kf,hj0,e]
   obtain⟨a1,a2⟩:=ih1 g e;rw[e']
   by_cases c:j0.wk=-1/\j0.pl<plA jb g
   ·rw[if_pos c]
    refine⟨fun h q=>?_,fun q=>by cases q⟩
    cases q;refine⟨⟨j0,hj0,c.1⟩,fun i j hi hj hw=>?_⟩;rw[hp0]
    rcases Nat.lt_or_ge i k with q|q
    ·have:=a2 i j q hj hw
     omega
    have:i=k:=by omega
    subst this
    rw[hj0] at hj; cases hj
    exact Int.le_refl _
   rw[if_neg c]
   refine⟨fun h q=>?_,fun q=>by cases q⟩
   cases q;refine⟨a1,fun i j hi hj hw=>?_⟩
   rcases Nat.lt_or_ge i k with q|q
   ·exact a2 i j q hj hw
   have:i=k:=by omega
   subst this
   rw[hj0] at hj; cases hj
   have:¬j0.pl<plA jb g:=fun q=>c ⟨hw,q⟩;omega
structure DF where
 q:Nat
 wk:Nat
 wt:Nat
 ca:Nat
 ch:Nat
 now:Nat
 ct:Nat
 st:Nat
 bs:List bK
 rq:List Rq
 jb:List Jb
 en:List En
def DF.tick (D:DF):DF × List gD:=
 ({ D with now:=D.now+1,rq:=D.rq.map (li (D.now+1:Nat)),jb:=tkJ (D.rq.map (li (D.now+1:Nat))) D.jb },dS (nH (D.now+1:Nat)) 0 D.rq)
def DF.paint (D:DF)(i:Nat)(j:Jb):DF × List gD:=
 let c:=layN D.bs D.ca j.b j.rd.toNat (D.ct,D.en) 4
 let p:=ptJ (fP D.bs j D.rq) c.1 D.jb i j.b
 ({ D with ct:=p.1,rq:=fP D.bs j D.rq,jb:=p.2,en:=c.2 },iC D.bs j 0 D.rq)
def DF.take (D:DF)(a:Nat)(h:Nat)(j:Jb):DF:=
 { D with st:=D.st+1,jb:=D.jb.set h { j with wk:=a,rd:=D.bs.length,lf:=bB (dk D.bs D.bs.length).length D.ch } }
def DF.work (D:DF)(a:Nat):DF × List gD:=
 if D.wk<=a then (D,[]) else
 match wkI D.jb a with
 | some i=>match D.jb[i]? with
  | some j=>if j.lf=1 then DF.paint { D with jb:=D.jb.set i { j with lf:=j.lf-1 } } i { j with lf:=j.lf-1 } else ({ D with jb:=D.jb.set i { j with lf:=j.lf-1 } },[])
  | none=>(D,[])
 | none=>match kf D.jb D.jb.length with
  | some h=>match D.jb[h]? with
   | some j=>(D.take a h j,[])
   | none=>(D,[])
  | none=>(D,[])
def DF.arrive (D:DF)(k:K4)(e:Int)(tag:ByteArray):DF × List gD:=
 let r:Rq:=⟨k,D.bs.length,(D.now:Int)+D.wt,true⟩
 let D1:={ D with rq:=D.rq++[r] }
 if e=1 then (D1,[⟨D.rq.length,400,⟨#[]⟩,⟨#[]⟩⟩])
 else if e≠0 then (D1,[⟨D.rq.length,404,⟨#[]⟩,⟨#[]⟩⟩])
 else if du k (fB D.bs D.bs.length k)=tag then (D1,[⟨D.rq.length,304,⟨#[]⟩,du k (fB D.bs D.bs.length k)⟩])
 else match dB D.en k with
  | some i=>match D.en[i]? with
   | some n=>({ D1 with ct:=D.ct+1,en:=D.en.set i { n with use:=(D.ct:Int)+1 } },[⟨D.rq.length,200,n.body,n.tag⟩])
   | none=>(D1,[])
  | none=>
   if bg D.rq k true=D.q then (D1,[⟨D.rq.length,503,⟨#[]⟩,⟨#[]⟩⟩])
   else match o7 D.jb k.blk with
    | some _=>({ D with rq:=D.rq++[{ r with done:=false }] },[])
    | none=>({ D with rq:=D.rq++[{ r with done:=false }],ct:=D.ct+1,jb:=D.jb++[⟨k.blk,-1,(D.ct:Int)+1,0,0⟩] },[])
def DF.write (D:DF)(b:bK):DF:=
 { D with bs:=D.bs++[b],en:=D.en.filter fun e=>decide (fB (D.bs++[b]) (D.bs.length+1) e.k<=D.bs.length) }
theorem fx {α:Type}:∀{l:List α} {i:Nat} {a:α} (b:α),l[i]?=some a->l.Perm (a::l.eraseIdx i)/\(l.set i b).Perm (b::l.eraseIdx i)
 | [],i,a,b,h=>by simp at h
 | x::l,0,a,b,h=>by
  simp only[List.getElem?_cons_zero,Option.some.injEq] at h;subst h;exact⟨List.Perm.refl _,List.Perm.refl _⟩
 | x::l,i+1,a,b,h=>by
  obtain⟨h1,h2⟩:=fx b (l:=l) (i:=i) (by simpa using h)
  exact⟨(List.Perm.cons x h1).trans (List.Perm.swap a x _),(List.Perm.cons x h2).trans (List.Perm.swap b x _)⟩
theorem mid_perm {α:Type}(a:α)(s t:List α):(s++a::t).Perm (a::(s++t)):=List.perm_middle
abbrev Jt:=K4 × Int × Int × Int
def Jb.t (j:Jb):Jt:=(j.b,j.wk,j.rd,j.lf)
def Fl.t (f:Fl)(i:Int):Jt:=(f.b,i,(f.reads:Int),(f.left:Int))
def wl:Nat->List (Option Fl)->List Jt
 | _,[]=>[]
 | o,none::l=>wl (o+1) l
 | o,some f::l=>f.t o::wl (o+1) l
theorem oh:∀(l:List (Option Fl)) (o:Nat) (t:Jt),t∈wl o l↔∃(i:Nat) (f:Fl),l[i]?=some (some f)/\t=f.t ((o+i:Nat):Int)
 | [],o,t=>by simp[wl]
 | a::l,o,t=>by
  have ih:=oh l (o+1) t
  have sh:(∃(i:Nat) (f:Fl),(a::l)[i]?=some (some f)/\t=f.t ((o+i:Nat):Int))↔(∃f:Fl,a=some f/\t=f.t (o:Int))\/t∈wl (o+1) l:=by
   rw[ih]
   constructor
   ·rintro⟨i,f,h1,h2⟩
    cases i with
    | zero=>exact Or.inl ⟨f,by simpa using h1,by simpa using h2⟩
    | succ i=>exact Or.inr ⟨i,f,by simpa using h1,by rw[h2]; congr 2; omega⟩
   rintro(⟨f,h1,h2⟩|⟨i,f,h1,h2⟩)
   ·exact⟨0,f,by rw[h1]; rfl,by simpa using h2⟩
   exact⟨i+1,f,by simpa using h1,by rw[h2]; congr 2; omega⟩
  rw[sh]
  cases a with
  | none=>simp[wl]
  | some f=>simp[wl]
theorem og:∀(l:List (Option Fl)) (o i:Nat) (x:Option Fl),i<l.length->(wl o (l.set i x)).Perm ((x.map fun f=>f.t ((o+i:Nat):Int)).toList++wl o (l.set i none))
 | [],o,i,x,h=>by simp at h
 | a::l,o,0,x,h=>by cases x<;>simp[wl]
 | a::l,o,i+1,x,h=>by
  have ih:=og l (o+1) i x (by simpa using h)
  rw[show o+1+i=o+(i+1) by omega] at ih
  cases a with
  | none=>simpa[wl] using ih
  | some f=>
   simp only[List.set_cons_succ,wl];exact(List.Perm.cons _ ih).trans (List.perm_middle.symm)
theorem wl_at {l:List (Option Fl)}{i:Nat}{f:Fl}(h:l[i]?=some (some f)):(wl 0 l).Perm (f.t (i:Int)::wl 0 (l.set i none)):=by
 have:=og l 0 i (some f) (List.getElem?_eq_some_iff.1 h).1;rw[gP l i (some f) h] at this;simpa using this
theorem wl_b:∀(l:List (Option Fl)) (o:Nat),(wl o l).map (fun t=>t.1)=(l.filterMap id).map Fl.b
 | [],o=>by simp[wl]
 | none::l,o=>by simp[wl,wl_b l (o+1)]
 | some f::l,o=>by simp[wl,wl_b l (o+1),Fl.t]
structure cK (jb:List Jb)(line:List K4)(wks:List (Option Fl))(ct:Nat)(LL BB:List Jb):Prop where
 perm:jb.Perm (LL++BB)
 lin:∀j∈LL,j.wk=-1/\0<=j.pl/\j.pl<=ct/\j.rd=0/\j.lf=0
 srt:LL.Pairwise fun a b=>a.pl<b.pl
 line:LL.map Jb.b=line
 wks:(BB.map Jb.t).Perm (wl 0 wks)
section
variable {jb LL BB:List Jb}{line:List K4}{wks:List (Option Fl)}{ct:Nat}
theorem cK.mono (h:cK jb line wks ct LL BB){ct':Nat}(hc:ct<=ct'):cK jb line wks ct' LL BB:=
 { h with lin:=fun j hj=>by have:=h.lin j hj; exact⟨this.1,this.2.1,by omega,this.2.2.2⟩ }
theorem cK.bb (h:cK jb line wks ct LL BB){j:Jb}(hj:j∈BB):∃(i:Nat) (f:Fl),wks[i]?=some (some f)/\j.t=f.t (i:Int):=by
 have:=(h.wks.mem_iff).1 (List.mem_map_of_mem (f:=Jb.t) hj);obtain⟨i,f,h1,h2⟩:=(oh _ _ _).1 this
 exact⟨i,f,h1,by rw[h2,Nat.zero_add]⟩
theorem cK.bb0 (h:cK jb line wks ct LL BB){j:Jb}(hj:j∈BB):0<=j.wk:=by
 obtain⟨i,f,_,e⟩:=h.bb hj;have:j.wk=(i:Int):=congrArg (fun t:Jt=>t.2.1) e;omega
theorem cK.mem (h:cK jb line wks ct LL BB){j:Jb}(hj:j∈jb):(j∈LL/\j.wk=-1)\/(j∈BB/\0<=j.wk):=by
 rcases List.mem_append.1 (h.perm.mem_iff.1 hj) with q|q
 ·exact Or.inl ⟨q,(h.lin j q).1⟩
 exact Or.inr ⟨q,h.bb0 q⟩
theorem cK.find (h:cK jb line wks ct LL BB){j:Jb}(hj:j∈jb){i:Nat}(hw:j.wk=(i:Int)):j∈BB/\∃f:Fl,wks[i]?=some (some f)/\j.t=f.t (i:Int):=by
 rcases h.mem hj with⟨_,q⟩|⟨q,_⟩
 ·omega
 obtain⟨i',f,h1,h2⟩:=h.bb q;have:j.wk=(i':Int):=congrArg (fun t:Jt=>t.2.1) h2
 have:i'=i:=by omega
 subst this;exact⟨q,f,h1,h2⟩
theorem cK.idle (h:cK jb line wks ct LL BB){i:Nat}(hi:i<wks.length)(hno:∀j∈jb,j.wk≠(i:Int)):wks[i]?=some none:=by
 obtain⟨o,ho⟩:∃o,wks[i]?=some o:=⟨_,List.getElem?_eq_getElem hi⟩
 cases o with
 | none=>exact ho
 | some f=>
  exfalso
  have:f.t (i:Int)∈BB.map Jb.t:=h.wks.mem_iff.2 ((oh _ _ _).2 ⟨i,f,ho,by rw[Nat.zero_add]⟩)
  obtain⟨j,hj,e⟩:=List.mem_map.1 this;exact hno j (h.perm.mem_iff.2 (List.mem_append_right _ hj)) (congrArg (fun t:Jt=>t.2.1) e)
theorem cK.has (h:cK jb line wks ct LL BB)(b:K4):(∃j∈jb,j.b=b)↔b∈line\/b∈(wks.filterMap id).map Fl.b:=by
 have e:(BB.map Jb.b).Perm ((wks.filterMap id).map Fl.b):=by
  have:=h.wks.map (fun t=>t.1);rw[wl_b,List.map_map] at this;exact this
 rw[<-h.line,<-e.mem_iff]
 constructor
 ·rintro⟨j,hj,rfl⟩
  rcases List.mem_append.1 (h.perm.mem_iff.1 hj) with q|q
  ·exact Or.inl (List.mem_map_of_mem q)
  exact Or.inr (List.mem_map_of_mem q)
 rintro(q|q)
 ·obtain⟨j,hj,e⟩:=List.mem_map.1 q
  exact⟨j,h.perm.mem_iff.2 (List.mem_append_left _ hj),e⟩
 obtain⟨j,hj,e⟩:=List.mem_map.1 q;exact⟨j,h.perm.mem_iff.2 (List.mem_append_right _ hj),e⟩
theorem cK.add (h:cK jb line wks ct LL BB)(b:K4):cK (jb++[⟨b,-1,(ct:Int)+1,0,0⟩]) (line++[b]) wks (ct+1) (LL++[⟨b,-1,(ct:Int)+1,0,0⟩]) BB:=by
 refine⟨?_,?_,?_,by rw[List.map_append,h.line]; rfl,h.wks⟩
 ·refine((h.perm.append_right _).trans ?_)
  rw[List.append_assoc,List.append_assoc];exact(List.perm_append_comm (l₁:=BB) (l₂:=[_])).append_left LL
 ·intro j hj
  rcases List.mem_append.1 hj with hj|hj
  ·have:=h.lin j hj; exact⟨this.1,this.2.1,by omega,this.2.2.2⟩
  simp only[List.mem_singleton] at hj;subst hj
  exact⟨rfl,by show(0:Int)<=(ct:Int)+1; omega,by show(ct:Int)+1<=((ct+1:Nat):Int); omega,rfl,rfl⟩
 rw[List.pairwise_append]
 refine⟨h.srt,by simp,fun a ha c hc=>?_⟩
 simp only[List.mem_singleton] at hc;subst hc;have:=(h.lin a ha).2.2;show a.pl<(ct:Int)+1;omega
theorem cK.head (h:cK jb line wks ct LL BB):(line=[]->kf jb jb.length=none)/\∀b rest,line=b::rest->∃i j LL',kf jb jb.length=some i/\jb[i]?=some j/\LL=j::LL'/\j.b=b/\LL'.map Jb.b=rest:=by
 obtain⟨h1,h2⟩:=hdI_min jb jb.length aD
 constructor
 ·intro e
  cases q:kf jb jb.length with
  | none=>rfl
  | some i=>
   exfalso
   obtain⟨⟨j,hj,hw⟩,_⟩:=h1 i q
   rcases h.mem (List.mem_of_getElem? hj) with⟨a,_⟩|⟨_,a⟩
   ·have:=List.mem_map_of_mem (f:=Jb.b) a
    rw[h.line,e] at this;simp at this
   omega
 intro b rest e;have hl:=h.line;rw[e] at hl
 cases hL:LL with
 | nil=>rw[hL] at hl; simp at hl
 | cons j0 LL'=>
  rw[hL] at hl;simp only[List.map_cons,List.cons.injEq] at hl
  have hj0:j0∈jb:=h.perm.mem_iff.2 (List.mem_append_left _ (by rw[hL]; exact List.mem_cons_self ..))
  have hj0w:=(h.lin j0 (by rw[hL]; exact List.mem_cons_self ..)).1
  obtain⟨i0,hi0⟩:=List.mem_iff_getElem?.1 hj0;have hi0l:i0<jb.length:=(List.getElem?_eq_some_iff.1 hi0).1
  cases q:kf jb jb.length with
  | none=>exact absurd hj0w (h2 q i0 j0 hi0l hi0)
  | some i=>
   obtain⟨⟨j,hj,hw⟩,hm⟩:=h1 i q;have hle:=hm i0 j0 hi0l hi0 hj0w
   have hp:plA jb i=j.pl:=by unfold plA; rw[hj]; rfl
   rw[hp] at hle
   rcases h.mem (List.mem_of_getElem? hj) with⟨a,_⟩|⟨_,a⟩
   ·rw[hL] at a
    have hs:=h.srt;rw[hL,List.pairwise_cons] at hs
    rcases List.mem_cons.1 a with rfl|a
    ·exact⟨i,j,LL',rfl,hj,rfl,hl.1,hl.2⟩
    have:=hs.1 j a; omega
   omega
theorem cK.take {j:Jb}{LL':List Jb}{rest:List K4}(h:cK jb line wks ct (j::LL') BB)(hr:LL'.map Jb.b=rest){i:Nat}(hi:jb[i]?=some j){a:Nat}(ha:wks[a]?=some none)(f:Fl)(hf:f.b=j.b):∃BB',cK (jb.set i { j with wk:=a,rd:=f.reads,lf:=f.left }) rest (wks.set a (some f)) ct LL' BB':=by
 obtain⟨p1,p2⟩:=fx { j with wk:=(a:Int),rd:=(f.reads:Int),lf:=(f.left:Int) } hi;have p3:(jb.eraseIdx i).Perm (LL'++BB):=List.Perm.cons_inv (a:=j) (p1.symm.trans h.perm);refine⟨{ j with wk:=(a:Int),rd:=(f.reads:Int),lf:=(f.left:Int) }::BB,?_,fun k hk=>h.lin k (List.mem_cons_of_mem _ hk),(List.pairwise_cons.1 h.srt).2,hr,?_⟩
 ·exact(p2.trans (List.Perm.cons _ p3)).trans (List.perm_middle.symm)
 have hlt:a<wks.length:=(List.getElem?_eq_some_iff.1 ha).1;have q:=og wks 0 a (some f) hlt;rw[gP wks a none ha] at q;rw[List.map_cons];refine List.Perm.trans ?_ q.symm
 have e:Jb.t { j with wk:=(a:Int),rd:=(f.reads:Int),lf:=(f.left:Int) }=f.t ((0+a:Nat):Int):=by
  unfold Jb.t Fl.t;rw[hf,Nat.zero_add]
 rw[e];exact List.Perm.cons _ h.wks
theorem cK.out (h:cK jb line wks ct LL BB){i:Nat}{j:Jb}(hi:jb[i]?=some j){a:Nat}(hw:j.wk=(a:Int)):∃(f:Fl) (BB':List Jb),wks[a]?=some (some f)/\j.t=f.t (a:Int)/\(jb.eraseIdx i).Perm (LL++BB')/\(BB'.map Jb.t).Perm (wl 0 (wks.set a none)):=by
 obtain⟨hb,f,h1,h2⟩:=h.find (List.mem_of_getElem? hi) hw;obtain⟨s,t,hst⟩:=List.append_of_mem hb;obtain⟨p1,_⟩:=fx j hi;refine⟨f,s++t,h1,h2,?_,?_⟩
 ·refine List.Perm.cons_inv (a:=j) (p1.symm.trans (h.perm.trans ?_))
  rw[hst];exact((mid_perm j s t).append_left LL).trans List.perm_middle
 have p:=h.wks;rw[hst] at p;have p':(Jb.t j::(s++t).map Jb.t).Perm (wl 0 wks):=(((mid_perm j s t).map Jb.t).symm).trans p;rw[h2] at p';exact List.Perm.cons_inv (a:=f.t (a:Int)) (p'.trans (wl_at h1))
theorem cK.step (h:cK jb line wks ct LL BB){i:Nat}{j:Jb}(hi:jb[i]?=some j){a:Nat}(hw:j.wk=(a:Int))(f':Fl)(lf:Int)(hb:f'.b=j.b)(hr:(f'.reads:Int)=j.rd)(hl:(f'.left:Int)=lf):∃BB',cK (jb.set i { j with lf:=lf }) line (wks.set a (some f')) ct LL BB':=by
 obtain⟨f,BB',h1,h2,h3,h4⟩:=h.out hi hw;obtain⟨_,p2⟩:=fx { j with lf:=lf } hi;refine⟨{ j with lf:=lf }::BB',?_,h.lin,h.srt,h.line,?_⟩
 ·exact(p2.trans (List.Perm.cons _ h3)).trans (List.perm_middle.symm)
 have hlt:a<wks.length:=(List.getElem?_eq_some_iff.1 h1).1;have q:=og wks 0 a (some f') hlt;rw[List.map_cons];refine List.Perm.trans ?_ q.symm
 have e:Jb.t { j with lf:=lf }=f'.t ((0+a:Nat):Int):=by
  unfold Jb.t Fl.t;rw[hb,Nat.zero_add,hr,hl];exact congrArg (fun z=>(j.b,z,j.rd,lf)) hw
 rw[e];exact List.Perm.cons _ h4
theorem cK.gone (h:cK jb line wks ct LL BB){i:Nat}{j:Jb}(hi:jb[i]?=some j){a:Nat}(hw:j.wk=(a:Int)):∃BB',cK (jb.eraseIdx i) line (wks.set a none) ct LL BB':=by
 obtain⟨f,BB',h1,h2,h3,h4⟩:=h.out hi hw;exact⟨BB',h3,h.lin,h.srt,h.line,h4⟩
theorem cK.back (h:cK jb line wks ct LL BB){i:Nat}{j:Jb}(hi:jb[i]?=some j){a:Nat}(hw:j.wk=(a:Int))(b:K4):∃LL' BB',cK (jb.set i ⟨b,-1,(ct:Int)+1,0,0⟩) (line++[b]) (wks.set a none) (ct+1) LL' BB':=by
 obtain⟨BB',g⟩:=h.gone hi hw;have g':=g.add b;refine⟨_,BB',?_,g'.lin,g'.srt,g'.line,g'.wks⟩;obtain⟨_,p2⟩:=fx ⟨b,-1,(ct:Int)+1,0,0⟩ hi;refine(p2.trans ?_).trans g'.perm;exact(List.perm_append_singleton _ _).symm
theorem cK.filter (h:cK jb line wks ct LL BB)(p:K4->Bool):cK (jb.filter fun j=>p j.b || decide (0<=j.wk)) (line.filter p) wks ct (LL.filter fun j=>p j.b) BB:=by
 refine⟨?_,fun j hj=>h.lin j (List.mem_filter.1 hj).1,h.srt.sublist List.filter_sublist,?_,h.wks⟩
 ·refine(h.perm.filter _).trans ?_
  rw[List.filter_append]
  have e1:(LL.filter fun j=>p j.b || decide (0<=j.wk))=LL.filter fun j=>p j.b:=by
   apply List.filter_congr
   intro j hj;have:=(h.lin j hj).1
   rw[decide_eq_false (by omega),Bool.or_false]
  have e2:(BB.filter fun j=>p j.b || decide (0<=j.wk))=BB:=by
   rw[List.filter_eq_self];intro j hj;rw[decide_eq_true (h.bb0 hj),Bool.or_true]
  rw[e1,e2]
 rw[<-h.line,List.filter_map];rfl
end
theorem bytesT_perm {a b:List aL}(h:a.Perm b):aA a=aA b:=by
 induction h with
 | nil=>rfl
 | cons t _ ih=>simp only[aA,ih]
 | swap s t l=>simp only[aA]; omega
 | trans _ _ i1 i2=>rw[i1,i2]
theorem oQ {ts:List aL}{k:K4}(h:∀t∈ts,t.k≠k):bm ts k=ts:=by
 unfold bm;rw[List.filter_eq_self];intro t ht;exact decide_eq_true (h t ht)
theorem outT_mid {s t:List aL}{a:aL}(hn:((s++a::t).map aL.k).Nodup):bm (s++a::t) a.k=s++t:=by
 have hn':(a.k::(s++t).map aL.k).Nodup:=by
  refine List.Perm.nodup_iff ?_ |>.1 hn;exact(List.perm_middle (a:=a) (l₁:=s) (l₂:=t)).map aL.k
 have hno:∀u∈s++t,u.k≠a.k:=fun u hu e=>(List.nodup_cons.1 hn').1 (e▸List.mem_map_of_mem hu);have e1:=oQ (k:=a.k) fun u hu=>hno u (List.mem_append_left _ hu);have e2:=oQ (k:=a.k) fun u hu=>hno u (List.mem_append_right _ hu);unfold bm at e1 e2 ⊢
 rw[List.filter_append,List.filter_cons_of_neg (by simp),e1,e2]
theorem findT_mem {ts:List aL}(hn:(ts.map aL.k).Nodup){t:aL}(ht:t∈ts):cS ts t.k=some t:=by
 induction ts with
 | nil=>simp at ht
 | cons a ts ih=>
  rw[List.map_cons,List.nodup_cons] at hn;unfold cS
  rcases List.mem_cons.1 ht with rfl|ht
  ·rw[List.find?_cons_of_pos (by simp)]
  rw[List.find?_cons_of_neg (by
   simp only[decide_eq_true_eq];intro e;exact hn.1 (e▸List.mem_map_of_mem ht))]
  exact ih hn.2 ht
theorem lU (ws:List En):∀k,∀i,i<k->mJ ws (dE ws k)<=mJ ws i
 | 0,i,h=>by omega
 | k+1,i,h=>by
  unfold dE
  split
  ·rename_i c
   rcases Nat.lt_or_ge i k with q|q
   ·have:=lU ws k i q; omega
   have:i=k:=by omega
   subst this; exact Int.le_refl _
  rename_i c
  rcases Nat.lt_or_ge i k with q|q
  ·exact lU ws k i q
  have:i=k:=by omega
  subst this; omega
structure fR (en:List En)(tiles:List aL)(ct:Nat)(EE:List En):Prop where
 perm:en.Perm EE
 srt:EE.Pairwise fun a b=>a.use<b.use
 le:∀e∈EE,e.use<=ct
 til:EE.map En.t=tiles
 nod:(tiles.map aL.k).Nodup
section
variable {en EE:List En}{tiles:List aL}{ct:Nat}
theorem fR.mono (h:fR en tiles ct EE){ct':Nat}(hc:ct<=ct'):fR en tiles ct' EE:=
 { h with le:=fun e he=>by have:=h.le e he; omega }
theorem fR.bytes (h:fR en tiles ct EE):aY en=aA tiles:=by
 unfold aY;rw[<-h.til];exact bytesT_perm (h.perm.map _)
theorem fR.len (h:fR en tiles ct EE):en.length=tiles.length:=by
 rw[<-h.til,List.length_map]; exact h.perm.length_eq
theorem fR.find (h:fR en tiles ct EE)(k:K4):(dB en k=none/\cS tiles k=none)\/∃i e,dB en k=some i/\en[i]?=some e/\e.k=k/\cS tiles k=some e.t:=by
 cases q:dB en k with
 | none=>
  left
  refine⟨rfl,?_⟩;unfold dB at q;rw[List.findIdx?_eq_none_iff] at q;unfold cS;rw[List.find?_eq_none];intro t ht;rw[<-h.til] at ht;obtain⟨e,he,rfl⟩:=List.mem_map.1 ht;have:=q e (h.perm.mem_iff.2 he);exact fun hh=>of_decide_eq_false this (of_decide_eq_true hh)
 | some i=>
  right
  unfold dB at q;rw[List.findIdx?_eq_some_iff_getElem] at q;obtain⟨hi,hk,_⟩:=q
  have hk':en[i].k=k:=by simpa using hk
  refine⟨i,en[i],rfl,List.getElem?_eq_getElem hi,hk',?_⟩
  have hm:en[i].t∈tiles:=by
   rw[<-h.til];exact List.mem_map_of_mem (h.perm.mem_iff.1 (List.getElem_mem hi))
  have:=findT_mem h.nod hm;rw[show en[i].t.k=k from hk'] at this;exact this
theorem fR.out (h:fR en tiles ct EE){i:Nat}{e:En}(hi:en[i]?=some e):∃s t,EE=s++e::t/\(en.eraseIdx i).Perm (s++t)/\bm tiles e.k=(s++t).map En.t:=by
 obtain⟨s,t,hst⟩:=List.append_of_mem (h.perm.mem_iff.1 (List.mem_of_getElem? hi));refine⟨s,t,hst,?_,?_⟩
 ·obtain⟨p1,_⟩:=fx e hi
  refine List.Perm.cons_inv (a:=e) (p1.symm.trans (h.perm.trans ?_));rw[hst];exact List.perm_middle
 have hn:=h.nod;have e1:=h.til;rw[hst,List.map_append,List.map_cons] at e1;rw[<-e1] at hn ⊢;rw[show e.k=e.t.k from rfl,outT_mid hn,List.map_append]
theorem fR.drop (h:fR en tiles ct EE){i:Nat}{e:En}(hi:en[i]?=some e):∃EE',fR (en.eraseIdx i) (bm tiles e.k) ct EE':=by
 obtain⟨s,t,e1,e2,e3⟩:=h.out hi
 have hsub:(s++t).Sublist EE:=by rw[e1]; exact List.Sublist.append_left (List.sublist_cons_self _ _) _
 exact⟨s++t,e2,h.srt.sublist hsub,fun u hu=>h.le u (hsub.subset hu),e3.symm,((eK tiles e.k).map _).nodup h.nod⟩
theorem fR.put (h:fR en tiles ct EE)(e:En)(hu:e.use=(ct:Int)+1)(hk:∀t∈tiles,t.k≠e.k):fR (en++[e]) (tiles++[e.t]) (ct+1) (EE++[e]):=by
 refine⟨h.perm.append_right _,?_,?_,by rw[List.map_append,h.til]; rfl,?_⟩
 ·rw[List.pairwise_append]
  refine⟨h.srt,by simp,fun a ha b hb=>?_⟩
  simp only[List.mem_singleton] at hb;subst hb;have:=h.le a ha;omega
 ·intro u hu'
  rcases List.mem_append.1 hu' with q|q
  ·have:=h.le u q; omega
  simp only[List.mem_singleton] at q;subst q;omega
 rw[List.map_append,List.nodup_append]
 refine⟨h.nod,by simp,fun a ha b hb=>?_⟩
 simp only[List.map_cons,List.map_nil,List.mem_singleton] at hb;subst hb;obtain⟨t,ht,rfl⟩:=List.mem_map.1 ha;exact hk t ht
theorem fR.used (h:fR en tiles ct EE){i:Nat}{e:En}(hi:en[i]?=some e):∃EE',fR (en.set i { e with use:=(ct:Int)+1 }) (bm tiles e.k++[e.t]) (ct+1) EE':=by
 obtain⟨EE',g⟩:=h.drop hi
 have g':=g.put { e with use:=(ct:Int)+1 } rfl (fun t ht q=>by
  unfold bm at ht;have:=(List.mem_filter.1 ht).2;simp only[decide_eq_true_eq] at this;exact this q)
 obtain⟨_,p2⟩:=fx { e with use:=(ct:Int)+1 } hi;exact⟨_,(p2.trans (List.perm_append_singleton _ _).symm).trans g'.perm,g'.srt,g'.le,g'.til,g'.nod⟩
theorem fR.dropK (h:fR en tiles ct EE)(k:K4):∃EE',fR (dropK en k) (bm tiles k) ct EE':=by
 unfold YtpabpniaekldeaaGreatDoor.dropK
 rcases h.find k with⟨q1,q2⟩|⟨i,e,q1,q2,q3,_⟩
 ·rw[q1,oQ (mm q2)]
  exact⟨EE,h⟩
 rw[q1];obtain⟨EE',g⟩:=h.drop q2;rw[q3] at g;exact⟨EE',g⟩
theorem fR.old (h:fR en tiles ct EE){t:aL}{ts:List aL}(ht:tiles=t::ts):∃EE',fR (en.eraseIdx (dE en en.length)) (bm ts t.k) ct EE':=by
 have hE:EE.map En.t=t::ts:=h.til.trans ht
 cases hEE:EE with
 | nil=>rw[hEE] at hE; simp at hE
 | cons e0 rest=>
  have hlen:0<en.length:=by rw[h.perm.length_eq,hEE]; simp
  have hlt:dE en en.length<en.length:=lg en _ hlen;have hmin:=lU en en.length
  have he0:e0∈en:=h.perm.mem_iff.2 (by rw[hEE]; exact List.mem_cons_self ..)
  obtain⟨i0,hi0⟩:=List.mem_iff_getElem?.1 he0;have hi0l:i0<en.length:=(List.getElem?_eq_some_iff.1 hi0).1;have h1:=hmin i0 hi0l;obtain⟨e,he⟩:∃e,en[dE en en.length]?=some e:=⟨_,List.getElem?_eq_getElem hlt⟩
  have u1:mJ en (dE en en.length)=e.use:=by unfold mJ; rw[he]; rfl
  have u0:mJ en i0=e0.use:=by unfold mJ; rw[hi0]; rfl
  rw[u1,u0] at h1
  have hee:e=e0:=by
   have hm:=h.perm.mem_iff.1 (List.mem_of_getElem? he);rw[hEE] at hm
   rcases List.mem_cons.1 hm with q|q
   ·exact q
   have hs:=h.srt;rw[hEE,List.pairwise_cons] at hs;have:=hs.1 e q;omega
  subst hee;obtain⟨EE',g⟩:=h.drop he;rw[hEE,List.map_cons,List.cons.injEq] at hE
  have hk:e.k=t.k:=by rw[<-hE.1]; rfl
  have ho:bm tiles e.k=bm ts t.k:=by
   rw[ht,hk];simp[bm]
  rw[ho] at g;exact⟨EE',g⟩
theorem fR.evict (room n:Nat):∀(m:Nat) {en EE:List En} {tiles:List aL},tiles.length<=m->fR en tiles ct EE->∃EE',fR (pD room n en) (evict room n tiles) ct EE'
 | m,en,EE,[],_,h=>by
  have hl:=h.len
  rw[jV (by rw[hl]; simp),YtpabpniaekldeaaGreatDoor.evict]
  exact⟨EE,h⟩
 | m,en,EE,t::ts,hm,h=>by
  have hl:=h.len;have hb:=h.bytes;rw[YtpabpniaekldeaaGreatDoor.evict]
  by_cases c:room<aA (t::ts)+n
  ·rw[if_pos c,evE_go (by rw[hl]; simp) (by rw[hb]; exact c)]
   obtain⟨EE',g⟩:=h.old rfl;have:=eL ts t.k
   cases m with
   | zero=>simp at hm
   | succ m=>exact fR.evict room n m (by simp only[List.length_cons] at hm; omega) g
  rw[if_neg c,jV (by rw[hb]; exact fun q=>c q.2)]
  exact⟨EE,h⟩
theorem fR.lay (h:fR en tiles ct EE)(room:Nat)(t:aL):∃EE',fR (mG room ct en t).2 (eT room tiles t) (mG room ct en t).1 EE':=by
 unfold mG eT
 by_cases c:room<t.body.size
 ·rw[if_pos c,if_pos c]; exact⟨EE,h⟩
 rw[if_neg c,if_neg c];obtain⟨E1,g1⟩:=h.dropK t.k;obtain⟨E2,g2⟩:=g1.evict room t.body.size _ aD;refine⟨_,g2.put ⟨t.k,t.body,t.tag,(ct:Int)+1⟩ rfl (fun u hu q=>?_)⟩;have hs:=(fj room t.body.size _ (bm tiles t.k) aD).1;have hm:u.k∈(bm tiles t.k).map aL.k:=List.mem_map_of_mem (hs.subset hu);rw[show u.k=t.k from q] at hm;exact outT_not tiles t.k hm
theorem fR.filter (h:fR en tiles ct EE)(p:K4->Bool):∃EE',fR (en.filter fun e=>p e.k) (tiles.filter fun t=>p t.k) ct EE':=by
 have hs:(EE.filter fun e=>p e.k).Sublist EE:=List.filter_sublist;refine⟨EE.filter fun e=>p e.k,h.perm.filter _,h.srt.sublist hs,fun e he=>h.le e (hs.subset he),?_,(List.filter_sublist.map _).nodup h.nod⟩;rw[<-h.til,List.filter_map];rfl
end
def gG:Nat->List Rq->List dJ
 | _,[]=>[]
 | o,r::l=>if r.done then gG (o+1) l else ⟨o,r.k,r.asked,r.due⟩::gG (o+1) l
theorem oo:∀(l l':List Rq) (o:Nat),gG o (l++l')=gG o l++gG (o+l.length) l'
 | [],l',o=>by simp[gG]
 | r::l,l',o=>by
  have ih:=oo l l' (o+1)
  rw[show o+1+l.length=o+(r::l).length by simp; omega] at ih
  rw[List.cons_append,gG,gG]
  split
  ·exact ih
  rw[ih]; rfl
theorem om:∀(l:List Rq) (o:Nat) (b:K4),(gG o l).length=bg l b true
 | [],o,b=>by simp[gG,bg]
 | r::l,o,b=>by
  have ih:=om l (o+1) b;unfold bg at ih ⊢;rw[gG,List.countP_cons]
  cases h:r.done with
  | true=>simp[ih]
  | false=>simp[ih]
theorem jG:∀(l:List Rq) (o:Nat) (b:K4),aC (gG o l) b=bg l b false
 | [],o,b=>by simp[gG,bg,aC]
 | r::l,o,b=>by
  have ih:=jG l (o+1) b;unfold bg aC at ih ⊢;rw[gG,List.countP_cons]
  cases h:r.done with
  | true=>simp[ih]
  | false=>
   simp only[Bool.false_eq_true,if_false];rw[List.countP_cons,ih];simp
theorem ol:∀(l:List Rq) (o i:Nat) (r:Rq),l[i]?=some r->r.done=false->(⟨((o+i:Nat):Int),r.k,r.asked,r.due⟩:dJ)∈gG o l
 | [],o,i,r,h,_=>by simp at h
 | a::l,o,0,r,h,hd=>by
  simp only[List.getElem?_cons_zero,Option.some.injEq] at h;subst h;rw[gG,hd];exact List.mem_cons_self ..
 | a::l,o,i+1,r,h,hd=>by
  have ih:=ol l (o+1) i r (by simpa using h) hd
  rw[show o+1+i=o+(i+1) by omega] at ih
  rw[gG]
  split
  ·exact ih
  exact List.mem_cons_of_mem _ ih
theorem jd (p:dJ->Bool)(g:Rq->Rq):∀(l:List Rq) (o:Nat),(∀i r,l[i]?=some r->g r=if !r.done && p ⟨((o+i:Nat):Int),r.k,r.asked,r.due⟩ then { r with done:=true } else r)->(gG o l).filter (fun r=>!p r)=gG o (l.map g)
 | [],o,_=>by simp[gG]
 | r::l,o,h=>by
  have ih:=jd p g l (o+1) fun i r hr=>by
   have:=h (i+1) r (by simpa using hr)
   rw[show o+(i+1)=o+1+i by omega] at this
   exact this
  have h0:=h 0 r rfl;rw[Nat.add_zero] at h0;rw[List.map_cons,gG,gG]
  cases hd:r.done with
  | true=>
   rw[hd] at h0
   have:(g r).done=true:=by rw[h0]; exact hd
   rw[this];simpa using ih
  | false=>
   rw[hd] at h0
   cases hp:p ⟨(o:Int),r.k,r.asked,r.due⟩ with
   | true=>
    rw[hp] at h0
    have:(g r).done=true:=by rw[h0]; rfl
    rw[this];simpa[hp] using ih
   | false=>
    rw[hp] at h0
    have e:g r=r:=by rw[h0]; rfl
    rw[e,hd];simpa[hp] using ih
theorem oi (p:dJ->Bool)(q:dJ->gD)(s:Nat->Rq->List gD):∀(l:List Rq) (o:Nat),(∀i r,l[i]?=some r->s (o+i) r=if !r.done && p ⟨((o+i:Nat):Int),r.k,r.asked,r.due⟩ then [q ⟨((o+i:Nat):Int),r.k,r.asked,r.due⟩] else [])->((gG o l).filter p).map q=dS s o l
 | [],o,_=>by simp[gG,dS]
 | r::l,o,h=>by
  have ih:=oi p q s l (o+1) fun i r hr=>by
   have:=h (i+1) r (by simpa using hr)
   rw[show o+(i+1)=o+1+i by omega] at this
   exact this
  have h0:=h 0 r rfl;rw[Nat.add_zero] at h0;rw[gG,dS,h0]
  cases hd:r.done with
  | true=>simpa using ih
  | false=>
   cases hp:p ⟨(o:Int),r.k,r.asked,r.due⟩ with
   | true=>simp[hp,ih]
   | false=>simp[hp,ih]
structure Vs (LS:List Ft)(FLs:Nat->List Ft)(bs:List bK):Prop where
 stm:∀v:Nat,v<=bs.length->∀k,eA v k LS=(fB bs v k:Int)
 bod:∀v:Nat,v<=bs.length->∀k,dy k->cg (FLs v) k=cg (dk bs v) k
 len:∀v:Nat,v<=bs.length->(FLs v).length=(dk bs v).length
structure fC (F:FM)(D:DF):Prop where
 q:F.queue=D.q
 wk:F.wks.length=D.wk
 wt:F.wait=D.wt
 ca:F.room=D.ca
 ch:F.chunk=D.ch
 now:F.now=D.now
 arr:F.arrived=D.rq.length
 st:F.started=D.st
 ver:F.ver=D.bs.length
 vs:Vs F.LS F.FLs D.bs
 wai:F.waiting=gG 0 D.rq
 job:∃LL BB,cK D.jb F.line F.wks D.ct LL BB
 cac:∃EE,fR D.en F.tiles D.ct EE
section
variable {F:FM}{D:DF}
theorem fC.tick (h:fC F D):fC F.tick.1 D.tick.1/\F.tick.2=D.tick.2:=by
 have hw:F.tick.1.waiting=gG 0 (D.rq.map (li (D.now+1:Nat))):=by
  rw[<-jd (fun r=>decide (r.due<=((D.now+1:Nat):Int))) (li (D.now+1:Nat)) D.rq 0 (fun i r _=>rfl),<-h.wai];show F.waiting.filter (fun r=>decide (¬r.due<=((F.now+1:Nat):Int)))=_;rw[h.now]
  apply List.filter_congr
  intro r _
  by_cases c:r.due<=((D.now+1:Nat):Int)
  ·rw[decide_eq_true c,decide_eq_false (fun q=>q c)]; rfl
  rw[decide_eq_false c,decide_eq_true c]; rfl
 constructor
 ·obtain⟨LL,BB,hj⟩:=h.job
  refine⟨h.q,h.wk,h.wt,h.ca,h.ch,?_,?_,h.st,h.ver,h.vs,hw,?_,h.cac⟩
  ·show F.now+1=D.now+1
   rw[h.now]
  ·show F.arrived=(D.rq.map _).length
   rw[List.length_map]; exact h.arr
  refine⟨LL.filter fun j=>decide (0<bg (D.rq.map (li (D.now+1:Nat))) j.b false),BB,?_⟩;have:=hj.filter (fun b=>decide (0<bg (D.rq.map (li (D.now+1:Nat))) b false))
  have e:F.tick.1.line=F.line.filter (fun b=>decide (0<bg (D.rq.map (li (D.now+1:Nat))) b false)):=by
   show F.line.filter (fun b=>decide (0<aC F.tick.1.waiting b))=_;rw[hw]
   apply List.filter_congr
   intro b _;rw[jG]
  rw[e];exact this
 show((F.waiting.filter fun r=>decide (r.due<=((F.now+1:Nat):Int))).map fun r=>(⟨r.who,504,⟨#[]⟩,⟨#[]⟩⟩:gD))=_;rw[h.wai,h.now];refine oi (fun r=>decide (r.due<=((D.now+1:Nat):Int))) _ (nH (D.now+1:Nat)) D.rq 0 fun i r _=>?_;rw[Nat.zero_add];rfl
theorem fC.jlen (h:fC F D):D.jb.length=F.line.length+F.fls.length:=by
 obtain⟨LL,BB,hj⟩:=h.job;have e1:=congrArg List.length hj.line;have e2:=hj.wks.length_eq;have e3:=congrArg List.length (wl_b F.wks 0);simp only[List.length_map] at e1 e2 e3;rw[hj.perm.length_eq,List.length_append];unfold FM.fls;omega
theorem fC.elen (h:fC F D):D.en.length=F.tiles.length/\aY D.en=aA F.tiles:=by
 obtain⟨EE,hc⟩:=h.cac;exact⟨hc.len,hc.bytes⟩
end
def fL (bs:List bK)(ca:Nat)(b:K4)(rd:Nat)(ts:List aL):Nat->List aL
 | 0=>ts
 | n+1=>if keyErr (cm b n).l (cm b n).z (cm b n).x (cm b n).y=0/\fB bs bs.length (cm b n)<=rd then eT ca (fL bs ca b rd ts n) (dx bs rd (cm b n)) else fL bs ca b rd ts n
theorem fR.layN {en EE:List En}{tiles:List aL}{ct:Nat}(h:fR en tiles ct EE)(bs:List bK)(ca:Nat)(b:K4)(rd:Nat):∀n,∃EE',fR (layN bs ca b rd (ct,en) n).2 (fL bs ca b rd tiles n) (layN bs ca b rd (ct,en) n).1 EE'
 | 0=>⟨EE,h⟩
 | n+1=>by
  obtain⟨E1,g⟩:=fR.layN h bs ca b rd n;rw[YtpabpniaekldeaaGreatDoor.layN,fL]
  split
  ·exact g.lay ca _
  exact⟨E1,g⟩
theorem keyN0 (b:K4):cm b 0=b:=by apply ib<;>simp[cm]
theorem keyN1 (b:K4):cm b 1=⟨b.l,b.z,b.x+1,b.y⟩:=by apply ib<;>simp[cm]
theorem keyN2 (b:K4):cm b 2=⟨b.l,b.z,b.x,b.y+1⟩:=by apply ib<;>simp[cm]
theorem keyN3 (b:K4):cm b 3=⟨b.l,b.z,b.x+1,b.y+1⟩:=by apply ib<;>simp[cm]
theorem layN_ct (bs:List bK)(ca:Nat)(b:K4)(rd:Nat)(c:Nat × List En):∀n,c.1<=(layN bs ca b rd c n).1
 | 0=>Nat.le_refl _
 | n+1=>by
  have ih:=layN_ct bs ca b rd c n;rw[layN]
  split
  ·unfold mG
   split
   ·exact ih
   exact Nat.le_succ_of_le ih
  exact ih
section
variable {F:FM}{D:DF}
theorem fC.tile (h:fC F D){v:Nat}(hv:v<=F.ver){k:K4}(hk:dy k):F.tileOf Oz v k=dx D.bs v k:=by
 rw[h.ver] at hv;unfold FM.tileOf FM.stamp dx;rw[show Oz.body (F.FLs v) k=cg (F.FLs v) k from rfl,h.vs.bod v hv k hk,show Oz.stamp F.LS (v:Int) k=eA v k F.LS from rfl,h.vs.stm v hv k];rfl
theorem fC.same (h:fC F D)(k:K4)(rd:Int):F.same Oz k rd=decide ((fB D.bs D.bs.length k:Int)<=rd):=by
 unfold FM.same FM.stamp;rw[show Oz.stamp F.LS (F.ver:Int) k=eA F.ver k F.LS from rfl,h.ver,h.vs.stm _ aD k]
theorem fC.lay1 (h:fC F D){rd:Nat}(hr:rd<=F.ver){k:K4}(hk:dy k)(c:List aL):(if F.same Oz (F.tileOf Oz rd k).k rd=true then eT F.room c (F.tileOf Oz rd k) else c)=if keyErr k.l k.z k.x k.y=0/\fB D.bs D.bs.length k<=rd then eT D.ca c (dx D.bs rd k) else c:=by
 rw[h.tile hr hk,h.ca,show(dx D.bs rd k).k=k from rfl,h.same]
 by_cases q:fB D.bs D.bs.length k<=rd
 ·rw[if_pos (decide_eq_true (by omega)),if_pos ⟨hk.err,q⟩]
 rw[if_neg (by rw[decide_eq_true_eq]; omega),if_neg (fun z=>q z.2)]
theorem lay0 {bs:List bK}{ca rd:Nat}{k:K4}(hk:¬dy k)(c:List aL):(if keyErr k.l k.z k.x k.y=0/\fB bs bs.length k<=rd then eT ca c (dx bs rd k) else c)=c:=by
 rw[if_neg];intro z;exact hk (kerr_ok z.1)
theorem fC.lay (h:fC F D){f:Fl}{rd:Nat}(hrd:f.reads=rd)(hr:rd<=F.ver){k:K4}(hk:dy k)(hb:f.b=k.blk):F.layU Oz f.reads F.tiles (F.tilesOf Oz f)=fL D.bs D.ca f.b rd F.tiles 4:=by
 subst hrd
 have e4:fL D.bs D.ca f.b f.reads F.tiles 4=(if keyErr (cm f.b 3).l (cm f.b 3).z (cm f.b 3).x (cm f.b 3).y=0/\fB D.bs D.bs.length (cm f.b 3)<=f.reads then eT D.ca (fL D.bs D.ca f.b f.reads F.tiles 3) (dx D.bs f.reads (cm f.b 3)) else fL D.bs D.ca f.b f.reads F.tiles 3):=by rw[fL]
 have e3:fL D.bs D.ca f.b f.reads F.tiles 3=(if keyErr (cm f.b 2).l (cm f.b 2).z (cm f.b 2).x (cm f.b 2).y=0/\fB D.bs D.bs.length (cm f.b 2)<=f.reads then eT D.ca (fL D.bs D.ca f.b f.reads F.tiles 2) (dx D.bs f.reads (cm f.b 2)) else fL D.bs D.ca f.b f.reads F.tiles 2):=by rw[fL]
 have e2:fL D.bs D.ca f.b f.reads F.tiles 2=(if keyErr (cm f.b 1).l (cm f.b 1).z (cm f.b 1).x (cm f.b 1).y=0/\fB D.bs D.bs.length (cm f.b 1)<=f.reads then eT D.ca (fL D.bs D.ca f.b f.reads F.tiles 1) (dx D.bs f.reads (cm f.b 1)) else fL D.bs D.ca f.b f.reads F.tiles 1):=by rw[fL]
 have e1:fL D.bs D.ca f.b f.reads F.tiles 1=(if keyErr (cm f.b 0).l (cm f.b 0).z (cm f.b 0).x (cm f.b 0).y=0/\fB D.bs D.bs.length (cm f.b 0)<=f.reads then eT D.ca F.tiles (dx D.bs f.reads (cm f.b 0)) else F.tiles):=by rw[fL,fL]
 rw[keyN0] at e1;rw[keyN1] at e2;rw[keyN2] at e3;rw[keyN3] at e4
 have hkeys:∀k',k'∈f.b.keys->dy k':=fun k' hk'=>by rw[hb] at hk'; exact((jR hk).1 hk').1
 unfold FM.layU FM.tilesOf
 by_cases hz:f.b.z=0
 ·have hks:f.b.keys=[f.b]:=by unfold K4.keys; rw[if_pos hz]
  have hb0:=hkeys f.b (by rw[hks]; exact List.mem_cons_self ..)
  have no:∀x y:Int,(x≠f.b.x\/y≠f.b.y)->¬dy ⟨f.b.l,f.b.z,x,y⟩:=fun x y hxy q=>by
   have z1:=q.zero hz;have z2:=hb0.zero hz;dsimp only at z1;omega
  rw[e4,lay0 (no _ _ (by omega)),e3,lay0 (no _ _ (by omega)),e2,lay0 (no _ _ (by omega)),e1,hks]
  rw[List.map_cons,List.map_nil,List.foldl_cons,List.foldl_nil,h.lay1 hr hb0]
 have hks:f.b.keys=[f.b,⟨f.b.l,f.b.z,f.b.x+1,f.b.y⟩,⟨f.b.l,f.b.z,f.b.x,f.b.y+1⟩,⟨f.b.l,f.b.z,f.b.x+1,f.b.y+1⟩]:=by unfold K4.keys; rw[if_neg hz]
 rw[hks] at hkeys ⊢;simp only[List.map_cons,List.map_nil,List.foldl_cons,List.foldl_nil]
 rw[h.lay1 hr (hkeys _ (by simp)),h.lay1 hr (hkeys _ (by simp)),h.lay1 hr (hkeys _ (by simp)),h.lay1 hr (hkeys _ (by simp)),e4,e3,e2,e1]
theorem kZ (bs:List bK)(j:Jb):∀(l:List Rq) (o:Nat),iC bs j o l=dS (svR bs j) o l
 | [],o=>rfl
 | r::l,o=>by rw[iC,dS,kZ bs j l (o+1)]
theorem fC.paint (h:fC F D)(ho:Ok Oz F){i a:Nat}{j:Jb}{f:Fl}(hi:D.jb[i]?=some j)(hw:j.wk=(a:Int))(hf:F.wks[a]?=some (some f))(ht:j.t=f.t (a:Int)):fC (F.finishW Oz a f).1 (D.paint i j).1/\(F.finishW Oz a f).2=(D.paint i j).2:=by
 have hb:j.b=f.b:=congrArg (fun t:Jt=>t.1) ht;have hrd:j.rd=(f.reads:Int):=congrArg (fun t:Jt=>t.2.2.1) ht
 have hrn:j.rd.toNat=f.reads:=by rw[hrd]; exact Int.toNat_natCast _
 obtain⟨hrv,_,k,hk,hbk⟩:=ho.flt f (eY hf)
 have hgood:∀(n:Nat) (r:Rq),D.rq[n]?=some r->r.done=false->F.good Oz (F.tilesOf Oz f) f.reads ⟨((0+n:Nat):Int),r.k,r.asked,r.due⟩=if svd D.bs j r then some (dx D.bs f.reads r.k) else none:=by
  intro n r hr hd
  have hm:(⟨((0+n:Nat):Int),r.k,r.asked,r.due⟩:dJ)∈F.waiting:=by rw[h.wai]; exact ol D.rq 0 n r hr hd
  rw[ho.good (eY hf) hm];dsimp only;have hkk:dy r.k:=(ho.req _ hm).2.2.2.1;rw[h.tile hrv hkk,h.same];unfold svd;rw[hd,hb,hrd]
  by_cases c1:r.k.blk=f.b
  ·rw[decide_eq_true c1]
   by_cases c2:r.asked<=(f.reads:Int)\/(fB D.bs D.bs.length r.k:Int)<=(f.reads:Int)
   ·rw[if_pos ⟨c1,by simpa using c2⟩,if_pos (by
     rcases c2 with q|q
     ·simp[q]
     rw[decide_eq_true q]; rfl)]
   rw[if_neg (fun q=>c2 (by simpa using q.2)),if_neg (by
    have q1:¬r.asked<=(f.reads:Int):=fun q=>c2 (Or.inl q);have q2:¬(fB D.bs D.bs.length r.k:Int)<=(f.reads:Int):=fun q=>c2 (Or.inr q)
    rw[decide_eq_false q1,decide_eq_false q2]; decide)]
  rw[if_neg (fun q=>c1 q.1),decide_eq_false c1]; rfl
 have hleft:F.fineL Oz (F.tilesOf Oz f) f.reads=gG 0 (fP D.bs j D.rq):=by
  unfold FM.fineL fP;rw[<-jd (fun r=>(F.good Oz (F.tilesOf Oz f) f.reads r).isSome) (svF D.bs j) D.rq 0 ?_,<-h.wai]
  ·apply List.filter_congr
   intro r _
   cases F.good Oz (F.tilesOf Oz f) f.reads r<;>rfl
  intro n r hr;unfold svF
  cases hd:r.done with
  | true=>
   have:svd D.bs j r=false:=by unfold svd; rw[hd]; rfl
   rw[this]; rfl
  | false=>
   rw[hgood n r hr hd]
   cases svd D.bs j r<;>rfl
 have hrep:F.fineR Oz (F.tilesOf Oz f) f.reads=iC D.bs j 0 D.rq:=by
  unfold FM.fineR;rw[kZ,h.wai];rw[<-oi (fun r=>(F.good Oz (F.tilesOf Oz f) f.reads r).isSome) (fun r=>⟨r.who,200,(dx D.bs f.reads r.k).body,(dx D.bs f.reads r.k).tag⟩) (svR D.bs j) D.rq 0 ?_]
  ·have key:∀r∈gG 0 D.rq,F.good Oz (F.tilesOf Oz f) f.reads r=none\/F.good Oz (F.tilesOf Oz f) f.reads r=some (dx D.bs f.reads r.k):=by
    intro r hr;rw[<-h.wai] at hr;rw[ho.good (eY hf) hr,h.tile hrv (ho.req _ hr).2.2.2.1]
    split
    ·exact Or.inr rfl
    exact Or.inl rfl
   generalize gG 0 D.rq=l at key ⊢
   induction l with
   | nil=>rfl
   | cons r l ih=>
    have ih':=ih fun q hq=>key q (List.mem_cons_of_mem _ hq)
    rcases key r (List.mem_cons_self ..) with e|e
    ·rw[List.filterMap_cons,e,List.filter_cons_of_neg (by rw[e]; simp)]
     exact ih'
    rw[List.filterMap_cons,e,List.filter_cons_of_pos (by rw[e]; rfl),List.map_cons]
    exact congrArg _ ih'
  intro n r hr;unfold svR;rw[Nat.zero_add,hrn]
  cases hd:r.done with
  | true=>
   have:svd D.bs j r=false:=by unfold svd; rw[hd]; rfl
   rw[this]; rfl
  | false=>
   have:=hgood n r hr hd;rw[Nat.zero_add] at this;rw[this]
   cases svd D.bs j r<;>rfl
 refine⟨?_,hrep⟩;obtain⟨LL,BB,hj⟩:=h.job;obtain⟨EE,hc⟩:=h.cac;obtain⟨EE',hc'⟩:=hc.layN D.bs D.ca j.b j.rd.toNat 4
 have hlay:F.layU Oz f.reads F.tiles (F.tilesOf Oz f)=fL D.bs D.ca j.b j.rd.toNat F.tiles 4:=by rw[hrn,hb]; exact h.lay rfl hrv hk hbk
 have hct:=layN_ct D.bs D.ca j.b j.rd.toNat (D.ct,D.en) 4;have hj':=hj.mono hct;refine⟨h.q,?_,h.wt,h.ca,h.ch,h.now,?_,h.st,h.ver,h.vs,hleft,?_,?_⟩
 ·show(F.wks.set a none).length=_
  rw[List.length_set]; exact h.wk
 ·show F.arrived=(fP D.bs j D.rq).length
  unfold fP
  rw[List.length_map]; exact h.arr
 ·show ∃LL BB,cK (ptJ (fP D.bs j D.rq) (layN D.bs D.ca j.b j.rd.toNat (D.ct,D.en) 4).1 D.jb i j.b).2 (if 0<aC (F.fineL Oz (F.tilesOf Oz f) f.reads) f.b then F.line++[f.b] else F.line) (F.wks.set a none) (ptJ (fP D.bs j D.rq) (layN D.bs D.ca j.b j.rd.toNat (D.ct,D.en) 4).1 D.jb i j.b).1 LL BB
  rw[hleft,jG,<-hb];unfold ptJ
  by_cases c:0<bg (fP D.bs j D.rq) j.b false
  ·rw[if_pos c,if_pos c]
   exact hj'.back hi hw j.b
  rw[if_neg c,if_neg c];obtain⟨BB',g⟩:=hj'.gone hi hw;exact⟨LL,BB',g⟩
 show ∃EE,fR (layN D.bs D.ca j.b j.rd.toNat (D.ct,D.en) 4).2 (F.layU Oz f.reads F.tiles (F.tilesOf Oz f)) (ptJ (fP D.bs j D.rq) (layN D.bs D.ca j.b j.rd.toNat (D.ct,D.en) 4).1 D.jb i j.b).1 EE;rw[hlay];refine⟨EE',hc'.mono ?_⟩;unfold ptJ
 split
 ·exact Nat.le_succ _
 exact Nat.le_refl _
end
section
variable {F:FM}{D:DF}
theorem idx_some {α:Type}{p:α->Bool}{l:List α}{i:Nat}(h:l.findIdx? p=some i):∃a,l[i]?=some a/\p a=true:=by
 rw[List.findIdx?_eq_some_iff_getElem] at h;obtain⟨hi,hp,_⟩:=h;exact⟨l[i],List.getElem?_eq_getElem hi,hp⟩
theorem idx_none {α:Type}{p:α->Bool}{l:List α}(h:l.findIdx? p=none):∀a∈l,p a=false:=by
 rw[List.findIdx?_eq_none_iff] at h;exact h
theorem jW {α:Type}:∀(l:List α) (i:Nat) (a:α),(l.set i a).eraseIdx i=l.eraseIdx i
 | [],i,a=>by simp
 | b::l,0,a=>by simp
 | b::l,i+1,a=>by simp[jW l i a]
theorem fC.step (h:fC F D){i a:Nat}{j:Jb}{f':Fl}(lf:Int)(hi:D.jb[i]?=some j)(hw:j.wk=(a:Int))(hb:f'.b=j.b)(hr:(f'.reads:Int)=j.rd)(hl:(f'.left:Int)=lf):fC { F with wks:=F.wks.set a (some f') } { D with jb:=D.jb.set i { j with lf:=lf } }:=by
 obtain⟨LL,BB,hj⟩:=h.job;obtain⟨BB',g⟩:=hj.step hi hw f' lf hb hr hl
 exact⟨h.q,by show(F.wks.set a _).length=_; rw[List.length_set]; exact h.wk,h.wt,h.ca,h.ch,h.now,h.arr,h.st,h.ver,h.vs,h.wai,⟨LL,BB',g⟩,h.cac⟩
theorem fC.work (h:fC F D)(ho:Ok Oz F)(a:Nat):fC (F.work Oz a).1 (D.work a).1/\(F.work Oz a).2=(D.work a).2:=by
 unfold FM.work DF.work
 by_cases ha:D.wk<=a
 ·rw[if_pos ha,List.getElem?_eq_none (by rw[h.wk]; exact ha)]
  exact⟨h,rfl⟩
 rw[if_neg ha]
 have hal:a<F.wks.length:=by rw[h.wk]; omega
 obtain⟨LL,BB,hj⟩:=h.job
 cases hx:wkI D.jb a with
 | some i=>
  obtain⟨j,hi,hp⟩:=idx_some hx;have hw:j.wk=(a:Int):=of_decide_eq_true hp;obtain⟨_,f,hf,ht⟩:=hj.find (List.mem_of_getElem? hi) hw;have hb:j.b=f.b:=congrArg (fun t:Jt=>t.1) ht;have hrd:j.rd=(f.reads:Int):=congrArg (fun t:Jt=>t.2.2.1) ht;have hlf:j.lf=(f.left:Int):=congrArg (fun t:Jt=>t.2.2.2) ht;have hpos:=(ho.flt f (eY hf)).2.1.pos;rw[hf];dsimp only;rw[hi];dsimp only
  by_cases c:1<f.left
  ·rw[if_pos c,if_neg (by omega)]
   exact⟨h.step (j.lf-1) hi hw hb.symm hrd.symm (by show((f.left-1:Nat):Int)=_; omega),rfl⟩
  rw[if_neg c,if_pos (by omega)]
  have hg:=h.paint ho hi hw hf ht
  have e:DF.paint { D with jb:=D.jb.set i { j with lf:=j.lf-1 } } i { j with lf:=j.lf-1 }=D.paint i j:=by
   unfold DF.paint;have e1:∀rq:List Rq,fP D.bs { j with lf:=j.lf-1 } rq=fP D.bs j rq:=fun rq=>rfl
   have e2:∀rq:List Rq,∀o,iC D.bs { j with lf:=j.lf-1 } o rq=iC D.bs j o rq:=fun rq o=>by
    rw[kZ,kZ]; rfl
   dsimp only;rw[e1,e2];unfold ptJ;rw[List.set_set,jW]
  rw[e];exact hg
 | none=>
  have hno:=idx_none hx
  have hid:=hj.idle hal fun j hj e=>by
   have:=hno j hj;rw[decide_eq_false_iff_not] at this;exact this e
  rw[hid];dsimp only;unfold FM.takeW;obtain⟨q1,q2⟩:=hj.head
  cases hl:F.line with
  | nil=>
   rw[q1 hl];exact⟨h,rfl⟩
  | cons b rest=>
   obtain⟨i,j,LL',e1,e2,e3,e4,e5⟩:=q2 b rest hl;rw[e1];dsimp only;rw[e2];dsimp only;refine⟨?_,rfl⟩;subst e3;obtain⟨BB',g⟩:=hj.take e5 e2 hid ⟨b,F.ver,bB (F.FLs F.ver).length F.chunk,0⟩ e4.symm
   refine⟨h.q,by show(F.wks.set a _).length=_; rw[List.length_set]; exact h.wk,h.wt,h.ca,h.ch,h.now,h.arr,?_,h.ver,h.vs,h.wai,⟨LL',BB',?_⟩,h.cac⟩
   ·show F.started+1=D.st+1
    rw[h.st]
   show cK (D.jb.set i { j with wk:=(a:Int),rd:=(D.bs.length:Int),lf:=(bB (dk D.bs D.bs.length).length D.ch:Int) }) rest (F.wks.set a _) D.ct LL' BB';rw[<-h.vs.len _ aD,<-h.ver,<-h.ch];exact g
theorem fC.came (h:fC F D)(r:Rq)(hr:r.done=true):fC { F with arrived:=F.arrived+1 } { D with rq:=D.rq++[r] }:=by
 refine⟨h.q,h.wk,h.wt,h.ca,h.ch,h.now,?_,h.st,h.ver,h.vs,?_,h.job,h.cac⟩
 ·show F.arrived+1=(D.rq++[r]).length
  rw[List.length_append,h.arr]; rfl
 show F.waiting=gG 0 (D.rq++[r]);rw[oo,h.wai];unfold gG;rw[hr];simp[gG]
theorem fC.arriveE (h:fC F D)(k:K4){e:Int}(he:e≠0)(tag:ByteArray):fC (F.arriveE e).1 (D.arrive k e tag).1/\(F.arriveE e).2=(D.arrive k e tag).2:=by
 unfold FM.arriveE DF.arrive;dsimp only
 by_cases c:e=1
 ·rw[if_pos c,if_pos c,h.arr]
  have:=h.came ⟨k,D.bs.length,(D.now:Int)+D.wt,true⟩ rfl;rw[h.arr] at this;exact⟨this,rfl⟩
 rw[if_neg c,if_neg c,if_pos he,h.arr];have:=h.came ⟨k,D.bs.length,(D.now:Int)+D.wt,true⟩ rfl;rw[h.arr] at this;exact⟨this,rfl⟩
theorem fC.arriveK (h:fC F D)(ho:Ok Oz F)(k:K4)(tag:ByteArray):fC (F.arriveK Oz k tag).1 (D.arrive k 0 tag).1/\(F.arriveK Oz k tag).2=(D.arrive k 0 tag).2:=by
 have hst:F.stamp Oz F.ver k=(fB D.bs D.bs.length k:Int):=by
  unfold FM.stamp;rw[show Oz.stamp F.LS (F.ver:Int) k=eA F.ver k F.LS from rfl,h.ver,h.vs.stm _ aD k]
 have hcame:=h.came ⟨k,D.bs.length,(D.now:Int)+D.wt,true⟩ rfl;unfold FM.arriveK DF.arrive;dsimp only
 rw[if_neg (show ¬(0:Int)=1 by decide),if_neg (show ¬(0:Int)≠0 by decide),hst,show Oz.tag k (fB D.bs D.bs.length k:Int)=du k (fB D.bs D.bs.length k:Int) from rfl]
 by_cases c:du k (fB D.bs D.bs.length k:Int)=tag
 ·rw[if_pos c.symm,if_pos c]
  exact⟨hcame,by rw[h.arr]⟩
 rw[if_neg (fun q=>c q.symm),if_neg c];obtain⟨EE,hc⟩:=h.cac
 rcases hc.find k with⟨q1,q2⟩|⟨i,e,q1,q2,q3,q4⟩
 ·rw[q1,q2]
  dsimp only
  have hwl:F.waiting.length=bg D.rq k true:=by rw[h.wai]; exact om _ _ _
  have hwq:=ho.wq
  by_cases d:F.queue<=F.waiting.length
  ·rw[if_pos d,if_pos (by rw[<-hwl,<-h.q]; omega)]
   exact⟨hcame,by rw[h.arr]⟩
  rw[if_neg d,if_neg (by rw[<-hwl,<-h.q]; omega)]
  obtain⟨LL,BB,hj⟩:=h.job;have hhas:=hj.has k.blk;have hfl:=nM F k.blk
  have hwai:F.waiting++[(⟨(F.arrived:Int),k,F.ver,F.now+F.wait⟩:dJ)]=gG 0 (D.rq++[⟨k,D.bs.length,(D.now:Int)+D.wt,false⟩]):=by
   rw[oo,h.wai,h.arr,h.ver,h.now,h.wt];unfold gG;simp[gG]
  have harr:F.arrived+1=(D.rq++[(⟨k,D.bs.length,(D.now:Int)+D.wt,false⟩:Rq)]).length:=by rw[List.length_append,h.arr]; rfl
  cases hx:o7 D.jb k.blk with
  | some m=>
   obtain⟨j,hi,hp⟩:=idx_some hx;have hin:F.hasFl k.blk=true:=hfl.2 (hhas.1 ⟨j,List.mem_of_getElem? hi,of_decide_eq_true hp⟩);refine⟨⟨h.q,h.wk,h.wt,h.ca,h.ch,h.now,harr,h.st,h.ver,h.vs,hwai,?_,h.cac⟩,rfl⟩
   show ∃LL BB,cK D.jb (if F.hasFl k.blk=true then F.line else F.line++[k.blk]) F.wks D.ct LL BB
   rw[if_pos hin];exact h.job
  | none=>
   have hno:=idx_none hx
   have hin:¬F.hasFl k.blk=true:=fun q=>by
    obtain⟨j,hj',e⟩:=hhas.2 (hfl.1 q);have:=hno j hj';rw[decide_eq_false_iff_not] at this;exact this e
   refine⟨⟨h.q,h.wk,h.wt,h.ca,h.ch,h.now,harr,h.st,h.ver,h.vs,hwai,?_,?_⟩,rfl⟩
   ·show ∃LL BB,cK (D.jb++[⟨k.blk,-1,(D.ct:Int)+1,0,0⟩]) (if F.hasFl k.blk=true then F.line else F.line++[k.blk]) F.wks (D.ct+1) LL BB
    rw[if_neg hin];exact⟨_,BB,hj.add k.blk⟩
   exact⟨EE,hc.mono (Nat.le_succ _)⟩
 rw[q1,q4];dsimp only;rw[q2];dsimp only;obtain⟨EE',g⟩:=hc.used q2;obtain⟨LL,BB,hj⟩:=h.job;refine⟨⟨h.q,h.wk,h.wt,h.ca,h.ch,h.now,hcame.arr,h.st,h.ver,h.vs,hcame.wai,⟨LL,BB,hj.mono (Nat.le_succ _)⟩,⟨EE',g⟩⟩,?_⟩
 rw[h.arr]; rfl
theorem fC.write (h:fC F D)(b:bK){LS' FL':List Ft}(hv:Vs LS' (fun v=>if v=F.ver+1 then FL' else F.FLs v) (D.bs++[b])):fC (F.write Oz LS' FL') (D.write b):=by
 obtain⟨EE,hc⟩:=h.cac
 have hlen:(D.bs++[b]).length=D.bs.length+1:=by simp
 refine⟨h.q,h.wk,h.wt,h.ca,h.ch,h.now,h.arr,h.st,by show F.ver+1=(D.bs++[b]).length; rw[hlen,h.ver],hv,h.wai,h.job,?_⟩
 have e:(F.write Oz LS' FL').tiles=F.tiles.filter fun t=>decide (fB (D.bs++[b]) (D.bs.length+1) t.k<=D.bs.length):=by
  show F.tiles.filter (fun t=>decide (eA ((F.ver+1:Nat):Int) t.k LS'<=(F.ver:Int)))=_
  apply List.filter_congr
  intro t _
  rw[h.ver,hv.stm (D.bs.length+1) (by rw[hlen]; exact Nat.le_refl _)]
  by_cases c:fB (D.bs++[b]) (D.bs.length+1) t.k<=D.bs.length
  ·rw[decide_eq_true c,decide_eq_true (by omega)]
  rw[decide_eq_false c,decide_eq_false (by omega)]
 rw[e];exact hc.filter fun k=>decide (fB (D.bs++[b]) (D.bs.length+1) k<=D.bs.length)
end
theorem perm_one {α:Type}{a b:List α}(h:a.Perm b)(hb:b.length<=1):a=b:=by
 cases b with
 | nil=>exact h.eq_nil
 | cons x b=>
  cases b with
  | nil=>exact List.perm_singleton.1 h
  | cons y b=>simp at hb
theorem eN {α β:Type}{f g:α->List β}:∀{l:List α},(∀a∈l,f a=g a)->l.flatMap f=l.flatMap g
 | [],_=>rfl
 | a::l,h=>by rw[List.flatMap_cons,List.flatMap_cons,h a (List.mem_cons_self ..),eN fun b hb=>h b (List.mem_cons_of_mem _ hb)]
theorem wl_ge:∀(l:List (Option Fl)) (o:Nat),∀t∈wl o l,(o:Int)<=t.2.1
 | l,o,t,ht=>by
  obtain⟨i,f,_,e⟩:=(oh l o t).1 ht;rw[e];show(o:Int)<=((o+i:Nat):Int);omega
theorem wl_no {l:List (Option Fl)}{o w:Nat}(h:w<o):(wl o l).filter (fun t=>decide (t.2.1=(w:Int)))=[]:=by
 rw[List.filter_eq_nil_iff];intro t ht;have:=wl_ge l o t ht;rw[decide_eq_true_eq];omega
theorem wl_le1:∀(l:List (Option Fl)) (o w:Nat),((wl o l).filter (fun t=>decide (t.2.1=(w:Int)))).length<=1
 | [],o,w=>by simp[wl]
 | none::l,o,w=>wl_le1 l (o+1) w
 | some f::l,o,w=>by
  rw[wl]
  by_cases c:o=w
  ·subst c
   rw[List.filter_cons_of_pos (by rw[decide_eq_true_eq]; rfl),wl_no (Nat.lt_succ_self _)]
   simp
  rw[List.filter_cons_of_neg (by rw[decide_eq_true_eq]; show ¬((o:Int)=(w:Int)); omega)]
  exact wl_le1 l (o+1) w
theorem wl_all:∀(l:List (Option Fl)) (o:Nat),(List.range' o l.length).flatMap (fun(w:Nat)=>(wl o l).filter (fun t=>decide (t.2.1=(w:Int))))=wl o l
 | [],o=>by simp[wl]
 | none::l,o=>by
  have ih:=wl_all l (o+1);rw[List.length_cons,List.range'_succ,List.flatMap_cons,wl,wl_no (Nat.lt_succ_self _),List.nil_append];exact ih
 | some f::l,o=>by
  have ih:=wl_all l (o+1);rw[List.length_cons,List.range'_succ,List.flatMap_cons,wl]
  rw[List.filter_cons_of_pos (by rw[decide_eq_true_eq]; rfl),wl_no (Nat.lt_succ_self _)]
  have e:(List.range' (o+1) l.length).flatMap (fun(w:Nat)=>(f.t o::wl (o+1) l).filter (fun t=>decide (t.2.1=(w:Int))))=wl (o+1) l:=by
   rw[eN (g:=fun(w:Nat)=>(wl (o+1) l).filter (fun t=>decide (t.2.1=(w:Int)))) fun w hw=>?_]
   ·exact ih
   rw[List.filter_cons_of_neg];have:=(List.mem_range'_1.1 hw).1;rw[decide_eq_true_eq];show ¬((o:Int)=(w:Int));omega
  rw[e];rfl
theorem pl_all:∀(n:Nat) (l:List Jb) (lo:Nat),l.Pairwise (fun a b=>a.pl<b.pl)->(∀j∈l,(lo:Int)<=j.pl/\j.pl<(lo:Int)+n)->(List.range' lo n).flatMap (fun(p:Nat)=>l.filter (fun j=>decide (j.pl=(p:Int))))=l
 | 0,l,lo,_,h=>by
  cases l with
  | nil=>simp
  | cons j l=>have:=h j (List.mem_cons_self ..); omega
 | n+1,l,lo,hs,h=>by
  rw[List.range'_succ,List.flatMap_cons]
  cases l with
  | nil=>simp
  | cons j l=>
   have hs':=List.pairwise_cons.1 hs;have hj:=h j (List.mem_cons_self ..)
   by_cases c:j.pl=(lo:Int)
   ·have e1:(j::l).filter (fun j=>decide (j.pl=(lo:Int)))=[j]:=by
     rw[List.filter_cons_of_pos (p:=fun(j:Jb)=>decide (j.pl=(lo:Int))) (decide_eq_true c)]
     congr 1
     rw[List.filter_eq_nil_iff];intro a ha;have:=hs'.1 a ha;rw[decide_eq_true_eq];omega
    have e2:(List.range' (lo+1) n).flatMap (fun(p:Nat)=>(j::l).filter (fun j=>decide (j.pl=(p:Int))))=l:=by
     rw[eN (g:=fun(p:Nat)=>l.filter (fun j=>decide (j.pl=(p:Int)))) fun p hp=>?_]
     ·refine pl_all n l (lo+1) hs'.2 fun a ha=>?_
      have h1:=hs'.1 a ha;have h2:=h a (List.mem_cons_of_mem _ ha);omega
     rw[List.filter_cons_of_neg];have:=(List.mem_range'_1.1 hp).1;rw[decide_eq_true_eq];omega
    rw[e1,e2];rfl
   have e1:(j::l).filter (fun j=>decide (j.pl=(lo:Int)))=[]:=by
    rw[List.filter_eq_nil_iff];intro a ha;rw[decide_eq_true_eq]
    rcases List.mem_cons.1 ha with rfl|ha
    ·exact c
    have:=hs'.1 a ha;omega
   rw[e1,List.nil_append];refine pl_all n (j::l) (lo+1) hs fun a ha=>?_;have h2:=h a ha
   rcases List.mem_cons.1 ha with rfl|ha
   ·omega
   have:=hs'.1 a ha;omega
theorem pl_le1:∀(l:List Jb) (p:Nat),l.Pairwise (fun a b=>a.pl<b.pl)->(l.filter (fun j=>decide (j.pl=(p:Int)))).length<=1
 | [],p,_=>by simp
 | j::l,p,hs=>by
  have hs':=List.pairwise_cons.1 hs
  by_cases c:j.pl=(p:Int)
  ·rw[List.filter_cons_of_pos (p:=fun(j:Jb)=>decide (j.pl=(p:Int))) (decide_eq_true c)]
   have:l.filter (fun j=>decide (j.pl=(p:Int)))=[]:=by
    rw[List.filter_eq_nil_iff];intro a ha;have:=hs'.1 a ha;rw[decide_eq_true_eq];omega
   rw[this]; simp
  rw[List.filter_cons_of_neg (by rw[decide_eq_true_eq]; exact c)]
  exact pl_le1 l p hs'.2
def DF.toldW (D:DF)(w:Nat)(l:List Jb):List f9:=(l.filter fun j=>decide (j.wk=(w:Int))).map fun j=>⟨j.b,w,j.rd,j.lf,bg D.rq j.b false⟩
def DF.toldP (D:DF)(p:Nat)(l:List Jb):List f9:=(l.filter fun j=>decide (j.wk<0) && decide (j.pl=(p:Int))).map fun j=>⟨j.b,-1,-1,0,bg D.rq j.b false⟩
def DF.told (D:DF):List f9:=(List.range D.wk).flatMap (fun w=>D.toldW w D.jb)++(List.range (D.ct+1)).flatMap fun p=>D.toldP p D.jb
section
variable {F:FM}{D:DF}
theorem zip_wl (ws:List dJ):∀(l:List (Option Fl)) (o:Nat),((l.zipIdx o).filterMap fun(p:Option Fl × Nat)=>p.1.map fun fl=>(⟨fl.b,p.2,fl.reads,fl.left,aC ws fl.b⟩:f9))=(wl o l).map fun t=>⟨t.1,t.2.1,t.2.2.1,t.2.2.2,aC ws t.1⟩
 | [],o=>by simp[wl]
 | none::l,o=>by
  rw[List.zipIdx_cons,List.filterMap_cons];exact zip_wl ws l (o+1)
 | some f::l,o=>by
  rw[List.zipIdx_cons,List.filterMap_cons,wl,List.map_cons];exact congrArg _ (zip_wl ws l (o+1))
theorem fC.told (h:fC F D):F.told=D.told:=by
 obtain⟨LL,BB,hj⟩:=h.job;unfold FM.told DF.told
 congr 1
 ·have e0:=zip_wl F.waiting F.wks 0
  rw[show(F.wks.zipIdx.filterMap fun(x:Option Fl × Nat)=>match x with
   | (o,i)=>o.map fun fl=>(⟨fl.b,i,fl.reads,fl.left,aC F.waiting fl.b⟩:f9))=_ from e0]
  have e1:∀w∈List.range D.wk,D.toldW w D.jb=((wl 0 F.wks).filter (fun t=>decide (t.2.1=(w:Int)))).map fun t=>⟨t.1,t.2.1,t.2.2.1,t.2.2.2,aC F.waiting t.1⟩:=by
   intro w _
   have p1:((D.jb.filter fun j=>decide (j.wk=(w:Int))).map Jb.t).Perm ((wl 0 F.wks).filter (fun t=>decide (t.2.1=(w:Int)))):=by
    have q1:=((hj.perm.filter fun j=>decide (j.wk=(w:Int)))).map Jb.t;rw[List.filter_append] at q1
    have q2:LL.filter (fun j=>decide (j.wk=(w:Int)))=[]:=by
     rw[List.filter_eq_nil_iff];intro a ha;have:=(hj.lin a ha).1;rw[decide_eq_true_eq];omega
    rw[q2,List.nil_append] at q1;refine q1.trans ?_;have q3:=hj.wks.filter fun t=>decide (t.2.1=(w:Int));rw[List.filter_map] at q3;exact q3
   have p2:=perm_one p1 (wl_le1 _ _ _);rw[<-p2,List.map_map];unfold DF.toldW
   apply List.map_congr_left
   intro j hj';have hw:=of_decide_eq_true (List.mem_filter.1 hj').2;show(⟨j.b,(w:Int),j.rd,j.lf,(bg D.rq j.b false:Int)⟩:f9)=⟨j.b,j.wk,j.rd,j.lf,(aC F.waiting j.b:Int)⟩;rw[h.wai,jG,hw]
  rw[eN e1,<-List.map_flatMap]
  congr 1
  rw[<-h.wk,List.range_eq_range'];exact(wl_all F.wks 0).symm
 have e1:∀p∈List.range (D.ct+1),D.toldP p D.jb=(LL.filter (fun j=>decide (j.pl=(p:Int)))).map fun j=>⟨j.b,-1,-1,0,aC F.waiting j.b⟩:=by
  intro p _
  have p1:(D.jb.filter fun j=>decide (j.wk<0) && decide (j.pl=(p:Int))).Perm (LL.filter (fun j=>decide (j.pl=(p:Int)))):=by
   have q1:=hj.perm.filter fun j=>decide (j.wk<0) && decide (j.pl=(p:Int));rw[List.filter_append] at q1
   have q2:BB.filter (fun j=>decide (j.wk<0) && decide (j.pl=(p:Int)))=[]:=by
    rw[List.filter_eq_nil_iff];intro a ha;have:=hj.bb0 ha
    rw[decide_eq_false (by omega)]
    simp
   rw[q2,List.append_nil] at q1
   have q3:LL.filter (fun j=>decide (j.wk<0) && decide (j.pl=(p:Int)))=LL.filter (fun j=>decide (j.pl=(p:Int))):=by
    apply List.filter_congr
    intro a ha;have:=(hj.lin a ha).1
    rw[decide_eq_true (by omega),Bool.true_and]
   rw[q3] at q1;exact q1
  have p2:=perm_one p1 (pl_le1 _ _ hj.srt);unfold DF.toldP;rw[p2]
  apply List.map_congr_left
  intro j _;rw[h.wai,jG]
 rw[eN e1,<-List.map_flatMap,List.range_eq_range',pl_all (D.ct+1) LL 0 hj.srt (fun j hj'=>by have:=(hj.lin j hj').2; omega),<-hj.line,List.map_map]
 rfl
def gC (jb:List Jb):Nat:=jb.countP fun j=>decide (j.wk<0)
theorem fC.line (h:fC F D):F.line.length=gC D.jb/\(F.busy:Int)=(D.jb.length:Int)-gC D.jb:=by
 have hl:=h.jlen;obtain⟨LL,BB,hj⟩:=h.job
 have e:gC D.jb=LL.length:=by
  unfold gC;rw[hj.perm.countP_eq,List.countP_append]
  have q1:LL.countP (fun j=>decide (j.wk<0))=LL.length:=by
   rw[List.countP_eq_length];intro a ha;have:=(hj.lin a ha).1
   exact decide_eq_true (by omega)
  have q2:BB.countP (fun j=>decide (j.wk<0))=0:=by
   rw[List.countP_eq_zero];intro a ha;have:=hj.bb0 ha;rw[decide_eq_true_eq];omega
  rw[q1,q2,Nat.add_zero]
 have e2:LL.length=F.line.length:=by rw[<-hj.line,List.length_map]
 rw[busy_fls]
 constructor
 ·omega
 omega
theorem fC.look (h:fC F D)(b:K4):F.ver=D.bs.length/\F.now=D.now/\F.arrived=D.rq.length/\F.waiting.length=bg D.rq b true/\F.line.length=gC D.jb/\(F.busy:Int)=(D.jb.length:Int)-gC D.jb/\F.tiles.length=D.en.length/\aA F.tiles=aY D.en/\F.started=D.st:=
 ⟨h.ver,h.now,h.arr,by rw[h.wai]; exact om _ _ _,h.line.1,h.line.2,h.elen.1.symm,h.elen.2.symm,h.st⟩
end
theorem ed (f:Ft){j:Nat}(h:j<24):nf f j=f j:=iQ f j h
theorem nf_zf:nf zf=zf:=by funext j; simp[nf,zf]
theorem edge_nf {f:Ft}{n:Int}{k:Nat}(hn:n<=8)(hk:(k:Int)<n)(x y:Int):ig (nf f) n k x y=ig f n k x y:=by
 unfold ig
 have e1:=ed f (j:=8+k) (by omega)
 have e2:=ed f (j:=16+k) (by omega)
 by_cases c:n<=(k:Int)+1
 ·rw[if_pos c,e1,e2,ed f (j:=8+0) (by omega),ed f (j:=16+0) (by omega)]
 rw[if_neg c,e1,e2,ed f (j:=8+(k+1)) (by omega),ed f (j:=16+(k+1)) (by omega)]
theorem par_nf {f:Ft}{n:Int}(hn:n<=8)(x y:Int):∀k:Nat,(k:Int)<=n->lQ (nf f) n x y k=lQ f n x y k
 | 0,_=>rfl
 | k+1,h=>by rw[lQ,lQ,par_nf hn x y k (by omega),edge_nf hn (by omega)]
theorem cov_nf {f:Ft}(h:Rt f)(u x y:Int):jZ (nf f) u x y=jZ f u x y:=by
 unfold jZ
 rw[ed f (j:=2) (by omega),ed f (j:=8) (by omega),ed f (j:=16) (by omega),ed f (j:=6) (by omega),ed f (j:=7) (by omega)]
 have h7:0<=f 7/\f 7<=8:=by rcases h.kind with q|q<;>omega
 rw[par_nf h7.2 x y _ (by omega)]
theorem isAb_nf (a b:Ft):fM (nf a) (nf b)=fM a b:=by
 unfold fM
 rw[ed a (j:=0) (by omega),ed b (j:=0) (by omega),ed a (j:=4) (by omega),ed b (j:=4) (by omega)]
theorem top_nf {L:List Ft}(hr:∀i,i<L.length->Rt (gf L i))(l z u px py:Int):∀k,k<=L.length->fO (gf (L.map nf)) l z u px py k=nf (fO (gf L) l z u px py k)
 | 0,_=>nf_zf.symm
 | k+1,hk=>by
  have hs:iw (nf (gf L k)) l z=iw (gf L k) l z:=by
   unfold iw
   rw[ed _ (j:=1) (by omega),ed _ (j:=5) (by omega)]
  rw[fO,fO,top_nf hr l z u px py k (by omega),fE (by omega),hs,isAb_nf,cov_nf (hr k (by omega))]
  cases (iw (gf L k) l z && !fM (fO (gf L) l z u px py k) (gf L k) && jZ (gf L k) u px py)<;>rfl
theorem bodyB_nf {L:List Ft}(hr:∀i,i<L.length->Rt (gf L i))(k:K4):cg (L.map nf) k=cg L k:=by
 have hp:kP (gf (L.map nf)) (L.map nf).length k.l k.z k.x k.y 64=kP (gf L) L.length k.l k.z k.x k.y 64:=by
  unfold kP
  apply List.map_congr_left
  intro p _;unfold ink
  rw[List.length_map,top_nf hr _ _ _ _ _ _ aD,ed _ (j:=3) (by omega)]
 unfold cg tile;rw[hp]
theorem vs_of {LS:List Ft}{bs:List bK}{FLs:Nat->List Ft}(h:PR LS bs)(hF:∀v:Nat,v<=bs.length->FLs v=(dk bs v).map nf):Vs LS FLs bs:=by
 refine⟨fun v hv k=>?_,fun v hv k _=>?_,fun v hv=>?_⟩
 ·unfold eA fB
  exact h.stm v hv k.l k.z k.x k.y
 ·rw[hF v hv]
  exact bodyB_nf (h.rel v hv).rt k
 rw[hF v hv,List.length_map]
theorem fver_of {LS:List Ft}{bs:List bK}{FLs:Nat->List Ft}(h:PR LS bs)(hF:∀v:Nat,v<=bs.length->FLs v=(dk bs v).map nf):FVer LS bs.length FLs:=by
 refine⟨fun v hv=>?_,?_,h.bnd,h.le⟩
 ·rw[hF v hv]
  exact⟨relV_nf (h.rel v hv),oT _⟩
 rw[hF _ aD];exact rel_nf h.now
theorem bsok_of {LS:List Ft}{bs:List bK}(h:PR LS bs)(h8:∀k,k<bs.length->(ff bs k).length<=8):ke bs:=⟨h.max,h8,fun v hv=>(h.rel v hv).rt⟩
theorem ah.past {α β:Type}{R:dR α}{R':dR β}{T T':TypeId}{w w3:World}{v u x:Value}{l:List α}{L:List β}{ob i:Nat}{c:Array Value}{o:Obj}(h:ah R T w v l)(hu:ah R' T' w u L)(hT:T≠T')(hb:w.heap[ob]?=some (.cells c 33))(hT2:T≠33)(r3:(w.alloc o).grownBy w3 u.ownBlock):ah R T (w3.setCell ⟨ob,i,none⟩ x) v l:=by
 refine h.same fun g hg=>?_;obtain⟨c1,e1⟩:=h.ty hg
 rw[Below.heap_setCell _ _ _ _ (aI e1 hb hT2),r3.block g (by have:=h.lt hg; simp; omega) (fun q=>?_),heap_alloc_old w _ (h.lt hg)]
 obtain⟨c2,e2⟩:=hu.ty q.symm;exact aI e1 e2 hT rfl
theorem cu {β:Type}{R':dR β}{T':TypeId}{w w3:World}{u:Value}{L:List β}{ob:Nat}{c:Array Value}{o:Obj}(hu:ah R' T' w u L)(hT:T'≠33)(hb:w.heap[ob]?=some (.cells c 33))(r3:(w.alloc o).grownBy w3 u.ownBlock):w3.heap[ob]?=some (.cells c 33):=by
 rw[r3.block ob (by have:=an hb; simp; omega) (fun q=>?_),heap_alloc_old w _ (an hb)]
 ·exact hb
 obtain⟨c2,e2⟩:=hu.ty q.symm;exact aI e2 hb hT rfl
theorem getElem?_snoc {α:Type}{l:List α}{a b:α}{j:Nat}(h:(l++[a])[j]?=some b):l[j]?=some b\/(j=l.length/\a=b):=by
 rcases Nat.lt_or_ge j l.length with c|c
 ·rw[List.getElem?_append_left c] at h; exact Or.inl h
 rw[List.getElem?_append_right c] at h
 cases e:j-l.length with
 | zero=>rw[e] at h; simp at h; exact Or.inr ⟨by omega,h⟩
 | succ m=>rw[e] at h; simp at h
theorem built66 (n:Nat):prog.built 66 [(0,.int .i64 (ei n))]=some (fc (oP n)):=by kernel_rfl
theorem run_bF (n:Nat)(A:Act)(o:Oper)(x:Operand)(ho:o.op=.build 66 #[(0,x)])(hx:A.eval x=.int .i64 (ei n))(w:World):(execOp A.eval o).run prog w=.ok (.value (.agg (fc (oP n)))) w:=by
 have hb:=run_build (P:=prog) w 66 #[(0,.int .i64 (ei n))] (fc (oP n)) (built66 n);unfold execOp;simp[ho,hx,hb]
theorem built100 (n:Nat):prog.built 100 [(0,.int .i64 (ei n))]=some (cc 25 (owE n)):=by kernel_rfl
theorem run_bE (n:Nat)(A:Act)(o:Oper)(x:Operand)(ho:o.op=.build 100 #[(0,x)])(hx:A.eval x=.int .i64 (ei n))(w:World):(execOp A.eval o).run prog w=.ok (.value (.agg (cc 25 (owE n)))) w:=by
 have hb:=run_build (P:=prog) w 100 #[(0,.int .i64 (ei n))] (cc 25 (owE n)) (built100 n);unfold execOp;simp[ho,hx,hb]
section
variable {w w1 w3:World}{ob:Nat}{V:OV}{IS FS RS GS ES:List cA}{v:Value}
theorem bA.fillI {l:List _}(h:bA w ob V IS FS RS GS ES)(hv:ah rI 3 w v l)(hF:aE (fun k=>v.ownBlock=some k) w w1)(hd:∀s∈IS,∀g,s.v.ownBlock=some g->v.ownBlock≠some g):bA w1 ob V IS FS RS GS ES:=by
 have ne:∀{c:Array Value} {U:TypeId} {k:Nat},w.heap[k]?=some (.cells c U (0,0))->U≠3->¬v.ownBlock=some k:=fun e hU q=>by
  obtain⟨c2,e2⟩:=hv.ty q;exact aI e e2 hU rfl
 refine h.frm hF fun k hk=>?_
 rcases hk with rfl|q|q|q|q|q|⟨s,hs,q⟩
 ·exact ne h.blk (by decide)
 ·obtain⟨c,e⟩:=h.i.ty q; exact ne e (by decide)
 ·obtain⟨c,e⟩:=h.f.ty q; exact ne e (by decide)
 ·obtain⟨c,e⟩:=h.r.ty q; exact ne e (by decide)
 ·obtain⟨c,e⟩:=h.g.ty q; exact ne e (by decide)
 ·obtain⟨c,e⟩:=h.e.ty q; exact ne e (by decide)
 rcases hs with hs|hs|hs|hs|hs
 ·exact hd s hs k q
 ·obtain⟨j,hj⟩:=List.mem_iff_getElem?.1 hs; obtain⟨c,e⟩:=(h.fl j s hj).ty q; exact ne e (by decide)
 ·obtain⟨j,hj⟩:=List.mem_iff_getElem?.1 hs; obtain⟨c,e⟩:=(h.rl j s hj).ty q; exact ne e (by decide)
 ·obtain⟨j,hj⟩:=List.mem_iff_getElem?.1 hs; obtain⟨c,e⟩:=(h.gl j s hj).ty q; exact ne e (by decide)
 obtain⟨j,hj⟩:=List.mem_iff_getElem?.1 hs; obtain⟨c,e⟩:=(h.el j s hj).ty q; exact ne e (by decide)
theorem bA.addI {s:cA}{x:Value}{o:Obj}(h:bA w ob V IS FS RS GS ES)(r2:ah cq 60 w3 x (IS++[s]))(r3:(w.alloc o).grownBy w3 V.iv.ownBlock)(hs:ah rI 3 w s.v (List.replicate s.n (ei IS.length))):
  bA (w3.setCell ⟨ob,0,none⟩ x) ob { V with iv:=x } (IS++[s]) FS RS GS ES:=by
 have hb:=cu (c:=V.a) h.i (by decide) h.blk r3
 refine⟨?_,r2.same fun g hg=>Below.heap_setCell _ _ _ _ (by obtain⟨c1,e1⟩:=r2.ty hg; exact aI e1 hb (by decide)),h.f.past h.i (by decide) h.blk (by decide) r3,h.r.past h.i (by decide) h.blk (by decide) r3,h.g.past h.i (by decide) h.blk (by decide) r3,h.e.past h.i (by decide) h.blk (by decide) r3,?_,?_,?_,?_,?_⟩
 ·show(w3.setCell ⟨ob,0,none⟩ x).heap[ob]?=_
  simp[World.setCell,Array.getElem?_modify,hb];rfl
 ·intro j t ht
  rcases getElem?_snoc ht with q|⟨rfl,rfl⟩
  ·exact(h.il j t q).past h.i (by decide) h.blk (by decide) r3
  exact hs.past h.i (by decide) h.blk (by decide) r3
 ·exact fun j t ht=>(h.fl j t ht).past h.i (by decide) h.blk (by decide) r3
 ·exact fun j t ht=>(h.rl j t ht).past h.i (by decide) h.blk (by decide) r3
 ·exact fun j t ht=>(h.gl j t ht).past h.i (by decide) h.blk (by decide) r3
 exact fun j t ht=>(h.el j t ht).past h.i (by decide) h.blk (by decide) r3
def KeptI (w:World)(ob:Nat)(V:OV)(IS FS RS GS ES:List cA)(v:Value)(e:Ending)(w':World):Prop:=
 e=.returned (.tuple #[])/\∃(s:cA) (x:Value),s.v.ownBlock=v.ownBlock/\bA w' ob { V with iv:=x } (IS++[s]) FS RS GS ES/\aE (fun k=>k=ob\/V.iv.ownBlock=some k\/v.ownBlock=some k) w w'/\(x.ownBlock=V.iv.ownBlock\/∀g,x.ownBlock=some g->w.heap.size<=g)
theorem keepI_any {l:List _}(h:bA w ob V IS FS RS GS ES)(hv:ah rI 3 w v l)(hd:∀s∈IS,∀g,s.v.ownBlock=some g->v.ownBlock≠some g)(hl:IS.length<=10000000):
  Calls prog 60 #[.pointer (some ⟨ob,0,none⟩),v] w fun e w'=>KeptI w ob V IS FS RS GS ES v e w':=by
 obtain⟨a0,k0,hiv⟩:=h.i.slice
 have c0:w.cell? ⟨ob,0,none⟩=some (.slice a0 IS.length k0):=by rw[h.cells 0,<-hiv]; rfl
 have hob:=an h.blk;obtain⟨N,hN⟩:∃N,IS.length=N:=⟨_,rfl⟩;rw[hN] at c0 hl
 rcases hv with⟨rfl,rfl⟩|⟨g,off,cap,cur,rfl,hh,h1,h2,h3,h4⟩
 ·obtain⟨x,w3,r1,r2,r3,r4⟩:=ap27 (h.i.on (bu.alloc aD (.cells #[.slice none 0 0] 60))) (aZ cq 60 w ⟨none,0,0⟩ #[.slice none 0 0] rfl) (by simp; omega)
  obtain⟨xa,xn,xc,rfl⟩:=r2.slc
  have hb3:=cu (c:=V.a) h.i (by decide) h.blk r3
  have c3:w3.cell? ⟨ob,0,none⟩=V.a[0]?:=af hb3 0
  have c4:w3.cell? ⟨ob,0,none⟩=some (.slice a0 N k0):=by rw[c3,<-hN,<-hiv]; rfl
  have fz:=bi hb3 0
  have HH:Hid (KeptI w ob V IS FS RS GS ES (.slice none 0 0) (.returned (.tuple #[])) (w3.setCell ⟨ob,0,none⟩ (.slice xa xn xc))):=by
   refine⟨rfl,⟨none,0,0⟩,_,rfl,h.addI r2 r3 (Or.inl ⟨rfl,rfl⟩),((cn bu r3).mono fun _ _ q=>Or.inr (Or.inl q)).setCell _ (fun _=>Or.inl rfl),?_⟩
   rcases r4 with r4|r4
   ·exact Or.inl r4
   exact Or.inr fun g hg=>by have q1:=r4 g hg; simp at q1; omega
  rw[hiv,hN] at r1;clear r2 r3 r4 hb3 c3 h hd hiv hN;go_enter func60,ntmps60
  go_wp2_with fail
  go_loopw [5] (fun i wr=>i=.int .i64 0/\wr=w) (fun _ _=>0)
  case atStart=>exact⟨rfl,rfl⟩
  case round=>
   obtain⟨rfl,rfl⟩:=hrel
   go_wp2_with (first|refine cP _ _ (bsS27 none 0 0 _ _ _ rfl rfl _) rfl ?_|(at_builtin; refine fS 27 r1 rfl _ _ rfl rfl rfl rfl ?_))
   exact bodyPost_end (results_none results60 _ _ _) rfl (aa HH)
 have hv:ah rI 3 w (.slice (some ⟨g,off,none⟩) l.length cap) l:=Or.inr ⟨g,off,cap,cur,rfl,hh,h1,h2,h3,h4⟩;have hgl:=an hh
 have hgo:ob≠g:=(aI h.blk hh (by decide))
 have HF0:=ae (lw.zero (x:=ei N) hv);have HV:=ae hv;have HI:=ae h;have HD:=ae hd
 have hlc:(l.length:Int)<=cap:=by omega
 have h2':(cap:Int)<=9223372036854775807:=by unfold maxLen at h2; omega
 have HM:=ae h2;have HIV:=ae hiv;have HN:=ae hN;clear hv hh h3 h4 h hd h2 hiv hN;go_enter func60,ntmps60
 go_wp2_with fail
 go_loopw [5] (fun i wr=>∃k:Nat,k<=cap/\i=.int .i64 k/\Hid (lw rI 3 wr g off cap k (ei N))/\Hid (w.grownBy wr (some g))) (fun i _=>cap-(intOf i).toNat)
 case atStart=>exact⟨0,by omega,rfl,HF0,ae (World.grownBy.refl _ _)⟩
 case round=>
  obtain⟨k,hk,rfl,hF,hG⟩:=hrel
  have r0:wr.cell? ⟨ob,0,none⟩=some (.slice a0 N k0):=by
   rw[World.cell?_of_block (a:=⟨ob,0,none⟩) ((aa hG).block ob hob (fun q=>by cases q; exact hgo rfl))]; exact c0
  by_cases hlk:k<cap
  ·have hkn:(k:Int)<cap:=by omega
   have OW:=ae (fun W=>eC N W (by omega))
   have HS:=(aa hF).step hlk;have HG2:Hid (w.grownBy (wr.setCells g (off+k*1) (rI.enc (ei N))) (some g)):=⟨HS.2.os.trans (aa hG).os,HS.2.tape.trans (aa hG).tape,HS.2.output.trans (aa hG).output,Nat.le_trans (aa hG).size HS.2.size,fun q hq hne=>(HS.2.block q (Nat.lt_of_lt_of_le hq (aa hG).size) hne).trans ((aa hG).block q hq hne)⟩;have HF2:Hid (lw rI 3 (wr.setCells g (off+k*1) (rI.enc (ei N))) g off cap (k+1) (ei N)):=HS.1;have hth:wr.there g (off+k*1) 1:=(aa hF).there hlk
   obtain⟨u,hu⟩:∃u,wr.cell? ⟨g,off+k,none⟩=some u:=by
    have:=(hth 0 (by omega)).1
    rw[Nat.mul_one,Nat.add_zero] at this;exact Option.isSome_iff_exists.1 this
   have fz:wr.frozen? ⟨g,off+k,none⟩=false:=by
    have:=(hth 0 (by omega)).2
    rwa [Nat.mul_one,Nat.add_zero] at this
   rw[Nat.mul_one] at HG2 HF2;clear HS hth
   go_wp2_with fail
   refine(aa OW _).mono ?_;rintro e w5 ⟨rfl,rfl⟩
   go_wp2_with fail
   go_roundw
   case rel=>exact⟨k+1,by omega,by go_num,HF2,HG2⟩
   case measure=>simp[intOf]; omega
  have hkn:k=cap:=by omega
  subst hkn
  have hFr:aE (fun q=>(Value.slice (some ⟨g,off,none⟩) l.length k).ownBlock=some q) w wr:=(aE.rfl' _ w).grown (aa hG) fun q hq _=>by cases hq; rfl
  have h1:=(aa HI).fillI (aa HV) hFr (aa HD);have hsN:ah rI 3 wr (cA.v ⟨some ⟨g,off,none⟩,k,k⟩) (List.replicate k (ei N)):=(aa hF).own (aa HM)
  obtain⟨x,w3,r1,r2,r3,r4⟩:=ap27 (h1.i.on (bu.alloc aD (.cells #[.slice (some ⟨g,off,none⟩) k k] 60))) (aZ cq 60 wr ⟨some ⟨g,off,none⟩,k,k⟩ #[.slice (some ⟨g,off,none⟩) k k] rfl) (by have:=aa HN; simp; omega)
  obtain⟨xa,xn,xc,rfl⟩:=r2.slc
  have hb3:=cu (c:=V.a) h1.i (by decide) h1.blk r3
  have c3:w3.cell? ⟨ob,0,none⟩=V.a[0]?:=af hb3 0
  have c4:w3.cell? ⟨ob,0,none⟩=some (.slice a0 N k0):=by rw[c3,<-aa HN,<-aa HIV]; rfl
  have fz:=bi hb3 0;have hsz:=(aa hG).size
  have HH:Hid (KeptI w ob V IS FS RS GS ES (.slice (some ⟨g,off,none⟩) l.length k) (.returned (.tuple #[])) (w3.setCell ⟨ob,0,none⟩ (.slice xa xn xc))):=by
   refine⟨rfl,⟨some ⟨g,off,none⟩,k,k⟩,_,rfl,h1.addI r2 r3 (by rw[aa HN]; exact hsN),((hFr.mono fun _ _ q=>Or.inr (Or.inr q)).then (cn bu r3) fun _ _ q=>Or.inr (Or.inl q)).setCell _ (fun _=>Or.inl rfl),?_⟩
   rcases r4 with r4|r4
   ·exact Or.inl r4
   exact Or.inr fun g hg=>by have q1:=r4 g hg; simp at q1; omega
  rw[aa HIV,aa HN] at r1;clear r2 r3 r4 hb3 c3 h1 hFr hsN
  go_wp2_with (first|refine cP _ _ (bsS27 (some ⟨g,off,none⟩) k k _ _ _ rfl rfl _) rfl ?_|(at_builtin; refine fS 27 r1 rfl _ _ rfl rfl rfl rfl ?_))
  exact bodyPost_end (results_none results60 _ _ _) rfl (aa HH)
end
section
variable {w w1 w3:World}{ob:Nat}{V:OV}{IS FS RS GS ES:List cA}{v:Value}
theorem bA.fillF {l:List _}(h:bA w ob V IS FS RS GS ES)(hv:ah rF 66 w v l)(hF:aE (fun k=>v.ownBlock=some k) w w1)(hd:∀s∈FS,∀g,s.v.ownBlock=some g->v.ownBlock≠some g):bA w1 ob V IS FS RS GS ES:=by
 have ne:∀{c:Array Value} {U:TypeId} {k:Nat},w.heap[k]?=some (.cells c U (0,0))->U≠66->¬v.ownBlock=some k:=fun e hU q=>by
  obtain⟨c2,e2⟩:=hv.ty q;exact aI e e2 hU rfl
 refine h.frm hF fun k hk=>?_
 rcases hk with rfl|q|q|q|q|q|⟨s,hs,q⟩
 ·exact ne h.blk (by decide)
 ·obtain⟨c,e⟩:=h.i.ty q; exact ne e (by decide)
 ·obtain⟨c,e⟩:=h.f.ty q; exact ne e (by decide)
 ·obtain⟨c,e⟩:=h.r.ty q; exact ne e (by decide)
 ·obtain⟨c,e⟩:=h.g.ty q; exact ne e (by decide)
 ·obtain⟨c,e⟩:=h.e.ty q; exact ne e (by decide)
 rcases hs with hs|hs|hs|hs|hs
 ·obtain⟨j,hj⟩:=List.mem_iff_getElem?.1 hs; obtain⟨c,e⟩:=(h.il j s hj).ty q; exact ne e (by decide)
 ·exact hd s hs k q
 ·obtain⟨j,hj⟩:=List.mem_iff_getElem?.1 hs; obtain⟨c,e⟩:=(h.rl j s hj).ty q; exact ne e (by decide)
 ·obtain⟨j,hj⟩:=List.mem_iff_getElem?.1 hs; obtain⟨c,e⟩:=(h.gl j s hj).ty q; exact ne e (by decide)
 obtain⟨j,hj⟩:=List.mem_iff_getElem?.1 hs; obtain⟨c,e⟩:=(h.el j s hj).ty q; exact ne e (by decide)
theorem bA.addF {s:cA}{x:Value}{o:Obj}(h:bA w ob V IS FS RS GS ES)(r2:ah cq 62 w3 x (FS++[s]))(r3:(w.alloc o).grownBy w3 V.fv.ownBlock)(hs:ah rF 66 w s.v (List.replicate s.n (oP FS.length))):
  bA (w3.setCell ⟨ob,1,none⟩ x) ob { V with fv:=x } IS (FS++[s]) RS GS ES:=by
 have hb:=cu (c:=V.a) h.f (by decide) h.blk r3
 refine⟨?_,h.i.past h.f (by decide) h.blk (by decide) r3,r2.same fun g hg=>Below.heap_setCell _ _ _ _ (by obtain⟨c1,e1⟩:=r2.ty hg; exact aI e1 hb (by decide)),h.r.past h.f (by decide) h.blk (by decide) r3,h.g.past h.f (by decide) h.blk (by decide) r3,h.e.past h.f (by decide) h.blk (by decide) r3,?_,?_,?_,?_,?_⟩
 ·show(w3.setCell ⟨ob,1,none⟩ x).heap[ob]?=_
  simp[World.setCell,Array.getElem?_modify,hb];rfl
 ·exact fun j t ht=>(h.il j t ht).past h.f (by decide) h.blk (by decide) r3
 ·intro j t ht
  rcases getElem?_snoc ht with q|⟨rfl,rfl⟩
  ·exact(h.fl j t q).past h.f (by decide) h.blk (by decide) r3
  exact hs.past h.f (by decide) h.blk (by decide) r3
 ·exact fun j t ht=>(h.rl j t ht).past h.f (by decide) h.blk (by decide) r3
 ·exact fun j t ht=>(h.gl j t ht).past h.f (by decide) h.blk (by decide) r3
 exact fun j t ht=>(h.el j t ht).past h.f (by decide) h.blk (by decide) r3
def KeptF (w:World)(ob:Nat)(V:OV)(IS FS RS GS ES:List cA)(v:Value)(e:Ending)(w':World):Prop:=
 e=.returned (.tuple #[])/\∃(s:cA) (x:Value),s.v.ownBlock=v.ownBlock/\bA w' ob { V with fv:=x } IS (FS++[s]) RS GS ES/\aE (fun k=>k=ob\/V.fv.ownBlock=some k\/v.ownBlock=some k) w w'/\(x.ownBlock=V.fv.ownBlock\/∀g,x.ownBlock=some g->w.heap.size<=g)
theorem keepF_any {l:List _}(h:bA w ob V IS FS RS GS ES)(hv:ah rF 66 w v l)(hd:∀s∈FS,∀g,s.v.ownBlock=some g->v.ownBlock≠some g)(hl:FS.length<=10000000):
  Calls prog 37 #[.pointer (some ⟨ob,0,none⟩),v] w fun e w'=>KeptF w ob V IS FS RS GS ES v e w':=by
 obtain⟨a0,k0,hiv⟩:=h.f.slice
 have c0:w.cell? ⟨ob,1,none⟩=some (.slice a0 FS.length k0):=by rw[h.cells 1,<-hiv]; rfl
 have hob:=an h.blk;obtain⟨N,hN⟩:∃N,FS.length=N:=⟨_,rfl⟩;rw[hN] at c0 hl
 rcases hv with⟨rfl,rfl⟩|⟨g,off,cap,cur,rfl,hh,h1,h2,h3,h4⟩
 ·obtain⟨x,w3,r1,r2,r3,r4⟩:=ap28 (h.f.on (bu.alloc aD (.cells #[.slice none 0 0] 62))) (aZ cq 62 w ⟨none,0,0⟩ #[.slice none 0 0] rfl) (by simp; omega)
  obtain⟨xa,xn,xc,rfl⟩:=r2.slc
  have hb3:=cu (c:=V.a) h.f (by decide) h.blk r3
  have c3:w3.cell? ⟨ob,1,none⟩=V.a[1]?:=af hb3 1
  have c4:w3.cell? ⟨ob,1,none⟩=some (.slice a0 N k0):=by rw[c3,<-hN,<-hiv]; rfl
  have fz:=bi hb3 1
  have HH:Hid (KeptF w ob V IS FS RS GS ES (.slice none 0 0) (.returned (.tuple #[])) (w3.setCell ⟨ob,1,none⟩ (.slice xa xn xc))):=by
   refine⟨rfl,⟨none,0,0⟩,_,rfl,h.addF r2 r3 (Or.inl ⟨rfl,rfl⟩),((cn bu r3).mono fun _ _ q=>Or.inr (Or.inl q)).setCell _ (fun _=>Or.inl rfl),?_⟩
   rcases r4 with r4|r4
   ·exact Or.inl r4
   exact Or.inr fun g hg=>by have q1:=r4 g hg; simp at q1; omega
  rw[hiv,hN] at r1;clear r2 r3 r4 hb3 c3 h hd hiv hN;go_enter func37,ntmps37
  go_wp2_with fail
  go_loopw [5] (fun i wr=>i=.int .i64 0/\wr=w) (fun _ _=>0)
  case atStart=>exact⟨rfl,rfl⟩
  case round=>
   obtain⟨rfl,rfl⟩:=hrel
   go_wp2_with (first|refine cP _ _ (bsS28 none 0 0 _ _ _ rfl rfl _) rfl ?_|(at_builtin; refine fS 28 r1 rfl _ _ rfl rfl rfl rfl ?_))
   exact bodyPost_end (results_none results37 _ _ _) rfl (aa HH)
 have hv:ah rF 66 w (.slice (some ⟨g,off,none⟩) l.length cap) l:=Or.inr ⟨g,off,cap,cur,rfl,hh,h1,h2,h3,h4⟩;have hgl:=an hh
 have hgo:ob≠g:=(aI h.blk hh (by decide))
 have HF0:=ae (lw.zero (x:=oP N) hv);have HV:=ae hv;have HI:=ae h;have HD:=ae hd
 have hlc:(l.length:Int)<=cap:=by omega
 have h2':(cap:Int)<=9223372036854775807:=by unfold maxLen at h2; omega
 have HM:=ae h2;have HIV:=ae hiv;have HN:=ae hN;clear hv hh h3 h4 h hd h2 hiv hN;go_enter func37,ntmps37
 go_wp2_with fail
 go_loopw [5] (fun i wr=>∃k:Nat,k<=cap/\i=.int .i64 k/\Hid (lw rF 66 wr g off cap k (oP N))/\Hid (w.grownBy wr (some g))) (fun i _=>cap-(intOf i).toNat)
 case atStart=>exact⟨0,by omega,rfl,HF0,ae (World.grownBy.refl _ _)⟩
 case round=>
  obtain⟨k,hk,rfl,hF,hG⟩:=hrel
  have r0:wr.cell? ⟨ob,1,none⟩=some (.slice a0 N k0):=by
   rw[World.cell?_of_block (a:=⟨ob,1,none⟩) ((aa hG).block ob hob (fun q=>by cases q; exact hgo rfl))]; exact c0
  by_cases hlk:k<cap
  ·have hkn:(k:Int)<cap:=by omega
   have OW:=ae (fun W=>eC N W (by omega))
   have HS:=(aa hF).step hlk;have HG2:Hid (w.grownBy (wr.setCells g (off+k*24) (rF.enc (oP N))) (some g)):=⟨HS.2.os.trans (aa hG).os,HS.2.tape.trans (aa hG).tape,HS.2.output.trans (aa hG).output,Nat.le_trans (aa hG).size HS.2.size,fun q hq hne=>(HS.2.block q (Nat.lt_of_lt_of_le hq (aa hG).size) hne).trans ((aa hG).block q hq hne)⟩;have HF2:Hid (lw rF 66 (wr.setCells g (off+k*24) (rF.enc (oP N))) g off cap (k+1) (oP N)):=HS.1;have hth:wr.there g (off+k*24) 24:=(aa hF).there hlk;clear HS
   go_wp2_with fail
   refine(aa OW _).mono ?_;rintro e w5 ⟨rfl,rfl⟩
   go_wp2_with (first|refine cP _ _ (run_bF N _ _ _ rfl rfl _) rfl ?_|refine wpList_store_mid rfl 66 _ _ rfl g (off+k*24) (fc (oP N)) rfl rfl (by rw[dX]; exact hth) (gK _) (fc_one _) ?_)
   go_roundw
   case rel=>exact⟨k+1,by omega,by go_num,HF2,HG2⟩
   case measure=>simp[intOf]; omega
  have hkn:k=cap:=by omega
  subst hkn
  have hFr:aE (fun q=>(Value.slice (some ⟨g,off,none⟩) l.length k).ownBlock=some q) w wr:=(aE.rfl' _ w).grown (aa hG) fun q hq _=>by cases hq; rfl
  have h1:=(aa HI).fillF (aa HV) hFr (aa HD);have hsN:ah rF 66 wr (cA.v ⟨some ⟨g,off,none⟩,k,k⟩) (List.replicate k (oP N)):=(aa hF).own (aa HM)
  obtain⟨x,w3,r1,r2,r3,r4⟩:=ap28 (h1.f.on (bu.alloc aD (.cells #[.slice (some ⟨g,off,none⟩) k k] 62))) (aZ cq 62 wr ⟨some ⟨g,off,none⟩,k,k⟩ #[.slice (some ⟨g,off,none⟩) k k] rfl) (by have:=aa HN; simp; omega)
  obtain⟨xa,xn,xc,rfl⟩:=r2.slc
  have hb3:=cu (c:=V.a) h1.f (by decide) h1.blk r3
  have c3:w3.cell? ⟨ob,1,none⟩=V.a[1]?:=af hb3 1
  have c4:w3.cell? ⟨ob,1,none⟩=some (.slice a0 N k0):=by rw[c3,<-aa HN,<-aa HIV]; rfl
  have fz:=bi hb3 1;have hsz:=(aa hG).size
  have HH:Hid (KeptF w ob V IS FS RS GS ES (.slice (some ⟨g,off,none⟩) l.length k) (.returned (.tuple #[])) (w3.setCell ⟨ob,1,none⟩ (.slice xa xn xc))):=by
   refine⟨rfl,⟨some ⟨g,off,none⟩,k,k⟩,_,rfl,h1.addF r2 r3 (by rw[aa HN]; exact hsN),((hFr.mono fun _ _ q=>Or.inr (Or.inr q)).then (cn bu r3) fun _ _ q=>Or.inr (Or.inl q)).setCell _ (fun _=>Or.inl rfl),?_⟩
   rcases r4 with r4|r4
   ·exact Or.inl r4
   exact Or.inr fun g hg=>by have q1:=r4 g hg; simp at q1; omega
  rw[aa HIV,aa HN] at r1;clear r2 r3 r4 hb3 c3 h1 hFr hsN
  go_wp2_with (first|refine cP _ _ (bsS28 (some ⟨g,off,none⟩) k k _ _ _ rfl rfl _) rfl ?_|(at_builtin; refine fS 28 r1 rfl _ _ rfl rfl rfl rfl ?_))
  exact bodyPost_end (results_none results37 _ _ _) rfl (aa HH)
theorem bA.fillE {l:List _}(h:bA w ob V IS FS RS GS ES)(hv:ah rE 100 w v l)(hF:aE (fun k=>v.ownBlock=some k) w w1)(hd:∀s∈ES,∀g,s.v.ownBlock=some g->v.ownBlock≠some g):bA w1 ob V IS FS RS GS ES:=by
 have ne:∀{c:Array Value} {U:TypeId} {k:Nat},w.heap[k]?=some (.cells c U (0,0))->U≠100->¬v.ownBlock=some k:=fun e hU q=>by
  obtain⟨c2,e2⟩:=hv.ty q;exact aI e e2 hU rfl
 refine h.frm hF fun k hk=>?_
 rcases hk with rfl|q|q|q|q|q|⟨s,hs,q⟩
 ·exact ne h.blk (by decide)
 ·obtain⟨c,e⟩:=h.i.ty q; exact ne e (by decide)
 ·obtain⟨c,e⟩:=h.f.ty q; exact ne e (by decide)
 ·obtain⟨c,e⟩:=h.r.ty q; exact ne e (by decide)
 ·obtain⟨c,e⟩:=h.g.ty q; exact ne e (by decide)
 ·obtain⟨c,e⟩:=h.e.ty q; exact ne e (by decide)
 rcases hs with hs|hs|hs|hs|hs
 ·obtain⟨j,hj⟩:=List.mem_iff_getElem?.1 hs; obtain⟨c,e⟩:=(h.il j s hj).ty q; exact ne e (by decide)
 ·obtain⟨j,hj⟩:=List.mem_iff_getElem?.1 hs; obtain⟨c,e⟩:=(h.fl j s hj).ty q; exact ne e (by decide)
 ·obtain⟨j,hj⟩:=List.mem_iff_getElem?.1 hs; obtain⟨c,e⟩:=(h.rl j s hj).ty q; exact ne e (by decide)
 ·obtain⟨j,hj⟩:=List.mem_iff_getElem?.1 hs; obtain⟨c,e⟩:=(h.gl j s hj).ty q; exact ne e (by decide)
 exact hd s hs k q
theorem bA.addE {s:cA}{x:Value}{o:Obj}(h:bA w ob V IS FS RS GS ES)(r2:ah cq 40 w3 x (ES++[s]))(r3:(w.alloc o).grownBy w3 V.ev.ownBlock)(hs:ah rE 100 w s.v (List.replicate s.n (owE ES.length))):
  bA (w3.setCell ⟨ob,4,none⟩ x) ob { V with ev:=x } IS FS RS GS (ES++[s]):=by
 have hb:=cu (c:=V.a) h.e (by decide) h.blk r3
 refine⟨?_,h.i.past h.e (by decide) h.blk (by decide) r3,h.f.past h.e (by decide) h.blk (by decide) r3,h.r.past h.e (by decide) h.blk (by decide) r3,h.g.past h.e (by decide) h.blk (by decide) r3,r2.same fun g hg=>Below.heap_setCell _ _ _ _ (by obtain⟨c1,e1⟩:=r2.ty hg; exact aI e1 hb (by decide)),?_,?_,?_,?_,?_⟩
 ·show(w3.setCell ⟨ob,4,none⟩ x).heap[ob]?=_
  simp[World.setCell,Array.getElem?_modify,hb];rfl
 ·exact fun j t ht=>(h.il j t ht).past h.e (by decide) h.blk (by decide) r3
 ·exact fun j t ht=>(h.fl j t ht).past h.e (by decide) h.blk (by decide) r3
 ·exact fun j t ht=>(h.rl j t ht).past h.e (by decide) h.blk (by decide) r3
 ·exact fun j t ht=>(h.gl j t ht).past h.e (by decide) h.blk (by decide) r3
 intro j t ht
 rcases getElem?_snoc ht with q|⟨rfl,rfl⟩
 ·exact(h.el j t q).past h.e (by decide) h.blk (by decide) r3
 exact hs.past h.e (by decide) h.blk (by decide) r3
def KeptE (w:World)(ob:Nat)(V:OV)(IS FS RS GS ES:List cA)(v:Value)(e:Ending)(w':World):Prop:=
 e=.returned (.tuple #[])/\∃(s:cA) (x:Value),s.v.ownBlock=v.ownBlock/\bA w' ob { V with ev:=x } IS FS RS GS (ES++[s])/\aE (fun k=>k=ob\/V.ev.ownBlock=some k\/v.ownBlock=some k) w w'/\(x.ownBlock=V.ev.ownBlock\/∀g,x.ownBlock=some g->w.heap.size<=g)
theorem nK {l:List _}(h:bA w ob V IS FS RS GS ES)(hv:ah rE 100 w v l)(hd:∀s∈ES,∀g,s.v.ownBlock=some g->v.ownBlock≠some g)(hl:ES.length<=10000000):
  Calls prog 29 #[.pointer (some ⟨ob,0,none⟩),v] w fun e w'=>KeptE w ob V IS FS RS GS ES v e w':=by
 obtain⟨a0,k0,hiv⟩:=h.e.slice
 have c0:w.cell? ⟨ob,4,none⟩=some (.slice a0 ES.length k0):=by rw[h.cells 4,<-hiv]; rfl
 have hob:=an h.blk;obtain⟨N,hN⟩:∃N,ES.length=N:=⟨_,rfl⟩;rw[hN] at c0 hl
 rcases hv with⟨rfl,rfl⟩|⟨g,off,cap,cur,rfl,hh,h1,h2,h3,h4⟩
 ·obtain⟨x,w3,r1,r2,r3,r4⟩:=ap31 (h.e.on (bu.alloc aD (.cells #[.slice none 0 0] 40))) (aZ cq 40 w ⟨none,0,0⟩ #[.slice none 0 0] rfl) (by simp; omega)
  obtain⟨xa,xn,xc,rfl⟩:=r2.slc
  have hb3:=cu (c:=V.a) h.e (by decide) h.blk r3
  have c3:w3.cell? ⟨ob,4,none⟩=V.a[4]?:=af hb3 4
  have c4:w3.cell? ⟨ob,4,none⟩=some (.slice a0 N k0):=by rw[c3,<-hN,<-hiv]; rfl
  have fz:=bi hb3 4
  have HH:Hid (KeptE w ob V IS FS RS GS ES (.slice none 0 0) (.returned (.tuple #[])) (w3.setCell ⟨ob,4,none⟩ (.slice xa xn xc))):=by
   refine⟨rfl,⟨none,0,0⟩,_,rfl,h.addE r2 r3 (Or.inl ⟨rfl,rfl⟩),((cn bu r3).mono fun _ _ q=>Or.inr (Or.inl q)).setCell _ (fun _=>Or.inl rfl),?_⟩
   rcases r4 with r4|r4
   ·exact Or.inl r4
   exact Or.inr fun g hg=>by have q1:=r4 g hg; simp at q1; omega
  rw[hiv,hN] at r1;clear r2 r3 r4 hb3 c3 h hd hiv hN;go_enter func29,ntmps29
  go_wp2_with fail
  go_loopw [5] (fun i wr=>i=.int .i64 0/\wr=w) (fun _ _=>0)
  case atStart=>exact⟨rfl,rfl⟩
  case round=>
   obtain⟨rfl,rfl⟩:=hrel
   go_wp2_with (first|refine cP _ _ (bsS31 none 0 0 _ _ _ rfl rfl _) rfl ?_|(at_builtin; refine fS 31 r1 rfl _ _ rfl rfl rfl rfl ?_))
   exact bodyPost_end (results_none results29 _ _ _) rfl (aa HH)
 have hv:ah rE 100 w (.slice (some ⟨g,off,none⟩) l.length cap) l:=Or.inr ⟨g,off,cap,cur,rfl,hh,h1,h2,h3,h4⟩;have hgl:=an hh
 have hgo:ob≠g:=(aI h.blk hh (by decide))
 have HF0:=ae (lw.zero (x:=owE N) hv);have HV:=ae hv;have HI:=ae h;have HD:=ae hd
 have hlc:(l.length:Int)<=cap:=by omega
 have h2':(cap:Int)<=9223372036854775807:=by unfold maxLen at h2; omega
 have HM:=ae h2;have HIV:=ae hiv;have HN:=ae hN;clear hv hh h3 h4 h hd h2 hiv hN;go_enter func29,ntmps29
 go_wp2_with fail
 go_loopw [5] (fun i wr=>∃k:Nat,k<=cap/\i=.int .i64 k/\Hid (lw rE 100 wr g off cap k (owE N))/\Hid (w.grownBy wr (some g))) (fun i _=>cap-(intOf i).toNat)
 case atStart=>exact⟨0,by omega,rfl,HF0,ae (World.grownBy.refl _ _)⟩
 case round=>
  obtain⟨k,hk,rfl,hF,hG⟩:=hrel
  have r0:wr.cell? ⟨ob,4,none⟩=some (.slice a0 N k0):=by
   rw[World.cell?_of_block (a:=⟨ob,4,none⟩) ((aa hG).block ob hob (fun q=>by cases q; exact hgo rfl))]; exact c0
  by_cases hlk:k<cap
  ·have hkn:(k:Int)<cap:=by omega
   have OW:=ae (fun W=>eC N W (by omega))
   have HS:=(aa hF).step hlk;have HG2:Hid (w.grownBy (wr.setCells g (off+k*25) (rE.enc (owE N))) (some g)):=⟨HS.2.os.trans (aa hG).os,HS.2.tape.trans (aa hG).tape,HS.2.output.trans (aa hG).output,Nat.le_trans (aa hG).size HS.2.size,fun q hq hne=>(HS.2.block q (Nat.lt_of_lt_of_le hq (aa hG).size) hne).trans ((aa hG).block q hq hne)⟩;have HF2:Hid (lw rE 100 (wr.setCells g (off+k*25) (rE.enc (owE N))) g off cap (k+1) (owE N)):=HS.1;have hth:wr.there g (off+k*25) 25:=(aa hF).there hlk;clear HS
   go_wp2_with fail
   refine(aa OW _).mono ?_;rintro e w5 ⟨rfl,rfl⟩
   go_wp2_with (first|refine cP _ _ (run_bE N _ _ _ rfl rfl _) rfl ?_|refine wpList_store_mid rfl 100 _ _ rfl g (off+k*25) (cc 25 (owE N)) rfl rfl (by rw[eE]; exact hth) (sz56 _) (cc_one 25 _) ?_)
   go_roundw
   case rel=>exact⟨k+1,by omega,by go_num,HF2,HG2⟩
   case measure=>simp[intOf]; omega
  have hkn:k=cap:=by omega
  subst hkn
  have hFr:aE (fun q=>(Value.slice (some ⟨g,off,none⟩) l.length k).ownBlock=some q) w wr:=(aE.rfl' _ w).grown (aa hG) fun q hq _=>by cases hq; rfl
  have h1:=(aa HI).fillE (aa HV) hFr (aa HD);have hsN:ah rE 100 wr (cA.v ⟨some ⟨g,off,none⟩,k,k⟩) (List.replicate k (owE N)):=(aa hF).own (aa HM)
  obtain⟨x,w3,r1,r2,r3,r4⟩:=ap31 (h1.e.on (bu.alloc aD (.cells #[.slice (some ⟨g,off,none⟩) k k] 40))) (aZ cq 40 wr ⟨some ⟨g,off,none⟩,k,k⟩ #[.slice (some ⟨g,off,none⟩) k k] rfl) (by have:=aa HN; simp; omega)
  obtain⟨xa,xn,xc,rfl⟩:=r2.slc
  have hb3:=cu (c:=V.a) h1.e (by decide) h1.blk r3
  have c3:w3.cell? ⟨ob,4,none⟩=V.a[4]?:=af hb3 4
  have c4:w3.cell? ⟨ob,4,none⟩=some (.slice a0 N k0):=by rw[c3,<-aa HN,<-aa HIV]; rfl
  have fz:=bi hb3 4;have hsz:=(aa hG).size
  have HH:Hid (KeptE w ob V IS FS RS GS ES (.slice (some ⟨g,off,none⟩) l.length k) (.returned (.tuple #[])) (w3.setCell ⟨ob,4,none⟩ (.slice xa xn xc))):=by
   refine⟨rfl,⟨some ⟨g,off,none⟩,k,k⟩,_,rfl,h1.addE r2 r3 (by rw[aa HN]; exact hsN),((hFr.mono fun _ _ q=>Or.inr (Or.inr q)).then (cn bu r3) fun _ _ q=>Or.inr (Or.inl q)).setCell _ (fun _=>Or.inl rfl),?_⟩
   rcases r4 with r4|r4
   ·exact Or.inl r4
   exact Or.inr fun g hg=>by have q1:=r4 g hg; simp at q1; omega
  rw[aa HIV,aa HN] at r1;clear r2 r3 r4 hb3 c3 h1 hFr hsN
  go_wp2_with (first|refine cP _ _ (bsS31 (some ⟨g,off,none⟩) k k _ _ _ rfl rfl _) rfl ?_|(at_builtin; refine fS 31 r1 rfl _ _ rfl rfl rfl rfl ?_))
  exact bodyPost_end (results_none results29 _ _ _) rfl (aa HH)
end
theorem inf100:(prog.info? 100).map (fun i=>(i.zero,i.size,i.bytes))=some (some (.agg (cc 25 zf)),25,200):=by kernel_rfl
theorem bf.toE {w:World}{B:Nat}{v:Value}{l:List (Nat->Int)}(h:bf 100 25 w B v l):ah rE 100 w v l:=by
 obtain⟨h1,h2⟩:=h
 rcases h2 with⟨rfl,hn⟩|⟨g,cap,cur,rfl,_,hh,r1,r2,r3,r4⟩
 ·exact Or.inl ⟨rfl,List.eq_nil_of_length_eq_zero hn⟩
 exact Or.inr ⟨g,0,cap,cur,rfl,hh,r1,r2,by rw[r3]; show 0+cap*25<=cap*25; omega,by rw[List.drop_zero]; exact r4⟩
theorem made_fl (n:Nat):(madeCells (Value.agg (cc 25 zf)).cells (n*25)).toList=fl 25 (List.replicate n zf):=by
 apply List.ext_getElem?
 intro k
 by_cases hk:k<n*25
 ·have h1:k / 25<n:=(Nat.div_lt_iff_lt_mul (by omega)).2 hk
  have h2:k%25<25:=Nat.mod_lt _ (by omega)
  have e:k / 25*25+k%25=k:=Nat.div_add_mod' k 25
  have e2:(fl 25 (List.replicate n zf))[k]?=some (.int .i64 0):=by
   rw[<-e,gy 25 _ _ _ (by rw[List.length_replicate]; exact h1) h2]
   have:gf (List.replicate n zf) (k / 25)=zf:=by unfold gf; rw[List.getElem?_replicate,if_pos h1]; rfl
   rw[this]; rfl
  rw[e2];have hc:((Value.agg (cc 25 zf)).cells)[k%25]?=some (.int .i64 0):=dc 25 zf _ h2;have hs:((Value.agg (cc 25 zf)).cells).size=25:=eE 25 zf;unfold madeCells;rw[Array.toList_map,List.getElem?_map,Array.toList_range,List.getElem?_range hk];simp only[Option.map_some,hs];rw[getElem!_def,hc]
 rw[List.getElem?_eq_none (by rw[Array.length_toList,size_madeCells]; omega),List.getElem?_eq_none (by rw[dp,List.length_replicate]; omega)]
theorem run_mkE (w:World)(n:Nat)(hn:n<=100000000):∃w',(Instr.makeSlice 40 (.int .i64 (n:Int)) (.int .i64 (n:Int))).run prog w=.ok (.slice (some ⟨w.heap.size,0,none⟩) n n) w'/\bf 100 25 w' w.heap.size (.slice (some ⟨w.heap.size,0,none⟩) n n) (List.replicate n zf)/\w.grownBy w' none:=by
 obtain⟨i,h1,h2,h3,h4⟩:=ee inf100
 obtain⟨w',r1,r2,r3⟩:=run_make_full (P:=prog) w w.heap.size 40 100 i _ 25 underlying40 h1 h2 h3 .i64 .i64 n (by rw[h4]; omega) (by unfold maxLen; omega) aD
 refine⟨w',r1,?_,r3⟩;unfold bf;rw[List.length_replicate,<-made_fl];exact r2
theorem fl_drop (m:Nat)(L:List (Nat->Int))(k:Nat):(fl m L).drop (k*m)=fl m (L.drop k):=by
 induction L generalizing k with
 | nil=>simp[fl]
 | cons a L ih=>
  cases k with
  | zero=>simp
  | succ k=>
   rw[lp,Nat.succ_mul,List.drop_succ_cons,Nat.add_comm,<-ih k,<-List.drop_drop,List.drop_left' (iB m a)]
theorem run_cpE (w:World)(B g cap:Nat)(L l:List (Nat->Int))(hown:bf 100 25 w B (.slice (some ⟨g,0,none⟩) L.length cap) L)(ad:Addr)(c:Nat)(hx:bL rE w (.slice (some ad) l.length c) l)(hl:l.length<=L.length):
  ∃w',(∀ty,(Builtin.copy_ #[40,40] ty #[.slice (some ⟨g,0,none⟩) L.length cap,.slice (some ad) l.length c]).run prog w=.ok (.int .i64 (l.length:Nat)) w')/\bf 100 25 w' B (.slice (some ⟨g,0,none⟩) L.length cap) (l++L.drop l.length)/\w.grownBy w' (some g):=by
 obtain⟨i,h1,h2,h3,h4⟩:=ee inf100;obtain⟨q1,q2⟩:=hown
 rcases q2 with⟨e,_⟩|⟨g',cap',cur,e,hB,hh,r1,r2,r3,r4⟩
 ·cases e
 cases e
 have hsrc:∀j u,(fl 25 l)[j]?=some u->w.cell? (ad.add j)=some u:=by
  intro j u hj
  have hn:0<l.length:=Nat.pos_of_ne_zero fun h0=>by rw[List.eq_nil_of_length_eq_zero h0] at hj; simp[fl] at hj
  have hx0:=hx;obtain⟨oa,c',e,_,_,hr⟩:=hx;cases e;obtain⟨b,off,e,hb,_⟩:=hr hn;cases e;exact bL.cells hx0 j u hj
 have hfit:0+(fl 25 l).length<=cur.size:=by rw[dp,r3]; have:=Nat.mul_le_mul_right 25 (Nat.le_trans hl r1); omega
 have hf:=run_firstCells_some (P:=prog) w 25 l.length ad l.length c (fl 25 l) (by rw[dp]) hsrc
 have hst:=run_storeCells_at prog g 0 100 (fl 25 l) 0 cur w hh (by simpa using hfit) (fl_one 25 l)
 have hmin:Nat.min l.length L.length=l.length:=Nat.min_eq_left hl
 refine⟨w.setRow g (cur.toList.take (0+0)++fl 25 l++cur.toList.drop (0+0+(fl 25 l).length)).toArray,fun ty=>?_,⟨?_,Or.inr ⟨g,cap,_,?_,hB,setRow_heap w g cur _ 100 _ hh,?_,r2,?_,?_⟩⟩,⟨rfl,rfl,rfl,by simp[World.setRow],fun k _ hk=>Go.setRow_other w g k _ (fun e=>hk (by rw[e]))⟩⟩
 ·simp[Builtin.copy_,run_underlying underlying40,Builtin.lenOf,sizeOf,typeInfo,h1,h3,hmin,hf,hst,goInt]
 ·rw[dp]
 ·rw[List.length_append,List.length_drop,show l.length+(L.length-l.length)=L.length by omega]
 ·rw[List.length_append,List.length_drop]; omega
 ·simp only[List.size_toArray,List.length_append,List.length_take,List.length_drop,Array.length_toList,dp,r3]
  have:=Nat.mul_le_mul_right 25 (Nat.le_trans hl r1);omega
 rw[List.length_append,List.length_drop,show l.length+(L.length-l.length)=L.length by omega,pB,<-fl_drop,<-r4]
 simp only[Nat.add_zero,List.take_zero,List.nil_append,dp];have hle:l.length*25<=L.length*25:=Nat.mul_le_mul_right 25 hl
 rw[List.take_append,dp,List.take_of_length_le (by rw[dp]; exact hle),List.drop_take,Nat.zero_add]
section
variable {ops:Array Oper}{rest:List Oper}{o:Oper}{a:Act}{Q:Exit->Act->World->Prop}{w w':World}{v x' v':Value}
theorem wlM (t:TypeId)(n:Int)(hr:(Instr.makeSlice t (.int .i64 n) (.int .i64 n)).run prog w=.ok v' w')(hgd:o.guard=none)(l c:Operand)(ho:o.op=.makeSlice t l c)(hl:a.eval l=.int .i64 n)(hc:a.eval c=.int .i64 n)
  (h:wpList prog ops Q rest (a.put o.dst v') w'):wpList prog ops Q (o::rest) a w:=
 wpList_plain hgd fun _ hK=>by
  unfold Oper.wp;simp[execOp,ho,hl,hc,hr,Result.andThen];exact hK _ _ h
theorem wlC (t:TypeId)(hr:∀ty,(Builtin.copy_ #[t,t] ty #[v,x']).run prog w=.ok v' w')(hgd:o.guard=none)(s x:Operand)(ho:o.op=.call { callee:=.builtin .copy,args:=#[s,x],argTypes:=#[t,t] })(hs:a.eval s=v)(hx:a.eval x=x')
  (h:wpList prog ops Q rest (a.put o.dst v') w'):wpList prog ops Q (o::rest) a w:=
 wpList_plain hgd fun _ hK=>by
  unfold Oper.wp;simp[execOp,ho,resolve,invoke,builtin,hs,hx,hr,Result.andThen];exact hK _ _ h
end
def RApR (w:World)(rb:Nat)(keep:Int)(bv pv:Value)(SL:List cA)(bs:List bK)(PI:List Int)(b:bK)(e:Ending)(w':World):Prop:=
 ((b.length<1\/8<b.length)/\e=.returned (.tuple #[(),(8:Int)])/\Below w.heap.size w w') \/
 (1<=b.length/\b.length<=8/\100<=bs.length/\e=.returned (.tuple #[(),(11:Int)])/\Below w.heap.size w w') \/
 (1<=b.length/\b.length<=8/\bs.length<100/\∃k r,k<b.length/\(∀j,j<k->fF (jX (dk bs bs.length) (gf b) j) (gf b j)=0)/\fF (jX (dk bs bs.length) (gf b) k) (gf b k)=r/\r≠0/\e=.returned (.tuple #[(),r])/\Below w.heap.size w w') \/
 (1<=b.length/\b.length<=8/\bs.length<100/\(∀j,j<b.length->fF (jX (dk bs bs.length) (gf b) j) (gf b j)=0)/\e=.returned (.tuple #[.int .i64 ((bs.length+1:Nat):Int),()])/\aE (fun k=>k=rb\/bv.ownBlock=some k) w w' /\
  ∃bv' s,eV w' rb keep bv' pv (SL++[s]) (bs++[b]) PI/\(bv'.ownBlock=bv.ownBlock\/∀g,bv'.ownBlock=some g->w.heap.size<=g)/\∀g,s.v.ownBlock=some g->w.heap.size<=g)
theorem eV.more {w w1 w3:World}{rb:Nat}{keep:Int}{bv pv:Value}{SL:List cA}{bs:List bK}{PI:List Int}{b:bK}{s:cA}{x:Value}{o:Obj}(h:eV w rb keep bv pv SL bs PI)(hb:Below w.heap.size w w1)(hs:ah rE 100 w1 s.v b)(r2:ah cq 40 w3 x (SL++[s]))(r3:(w1.alloc o).grownBy w3 bv.ownBlock):
  w3.heap[rb]?=some (.cells #[keep,bv,pv] 121)/\eV (w3.setCell ⟨rb,1,none⟩ x) rb keep x pv (SL++[s]) (bs++[b]) PI:=by
 have h1:=h.on hb
 have keepR:∀{α:Type} {R:dR α} {T:TypeId} {u:Value} {l:List α},ah R T w1 u l->T≠40->T≠121->ah R T (w3.setCell ⟨rb,1,none⟩ x) u l:=fun hu hT hT2=>by
  refine hu.same fun g hg=>?_;obtain⟨c1,e1⟩:=hu.ty hg
  rw[Below.heap_setCell _ _ _ _ (aI e1 h1.blk hT2),r3.block g (by have:=hu.lt hg; simp; omega) (fun q=>?_),heap_alloc_old w1 _ (hu.lt hg)]
  obtain⟨c2,e2⟩:=h1.bat.ty q.symm;exact aI e1 e2 hT rfl
 have hb3:w3.heap[rb]?=some (.cells #[keep,bv,pv] 121):=by
  rw[r3.block rb (by have:=h1.lt; simp; omega) (fun q=>?_),heap_alloc_old w1 _ h1.lt]
  ·exact h1.blk
  obtain⟨c2,e2⟩:=h1.bat.ty q.symm
  exact aI e2 h1.blk (by decide) rfl
 refine⟨hb3,?_,?_,by simp[h.len],fun i t c ht hc=>?_,keepR h1.pin (by decide) (by decide)⟩
 ·show(w3.setCell ⟨rb,1,none⟩ x).heap[rb]?=_
  simp[World.setCell,Array.getElem?_modify,hb3]
 ·exact r2.same fun g hg=>Below.heap_setCell _ _ _ _ (by obtain⟨c1,e1⟩:=r2.ty hg; exact aI e1 hb3 (by decide))
 rcases getElem?_snoc ht with q|⟨rfl,rfl⟩
 ·have hi:i<SL.length:=(List.getElem?_eq_some_iff.1 q).1
  rw[List.getElem?_append_left (by rw[<-h.len]; exact hi)] at hc
  exact keepR (h1.bts i t c q hc) (by decide) (by decide)
 rw[h.len] at hc;simp at hc;subst hc
 exact keepR hs (by decide) (by decide)
theorem rApply_any {w:World}{rb:Nat}{keep:Int}{bv pv:Value}{SL:List cA}{bs:List bK}{PI:List Int}(v:Value)(b:bK)(hR:eV w rb keep bv pv SL bs PI)(hv:bL rE w v b)(hn:bs.length<=100)(h8:∀k,k<bs.length->(ff bs k).length<=8):
  Calls prog 27 #[.pointer (some ⟨rb,0,none⟩),v] w fun e w'=>RApR w rb keep bv pv SL bs PI b e w':=by
 have c1:=hR.c1;obtain⟨ba,bc,hbv⟩:=hR.bat.slice;rw[hbv,hR.len] at c1;obtain⟨oa,cap,rfl,hcap,hm,hc⟩:=id hv;have HV:=ae hv;have HR:=ae hR;have HC:=ae hc;have HBV:=ae hbv
 have hm':(b.length:Int)<=9223372036854775807:=by unfold maxLen at hm; omega
 clear hv hR hc hm hbv;obtain⟨n,hN⟩:∃n,b.length=n:=⟨_,rfl⟩;rw[hN] at hm' hcap ⊢;have HN:=ae hN
 by_cases h1:n<1\/8<n
 ·have HH:Hid (RApR w rb keep bv pv SL bs PI b (.returned (.tuple #[(),(8:Int)])) w):=Or.inl ⟨by rw[hN]; exact h1,rfl,Below.refl _ _⟩
  clear hN
  by_cases h2:n<1
  ·have h2':(n:Int)<1:=by omega
   clear h1;go_enter func27,ntmps27
   go_wp2_with fail
   go_ret2
   exact aa HH
  have h2':¬(n:Int)<1:=by omega
  have h3':(8:Int)<n:=by omega
  clear h1;go_enter func27,ntmps27
  go_wp2_with fail
  go_ret2
  exact aa HH
 have h2':¬(n:Int)<1:=by omega
 have h3':¬(8:Int)<n:=by omega
 by_cases h4:100<=bs.length
 ·have h4':(99:Int)<bs.length:=by omega
  have HH:Hid (RApR w rb keep bv pv SL bs PI b (.returned (.tuple #[(),(11:Int)])) w):=Or.inr (Or.inl ⟨by omega,by omega,h4,rfl,Below.refl _ _⟩)
  clear hN;go_enter func27,ntmps27
  go_wp2_with fail
  go_ret2
  exact aa HH
 have h4':¬(99:Int)<bs.length:=by omega
 have HA:=ae (At_any rb keep bv pv SL bs PI bs.length w (aa HR) aD hn h8);clear hN;go_enter func27,ntmps27
 go_wp2_with fail
 refine(aa HA).mono ?_;rintro e w1 ⟨rv,rfl,hat,hb1⟩;have HB1:=ae hb1;have HAT:=ae hat;have hlr:=(aa HR).lt;have HC1:=ae c1;clear hat hb1 c1
 go_wp2_with fail
 go_loopw [6,7,8,9,10] (fun fv i _ _ _ wr=>∃(k:Nat),k<=n/\i=.int .i64 k/\Hid (bL rF wr fv (jX (dk bs bs.length) (gf b) k))/\Hid (∀j,j<k->fF (jX (dk bs bs.length) (gf b) j) (gf b j)=0)/\Hid (Below w.heap.size w wr)) (fun _ i _ _ _ _=>n-(intOf i).toNat)
 case atStart=>exact⟨0,by omega,rfl,HAT,ae (fun j hj=>by omega),HB1⟩
 case round=>
  obtain⟨k,hk,rfl,hF,hX,hb⟩:=hrel
  by_cases hlk:k<n
  ·have hkn:(k:Int)<n:=by omega
   obtain⟨b2,off,rfl,hbl,hc0⟩:=aa HC (by rw[aa HN]; omega)
   have hrg:wr.rangeAt b2 (off+k*25) (cc 25 (gf b k)).toList:=fun q u hu=>((aa hb).cell (p:=⟨b2,off+k*25+q,none⟩) hbl).trans (rngE hc0 (k:=k) (by rw[aa HN]; exact hlk) q u hu)
   obtain⟨r,hr⟩:∃r,fF (jX (dk bs bs.length) (gf b) k) (gf b k)=r:=⟨_,rfl⟩;have HED:=ae (jD u6 _ (gf b k) wr (aa hF) (eZ (d7 bs bs.length) k));rw[hr] at HED;have HRR:=ae hr;clear hc0 hr
   go_wp2_with (refine bU 100 (cc 25 (gf b k)) underlying100 rfl (sz56 _) b2 (off+k*25) hrg rfl _ rfl rfl ?_)
   refine(aa HED).mono ?_;rintro en w3 ⟨nv,mv,rfl,hN3,hM3,hb3⟩;have HN3:=ae hN3;have HB3:=ae ((aa hb).trans (hb3.mono (aa hb).size));clear hN3 hM3 hb3 hrg
   by_cases hr0:r=0
   ·subst hr0
    have HX2:Hid (∀j,j<k+1->fF (jX (dk bs bs.length) (gf b) j) (gf b j)=0):=fun j hj=>by
     by_cases c:j=k
     ·subst c; exact aa HRR
     exact aa hX j (by omega)
    go_wp2_with fail
    go_roundw
    case rel=>exact⟨k+1,by omega,by go_num,HN3,HX2,HB3⟩
    case measure=>simp[intOf]; omega
   have HH:Hid (RApR w rb keep bv pv SL bs PI b (.returned (.tuple #[(),r])) w3):=by
    have e:=aa HN
    exact Or.inr (Or.inr (Or.inl ⟨by omega,by omega,by omega,k,r,by omega,aa hX,aa HRR,hr0,rfl,aa HB3⟩))
   go_wp2_with fail
   go_ret2
   exact aa HH
  have hkn:k=n:=by omega
  subst hkn;have e:=aa HN
  obtain⟨b2,off,rfl,hbl,hc0⟩:=aa HC (by omega)
  obtain⟨w4,m1,m2,m3⟩:=run_mkE wr k (by omega)
  have hb4:Below wr.heap.size wr w4:=bu.grown m3 aD (fun q hq=>by cases hq)
  have hv4:bL rE w4 (.slice (some ⟨b2,off,none⟩) b.length cap) b:=by
   have:=((aa HV).on ((aa hb).trans (hb4.mono (aa hb).size)));exact this
  have m2':bf 100 25 w4 wr.heap.size (.slice (some ⟨wr.heap.size,0,none⟩) (List.replicate k zf).length k) (List.replicate k zf):=by rw[List.length_replicate]; exact m2
  obtain⟨w5,p1,p2,p3⟩:=run_cpE w4 wr.heap.size wr.heap.size k (List.replicate k zf) b m2' ⟨b2,off,none⟩ cap hv4 (by rw[List.length_replicate]; omega)
  rw[List.length_replicate,e] at p1
  rw[List.length_replicate,List.drop_of_length_le (by rw[List.length_replicate]; omega),List.append_nil] at p2
  have hb5:Below w.heap.size w w5:=by
   have q:=(aa hb).trans (hb4.mono (aa hb).size)
   exact q.grown p3 (by have:=(aa hb).size; have:=q.size; omega) (fun g hg=>by cases hg; exact(aa hb).size)
  have hR5:=(aa HR).on hb5;have hs5:ah rE 100 w5 (cA.v ⟨some ⟨wr.heap.size,0,none⟩,k,k⟩) b:=p2.toE
  obtain⟨x,w7,r1,r2,r3,r4⟩:=ap31 (hR5.bat.on (bu.alloc aD (.cells #[.slice (some ⟨wr.heap.size,0,none⟩) k k] 40))) (aZ cq 40 w5 ⟨some ⟨wr.heap.size,0,none⟩,k,k⟩ #[.slice (some ⟨wr.heap.size,0,none⟩) k k] rfl) (by have:=hR5.len; simp; omega)
  obtain⟨xa,xc,rfl⟩:=r2.slice;obtain⟨hb7,hR7⟩:=(aa HR).more hb5 hs5 r2 r3;have c5:=hR5.c1;have c7:=(af hb7 1).trans (show _=some bv from rfl);have c9:=hR7.c1;rw[aa HBV,hR5.len] at c5 r1;rw[aa HBV,hR5.len] at c7;have fz:=bi hb7 1
  have hlen:(SL++[(⟨some ⟨wr.heap.size,0,none⟩,k,k⟩:cA)]).length=bs.length+1:=by rw[List.length_append,hR5.len]; rfl
  rw[hlen] at c9 hR7
  have HH:Hid (RApR w rb keep bv pv SL bs PI b (.returned (.tuple #[.int .i64 ((bs.length+1:Nat):Int),()])) (w7.setCell ⟨rb,1,none⟩ (.slice xa (bs.length+1) xc))):=by
   refine Or.inr (Or.inr (Or.inr ⟨by omega,by omega,by omega,by rw[e]; exact aa hX,rfl,((cn hb5 r3).mono fun _ _ q=>Or.inr q).setCell _ (fun _=>Or.inl rfl),_,_,hR7,?_,fun g hg=>?_⟩))
   ·rcases r4 with r4|r4
    ·refine Or.inl ?_
     rw[hlen] at r4; exact r4
    exact Or.inr fun g hg=>by rw[hlen] at r4; have q1:=r4 g hg; have:=hb5.size; simp at q1; omega
   cases hg; exact(aa hb).size
  rw[hlen] at r1;clear r2 r3 r4 hR7 hb7 hR5 hs5 hb5 p2 p3 m2 m2' m3 hb4 hv4 hc0 hlen e
  go_wp2_with (first|refine wlM 40 _ m1 rfl _ _ rfl rfl rfl ?_|refine wlC 40 p1 rfl _ _ rfl rfl rfl ?_|refine cP _ _ (bsS31 (some ⟨wr.heap.size,0,none⟩) k k _ _ _ rfl rfl _) rfl ?_|(at_builtin; refine fS 31 r1 rfl _ _ rfl rfl rfl rfl ?_))
  go_ret2
  exact aa HH
def mkL (b:bK):List (Nat->Int):=dg (dg (b++[zf,zf]) b.length 0 (-77)) (b.length+1) 0 (-77)
theorem mkL_len (b:bK):(mkL b).length=b.length+2:=by simp[mkL,bp]
theorem oZ (b:bK){i:Nat}(h:i<b.length):gf (mkL b) i=gf b i:=by
 unfold mkL
 rw[cz _ _ _ _ _ (by simp[bp]; omega),if_neg (by omega),cz _ _ _ _ _ (by simp; omega),if_neg (by omega)]
 unfold gf; rw[List.getElem?_append_left h]
theorem mkL_one (b:bK):gf (mkL b) b.length 0=-77:=by
 unfold mkL
 rw[cz _ _ _ _ _ (by simp[bp]),if_neg (by omega),cz _ _ _ _ _ (by simp),if_pos rfl]
 simp[upd]
theorem mkL_two (b:bK):gf (mkL b) (b.length+1) 0=-77:=by
 unfold mkL
 rw[cz _ _ _ _ _ (by simp[bp]),if_pos rfl]
 simp[upd]
theorem mkL_take (b:bK):(mkL b).take b.length=b:=by
 unfold mkL dg
 rw[List.take_set_of_le (by omega),List.take_set_of_le aD,List.take_left]
theorem bf.pre {T:TypeId}{m:Nat}{hm:0<m}{w:World}{B g cap:Nat}{L:List (Nat->Int)}(h:bf T m w B (.slice (some ⟨g,0,none⟩) L.length cap) L){n:Nat}(hn:n<=L.length):ah (rN m hm) T w (.slice (some ⟨g,0,none⟩) n cap) (L.take n):=by
 obtain⟨h1,h2⟩:=h
 rcases h2 with⟨e,_⟩|⟨g',cap',cur,e,_,hh,r1,r2,r3,r4⟩
 ·cases e
 cases e
 have hl:(L.take n).length=n:=by rw[List.length_take]; omega
 refine Or.inr ⟨g,0,cap,cur,by rw[hl],hh,by omega,r2,by rw[r3]; show 0+cap*m<=cap*m; omega,?_⟩
 rw[List.drop_zero,hl]
 have:(rN m hm).all (L.take n)=(fl m L).take (n*m):=by
  show fl m (L.take n)=_;have e:=pB m (L.take n) (L.drop n);rw[List.take_append_drop] at e
  rw[e,List.take_left' (by rw[dp,hl])]
 rw[this,<-r4,List.take_take,Nat.min_eq_left (Nat.mul_le_mul_right m hn)];rfl
theorem exNil (t e:TypeId)(hu:prog.underlying t=some (.slice e))(oa:Option Addr)(n c:Nat)(ev:Operand->Value)(o:Oper)(x:Operand)(ho:o.op=.binOp .eql t x (.const (.slice none 0 0)) t)(hx:ev x=.slice oa n c)(hc:ev (.const (.slice none 0 0))=.slice none 0 0)(w:World):(execOp ev o).run prog w=.ok (.value (.bool oa.isNone)) w:=by
 unfold execOp;simp only[ho];simp[go_sem,hx,hc,Lib.run_eql_slice_nil (P:=prog) w t e oa n c 0 0 hu]
def HndR (w:World)(v:Value)(b:bK)(e:Ending)(w':World):Prop:=
 Below w.heap.size w w'/\(((∃c,v=.slice none 0 c)/\b=[]/\e=.returned (.slice none 0 0)) \/
 ((∃ad c,v=.slice (some ad) b.length c)/\e=.returned (.slice (some ⟨w.heap.size,0,none⟩) b.length (b.length+2))/\bf 100 25 w' w.heap.size (.slice (some ⟨w.heap.size,0,none⟩) (mkL b).length (b.length+2)) (mkL b)))
theorem handed_any (v:Value)(b:bK)(w:World)(hv:bL rE w v b)(hl:b.length<=10000000):
  Calls prog 25 #[v] w fun e w'=>HndR w v b e w':=by
 have hv0:=hv;obtain⟨oa,cap,rfl,hcap,hm,hc⟩:=hv
 cases oa with
 | none=>
  have hb0:b=[]:=by
   rcases Nat.eq_zero_or_pos b.length with q|q
   ·exact List.eq_nil_of_length_eq_zero q
   obtain⟨_,_,e,_⟩:=hc q; cases e
  subst hb0;have HH:Hid (HndR w (.slice none (List.length (α:=Nat->Int) []) cap) [] (.returned (.slice none 0 0)) w):=⟨Below.refl _ _,Or.inl ⟨⟨cap,rfl⟩,rfl,rfl⟩⟩;clear hc hv0;go_enter func25,ntmps25
  go_wp2_with (refine cP _ _ (exNil 40 100 underlying40 none _ _ _ _ _ rfl rfl rfl _) rfl ?_)
  go_ret;exact aa HH
 | some ad=>
  have HV:=ae hv0;clear hc hv0;obtain⟨n,hN⟩:∃n,b.length=n:=⟨_,rfl⟩;obtain⟨M,hM⟩:∃M,n+2=M:=⟨_,rfl⟩;obtain⟨K,hK⟩:∃K,n+1=K:=⟨_,rfl⟩
  have hw2:IntKind.i64.wrap ((n:Int)+2)=(M:Int):=by rw[bG _ (by omega)]; omega
  have hw1:IntKind.i64.wrap ((n:Int)+1)=(K:Int):=by rw[bG _ (by omega)]; omega
  have hnM:(n:Int)<M:=by omega
  have hKM:(K:Int)<M:=by omega
  have hnM':(n:Int)<=M:=by omega
  obtain⟨w4,m1,m2,m3⟩:=run_mkE w M (by omega)
  have hb4:Below w.heap.size w w4:=bu.grown m3 aD (fun q hq=>by cases hq)
  have hv4:bL rE w4 (.slice (some ad) b.length cap) b:=(aa HV).on hb4
  have m2':bf 100 25 w4 w.heap.size (.slice (some ⟨w.heap.size,0,none⟩) (List.replicate M zf).length M) (List.replicate M zf):=by rw[List.length_replicate]; exact m2
  obtain⟨w5,p1,p2,p3⟩:=run_cpE w4 w.heap.size w.heap.size M (List.replicate M zf) b m2' ad cap hv4 (by rw[List.length_replicate]; omega)
  rw[List.length_replicate] at p1 p2
  have hdr:b++(List.replicate M zf).drop b.length=b++[zf,zf]:=by
   rw[List.drop_replicate,show M-b.length=2 by omega]; rfl
  rw[hdr] at p2
  have hb5:Below w.heap.size w w5:=hb4.grown p3 (by have:=hb4.size; omega) (fun g hg=>by cases hg; exact Nat.le_refl _)
  have hlen:(b++[zf,zf]).length=M:=by simp; omega
  have p2':bf 100 25 w5 w.heap.size (.slice (some ⟨w.heap.size,0,none⟩) (b++[zf,zf]).length M) (b++[zf,zf]):=by rw[hlen]; exact p2
  obtain⟨s1,s2⟩:=p2'.stored n 0 (by omega) (by omega) (-77)
  have s1':bf 100 25 (w5.setCell ⟨w.heap.size,n*25+0,none⟩ (.int .i64 (-77))) w.heap.size (.slice (some ⟨w.heap.size,0,none⟩) (dg (b++[zf,zf]) n 0 (-77)).length M) (dg (b++[zf,zf]) n 0 (-77)):=by rw[bp]; exact s1
  obtain⟨t1,t2⟩:=s1'.stored K 0 (by rw[bp]; omega) (by omega) (-77)
  have hb6:=hb5.grown s2 (by have:=hb5.size; omega) (fun g hg=>by cases hg; exact Nat.le_refl _)
  have hb7:=hb6.grown t2 (by have:=hb6.size; omega) (fun g hg=>by cases hg; exact Nat.le_refl _)
  have hth:∀{W:World} {L:List (Nat->Int)} {c:Nat},bf 100 25 W w.heap.size (.slice (some ⟨w.heap.size,0,none⟩) L.length c) L->∀i,i<L.length->W.cell? ⟨w.heap.size,i*25,none⟩=some (.int .i64 (gf L i 0))/\W.frozen? ⟨w.heap.size,i*25,none⟩=false:=fun{W L c} h i hi=>by
   have q:=(h.there i hi) 0 (by omega)
   refine⟨?_,by simpa using q.2⟩
   have:=World.ownsRow.cellAt h (i*25+0) (by have:=Nat.mul_le_mul_right 25 hi; omega)
   rw[gy 25 L i 0 hi (by omega)] at this
   simpa using this
  obtain⟨d1,d2⟩:=hth p2' n (by omega)
  obtain⟨d3,d4⟩:=hth s1' K (by rw[bp]; omega)
  simp only[Nat.add_zero] at d3 d4
  have HH:Hid (HndR w (.slice (some ad) n cap) b (.returned (.slice (some ⟨w.heap.size,0,none⟩) n M)) ((w5.setCell ⟨w.heap.size,n*25,none⟩ (.int .i64 (-77))).setCell ⟨w.heap.size,K*25,none⟩ (.int .i64 (-77)))):=by
   refine⟨hb7,Or.inr ⟨⟨ad,cap,by rw[hN]⟩,by rw[hN,hM],?_⟩⟩
   unfold mkL;rw[hN,hM,hK,bp];exact t1
  rw[hN] at p1 ⊢;clear hth t1 t2 s1 s1' s2 hb7 hb6 hb5 p2 p2' p3 hlen hdr m2 m2' m3 hb4 hv4 hN hM hK;go_enter func25,ntmps25
  go_wp2_with (first|refine cP _ _ (exNil 40 100 underlying40 (some ad) _ _ _ _ _ rfl rfl rfl _) rfl ?_|refine wlM 40 _ m1 rfl _ _ rfl rfl rfl ?_|refine wlC 40 p1 rfl _ _ rfl rfl rfl ?_)
  go_ret;exact aa HH
structure Hnd (w:World)(g B:Nat)(b:bK):Prop where
 own:bf 100 25 w B (.slice (some ⟨g,0,none⟩) (mkL b).length (b.length+2)) (mkL b)
theorem Hnd.cell {w:World}{g B:Nat}{b:bK}(h:Hnd w g B b){i j:Nat}(hi:i<b.length+2)(hj:j<25):w.cell? ⟨g,i*25+j,none⟩=some (.int .i64 (gf (mkL b) i j)):=by
 have hi':i<(mkL b).length:=by rw[mkL_len]; exact hi
 have:=World.ownsRow.cellAt h.own (i*25+j) (by have:=Nat.mul_le_mul_right 25 hi'; omega)
 rw[gy 25 _ i j hi' hj] at this;exact this
theorem Hnd.lt {w:World}{g B:Nat}{b:bK}(h:Hnd w g B b):g<w.heap.size:=(bf.lt h.own g rfl).2
theorem Hnd.on {w w':World}{g B:Nat}{b:bK}(h:Hnd w g B b)(hb:Below w.heap.size w w'):Hnd w' g B b:=⟨h.own.on hb⟩
theorem Hnd.same {w w':World}{g B:Nat}{b:bK}(h:Hnd w g B b)(he:w'.heap[g]?=w.heap[g]?):Hnd w' g B b:=⟨h.own.same fun k hk=>by cases hk; exact he⟩
theorem Hnd.at {w:World}{g B:Nat}{b:bK}(h:Hnd w g B b)(hl:b.length<=10000000):mD 25 w (.slice (some ⟨g,0,none⟩) b.length (b.length+2)) b.length (gf b):=
 ⟨_,_,rfl,by unfold maxLen; omega,fun _=>⟨g,0,rfl,h.lt,fun i hi j hj=>by rw[Nat.zero_add,h.cell (by omega) hj,oZ b hi]⟩⟩
theorem Hnd.pre {w:World}{g B:Nat}{b:bK}(h:Hnd w g B b):ah rE 100 w (.slice (some ⟨g,0,none⟩) b.length (b.length+2)) b:=by
 have:=h.own.pre (hm:=by decide) (n:=b.length) (by rw[mkL_len]; omega)
 rw[mkL_take] at this;exact this
theorem mM (g B:Nat)(ad:Addr)(c:Nat)(b:bK)(w:World)(hO:Hnd w g B b)(hv:bL rE w (.slice (some ad) b.length c) b)(hl:b.length<=10000000):
  Calls prog 28 #[.slice (some ⟨g,0,none⟩) b.length (b.length+2),.slice (some ad) b.length c] w fun e w'=>e=.returned (.bool true)/\Below w.heap.size w w':=by
 have d1:=hO.cell (i:=b.length) (j:=0) (by omega) (by omega)
 have d2:=hO.cell (i:=b.length+1) (j:=0) (by omega) (by omega)
 rw[mkL_one,Nat.add_zero] at d1;rw[mkL_two,Nat.add_zero] at d2;have HO:=ae hO;have HV:=ae hv;have hgl:=hO.lt;clear hO hv;obtain⟨n,hN⟩:∃n,b.length=n:=⟨_,rfl⟩;obtain⟨M,hM⟩:∃M,n+2=M:=⟨_,rfl⟩;obtain⟨K,hK⟩:∃K,n+1=K:=⟨_,rfl⟩
 have hw2:IntKind.i64.wrap ((n:Int)+2)=(M:Int):=by rw[bG _ (by omega)]; omega
 have hw1:IntKind.i64.wrap ((n:Int)+1)=(K:Int):=by rw[bG _ (by omega)]; omega
 have hnM:(n:Int)<M:=by omega
 have hKM:(K:Int)<M:=by omega
 rw[hN] at d1 d2 ⊢;rw[hK] at d2;rw[hM];have HN:=ae hN;have hMM:n+2=M:=hM;clear hN hK hM;go_enter func28,ntmps28
 go_wp2_with (refine cP _ _ (exNil 40 100 underlying40 (some ad) _ _ _ _ _ rfl rfl rfl _) rfl ?_)
 clear d1 d2
 go_loopw [7,8] (fun i _ wr=>∃k:Nat,k<=n/\i=.int .i64 k/\Hid (Below w.heap.size w wr)) (fun i _ _=>n-(intOf i).toNat)
 case atStart=>exact⟨0,by omega,rfl,ae bu⟩
 case round=>
  obtain⟨k,hk,rfl,hb⟩:=hrel
  by_cases hlt:k<n
  ·have hkn:(k:Int)<n:=by omega
   have hkM:(k:Int)<M:=by omega
   have hkb:k<b.length:=by rw[aa HN]; exact hlt
   obtain⟨oa,cc',e,_,_,hr⟩:=aa HV;cases e
   obtain⟨b2,off,e,hb2,hr0⟩:=hr (by omega)
   cases e
   have R1:∀W,Below wr.heap.size wr W->W.rangeAt g (k*25+1) (fc (eF (gf b k))).toList:=fun W hW j u hu=>by
    have hj:j<24:=by have:=(List.getElem?_eq_some_iff.1 hu).1; rw[Array.length_toList,dX] at this; exact this
    rw[Array.getElem?_toList,aN _ _ hj] at hu;cases hu;have hbw:=(aa hb).trans (hW.mono (aa hb).size)
    have:=(hbw.cell (p:=⟨g,k*25+(1+j),none⟩) hgl).trans ((aa HO).cell (i:=k) (j:=1+j) (by omega) (by omega))
    rw[oZ b hkb] at this;rw[Nat.add_assoc];exact this
   have R2:∀W,Below wr.heap.size wr W->W.rangeAt b2 (off+k*25+1) (fc (eF (gf b k))).toList:=fun W hW j u hu=>by
    have hj:j<24:=by have:=(List.getElem?_eq_some_iff.1 hu).1; rw[Array.length_toList,dX] at this; exact this
    rw[Array.getElem?_toList,aN _ _ hj] at hu;cases hu;have hbw:=(aa hb).trans (hW.mono (aa hb).size)
    have:=(hbw.cell (p:=⟨b2,off+k*25+(1+j),none⟩) hb2).trans (pF (rngE hr0 hkb) (1+j) (by omega))
    rw[Nat.add_assoc (off+k*25)];exact this
   have O1:∀W,Below wr.heap.size wr W->W.cell? ⟨g,k*25,none⟩=some (.int .i64 (gf b k 0)):=fun W hW=>by
    have hbw:=(aa hb).trans (hW.mono (aa hb).size)
    have:=(hbw.cell (p:=⟨g,k*25+0,none⟩) hgl).trans ((aa HO).cell (i:=k) (j:=0) (by omega) (by omega))
    rw[oZ b hkb] at this;exact this
   have O2:∀W,Below wr.heap.size wr W->W.cell? ⟨b2,off+k*25,none⟩=some (.int .i64 (gf b k 0)):=fun W hW=>by
    have hbw:=(aa hb).trans (hW.mono (aa hb).size)
    exact(hbw.cell (p:=⟨b2,off+k*25+0,none⟩) hb2).trans (pF (rngE hr0 hkb) 0 (by omega))
   have SF1:=fun W=>fy (eF (gf b k)) W;have HO1:=ae O1;have HO2:=ae O2;clear hr hr0 O1 O2
   go_wp2_with fail
   refine aM (by kernel_rfl) (by kernel_rfl) ?_
   refine bD (.slice (some ⟨g,0,none⟩) M M) ?_;refine bD (.int .i64 k) ?_
   refine bd g (k*25) ?_ (h:=fun _ _=>by simp[go_sem,hkM])
   refine bd g (k*25+1) ?_;refine aR rfl 66 _ rfl g (k*25+1) rfl (fc (eF (gf b k))) _ underlying66 rfl (gK _) R1 ?_;simp only[qZ];refine bD (.slice (some ⟨b2,off,none⟩) n c) ?_;refine bD (.int .i64 k) ?_
   refine bd b2 (off+k*25) ?_ (h:=fun _ _=>by simp[go_sem,hkn])
   refine bd b2 (off+k*25+1) ?_;refine aR rfl 66 _ rfl b2 (off+k*25+1) rfl (fc (eF (gf b k))) _ underlying66 rfl (gK _) R2 ?_;simp only[qZ]
   refine br rfl 17 #[.agg (fc (eF (gf b k))),.agg (fc (eF (gf b k)))] (fun _=>by simp[go_sem]) _ SF1 ?_
   simp only[qZ];refine bH (.bool true) ?_;refine wpQuiet_nil ?_;intro w6 hw6;have p1:=aa HO1 w6 hw6;have p2:=aa HO2 w6 hw6;have hb6:=(aa hb).trans (hw6.mono (aa hb).size);have HB6:=ae hb6
   have b1:(gf b k 0 != gf b k 0)=false:=by simp
   clear hw6 SF1 R1 R2 hb6
   go_wp2_with fail
   go_quiet (fail)
   go_wp2_with fail
   go_roundw
   case rel=>exact⟨k+1,by omega,by go_num,ae (by repeat first|exact aa HB6|refine ap ?_ _|refine Below.drew ?_)⟩
   case measure=>simp[intOf]; omega
  have hkn:k=n:=by omega
  subst hkn
  have hkv:¬(k:Int)<k:=by omega
  go_wp2_with fail
  go_ret;exact⟨rfl,aa hb⟩
theorem mL (c n c':Nat)(o:Option Addr)(w:World):Calls prog 28 #[.slice o n c',.slice none 0 c] w fun e w'=>e=.returned (.bool true)/\w=w':=by
 go_enter func28,ntmps28
 go_wp2_with (refine cP _ _ (exNil 40 100 underlying40 none _ _ _ _ _ rfl rfl rfl _) rfl ?_)
 go_ret;exact⟨rfl,rfl⟩
theorem oB (va vb:Value)(l:List Int)(w:World)(ha:bL rI w va l)(hb:bL rI w vb l):
  Calls prog 59 #[va,vb] w fun e w'=>e=.returned (.bool true)/\Below w.heap.size w w':=by
 obtain⟨oa,ca,rfl,_,hma,hna⟩:=ha;obtain⟨ob,cb,rfl,_,hmb,hnb⟩:=hb;have HA:=ae hna;have HB:=ae hnb;unfold maxLen at hma;clear hna hnb hmb;go_enter func59,ntmps59
 go_wp2_with fail
 go_loopw [5] (fun i wr=>∃k:Nat,k<=l.length/\i=.int .i64 k/\Hid (Below w.heap.size w wr)) (fun i _=>l.length-(intOf i).toNat)
 case atStart=>exact⟨0,by omega,rfl,ae bu⟩
 case round=>
  obtain⟨k,hk,rfl,hb⟩:=hrel
  by_cases hlt:k<l.length
  ·have hkn:(k:Int)<l.length:=by omega
   obtain⟨ba,fa,rfl,hla,hca⟩:=aa HA (by omega)
   obtain⟨bb,fb,rfl,hlb,hcb⟩:=aa HB (by omega)
   have hi:l[k]?=some l[k]:=List.getElem?_eq_getElem hlt;have c1:=((aa hb).cell (p:=⟨ba,fa+k,none⟩) hla).trans (rngI hca hi);have c2:=((aa hb).cell (p:=⟨bb,fb+k,none⟩) hlb).trans (rngI hcb hi);obtain⟨X,hX⟩:∃X,l[k]=X:=⟨_,rfl⟩;rw[hX] at c1 c2
   have b1:(X != X)=false:=by simp
   clear hca hcb hi hX
   go_wp2_with fail
   go_quiet (fail)
   go_wp2_with fail
   go_roundw
   case rel=>exact⟨k+1,by omega,by go_num,ae (by repeat first|exact aa hb|refine ap ?_ _|refine Below.drew ?_)⟩
   case measure=>simp[intOf]; omega
  have hkn:k=l.length:=by omega
  subst hkn
  go_wp2_with fail
  go_ret;exact⟨rfl,aa hb⟩
theorem gf_rep {n i:Nat}{x:Nat->Int}(h:i<n):gf (List.replicate n x) i=x:=by unfold gf; rw[List.getElem?_replicate,if_pos h]; rfl
theorem eF_owE (j:Nat):fc (eF (owE j))=fc zf:=by
 rw[cc_fc,cc_fc];refine cc_ext fun t _=>?_
 show(if 1+t=0 then _ else (0:Int))=zf t
 rw[if_neg (by omega)]; rfl
theorem built0:prog.built 66 []=some (fc zf):=by kernel_rfl
theorem run_b0 (A:Act)(o:Oper)(ho:o.op=.build 66 #[])(w:World):(execOp A.eval o).run prog w=.ok (.value (.agg (fc zf))) w:=by
 have hb:=run_build (P:=prog) w 66 #[] (fc zf) built0;unfold execOp;simp[ho,hb]
theorem at_rngF {W:World}{b off n:Nat}{x:Nat->Int}(h:∀i a,(List.replicate n x)[i]?=some a->W.rangeAt b (off+i*rF.wid) (rF.enc a)){t:Nat}(ht:t<n):W.rangeAt b (off+t*24) (fc x).toList:=by
 have:=rngF h (k:=t) (by rw[List.length_replicate]; exact ht)
 rwa [gf_rep ht] at this
section
variable {w:World}{ob:Nat}{V:OV}{IS FS RS GS ES:List cA}
theorem looks_any (h:bA w ob V IS FS RS GS ES)(h1:IS.length<=10000000)(h2:FS.length<=10000000)(hM:∀W,Below w.heap.size w W->Calls prog 18 #[.pointer (some ⟨ob,0,none⟩)] W fun e w'=>e=.returned (.bool true)/\Below W.heap.size W w'):
  Calls prog 8 #[.pointer (some ⟨ob,0,none⟩)] w fun e w'=>e=.returned (.bool true)/\Below w.heap.size w w':=by
 obtain⟨ia,ik,hiv⟩:=h.i.slice;obtain⟨fa,fk,hfv⟩:=h.f.slice
 have HC0:=ae (show w.cell? ⟨ob,0,none⟩=some (.slice ia IS.length ik) by rw[h.cells 0]; show some V.iv=_; rw[hiv])
 have HC1:=ae (show w.cell? ⟨ob,1,none⟩=some (.slice fa FS.length fk) by rw[h.cells 1]; show some V.fv=_; rw[hfv])
 have hob:=an h.blk;have HI:=ae h;have HIV:=ae hiv;have HFV:=ae hfv;have HM:=ae hM;clear h hiv hfv hM;go_enter func8,ntmps8
 go_wp2_with fail
 go_loopw [3,4] (fun i _ wr=>∃k:Nat,k<=IS.length/\i=.int .i64 k/\Hid (Below w.heap.size w wr)) (fun i _ _=>IS.length-(intOf i).toNat)
 case atStart=>exact⟨0,by omega,rfl,ae bu⟩
 case round=>
  obtain⟨k,hk,rfl,hb⟩:=hrel;have r0:=((aa hb).cell (p:=⟨ob,0,none⟩) hob).trans (aa HC0)
  by_cases hlt:k<IS.length
  ·have hkn:(k:Int)<IS.length:=by omega
   obtain⟨⟨sa,sn,sc⟩,hs⟩:∃s,IS[k]?=some s:=⟨_,List.getElem?_eq_getElem hlt⟩;obtain⟨oa,cap,e,_,_,hr⟩:=(aa HI).i.at;rw[aa HIV] at e;cases e
   obtain⟨b,off,rfl,hbl,hr0⟩:=hr (by omega)
   have hcs:=(rngS hr0 hs).trans (show _=some (Value.slice sa sn sc) from rfl);have hO:=show ah rI 3 _ (.slice sa sn sc) (List.replicate sn (ei k)) from((aa HI).il k _ hs);obtain⟨oa2,cap2,e2,_,hm2,hr2⟩:=hO.at;rw[List.length_replicate] at e2 hm2 hr2;cases e2;have HR2:=ae hr2;have rs:=((aa hb).cell (p:=⟨b,off+k,none⟩) hbl).trans hcs
   have hm3:(sn:Int)<=9223372036854775807:=by unfold maxLen at hm2; omega
   have HR0:=ae r0;have HRS:=ae rs;have hl1:=(aa hb).size;clear hr hr0 hcs hO hr2 hm2
   go_wp2_with fail
   clear r0 rs
   go_loopw [4] (fun i w3=>∃t:Nat,t<=sn/\i=.int .i64 t/\Hid (Below wr.heap.size wr w3)) (fun i _=>sn-(intOf i).toNat)
   case atStart=>exact⟨0,by omega,rfl,ae bu⟩
   case round=>
    obtain⟨t,ht,rfl,hb3⟩:=hrel
    have q0:=((aa hb3).cell (p:=⟨ob,0,none⟩) (by show ob<_; omega)).trans (aa HR0)
    have qs:=((aa hb3).cell (p:=⟨b,off+k,none⟩) (by show b<_; omega)).trans (aa HRS)
    by_cases htl:t<sn
    ·have htn:(t:Int)<sn:=by omega
     obtain⟨b2,off2,rfl,hb2,hr5⟩:=aa HR2 (by omega)
     have hb4:=(aa hb).trans ((aa hb3).mono (aa hb).size)
     have po:=(hb4.cell (p:=⟨b2,off2+t,none⟩) hb2).trans (rngI hr5 (show(List.replicate sn (ei k))[t]?=some (ei k) by rw[List.getElem?_replicate,if_pos htl]))
     have OW:=ae (fun W=>eC k W (by omega))
     have b1:(ei k != ei k)=false:=by simp
     clear hr5 hb4
     go_wp2_with fail
     go_quiet (exact(aa OW _).mono fun e w' h=>⟨h.1,_,h.2.symm⟩)
     go_wp2_with fail
     go_roundw
     case rel=>exact⟨t+1,by omega,by go_num,ae (by repeat first|exact aa hb3|refine ap ?_ _|refine Below.drew ?_)⟩
     case measure=>simp[intOf]; omega
    have htn:t=sn:=by omega
    subst htn;have HB7:=ae ((aa hb).trans ((aa hb3).mono (aa hb).size))
    go_wp2_with fail
    go_roundw
    case rel=>exact⟨k+1,by omega,by go_num,HB7⟩
    case measure=>simp[intOf]; omega
  have hkn:k=IS.length:=by omega
  subst hkn;have r1:=((aa hb).cell (p:=⟨ob,1,none⟩) hob).trans (aa HC1);have hl0:=(aa hb).size
  go_wp2_with fail
  clear r0 r1
  go_loopw [5,6,7] (fun i _ _ w2=>∃k:Nat,k<=FS.length/\i=.int .i64 k/\Hid (Below w.heap.size w w2)) (fun i _ _ _=>FS.length-(intOf i).toNat)
  case atStart=>exact⟨0,by omega,rfl,hb⟩
  case round=>
   obtain⟨k,hk,rfl,hb⟩:=hrel;have r0:=((aa hb).cell (p:=⟨ob,1,none⟩) hob).trans (aa HC1)
   by_cases hlt:k<FS.length
   ·have hkn:(k:Int)<FS.length:=by omega
    obtain⟨⟨sa,sn,sc⟩,hs⟩:∃s,FS[k]?=some s:=⟨_,List.getElem?_eq_getElem hlt⟩;obtain⟨oa,cap,e,_,_,hr⟩:=(aa HI).f.at;rw[aa HFV] at e;cases e
    obtain⟨b,off,rfl,hbl,hr0⟩:=hr (by omega)
    have hcs:=(rngS hr0 hs).trans (show _=some (Value.slice sa sn sc) from rfl);have hO:=show ah rF 66 _ (.slice sa sn sc) (List.replicate sn (oP k)) from((aa HI).fl k _ hs);obtain⟨oa2,cap2,e2,_,hm2,hr2⟩:=hO.at;rw[List.length_replicate] at e2 hm2 hr2;cases e2;have HR2:=ae hr2;have rs:=((aa hb).cell (p:=⟨b,off+k,none⟩) hbl).trans hcs
    have hm3:(sn:Int)<=9223372036854775807:=by unfold maxLen at hm2; omega
    have HR0:=ae r0;have HRS:=ae rs;have hl1:=(aa hb).size;clear hr hr0 hcs hO hr2 hm2
    go_wp2_with fail
    clear r0 rs
    go_loopw [6,7] (fun i _ w3=>∃t:Nat,t<=sn/\i=.int .i64 t/\Hid (Below wr.heap.size wr w3)) (fun i _ _=>sn-(intOf i).toNat)
    case atStart=>exact⟨0,by omega,rfl,ae bu⟩
    case round=>
     obtain⟨t,ht,rfl,hb3⟩:=hrel;have hl3:=(aa hb3).size
     have q0:=((aa hb3).cell (p:=⟨ob,1,none⟩) (by show ob<_; omega)).trans (aa HR0)
     have qs:=((aa hb3).cell (p:=⟨b,off+k,none⟩) (by show b<_; omega)).trans (aa HRS)
     by_cases htl:t<sn
     ·have htn:(t:Int)<sn:=by omega
      obtain⟨b2,off2,rfl,hb2,hr5⟩:=aa HR2 (by omega)
      have hb4:=(aa hb).trans ((aa hb3).mono (aa hb).size)
      have Q0:∀W,Below wr.heap.size wr W->W.cell? ⟨ob,1,none⟩=some (.slice (some ⟨b,off,none⟩) FS.length fk):=fun W hW=>(hW.cell (p:=⟨ob,1,none⟩) (by show ob<_; omega)).trans q0
      have QS:∀W,Below wr.heap.size wr W->W.cell? ⟨b,off+k,none⟩=some (.slice (some ⟨b2,off2,none⟩) sn sc):=fun W hW=>(hW.cell (p:=⟨b,off+k,none⟩) (by show b<_; omega)).trans qs
      have RG:∀W,Below wr.heap.size wr W->W.rangeAt b2 (off2+t*24) (fc (oP k)).toList:=fun W hW j u hu=>((hb4.trans (hW.mono hb4.size)).cell (p:=⟨b2,off2+t*24+j,none⟩) hb2).trans (at_rngF hr5 htl j u hu)
      have OW:∀W,Calls prog 16 #[.int .i64 (k:Nat)] W fun e w'=>e=.returned (.int .i64 (ei k))/\Below W.heap.size W w':=fun W=>(eC k W (by omega)).mono fun e w' h=>⟨h.1,by rw[<-h.2]; exact Below.refl _ _⟩
      have SE:=fun W=>fy (oP k) W;clear hr5 hb4
      go_wp2_with fail
      clear q0 qs
      refine aM (by kernel_rfl) (by kernel_rfl) ?_
      refine eI ob 0 ?_;refine bd ob 0 ?_;refine bd ob 1 ?_
      refine bH (.slice (some ⟨b,off,none⟩) FS.length fk) ?_ (h:=fun w' h=>by simp[go_sem,Q0 w' h])
      refine bD (.int .i64 k) ?_
      refine bd b (off+k) ?_ (h:=fun _ _=>by simp[go_sem,hkn])
      refine bH (.slice (some ⟨b2,off2,none⟩) sn sc) ?_ (h:=fun w' h=>by simp[go_sem,QS w' h])
      refine bD (.int .i64 t) ?_
      refine bd b2 (off2+t*24) ?_ (h:=fun _ _=>by simp[go_sem,htn])
      refine aR rfl 66 _ rfl b2 (off2+t*24) rfl (fc (oP k)) _ underlying66 rfl (gK _) RG ?_;simp only[qZ];refine bD (.int .i64 k) ?_
      refine br rfl 16 #[k] (fun _=>by simp[go_sem]) _ OW ?_
      simp only[qZ];refine bH (.agg (fc (oP k))) ?_ (h:=fun w' _=>run_bF k _ _ _ rfl rfl w')
      refine br rfl 17 #[.agg (fc (oP k)),.agg (fc (oP k))] (fun _=>by simp[go_sem]) _ SE ?_
      simp only[qZ];refine bH (.bool true) ?_;refine wpQuiet_nil ?_;intro w6 hw6;have HB6:=ae ((aa hb3).trans (hw6.mono (aa hb3).size));clear hw6 SE OW RG Q0 QS
      go_wp2_with fail
      go_roundw
      case rel=>exact⟨t+1,by omega,by go_num,HB6⟩
      case measure=>simp[intOf]; omega
     have htn:t=sn:=by omega
     subst htn;have HB7:=ae ((aa hb).trans ((aa hb3).mono (aa hb).size))
     go_wp2_with fail
     go_roundw
     case rel=>exact⟨k+1,by omega,by go_num,HB7⟩
     case measure=>simp[intOf]; omega
   have hkn:k=FS.length:=by omega
   subst hkn;have HM2:=ae (aa HM wr (aa hb))
   go_wp2_with fail
   refine(aa HM2).mono ?_;rintro e w6 ⟨rfl,hb6⟩;have HB6:=ae ((aa hb).trans (hb6.mono (aa hb).size));clear hb6
   go_wp2_with fail
   go_ret;exact⟨rfl,aa HB6⟩
end
section
variable {w:World}{sb:Nat}{keep:Int}{n:Nat}{sl pv:Value}{LS:List (Nat->Int)}{PI:List Int}
theorem xHeld_any (hs:dD w sb keep (n:Nat) sl pv LS (ri PI))(hl:PI.length<=6)(hk:0<=keep/\keep<=4)(hn:n<=100):
  Calls prog 57 #[.pointer (some ⟨sb,0,none⟩)] w fun en w'=>∃rv,en=.returned rv/\ah rI 3 w' rv (md keep n PI (n+1))/\(∀g,rv.ownBlock=some g->w.heap.size<=g)/\Below w.heap.size w w':=by
 obtain⟨_,c1,_,_⟩:=hs.cells;have hlr:=hs.lt;have HS:=ae hs;have HC1:=ae c1
 have HO0:=ae (cr (R:=rI) (T:=3) w [] #[] rfl (by simp))
 have HB0:=ae (aj w (.cells #[] 3));clear hs c1;go_enter func57,ntmps57
 go_wp2_with fail
 go_loopw [3,4] (fun lv i wr=>∃k:Nat,k<=n+1/\i=.int .i64 k/\Hid (ah rI 3 wr lv (md keep n PI k))/\Hid (∀g,lv.ownBlock=some g->w.heap.size<=g)/\Hid (Below w.heap.size w wr)) (fun _ i _=>n+1-(intOf i).toNat)
 case atStart=>exact⟨0,by omega,rfl,HO0,ae (fun g hg=>by simp[Value.ownBlock] at hg; omega),HB0⟩
 case round=>
  obtain⟨k,hk',rfl,ho,hf,hb⟩:=hrel;have r1:=((aa hb).cell (p:=⟨sb,1,none⟩) hlr).trans (aa HC1)
  by_cases hlt:k<=n
  ·have hkn:(k:Int)<=n:=by omega
   have HI:=ae (gm sb keep (n:Nat) sl pv LS (ri PI) (k:Nat) wr ((aa HS).on (aa hb)) (by rw[fI]; omega) hk (by omega))
   obtain⟨B,hB⟩:∃B,bS keep (n:Nat) (ri PI) (k:Nat)=B:=⟨_,rfl⟩;have HSC:=ae (nL keep n PI k);rw[hB] at HI HSC;clear hB
   go_wp2_with fail
   refine(aa HI).mono ?_;rintro en w2 ⟨rfl,hb2⟩;have HO2:=ae ((aa ho).on hb2);have HB2:=ae ((aa hb).trans (hb2.mono (aa hb).size));clear hb2 r1
   cases B with
   | false=>
    go_wp2_with fail
    go_roundw
    case rel=>exact⟨k+1,by omega,by go_num,by rw[aa HSC,cond_false,List.append_nil]; exact HO2,hf,HB2⟩
    case measure=>simp[intOf]; omega
   | true=>
    have hll:=hldL_len keep n PI k
    obtain⟨v3,w3,r1,r2,r3,r4⟩:=apI ((aa HO2).on (bu.alloc aD (.cells #[(k:Int)] 3))) (aZ rI 3 w2 (k:Int) #[(k:Int)] rfl) (by simp; omega)
    have HO3:Hid (ah rI 3 w3 v3 (md keep n PI (k+1))):=by rw[aa HSC]; exact r2
    have HF3:Hid (∀g,v3.ownBlock=some g->w.heap.size<=g):=fun g hg=>by
     rcases r4 with r4|r4
     ·exact aa hf g (r4▸hg)
     have q1:=r4 g hg; have:=(aa HB2).size; simp at q1; omega
    have HB3:=ae (((aa HB2).alloc (aa HB2).size _).grown r3 (by have:=(aa HB2).size; simp; omega) (fun g hg=>aa hf g hg))
    clear r2 r3 r4
    go_wp2_with (first|refine cP _ _ (bsI (k:Int) _ _ _ rfl rfl _) rfl ?_|(at_builtin; refine fS 60 r1 rfl _ _ rfl rfl rfl rfl ?_))
    go_roundw
    case rel=>exact⟨k+1,by omega,by go_num,HO3,HF3,HB3⟩
    case measure=>simp[intOf]; omega
  have hkn:k=n+1:=by omega
  subst hkn
  have hkv:¬((n+1:Nat):Int)<=n:=by omega
  go_wp2_with fail
  go_ret;exact⟨_,rfl,aa ho,aa hf,aa hb⟩
theorem Apply_big {v:Value}{k:Nat}{es:Nat->Nat->Int}(hv:mD 25 w v k es)(hk:8<k)(sb:Nat):
  Calls prog 26 #[.pointer (some ⟨sb,0,none⟩),v] w fun e w'=>e=.returned (.tuple #[(),(8:Int)])/\w=w':=by
 obtain⟨oa,cap,rfl,hm,_⟩:=hv
 have h1:¬(k:Int)<1:=by omega
 have h2:(8:Int)<k:=by omega
 unfold maxLen at hm;go_enter func26,ntmps26
 go_wp2_with fail
 go_ret2
 exact⟨rfl,rfl⟩
end
structure DV where
 sb:Nat
 sl:Value
 pv:Value
 LS:List (Nat->Int)
 rb:Nat
 bv:Value
 rp:Value
 SL:List cA
 keep:Int
 bs:List bK
 PI:List Int
def XF (d:DV)(k:Nat):Prop:=k=d.sb\/d.sl.ownBlock=some k\/d.pv.ownBlock=some k
def RF (d:DV)(k:Nat):Prop:=k=d.rb\/d.bv.ownBlock=some k\/d.rp.ownBlock=some k\/∃s∈d.SL,s.v.ownBlock=some k
def df (d:DV)(k:Nat):Prop:=XF d k\/RF d k
abbrev XSt (w:World)(d:DV):Prop:=dD w d.sb d.keep (d.bs.length:Nat) d.sl d.pv d.LS (ri d.PI)
abbrev RS' (w:World)(d:DV):Prop:=eV w d.rb d.keep d.bv d.rp d.SL d.bs d.PI
structure Dep (w:World)(d:DV):Prop where
 x:XSt w d
 r:RS' w d
 pr:PR d.LS d.bs
 k:0<=d.keep/\d.keep<=4
 p:d.PI.length<=6
 b8:∀k,k<d.bs.length->(ff d.bs k).length<=8
 dj:∀g,d.pv.ownBlock=some g->d.rp.ownBlock≠some g
theorem dD.frmS {w w':World}{sb:Nat}{keep ver:Int}{sl pv:Value}{LS PL:List (Nat->Int)}{S:Nat->Prop}(h:dD w sb keep ver sl pv LS PL)(hF:aE S w w')(h0:¬S sb)(h1:∀k,sl.ownBlock=some k->¬S k)(h2:∀k,pv.ownBlock=some k->¬S k):dD w' sb keep ver sl pv LS PL:=
 ⟨aQ h.blk hF h0,h.own.same fun g hg=>hF.block g (h.own.lt g hg).2 (h1 g hg),h.pins.same fun g hg=>hF.block g (h.pins.lt g hg).2 (h2 g hg)⟩
theorem eV.frm {w w':World}{rb:Nat}{keep:Int}{bv pv:Value}{SL:List cA}{bs:List bK}{PI:List Int}{S:Nat->Prop}(h:eV w rb keep bv pv SL bs PI)(hF:aE S w w')(h0:¬S rb)(h1:∀k,bv.ownBlock=some k->¬S k)(h2:∀k,pv.ownBlock=some k->¬S k)(h3:∀s∈SL,∀k,s.v.ownBlock=some k->¬S k):eV w' rb keep bv pv SL bs PI:=
 ⟨aQ h.blk hF h0,h.bat.frm hF h1,h.len,fun i s b hs hb=>(h.bts i s b hs hb).frm hF (h3 s (List.mem_of_getElem? hs)),h.pin.frm hF h2⟩
theorem XSt.fr {w w':World}{d:DV}{S:Nat->Prop}(h:XSt w d)(hF:aE S w w')(hS:∀k,XF d k->¬S k):XSt w' d:=dD.frmS h hF (hS _ (Or.inl rfl)) (fun k q=>hS k (Or.inr (Or.inl q))) (fun k q=>hS k (Or.inr (Or.inr q)))
theorem RS'.fr {w w':World}{d:DV}{S:Nat->Prop}(h:RS' w d)(hF:aE S w w')(hS:∀k,RF d k->¬S k):RS' w' d:=eV.frm h hF (hS _ (Or.inl rfl)) (fun k q=>hS k (Or.inr (Or.inl q))) (fun k q=>hS k (Or.inr (Or.inr (Or.inl q)))) (fun s hs k q=>hS k (Or.inr (Or.inr (Or.inr ⟨s,hs,q⟩))))
theorem Dep.frm {w w':World}{d:DV}{S:Nat->Prop}(h:Dep w d)(hF:aE S w w')(hS:∀k,df d k->¬S k):Dep w' d:=
 ⟨XSt.fr h.x hF fun k q=>hS k (Or.inl q),RS'.fr h.r hF fun k q=>hS k (Or.inr q),h.pr,h.k,h.p,h.b8,h.dj⟩
theorem Dep.on {w w':World}{d:DV}(h:Dep w d)(hb:Below w.heap.size w w'):Dep w' d:=h.frm (S:=fun _=>False) (aE.of_below hb) (fun _ _ q=>q)
theorem eV.sl {w:World}{rb:Nat}{keep:Int}{bv pv:Value}{SL:List cA}{bs:List bK}{PI:List Int}(h:eV w rb keep bv pv SL bs PI){s:cA}(hs:s∈SL):∃b,ah rE 100 w s.v b:=by
 obtain⟨i,hi⟩:=List.mem_iff_getElem?.1 hs
 have hlt:i<bs.length:=by rw[<-h.len]; exact(List.getElem?_eq_some_iff.1 hi).1
 exact⟨_,h.bts i s _ hi (List.getElem?_eq_getElem hlt)⟩
theorem XSt.lt {w:World}{d:DV}(h:XSt w d){k:Nat}(hk:XF d k):k<w.heap.size:=by
 rcases hk with rfl|q|q
 ·exact an h.blk
 ·exact(h.own.lt k q).2
 exact(h.pins.lt k q).2
theorem RS'.lt {w:World}{d:DV}(h:RS' w d){k:Nat}(hk:RF d k):k<w.heap.size:=by
 rcases hk with rfl|q|q|⟨s,hs,q⟩
 ·exact an h.blk
 ·exact h.bat.lt q
 ·exact h.pin.lt q
 obtain⟨b,hb⟩:=h.sl hs;exact hb.lt q
theorem Dep.lt {w:World}{d:DV}(h:Dep w d){k:Nat}(hk:df d k):k<w.heap.size:=by
 rcases hk with q|q
 ·exact XSt.lt h.x q
 exact RS'.lt h.r q
structure OL where
 V:OV
 IS:List cA
 FS:List cA
 RS:List cA
 GS:List cA
 ES:List cA
abbrev io (w:World)(ob:Nat)(O:OL):Prop:=bA w ob O.V O.IS O.FS O.RS O.GS O.ES
abbrev OF (ob:Nat)(O:OL)(k:Nat):Prop:=j8 ob O.V O.IS O.FS O.RS O.GS O.ES k
structure OStp (w:World)(O:OL)(ob:Nat)(O':OL):Prop where
 foot:∀k,OF ob O' k->OF ob O k\/w.heap.size<=k
 il:O'.IS.length<=O.IS.length+1
 fl:O'.FS.length<=O.FS.length+1
 rl:O'.RS.length<=O.RS.length+1
 gl:O'.GS.length<=O.GS.length+1
 el:O'.ES.length<=O.ES.length+1
 r0:O.RS=[]->O'.RS=[]
 g0:O.GS=[]->O'.GS=[]
theorem OStp.rfl' (w:World)(O:OL)(ob:Nat):OStp w O ob O:=⟨fun _ q=>Or.inl q,by omega,by omega,by omega,by omega,by omega,id,id⟩
structure Pst (w:World)(d:DV)(ob:Nat)(O:OL)(w':World)(d':DV)(O':OL):Prop where
 dep:Dep w' d'
 own:io w' ob O'
 dj:∀k,df d' k->¬OF ob O' k
 frm:aE (fun k=>df d k\/OF ob O k) w w'
 foot:∀k,df d' k->df d k\/w.heap.size<=k
 ost:OStp w O ob O'
 sb:d'.sb=d.sb
 rb:d'.rb=d.rb
theorem Pst.plain {w w':World}{d d':DV}{ob:Nat}{O:OL}(hO:io w ob O)(hdj:∀k,df d k->¬OF ob O k)(hd:Dep w' d')(hF:aE (df d) w w')(hf:∀k,df d' k->df d k\/w.heap.size<=k)(hs:d'.sb=d.sb)(hr:d'.rb=d.rb):Pst w d ob O w' d' O:=
 ⟨hd,bA.frm hO hF fun k q q'=>hdj k q' q,fun k q q'=>by
  rcases hf k q with e|e
  ·exact hdj k e q'
  have:=bA.lt hO q'; omega,hF.mono fun _ _ q=>Or.inl q,hf,OStp.rfl' _ _ _,hs,hr⟩
theorem Pst.still {w w':World}{d:DV}{ob:Nat}{O:OL}(h:Dep w d)(hO:io w ob O)(hdj:∀k,df d k->¬OF ob O k)(hb:Below w.heap.size w w'):Pst w d ob O w' d O:=
 Pst.plain hO hdj (h.on hb) (aE.of_below hb) (fun _ q=>Or.inl q) rfl rfl
theorem Pst.join {w w1 w':World}{d d1:DV}{ob:Nat}{O O':OL}{v:Value}{u:Value}(h:Pst w d ob O w1 d1 O)(hown:io w' ob O')(hF:aE (fun k=>k=ob\/u.ownBlock=some k\/v.ownBlock=some k) w1 w')(hu:∀k,u.ownBlock=some k->OF ob O k)(hv:∀k,v.ownBlock=some k->w.heap.size<=k/\¬df d1 k)
  (hf:∀k,OF ob O' k->OF ob O k\/v.ownBlock=some k\/w1.heap.size<=k) (hst:O'.IS.length<=O.IS.length+1/\O'.FS.length<=O.FS.length+1/\O'.RS.length<=O.RS.length+1/\O'.GS.length<=O.GS.length+1/\O'.ES.length<=O.ES.length+1) (h0:(O.RS=[]->O'.RS=[])/\(O.GS=[]->O'.GS=[])):Pst w d ob O w' d1 O':=by
 have hsz:=h.frm.size;refine⟨h.dep.frm hF fun k q q'=>?_,hown,fun k q q'=>?_,h.frm.then hF fun k hk q=>?_,h.foot,⟨fun k q=>?_,hst.1,hst.2.1,hst.2.2.1,hst.2.2.2.1,hst.2.2.2.2,h0.1,h0.2⟩,h.sb,h.rb⟩
 ·rcases q' with rfl|q'|q'
  ·exact h.dj _ q (Or.inl rfl)
  ·exact h.dj k q (hu k q')
  exact(hv k q').2 q
 ·rcases hf k q' with e|e|e
  ·exact h.dj k q e
  ·exact(hv k e).2 q
  have:=h.dep.lt q; omega
 ·rcases q with rfl|q|q
  ·exact Or.inr (Or.inl rfl)
  ·exact Or.inr (hu k q)
  have:=(hv k q).1; omega
 rcases hf k q with e|e|e
 ·exact Or.inl e
 ·exact Or.inr (hv k e).1
 exact Or.inr (by omega)
structure RNum (Y:RV)(D:DF):Prop where
 q:Y.q=D.q
 wk:Y.wk=D.wk
 wt:Y.wt=D.wt
 ca:Y.ca=D.ca
 ch:Y.ch=D.ch
 nw:Y.nw=D.now
 ct:Y.ct=D.ct
 st:Y.st=D.st
structure RD (w:World)(rb:Nat)(Y:RV)(bv:Value)(SL:List cA)(D:DF):Prop where
 blk:aF w rb Y
 mem:cE w Y D.rq D.jb D.en
 sto:eV w Y.sb 0 bv (.slice none 0 0) SL D.bs []
 num:RNum Y D
def RDF (rb:Nat)(Y:RV)(bv:Value)(SL:List cA)(k:Nat):Prop:=RSet rb Y k\/k=Y.sb\/bv.ownBlock=some k\/∃s∈SL,s.v.ownBlock=some k
section
variable {w w':World}{rb:Nat}{Y Y':RV}{bv:Value}{SL:List cA}{D D':DF}
theorem RD.ty (h:RD w rb Y bv SL D):fQ (RDF rb Y bv SL) w [135,158,165,162,121,40,100]:=fun k hk=>by
 rcases hk with q|rfl|q|⟨s,hs,q⟩
 ·obtain⟨c,T,e,hT⟩:=h.mem.ty h.blk k q
  exact⟨c,T,e,by simp only[List.mem_cons,List.not_mem_nil,or_false] at hT ⊢; rcases hT with rfl|rfl|rfl|rfl<;>simp⟩
 ·exact⟨_,_,h.sto.blk,by simp⟩
 ·obtain⟨c,e⟩:=h.sto.bat.ty q; exact⟨_,_,e,by simp⟩
 obtain⟨b,hb⟩:=h.sto.sl hs
 obtain⟨c,e⟩:=hb.ty q; exact⟨_,_,e,by simp⟩
theorem RD.lt (h:RD w rb Y bv SL D){k:Nat}(hk:RDF rb Y bv SL k):k<w.heap.size:=by
 obtain⟨c,T,e,_⟩:=h.ty k hk;exact an e
theorem cE.frm {X:RV}{rq:List Rq}{jb:List Jb}{en:List En}{S:Nat->Prop}(h:cE w X rq jb en)(hF:aE S w w')(hS:∀k,RSet rb X k->¬S k):cE w' X rq jb en:=
 ⟨h.rq.frm hF fun k q=>hS k (Or.inr (Or.inl q)),h.jb.frm hF fun k q=>hS k (Or.inr (Or.inr (Or.inl q))),h.en.frm hF fun k q=>hS k (Or.inr (Or.inr (Or.inr q)))⟩
theorem RD.frm {S:Nat->Prop}(h:RD w rb Y bv SL D)(hF:aE S w w')(hS:∀k,RDF rb Y bv SL k->¬S k):RD w' rb Y bv SL D:=
 ⟨aQ h.blk hF (hS _ (Or.inl (Or.inl rfl))),h.mem.frm (rb:=rb) hF (fun k q=>hS k (Or.inl q)),eV.frm h.sto hF (hS _ (Or.inr (Or.inl rfl))) (fun k q=>hS k (Or.inr (Or.inr (Or.inl q)))) (fun k q=>by cases q) (fun s hs k q=>hS k (Or.inr (Or.inr (Or.inr ⟨s,hs,q⟩)))),h.num⟩
theorem RD.on (h:RD w rb Y bv SL D)(hb:Below w.heap.size w w'):RD w' rb Y bv SL D:=h.frm (S:=fun _=>False) (aE.of_below hb) (fun _ _ q=>q)
theorem RD.step (h:RD w rb Y bv SL D)(hS:aP w rb Y w' Y' D'.rq D'.jb D'.en)(hbs:D'.bs=D.bs)(hn:RNum Y' D'):RD w' rb Y' bv SL D'/\(∀k,RDF rb Y' bv SL k->RDF rb Y bv SL k\/w.heap.size<=k)/\aE (RDF rb Y bv SL) w w':=by
 refine⟨⟨hS.blk,hS.mem,?_,hn⟩,fun k q=>?_,hS.frm.mono fun k _ q=>Or.inl q⟩
 ·rw[hS.sb,hbs]
  exact hS.rst h.blk h.mem h.sto
 rcases q with q|q|q
 ·rcases hS.new k q with e|e
  ·exact Or.inl (Or.inl e)
  exact Or.inr e
 ·exact Or.inl (Or.inr (Or.inl (by rw[q,hS.sb])))
 exact Or.inl (Or.inr (Or.inr q))
end
structure EV where
 fb:Nat
 X:FV
 sl:Value
 pv:Value
 W:List (Option Wk)
 F:FM
 rb:Nat
 Y:RV
 bv:Value
 SL:List cA
 D:DF
abbrev EV.P (e:EV)(k:Nat):Prop:=aw e.fb e.X e.sl e.pv e.W k
abbrev EV.R (e:EV)(k:Nat):Prop:=RDF e.rb e.Y e.bv e.SL k
def aX (e:EV)(k:Nat):Prop:=e.P k\/e.R k
structure cF (F:FM)(D:DF)(n:Nat):Prop where
 ok:Ok Oz F
 sim:fC F D
 pr:PR F.LS D.bs
 fls:∀v:Nat,v<=D.bs.length->F.FLs v=(dk D.bs v).map nf
 b8:∀k,k<D.bs.length->(ff D.bs k).length<=8
 sml:∀r∈D.rq,bP r.k
 ct:D.ct<=5*n
 rl:D.rq.length<=n
 now:D.now<=n
 st:D.st<=n
structure cO (w:World)(n:Nat)(e:EV):Prop where
 x:gF w e.fb e.X e.sl e.pv e.W e.F
 r:RD w e.rb e.Y e.bv e.SL e.D
 m:cF e.F e.D n
 lo:∀k,e.R k->4<=k
section
variable {w w':World}{n:Nat}{e:EV}
theorem gF.ty {fb:Nat}{X:FV}{sl pv:Value}{W:List (Option Wk)}{F:FM}(h:gF w fb X sl pv W F):fQ (aw fb X sl pv W) w [129,119,147,3,201,39,196,166,170,66]:=fun k hk=>by
 rcases hk with rfl|rfl|q|q|q|q|q|q|⟨i,u,hu,q⟩
 ·exact⟨_,_,h.blk,by simp⟩
 ·exact⟨_,_,h.mem.sto.blk,by simp⟩
 ·obtain⟨c,e⟩:=h.mem.sto.own.ty q; exact⟨_,_,e,by simp⟩
 ·obtain⟨c,e⟩:=h.mem.sto.pins.ty q; exact⟨_,_,e,by simp⟩
 ·obtain⟨c,e⟩:=h.mem.wai.ty q; exact⟨_,_,e,by simp⟩
 ·obtain⟨c,e⟩:=h.mem.lin.ty q; exact⟨_,_,e,by simp⟩
 ·obtain⟨c,e⟩:=h.mem.wkv.ty q; exact⟨_,_,e,by simp⟩
 ·obtain⟨c,e⟩:=h.mem.til.ty q; exact⟨_,_,e,by simp⟩
 obtain⟨h1,h2⟩:=h.mem.wat i u hu
 rcases q with rfl|q
 ·exact⟨_,_,h1,by simp⟩
 obtain⟨c,e⟩:=h2.ty q; exact⟨_,_,e,by simp⟩
end
end Go.Proofs.YtpabpniaekldeaaGreatDoor
namespace Go.Proofs.YtpabpniaekldeaaGreatDoor
open Go.Proofs.Tryz
set_option maxRecDepth 20000
section
variable (O:Ora)
variable {O}{F:FM}
structure Like (F G:FM):Prop where
 queue:G.queue=F.queue
 wait:G.wait=F.wait
 chunk:G.chunk=F.chunk
 room:G.room=F.room
 now:G.now=F.now
 arrived:G.arrived=F.arrived
 ver:G.ver=F.ver
 LS:G.LS=F.LS
 FLs:G.FLs=F.FLs
 wks:G.wks.length=F.wks.length
theorem Like.rfl' (F:FM):Like F F:=⟨rfl,rfl,rfl,rfl,rfl,rfl,rfl,rfl,rfl,rfl⟩
theorem work_like (F:FM)(i:Nat):Like F (F.work O i).1:=by
 unfold FM.work
 cases F.wks[i]? with
 | none=>exact Like.rfl' F
 | some o=>
  cases o with
  | none=>
   dsimp only;unfold FM.takeW
   cases F.line with
   | nil=>exact Like.rfl' F
   | cons b rest=>exact⟨rfl,rfl,rfl,rfl,rfl,rfl,rfl,rfl,rfl,by simp⟩
  | some f=>
   dsimp only
   split
   ·exact⟨rfl,rfl,rfl,rfl,rfl,rfl,rfl,rfl,rfl,by simp⟩
   exact⟨rfl,rfl,rfl,rfl,rfl,rfl,rfl,rfl,rfl,by simp[FM.finishW]⟩
theorem Ok.left40 (h:Ok O F){i:Nat}{f:Fl}(hi:F.wks[i]?=some (some f)):f.left<=40:=by
 have:=h.flt f (eY hi);exact this.2.1.le (h.hi.le40 _ this.1) h.ch.1
end
end Go.Proofs.YtpabpniaekldeaaGreatDoor
namespace Go.Proofs.YtpabpniaekldeaaGreatDoor
open Go.Proofs.Tryz
open Go.RowKit
set_option maxRecDepth 20000
section
variable {F:FM}{D:DF}{n:Nat}
theorem kpE_ct (ca cnt:Nat)(ts:List En)(t:aL):(mG ca cnt ts t).1<=cnt+1:=(kpE_le ca cnt ts t).1
theorem layN_c4 (bs:List bK)(ca:Nat)(b:K4)(rd:Nat)(c:Nat × List En):∀n,(layN bs ca b rd c n).1<=c.1+n
 | 0=>Nat.le_refl _
 | n+1=>by
  have h1:=layN_c4 bs ca b rd c n;rw[layN]
  split
  ·have:=kpE_ct ca (layN bs ca b rd c n).1 (layN bs ca b rd c n).2 (dx bs rd (cm b n))
   omega
  omega
theorem paint_ct (D:DF)(i:Nat)(j:Jb):(D.paint i j).1.ct<=D.ct+5:=by
 unfold DF.paint ptJ;have:=layN_c4 D.bs D.ca j.b j.rd.toNat (D.ct,D.en) 4;dsimp only at this ⊢
 split
 ·dsimp only; omega
 dsimp only; omega
theorem work_ct (D:DF)(a:Nat):(D.work a).1.ct<=D.ct+5:=by
 have ref:D.ct<=D.ct+5:=Nat.le_add_right _ _;unfold DF.work
 split
 ·exact ref
 split
 ·split
  ·split
   ·exact paint_ct { D with jb:=_ } _ _
   exact ref
  exact ref
 split
 ·split
  ·exact ref
  exact ref
 exact ref
theorem svF_k (bs:List bK)(j:Jb)(r:Rq):(svF bs j r).k=r.k:=by unfold svF; split<;>rfl
theorem ltF_k (m:Int)(r:Rq):(li m r).k=r.k:=by unfold li; split<;>rfl
structure kM (D D':DF):Prop where
 bs:D'.bs=D.bs
 q:D'.q=D.q
 wk:D'.wk=D.wk
 wt:D'.wt=D.wt
 ca:D'.ca=D.ca
 ch:D'.ch=D.ch
theorem kM.rfl' (D:DF):kM D D:=⟨rfl,rfl,rfl,rfl,rfl,rfl⟩
theorem work_dl (D:DF)(a:Nat):kM D (D.work a).1/\(D.work a).1.now=D.now/\(D.work a).1.st<=D.st+1/\(D.work a).1.rq.length=D.rq.length/\((∀r∈D.rq,bP r.k)->∀r∈(D.work a).1.rq,bP r.k):=by
 have ref:∀jb,kM D { D with jb:=jb }/\({ D with jb:=jb }:DF).now=D.now/\({ D with jb:=jb }:DF).st<=D.st+1/\({ D with jb:=jb }:DF).rq.length=D.rq.length/\((∀r∈D.rq,bP r.k)->∀r∈({ D with jb:=jb }:DF).rq,bP r.k):=fun jb=>⟨⟨rfl,rfl,rfl,rfl,rfl,rfl⟩,rfl,Nat.le_succ _,rfl,fun h=>h⟩;unfold DF.work
 split
 ·exact ref D.jb
 split
 ·split
  ·split
   ·refine⟨⟨rfl,rfl,rfl,rfl,rfl,rfl⟩,rfl,Nat.le_succ _,?_,fun h r hr=>?_⟩
    ·show(fP D.bs _ D.rq).length=_
     unfold fP; rw[List.length_map]
    obtain⟨r',hr',e⟩:=List.mem_map.1 hr;have:=h r' hr';rw[<-e,svF_k];exact this
   exact ref _
  exact ref D.jb
 split
 ·split
  ·exact⟨⟨rfl,rfl,rfl,rfl,rfl,rfl⟩,rfl,Nat.le_refl _,rfl,fun h=>h⟩
  exact ref D.jb
 exact ref D.jb
theorem tick_dl (D:DF):kM D D.tick.1/\D.tick.1.now=D.now+1/\D.tick.1.st=D.st/\D.tick.1.ct=D.ct/\D.tick.1.rq.length=D.rq.length/\((∀r∈D.rq,bP r.k)->∀r∈D.tick.1.rq,bP r.k):=by
 refine⟨⟨rfl,rfl,rfl,rfl,rfl,rfl⟩,rfl,rfl,rfl,?_,fun h r hr=>?_⟩
 ·show(D.rq.map _).length=_
  rw[List.length_map]
 obtain⟨r',hr',e⟩:=List.mem_map.1 hr;have:=h r' hr';rw[<-e,ltF_k];exact this
theorem nX (D:DF)(k:K4)(e:Int)(tag:ByteArray):kM D (D.arrive k e tag).1/\(D.arrive k e tag).1.now=D.now/\(D.arrive k e tag).1.st=D.st/\(D.arrive k e tag).1.ct<=D.ct+1/\(D.arrive k e tag).1.rq.length=D.rq.length+1/\(bP k->(∀r∈D.rq,bP r.k)->∀r∈(D.arrive k e tag).1.rq,bP r.k):=by
 have sm:∀r:Rq,r.k=k->bP k->(∀r∈D.rq,bP r.k)->∀q∈D.rq++[r],bP q.k:=fun r hr hk h q hq=>by
  rcases List.mem_append.1 hq with hq|hq
  ·exact h q hq
  simp only[List.mem_singleton] at hq
  rw[hq,hr]; exact hk
 have ln:∀r:Rq,(D.rq++[r]).length=D.rq.length+1:=fun r=>by simp
 unfold DF.arrive;dsimp only
 split
 ·exact⟨⟨rfl,rfl,rfl,rfl,rfl,rfl⟩,rfl,rfl,Nat.le_succ _,ln _,sm _ rfl⟩
 split
 ·exact⟨⟨rfl,rfl,rfl,rfl,rfl,rfl⟩,rfl,rfl,Nat.le_succ _,ln _,sm _ rfl⟩
 split
 ·exact⟨⟨rfl,rfl,rfl,rfl,rfl,rfl⟩,rfl,rfl,Nat.le_succ _,ln _,sm _ rfl⟩
 split
 ·split
  ·exact⟨⟨rfl,rfl,rfl,rfl,rfl,rfl⟩,rfl,rfl,Nat.le_refl _,ln _,sm _ rfl⟩
  exact⟨⟨rfl,rfl,rfl,rfl,rfl,rfl⟩,rfl,rfl,Nat.le_succ _,ln _,sm _ rfl⟩
 split
 ·exact⟨⟨rfl,rfl,rfl,rfl,rfl,rfl⟩,rfl,rfl,Nat.le_succ _,ln _,sm _ rfl⟩
 split
 ·exact⟨⟨rfl,rfl,rfl,rfl,rfl,rfl⟩,rfl,rfl,Nat.le_succ _,ln _,sm _ rfl⟩
 exact⟨⟨rfl,rfl,rfl,rfl,rfl,rfl⟩,rfl,rfl,Nat.le_refl _,ln _,sm _ rfl⟩
theorem cF.of {F':FM}{D':DF}(h:cF F D n)(hok:Ok Oz F')(hs:fC F' D')(hLS:F'.LS=F.LS)(hFL:F'.FLs=F.FLs)(hl:kM D D')(hsm:∀r∈D'.rq,bP r.k)(hct:D'.ct<=D.ct+5)(hrl:D'.rq.length<=D.rq.length+1)(hnw:D'.now<=D.now+1)(hst:D'.st<=D.st+1):cF F' D' (n+1):=by
 have h1:=h.ct;have h2:=h.rl;have h3:=h.now;have h4:=h.st
 exact⟨hok,hs,by rw[hLS,hl.bs]; exact h.pr,by rw[hFL,hl.bs]; exact h.fls,by rw[hl.bs]; exact h.b8,hsm,by omega,by omega,by omega,by omega⟩
theorem cF.work (h:cF F D n)(a:Nat):cF (F.work Oz a).1 (D.work a).1 (n+1)/\(F.work Oz a).2=(D.work a).2:=by
 obtain⟨d1,d2,d3,d4,d5⟩:=work_dl D a;obtain⟨s1,s2⟩:=h.sim.work h.ok a;have hl:=work_like (O:=Oz) F a
 exact⟨h.of (h.ok.work a) s1 hl.LS hl.FLs d1 (d5 h.sml) (work_ct D a) (by omega) (by omega) d3,s2⟩
theorem cF.still (h:cF F D n):cF F D (n+1):=h.of h.ok h.sim rfl rfl (kM.rfl' D) h.sml (by omega) (by omega) (by omega) (by omega)
theorem cF.tick (h:cF F D n):cF F.tick.1 D.tick.1 (n+1)/\F.tick.2=D.tick.2:=by
 obtain⟨d1,d2,d3,d4,d5,d6⟩:=tick_dl D;obtain⟨s1,s2⟩:=h.sim.tick
 exact⟨h.of h.ok.tick s1 rfl rfl d1 (d6 h.sml) (by omega) (by omega) (by omega) (by omega),s2⟩
theorem nD (p:ByteArray):bP (k8 p).1:=by
 rcases oK p with⟨_,h⟩|⟨_,h⟩
 ·exact h.small
 rw[h]; exact⟨by dsimp only; omega,by dsimp only; omega⟩
theorem arrK_like (F:FM)(k:K4)(tag:ByteArray):(F.arriveK Oz k tag).1.LS=F.LS/\(F.arriveK Oz k tag).1.FLs=F.FLs:=by
 unfold FM.arriveK;dsimp only
 split
 ·exact⟨rfl,rfl⟩
 split
 ·exact⟨rfl,rfl⟩
 split
 ·exact⟨rfl,rfl⟩
 exact⟨rfl,rfl⟩
theorem cF.arr (h:cF F D n)(p tag:ByteArray):cF (arr F p tag).1 (D.arrive (k8 p).1 (k8 p).2 tag).1 (n+1)/\(arr F p tag).2=(D.arrive (k8 p).1 (k8 p).2 tag).2:=by
 obtain⟨d1,d2,d3,d4,d5,d6⟩:=nX D (k8 p).1 (k8 p).2 tag;have hsm:=d6 (nD p) h.sml;unfold YtpabpniaekldeaaGreatDoor.arr
 rcases oK p with⟨he,hk⟩|⟨he,hk⟩
 ·rw[if_pos he]
  rw[he] at d1 d2 d3 d4 d5 hsm ⊢;obtain⟨s1,s2⟩:=h.sim.arriveK h.ok (k8 p).1 tag;have hl:=arrK_like F (k8 p).1 tag
  exact⟨h.of (h.ok.arriveK hk tag) s1 hl.1 hl.2 d1 hsm (by omega) (by omega) (by omega) (by omega),s2⟩
 rw[if_neg he];obtain⟨s1,s2⟩:=h.sim.arriveE (k8 p).1 he tag
 exact⟨h.of (h.ok.arriveE _) s1 rfl rfl d1 hsm (by omega) (by omega) (by omega) (by omega),s2⟩
theorem cF.bs (h:cF F D n):ke D.bs:=bsok_of h.pr h.b8
theorem cF.kok (h:cF F D n):∀r∈D.rq,r.done=false->dy r.k:=fun r hr hd=>by
 obtain⟨i,hi⟩:=List.mem_iff_getElem?.1 hr;have hm:=ol D.rq 0 i r hi hd;rw[<-h.sim.wai] at hm;exact(h.ok.req _ hm).2.2.2.1
theorem nW {k:K4}(h:bP k):bP k.blk:=by
 obtain⟨⟨h1,h2⟩,⟨h3,h4⟩⟩:=h;unfold K4.blk
 exact⟨⟨by dsimp only; omega,by dsimp only; omega⟩,⟨by dsimp only; omega,by dsimp only; omega⟩⟩
theorem cF.lens (h:cF F D n):D.jb.length<=12/\D.en.length<=2000/\aY D.en<=2000/\D.wk<=4/\D.wt<=50/\1<=D.ch/\D.ch<=8/\D.ca<=2000:=by
 have h1:=h.sim.jlen;have h2:=h.ok.linLe;have h3:=h.ok.wq;have h4:=h.ok.q;have h5:=fls_len F;have h6:=h.ok.wn;obtain⟨e1,e2⟩:=h.sim.elen;have h7:=h.ok.byt;have h8:=h.ok.rm
 have h9:F.tiles.length<=aA F.tiles:=by
  have:=f5 F.tiles fun t ht=>by
   obtain⟨hk,e⟩:=h.ok.til t ht;rw[e];exact(h.ok.hi.bod F.ver aD t.k hk).1
  omega
 have a1:=h.sim.wk;have a2:=h.sim.wt;have a3:=h.sim.ch;have a4:=h.sim.ca;have a5:=h.ok.wt;have a6:=h.ok.ch
 exact⟨by omega,by omega,by omega,by omega,by omega,by omega,by omega,by omega⟩
end
theorem built165 (l z x y p:Int):prog.built 165 [(0,.agg #[l,z,x,y]),(1,.int .i64 (-1)),(2,.int .i64 p)]=some (Jb.a ⟨⟨l,z,x,y⟩,-1,p,0,0⟩):=by kernel_rfl
theorem bJb (l z x y u:Int)(ev:Operand->Value)(o:Oper)(p q r:Operand)(ho:o.op=.build 165 #[(0,p),(1,q),(2,r)])(h0:ev p=.agg #[l,z,x,y])(h1:ev q=.int .i64 (-1))(h2:ev r=.int .i64 u)(w:World):(execOp ev o).run prog w=.ok (.value (.agg (Jb.a ⟨⟨l,z,x,y⟩,-1,u,0,0⟩))) w:=by
 have hb:=run_build (P:=prog) w 165 #[(0,.agg #[l,z,x,y]),(1,.int .i64 (-1)),(2,.int .i64 u)] _ (built165 l z x y u);unfold execOp;simp[ho,h0,h1,h2,hb]
theorem stMid (ev:Operand->Value)(o:Oper)(x y:Operand)(ty:TypeId)(ho:o.op=.store ty x y)(g off:Nat)(cs:Array Value)(hx:ev x=.pointer (some ⟨g,off,none⟩))(hy:ev y=.agg cs)(w w1:World)(ht:w.there g off cs.size)(hi:(prog.info? ty).map (·.size)=some cs.size)(h1:cs.all (·.oneCell')=true)(hw:w.setCells g off cs.toList=w1):(execOp ev o).run prog w=.ok .skip w1:=by
 subst hw;have:=run_storeAt_mid (P:=prog) w g off ty cs ht hi h1;unfold execOp;simp only[ho,hx,hy];simp[this]
def PtP (w:World)(fb:Nat)(X:RV)(bs:List bK)(ca cnt:Nat)(rq:List Rq)(jb:List Jb)(en:List En)(i:Nat)(j:Jb)(e:Ending)(w':World):Prop:=
 ∃rv jv' ev',e=.returned rv/\ah bE 103 w' rv (iC bs j 0 rq)/\(∀g,rv.ownBlock=some g->w.heap.size<=g) /\
  aP w fb X w' { X with ct:=((ptJ (fP bs j rq) (layN bs ca j.b j.rd.toNat (cnt,en) 4).1 jb i j.b).1:Int),jv:=jv',ev:=ev' } (fP bs j rq) (ptJ (fP bs j rq) (layN bs ca j.b j.rd.toNat (cnt,en) 4).1 jb i j.b).2 (layN bs ca j.b j.rd.toNat (cnt,en) 4).2
section
variable {w:World}{fb:Nat}{X:RV}{keep:Int}{bv pv:Value}{SL:List cA}{bs:List bK}{PI:List Int}
theorem painted_any (i:Nat)(jl jz jx jy jw jp jf:Int)(rd ca cnt:Nat)(rq:List Rq)(jb:List Jb)(en:List En)(hf:aF w fb X)(hm:cE w X rq jb en)(hca:X.ca=ca)(hct:X.ct=cnt)(hcb:cnt<=100000000)(hR:eV w X.sb keep bv pv SL bs PI)(hB:ke bs)(hrd:rd<=bs.length)(hj:jb[i]?=some ⟨⟨jl,jz,jx,jy⟩,jw,jp,(rd:Int),jf⟩)(hjs:bP ⟨jl,jz,jx,jy⟩)
  (hsm:∀r∈rq,bP r.k) (hko:∀r∈rq,r.done=false->dy r.k) (hrl:rq.length<=10000000) (hjl:jb.length<=1000000) (hel:en.length<=50000) (hby:aY en<=500000) :
  Calls prog 93 #[.pointer (some ⟨fb,0,none⟩),i] w fun e w'=>PtP w fb X bs ca cnt rq jb en i ⟨⟨jl,jz,jx,jy⟩,jw,jp,(rd:Int),jf⟩ e w':=by
 have hilt:i<jb.length:=(List.getElem?_eq_some_iff.1 hj).1
 have hin:(i:Int)<jb.length:=by omega
 obtain⟨gj,oj,cj,hjv⟩:=hm.jb.blkAt (by omega)
 have hjlt:gj<w.heap.size:=hm.jb.lt (by rw[hjv]; rfl)
 have hjrow:w.rangeAt gj (oj+i*8) #[.int .i64 jl,.int .i64 jz,.int .i64 jx,.int .i64 jy,.int .i64 jw,.int .i64 jp,.int .i64 (rd:Int),.int .i64 jf].toList:=by
  obtain⟨oa,cap',e,_,_,hc⟩:=hm.jb.at
  obtain⟨b',off',e',hbl,hc0⟩:=hc (by omega)
  rw[hjv,e'] at e;cases e;exact bL.jb hc0 hj
 have c10:w.cell? ⟨fb,10,none⟩=some (.slice (some ⟨gj,oj,none⟩) jb.length cj):=by rw[<-hjv]; exact aF.c hf 10 rfl
 obtain⟨⟨jx1,jx2⟩,⟨jy1,jy2⟩⟩:=hjs;dsimp only at jx1 jx2 jy1 jy2;have hA:=heap_alloc_new w (.cells #[jl,jz,jx,jy,jw,jp,(rd:Int),jf] 165);have hbA:=aj w (.cells #[jl,jz,jx,jy,jw,jp,(rd:Int),jf] 165);have hS1:=(aP.refl hf hm).on hbA
 have H1:Hid (aP w fb X (w.alloc (.cells #[jl,jz,jx,jy,jw,jp,(rd:Int),jf] 165)) X (gB bs ⟨⟨jl,jz,jx,jy⟩,jw,jp,(rd:Int),jf⟩ rq (0)) jb en/\ah bE 103 (w.alloc (.cells #[jl,jz,jx,jy,jw,jp,(rd:Int),jf] 165)) (Value.slice none 0 0) (iC bs ⟨⟨jl,jz,jx,jy⟩,jw,jp,(rd:Int),jf⟩ 0 (rq.take (0)))/\(∀g,((Value.slice none 0 0)).ownBlock=some g->w.heap.size<=g)/\(w.alloc (.cells #[jl,jz,jx,jy,jw,jp,(rd:Int),jf] 165)).heap[w.heap.size]?=some (.cells #[jl,jz,jx,jy,jw,jp,(rd:Int),jf] 165)):=⟨by rw[midQ_zero]; exact hS1,by simpa[iC] using aU,fun g hg=>by simp[Value.ownBlock] at hg,hA⟩
 have HF:=ae hf;have HM:=ae hm;have HR:=ae hR;have HBS:=ae hB;have HSM:=ae hsm;have HKK:=ae hko;have HCA:=ae hca;have HCT:=ae hct;have HJV:=ae hjv;have BL0:=ae kB;have SM0:=ae jL;clear hf hm hR hB hsm hko hA hbA hS1 hca hct hjv;go_enter func93,ntmps93
 go_wp2_with (refine bU 165 #[jl,jz,jx,jy,jw,jp,(rd:Int),jf] underlying165 rfl (fu ⟨⟨jl,jz,jx,jy⟩,jw,jp,(rd:Int),jf⟩) gj (oj+i*8) hjrow rfl _ rfl rfl ?_)
 clear c10 hjrow
 go_loopw [6,7,8,9,10,11,12] (fun ov r _ _ _ _ _ wr=>∃k:Nat,k<=rq.length/\r=.int .i64 k/\Hid (aP w fb X wr X (gB bs ⟨⟨jl,jz,jx,jy⟩,jw,jp,(rd:Int),jf⟩ rq (k)) jb en/\ah bE 103 wr ov (iC bs ⟨⟨jl,jz,jx,jy⟩,jw,jp,(rd:Int),jf⟩ 0 (rq.take (k)))/\(∀g,(ov).ownBlock=some g->w.heap.size<=g)/\wr.heap[w.heap.size]?=some (.cells #[jl,jz,jx,jy,jw,jp,(rd:Int),jf] 165))) (fun _ r _ _ _ _ _ _=>rq.length-(intOf r).toNat)
 case atStart=>exact⟨0,by omega,rfl,H1⟩
 case round=>
  obtain⟨k,hk,rfl,hL⟩:=hrel;obtain⟨hS,hov,hfr,hJ0⟩:=aa hL;have c9:wr.cell? ⟨fb,9,none⟩=some X.rv:=aF.c hS.blk 9 rfl;obtain⟨sa,sn,sc,hsl⟩:=hS.mem.rq.sl
  have hsn:sn=rq.length:=by
   obtain⟨oa,cap,e,_⟩:=hS.mem.rq.at;rw[hsl,fX] at e
   cases e; rfl
  rw[hsl,hsn] at c9
  by_cases hlt:k<rq.length
  ·have hkn:(k:Int)<rq.length:=by omega
   obtain⟨b,off,cap,hrv⟩:=hS.mem.rq.blkAt (by rw[fX]; omega)
   rw[fX] at hrv;obtain⟨⟨⟨rl,rz,rx,ry⟩,ra,re,dn⟩,ht⟩:∃t,rq[k]?=some t:=⟨_,List.getElem?_eq_getElem hlt⟩;have hsm:=aa HSM _ (List.mem_of_getElem? ht);have HKO0:=ae (aa HKK _ (List.mem_of_getElem? ht));obtain⟨⟨x1,x2⟩,⟨y1,y2⟩⟩:=hsm;dsimp only at x1 x2 y1 y2;have hmk:=(lh (bs:=bs) (j:=⟨⟨jl,jz,jx,jy⟩,jw,jp,(rd:Int),jf⟩) hlt).trans ht
   have hrow:wr.rangeAt b (off+k*7) #[.int .i64 rl,.int .i64 rz,.int .i64 rx,.int .i64 ry,.int .i64 ra,.int .i64 re,.bool dn].toList:=by
    obtain⟨oa,cap',e,_,_,hc⟩:=hS.mem.rq.at
    obtain⟨b',off',e',hbl,hc0⟩:=hc (by rw[fX]; omega)
    rw[hrv,e',fX] at e;cases e;exact bL.rq hc0 hmk
   have hblt:b<wr.heap.size:=hS.mem.rq.lt (by rw[hrv]; rfl)
   clear c9 hsl
   have c9:wr.cell? ⟨fb,9,none⟩=some (.slice (some ⟨b,off,none⟩) rq.length cap):=by rw[<-hrv]; exact aF.c hS.blk 9 rfl
   have HRV:=ae hrv;have HBL:=ae hblt;have hA:=heap_alloc_new wr (.cells #[rl,rz,rx,ry,ra,re,dn] 158);have hbA:=aj wr (.cells #[rl,rz,rx,ry,ra,re,dn] 158);have hwlt:w.heap.size<wr.heap.size:=an hJ0;have hSA:=hS.on hbA;have hJA:=ag hJ0 hbA;have hQ:∀W,Below (wr.alloc (.cells #[rl,rz,rx,ry,ra,re,dn] 158)).heap.size (wr.alloc (.cells #[rl,rz,rx,ry,ra,re,dn] 158)) W->W.rangeAt wr.heap.size 0 #[.int .i64 rl,.int .i64 rz,.int .i64 rx,.int .i64 ry].toList:=fun W h=>dV (ao (ag hA h)) rfl;have hJ:∀W,Below (wr.alloc (.cells #[rl,rz,rx,ry,ra,re,dn] 158)).heap.size (wr.alloc (.cells #[rl,rz,rx,ry,ra,re,dn] 158)) W->W.rangeAt w.heap.size 0 #[.int .i64 jl,.int .i64 jz,.int .i64 jx,.int .i64 jy].toList:=fun W h=>dV (ao (ag hJA h)) rfl;have BL:=fun W=>aa BL0 rl rz rx ry W ⟨x1,x2⟩ ⟨y1,y2⟩;have SM:=fun W=>aa SM0 rl rz (rx-rx%2) (ry-ry%2) jl jz jx jy W;have HSS:=ae (And.intro hSA (And.intro (hov.on hbA) (And.intro hA (And.intro hJA hfr))));clear hS hov hfr hJ0 hmk hA hbA hSA hJA hL hrv
   go_wp2_with (refine bU 158 #[rl,rz,rx,ry,ra,re,dn] underlying158 rfl (sz158 ⟨⟨rl,rz,rx,ry⟩,ra,re,dn⟩) b (off+k*7) hrow rfl _ rfl rfl ?_)
   refine aM (by kernel_rfl) (by kernel_rfl) ?_
   refine bd wr.heap.size 0 ?_;refine aR rfl 39 _ rfl (wr.heap.size) (0) rfl (#[rl,rz,rx,ry]) _ underlying39 rfl (bj _ _ _ _) (hQ) ?_;simp only[qZ]
   refine br rfl 88 (#[.agg #[rl,rz,rx,ry]]) (fun _=>by simp[go_sem]) _ (BL) ?_
   simp only[qZ];refine bd w.heap.size 0 ?_;refine aR rfl 39 _ rfl (w.heap.size) (0) rfl (#[jl,jz,jx,jy]) _ underlying39 rfl (bj _ _ _ _) (hJ) ?_;simp only[qZ]
   refine br rfl 138 (#[.agg #[rl,rz,.int .i64 (rx-rx%2),.int .i64 (ry-ry%2)],.agg #[jl,jz,jx,jy]]) (fun _=>by simp[go_sem]) _ (SM) ?_
   simp only[qZ];refine bF rfl _ rfl (.bool (decide ((⟨rl,rz,rx-rx%2,ry-ry%2⟩:K4)=⟨jl,jz,jx,jy⟩))) rfl ?_;simp only[qZ];refine wpQuiet_nil ?_;intro w2 hw2;obtain⟨hSA,hovA,hA,hJA,hfr⟩:=aa HSS;have hS2:=hSA.on hw2;have hov2:=hovA.on hw2;have hQ2:=ag hA hw2;have hJ2:=ag hJA hw2;have d6:w2.cell? ⟨wr.heap.size,6,none⟩=some (.bool dn):=(af hQ2 6).trans rfl;clear hQ hJ BL SM HSS hSA hovA hA hJA hrow c9
   have skip:svd bs ⟨⟨jl,jz,jx,jy⟩,jw,jp,(rd:Int),jf⟩ ⟨⟨rl,rz,rx,ry⟩,ra,re,dn⟩=false->∀W,Below w2.heap.size w2 W->aP w fb X W X (gB bs ⟨⟨jl,jz,jx,jy⟩,jw,jp,(rd:Int),jf⟩ rq (k+1)) jb en/\ah bE 103 W u6 (iC bs ⟨⟨jl,jz,jx,jy⟩,jw,jp,(rd:Int),jf⟩ 0 (rq.take (k+1)))/\(∀g,(u6).ownBlock=some g->w.heap.size<=g)/\W.heap[w.heap.size]?=some (.cells #[jl,jz,jx,jy,jw,jp,(rd:Int),jf] 165):=fun hs W hW=>by
    refine⟨?_,?_,hfr,ag hJ2 hW⟩
    ·rw[midQ_no ht hs]; exact hS2.on hW
    rw[ptR_no ht hs]; exact hov2.on hW
   have HSK:=ae skip
   cases dn with
   | true=>
    have HH:=ae (skip rfl w2 bu);clear skip HSK hS2 hov2 hQ2 hJ2 hfr hw2
    go_wp2_with fail
    go_roundw
    case rel=>exact⟨k+1,by omega,by go_num,HH⟩
    case measure=>simp[intOf]; omega
   | false=>
    by_cases hbq:(⟨rl,rz,rx-rx%2,ry-ry%2⟩:K4)=⟨jl,jz,jx,jy⟩
    ·have hde:decide ((⟨rl,rz,rx-rx%2,ry-ry%2⟩:K4)=⟨jl,jz,jx,jy⟩)=true:=by simp[hbq]
     have hblk:decide ((⟨rl,rz,rx,ry⟩:K4).blk=⟨jl,jz,jx,jy⟩)=true:=hde;have HKO:=ae (aa HKO0 rfl);have hR2:=hS2.rst (aa HF) (aa HM) (aa HR);have UN:=fH (rd:Int) rl rz rx ry hS2.blk hR2 (aa HBS);have q2:w2.rangeAt wr.heap.size 0 #[.int .i64 rl,.int .i64 rz,.int .i64 rx,.int .i64 ry].toList:=dV (ao hQ2) rfl;have j2:w2.cell? ⟨w.heap.size,6,none⟩=some (.int .i64 (rd:Int)):=(af hJ2 6).trans rfl
     have hsv:svd bs ⟨⟨jl,jz,jx,jy⟩,jw,jp,(rd:Int),jf⟩ ⟨⟨rl,rz,rx,ry⟩,ra,re,false⟩=(decide ((fB bs bs.length ⟨rl,rz,rx,ry⟩:Int)<=(rd:Int)) || decide (ra<=(rd:Int))):=by
      unfold svd;dsimp only
      rw[hblk]; rfl
     have HSVE:=ae hsv;have H2:=ae (And.intro hS2 (And.intro hov2 (And.intro hQ2 (And.intro hJ2 hfr))));clear skip hS2 hov2 hQ2 hJ2 hfr hw2 hR2 hbq hblk hsv;simp only[hde]
     go_wp2_with (refine bU 39 #[rl,rz,rx,ry] underlying39 rfl (bj _ _ _ _) wr.heap.size 0 q2 rfl _ rfl rfl ?_)
     refine UN.mono ?_;rintro e w3 ⟨rfl,hb3⟩;obtain⟨hS2,hov2,hQ2,hJ2,hfr⟩:=aa H2;have a3:w3.cell? ⟨wr.heap.size,4,none⟩=some (.int .i64 ra):=(af (ag hQ2 hb3) 4).trans rfl;have j3:w3.cell? ⟨w.heap.size,6,none⟩=some (.int .i64 (rd:Int)):=(af (ag hJ2 hb3) 6).trans rfl;have H3:=ae (And.intro (hS2.on hb3) (And.intro (hov2.on hb3) (And.intro (ag hQ2 hb3) (And.intro (ag hJ2 hb3) hfr))));have HB3:=ae hb3;clear hS2 hov2 hQ2 hJ2 hfr hb3 H2 UN q2 j2 d6 hde;obtain⟨LS,hLS⟩:∃n:Int,((fB bs bs.length ⟨rl,rz,rx,ry⟩:Nat):Int)=n:=⟨_,rfl⟩;rw[hLS] at HSVE ⊢
     by_cases hu:LS<=(rd:Int)
     ·have hud:decide (LS<=(rd:Int))=true:=decide_eq_true hu
      have HSV:Hid (svd bs ⟨⟨jl,jz,jx,jy⟩,jw,jp,(rd:Int),jf⟩ ⟨⟨rl,rz,rx,ry⟩,ra,re,false⟩=true):=by show _=_; rw[aa HSVE,hud]; rfl
      clear hLS HSVE hu;simp only[hud];have hmd:=lZ (bs:=bs) (j:=⟨⟨jl,jz,jx,jy⟩,jw,jp,(rd:Int),jf⟩) ht
      rw[show svF bs ⟨⟨jl,jz,jx,jy⟩,jw,jp,(rd:Int),jf⟩ ⟨⟨rl,rz,rx,ry⟩,ra,re,false⟩=⟨⟨rl,rz,rx,ry⟩,ra,re,true⟩ by unfold svF; rw[aa HSV]; rfl] at hmd
      have hpr:=lO (bs:=bs) (j:=⟨⟨jl,jz,jx,jy⟩,jw,jp,(rd:Int),jf⟩) ht
      rw[show svR bs ⟨⟨jl,jz,jx,jy⟩,jw,jp,(rd:Int),jf⟩ k ⟨⟨rl,rz,rx,ry⟩,ra,re,false⟩=[⟨k,200,cg (dk bs rd) ⟨rl,rz,rx,ry⟩,du ⟨rl,rz,rx,ry⟩ (fB bs rd ⟨rl,rz,rx,ry⟩)⟩] by unfold svR; rw[aa HSV]; rfl] at hpr
      obtain⟨hS3,hov3,hQ3,hJ3,hfr3⟩:=aa H3;have hst3:=hS3.mem.rq;rw[aa HRV] at hst3;have hmk:=(lh (bs:=bs) (j:=⟨⟨jl,jz,jx,jy⟩,jw,jp,(rd:Int),jf⟩) hlt).trans ht;obtain⟨d6',f6⟩:=hst3.cellF hmk (j:=6) (u:=.bool false) rfl;have d6:w3.cell? ⟨b,off+k*7+6,none⟩=some (.bool false):=d6';have f6:w3.frozen? ⟨b,off+k*7+6,none⟩=false:=f6;obtain⟨w4,hw4⟩:∃w4,w3.setCell ⟨b,off+k*7+6,none⟩ (.bool true)=w4:=⟨_,rfl⟩
      have ho4:=hst3.setF hmk (j:=6) (x:=.bool true) (by decide) (Rq.enc_done _ true)
      rw[show off+k*rRq.wid+6=off+k*7+6 from rfl,hw4,hmd] at ho4
      have hrvb:X.rv.ownBlock=some b:=by rw[aa HRV]; rfl
      have hF34:aE (fun q=>X.rv.ownBlock=some q) w3 w4:=hw4▸(aE.rfl' _ _).setCell (p:=⟨b,off+k*7+6,none⟩) _ (fun _=>hrvb)
      have hT34:fQ (fun q=>X.rv.ownBlock=some q) w3 [158]:=fun q hq=>by
       obtain⟨c,hc⟩:=hS3.mem.rq.ty hq
       exact⟨_,_,hc,by simp⟩
      have hS4:=hS3.trans (hS3.mem.rin hS3.blk (by rw[aa HRV]; exact ho4) hF34)
      have c9:w3.cell? ⟨fb,9,none⟩=some (.slice (some ⟨b,off,none⟩) rq.length cap):=by rw[<-aa HRV]; exact aF.c hS3.blk 9 rfl
      have hJ4:=bJ hJ3 hF34 hT34 (by decide)
      have hb4:b≠wr.heap.size:=by have:=aa HBL; omega
      have hQ4:=aQ hQ3 hF34 (fun q=>hb4 (by rw[hrvb] at q; exact Option.some.inj q))
      have hov4:=hov3.frmT hF34 hT34 (by decide)
      have hR4:=hS4.rst (aa HF) (aa HM) (aa HR);have BO:=mu rd rl rz rx ry hS4.blk hR4 (aa HBS) hrd (aa HKO);have TG:=ae (fun(W:World) (h:Below w4.heap.size w4 W)=>kX rd rl rz rx ry (ag hS4.blk h) (hR4.on h) (aa HBS) hrd (aa HKO));have q4:w4.rangeAt wr.heap.size 0 #[.int .i64 rl,.int .i64 rz,.int .i64 rx,.int .i64 ry].toList:=dV (ao hQ4) rfl;have j4:w4.cell? ⟨w.heap.size,6,none⟩=some (.int .i64 (rd:Int)):=(af hJ4 6).trans rfl;have H4:=ae (And.intro hS4 (And.intro hov4 (And.intro hQ4 (And.intro hJ4 hfr3))));have HPR:=ae hpr;have HW4:=ae hw4;have hkn':(k:Int)<rq.length:=hkn;clear hmd hpr hS3 hov3 hQ3 hJ3 hfr3 hst3 hmk d6' ho4 hF34 hT34 hS4 hJ4 hQ4 hov4 hR4 H3 hw4 hrvb hb4
      go_wp2_with (first|refine cU w4 (stB _ _ _ _ rfl b (off+k*7+6) true (by simp[go_sem]) (by simp[go_sem]) w3 w4 d6 f6 (aa HW4)) rfl ?_|refine bU 39 #[rl,rz,rx,ry] underlying39 rfl (bj _ _ _ _) wr.heap.size 0 q4 rfl _ rfl rfl ?_)
      refine BO.mono ?_;rintro e w5 ⟨rfl,hb5⟩;have TG5:=aa TG w5 hb5;obtain⟨hS4,hov4,hQ4,hJ4,hfr4⟩:=aa H4;have q5:w5.rangeAt wr.heap.size 0 #[.int .i64 rl,.int .i64 rz,.int .i64 rx,.int .i64 ry].toList:=dV (ao (ag hQ4 hb5)) rfl;have j5:w5.cell? ⟨w.heap.size,6,none⟩=some (.int .i64 (rd:Int)):=(af (ag hJ4 hb5) 6).trans rfl;have H5:=ae (And.intro (hS4.on hb5) (And.intro (hov4.on hb5) (And.intro (ag hJ4 hb5) hfr4)));clear hS4 hov4 hQ4 hJ4 hfr4 H4 BO TG hb5 c9 d6 f6 q4 j4;generalize cg (dk bs rd) ⟨rl,rz,rx,ry⟩=B at HPR ⊢
      go_wp2_with (refine bU 39 #[rl,rz,rx,ry] underlying39 rfl (bj _ _ _ _) wr.heap.size 0 q5 rfl _ rfl rfl ?_)
      refine TG5.mono ?_;rintro e w6 ⟨rfl,hb6⟩;obtain⟨hS5,hov5,hJ5,hfr5⟩:=aa H5;have hS6:=hS5.on hb6;have hov6:=hov5.on hb6;have hJ6:=ag hJ5 hb6;clear hS5 hov5 hJ5 H5 TG5 hb6 q5 j5;generalize du ⟨rl,rz,rx,ry⟩ (fB bs rd ⟨rl,rz,rx,ry⟩)=T at HPR ⊢;have hat:=aZ bE 103 w6 ⟨k,200,B,T⟩ #[k,(200:Int),B,T] rfl;have hbA:=aj w6 (.cells #[k,(200:Int),B,T] 103);have hownA:=hov6.on hbA;have hpl:=oJ bs ⟨⟨jl,jz,jx,jy⟩,jw,jp,(rd:Int),jf⟩ (rq.take k) 0;rw[List.length_take] at hpl
      obtain⟨v7,w7,r1,r2,r3,r4⟩:=apRep hownA hat (by simp only[List.length_singleton]; omega)
      rw[<-aa HPR] at r2;have hSA:=hS6.on hbA;have hF7:aE (fun q=>u6.ownBlock=some q) (w6.alloc (.cells #[k,(200:Int),B,T] 103)) w7:=(aE.rfl' _ _).grown r3 (fun q hq _=>hq)
      have hT7:fQ (fun q=>u6.ownBlock=some q) (w6.alloc (.cells #[k,(200:Int),B,T] 103)) [103]:=fun q hq=>by
       obtain⟨c,hc⟩:=hownA.ty hq
       exact⟨_,_,hc,by simp⟩
      have hsz6:=hS6.frm.size
      have HH:Hid (aP w fb X w7 X (gB bs ⟨⟨jl,jz,jx,jy⟩,jw,jp,(rd:Int),jf⟩ rq (k+1)) jb en/\ah bE 103 w7 v7 (iC bs ⟨⟨jl,jz,jx,jy⟩,jw,jp,(rd:Int),jf⟩ 0 (rq.take (k+1)))/\(∀g,(v7).ownBlock=some g->w.heap.size<=g)/\w7.heap[w.heap.size]?=some (.cells #[jl,jz,jx,jy,jw,jp,(rd:Int),jf] 165)):=by
       refine⟨⟨bJ hSA.blk hF7 hT7 (by decide),⟨hSA.mem.rq.frmT hF7 hT7 (by decide),hSA.mem.jb.frmT hF7 hT7 (by decide),hSA.mem.en.frmT hF7 hT7 (by decide)⟩,hSA.frm.then hF7 (fun q hq e=>by have:=hfr5 q e; omega),hSA.new,hSA.sb⟩,r2,bN hfr5 r4 (by simp; omega),bJ (ag hJ6 hbA) hF7 hT7 (by decide)⟩
      clear hat hbA hownA hpl r2 r3 r4 hSA hF7 hT7 hS6 hov6 hJ6 hfr5 HPR
      go_wp2_with (first|refine cP _ _ (gz k 200 B T _ _ _ rfl rfl _) rfl ?_|(at_builtin; refine fS 89 r1 rfl _ _ rfl rfl rfl rfl ?_))
      go_roundw
      case rel=>exact⟨k+1,by omega,by go_num,HH⟩
      case measure=>simp[intOf]; omega
     have hud:decide (LS<=(rd:Int))=false:=decide_eq_false hu
     by_cases hq:ra<=(rd:Int)
     ·have HSV:Hid (svd bs ⟨⟨jl,jz,jx,jy⟩,jw,jp,(rd:Int),jf⟩ ⟨⟨rl,rz,rx,ry⟩,ra,re,false⟩=true):=by show _=_; rw[aa HSVE,decide_eq_true hq]; simp
      clear hLS HSVE hu;simp only[hud];have hmd:=lZ (bs:=bs) (j:=⟨⟨jl,jz,jx,jy⟩,jw,jp,(rd:Int),jf⟩) ht
      rw[show svF bs ⟨⟨jl,jz,jx,jy⟩,jw,jp,(rd:Int),jf⟩ ⟨⟨rl,rz,rx,ry⟩,ra,re,false⟩=⟨⟨rl,rz,rx,ry⟩,ra,re,true⟩ by unfold svF; rw[aa HSV]; rfl] at hmd
      have hpr:=lO (bs:=bs) (j:=⟨⟨jl,jz,jx,jy⟩,jw,jp,(rd:Int),jf⟩) ht
      rw[show svR bs ⟨⟨jl,jz,jx,jy⟩,jw,jp,(rd:Int),jf⟩ k ⟨⟨rl,rz,rx,ry⟩,ra,re,false⟩=[⟨k,200,cg (dk bs rd) ⟨rl,rz,rx,ry⟩,du ⟨rl,rz,rx,ry⟩ (fB bs rd ⟨rl,rz,rx,ry⟩)⟩] by unfold svR; rw[aa HSV]; rfl] at hpr
      obtain⟨hS3,hov3,hQ3,hJ3,hfr3⟩:=aa H3;have hst3:=hS3.mem.rq;rw[aa HRV] at hst3;have hmk:=(lh (bs:=bs) (j:=⟨⟨jl,jz,jx,jy⟩,jw,jp,(rd:Int),jf⟩) hlt).trans ht;obtain⟨d6',f6⟩:=hst3.cellF hmk (j:=6) (u:=.bool false) rfl;have d6:w3.cell? ⟨b,off+k*7+6,none⟩=some (.bool false):=d6';have f6:w3.frozen? ⟨b,off+k*7+6,none⟩=false:=f6;obtain⟨w4,hw4⟩:∃w4,w3.setCell ⟨b,off+k*7+6,none⟩ (.bool true)=w4:=⟨_,rfl⟩
      have ho4:=hst3.setF hmk (j:=6) (x:=.bool true) (by decide) (Rq.enc_done _ true)
      rw[show off+k*rRq.wid+6=off+k*7+6 from rfl,hw4,hmd] at ho4
      have hrvb:X.rv.ownBlock=some b:=by rw[aa HRV]; rfl
      have hF34:aE (fun q=>X.rv.ownBlock=some q) w3 w4:=hw4▸(aE.rfl' _ _).setCell (p:=⟨b,off+k*7+6,none⟩) _ (fun _=>hrvb)
      have hT34:fQ (fun q=>X.rv.ownBlock=some q) w3 [158]:=fun q hq=>by
       obtain⟨c,hc⟩:=hS3.mem.rq.ty hq
       exact⟨_,_,hc,by simp⟩
      have hS4:=hS3.trans (hS3.mem.rin hS3.blk (by rw[aa HRV]; exact ho4) hF34)
      have c9:w3.cell? ⟨fb,9,none⟩=some (.slice (some ⟨b,off,none⟩) rq.length cap):=by rw[<-aa HRV]; exact aF.c hS3.blk 9 rfl
      have hJ4:=bJ hJ3 hF34 hT34 (by decide)
      have hb4:b≠wr.heap.size:=by have:=aa HBL; omega
      have hQ4:=aQ hQ3 hF34 (fun q=>hb4 (by rw[hrvb] at q; exact Option.some.inj q))
      have hov4:=hov3.frmT hF34 hT34 (by decide)
      have hR4:=hS4.rst (aa HF) (aa HM) (aa HR);have BO:=mu rd rl rz rx ry hS4.blk hR4 (aa HBS) hrd (aa HKO);have TG:=ae (fun(W:World) (h:Below w4.heap.size w4 W)=>kX rd rl rz rx ry (ag hS4.blk h) (hR4.on h) (aa HBS) hrd (aa HKO));have q4:w4.rangeAt wr.heap.size 0 #[.int .i64 rl,.int .i64 rz,.int .i64 rx,.int .i64 ry].toList:=dV (ao hQ4) rfl;have j4:w4.cell? ⟨w.heap.size,6,none⟩=some (.int .i64 (rd:Int)):=(af hJ4 6).trans rfl;have H4:=ae (And.intro hS4 (And.intro hov4 (And.intro hQ4 (And.intro hJ4 hfr3))));have HPR:=ae hpr;have HW4:=ae hw4;have hkn':(k:Int)<rq.length:=hkn;clear hmd hpr hS3 hov3 hQ3 hJ3 hfr3 hst3 hmk d6' ho4 hF34 hT34 hS4 hJ4 hQ4 hov4 hR4 H3 hw4 hrvb hb4
      go_wp2_with (first|refine cU w4 (stB _ _ _ _ rfl b (off+k*7+6) true (by simp[go_sem]) (by simp[go_sem]) w3 w4 d6 f6 (aa HW4)) rfl ?_|refine bU 39 #[rl,rz,rx,ry] underlying39 rfl (bj _ _ _ _) wr.heap.size 0 q4 rfl _ rfl rfl ?_)
      refine BO.mono ?_;rintro e w5 ⟨rfl,hb5⟩;have TG5:=aa TG w5 hb5;obtain⟨hS4,hov4,hQ4,hJ4,hfr4⟩:=aa H4;have q5:w5.rangeAt wr.heap.size 0 #[.int .i64 rl,.int .i64 rz,.int .i64 rx,.int .i64 ry].toList:=dV (ao (ag hQ4 hb5)) rfl;have j5:w5.cell? ⟨w.heap.size,6,none⟩=some (.int .i64 (rd:Int)):=(af (ag hJ4 hb5) 6).trans rfl;have H5:=ae (And.intro (hS4.on hb5) (And.intro (hov4.on hb5) (And.intro (ag hJ4 hb5) hfr4)));clear hS4 hov4 hQ4 hJ4 hfr4 H4 BO TG hb5 c9 d6 f6 q4 j4;generalize cg (dk bs rd) ⟨rl,rz,rx,ry⟩=B at HPR ⊢
      go_wp2_with (refine bU 39 #[rl,rz,rx,ry] underlying39 rfl (bj _ _ _ _) wr.heap.size 0 q5 rfl _ rfl rfl ?_)
      refine TG5.mono ?_;rintro e w6 ⟨rfl,hb6⟩;obtain⟨hS5,hov5,hJ5,hfr5⟩:=aa H5;have hS6:=hS5.on hb6;have hov6:=hov5.on hb6;have hJ6:=ag hJ5 hb6;clear hS5 hov5 hJ5 H5 TG5 hb6 q5 j5;generalize du ⟨rl,rz,rx,ry⟩ (fB bs rd ⟨rl,rz,rx,ry⟩)=T at HPR ⊢;have hat:=aZ bE 103 w6 ⟨k,200,B,T⟩ #[k,(200:Int),B,T] rfl;have hbA:=aj w6 (.cells #[k,(200:Int),B,T] 103);have hownA:=hov6.on hbA;have hpl:=oJ bs ⟨⟨jl,jz,jx,jy⟩,jw,jp,(rd:Int),jf⟩ (rq.take k) 0;rw[List.length_take] at hpl
      obtain⟨v7,w7,r1,r2,r3,r4⟩:=apRep hownA hat (by simp only[List.length_singleton]; omega)
      rw[<-aa HPR] at r2;have hSA:=hS6.on hbA;have hF7:aE (fun q=>u6.ownBlock=some q) (w6.alloc (.cells #[k,(200:Int),B,T] 103)) w7:=(aE.rfl' _ _).grown r3 (fun q hq _=>hq)
      have hT7:fQ (fun q=>u6.ownBlock=some q) (w6.alloc (.cells #[k,(200:Int),B,T] 103)) [103]:=fun q hq=>by
       obtain⟨c,hc⟩:=hownA.ty hq
       exact⟨_,_,hc,by simp⟩
      have hsz6:=hS6.frm.size
      have HH:Hid (aP w fb X w7 X (gB bs ⟨⟨jl,jz,jx,jy⟩,jw,jp,(rd:Int),jf⟩ rq (k+1)) jb en/\ah bE 103 w7 v7 (iC bs ⟨⟨jl,jz,jx,jy⟩,jw,jp,(rd:Int),jf⟩ 0 (rq.take (k+1)))/\(∀g,(v7).ownBlock=some g->w.heap.size<=g)/\w7.heap[w.heap.size]?=some (.cells #[jl,jz,jx,jy,jw,jp,(rd:Int),jf] 165)):=by
       refine⟨⟨bJ hSA.blk hF7 hT7 (by decide),⟨hSA.mem.rq.frmT hF7 hT7 (by decide),hSA.mem.jb.frmT hF7 hT7 (by decide),hSA.mem.en.frmT hF7 hT7 (by decide)⟩,hSA.frm.then hF7 (fun q hq e=>by have:=hfr5 q e; omega),hSA.new,hSA.sb⟩,r2,bN hfr5 r4 (by simp; omega),bJ (ag hJ6 hbA) hF7 hT7 (by decide)⟩
      clear hat hbA hownA hpl r2 r3 r4 hSA hF7 hT7 hS6 hov6 hJ6 hfr5 HPR
      go_wp2_with (first|refine cP _ _ (gz k 200 B T _ _ _ rfl rfl _) rfl ?_|(at_builtin; refine fS 89 r1 rfl _ _ rfl rfl rfl rfl ?_))
      go_roundw
      case rel=>exact⟨k+1,by omega,by go_num,HH⟩
      case measure=>simp[intOf]; omega
     have HH:=ae (aa HSK (by rw[aa HSVE,hud,decide_eq_false hq]; rfl) w3 (aa HB3))
     clear hLS HSVE hu;simp only[hud]
     go_wp2_with fail
     go_roundw
     case rel=>exact⟨k+1,by omega,by go_num,HH⟩
     case measure=>simp[intOf]; omega
    have hde:decide ((⟨rl,rz,rx-rx%2,ry-ry%2⟩:K4)=⟨jl,jz,jx,jy⟩)=false:=by simp[hbq]
    have hblk:decide ((⟨rl,rz,rx,ry⟩:K4).blk=⟨jl,jz,jx,jy⟩)=false:=hde
    have HH:=ae (skip (by unfold svd; dsimp only; rw[hblk]; rfl) w2 bu)
    clear skip HSK hS2 hov2 hQ2 hJ2 hfr hw2 hbq hblk;simp only[hde]
    go_wp2_with fail
    go_roundw
    case rel=>exact⟨k+1,by omega,by go_num,HH⟩
    case measure=>simp[intOf]; omega
  have hkn:k=rq.length:=by omega
  subst hkn;rw[midQ_all] at hS;rw[List.take_length] at hov
  have H0:Hid (∃ev':Value,aP w fb X wr { X with ct:=((layN bs ca ⟨jl,jz,jx,jy⟩ rd (cnt,en) (0)).1:Int),ev:=ev' } (fP bs ⟨⟨jl,jz,jx,jy⟩,jw,jp,(rd:Int),jf⟩ rq) jb (layN bs ca ⟨jl,jz,jx,jy⟩ rd (cnt,en) (0)).2/\ah bE 103 wr u6 (iC bs ⟨⟨jl,jz,jx,jy⟩,jw,jp,(rd:Int),jf⟩ 0 rq)/\wr.heap[w.heap.size]?=some (.cells #[jl,jz,jx,jy,jw,jp,(rd:Int),jf] 165)):=⟨X.ev,by have hS':=hS; rw[show({ X with ct:=((layN bs ca ⟨jl,jz,jx,jy⟩ rd (cnt,en) 0).1:Int),ev:=X.ev }:RV)=X by rw[show((layN bs ca ⟨jl,jz,jx,jy⟩ rd (cnt,en) 0).1:Int)=X.ct from(aa HCT).symm]]; exact hS',hov,hJ0⟩
  have HFR:=ae hfr;have hl6:=hov.sl;obtain⟨o6,n6,c6,rfl⟩:=hl6;clear hS hov hfr hJ0 hL hsl
  go_wp2_with fail
  go_loopw [13,14,15,16] (fun n' _ _ _ wr=>∃n:Nat,n<=4/\n'=.int .i64 n/\Hid (∃ev':Value,aP w fb X wr { X with ct:=((layN bs ca ⟨jl,jz,jx,jy⟩ rd (cnt,en) (n)).1:Int),ev:=ev' } (fP bs ⟨⟨jl,jz,jx,jy⟩,jw,jp,(rd:Int),jf⟩ rq) jb (layN bs ca ⟨jl,jz,jx,jy⟩ rd (cnt,en) (n)).2/\ah bE 103 wr (.slice o6 n6 c6) (iC bs ⟨⟨jl,jz,jx,jy⟩,jw,jp,(rd:Int),jf⟩ 0 rq)/\wr.heap[w.heap.size]?=some (.cells #[jl,jz,jx,jy,jw,jp,(rd:Int),jf] 165))) (fun n' _ _ _ _=>4-(intOf n').toNat)
  case atStart=>exact⟨0,by omega,rfl,H0⟩
  case round=>
   obtain⟨n,hn,rfl,hL⟩:=hrel;obtain⟨ev1,hS,hov,hJ0⟩:=aa hL;obtain⟨le1,le2,le3⟩:=layN_le bs ca ⟨jl,jz,jx,jy⟩ rd (cnt,en) (aa HBS) hrd n;dsimp only at le1 le2 le3
   by_cases hlt:n<4
   ·have hn4:(n:Int)<4:=by omega
    have hrow:wr.rangeAt w.heap.size 0 #[.int .i64 jl,.int .i64 jz,.int .i64 jx,.int .i64 jy].toList:=dV (ao hJ0) rfl;have hA:=heap_alloc_new wr (.cells #[jl,jz,.int .i64 (jx+(n:Int)%2),.int .i64 (jy+(n:Int) / 2)] 39);have hbA:=aj wr (.cells #[jl,jz,.int .i64 (jx+(n:Int)%2),.int .i64 (jy+(n:Int) / 2)] 39);have hk3:(wr.alloc (.cells #[jl,jz,.int .i64 (jx+(n:Int)%2),.int .i64 (jy+(n:Int) / 2)] 39)).rangeAt wr.heap.size 0 #[.int .i64 jl,.int .i64 jz,.int .i64 (jx+(n:Int)%2),.int .i64 (jy+(n:Int) / 2)].toList:=ao hA;have HA:=ae (And.intro (hS.on hbA) (And.intro (hov.on hbA) (And.intro (ag hJ0 hbA) hA)));have KE:=bq jl jz (jx+(n:Int)%2) (jy+(n:Int) / 2) (wr.alloc (.cells #[jl,jz,.int .i64 (jx+(n:Int)%2),.int .i64 (jy+(n:Int) / 2)] 39))
    have hx2:0<=(n:Int)%2/\(n:Int)%2<=1:=by omega
    have hy2:0<=(n:Int) / 2/\(n:Int) / 2<=1:=by omega
    clear hS hov hJ0 hL hA hbA
    go_wp2_with (first|refine bU 39 #[jl,jz,jx,jy] underlying39 rfl (bj _ _ _ _) w.heap.size 0 hrow rfl _ rfl rfl ?_|refine bU 39 #[jl,jz,.int .i64 (jx+(n:Int)%2),.int .i64 (jy+(n:Int) / 2)] underlying39 rfl (bj _ _ _ _) wr.heap.size 0 hk3 rfl _ rfl rfl ?_)
    refine KE.mono ?_;rintro e w2 ⟨rfl,hb2⟩;obtain⟨hSA,hovA,hJA,hA⟩:=aa HA;have hS2:=hSA.on hb2;have hov2:=hovA.on hb2;have hJ2:=ag hJA hb2;have hK2:=ag hA hb2;clear hSA hovA hJA hA HA KE hrow hk3 hb2
    have hstep:layN bs ca ⟨jl,jz,jx,jy⟩ rd (cnt,en) (n+1)=if keyErr jl jz (jx+(n:Int)%2) (jy+(n:Int) / 2)=0/\fB bs bs.length ⟨jl,jz,jx+(n:Int)%2,jy+(n:Int) / 2⟩<=rd then mG ca (layN bs ca ⟨jl,jz,jx,jy⟩ rd (cnt,en) n).1 (layN bs ca ⟨jl,jz,jx,jy⟩ rd (cnt,en) n).2 (dx bs rd ⟨jl,jz,jx+(n:Int)%2,jy+(n:Int) / 2⟩) else layN bs ca ⟨jl,jz,jx,jy⟩ rd (cnt,en) n:=rfl
    obtain⟨E,hE⟩:∃E,keyErr jl jz (jx+(n:Int)%2) (jy+(n:Int) / 2)=E:=⟨_,rfl⟩;rw[hE] at hstep ⊢
    by_cases hE0:E=0
    ·subst hE0
     have hko:=kerr_ok hE;have hR2:=hS2.rst (aa HF) (aa HM) (aa HR);have UN:=fH (rd:Int) jl jz (jx+(n:Int)%2) (jy+(n:Int) / 2) hS2.blk hR2 (aa HBS);have k2:w2.rangeAt wr.heap.size 0 #[.int .i64 jl,.int .i64 jz,.int .i64 (jx+(n:Int)%2),.int .i64 (jy+(n:Int) / 2)].toList:=ao hK2;have j2:w2.cell? ⟨w.heap.size,6,none⟩=some (.int .i64 (rd:Int)):=(af hJ2 6).trans rfl;have H2:=ae (And.intro hS2 (And.intro hov2 (And.intro hJ2 hK2)));have HKO:=ae hko;have HST:=ae hstep;clear hS2 hov2 hJ2 hK2 hR2 hE hko hstep
     go_wp2_with (refine bU 39 #[jl,jz,.int .i64 (jx+(n:Int)%2),.int .i64 (jy+(n:Int) / 2)] underlying39 rfl (bj _ _ _ _) wr.heap.size 0 k2 rfl _ rfl rfl ?_)
     refine UN.mono ?_;rintro e w3 ⟨rfl,hb3⟩;obtain⟨hS2,hov2,hJ2,hK2⟩:=aa H2;have hS3:=hS2.on hb3;have hov3:=hov2.on hb3;have hJ3:=ag hJ2 hb3;have hK3:=ag hK2 hb3;clear hS2 hov2 hJ2 hK2 H2 UN hb3 k2 j2;obtain⟨LS,hLS⟩:∃m:Nat,fB bs bs.length ⟨jl,jz,jx+(n:Int)%2,jy+(n:Int) / 2⟩=m:=⟨_,rfl⟩;rw[hLS] at HST ⊢
     by_cases hu:LS<=rd
     focus
      have hud:decide ((LS:Int)<=(rd:Int))=true:=decide_eq_true (by omega)
      have hR3:=hS3.rst (aa HF) (aa HM) (aa HR)
      have KP:=keep_any rd jl jz (jx+(n:Int)%2) (jy+(n:Int) / 2) ca (layN bs ca ⟨jl,jz,jx,jy⟩ rd (cnt,en) n).1 (layN bs ca ⟨jl,jz,jx,jy⟩ rd (cnt,en) n).2 hS3.blk (aa HCA) rfl (by omega) hR3 (aa HBS) hrd (aa HKO) hS3.mem.en (by omega) (by omega)
      have k3:w3.rangeAt wr.heap.size 0 #[.int .i64 jl,.int .i64 jz,.int .i64 (jx+(n:Int)%2),.int .i64 (jy+(n:Int) / 2)].toList:=ao hK3;have j3:w3.cell? ⟨w.heap.size,6,none⟩=some (.int .i64 (rd:Int)):=(af hJ3 6).trans rfl;have H3:=ae (And.intro hS3 (And.intro hov3 hJ3))
      have HST2:Hid (layN bs ca ⟨jl,jz,jx,jy⟩ rd (cnt,en) (n+1)=mG ca (layN bs ca ⟨jl,jz,jx,jy⟩ rd (cnt,en) n).1 (layN bs ca ⟨jl,jz,jx,jy⟩ rd (cnt,en) n).2 (dx bs rd ⟨jl,jz,jx+(n:Int)%2,jy+(n:Int) / 2⟩)):=by show _=_; rw[aa HST,if_pos ⟨by first|trivial|rfl,hu⟩]
      clear hS3 hov3 hJ3 hK3 hR3 hLS HST hu;simp only[hud]
      go_wp2_with (refine bU 39 #[jl,jz,.int .i64 (jx+(n:Int)%2),.int .i64 (jy+(n:Int) / 2)] underlying39 rfl (bj _ _ _ _) wr.heap.size 0 k3 rfl _ rfl rfl ?_)
      refine KP.mono ?_;rintro e w4 ⟨rfl,hkp⟩
      have HH:Hid (∃ev':Value,aP w fb X w4 { X with ct:=((layN bs ca ⟨jl,jz,jx,jy⟩ rd (cnt,en) (n+1)).1:Int),ev:=ev' } (fP bs ⟨⟨jl,jz,jx,jy⟩,jw,jp,(rd:Int),jf⟩ rq) jb (layN bs ca ⟨jl,jz,jx,jy⟩ rd (cnt,en) (n+1)).2/\ah bE 103 w4 (.slice o6 n6 c6) (iC bs ⟨⟨jl,jz,jx,jy⟩,jw,jp,(rd:Int),jf⟩ 0 rq)/\w4.heap[w.heap.size]?=some (.cells #[jl,jz,jx,jy,jw,jp,(rd:Int),jf] 165)):=by
       obtain⟨hS3,hov3,hJ3⟩:=aa H3;obtain⟨ev4,hS4⟩:=hS3.mem.kp hS3.blk hkp;rw[aa HST2];have hT:=hS3.mem.ty hS3.blk
       exact⟨ev4,hS3.trans hS4,hS4.own hS3.blk hS3.mem hov3 (by decide),aQ hJ3 hS4.frm (fun q=>by
        rcases q with q|q|q|q
        ·have:=an (aa HF); omega
        ·have:=(aa HM).rq.lt q; omega
        ·have:=(aa HM).jb.lt q; omega
        exact au hS3.mem.en hJ3 (by decide) _ q rfl)⟩
      clear hkp KP H3 HST2 k3 j3
     rotate_left
     focus
      have hud:decide ((LS:Int)<=(rd:Int))=false:=decide_eq_false (by omega)
      have HH:Hid (∃ev':Value,aP w fb X w3 { X with ct:=((layN bs ca ⟨jl,jz,jx,jy⟩ rd (cnt,en) (n+1)).1:Int),ev:=ev' } (fP bs ⟨⟨jl,jz,jx,jy⟩,jw,jp,(rd:Int),jf⟩ rq) jb (layN bs ca ⟨jl,jz,jx,jy⟩ rd (cnt,en) (n+1)).2/\ah bE 103 w3 (.slice o6 n6 c6) (iC bs ⟨⟨jl,jz,jx,jy⟩,jw,jp,(rd:Int),jf⟩ 0 rq)/\w3.heap[w.heap.size]?=some (.cells #[jl,jz,jx,jy,jw,jp,(rd:Int),jf] 165)):=by
       rw[aa HST,if_neg (fun q=>hu q.2)];exact⟨ev1,hS3,hov3,hJ3⟩
      clear hS3 hov3 hJ3 hK3 hLS HST hu;simp only[hud]
     all_goals
      go_wp2_with fail
      go_roundw
      case rel=>exact⟨n+1,by omega,by go_num,HH⟩
      case measure=>simp[intOf]; omega
    have hE1:(E==0)=false:=by simpa using hE0
    have HH:Hid (∃ev':Value,aP w fb X w2 { X with ct:=((layN bs ca ⟨jl,jz,jx,jy⟩ rd (cnt,en) (n+1)).1:Int),ev:=ev' } (fP bs ⟨⟨jl,jz,jx,jy⟩,jw,jp,(rd:Int),jf⟩ rq) jb (layN bs ca ⟨jl,jz,jx,jy⟩ rd (cnt,en) (n+1)).2/\ah bE 103 w2 (.slice o6 n6 c6) (iC bs ⟨⟨jl,jz,jx,jy⟩,jw,jp,(rd:Int),jf⟩ 0 rq)/\w2.heap[w.heap.size]?=some (.cells #[jl,jz,jx,jy,jw,jp,(rd:Int),jf] 165)):=by
     rw[hstep,if_neg (fun q=>hE0 q.1)];exact⟨ev1,hS2,hov2,hJ2⟩
    clear hS2 hov2 hJ2 hK2 hstep hE
    go_wp2_with fail
    go_roundw
    case rel=>exact⟨n+1,by omega,by go_num,HH⟩
    case measure=>simp[intOf]; omega
   have hn4:n=4:=by omega
   subst hn4;clear hn hlt hL;have hR:=hS.rst (aa HF) (aa HM) (aa HR);have hrow:wr.rangeAt w.heap.size 0 #[.int .i64 jl,.int .i64 jz,.int .i64 jx,.int .i64 jy].toList:=dV (ao hJ0) rfl
   have WA:=fh fb _ (fP bs ⟨⟨jl,jz,jx,jy⟩,jw,jp,(rd:Int),jf⟩ rq) jl jz jx jy false wr hS.blk hS.mem.rq.at (fun r hr=>by
    obtain⟨r',hr',e⟩:=List.mem_map.1 hr;have:=aa HSM r' hr'
    rw[<-e]; unfold svF; split<;>exact this) (by unfold fP; rw[List.length_map]; omega)
   have hwl:=ef (fP bs ⟨⟨jl,jz,jx,jy⟩,jw,jp,(rd:Int),jf⟩ rq) ⟨jl,jz,jx,jy⟩ false
   have hpl:(fP bs ⟨⟨jl,jz,jx,jy⟩,jw,jp,(rd:Int),jf⟩ rq).length=rq.length:=by unfold fP; rw[List.length_map]
   obtain⟨N,hN⟩:∃N,bg (fP bs ⟨⟨jl,jz,jx,jy⟩,jw,jp,(rd:Int),jf⟩ rq) ⟨jl,jz,jx,jy⟩ false=N:=⟨_,rfl⟩;rw[hN] at WA hwl;obtain⟨C,hC⟩:∃C,(layN bs ca ⟨jl,jz,jx,jy⟩ rd (cnt,en) 4).1=C:=⟨_,rfl⟩;rw[hC] at hS le1;have HC:=ae hC;have HN:=ae hN;have HS0:=ae (And.intro hS (And.intro hov hJ0));clear hS hov hJ0 hR hN hC
   go_wp2_with (refine bU 39 #[jl,jz,jx,jy] underlying39 rfl (bj _ _ _ _) w.heap.size 0 hrow rfl _ rfl rfl ?_)
   refine WA.mono ?_;rintro e w2 ⟨rfl,hb2⟩;obtain⟨hS0,hov0,hJ0⟩:=aa HS0;have hS2:=hS0.on hb2;have hov2:=hov0.on hb2;have hJ2:=ag hJ0 hb2;clear hS0 hov0 hJ0 HS0 WA hb2 hrow
   by_cases hpos:0<N
   ·have hpi:(0:Int)<N:=by omega
    have hptj:ptJ (fP bs ⟨⟨jl,jz,jx,jy⟩,jw,jp,(rd:Int),jf⟩ rq) C jb i ⟨jl,jz,jx,jy⟩=(C+1,jb.set i ⟨⟨jl,jz,jx,jy⟩,-1,(C:Int)+1,0,0⟩):=by unfold ptJ; rw[aa HN,if_pos hpos]
    have c7:w2.cell? ⟨fb,7,none⟩=some (.int .i64 (C:Int)):=aF.c hS2.blk 7 rfl;have fz7:=kr hS2.blk 7;obtain⟨w3,hw3⟩:∃w3,w2.setCell ⟨fb,7,none⟩ (.int .i64 ((C:Int)+1))=w3:=⟨_,rfl⟩;have hst3:=hS2.mem.ct hS2.blk ((C:Int)+1);rw[hw3] at hst3;have hS3:=hS2.trans hst3
    have hov3:=hst3.own hS2.blk hS2.mem hov2 (by decide)
    have hJ3:=aQ hJ2 (show aE (fun k=>k=fb) w2 w3 from hw3▸(aE.rfl' _ _).setCell (p:=⟨fb,7,none⟩) _ (fun _=>rfl)) (by have:=an (aa HF); omega)
    have hov':IntKind.i64.wrap ((C:Int)+1)=(C:Int)+1:=bG _ (by omega)
    have H3:=ae (And.intro hS3 (And.intro hov3 hJ3));have HW3:=ae hw3;have HPJ:=ae hptj;clear hst3 hS3 hov3 hJ3 hS2 hov2 hJ2 hw3 hptj
    go_wp2_with (refine cU w3 (kO _ _ _ _ rfl fb 7 ((C:Int)+1) rfl (by simp[go_sem]) w2 w3 c7 fz7 (aa HW3)) rfl ?_)
    refine wp_region_held (S:=fun w'=>w'.cell? ⟨fb,10,none⟩=some (.slice (some ⟨gj,oj,none⟩) jb.length cj)/\w'.cell? ⟨fb,7,none⟩=some (.int .i64 ((C:Int)+1))/\w'.heap[w.heap.size]?=some (.cells #[jl,jz,jx,jy,jw,jp,(rd:Int),jf] 165)) (by kernel_rfl) ?_
    change wpAnyH _ _ _ _ _ _ _ _ (World.drew _);obtain⟨hS3,hov3,hJ3⟩:=aa H3;have hbd:Below w3.heap.size w3 (World.drew w3):=⟨rfl,rfl,rfl,Nat.le_refl _,fun _ _=>rfl⟩;have hS6:=hS3.on hbd;have hov6:=hov3.on hbd;have hJ6:=ag hJ3 hbd;generalize World.drew w3=w6 at hS6 hov6 hJ6 ⊢;have hjo:=hS6.mem.jb;rw[show({ X with ct:=(C:Int)+1,ev:=ev1 }:RV).jv=X.jv from rfl,aa HJV] at hjo
    have hS:w6.cell? ⟨fb,10,none⟩=some (.slice (some ⟨gj,oj,none⟩) jb.length cj)/\w6.cell? ⟨fb,7,none⟩=some (.int .i64 ((C:Int)+1))/\w6.heap[w.heap.size]?=some (.cells #[jl,jz,jx,jy,jw,jp,(rd:Int),jf] 165):=⟨by rw[<-aa HJV]; exact aF.c hS6.blk 10 rfl,aF.c hS6.blk 7 rfl,hJ6⟩
    have hth:w6.there gj (oj+i*8) ((Jb.a ⟨⟨jl,jz,jx,jy⟩,-1,(C:Int)+1,0,0⟩)).size:=hjo.thereE hilt;obtain⟨hse,hgr⟩:=hjo.setE hilt ⟨⟨jl,jz,jx,jy⟩,-1,(C:Int)+1,0,0⟩;obtain⟨w7,hw7⟩:∃w7,w6.setCells gj (oj+i*8) ((Jb.a ⟨⟨jl,jz,jx,jy⟩,-1,(C:Int)+1,0,0⟩)).toList=w7:=⟨_,rfl⟩;rw[show w6.setCells gj (oj+i*jP.wid) (jP.enc ⟨⟨jl,jz,jx,jy⟩,-1,(C:Int)+1,0,0⟩)=w7 from hw7] at hse hgr
    have hF7:aE (fun k=>X.jv.ownBlock=some k) w6 w7:=(aE.rfl' _ _).grown hgr (fun q hq _=>by rw[aa HJV]; exact hq)
    have hst7:=hS6.mem.jin hS6.blk (jb':=jb.set i ⟨⟨jl,jz,jx,jy⟩,-1,(C:Int)+1,0,0⟩) (by rw[show({ X with ct:=(C:Int)+1,ev:=ev1 }:RV).jv=X.jv from rfl,aa HJV]; exact hse) hF7
    have hJ7:=aQ hJ6 hF7 (fun q=>by have:=(aa HM).jb.lt q; omega)
    have hS7:w7.cell? ⟨fb,10,none⟩=some (.slice (some ⟨gj,oj,none⟩) jb.length cj)/\w7.cell? ⟨fb,7,none⟩=some (.int .i64 ((C:Int)+1))/\w7.heap[w.heap.size]?=some (.cells #[jl,jz,jx,jy,jw,jp,(rd:Int),jf] 165):=⟨by rw[<-aa HJV]; exact aF.c hst7.blk 10 rfl,aF.c hst7.blk 7 rfl,hJ7⟩
    have HQ:Hid (PtP w fb X bs ca cnt rq jb en i ⟨⟨jl,jz,jx,jy⟩,jw,jp,(rd:Int),jf⟩ (.returned (.slice o6 n6 c6)) w7):=by
     refine⟨.slice o6 n6 c6,X.jv,ev1,rfl,hst7.own hS6.blk hS6.mem hov6 (by decide),aa HFR,?_⟩
     have:=hS6.trans hst7;show aP w fb X w7 { X with ct:=((ptJ (fP bs ⟨⟨jl,jz,jx,jy⟩,jw,jp,(rd:Int),jf⟩ rq) (layN bs ca ⟨jl,jz,jx,jy⟩ rd (cnt,en) 4).1 jb i ⟨jl,jz,jx,jy⟩).1:Int),jv:=X.jv,ev:=ev1 } (fP bs ⟨⟨jl,jz,jx,jy⟩,jw,jp,(rd:Int),jf⟩ rq) (ptJ (fP bs ⟨⟨jl,jz,jx,jy⟩,jw,jp,(rd:Int),jf⟩ rq) (layN bs ca ⟨jl,jz,jx,jy⟩ rd (cnt,en) 4).1 jb i ⟨jl,jz,jx,jy⟩).2 (layN bs ca ⟨jl,jz,jx,jy⟩ rd (cnt,en) 4).2;rw[show(layN bs ca ⟨jl,jz,jx,jy⟩ rd (cnt,en) 4).1=C from aa HC];rw[aa HPJ];exact this
    clear hse hgr hF7 hst7 hJ7 hjo hS6 hov6 hJ6 hbd hS3 hov3 hJ3 H3;refine am 0 rfl fb 0 hS ?_;refine am 1 rfl fb 0 hS ?_;refine am 2 rfl fb 10 hS ?_
    refine aH 3 rfl (.slice (some ⟨gj,oj,none⟩) jb.length cj) hS ?_ (hy:=fun w' hw'=>by simp[go_sem,hw'.1])
    refine aH 4 rfl (.int .i64 i) hS ?_;refine am 5 rfl w.heap.size 0 hS ?_;refine aH 6 rfl (.agg #[jl,jz,jx,jy]) hS ?_ (hy:=fun w' hw'=>jT _ _ _ 39 rfl _ rfl _ underlying39 rfl (bj _ _ _ _) w.heap.size 0 rfl _ (dV (ao hw'.2.2) rfl));refine am 7 rfl fb 0 hS ?_;refine am 8 rfl fb 0 hS ?_;refine am 9 rfl fb 7 hS ?_
    refine aH 10 rfl (.int .i64 ((C:Int)+1)) hS ?_ (hy:=fun w' hw'=>by simp[go_sem,hw'.2.1])
    refine aH 11 rfl (.agg (Jb.a ⟨⟨jl,jz,jx,jy⟩,-1,(C:Int)+1,0,0⟩)) hS ?_ (hy:=fun w' hw'=>bJb _ _ _ _ _ _ _ _ _ _ rfl rfl rfl rfl w')
    refine am 12 rfl gj (oj+i*8) hS ?_ (hy:=fun w' hw'=>by simp[go_sem,hin])
    refine aV 13 ?_;refine cL 13 rfl rfl (w7) (stMid _ _ _ _ 165 rfl gj (oj+i*8) (Jb.a ⟨⟨jl,jz,jx,jy⟩,-1,(C:Int)+1,0,0⟩) rfl rfl w6 w7 hth (fu _) (one165 _) hw7) (hS7) ?_;simp only[Act.put]
    refine wpAnyH_done (by kernel_rfl) ?_ _
    clear hS hS7 hth hw7
    go_wp2_with fail
    go_ret;exact aa HQ
   have hpi:¬(0:Int)<N:=by omega
   have hptj:ptJ (fP bs ⟨⟨jl,jz,jx,jy⟩,jw,jp,(rd:Int),jf⟩ rq) C jb i ⟨jl,jz,jx,jy⟩=(C,jb.eraseIdx i):=by unfold ptJ; rw[aa HN,if_neg hpos]
   have DJ:=dropJob_any fb _ jb i w2 hS2.blk hS2.mem.jb (by omega)
   have H2:=ae (And.intro hS2 hov2);have HPJ:=ae hptj;clear hS2 hov2 hJ2 hptj
   go_wp2_with fail
   refine DJ.mono ?_;rintro e w3 ⟨rfl,⟨jv3,h1,h2,h3⟩,hF3⟩
   have HQ:Hid (PtP w fb X bs ca cnt rq jb en i ⟨⟨jl,jz,jx,jy⟩,jw,jp,(rd:Int),jf⟩ (.returned (.slice o6 n6 c6)) w3):=by
    obtain⟨hS2,hov2⟩:=aa H2;have hst:=hS2.mem.jv' hS2.blk h1 h2 h3 hF3
    refine⟨.slice o6 n6 c6,jv3,ev1,rfl,hst.own hS2.blk hS2.mem hov2 (by decide),aa HFR,?_⟩
    have:=hS2.trans hst;show aP w fb X w3 { X with ct:=((ptJ (fP bs ⟨⟨jl,jz,jx,jy⟩,jw,jp,(rd:Int),jf⟩ rq) (layN bs ca ⟨jl,jz,jx,jy⟩ rd (cnt,en) 4).1 jb i ⟨jl,jz,jx,jy⟩).1:Int),jv:=jv3,ev:=ev1 } (fP bs ⟨⟨jl,jz,jx,jy⟩,jw,jp,(rd:Int),jf⟩ rq) (ptJ (fP bs ⟨⟨jl,jz,jx,jy⟩,jw,jp,(rd:Int),jf⟩ rq) (layN bs ca ⟨jl,jz,jx,jy⟩ rd (cnt,en) 4).1 jb i ⟨jl,jz,jx,jy⟩).2 (layN bs ca ⟨jl,jz,jx,jy⟩ rd (cnt,en) 4).2;rw[show(layN bs ca ⟨jl,jz,jx,jy⟩ rd (cnt,en) 4).1=C from aa HC];rw[aa HPJ];exact this
   clear h1 h2 h3 hF3 DJ H2
   go_wp2_with fail
   go_ret;exact aa HQ
end
end Go.Proofs.YtpabpniaekldeaaGreatDoor
