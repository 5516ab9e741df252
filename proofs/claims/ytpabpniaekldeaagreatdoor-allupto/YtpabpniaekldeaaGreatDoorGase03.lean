import Derived.Test.YtpabpniaekldeaaGreatDoorGase02
import Derived.Test.YtpabpniaekldeaaGreatDoorProg
import Derived.Test.YtpabpniaekldeaaGreatDoorRows
import Derived.Shelf.LaysM
import Derived.Shelf.Strconv.Itoa3
import Derived.Lib.AppendIntMem
import Derived.WalkKit
import Derived.WalkSpells
import Derived.WalkLawsBesides
import Derived.Deep.QuietTactic
import Derived.BigQuiet
import Derived.Laws.BytesArg
import Derived.Laws.IdiomStrings
set_option maxHeartbeats 25600000
set_option maxRecDepth 20000
open Go.RowKit Go.Proofs.Tryz
namespace Go.Proofs.YtpabpniaekldeaaGreatDoor
namespace Dw
structure RB (w W:World):Prop where
 r0:W.cell? ⟨w.heap.size,0,none⟩=some (.int .i64 0)
 r1:W.cell? ⟨w.heap.size,1,none⟩=some (.int .i64 0)
 r2:W.cell? ⟨w.heap.size,2,none⟩=some (.int .i64 0)
 r3:W.cell? ⟨w.heap.size,3,none⟩=some (.int .i64 0)
 o0:W.cell? ⟨w.heap.size+1,0,none⟩=some (.int .i64 0)
 o1:W.cell? ⟨w.heap.size+1,1,none⟩=some (.int .i64 0)
 o2:W.cell? ⟨w.heap.size+1,2,none⟩=some (.int .i64 0)
 o3:W.cell? ⟨w.heap.size+1,3,none⟩=some (.int .i64 0)
 f0:W.frozen? ⟨w.heap.size,0,none⟩=false
 f1:W.frozen? ⟨w.heap.size,1,none⟩=false
 f2:W.frozen? ⟨w.heap.size,2,none⟩=false
 f3:W.frozen? ⟨w.heap.size,3,none⟩=false
 wl:w.heap.size+1<W.heap.size
 bel:Below w.heap.size w W
theorem RB.on {w c d:World}(h:RB w c)(a:Below c.heap.size c d):RB w d:=by
 have e:=a.size;have hw:=h.wl
 have b:w.heap.size<c.heap.size:=by omega
 exact⟨(a.cell (p:=⟨w.heap.size,0,none⟩) b).trans h.r0,(a.cell (p:=⟨w.heap.size,1,none⟩) b).trans h.r1,(a.cell (p:=⟨w.heap.size,2,none⟩) b).trans h.r2,(a.cell (p:=⟨w.heap.size,3,none⟩) b).trans h.r3,
  (a.cell (p:=⟨w.heap.size+1,0,none⟩) hw).trans h.o0,(a.cell (p:=⟨w.heap.size+1,1,none⟩) hw).trans h.o1,(a.cell (p:=⟨w.heap.size+1,2,none⟩) hw).trans h.o2,(a.cell (p:=⟨w.heap.size+1,3,none⟩) hw).trans h.o3,
  (a.frozen (p:=⟨w.heap.size,0,none⟩) b).trans h.f0,(a.frozen (p:=⟨w.heap.size,1,none⟩) b).trans h.f1,(a.frozen (p:=⟨w.heap.size,2,none⟩) b).trans h.f2,(a.frozen (p:=⟨w.heap.size,3,none⟩) b).trans h.f3,
  by omega,h.bel.trans (a.mono (by omega))⟩
theorem RB.start (w:World):RB w ((w.alloc (.cells #[(),(),(),()] 39)).alloc (.cells #[(),(),(),()] 39)):=by
 refine⟨?_,?_,?_,?_,?_,?_,?_,?_,?_,?_,?_,?_,?_,?_⟩
 all_goals first
  | exact(bu.alloc aD _).alloc (by simp) _
  | simp[go_sem]
theorem lX (w:World):Calls prog 137 #[()] w fun e w'=>e=.returned (.string ⟨#[108,97,110,100]⟩)/\Below w.heap.size w w':=gV 0 (by omega) w
theorem oV (w:World):Calls prog 137 #[(1:Int)] w fun e w'=>e=.returned (.string ⟨#[119,97,116,101,114]⟩)/\Below w.heap.size w w':=gV 1 (by omega) w
theorem name_2 (w:World):Calls prog 137 #[(2:Int)] w fun e w'=>e=.returned (.string ⟨#[114,111,97,100]⟩)/\Below w.heap.size w w':=gV 2 (by omega) w
theorem name_3 (w:World):Calls prog 137 #[(3:Int)] w fun e w'=>e=.returned (.string ⟨#[109,97,114,107]⟩)/\Below w.heap.size w w':=gV 3 (by omega) w
theorem ref_none1 (p:List UInt8)(h:p.length<5\/p.drop (p.length-5)≠Pp.dotTile):Pp.splitL p=none:=by
 rw[<-Pp.refL_eq]; unfold Pp.refL; rw[zJ h]
theorem ref_case (p:List UInt8)(a:List (List UInt8))(h:¬(p.length<5\/p.drop (p.length-5)≠Pp.dotTile))(b:a=Pp.pieces (p.take (p.length-5))):
  Pp.splitL p=if Pp.refOk a=true then some (a.getD 1 [],a.getD 2 [],a.getD 3 [],a.getD 4 []) else none:=by
 rw[<-Pp.refL_eq,b]; unfold Pp.refL; rw[zK h]
theorem ok5 (a n z x y:List UInt8):Pp.refOk [a,n,z,x,y]=(decide (a=[]) && (Pp.nameB n && (Pp.numB z && (Pp.numB x && Pp.numB y)))):=by
 simp[Pp.refOk]
theorem lK (s:ByteArray)(w:World)(f:s.size<=1048576)(h:s.size<5\/¬s.data.toList.drop (s.size-5)=Pp.dotTile):
  Calls prog 84 #[s] w fun e w'=>(∃l z x y er:Int,parseL s.data.toList=((l,z,x,y),er)/\e=.returned (.tuple #[.agg #[l,z,x,y],er]))/\Below w.heap.size w w':=by
 have c:=ae (cQ _ (ref_none1 s.data.toList (by rw[bw]; exact h)))
 by_cases b:s.size<5
 focus
  clear h
 rotate_left
 focus
  have a:¬s.data.toList.drop (s.size-5)=Pp.dotTile:=h.resolve_left b
  have d:((s.extract (s.size-5) s.size).toList==[46,116,105,108,101])=false:=by
   rw[zc,ByteArray.toList_eq,cut_hi]; exact a
  clear h a
 all_goals
  go_enter func84,ntmps84
  go_wp2_with fail
  refine zL (v:=.tuple #[.agg #[(),(),(),()],(1:Int)]) (by simp[results,results84,go_sem]) rfl ⟨⟨0,0,0,0,1,aa c,rfl⟩,?_⟩
  exact(bu.alloc aD _).alloc (by simp) _
theorem ownS_some {a:World}{B:Nat}{v:Value}{l:List ByteArray}(h:OwnS a B v l)(f:0<l.length):∃g cap,v=.slice (some ⟨g,0,none⟩) l.length cap/\g<a.heap.size/\∀j (b:j<l.length),a.cell? ⟨g,j,none⟩=some (.string l[j]):=by
 have c:=h
 rcases h.2 with⟨_,i⟩|⟨g,cap,e,rfl,_,d,_,_,_,_⟩
 ·omega
 refine⟨g,cap,rfl,?_,?_⟩
 ·exact(zM.1 d).1
 intro j b
 rw[y7 c j (by omega)]
 simp[b]
theorem mR (s:ByteArray)(w:World)(br:s.size<=1048576)(bp:5<=s.size)(a4:s.data.toList.drop (s.size-5)=Pp.dotTile):
  Calls prog 84 #[s] w fun e w'=>(∃l z x y er:Int,parseL s.data.toList=((l,z,x,y),er)/\e=.returned (.tuple #[.agg #[l,z,x,y],er]))/\Below w.heap.size w w':=by
 have bm:((s.extract (s.size-5) s.size).toList==[46,116,105,108,101])=true:=by
  rw[ByteArray.toList_eq,cut_hi,a4]; rfl
 have a5:∀aE,aE=Pp.pieces (s.data.toList.take (s.size-5))->Pp.splitL s.data.toList=if Pp.refOk aE=true then some (aE.getD 1 [],aE.getD 2 [],aE.getD 3 [],aE.getD 4 []) else none:=
  fun aE bl=>ref_case s.data.toList aE (by rw[bw]; intro e; rcases e with e|e; omega; exact e a4) (by rw[bw]; exact bl)
 have bc:=ae a5;clear a5 a4
 have a9:(s.extract 0 (s.size-5)).size<=1048576:=by simp; omega
 go_enter func84,ntmps84
 go_wp2_with fail
 refine(parts_any _ _ a9).mono ?_;rintro e w1 ⟨v,l,rfl,a6,aW,bb,bd⟩;rw[cut_lo] at aW;have U:=ae (aa bc _ aW)
 have ba:0<l.length:=by
  have e:=congrArg List.length aW;rw[zY] at e;have:=Pp.pieces_ne (s.data.toList.take (s.size-5));have aG:0<(Pp.pieces (s.data.toList.take (s.size-5))).length:=List.length_pos_iff.2 this;omega
 obtain⟨g,cap,rfl,bf,aH⟩:=ownS_some a6 ba;have aR:=ae bb;clear bc aW a6 bb a9;have a3:=(RB.start w).on bd;clear bd
 by_cases a2:l.length=5
 ·match l,a2 with
  | [A,t,F,X,I],_=>
   have aS:w1.cell? ⟨g,0,none⟩=some (.string A):=aH 0 (by simp)
   have C:w1.cell? ⟨g,1,none⟩=some (.string t):=aH 1 (by simp)
   have aT:w1.cell? ⟨g,2,none⟩=some (.string F):=aH 2 (by simp)
   have aU:w1.cell? ⟨g,3,none⟩=some (.string X):=aH 3 (by simp)
   have aV:w1.cell? ⟨g,4,none⟩=some (.string I):=aH 4 (by simp)
   have am:t.size<=maxLen:=aa aR t (by simp)
   have ap:F.size<=maxLen:=aa aR F (by simp)
   have an:X.size<=maxLen:=aa aR X (by simp)
   have ao:I.size<=maxLen:=aa aR I (by simp)
   have aq:Hid (Pp.splitL s.data.toList=if (decide (A.data.toList=[]) && (Pp.nameB t.data.toList && (Pp.numB F.data.toList && (Pp.numB X.data.toList && Pp.numB I.data.toList))))=true then some (t.data.toList,F.data.toList,X.data.toList,I.data.toList) else none):=by
    have:=aa U;simp only[zA,yQ,ok5] at this;exact this
   clear U aH aR ba;have aL:A.toList.isEmpty=A.data.toList.isEmpty:=empty_of A _ rfl;have u:=ae a3;obtain⟨b,c,d,f,n,o,q,r,i,j,k,m,wl,a⟩:=a3;have h:=ae a;clear a
   cases aM:A.data.toList.isEmpty with
   | false=>
    rw[aM] at aL
    have E:Hid (parseL s.data.toList=((0,0,0,0),1)):=by
     refine ae (cQ _ ?_);rw[aa aq,zK]
     have:¬A.data.toList=[]:=fun e=>by rw[e] at aM; cases aM
     simp[this]
    clear aq aM
    go_wp2_with fail
    refine zL (v:=.tuple #[.agg #[(),(),(),()],(1:Int)]) (by simp[results,results84,go_sem,b,c,d,f]) rfl ⟨⟨0,0,0,0,1,aa E,rfl⟩,?_⟩
    exact((((aa h).setCell aD _).setCell aD _).setCell aD _).setCell aD _
   | true=>
    rw[aM] at aL;have a8:A.data.toList=[]:=List.isEmpty_iff.1 aM;rw[a8] at aq;clear aM a8
    cases ag:Pp.nameB t.data.toList with
    | false=>
     have E:Hid (parseL s.data.toList=((0,0,0,0),1)):=by
      refine ae (cQ _ ?_)
      rw[aa aq,ag]; simp
     obtain⟨G,O⟩:∃v,eH F.data.toList=v:=⟨_,rfl⟩;obtain⟨N,P⟩:∃v,eH X.data.toList=v:=⟨_,rfl⟩;obtain⟨R,S⟩:∃v,eH I.data.toList=v:=⟨_,rfl⟩;have ab:=ae O;have Y:=ae P;have Z:=ae S;have ac:=ae ag;clear aq ag O P S
     go_wp2_with fail
     refine(da t 97 122 8 _ _ _ _ am rfl rfl rfl).mono ?_;rintro e D ⟨rfl,rfl⟩;rw[dw,aa ac]
     go_wp2_with fail
     refine(aJ F _ ap).mono ?_;rintro e D ⟨rfl,rfl⟩;rw[aa ab]
     go_wp2_with fail
     refine(aJ X _ an).mono ?_;rintro e D ⟨rfl,rfl⟩;rw[aa Y]
     go_wp2_with fail
     refine(aJ I _ ao).mono ?_;rintro e D ⟨rfl,rfl⟩;rw[aa Z]
     go_wp2_with fail
     refine zL (v:=.tuple #[.agg #[(),(),(),()],(1:Int)]) (by simp[results,results84,go_sem,b,c,d,f]) rfl ⟨⟨0,0,0,0,1,aa E,rfl⟩,?_⟩
     exact((((aa h).setCell aD _).setCell aD _).setCell aD _).setCell aD _
    | true=>
     cases Q:Pp.numB F.data.toList with
     | false=>
      have E:Hid (parseL s.data.toList=((0,0,0,0),1)):=by
       refine ae (cQ _ ?_)
       rw[aa aq,ag,Q]; simp
      have ab:Hid (eH F.data.toList=-1):=jF _ Q;obtain⟨N,P⟩:∃v,eH X.data.toList=v:=⟨_,rfl⟩;have Y:=ae P;clear P;obtain⟨R,S⟩:∃v,eH I.data.toList=v:=⟨_,rfl⟩;have Z:=ae S;clear S;have ac:=ae ag;clear aq ag Q
      go_wp2_with fail
      refine(da t 97 122 8 _ _ _ _ am rfl rfl rfl).mono ?_;rintro e D ⟨rfl,rfl⟩;rw[dw,aa ac]
      go_wp2_with fail
      refine(aJ F _ ap).mono ?_;rintro e D ⟨rfl,rfl⟩;rw[aa ab]
      go_wp2_with fail
      refine(aJ X _ an).mono ?_;rintro e D ⟨rfl,rfl⟩;rw[aa Y]
      go_wp2_with fail
      refine(aJ I _ ao).mono ?_;rintro e D ⟨rfl,rfl⟩;rw[aa Z]
      go_wp2_with fail
      refine zL (v:=.tuple #[.agg #[(),(),(),()],(1:Int)]) (by simp[results,results84,go_sem,b,c,d,f]) rfl ⟨⟨0,0,0,0,1,aa E,rfl⟩,?_⟩
      exact((((aa h).setCell aD _).setCell aD _).setCell aD _).setCell aD _
     | true=>
      cases ah:Pp.numB X.data.toList with
      | false=>
       have E:Hid (parseL s.data.toList=((0,0,0,0),1)):=by
        refine ae (cQ _ ?_)
        rw[aa aq,ag,Q,ah]; simp
       obtain⟨G,O⟩:∃v,Pp.valL F.data.toList=v:=⟨_,rfl⟩
       have ab:Hid (eH F.data.toList=(G:Int)):=by show eH _=_; rw[fq _ Q,O]
       have a7:G<1000000000:=by
        have:=dU F 9 (by have:=(Pp.numB_len _ Q).2; rw[bw] at this; exact this) (Pp.numB_within _ Q)
        have ax:=(Pp.numB_len _ Q).2;rw[z1 ax,O] at this;exact this
       have Y:Hid (eH X.data.toList=-1):=jF _ ah;obtain⟨R,S⟩:∃v,eH I.data.toList=v:=⟨_,rfl⟩;have Z:=ae S;clear S;have ac:=ae ag;clear aq ag Q ah O
       go_wp2_with fail
       refine(da t 97 122 8 _ _ _ _ am rfl rfl rfl).mono ?_;rintro e D ⟨rfl,rfl⟩;rw[dw,aa ac]
       go_wp2_with fail
       refine(aJ F _ ap).mono ?_;rintro e D ⟨rfl,rfl⟩;rw[aa ab]
       go_wp2_with fail
       refine(aJ X _ an).mono ?_;rintro e D ⟨rfl,rfl⟩;rw[aa Y]
       go_wp2_with fail
       refine(aJ I _ ao).mono ?_;rintro e D ⟨rfl,rfl⟩;rw[aa Z]
       go_wp2_with fail
       refine zL (v:=.tuple #[.agg #[(),(),(),()],(1:Int)]) (by simp[results,results84,go_sem,b,c,d,f]) rfl ⟨⟨0,0,0,0,1,aa E,rfl⟩,?_⟩
       exact((((aa h).setCell aD _).setCell aD _).setCell aD _).setCell aD _
      | true=>
       cases hy:Pp.numB I.data.toList with
       | false=>
        have E:Hid (parseL s.data.toList=((0,0,0,0),1)):=by
         refine ae (cQ _ ?_)
         rw[aa aq,ag,Q,ah,hy]; simp
        obtain⟨G,O⟩:∃v,Pp.valL F.data.toList=v:=⟨_,rfl⟩
        have ab:Hid (eH F.data.toList=(G:Int)):=by show eH _=_; rw[fq _ Q,O]
        have a7:G<1000000000:=by
         have:=dU F 9 (by have:=(Pp.numB_len _ Q).2; rw[bw] at this; exact this) (Pp.numB_within _ Q)
         have ax:=(Pp.numB_len _ Q).2;rw[z1 ax,O] at this;exact this
        obtain⟨N,P⟩:∃v,Pp.valL X.data.toList=v:=⟨_,rfl⟩
        have Y:Hid (eH X.data.toList=(N:Int)):=by show eH _=_; rw[fq _ ah,P]
        have bg:N<1000000000:=by
         have:=dU X 9 (by have:=(Pp.numB_len _ ah).2; rw[bw] at this; exact this) (Pp.numB_within _ ah)
         have ax:=(Pp.numB_len _ ah).2;rw[z1 ax,P] at this;exact this
        have Z:Hid (eH I.data.toList=-1):=jF _ hy;have ac:=ae ag;clear aq ag Q ah hy O P
        go_wp2_with fail
        refine(da t 97 122 8 _ _ _ _ am rfl rfl rfl).mono ?_;rintro e D ⟨rfl,rfl⟩;rw[dw,aa ac]
        go_wp2_with fail
        refine(aJ F _ ap).mono ?_;rintro e D ⟨rfl,rfl⟩;rw[aa ab]
        go_wp2_with fail
        refine(aJ X _ an).mono ?_;rintro e D ⟨rfl,rfl⟩;rw[aa Y]
        go_wp2_with fail
        refine(aJ I _ ao).mono ?_;rintro e D ⟨rfl,rfl⟩;rw[aa Z]
        go_wp2_with fail
        refine zL (v:=.tuple #[.agg #[(),(),(),()],(1:Int)]) (by simp[results,results84,go_sem,b,c,d,f]) rfl ⟨⟨0,0,0,0,1,aa E,rfl⟩,?_⟩
        exact((((aa h).setCell aD _).setCell aD _).setCell aD _).setCell aD _
       | true=>
        have U:Pp.splitL s.data.toList=some (t.data.toList,F.data.toList,X.data.toList,I.data.toList):=by
         rw[aa aq,ag,Q,ah,hy]; simp
        obtain⟨G,O⟩:∃v,Pp.valL F.data.toList=v:=⟨_,rfl⟩
        have ab:Hid (eH F.data.toList=(G:Int)):=by show eH _=_; rw[fq _ Q,O]
        have a7:G<1000000000:=by
         have:=dU F 9 (by have:=(Pp.numB_len _ Q).2; rw[bw] at this; exact this) (Pp.numB_within _ Q)
         have ax:=(Pp.numB_len _ Q).2;rw[z1 ax,O] at this;exact this
        obtain⟨N,P⟩:∃v,Pp.valL X.data.toList=v:=⟨_,rfl⟩
        have Y:Hid (eH X.data.toList=(N:Int)):=by show eH _=_; rw[fq _ ah,P]
        have bg:N<1000000000:=by
         have:=dU X 9 (by have:=(Pp.numB_len _ ah).2; rw[bw] at this; exact this) (Pp.numB_within _ ah)
         have ax:=(Pp.numB_len _ ah).2;rw[z1 ax,P] at this;exact this
        obtain⟨R,S⟩:∃v,Pp.valL I.data.toList=v:=⟨_,rfl⟩
        have Z:Hid (eH I.data.toList=(R:Int)):=by show eH _=_; rw[fq _ hy,S]
        have bn:R<1000000000:=by
         have:=dU I 9 (by have:=(Pp.numB_len _ hy).2; rw[bw] at this; exact this) (Pp.numB_within _ hy)
         have ax:=(Pp.numB_len _ hy).2;rw[z1 ax,S] at this;exact this
        have ac:=ae ag;have bo:t.toList=t.data.toList:=ByteArray.toList_eq t;have B:=bf;clear aq ag Q ah hy bf
        by_cases aA:t.data.toList=Pp.land
        ·have al:Pp.layerL t.data.toList=0:=by simp[Pp.layerL,aA]
         have bh:([108,97,110,100]==t.data.toList)=true:=fG _ _ aA;have K:=ae (fW _ _ _ _ _ U);have J:=ae (eh _ _ _ _ _ U);rw[al,O,P,S] at K J;clear U al O P S aA
         go_wp2_with fail
         refine(da t 97 122 8 _ _ _ _ am rfl rfl rfl).mono ?_;rintro e D ⟨rfl,rfl⟩;rw[dw,aa ac]
         go_wp2_with fail
         refine(aJ F _ ap).mono ?_;rintro e D ⟨rfl,rfl⟩;rw[aa ab]
         go_wp2_with fail
         refine(aJ X _ an).mono ?_;rintro e D ⟨rfl,rfl⟩;rw[aa Y]
         go_wp2_with fail
         refine(aJ I _ ao).mono ?_;rintro e D ⟨rfl,rfl⟩;rw[aa Z];clear aS aT aU aV ab Y Z ac aL am ap an ao
         go_wp2
         refine wp_loop_rounds 5 ?_;rw[zw]
         go_wp2_with fail
         refine(lX _).mono ?_;rintro e L ⟨rfl,H⟩
         have ak:g<L.heap.size:=by have:=H.size; omega
         have ai:L.cell? ⟨g,1,none⟩=some (.string t):=(H.cell (p:=⟨g,1,none⟩) B).trans C;have ay:=(aa u).on H;clear b c d f n o q r i j k m wl h u C B H;obtain⟨b,c,d,f,n,o,q,r,i,j,k,m,wl,a⟩:=ay;have u:Hid (RB w L):=ae ⟨b,c,d,f,n,o,q,r,i,j,k,m,wl,a⟩;have h:=ae a;have C:=ai;have B:=ak;clear a ai ak
         go_wp2_with fail
         refine(bq 0 G N R _).mono ?_;rintro e wk ⟨rfl,ad⟩;generalize keyErr 0 G N R=W at K J
         have av:Below L.heap.size L wk:=(bu.alloc aD _).trans (ad.mono (by simp))
         obtain⟨aZ,a0⟩:=mw ad
         have a1:L.heap.size<L.heap.size+1:=by omega
         have aK:=(aa u).on av;clear b c d f n o q r i j k m wl h u C B ad av;obtain⟨b,c,d,f,n,o,q,r,i,j,k,m,wl,a⟩:=aK;have h:=ae a;clear a
         by_cases M:W=0
         ·have E:=ae (aa K M)
          subst M;clear K J
          go_wp2_with fail
          refine zL (v:=.tuple #[.agg #[(),G,N,R],()]) (by simp[results,results84,go_sem,b,c,d,f]) rfl ⟨⟨0,G,N,R,0,aa E,rfl⟩,?_⟩
          exact((((aa h).setCell aD _).setCell aD _).setCell aD _).setCell aD _
         have E:=ae (aa J M)
         have aX:(W != 0)=true:=by rw[bne_iff_ne]; exact M
         clear K J M
         go_wp2_with fail
         refine zL (v:=.tuple #[.agg #[(),(),(),()],W]) (by simp[results,results84,go_sem,b,c,d,f]) rfl ⟨⟨0,0,0,0,W,aa E,rfl⟩,?_⟩
         exact((((aa h).setCell aD _).setCell aD _).setCell aD _).setCell aD _
        have bh:([108,97,110,100]==t.data.toList)=false:=im _ _ aA
        by_cases aF:t.data.toList=Pp.water
        ·have al:Pp.layerL t.data.toList=1:=by simp[Pp.layerL,aF,Pp.land,Pp.water]
         have bi:([119,97,116,101,114]==t.data.toList)=true:=fG _ _ aF;have K:=ae (fW _ _ _ _ _ U);have J:=ae (eh _ _ _ _ _ U);rw[al,O,P,S] at K J;clear U al O P S aA aF
         go_wp2_with fail
         refine(da t 97 122 8 _ _ _ _ am rfl rfl rfl).mono ?_;rintro e D ⟨rfl,rfl⟩;rw[dw,aa ac]
         go_wp2_with fail
         refine(aJ F _ ap).mono ?_;rintro e D ⟨rfl,rfl⟩;rw[aa ab]
         go_wp2_with fail
         refine(aJ X _ an).mono ?_;rintro e D ⟨rfl,rfl⟩;rw[aa Y]
         go_wp2_with fail
         refine(aJ I _ ao).mono ?_;rintro e D ⟨rfl,rfl⟩;rw[aa Z];clear aS aT aU aV ab Y Z ac aL am ap an ao
         go_wp2
         refine wp_loop_rounds 5 ?_;rw[zw]
         go_wp2_with fail
         refine(lX _).mono ?_;rintro e L ⟨rfl,H⟩
         have ak:g<L.heap.size:=by have:=H.size; omega
         have ai:L.cell? ⟨g,1,none⟩=some (.string t):=(H.cell (p:=⟨g,1,none⟩) B).trans C;have ay:=(aa u).on H;clear b c d f n o q r i j k m wl h u C B H;obtain⟨b,c,d,f,n,o,q,r,i,j,k,m,wl,a⟩:=ay;have u:Hid (RB w L):=ae ⟨b,c,d,f,n,o,q,r,i,j,k,m,wl,a⟩;have h:=ae a;have C:=ai;have B:=ak;clear a ai ak
         go_wp2_with fail
         rw[zw]
         go_wp2_with fail
         refine(oV _).mono ?_;rintro e V ⟨rfl,T⟩
         have au:g<V.heap.size:=by have:=T.size; omega
         have ar:V.cell? ⟨g,1,none⟩=some (.string t):=(T.cell (p:=⟨g,1,none⟩) B).trans C;have aI:=(aa u).on T;clear b c d f n o q r i j k m wl h u C B T;obtain⟨b,c,d,f,n,o,q,r,i,j,k,m,wl,a⟩:=aI;have u:Hid (RB w V):=ae ⟨b,c,d,f,n,o,q,r,i,j,k,m,wl,a⟩;have h:=ae a;have C:=ar;have B:=au;clear a ar au
         go_wp2_with fail
         refine(bq 1 G N R _).mono ?_;rintro e wk ⟨rfl,ad⟩;generalize keyErr 1 G N R=W at K J
         have av:Below V.heap.size V wk:=(bu.alloc aD _).trans (ad.mono (by simp))
         obtain⟨aZ,a0⟩:=mw ad
         have a1:V.heap.size<V.heap.size+1:=by omega
         have aK:=(aa u).on av;clear b c d f n o q r i j k m wl h u C B ad av;obtain⟨b,c,d,f,n,o,q,r,i,j,k,m,wl,a⟩:=aK;have h:=ae a;clear a
         by_cases M:W=0
         ·have E:=ae (aa K M)
          subst M;clear K J
          go_wp2_with fail
          refine zL (v:=.tuple #[.agg #[(1:Int),G,N,R],()]) (by simp[results,results84,go_sem,b,c,d,f]) rfl ⟨⟨1,G,N,R,0,aa E,rfl⟩,?_⟩
          exact((((aa h).setCell aD _).setCell aD _).setCell aD _).setCell aD _
         have E:=ae (aa J M)
         have aX:(W != 0)=true:=by rw[bne_iff_ne]; exact M
         clear K J M
         go_wp2_with fail
         refine zL (v:=.tuple #[.agg #[(),(),(),()],W]) (by simp[results,results84,go_sem,b,c,d,f]) rfl ⟨⟨0,0,0,0,W,aa E,rfl⟩,?_⟩
         exact((((aa h).setCell aD _).setCell aD _).setCell aD _).setCell aD _
        have bi:([119,97,116,101,114]==t.data.toList)=false:=im _ _ aF
        by_cases aG:t.data.toList=Pp.road
        ·have al:Pp.layerL t.data.toList=2:=by simp[Pp.layerL,aG,Pp.land,Pp.water,Pp.road]
         have bj:([114,111,97,100]==t.data.toList)=true:=fG _ _ aG;have K:=ae (fW _ _ _ _ _ U);have J:=ae (eh _ _ _ _ _ U);rw[al,O,P,S] at K J;clear U al O P S aA aF aG
         go_wp2_with fail
         refine(da t 97 122 8 _ _ _ _ am rfl rfl rfl).mono ?_;rintro e D ⟨rfl,rfl⟩;rw[dw,aa ac]
         go_wp2_with fail
         refine(aJ F _ ap).mono ?_;rintro e D ⟨rfl,rfl⟩;rw[aa ab]
         go_wp2_with fail
         refine(aJ X _ an).mono ?_;rintro e D ⟨rfl,rfl⟩;rw[aa Y]
         go_wp2_with fail
         refine(aJ I _ ao).mono ?_;rintro e D ⟨rfl,rfl⟩;rw[aa Z];clear aS aT aU aV ab Y Z ac aL am ap an ao
         go_wp2
         refine wp_loop_rounds 5 ?_;rw[zw]
         go_wp2_with fail
         refine(lX _).mono ?_;rintro e L ⟨rfl,H⟩
         have ak:g<L.heap.size:=by have:=H.size; omega
         have ai:L.cell? ⟨g,1,none⟩=some (.string t):=(H.cell (p:=⟨g,1,none⟩) B).trans C;have ay:=(aa u).on H;clear b c d f n o q r i j k m wl h u C B H;obtain⟨b,c,d,f,n,o,q,r,i,j,k,m,wl,a⟩:=ay;have u:Hid (RB w L):=ae ⟨b,c,d,f,n,o,q,r,i,j,k,m,wl,a⟩;have h:=ae a;have C:=ai;have B:=ak;clear a ai ak
         go_wp2_with fail
         rw[zw]
         go_wp2_with fail
         refine(oV _).mono ?_;rintro e V ⟨rfl,T⟩
         have au:g<V.heap.size:=by have:=T.size; omega
         have ar:V.cell? ⟨g,1,none⟩=some (.string t):=(T.cell (p:=⟨g,1,none⟩) B).trans C;have aI:=(aa u).on T;clear b c d f n o q r i j k m wl h u C B T;obtain⟨b,c,d,f,n,o,q,r,i,j,k,m,wl,a⟩:=aI;have u:Hid (RB w V):=ae ⟨b,c,d,f,n,o,q,r,i,j,k,m,wl,a⟩;have h:=ae a;have C:=ar;have B:=au;clear a ar au
         go_wp2_with fail
         rw[zw]
         go_wp2_with fail
         refine(name_2 _).mono ?_;rintro e af ⟨rfl,aj⟩
         have aC:g<af.heap.size:=by have:=aj.size; omega
         have aB:af.cell? ⟨g,1,none⟩=some (.string t):=(aj.cell (p:=⟨g,1,none⟩) B).trans C;have aO:=(aa u).on aj;clear b c d f n o q r i j k m wl h u C B aj;obtain⟨b,c,d,f,n,o,q,r,i,j,k,m,wl,a⟩:=aO;have u:Hid (RB w af):=ae ⟨b,c,d,f,n,o,q,r,i,j,k,m,wl,a⟩;have h:=ae a;have C:=aB;have B:=aC;clear a aB aC
         go_wp2_with fail
         refine(bq 2 G N R _).mono ?_;rintro e wk ⟨rfl,ad⟩;generalize keyErr 2 G N R=W at K J
         have av:Below af.heap.size af wk:=(bu.alloc aD _).trans (ad.mono (by simp))
         obtain⟨aZ,a0⟩:=mw ad
         have a1:af.heap.size<af.heap.size+1:=by omega
         have aK:=(aa u).on av;clear b c d f n o q r i j k m wl h u C B ad av;obtain⟨b,c,d,f,n,o,q,r,i,j,k,m,wl,a⟩:=aK;have h:=ae a;clear a
         by_cases M:W=0
         ·have E:=ae (aa K M)
          subst M;clear K J
          go_wp2_with fail
          refine zL (v:=.tuple #[.agg #[(2:Int),G,N,R],()]) (by simp[results,results84,go_sem,b,c,d,f]) rfl ⟨⟨2,G,N,R,0,aa E,rfl⟩,?_⟩
          exact((((aa h).setCell aD _).setCell aD _).setCell aD _).setCell aD _
         have E:=ae (aa J M)
         have aX:(W != 0)=true:=by rw[bne_iff_ne]; exact M
         clear K J M
         go_wp2_with fail
         refine zL (v:=.tuple #[.agg #[(),(),(),()],W]) (by simp[results,results84,go_sem,b,c,d,f]) rfl ⟨⟨0,0,0,0,W,aa E,rfl⟩,?_⟩
         exact((((aa h).setCell aD _).setCell aD _).setCell aD _).setCell aD _
        have bj:([114,111,97,100]==t.data.toList)=false:=im _ _ aG
        by_cases aN:t.data.toList=Pp.mark
        ·have al:Pp.layerL t.data.toList=3:=by simp[Pp.layerL,aN,Pp.land,Pp.water,Pp.road,Pp.mark]
         have bk:([109,97,114,107]==t.data.toList)=true:=fG _ _ aN;have K:=ae (fW _ _ _ _ _ U);have J:=ae (eh _ _ _ _ _ U);rw[al,O,P,S] at K J;clear U al O P S aA aF aG aN
         go_wp2_with fail
         refine(da t 97 122 8 _ _ _ _ am rfl rfl rfl).mono ?_;rintro e D ⟨rfl,rfl⟩;rw[dw,aa ac]
         go_wp2_with fail
         refine(aJ F _ ap).mono ?_;rintro e D ⟨rfl,rfl⟩;rw[aa ab]
         go_wp2_with fail
         refine(aJ X _ an).mono ?_;rintro e D ⟨rfl,rfl⟩;rw[aa Y]
         go_wp2_with fail
         refine(aJ I _ ao).mono ?_;rintro e D ⟨rfl,rfl⟩;rw[aa Z];clear aS aT aU aV ab Y Z ac aL am ap an ao
         go_wp2
         refine wp_loop_rounds 5 ?_;rw[zw]
         go_wp2_with fail
         refine(lX _).mono ?_;rintro e L ⟨rfl,H⟩
         have ak:g<L.heap.size:=by have:=H.size; omega
         have ai:L.cell? ⟨g,1,none⟩=some (.string t):=(H.cell (p:=⟨g,1,none⟩) B).trans C;have ay:=(aa u).on H;clear b c d f n o q r i j k m wl h u C B H;obtain⟨b,c,d,f,n,o,q,r,i,j,k,m,wl,a⟩:=ay;have u:Hid (RB w L):=ae ⟨b,c,d,f,n,o,q,r,i,j,k,m,wl,a⟩;have h:=ae a;have C:=ai;have B:=ak;clear a ai ak
         go_wp2_with fail
         rw[zw]
         go_wp2_with fail
         refine(oV _).mono ?_;rintro e V ⟨rfl,T⟩
         have au:g<V.heap.size:=by have:=T.size; omega
         have ar:V.cell? ⟨g,1,none⟩=some (.string t):=(T.cell (p:=⟨g,1,none⟩) B).trans C;have aI:=(aa u).on T;clear b c d f n o q r i j k m wl h u C B T;obtain⟨b,c,d,f,n,o,q,r,i,j,k,m,wl,a⟩:=aI;have u:Hid (RB w V):=ae ⟨b,c,d,f,n,o,q,r,i,j,k,m,wl,a⟩;have h:=ae a;have C:=ar;have B:=au;clear a ar au
         go_wp2_with fail
         rw[zw]
         go_wp2_with fail
         refine(name_2 _).mono ?_;rintro e af ⟨rfl,aj⟩
         have aC:g<af.heap.size:=by have:=aj.size; omega
         have aB:af.cell? ⟨g,1,none⟩=some (.string t):=(aj.cell (p:=⟨g,1,none⟩) B).trans C;have aO:=(aa u).on aj;clear b c d f n o q r i j k m wl h u C B aj;obtain⟨b,c,d,f,n,o,q,r,i,j,k,m,wl,a⟩:=aO;have u:Hid (RB w af):=ae ⟨b,c,d,f,n,o,q,r,i,j,k,m,wl,a⟩;have h:=ae a;have C:=aB;have B:=aC;clear a aB aC
         go_wp2_with fail
         rw[zw]
         go_wp2_with fail
         refine(name_3 _).mono ?_;rintro e aw ⟨rfl,az⟩
         have aQ:g<aw.heap.size:=by have:=az.size; omega
         have aP:aw.cell? ⟨g,1,none⟩=some (.string t):=(az.cell (p:=⟨g,1,none⟩) B).trans C;have aY:=(aa u).on az;clear b c d f n o q r i j k m wl h u C B az;obtain⟨b,c,d,f,n,o,q,r,i,j,k,m,wl,a⟩:=aY;have u:Hid (RB w aw):=ae ⟨b,c,d,f,n,o,q,r,i,j,k,m,wl,a⟩;have h:=ae a;have C:=aP;have B:=aQ;clear a aP aQ
         go_wp2_with fail
         refine(bq 3 G N R _).mono ?_;rintro e wk ⟨rfl,ad⟩;generalize keyErr 3 G N R=W at K J
         have av:Below aw.heap.size aw wk:=(bu.alloc aD _).trans (ad.mono (by simp))
         obtain⟨aZ,a0⟩:=mw ad
         have a1:aw.heap.size<aw.heap.size+1:=by omega
         have aK:=(aa u).on av;clear b c d f n o q r i j k m wl h u C B ad av;obtain⟨b,c,d,f,n,o,q,r,i,j,k,m,wl,a⟩:=aK;have h:=ae a;clear a
         by_cases M:W=0
         ·have E:=ae (aa K M)
          subst M;clear K J
          go_wp2_with fail
          refine zL (v:=.tuple #[.agg #[(3:Int),G,N,R],()]) (by simp[results,results84,go_sem,b,c,d,f]) rfl ⟨⟨3,G,N,R,0,aa E,rfl⟩,?_⟩
          exact((((aa h).setCell aD _).setCell aD _).setCell aD _).setCell aD _
         have E:=ae (aa J M)
         have aX:(W != 0)=true:=by rw[bne_iff_ne]; exact M
         clear K J M
         go_wp2_with fail
         refine zL (v:=.tuple #[.agg #[(),(),(),()],W]) (by simp[results,results84,go_sem,b,c,d,f]) rfl ⟨⟨0,0,0,0,W,aa E,rfl⟩,?_⟩
         exact((((aa h).setCell aD _).setCell aD _).setCell aD _).setCell aD _
        have bk:([109,97,114,107]==t.data.toList)=false:=im _ _ aN
        have al:Pp.layerL t.data.toList=-1:=by simp[Pp.layerL,aA,aF,aG,aN]
        have E:Hid (parseL s.data.toList=((0,0,0,0),2)):=by
         have be:keyErr (Pp.layerL t.data.toList) (Pp.valL F.data.toList) (Pp.valL X.data.toList) (Pp.valL I.data.toList)=2:=by rw[al]; exact dF _ _ _ _ (Or.inl (by decide))
         show parseL s.data.toList=_
         rw[eh _ _ _ _ _ U (by rw[be]; decide),be]
        clear U al O P S aA aF aG aN
        go_wp2_with fail
        refine(da t 97 122 8 _ _ _ _ am rfl rfl rfl).mono ?_;rintro e D ⟨rfl,rfl⟩;rw[dw,aa ac]
        go_wp2_with fail
        refine(aJ F _ ap).mono ?_;rintro e D ⟨rfl,rfl⟩;rw[aa ab]
        go_wp2_with fail
        refine(aJ X _ an).mono ?_;rintro e D ⟨rfl,rfl⟩;rw[aa Y]
        go_wp2_with fail
        refine(aJ I _ ao).mono ?_;rintro e D ⟨rfl,rfl⟩;rw[aa Z];clear aS aT aU aV ab Y Z ac aL am ap an ao
        go_wp2
        refine wp_loop_rounds 5 ?_;rw[zw]
        go_wp2_with fail
        refine(lX _).mono ?_;rintro e L ⟨rfl,H⟩
        have ak:g<L.heap.size:=by have:=H.size; omega
        have ai:L.cell? ⟨g,1,none⟩=some (.string t):=(H.cell (p:=⟨g,1,none⟩) B).trans C;have ay:=(aa u).on H;clear b c d f n o q r i j k m wl h u C B H;obtain⟨b,c,d,f,n,o,q,r,i,j,k,m,wl,a⟩:=ay;have u:Hid (RB w L):=ae ⟨b,c,d,f,n,o,q,r,i,j,k,m,wl,a⟩;have h:=ae a;have C:=ai;have B:=ak;clear a ai ak
        go_wp2_with fail
        rw[zw]
        go_wp2_with fail
        refine(oV _).mono ?_;rintro e V ⟨rfl,T⟩
        have au:g<V.heap.size:=by have:=T.size; omega
        have ar:V.cell? ⟨g,1,none⟩=some (.string t):=(T.cell (p:=⟨g,1,none⟩) B).trans C;have aI:=(aa u).on T;clear b c d f n o q r i j k m wl h u C B T;obtain⟨b,c,d,f,n,o,q,r,i,j,k,m,wl,a⟩:=aI;have u:Hid (RB w V):=ae ⟨b,c,d,f,n,o,q,r,i,j,k,m,wl,a⟩;have h:=ae a;have C:=ar;have B:=au;clear a ar au
        go_wp2_with fail
        rw[zw]
        go_wp2_with fail
        refine(name_2 _).mono ?_;rintro e af ⟨rfl,aj⟩
        have aC:g<af.heap.size:=by have:=aj.size; omega
        have aB:af.cell? ⟨g,1,none⟩=some (.string t):=(aj.cell (p:=⟨g,1,none⟩) B).trans C;have aO:=(aa u).on aj;clear b c d f n o q r i j k m wl h u C B aj;obtain⟨b,c,d,f,n,o,q,r,i,j,k,m,wl,a⟩:=aO;have u:Hid (RB w af):=ae ⟨b,c,d,f,n,o,q,r,i,j,k,m,wl,a⟩;have h:=ae a;have C:=aB;have B:=aC;clear a aB aC
        go_wp2_with fail
        rw[zw]
        go_wp2_with fail
        refine(name_3 _).mono ?_;rintro e aw ⟨rfl,az⟩
        have aQ:g<aw.heap.size:=by have:=az.size; omega
        have aP:aw.cell? ⟨g,1,none⟩=some (.string t):=(az.cell (p:=⟨g,1,none⟩) B).trans C;have aY:=(aa u).on az;clear b c d f n o q r i j k m wl h u C B az;obtain⟨b,c,d,f,n,o,q,r,i,j,k,m,wl,a⟩:=aY;have u:Hid (RB w aw):=ae ⟨b,c,d,f,n,o,q,r,i,j,k,m,wl,a⟩;have h:=ae a;have C:=aP;have B:=aQ;clear a aP aQ
        go_wp2_with fail
        rw[zw]
        go_wp2_with fail
        refine zL (v:=.tuple #[.agg #[(),(),(),()],(2:Int)]) (by simp[results,results84,go_sem,b,c,d,f]) rfl ⟨⟨0,0,0,0,2,aa E,rfl⟩,?_⟩
        exact((((aa h).setCell aD _).setCell aD _).setCell aD _).setCell aD _
 have aX:((l.length:Int) != 5)=true:=by rw[bne_iff_ne]; omega
 have E:Hid (parseL s.data.toList=((0,0,0,0),1)):=by
  refine ae (cQ _ ?_);rw[aa U,zK];intro e;have:=((Pp.refOk_iff _).1 e).1.1;rw[zY] at this;exact a2 this
 clear U a2 aH;obtain⟨b,c,d,f,n,o,q,r,i,j,k,m,wl,a⟩:=a3;have h:=ae a;clear a
 go_wp2_with fail
 refine zL (v:=.tuple #[.agg #[(),(),(),()],(1:Int)]) (by simp[results,results84,go_sem,b,c,d,f]) rfl ⟨⟨0,0,0,0,1,aa E,rfl⟩,?_⟩
 exact((((aa h).setCell aD _).setCell aD _).setCell aD _).setCell aD _
end Dw
end Go.Proofs.YtpabpniaekldeaaGreatDoor
namespace Go.Proofs
open Go.Shelf
def Tryz.laysM171_ren:Go.Shelf.Ren:=⟨fun|171=>180|243=>195|246=>198|283=>199|284=>200|285=>201|286=>202|129=>204|317=>203|318=>205|319=>206|320=>207|337=>208|338=>209|n=>n,fun|3=>3|9=>9|2=>2|4=>4|171=>246|0=>0|53=>247|37=>220|5=>5|173=>250|212=>253|51=>254|20=>20|213=>255|46=>256|232=>259|233=>260|n=>n,fun|17=>1|18=>2|19=>3|n=>n⟩
theorem Tryz.laysM171:Go.Proofs.LaysM.n171 prog Tryz.laysM171_ren:={
 mixed:=by kernel_rfl
 f129:=func204.trans (congrArg some (by kernel_rfl))
 f171:=func180.trans (congrArg some (by kernel_rfl))
 f243:=func195.trans (congrArg some (by kernel_rfl))
 f246:=func198.trans (congrArg some (by kernel_rfl))
 f283:=func199.trans (congrArg some (by kernel_rfl))
 f284:=func200.trans (congrArg some (by kernel_rfl))
 f285:=func201.trans (congrArg some (by kernel_rfl))
 f286:=func202.trans (congrArg some (by kernel_rfl))
 f317:=func203.trans (congrArg some (by kernel_rfl))
 f318:=func205.trans (congrArg some (by kernel_rfl))
 f319:=func206.trans (congrArg some (by kernel_rfl))
 f320:=func207.trans (congrArg some (by kernel_rfl))
 f337:=func208.trans (congrArg some (by kernel_rfl))
 f338:=func209.trans (congrArg some (by kernel_rfl))
 t0:=underlying0
 a0:=Tryz.isAgg0
 z0:=Tryz.sizeOf0
 v0:=Tryz.zeroValue0
 t2:=underlying2
 a2:=Tryz.isAgg2
 z2:=Tryz.sizeOf2
 v2:=Tryz.zeroValue2
 t3:=underlying3
 a3:=Tryz.isAgg3
 z3:=Tryz.sizeOf3
 v3:=Tryz.zeroValue3
 t4:=underlying4
 a4:=Tryz.isAgg4
 z4:=Tryz.sizeOf4
 v4:=Tryz.zeroValue4
 t5:=underlying5
 a5:=Tryz.isAgg5
 z5:=Tryz.sizeOf5
 v5:=Tryz.zeroValue5
 t9:=underlying9
 a9:=Tryz.isAgg9
 z9:=Tryz.sizeOf9
 v9:=Tryz.zeroValue9
 t20:=underlying20
 a20:=Tryz.isAgg20
 z20:=Tryz.sizeOf20
 v20:=Tryz.zeroValue20
 t37:=underlying220
 a37:=Tryz.isAgg220
 z37:=Tryz.sizeOf220
 v37:=Tryz.zeroValue220
 t46:=underlying256
 a46:=Tryz.isAgg256
 z46:=Tryz.sizeOf256
 v46:=Tryz.zeroValue256
 t51:=underlying254
 a51:=Tryz.isAgg254
 z51:=Tryz.sizeOf254
 v51:=Tryz.zeroValue254
 t53:=underlying247
 a53:=Tryz.isAgg247
 z53:=Tryz.sizeOf247
 v53:=Tryz.zeroValue247
 t171:=underlying246
 a171:=Tryz.isAgg246
 z171:=Tryz.sizeOf246
 v171:=Tryz.zeroValue246
 t173:=underlying250
 a173:=Tryz.isAgg250
 z173:=Tryz.sizeOf250
 v173:=Tryz.zeroValue250
 t212:=underlying253
 a212:=Tryz.isAgg253
 z212:=Tryz.sizeOf253
 v212:=Tryz.zeroValue253
 t213:=underlying255
 a213:=Tryz.isAgg255
 z213:=Tryz.sizeOf255
 t232:=underlying259
 a232:=Tryz.isAgg259
 z232:=Tryz.sizeOf259
 v232:=Tryz.zeroValue259
 t233:=underlying260
 a233:=Tryz.isAgg260
 z233:=Tryz.sizeOf260
 v233:=Tryz.zeroValue260
 g17:=by kernel_rfl
 g18:=by kernel_rfl
 g19:=by kernel_rfl
 i0:=by kernel_rfl
 i2:=by kernel_rfl
 i3:=by kernel_rfl
 i4:=by kernel_rfl
 i5:=by kernel_rfl
 i9:=by kernel_rfl
 i20:=by kernel_rfl
 i37:=by kernel_rfl
 i46:=by kernel_rfl
 i51:=by kernel_rfl
 i53:=by kernel_rfl
 i171:=by kernel_rfl
 i173:=by kernel_rfl
 i212:=by kernel_rfl
 i232:=by kernel_rfl
 i233:=by kernel_rfl
 m17:=by kernel_rfl
 m18:=by kernel_rfl
 m19:=by kernel_rfl }
theorem Tryz.itoa_any (n : Int)(b : -9223372036854775808 ≤ n)(c : n ≤ 9223372036854775807)(w : World)(a : Lib.TabIs Tryz.prog w "internal/strconv.uint64pow10" .u64 Lib.pow10Tab):
  Calls prog 180 #[n] w fun e w'=>e=.returned (.string ⟨(Lib.itoa n).toArray⟩)/\∃k d,w'=Sort.grow (w.drewN k) d:=Any.strconv_Itoa Tryz.laysM171 n b c w a
end Go.Proofs
namespace Go.Proofs.YtpabpniaekldeaaGreatDoor
namespace Dw
theorem refParse_any (s:ByteArray)(w:World)(a:s.size<=1048576):
  Calls prog 84 #[s] w fun e w'=>(∃l z x y er:Int,parseL s.data.toList=((l,z,x,y),er)/\e=.returned (.tuple #[.agg #[l,z,x,y],er]))/\Below w.heap.size w w':=by
 by_cases h:s.size<5\/¬s.data.toList.drop (s.size-5)=Pp.dotTile
 ·exact lK s w a h
 exact mR s w a (by omega) (Classical.not_not.1 (fun e=>h (Or.inr e)))
def printL (l z x y:Nat):List UInt8:=47::(Pp.names l++47::(Lib.decDigits z++47::(Lib.decDigits x++47::(Lib.decDigits y++Pp.dotTile))))
abbrev Tab (w : World): Prop := Lib.TabBelow Tryz.prog w.heap.size w "internal/strconv.uint64pow10" .u64 Lib.pow10Tab
theorem dig_size (n:Nat):(⟨(Lib.decDigits n).toArray⟩:ByteArray).size<=n+1:=dec_len n
theorem ll (n:Nat)(w a:World)(d:n<=1000000000)(b:Tab w)(c:Below w.heap.size w a):
  Calls prog 180 #[n] a fun e w'=>(∃D:ByteArray,e=.returned (.string D)/\D.data.toList=Lib.decDigits n/\D.size<=1000000001)/\Below a.heap.size a w':=by
 refine(Tryz.itoa_any n (by omega) (by omega) a (b a c)).mono ?_
 rintro e w' ⟨rfl,k,os,rfl⟩;refine⟨⟨_,rfl,?_,?_⟩,Lib.below_grow _ _ aD k os⟩
 ·rw[Lib.itoa_nonneg]
 rw[Lib.itoa_nonneg];have:=dig_size n;omega
theorem name_in (l:Nat)(e:l<4)(w:World)(h:NamesIn w):∃M:ByteArray,w.cell? ⟨0,l,none⟩=some (.string M)/\M.data.toList=Pp.names l/\M.size<=10:=by
 obtain⟨a,b,c,d⟩:=h
 match l,e with
 | 0,_=>exact⟨_,a,rfl,by decide⟩
 | 1,_=>exact⟨_,b,rfl,by decide⟩
 | 2,_=>exact⟨_,c,rfl,by decide⟩
 | 3,_=>exact⟨_,d,rfl,by decide⟩
theorem size_lit (a:Array UInt8):(⟨a⟩:ByteArray).size=a.size:=rfl
structure KB (w:World)(l z x y:Nat)(W:World):Prop where
 kl:W.cell? ⟨w.heap.size,0,none⟩=some (.int .i64 l)
 kz:W.cell? ⟨w.heap.size,1,none⟩=some (.int .i64 z)
 kx:W.cell? ⟨w.heap.size,2,none⟩=some (.int .i64 x)
 ky:W.cell? ⟨w.heap.size,3,none⟩=some (.int .i64 y)
 wl:w.heap.size<W.heap.size
 bel:Below w.heap.size w W
theorem KB.start (w:World)(l z x y:Nat):KB w l z x y (w.alloc (.cells #[l,z,x,y] 39)):=by
 refine⟨?_,?_,?_,?_,?_,?_⟩
 all_goals first
  | exact bu.alloc aD _
  | simp[go_sem]
theorem KB.on {w b c:World}{l z x y:Nat}(h:KB w l z x y b)(a:Below b.heap.size b c):KB w l z x y c:=by
 have d:=a.size;have hw:=h.wl
 exact⟨(a.cell (p:=⟨w.heap.size,0,none⟩) hw).trans h.kl,(a.cell (p:=⟨w.heap.size,1,none⟩) hw).trans h.kz,(a.cell (p:=⟨w.heap.size,2,none⟩) hw).trans h.kx,(a.cell (p:=⟨w.heap.size,3,none⟩) hw).trans h.ky,by omega,h.bel.trans (a.mono (by omega))⟩
theorem print_yes (l z x y:Nat)(w:World)(K:l<4)(U:z<=1000000)(T:x<=10000000)(hy:y<=10000000)(h:keyErr l z x y=0)(v:Nm w)(A:Tab w):
  Calls prog 149 #[.agg #[l,z,x,y]] w fun e w'=>(∃P:ByteArray,e=.returned (.tuple #[P,()])/\P.data.toList=printL l z x y/\P.size<=5000000000)/\Below w.heap.size w w':=by
 have i:=ae A;have I:=ae v;have G:=ae h;clear A v h
 have O:(l:Int)<4:=by omega
 go_enter func149,ntmps149
 go_wp2_with fail
 refine(bV l z x y _).mono ?_;rintro e w1 ⟨rfl,B⟩;rw[aa G];have t:=(KB.start w l z x y).on B;have a:=ae t;obtain⟨c,g,d,f,wl,b⟩:=t;obtain⟨M,J,u,V⟩:=name_in l K w1 ((aa I).on b).2;have H:=ae u;clear B b u
 go_wp2_with fail
 refine(ll z w w1 (by omega) (aa i) (aa a).bel).mono ?_
 rintro e L ⟨⟨S,rfl,m,Y⟩,q⟩;have F:=ae m;have n:=(aa a).on q;clear c g d f wl a q m J;have a:=ae n;obtain⟨c,g,d,f,wl,b⟩:=n;clear b
 go_wp2_with fail
 refine(ll x w L (by omega) (aa i) (aa a).bel).mono ?_
 rintro e N ⟨⟨Q,rfl,j,W⟩,r⟩;have D:=ae j;have o:=(aa a).on r;clear c g d f wl a r j;have a:=ae o;obtain⟨c,g,d,f,wl,b⟩:=o;clear b
 go_wp2_with fail
 refine(ll y w N (by omega) (aa i) (aa a).bel).mono ?_
 rintro e Z ⟨⟨R,rfl,k,X⟩,s⟩;have E:=ae k;have p:=(aa a).on s;clear c g d f wl a s k;have C:=ae p.bel;clear p
 go_wp2
 go_ret2
 refine⟨⟨_,rfl,?_,?_⟩,aa C⟩
 ·simp[aa H,aa F,aa D,aa E,printL,Pp.dotTile]
 simp only[ByteArray.size_append,size_lit];simp;omega
theorem iy (n:Nat)(a:World)(b:n<=1000000000):
  Calls prog 173 #[n] a fun e w'=>(∃D:ByteArray,e=.returned (.string D)/\D.data.toList=Lib.decDigits n/\D.size<=1000000001)/\Below a.heap.size a w':=by
 refine(digits_any n a b).mono ?_;rintro e w' ⟨rfl,hb⟩;have:=dig_size n
 exact⟨⟨_,rfl,rfl,by omega⟩,hb⟩
theorem names_at (l:Nat)(b:l<4)(a:World):
  Calls prog 137 #[l] a fun e w'=>(∃M:ByteArray,e=.returned (.string M)/\M.data.toList=Pp.names l/\M.size<=10)/\Below a.heap.size a w':=by
 refine(gV l b a).mono ?_;rintro e w' ⟨rfl,hb⟩;refine⟨⟨_,rfl,rfl,?_⟩,hb⟩
 match l,b with
 | 0,_=>decide
 | 1,_=>decide
 | 2,_=>decide
 | 3,_=>decide
theorem oH (l z x y:Nat)(w:World)(T:l<4)(ab:z<=1000000)(Z:x<=10000000)(hy:y<=10000000)(h:keyErr l z x y=0):
  Calls prog 150 #[.agg #[l,z,x,y]] w fun e w'=>(∃P:ByteArray,e=.returned (.tuple #[P,()])/\P.data.toList=printL l z x y/\P.size<=5000000000)/\Below w.heap.size w w':=by
 have Q:=ae h;clear h;go_enter func150,ntmps150
 go_wp2_with fail
 refine(bq l z x y _).mono ?_;rintro e w1 ⟨rfl,H⟩;rw[aa Q];have F:=(KB.start w l z x y).on H;have d:=ae F;obtain⟨k,o,m,n,wl,c⟩:=F;clear H c
 go_wp2_with fail
 refine(names_at l T _).mono ?_;rintro e a ⟨⟨M,rfl,G,ac⟩,v⟩;have R:=ae G;have u:=(aa d).on v;clear k o m n wl d v G;have d:=ae u;obtain⟨k,o,m,n,wl,c⟩:=u;have q:=ae c;clear c
 go_wp2
 refine wp_loop_rounds 4 ?_;rw[zw];clear k o m n d
 go_wp2_with fail
 refine(iy z _ (by omega)).mono ?_
 rintro e f ⟨⟨Y,rfl,t,ag⟩,b⟩;have N:=ae t
 have S:f.cell? ⟨a.heap.size,1,none⟩=some (.int .i64 x):=(b.cell (p:=⟨a.heap.size,1,none⟩) (by simp)).trans (by simp[go_sem])
 have E:f.cell? ⟨a.heap.size,2,none⟩=some (.int .i64 y):=(b.cell (p:=⟨a.heap.size,2,none⟩) (by simp)).trans (by simp[go_sem])
 have U:a.heap.size<f.heap.size:=by have:=b.size; simp at this; omega
 have B:Below w.heap.size w f:=((aa q).alloc (by omega) _).trans (b.mono (by simp; omega))
 have g:=ae B;clear b B t q
 go_wp2_with fail
 rw[zw]
 go_wp2_with fail
 refine(iy x _ (by omega)).mono ?_
 rintro e I ⟨⟨W,rfl,r,ad⟩,j⟩;have K:=ae r;have O:I.cell? ⟨a.heap.size,2,none⟩=some (.int .i64 y):=(j.cell (p:=⟨a.heap.size,2,none⟩) U).trans E;have C:Below w.heap.size w I:=(aa g).trans (j.mono (aa g).size);have i:=ae C;clear j C r g S E
 go_wp2_with fail
 rw[zw]
 go_wp2_with fail
 refine(iy y _ (by omega)).mono ?_
 rintro e V ⟨⟨X,rfl,s,af⟩,A⟩;have L:=ae s;have D:Below w.heap.size w V:=(aa i).trans (A.mono (aa i).size);have J:=ae D;clear A D s i O
 go_wp2_with fail
 rw[zw]
 go_wp2
 go_ret2
 refine⟨⟨_,rfl,?_,?_⟩,aa J⟩
 ·simp[aa R,aa N,aa K,aa L,printL,Pp.dotTile]
 simp only[ByteArray.size_append,size_lit];simp;omega
theorem tab_on {w b:World}(d:Tab w)(a:Below w.heap.size w b):Tab b:=fun w' c=>d w' (a.trans (c.mono a.size))
theorem tag_yes (l z x y v:Nat)(w:World)(s:l<4)(u:z<=1000000)(t:x<=10000000)(hy:y<=10000000)(h:keyErr l z x y=0)(i:Nm w)(k:Tab w)(B:v<=100):
  Calls prog 151 #[.agg #[l,z,x,y],v] w fun e w'=>(∃T:ByteArray,e=.returned (.tuple #[T,()])/\T.data.toList=printL l z x y++64::Lib.decDigits v)/\Below w.heap.size w w':=by
 have p:=ae h;clear h;have q:=ae i;have d:=ae k;clear i k;go_enter func151,ntmps151
 go_wp2_with fail
 refine(print_yes l z x y _ s u t hy (aa p) ((aa q).on (aj _ _)) (tab_on (aa d) (aj _ _))).mono ?_;rintro e w1 ⟨⟨P,rfl,j,E⟩,m⟩
 have f:Below w.heap.size w w1:=(bu.alloc aD _).trans (m.mono (by simp))
 have a:=ae f;have r:=ae j;clear m f j
 go_wp2_with fail
 refine(ll v w w1 (by omega) (aa d) (aa a)).mono ?_
 rintro e A ⟨⟨D,rfl,g,C⟩,c⟩;have b:Below w.heap.size w A:=(aa a).trans (c.mono (aa a).size);have n:=ae b;have o:=ae g;clear c b g
 go_wp2
 go_ret2
 refine⟨⟨_,rfl,?_⟩,aa n⟩;simp[aa r,aa o]
theorem refTag_yes (l z x y v:Nat)(w:World)(o:l<4)(q:z<=1000000)(p:x<=10000000)(hy:y<=10000000)(h:keyErr l z x y=0)(s:v<=100):
  Calls prog 139 #[.agg #[l,z,x,y],v] w fun e w'=>(∃T:ByteArray,e=.returned (.tuple #[T,()])/\T.data.toList=printL l z x y++64::Lib.decDigits v)/\Below w.heap.size w w':=by
 have m:=ae h;clear h;go_enter func139,ntmps139
 go_wp2_with fail
 refine(oH l z x y _ o q p hy (aa m)).mono ?_;rintro e w1 ⟨⟨P,rfl,g,u⟩,i⟩
 have d:Below w.heap.size w w1:=(bu.alloc aD _).trans (i.mono (by simp))
 have c:=ae d;have n:=ae g;clear i d g
 go_wp2_with fail
 refine(iy v _ (by omega)).mono ?_
 rintro e r ⟨⟨D,rfl,f,t⟩,b⟩;have a:Below w.heap.size w r:=(aa c).trans (b.mono (aa c).size);have j:=ae a;have k:=ae f;clear b a f
 go_wp2
 go_ret2
 refine⟨⟨_,rfl,?_⟩,aa j⟩;simp[aa n,aa k]
end Dw
def Glb (w : World): Prop := 4 ≤ w.heap.size ∧ ∀ W : World, (∀ i, i < 4 → W.heap[i]? = w.heap[i]?) → Dw.NamesIn W ∧ Lib.TabIs Tryz.prog W "internal/strconv.uint64pow10" .u64 Lib.pow10Tab
theorem Glb.nm {w:World}(h:Glb w):Dw.Nm w:=⟨by have:=h.1; omega,(h.2 w fun _ _=>rfl).1⟩
theorem Glb.on {w w':World}(h:Glb w)(a:Below w.heap.size w w'):Glb w':=⟨by have:=a.size; have:=h.1; omega,fun c b=>h.2 c fun i hi=>(b i hi).trans (a.block i (by have:=h.1; omega))⟩
theorem Glb.tab {w:World}(h:Glb w):Dw.Tab w:=fun w' a=>((h.on a).2 w' fun _ _=>rfl).2
theorem Glb.frm {w w':World}{S:Nat->Prop}(h:Glb w)(a:aE S w w')(b:∀k,S k->4<=k):Glb w':=⟨by have:=a.size; have:=h.1; omega,fun d c=>h.2 d fun i hi=>(c i hi).trans (a.block i (by have:=h.1; omega) (fun q=>by have:=b i q; omega))⟩
theorem dy.perr {k:K4}(h:dy k):keyErr k.l k.z k.x k.y=0:=by
 have a:=h.l;have b:=h.z;have c:=h.x;have d:=h.y;unfold keyErr
 rw[zK (by omega),zK (by omega),zK (by omega)]
theorem pow22 {z:Int}(h:z<=22):(2:Int) ^ z.toNat<=4194304:=by
 have a:z.toNat<=22:=by omega
 have c:(2:Nat) ^ z.toNat<=2 ^ 22:=Nat.pow_le_pow_right (by decide) a
 have b:((2:Int) ^ z.toNat)=((2 ^ z.toNat:Nat):Int):=by simp
 rw[b];omega
theorem dy.small {k:K4}(h:dy k):bP k:=by
 have a:=pow22 h.z.2;have b:=h.x;have c:=h.y
 exact⟨by omega,by omega⟩
def du (k:K4)(s:Int):ByteArray:=⟨(Dw.printL k.l.toNat k.z.toNat k.x.toNat k.y.toNat++64::Lib.decDigits s.toNat).toArray⟩
theorem ba_of (T:ByteArray)(l:List UInt8)(h:T.data.toList=l):T=⟨l.toArray⟩:=by
 subst h; cases T; simp
theorem Tag_any (l z x y s:Int)(w:World)(a:dy ⟨l,z,x,y⟩)(p:0<=s/\s<=100)(h:Glb w):
  Calls prog 151 #[.agg #[l,z,x,y],s] w fun e w'=>e=.returned (.tuple #[.string (du ⟨l,z,x,y⟩ s),()])/\Below w.heap.size w w':=by
 have n:=a.small;obtain⟨⟨k,q⟩,⟨m,r⟩⟩:=n;have i:=a.l;have j:=a.z;have b:=a.perr;dsimp only at k q m r i j b;have c:(l.toNat:Int)=l:=y4 i.1;have d:(z.toNat:Int)=z:=y4 j.1;have f:(x.toNat:Int)=x:=y4 k;have g:(y.toNat:Int)=y:=y4 m;have o:(s.toNat:Int)=s:=y4 p.1
 have T:=Dw.tag_yes l.toNat z.toNat x.toNat y.toNat s.toNat w (by omega) (by omega) (by omega) (by omega) (by rw[c,d,f,g]; exact b) h.nm h.tab (by omega)
 rw[c,d,f,g,o] at T;refine T.mono ?_;rintro e w' ⟨⟨B,rfl,hB⟩,hb⟩
 exact⟨by rw[ba_of B _ hB]; rfl,hb⟩
theorem stK_in {v:Int}{LS:List Ft}(a:0<=v)(k:K4):0<=eA v k LS/\eA v k LS<=v:=by
 unfold eA;exact⟨stp_nn _ _ _ _ _ _ _,ox a _ fun i _=>lc_le a⟩
theorem nr (fb:Nat)(X:FV)(ver v:Int)(sl pv:Value)(LS N:List Ft)(l z x y:Int)(w:World)(i:aq w fb X)(C:dD w X.sb 0 ver sl pv LS N)(O:LS.length<=1000)(j:dy ⟨l,z,x,y⟩)(D:0<=v/\v<=ver)(P:ver<=100)(B:Glb w):
  Calls prog 129 #[some fb,v,.agg #[l,z,x,y]] w fun e w'=>e=.returned (.tuple #[.string (du ⟨l,z,x,y⟩ (eA v ⟨l,z,x,y⟩ LS)),()])/\Below w.heap.size w w':=by
 have F:=an i;have A:=j.err;have b:=(zV w.heap.size w).alloc aD (.cells #[l,z,x,y] 39);have g:=zZ w (.cells #[l,z,x,y] 39)
 have Q:(w.alloc (.cells #[l,z,x,y] 39)).heap.size=w.heap.size+1:=by simp
 have s:=(b.cell (p:=⟨fb,6,none⟩) F).trans i.cells.2.2.2.2.2.2.1;have o:=C.on b;have q:=stK_in (LS:=LS) D.1 ⟨l,z,x,y⟩
 have t:∀a,Below (w.alloc (.cells #[l,z,x,y] 39)).heap.size (w.alloc (.cells #[l,z,x,y] 39)) a->a.cell? ⟨fb,6,none⟩=some (.pointer (some ⟨X.sb,0,none⟩)):=fun a h=>(h.cell (p:=⟨fb,6,none⟩) (by show fb<_; omega)).trans s
 have u:∀a,Below (w.alloc (.cells #[l,z,x,y] 39)).heap.size (w.alloc (.cells #[l,z,x,y] 39)) a->a.rangeAt w.heap.size 0 (#[l,z,x,y]:Array Value).toList:=fun a h=>ao (ag g h);have f:∀a,Below (w.alloc (.cells #[l,z,x,y] 39)).heap.size (w.alloc (.cells #[l,z,x,y] 39)) a->Calls prog 38 #[some X.sb,v,.agg #[l,z,x,y]] a fun e w'=>e=.returned (.tuple #[.int .i64 (eA v ⟨l,z,x,y⟩ LS),()])/\Below a.heap.size a w':=fun a h=>nZ X.sb 0 ver sl pv LS v l z x y a (o.on h).sto O A D;have M:=ae B;have H:=ae b;have L:=ae g;have J:=ae j;clear i C o b A j B;generalize eA v ⟨l,z,x,y⟩ LS=S at f q ⊢;go_enter func129,ntmps129
 go_wp2_with fail
 refine aM (by kernel_rfl) (by kernel_rfl) ?_
 refine eI fb 0 ?_;refine bd fb 0 ?_;refine bd fb 6 ?_
 refine bd X.sb 0 ?_ (h:=fun w' K=>by simp[go_sem,t w' K])
 refine bD (.int .i64 v) ?_;refine vK w.heap.size 0 u ?_
 refine eB rfl 38 (#[.pointer (some ⟨X.sb,0,none⟩),v,.agg #[l,z,x,y]]) (fun _=>by simp[go_sem]) (.tuple #[S,()]) (f) ?_
 simp only[qZ];refine bD (.tuple #[S,()]) ?_;refine bH (.int .i64 S) ?_;refine bH (.int .i64 0) ?_;refine vA (.int .i64 S) ?_;refine vA (.int .i64 0) ?_;refine zq ?_;intro E d;have m:=ag (aa L) d
 have c:=(aa H).trans (d.mono (by simp))
 have r:=Tag_any l z x y S E (aa J) (by omega) ((aa M).on c)
 have G:E.rangeAt w.heap.size 0 (#[l,z,x,y]:Array Value).toList:=ao m;have k:=ae c;clear d t u f g s m c q
 go_wp2_with (refine vM G rfl _ rfl rfl ?_)
 refine r.mono ?_;rintro e R ⟨rfl,n⟩;have I:=ae ((aa k).trans (n.mono (aa k).size));clear n r
 go_wp2
 go_ret2
 exact⟨rfl,aa I⟩
def kk (l z x y:Int)(j i:Nat):List K4:=((List.range j).flatMap fun(q:Nat)=>[(⟨l,z,x,y+(q:Int)⟩:K4),⟨l,z,x+1,y+(q:Int)⟩])++(List.range i).map fun(p:Nat)=>(⟨l,z,x+(p:Int),y+(j:Int)⟩:K4)
theorem kk_next (l z x y:Int)(j i:Nat):kk l z x y j (i+1)=kk l z x y j i++[⟨l,z,x+i,y+j⟩]:=by
 unfold kk;rw[y5,yV,<-yM];rfl
theorem kk_line (l z x y:Int)(j:Nat):kk l z x y (j+1) 0=kk l z x y j 2:=by
 unfold kk;rw[y5,List.flatMap_append];simp[y5]
theorem kk_len (l z x y:Int)(j i:Nat)(a:j<=2)(hi:i<=2):(kk l z x y j i).length<=6:=by
 unfold kk;rw[zH,zY,List.length_range,List.length_flatMap]
 have:((List.range j).map fun(q:Nat)=>[(⟨l,z,x,y+(q:Int)⟩:K4),⟨l,z,x+1,y+(q:Int)⟩].length).sum=2*j:=by
  have:j=0\/j=1\/j=2:=by omega
  rcases this with rfl|rfl|rfl<;>rfl
 rw[this];omega
theorem keysOf_any (l z x y:Int)(w:World)(au:0<=x/\x<=4194304)(hy:0<=y/\y<=4194304):
  Calls prog 174 #[.agg #[l,z,x,y]] w fun e w'=>(∃v,e=.returned v/\ah bT 39 w' v (K4.keys ⟨l,z,x,y⟩)/\∀g,v.ownBlock=some g->w.heap.size<=g)/\Below w.heap.size w w':=by
 have n:=(zV w.heap.size w).alloc aD (.cells #[l,z,x,y] 39);have a:=zZ w (.cells #[l,z,x,y] 39)
 have W:(w.alloc (.cells #[l,z,x,y] 39)).heap.size=w.heap.size+1:=by simp
 by_cases o:z=0
 ·have k:=n.alloc (by simp) (.cells #[l,z,x,y] 39)
  have Y:Hid ((∃v,Ending.returned (.slice (some ⟨w.heap.size+1,0,none⟩) 1 1)=.returned v/\ah bT 39 ((w.alloc (.cells #[l,z,x,y] 39)).alloc (.cells #[l,z,x,y] 39)) v (K4.keys ⟨l,z,x,y⟩)/\∀g,v.ownBlock=some g->w.heap.size<=g)/\Below w.heap.size w ((w.alloc (.cells #[l,z,x,y] 39)).alloc (.cells #[l,z,x,y] 39))):=by
   refine⟨⟨_,rfl,?_,fun g f=>by simp[Value.ownBlock] at f; omega⟩,k⟩
   have h:=cr (R:=bT) (T:=39) (w.alloc (.cells #[l,z,x,y] 39)) [⟨l,z,x,y⟩] #[l,z,x,y] rfl (by simp[maxLen])
   rw[W] at h;unfold K4.keys;rw[zJ o];exact h
  subst o;clear n a k;go_enter func174,ntmps174
  go_wp2_with (refine cP _ _ (mt l 0 x y _ _ _ rfl rfl _) rfl ?_)
  go_ret;exact aa Y
 have D:K4.keys ⟨l,z,x,y⟩=kk l z x y 2 0:=by
  unfold K4.keys kk;rw[zK o];simp[y5]
 have K:=cr (R:=bT) (T:=39) (w.alloc (.cells #[l,z,x,y] 39)) [] #[] rfl (by simp)
 have k:=n.alloc (by simp) (.cells #[] 39)
 have E:=(zr (w.alloc (.cells #[l,z,x,y] 39)) (.cells #[] 39) (show w.heap.size<_ by simp)).trans a
 have Z:=ae K;have P:=ae k;have O:=ae E;rw[D]
 have ap:IntKind.i64.wrap (y+1)=y+1:=bG _ (by omega)
 have ao:IntKind.i64.wrap (x+1)=x+1:=bG _ (by omega)
 have aq:(z==0)=false:=by simp[o]
 clear K n k a E D;go_enter func174,ntmps174
 go_wp2
 go_loopw [3,4,5] (fun v C _ wr=>∃j:Nat,j<=2/\C=.int .i64 (y+j)/\ah bT 39 wr v (kk l z x y j 0)/\Hid (∀g,v.ownBlock=some g->w.heap.size+1<=g)/\wr.heap[w.heap.size]?=some (.cells #[l,z,x,y] 39)/\Below w.heap.size w wr) (fun _ C _ _=>(y+2-intOf C).toNat)
 ·exact⟨0,by omega,by simp,by simpa[kk] using aa Z,ae (fun g f=>by simp[Value.ownBlock] at f; omega),aa O,aa P⟩
 obtain⟨j,ai,rfl,c,G,a,d⟩:=hrel;have b:=af a;have ab:=(b 0).trans (show _=some (Value.int .i64 l) from rfl);have ac:=(b 1).trans (show _=some (Value.int .i64 z) from rfl);have ad:=(b 2).trans (show _=some (Value.int .i64 x) from rfl);have ar:=(b 3).trans (show _=some (Value.int .i64 y) from rfl);have J:=ae c;have X:=ae a;have I:=ae d;clear c a d b
 by_cases al:j<2
 ·have V:y+(j:Int)<=y+1:=by omega
  go_wp2
  go_loopw [3,5] (fun v B wr=>∃i:Nat,i<=2/\B=.int .i64 (x+i)/\ah bT 39 wr v (kk l z x y j i)/\Hid (∀g,v.ownBlock=some g->w.heap.size+1<=g)/\wr.heap[w.heap.size]?=some (.cells #[l,z,x,y] 39)/\Below w.heap.size w wr) (fun _ B _=>(x+2-intOf B).toNat)
  ·exact⟨0,by omega,by simp,aa J,G,aa X,aa I⟩
  obtain⟨i,hi,rfl,c,m,a,d⟩:=hrel;have b:=af a;have ab:=(b 0).trans (show _=some (Value.int .i64 l) from rfl);have ac:=(b 1).trans (show _=some (Value.int .i64 z) from rfl);have ad:=(b 2).trans (show _=some (Value.int .i64 x) from rfl);have N:=d.size
  by_cases ak:i<2
  ·have M:x+(i:Int)<=x+1:=by omega
   have am:IntKind.i64.wrap (x+(i:Int)+1)=x+((i+1:Nat):Int):=by rw[bG _ (by omega)]; omega
   have F:=aZ bT 39 wr ⟨l,z,x+i,y+j⟩ #[l,z,.int .i64 (x+i),.int .i64 (y+j)] rfl;have t:=(zV wr.heap.size wr).alloc aD (.cells #[l,z,.int .i64 (x+i),.int .i64 (y+j)] 39);have H:=c.on t
   obtain⟨av,aw,aj,u,A,L⟩:=apKey H F (by have:=kk_len l z x y j i ai hi; simp; omega)
   rw[<-kk_next] at u;have s:=ae u
   have r:=ae ((d.alloc N (.cells #[l,z,.int .i64 (x+i),.int .i64 (y+j)] 39)).grown A (by simp; omega) (fun g f=>by have:=aa m g f; omega))
   have p:=ae ((A.block w.heap.size (by have:=an a; simp; omega) (fun q=>by have:=aa m w.heap.size q.symm; omega)).trans (ag a t))
   have Q:=ae (bN (aa m) L (by have:=an a; simp; omega))
   clear c a d b F t H u A L
   go_wp2_with (first|refine cP _ _ (mt l z (x+i) (y+j) _ _ _ rfl rfl _) rfl ?_|(at_builtin; refine fS 127 aj rfl _ _ rfl rfl rfl rfl ?_))
   go_roundw
   ·exact⟨i+1,by omega,by go_num,aa s,aa Q,aa p,aa r⟩
   simp[intOf]; omega
  have S:i=2:=by omega
  subst S
  have M:¬x+((2:Nat):Int)<=x+1:=by omega
  rw[<-kk_line] at c;have s:=ae c;have p:=ae a;have r:=ae d;clear c a d b
  go_wp2
  go_roundw
  ·exact⟨j+1,by omega,by go_num,aa s,m,aa p,aa r⟩
  simp[intOf]; omega
 have U:j=2:=by omega
 subst U
 have V:¬y+((2:Nat):Int)<=y+1:=by omega
 go_wp2
 go_ret
 exact⟨⟨_,rfl,aa J,fun g f=>by have:=aa G g f; omega⟩,aa I⟩
namespace Pk
namespace Pt
def okPic (l:List UInt8):Bool:=decide (l.length=64/\∀c∈l,c.toNat<=15)
theorem okPic_iff (l:List UInt8):okPic l=true↔l.length=64/\∀c∈l,c.toNat<=15:=by simp[okPic]
def runByte (n:Nat)(c:UInt8):UInt8:=UInt8.ofNat (16*n+c.toNat)
def go (c:UInt8)(n:Nat):List UInt8->List UInt8
 | []=>[runByte n c]
 | x::r=>if x=c/\n<15 then go c (n+1) r else runByte n c::go x 0 r
def runs:List UInt8->List UInt8
 | []=>[]
 | x::r=>go x 0 r
def lead (c:UInt8):Nat->List UInt8->Nat
 | 0,_=>0
 | _+1,[]=>0
 | n+1,x::r=>if x=c then lead c n r+1 else 0
theorem lead_le (c:UInt8):∀(n:Nat) (l:List UInt8),lead c n l<=n/\lead c n l<=l.length
 | 0,_=>by simp[lead]
 | _+1,[]=>by simp[lead]
 | n+1,x::r=>by
  have h:=lead_le c n r;unfold lead
  split<;>simp<;>omega
theorem go_lead (c:UInt8):∀(b:List UInt8) (n a:Nat),n+a=15->go c n b=runByte (n+lead c a b) c::runs (b.drop (lead c a b))
 | [],n,a,h=>by cases a<;>simp[go,lead,runs]
 | x::b,n,a,h=>by
  cases a with
  | zero=>
   have d:¬n<15:=by omega
   simp[go,lead,runs,d]
  | succ a=>
   have d:n<15:=by omega
   by_cases e:x=c
   ·subst e
    have f:=go_lead x b (n+1) a (by omega)
    simp only[go,lead,d,and_self,if_true,f]
    rw[show n+1+lead x a b=n+(lead x a b+1) from by omega]
    simp
   simp[go,lead,runs,e]
theorem runs_cons (x:UInt8)(r:List UInt8):runs (x::r)=runByte (lead x 15 r) x::runs (r.drop (lead x 15 r)):=by
 have:=go_lead x r 0 15 rfl;simpa[runs] using this
def ofRun (b:UInt8):List UInt8:=List.replicate (b.toNat / 16+1) (b%16)
def km (l:List UInt8):List UInt8:=l.flatMap ofRun
theorem iO (n:Nat)(c:UInt8)(f:n<=15)(e:c.toNat<=15):ofRun (runByte n c)=List.replicate (n+1) c:=by
 unfold ofRun runByte
 have a:(UInt8.ofNat (16*n+c.toNat)).toNat=16*n+c.toNat:=by simp; omega
 rw[a]
 have b:(16*n+c.toNat) / 16=n:=by omega
 have d:UInt8.ofNat (16*n+c.toNat)%16=c:=by
  apply UInt8.toNat_inj.1
  simp only[UInt8.toNat_mod,a];have:(16:UInt8).toNat=16:=rfl
  rw[this]; omega
 rw[b,d]
theorem kj (c:UInt8):∀(a:List UInt8) (n:Nat),n<=15->c.toNat<=15->(∀x∈a,x.toNat<=15)->km (go c n a)=List.replicate (n+1) c++a
 | [],n,d,b,_=>by simp[go,km,iO n c d b]
 | x::a,n,d,b,h=>by
  unfold go
  by_cases e:x=c/\n<15
  ·rw[zJ e]
   obtain⟨rfl,g⟩:=e
   rw[kj x a (n+1) (by omega) b (fun y hy=>h y (by simp[hy]))]
   rw[List.replicate_succ' (n:=n+1)];simp
  rw[zK e]
  have f:=kj x a 0 (by omega) (h x (by simp)) (fun y hy=>h y (by simp[hy]))
  simp only[km,yv] at f ⊢;rw[f,iO n c d b];simp
theorem spread_runs (l:List UInt8)(h:∀x∈l,x.toNat<=15):km (runs l)=l:=by
 cases l with
 | nil=>rfl
 | cons x r=>
  have:=kj x r 0 (by omega) (h x (by simp)) (fun y hy=>h y (by simp[hy]))
  simpa[runs] using this
def wt (l:List UInt8):Nat:=(km l).length
theorem wt_nil:wt []=0:=rfl
theorem wt_cons (b:UInt8)(l:List UInt8):wt (b::l)=b.toNat / 16+1+wt l:=by simp[wt,km,ofRun]
theorem wt_le:∀l:List UInt8,l.length<=wt l/\wt l<=16*l.length
 | []=>by simp[wt_nil]
 | b::l=>by
  have:=wt_le l;have a:b.toNat<256:=b.toNat_lt;rw[wt_cons];simp only[zS];omega
def sum1:List UInt8->Nat
 | []=>0
 | c::r=>c.toNat+sum1 r
def sum2 (n:Int):List UInt8->Int
 | []=>0
 | c::r=>n*c.toNat+sum2 (n-1) r
theorem sum1_append:∀a b:List UInt8,sum1 (a++b)=sum1 a+sum1 b
 | [],b=>by simp[sum1]
 | c::a,b=>by simp[sum1,sum1_append a b]; omega
theorem sum2_append:∀(a b:List UInt8) (n:Int),sum2 n (a++b)=sum2 n a+sum2 (n-a.length) b
 | [],b,n=>by simp[sum2]
 | c::a,b,n=>by
  simp only[yj,sum2,sum2_append a b (n-1),zS]
  rw[show n-1-(a.length:Int)=n-((a.length+1:Nat):Int) from by omega]
  omega
theorem sum1_le:∀l:List UInt8,sum1 l<=255*l.length
 | []=>by simp[sum1]
 | c::a=>by
  have:=sum1_le a;have b:c.toNat<256:=c.toNat_lt;simp only[sum1,zS];omega
theorem sum2_le:∀(l:List UInt8) (n:Int),(l.length:Int)<=n->n<=64->0<=sum2 n l/\sum2 n l<=16320*l.length
 | [],_,_,_=>by simp[sum2]
 | c::b,n,h,a=>by
  have f:c.toNat<256:=c.toNat_lt;simp only[zS] at h
  have g:=sum2_le b (n-1) (by omega) (by omega)
  have d:0<=n*(c.toNat:Int):=y2 (by omega) (by omega)
  have e:n*(c.toNat:Int)<=64*255:=Int.mul_le_mul a (by omega) (by omega) (by omega)
  simp only[sum2,zS];omega
def ch1 (l:List UInt8):UInt8:=UInt8.ofNat ((1+sum1 l)%251)
def ch2 (l:List UInt8):UInt8:=UInt8.ofNat ((64+sum2 64 l)%251).toNat
def body (l:List UInt8):List UInt8:=84::(runs l++[ch1 l,ch2 l])
def mid (b:List UInt8):List UInt8:=(b.drop 1).take (b.length-3)
theorem body_len (l:List UInt8)(h:okPic l=true):7<=(body l).length/\(body l).length<=67:=by
 obtain⟨a,b⟩:=(okPic_iff l).1 h;have c:=spread_runs l b
 have hw:wt (runs l)=64:=by simp[wt,c,a]
 have:=wt_le (runs l);simp only[body,zS,zH,List.length_nil];omega
end Pt
theorem eg (s:ByteArray)(k:Nat)(h:k<s.size):s.data.toList.take (k+1)=s.data.toList.take k++[s[k]]:=by
 rw[List.take_succ_eq_append_getElem (by simpa using h)]; rfl
def within (lo hi:Int)(l:List UInt8):Bool:=l.all fun c=>decide (lo<=(c.toNat:Int)/\(c.toNat:Int)<=hi)
theorem cC (lo hi:Int)(s:ByteArray)(k:Nat)(h:k<s.size)(b:¬(lo<=(s[k].toNat:Int)/\(s[k].toNat:Int)<=hi)):within lo hi s.data.toList=false:=by
 rw[xZ];intro a;simp only[within,zi,zN] at a;exact b (a s[k] (Array.mem_toList_iff.2 (Array.getElem_mem _)))
theorem eG (lo hi:Int)(s:ByteArray)(k:Nat)(h:k<s.size)(a:within lo hi (s.data.toList.take k)=true)(b:lo<=(s[k].toNat:Int)/\(s[k].toNat:Int)<=hi):within lo hi (s.data.toList.take (k+1))=true:=by
 rw[eg s k h];unfold within at a ⊢;rw[List.all_append,a];simp[b]
theorem dG (s:ByteArray)(lo hi:Int)(w:World)(c:s.size<=maxLen):
  Calls prog 194 #[s,.int .u8 lo,.int .u8 hi] w fun e w'=>e=.returned (.bool (within lo hi s.data.toList))/\w=w':=by
 unfold maxLen at c;go_enter func194,ntmps194
 go_wp2
 go_loop [7] (fun i=>∃k:Nat,k<=s.size/\i=.int .i64 k/\Hid (within lo hi (s.data.toList.take k)=true)) (fun i=>s.size-(intOf i).toNat)
 ·exact⟨0,yF _,rfl,ae rfl⟩
 obtain⟨k,g,rfl,b⟩:=hrel
 by_cases a:k<s.size
 ·by_cases d:(s[k].toNat:Int)<lo
  ·go_wp2
   go_ret
   exact⟨ai (cC lo hi s k a (by omega)).symm,rfl⟩
  by_cases f:hi<(s[k].toNat:Int)
  ·go_wp2
   go_ret
   exact⟨ai (cC lo hi s k a (by omega)).symm,rfl⟩
  go_wp2
  go_round
  ·exact⟨k+1,by omega,by go_num,ae (eG lo hi s k a (aa b) (by omega))⟩
  simp[intOf]; omega
 go_wp2
 go_ret;refine⟨ai ?_,rfl⟩;have:=aa b
 rw[z1 (by simp; omega)] at this
 exact this.symm
theorem i7 (l:List UInt8)(b:l.length=64):within 0 15 l=Pt.okPic l:=by
 rw[yq,Pt.okPic_iff];simp only[within,zi,zN]
 exact⟨fun h=>⟨b,fun c a=>by have:=h c a; omega⟩,fun h c a=>by have:=h.2 c a; omega⟩
theorem notpic (s:ByteArray)(h:s.size≠64):Pt.okPic s.data.toList=false:=by
 rw[xZ,ne_eq,Pt.okPic_iff];simp
 intro a; exact absurd a h
theorem m6 (s:ByteArray)(w:World)(c:s.size<=maxLen):
  Calls prog 181 #[s] w fun e w'=>e=.returned (.bool (Pt.okPic s.data.toList))/\w=w':=by
 by_cases h:s.size=64
 ·have b:((s.size:Int)==64)=true:=by simp; omega
  have a:Hid (within 0 15 s.data.toList=Pt.okPic s.data.toList):=i7 _ (by simpa using h)
  clear h;go_enter func181,ntmps181
  go_wp2_with (go_at_call 194; refine(dG s 0 15 _ c).mono ?_; rintro e w' ⟨rfl,rfl⟩)
  go_ret;exact⟨ai (aa a),rfl⟩
 have b:((s.size:Int)==64)=false:=by simp; omega
 go_enter func181,ntmps181
 go_wp2
 go_ret;exact⟨ai (notpic s h).symm,rfl⟩
theorem dP (s:ByteArray)(k:Nat)(h:k<s.size):s.data.toList.drop k=s[k]::s.data.toList.drop (k+1):=by
 rw[yl (by simpa using h)]; rfl
def gA (s:ByteArray)(i:Nat)(c:UInt8)(n:Nat):Prop:=Pt.lead c 15 (s.data.toList.drop (i+1))+1=n+Pt.lead c (16-n) (s.data.toList.drop (i+n))
theorem runSo_one (s:ByteArray)(i:Nat)(c:UInt8):gA s i c 1:=by unfold gA; show _=1+Pt.lead c 15 _; omega
theorem runSo_more (s:ByteArray)(i:Nat)(c:UInt8)(n:Nat)(d:n<16)(b:i+n<s.size)(a:s[i+n]=c)(h:gA s i c n):gA s i c (n+1):=by
 unfold gA at h ⊢
 rw[h,dP s (i+n) b,show 16-n=(16-(n+1))+1 from by omega]
 simp only[Pt.lead,a,if_true]
 rw[show i+n+1=i+(n+1) from by omega]
 omega
theorem runSo_end16 (s:ByteArray)(i:Nat)(c:UInt8)(n:Nat)(b:¬n<16)(a:n<=16)(h:gA s i c n):Pt.lead c 15 (s.data.toList.drop (i+1))+1=n:=by
 unfold gA at h
 rw[show 16-n=0 from by omega] at h
 simpa[Pt.lead] using h
theorem runSo_endS (s:ByteArray)(i:Nat)(c:UInt8)(n:Nat)(b:n<16)(a:¬i+n<s.size)(h:gA s i c n):Pt.lead c 15 (s.data.toList.drop (i+1))+1=n:=by
 unfold gA at h
 rw[xX (l:=s.data.toList) (i:=i+n) (by simp; omega),show 16-n=(15-n)+1 from by omega] at h
 simpa[Pt.lead] using h
theorem runSo_endC (s:ByteArray)(i:Nat)(c:UInt8)(n:Nat)(d:n<16)(b:i+n<s.size)(a:¬s[i+n]=c)(h:gA s i c n):Pt.lead c 15 (s.data.toList.drop (i+1))+1=n:=by
 unfold gA at h
 rw[dP s (i+n) b,show 16-n=(15-n)+1 from by omega] at h
 simpa[Pt.lead,a] using h
theorem dH (x:Int)(a:-9223372036854775808<=x)(b:x<=9223372036854775807):IntKind.i64.wrap x=x:=by rw[IntKind.wrap_i64]; omega
theorem dd (w:World)(q n:Nat):∃k,(w.drewN q).drewN n=w.drewN k:=⟨_,World.drewN_drewN _ _ _⟩
theorem mQ (s:ByteArray)(i:Nat)(w:World)(z:s.size<=1000)(hi:i<s.size):
  Calls prog 182 #[s,i] w fun e w'=>e=.returned (.int .i64 ((Pt.lead s[i] 15 (s.data.toList.drop (i+1))+1:Nat):Int))/\∃q,w'=w.drewN q:=by
 obtain⟨c,g⟩:∃c,c=s[i]:=⟨_,rfl⟩;rw[<-g];have k:=ae g;clear g;go_enter func182,ntmps182
 go_wp2
 go_loopw [5] (fun v wr=>∃n:Nat,1<=n/\n<=16/\v=.int .i64 n/\Hid (gA s i c n)/\∃q,wr=w.drewN q) (fun v _=>16-(intOf v).toNat)
 ·exact⟨1,by omega,by omega,rfl,runSo_one s i c,0,rfl⟩
 obtain⟨n,y,m,rfl,d,q,rfl⟩:=hrel
 by_cases f:n<16
 ·have x:IntKind.i64.wrap ((i:Int)+(n:Int))=(i:Int)+(n:Int):=dH _ (by omega) (by omega)
  by_cases j:i+n<s.size
  ·have t:(i:Int)+(n:Int)<(s.size:Int):=by omega
   have l:(n:Int)<16:=by omega
   have r:(i:Int)<(s.size:Int):=by omega
   have A:(0:Int)<=(i:Int)+(n:Int):=by omega
   have u:((i:Int)+(n:Int)).toNat=i+n:=by omega
   by_cases b:s[i+n]=s[i]
   ·have o:((s[i+n].toNat:Int)==(s[i].toNat:Int))=true:=by rw[b]; simp
    have a:=ae (runSo_more s i c n f j (b.trans (aa k).symm) (aa d));clear b
    go_wp2_with fail
    go_quiet (fail)
    go_wp2
    go_roundw
    ·exact⟨n+1,by omega,by omega,by go_num,a,_,rfl⟩
    simp[intOf]; omega
   have o:((s[i+n].toNat:Int)==(s[i].toNat:Int))=false:=by
    rw[zc];intro h
    exact b (UInt8.toNat_inj.1 (by omega))
   have a:=ae (runSo_endC s i c n f j (by rw[aa k]; exact b) (aa d))
   clear b
   go_wp2_with fail
   go_quiet (fail)
   go_wp2
   go_ret
   exact⟨aB (by rw[aa a]),dd _ _ _⟩
  have l:(n:Int)<16:=by omega
  have p:decide ((i:Int)+(n:Int)<(s.size:Int))=false:=by simp; omega
  have a:=ae (runSo_endS s i c n f j (aa d))
  go_wp2_with fail
  go_quiet (fail)
  go_wp2
  go_ret
  exact⟨aB (by rw[aa a]),dd _ _ _⟩
 have p:decide ((n:Int)<16)=false:=by simp; omega
 have a:=ae (runSo_end16 s i c n f m (aa d))
 go_wp2_with fail
 go_quiet (fail)
 go_wp2
 go_ret
 exact⟨aB (by rw[aa a]),dd _ _ _⟩
theorem nu (s:ByteArray)(k:Nat)(h:k<s.size):Pt.sum1 (s.data.toList.take (k+1))=Pt.sum1 (s.data.toList.take k)+s[k].toNat:=by
 rw[eg s k h,Pt.sum1_append]; simp[Pt.sum1]
theorem nt (s:ByteArray)(k:Nat)(h:k<s.size):Pt.sum2 64 (s.data.toList.take (k+1))=Pt.sum2 64 (s.data.toList.take k)+(64-(k:Int))*s[k].toNat:=by
 rw[eg s k h,Pt.sum2_append]
 have:(s.data.toList.take k).length=k:=by simp; omega
 simp[Pt.sum2,this]
theorem oD {k d:IntKind}{a b c e:Int}(h:a=c)(f:b=e):Ending.returned (.tuple #[.int k a,.int d b])=.returned (.tuple #[.int k c,.int d e]):=by rw[h,f]
theorem ch1_int (l:List UInt8):((Pt.ch1 l).toNat:Int)=(1+(Pt.sum1 l:Int))%251:=by
 unfold Pt.ch1;rw[UInt8.toNat_ofNat'];omega
theorem ch2_int (l:List UInt8):((Pt.ch2 l).toNat:Int)=(64+Pt.sum2 64 l)%251:=by
 unfold Pt.ch2;rw[UInt8.toNat_ofNat'];omega
theorem checks_any (s:ByteArray)(w:World)(g:s.size=64):
  Calls prog 183 #[s] w fun e w'=>e=.returned (.tuple #[.int .u8 (Pt.ch1 s.data.toList).toNat,.int .u8 (Pt.ch2 s.data.toList).toNat])/\w=w':=by
 have o:s.size<=64:=by omega
 have n:64<=s.size:=by omega
 have p:=ae g;clear g;go_enter func183,ntmps183
 go_wp2
 go_loop [4,5,6,7] (fun a b i _=>∃k:Nat,k<=s.size/\i=.int .i64 k/\a=.int .i64 (1+(Pt.sum1 (s.data.toList.take k):Int))/\b=.int .i64 (64+Pt.sum2 64 (s.data.toList.take k))) (fun _ _ i _=>s.size-(intOf i).toNat)
 ·exact⟨0,yF _,rfl,rfl,rfl⟩
 obtain⟨k,r,rfl,rfl,rfl⟩:=hrel
 have f:(s.data.toList.take k).length=k:=by simp; omega
 have h:=Pt.sum1_le (s.data.toList.take k)
 have j:=Pt.sum2_le (s.data.toList.take k) 64 (by omega) (by omega)
 rw[f] at h j;clear f
 by_cases c:k<s.size
 ·have l:=ae (nu s k c)
  have m:=ae (nt s k c);have q:s[k].toNat<256:=s[k].toNat_lt
  have t:0<=(64-(k:Int))*s[k].toNat:=y2 (by omega) (by omega)
  have u:(64-(k:Int))*s[k].toNat<=64*255:=Int.mul_le_mul (by omega) (by omega) (by omega) (by omega)
  go_wp2
  go_round
  ·exact⟨k+1,by omega,by go_num,by rw[aa l]; go_num,by rw[aa m]; go_num⟩
  simp[intOf]; omega
 go_wp2
 go_ret2
 have d:s.data.toList.take k=s.data.toList:=z1 (by simp; omega)
 exact⟨oD (by rw[ch1_int,d]) (by rw[ch2_int,d]),rfl⟩
theorem Tryz.info5:(prog.info? 5).map (fun i=>(i.zero,i.size,i.bytes))=some (some (.int .u8 0),1,1):=by kernel_rfl
theorem cell_two (w:World)(x y:Value)(t:TypeId):∀j u,[x,y][j]?=some u->(w.alloc (.cells #[x,y] t)).cell? ((⟨w.heap.size,0,none⟩:Addr).add j)=some u:=by
 intro j u a
 match j,a with
 | 0,a=>simp at a; subst a; simp[Addr.add]
 | 1,a=>simp at a; subst a; simp[Addr.add]
theorem mI {g:Array Oper}{rest:List Oper}{o:Oper}{a:Act}{j:Exit->Act->World->Prop}(p:o.guard=none)(s x:Operand)
  (z:o.op=.call { callee:=.builtin .append,args:=#[s,x],argTypes:=#[220,220] })
  (d:World) (B:Nat) (v:Value) (l:List UInt8) (b c:UInt8) (A:a.eval s=v) (f:de d B v l) (C:a.eval x=.slice (some ⟨d.heap.size,0,none⟩) 2 2)
  (E:l.length<=1000000) (w:B<=d.heap.size)
  (h:∀e w',de w' B e (l++[b,c])->Below B d w'->wpList prog g j rest (a.put o.dst e) w') :
  wpList prog g j (o::rest) a (d.alloc (.cells #[.int .u8 b.toNat,.int .u8 c.toNat] 5)):=by
 obtain⟨D,hi,q,r,t⟩:=info_parts Tryz.info5
 refine wpList_append_own _ p s x 220 z B 5 D (.int .u8 0) 1 1 underlying220 hi q r t rfl (by decide) v l.length (l.map bv) A (f.alloc _) ⟨d.heap.size,0,none⟩ 2 2 [bv b,bv c] C rfl (cell_two _ _ _ _) ?_ ?_ ?_ ?_ ?_
 ·intro u i; simp at i; rcases i with rfl|rfl<;>rfl
 ·unfold maxLen; omega
 ·omega
 ·simp; omega
 intro e w1 n m _;refine h e w1 ?_ ?_
 ·unfold de
  simpa using n
 exact((zV B d).alloc w _).grown m (by simp; omega) (fun k y=>(y9 f k y).1)
theorem gR (n:Nat)(c:UInt8)(b:n<=15)(a:c.toNat<=15):((Pt.runByte n c).toNat:Int)=16*(n:Int)+c.toNat:=by
 unfold Pt.runByte;rw[UInt8.toNat_ofNat'];omega
def Laid (s:ByteArray)(k:Nat)(l:List UInt8):Prop:=l++Pt.runs (s.data.toList.drop k)=84::Pt.runs s.data.toList
theorem laid_start (s:ByteArray):Laid s 0 [84]:=rfl
theorem laid_step (s:ByteArray)(k:Nat)(h:k<s.size)(l:List UInt8)(a:Laid s k l):
  Laid s (k+(Pt.lead s[k] 15 (s.data.toList.drop (k+1))+1)) (l++[Pt.runByte (Pt.lead s[k] 15 (s.data.toList.drop (k+1))) s[k]]):=by
 unfold Laid at a ⊢;rw[<-a,dP s k h,Pt.runs_cons,List.drop_drop];simp[yr,Nat.add_comm]
theorem laid_end (s:ByteArray)(k:Nat)(h:¬k<s.size)(l:List UInt8)(a:Laid s k l):l=84::Pt.runs s.data.toList:=by
 unfold Laid at a
 rw[xX (by simp; omega)] at a
 simpa[Pt.runs] using a
theorem fU {a b:List UInt8}{n:Int}(h:a=b):Ending.returned (.tuple #[.string ⟨a.toArray⟩,n])=.returned (.tuple #[.string ⟨b.toArray⟩,n]):=by rw[h]
theorem pack_yes (s:ByteArray)(w:World)(h:Pt.okPic s.data.toList=true):
  Calls prog 152 #[s] w fun e w'=>e=.returned (.tuple #[.string ⟨(Pt.body s.data.toList).toArray⟩,()])/\Below w.heap.size w w':=by
 obtain⟨u,t⟩:=(Pt.okPic_iff _).1 h
 have m:s.size=64:=by simpa using u
 have J:s.size<=maxLen:=by rw[m]; decide
 have G:s.size<=1000:=by omega
 have H:=ae t;have D:=ae m;clear u t m;go_enter func152,ntmps152
 go_wp2_with (go_at_call 181; refine(m6 s _ J).mono ?_; rintro e w' ⟨rfl,rfl⟩)
 go_loopw [4,5,6] (fun v i _ wr=>∃(k:Nat) (l:List UInt8),k<=s.size/\i=.int .i64 k/\l.length<=k+1/\Hid (Laid s k l)/\de wr w.heap.size v l/\Below w.heap.size w wr) (fun _ i _ _=>s.size-(intOf i).toNat)
 ·exact⟨0,[84],yF _,rfl,by simp,laid_start s,lS w _ aD 84 84 rfl,bu.alloc aD _⟩
 obtain⟨k,l,O,rfl,M,d,c,b⟩:=hrel;have y:=b.size
 by_cases p:k<s.size
 ·have B:s[k].toNat<=15:=aa H _ (Array.mem_toList_iff.2 (Array.getElem_mem _))
  have r:=ae (laid_step s k p l (aa d));have g:=fun L=>mQ s k L G p;have o:=Pt.lead_le s[k] 15 (s.data.toList.drop (k+1));rw[yz] at o;generalize Pt.lead s[k] 15 (s.data.toList.drop (k+1))=n at r g o;have A:=ae g;clear g d;obtain⟨C,x⟩:=o
  have N:k+1+n<=s.size:=by simp at x; omega
  clear x
  go_wp2_with (first|(go_at_call 182; refine(aa A _).mono ?_; rintro e w1 ⟨rfl,q,I⟩; subst I)|(at_builtin; refine bQ rfl (.tmp 20) (.tmp 29) rfl _ w.heap.size _ l (Pt.runByte n s[k]) _ rfl (c.drewN _) rfl ?_ ?_ ?_ ?_))
  ·rw[gR n _ C B]; omega
  ·omega
  ·simpa using y
  intro K w1 j a;have f:Below w.heap.size w w1:=(ap b _).trans a;clear c b a
  go_wp2
  go_roundw
  ·exact⟨k+(n+1),_,by omega,by go_num,by simp; omega,r,j,f⟩
  simp[intOf]; omega
 have z:=laid_end s k p l (aa d);clear d;have E:=ae z;clear z
 go_wp2_with (first|(go_at_call 183; refine(checks_any s _ (aa D)).mono ?_; rintro e w1 ⟨rfl,rfl⟩)|(at_builtin; refine mI rfl (.tmp 39) (.tmp 42) rfl _ w.heap.size _ l (Pt.ch1 s.data.toList) (Pt.ch2 s.data.toList) rfl c rfl ?_ ?_ ?_))
 ·omega
 ·exact y
 intro K w1 j a;have F:=j.str 0;rw[World.drewN_zero] at F;have f:Below w.heap.size w w1:=b.trans a;clear c b a
 go_wp2
 go_ret2
 exact⟨fU (by rw[aa E]; rfl),f⟩
end Pk
def cg (FL:List Ft)(k:K4):ByteArray:=⟨(Pk.Pt.body (tile FL k.l k.z k.x k.y).data.toList).toArray⟩
theorem tile_list (FL:List Ft)(l z x y:Int):(tile FL l z x y).data.toList=kP (gf FL) FL.length l z x y 64:=by unfold tile; rfl
theorem okTile {FL:List Ft}(e:∀i,i<FL.length->Rt (gf FL i))(l z x y:Int):Pk.Pt.okPic (tile FL l z x y).data.toList=true:=by
 rw[tile_list,Pk.Pt.okPic_iff];refine⟨oL _ _ _ _ _ _ _,fun c b=>?_⟩;unfold kP at b;obtain⟨p,_,rfl⟩:=yH.1 b;have a:=pL e;have f:=l8 a l z x y p;have d:=oq (j7 a) l z (un z) (js x (un z) ((p:Int)%8)) (js y (un z) ((p:Int) / 8));have g:ink (gf FL) FL.length l z x y p<=15:=d.2;omega
theorem gu {FL:List Ft}(a:∀i,i<FL.length->Rt (gf FL i))(k:K4):7<=(cg FL k).size/\(cg FL k).size<=67:=Pk.Pt.body_len _ (okTile a k.l k.z k.x k.y)
def bR (R LS:List Ft)(reads:Int)(k:K4):aL:=⟨k,cg R k,du k (eA reads k LS)⟩
theorem mU (fb:Nat)(X:FV)(ver:Int)(sl pv:Value)(LS ak R:List Ft)(g:Nat)(aY a0 aZ aO reads left:Int)(rv:Value)(l z x y:Int)(w:World)(F:aq w fb X)(aw:dD w X.sb 0 ver sl pv LS ak)(a2:LS.length<=1000)(G:dy ⟨l,z,x,y⟩)(a7:0<=reads/\reads<=ver)(aC:ver<=100)(av:Glb w)
  (r:w.heap[g]?=some (.cells #[aY,a0,aZ,aO,reads,left,rv] 170)) (D:kU w rv R.length (gf R)) (aA:R.length<=40) (V:∀i,i<R.length->Rt (gf R i)) :
  Calls prog 175 #[some fb,some g,.agg #[l,z,x,y]] w fun e w'=>e=.returned (.tuple #[.agg (tv (some (bR R LS reads ⟨l,z,x,y⟩))),()])/\Below w.heap.size w w':=by
 have a9:=an r;have a8:=an F;have Y:=(zV w.heap.size w).alloc aD (.cells #[l,z,x,y] 39)
 have k:=Y.alloc (by simp) (.cells (tv none) 196)
 have ba:((w.alloc (.cells #[l,z,x,y] 39)).alloc (.cells (tv none) 196)).heap.size=w.heap.size+2:=by simp
 have B:=(zr (w.alloc (.cells #[l,z,x,y] 39)) (.cells (tv none) 196) (show w.heap.size<_ by simp)).trans (zZ w (.cells #[l,z,x,y] 39))
 have C:=zZ (w.alloc (.cells #[l,z,x,y] 39)) (.cells (tv none) 196)
 rw[show(w.alloc (.cells #[l,z,x,y] 39)).heap.size=w.heap.size+1 by simp] at C
 have E:=G.err;dsimp only at E;have ai:=ag r k;have ad:=okTile V l z x y;have au:∀b,Below ((w.alloc (.cells #[l,z,x,y] 39)).alloc (.cells (tv none) 196)).heap.size ((w.alloc (.cells #[l,z,x,y] 39)).alloc (.cells (tv none) 196)) b->Calls prog 107 #[rv,.agg #[l,z,x,y]] b fun e w'=>e=.returned (.tuple #[.string (tile R l z x y),()])/\Below b.heap.size b w':=fun b h=>paint_tile E aA V rv b ((D.on k).on h);have ap:∀b,Below ((w.alloc (.cells #[l,z,x,y] 39)).alloc (.cells (tv none) 196)).heap.size ((w.alloc (.cells #[l,z,x,y] 39)).alloc (.cells (tv none) 196)) b->b.cell? ⟨g,6,none⟩=some rv:=fun b h=>(af (ag ai h) 6).trans rfl;have ar:∀b,Below ((w.alloc (.cells #[l,z,x,y] 39)).alloc (.cells (tv none) 196)).heap.size ((w.alloc (.cells #[l,z,x,y] 39)).alloc (.cells (tv none) 196)) b->b.rangeAt w.heap.size 0 (#[l,z,x,y]:Array Value).toList:=fun b h=>ao (ag B h)
 obtain⟨ax,az,ay,aQ⟩:∃a n c,rv=.slice a n c:=by obtain⟨bb,bc,aX,_⟩:=D; exact⟨_,_,_,aX⟩
 subst aQ;have aT:=ae F;have aV:=ae aw;have aU:=ae av;have aW:=ae r;have aR:=ae B;have aS:=ae C;have M:=ae k;have aL:=ae G;have aJ:Hid ((⟨(Pk.Pt.body (tile R l z x y).data.toList).toArray⟩:ByteArray)=cg R ⟨l,z,x,y⟩):=rfl;clear F aw av r B C Y k ai G D E;go_enter func175,ntmps175
 go_wp2_with fail
 refine aM (by kernel_rfl) (by kernel_rfl) ?_
 refine eI g 0 ?_;refine bd g 0 ?_;refine bd g 6 ?_
 refine bH (.slice ax az ay) ?_ (h:=fun w' t=>by simp[go_sem,ap w' t])
 refine vK w.heap.size 0 ar ?_
 refine eB rfl 107 (#[.slice ax az ay,.agg #[l,z,x,y]]) (fun _=>by simp[go_sem]) (.tuple #[.string (tile R l z x y),()]) (au) ?_
 simp only[qZ];refine bD (.tuple #[.string (tile R l z x y),()]) ?_;refine bH (.string (tile R l z x y)) ?_;refine bH (.int .i64 0) ?_;refine vA (.string (tile R l z x y)) ?_;refine vA (.int .i64 0) ?_;refine zq ?_;intro H d;have N:=ag (aa aR) d;have Q:=ag (aa aS) d;have Z:=(aa M).trans (d.mono (aa M).size);have u:=Pk.pack_yes (tile R l z x y) H ad;rw[aa aJ] at u;have aE:=ae N;have aG:=ae Q;have J:=ae Z;clear d au ap ar N Q Z
 go_wp2_with fail
 refine u.mono ?_;rintro e j ⟨rfl,m⟩;have s:=ag (aa aE) m;have S:=ag (aa aG) m;have f:=(aa J).trans (m.mono (aa J).size);have aj:=ag (aa aW) f;have ab:=ag (aa aT) f;have ah:=(aa aV).on f;have ac:=(aa aU).on f;have al:∀b,Below j.heap.size j b->Calls prog 129 #[some fb,reads,.agg #[l,z,x,y]] b fun e w'=>e=.returned (.tuple #[.string (du ⟨l,z,x,y⟩ (eA reads ⟨l,z,x,y⟩ LS)),()])/\Below b.heap.size b w':=fun b h=>nr fb X ver reads sl pv LS ak l z x y b (ag ab h) (ah.on h) a2 (aa aL) a7 aC (ac.on h);have am:∀b,Below j.heap.size j b->b.cell? ⟨g,4,none⟩=some (.int .i64 reads):=fun b h=>(af (ag aj h) 4).trans rfl;have U:∀b,Below j.heap.size j b->b.rangeAt w.heap.size 0 (#[l,z,x,y]:Array Value).toList:=fun b h=>ao (ag s h);have aF:=ae s;have aH:=ae S;have K:=ae f;clear m u s S f aj ab ah ac ad
 go_wp2_with fail
 refine aM (by kernel_rfl) (by kernel_rfl) ?_
 refine eI fb 0 ?_;refine eI g 0 ?_;refine bd g 0 ?_;refine bd g 4 ?_
 refine bH (.int .i64 reads) ?_ (h:=fun w' t=>by simp[go_sem,am w' t])
 refine vK w.heap.size 0 U ?_
 refine eB rfl 129 (#[.pointer (some ⟨fb,0,none⟩),reads,.agg #[l,z,x,y]]) (fun _=>by simp[go_sem]) (.tuple #[.string (du ⟨l,z,x,y⟩ (eA reads ⟨l,z,x,y⟩ LS)),()]) (al) ?_
 simp only[qZ];refine bD (.tuple #[.string (du ⟨l,z,x,y⟩ (eA reads ⟨l,z,x,y⟩ LS)),()]) ?_;refine bH (.string (du ⟨l,z,x,y⟩ (eA reads ⟨l,z,x,y⟩ LS))) ?_;refine bH (.int .i64 0) ?_;refine vA (.string (du ⟨l,z,x,y⟩ (eA reads ⟨l,z,x,y⟩ LS))) ?_;refine vA (.int .i64 0) ?_;refine zq ?_;intro H d;have O:=ag (aa aF) d;have T:=ag (aa aH) d;have L:=(aa K).trans (d.mono (aa K).size);have aB:H.rangeAt w.heap.size 0 (#[l,z,x,y]:Array Value).toList:=ao O;have W:=yX _ _ _ (tv (some (bR R LS reads ⟨l,z,x,y⟩))) _ _ T;have aN:=ae W
 have aI:=ae (aK L (show w.heap.size<=w.heap.size+1 by omega) (tv (some (bR R LS reads ⟨l,z,x,y⟩))))
 have aP:∀(A:Act) (o:Oper) (p q I:Operand),o.op=.build 196 #[(0,p),(1,q),(2,I)]->A.eval p=.agg #[l,z,x,y]->A.eval q=.string (cg R ⟨l,z,x,y⟩)->A.eval I=.string (du ⟨l,z,x,y⟩ (eA reads ⟨l,z,x,y⟩ LS))->∀b,(execOp A.eval o).run prog b=.ok (.value (.agg (tv (some (bR R LS reads ⟨l,z,x,y⟩))))) b:=by
  intro A o p q I a3 a4 a5 a6 b
  have a1:=run_build (P:=prog) b 196 #[(0,.agg #[l,z,x,y]),(1,.string (cg R ⟨l,z,x,y⟩)),(2,.string (du ⟨l,z,x,y⟩ (eA reads ⟨l,z,x,y⟩ LS)))] (tv (some (bR R LS reads ⟨l,z,x,y⟩))) (by kernel_rfl)
  unfold execOp;simp[a3,a4,a5,a6,a1]
 clear d O L al am U W
 go_wp2_with (first|refine vM aB rfl _ rfl rfl ?_|refine cP _ _ (aP _ _ _ _ _ rfl rfl rfl rfl _) rfl ?_|refine stG 196 (tv (some (bR R LS reads ⟨l,z,x,y⟩))) (tv none) (d9 _) (je _) rfl (w.heap.size+1) T rfl _ _ rfl rfl rfl ?_)
 refine zL (v:=.tuple #[.agg (tv (some (bR R LS reads ⟨l,z,x,y⟩))),()]) (rct results175 _ _ (w.heap.size+1) 196 (tv (some (bR R LS reads ⟨l,z,x,y⟩))) (0,0) _ (.int .i64 0) rfl rfl (aa aN) underlying196 rfl (d9 _)) rfl ⟨rfl,aa aI⟩
theorem map_snoc {α b:Type}{l:List α}{k:Nat}{a:α}(f:α->b)(h:l[k]?=some a):(l.take (k+1)).map f=(l.take k).map f++[f a]:=by rw[be h,yV]; rfl
theorem keys_len (b:K4):b.keys.length<=4:=by unfold K4.keys; split<;>simp
theorem paint_any (fb:Nat)(X:FV)(ver:Int)(sl pv:Value)(LS az R:List Ft)(g:Nat)(p r n m reads left:Int)(rv:Value)(w:World)(aE:aq w fb X)(aF:dD w X.sb 0 ver sl pv LS az)(be:LS.length<=1000)(O:∀k∈(⟨p,r,n,m⟩:K4).keys,dy k)(bf:0<=n/\n<=4194304)(hy:0<=m/\m<=4194304)(s:0<=reads/\reads<=ver)(aN:ver<=100)(C:Glb w)
  (E:w.heap[g]?=some (.cells #[p,r,n,m,reads,left,rv] 170)) (aC:kU w rv R.length (gf R)) (aJ:R.length<=40) (aX:∀i,i<R.length->Rt (gf R i)) :
  Calls prog 142 #[some fb,some g] w fun e w'=>(∃v,e=.returned v/\ah aW 196 w' v ((⟨p,r,n,m⟩:K4).keys.map (bR R LS reads))/\∀g,v.ownBlock=some g->w.heap.size<=g)/\Below w.heap.size w w':=by
 have bk:=an E;have G:=(zV w.heap.size w).alloc aD (.cells #[] 196)
 have aB:=cr (R:=aW) (T:=196) w [] #[] rfl (by simp)
 have av:=ag E G
 have Y:(w.alloc (.cells #[] 196)).rangeAt g 0 (#[p,r,n,m]:Array Value).toList:=by
  intro j v s;rw[af av,zb]
  rcases j with _|_|_|_|j
  ·exact s
  ·exact s
  ·exact s
  ·exact s
  simp at s
 have ay:=keysOf_any p r n m (w.alloc (.cells #[] 196)) bf hy
 have a4:=ae aE;have a9:=ae aF;have a5:=ae C;have ba:=ae E;have a8:=ae aC;have ax:=ae O;have a6:=ae aB;have aO:=ae G;clear aE aF C E aB G av O aC;go_enter func142,ntmps142
 go_wp2_with (refine vM Y rfl _ rfl rfl ?_)
 refine ay.mono ?_;rintro e bs ⟨⟨bq,rfl,y,aL⟩,H⟩
 have W:=(aa aO).trans (H.mono (by simp))
 have ac:=(aa a6).on H;have aU:=ae ac;have aH:=ae W
 have aY:=keys_len ⟨p,r,n,m⟩
 generalize ab:K4.keys ⟨p,r,n,m⟩=l at aY y ax ⊢
 obtain⟨bg,bh,rfl,_⟩:=y.at;have aT:=ae y;have aS:=ae ab;clear ay Y y aL H ac W ab
 go_wp2
 go_loopw [5,7,8,9] (fun v i _ _ wr=>∃k:Nat,k<=l.length/\i=.int .i64 k/\ah aW 196 wr v ((l.take k).map (bR R LS reads))/\Hid (∀g,v.ownBlock=some g->w.heap.size<=g)/\ah bT 39 wr (.slice bg l.length bh) l/\Below w.heap.size w wr) (fun _ i _ _ _=>l.length-(intOf i).toNat)
 ·exact⟨0,by omega,rfl,by simpa using aa aU,ae (fun g C=>by simp[Value.ownBlock] at C; omega),aa aT,aa aH⟩
 obtain⟨k,O,rfl,A,K,J,o⟩:=hrel;have bm:=o.size
 by_cases a1:k<l.length
 ·have L:(k:Int)<l.length:=by omega
  obtain⟨bo,bn,bd,_,_,am⟩:=J.at
  obtain⟨b,off,bc,bl,al⟩:=am (by omega)
  cases bd;subst bc;obtain⟨⟨c,h,d,f⟩,P⟩:∃t,l[k]?=some t:=⟨_,zQ a1⟩;have a0:=aa ax _ (zR P);have ar:wr.rangeAt b (off+k*4) (#[c,h,d,f]:Array Value).toList:=bL.key al P
  have aA:=mU fb X ver sl pv LS az R g p r n m reads left rv c h d f wr (ag (aa a4) o) ((aa a9).on o) be a0 s aN ((aa a5).on o) (ag (aa ba) o) ((aa a8).on o) aJ aX
  have ap:=map_snoc (bR R LS reads) P;have a7:=ae A;have aw:=ae o;have aQ:=ae J;clear A o J al am
  go_wp2_with (refine vM ar rfl _ rfl rfl ?_)
  refine aA.mono ?_;rintro e a ⟨rfl,u⟩;have ai:=zZ a (.cells (tv none) 196);have ak:=(zV a.heap.size a).alloc aD (.cells (tv none) 196);have ad:=yX _ _ _ (tv (some (bR R LS reads ⟨c,h,d,f⟩))) _ _ ai;have B:=aK ak aD (tv (some (bR R LS reads ⟨c,h,d,f⟩)));have U:=((aa a7).on u).on B
  have F:=((aa aw).trans (u.mono (aa aw).size)).trans (B.mono (by have:=u.size; omega))
  have V:=((aa aQ).on u).on B
  have N:((a.alloc (.cells (tv none) 196)).setRow a.heap.size (tv (some (bR R LS reads ⟨c,h,d,f⟩)))).heap.size=a.heap.size+1:=by simp[World.setRow]
  have a3:wr.heap.size<=a.heap.size:=u.size;have aM:((a.alloc (.cells (tv none) 196)).setRow a.heap.size (tv (some (bR R LS reads ⟨c,h,d,f⟩)))).rangeAt a.heap.size 0 (tv (some (bR R LS reads ⟨c,h,d,f⟩))).toList:=ao ad;have aj:=aZ aW 196 ((a.alloc (.cells (tv none) 196)).setRow a.heap.size (tv (some (bR R LS reads ⟨c,h,d,f⟩)))) (bR R LS reads ⟨c,h,d,f⟩) (tv (some (bR R LS reads ⟨c,h,d,f⟩))) rfl;have I:=(zV ((a.alloc (.cells (tv none) 196)).setRow a.heap.size (tv (some (bR R LS reads ⟨c,h,d,f⟩)))).heap.size ((a.alloc (.cells (tv none) 196)).setRow a.heap.size (tv (some (bR R LS reads ⟨c,h,d,f⟩))))).alloc aD (.cells (tv (some (bR R LS reads ⟨c,h,d,f⟩))) 196);have M:=U.on I
  obtain⟨br,bj,bi,Q,S,aG⟩:=mz M aj (by simp; omega)
  rw[<-ap] at Q;have aV:=ae Q;have Z:=F.size
  have aP:=ae ((F.alloc Z (.cells (tv (some (bR R LS reads ⟨c,h,d,f⟩))) 196)).grown S (by simp[N]; omega) (fun q D=>aa K q D))
  have x:=V.on I
  have aI:=ae (x.same (w':=bj) fun q D=>S.block q (x.lt D) (fun z=>by
   obtain⟨bp,bb⟩:=M.ty z.symm
   exact au x bb (by decide) q D rfl))
  have aR:=ae (bN (aa K) aG (by simp[N]; omega))
  clear u aA ak ad B U F V x aj I M Q S aG ap ar Z N a3
  go_wp2_with (first|refine stG 196 (tv (some (bR R LS reads ⟨c,h,d,f⟩))) (tv none) (d9 _) (je _) rfl a.heap.size ai rfl _ _ rfl rfl rfl ?_|refine bU 196 (tv (some (bR R LS reads ⟨c,h,d,f⟩))) underlying196 rfl (d9 _) a.heap.size 0 aM rfl _ rfl rfl ?_|refine cP _ _ (jt _ _ _ _ _ _ _ _ _ rfl rfl _) rfl ?_|(at_builtin; refine fS 123 bi rfl _ _ rfl rfl rfl rfl ?_))
  go_roundw
  ·exact⟨k+1,by omega,by go_num,aa aV,aa aR,aa aI,aa aP⟩
  simp[intOf]; omega
 have L:k=l.length:=by omega
 have a2:l.take k=l:=by rw[L,zx]
 rw[a2] at A;subst L
 go_wp2
 go_ret
 exact⟨⟨u5,rfl,by rw[aa aS]; exact A,aa K⟩,o⟩
theorem ou {l:List Oper}{b:Exit->Act->World->Prop}{S:World->Prop}{c:Array Bool}{a:Act}{w:World}{d:Nat}{o:Oper}{rest:List Oper}(i:Nat)(m:l.drop i=o::rest)(hw:Region.wanted o (yielded l.toArray a.tmps)=true)(f:FuncId)(args:Array Value)(j:(execOp a.eval o).run prog w=.ok (.enter f args) w)(R:Value->World->Prop)
  (k:Calls prog f args w fun e w'=>∃v,e=.returned v/\R v w') (h:∀v w',R v w'->S w'/\wpAnyH prog .any l.toArray b S d (c.setIfInBounds i true) (a.put o.dst v) w') :
  wpOp prog l.toArray b i (fun g w'=>S w'/\wpAnyH prog .any l.toArray b S d (c.setIfInBounds i true) g w') a w:=by
 unfold wpOp;simp only[gw m];rw[zJ hw]
 left
 unfold Oper.wp;rw[j]
 exact k.mono fun e w' ⟨v,e1,e2⟩=>by subst e1; exact h v w' e2
theorem ReadC (d:Nat)(ver:Int)(sl pv:Value)(LS b FL:List Ft)(v a:Int)(n:Nat)(w:World)(k:dD w d 0 ver sl pv LS b)(h:LS.length<=1000)(j:b.length<=100)(l:0<=ver/\ver<=100)(g:bS 0 ver b v=true)(f:d8 v LS FL)(i:1<=n/\n<=8):
  Calls prog 34 #[some d,v,a,n] w fun e w'=>∃t,e=.returned t/\∃R rv,t=.tuple #[rv,()]/\bf 66 24 w' w.heap.size rv R/\jB FL a R/\R.length=min n (FL.length-gH FL a FL.length)/\Below w.heap.size w w':=by
 refine(Read_any d 0 ver sl pv LS b FL v a n w k h j ⟨by omega,by omega⟩ l g f i).mono ?_
 rintro e w' ⟨⟨R,rv,rfl,h1,h2,h3,c⟩,hb⟩;refine⟨_,rfl,R,rv,rfl,h1,h2,?_,hb⟩;have o:=h2.cnt;have m:=cle_le FL (lP a R R.length) FL.length
 rcases c with c|c
 ·omega
 omega
def lid (R:List Ft):Int:=lP 0 R R.length
theorem l4 (v:Value)(R:List Ft)(w:World)(k:mD 24 w v R.length (gf R))(j:R.length<=1000000):
  Calls prog 141 #[v] w fun e w'=>e=.returned (.int .i64 (lid R))/\w=w':=by
 obtain⟨p,cap,rfl,_,f⟩:=k
 by_cases d:R.length=0
 ·have e:lid R=0:=by unfold lid; rw[d]; rfl
  rw[e,d];clear e d f j;go_enter func141,ntmps141
  go_wp2
  go_ret;exact⟨rfl,rfl⟩
 obtain⟨a,hm⟩:∃a,R.length=a+1:=⟨R.length-1,by omega⟩
 obtain⟨b,off,rfl,m,g⟩:=f (by omega)
 have e:lid R=gf R a 0:=by unfold lid; rw[hm]; rfl
 have c:=g a (by omega) 0 (by omega)
 rw[yG] at c;rw[e,hm];obtain⟨i,h⟩:∃i,gf R a 0=i:=⟨_,rfl⟩;rw[h] at c ⊢
 have o:((a+1:Nat):Int)=(a:Int)+1:=by omega
 have hw:IntKind.i64.wrap ((a:Int)+1-1)=a:=by rw[bG _ (by omega)]; omega
 have l:wrap64 (a:Int)=a:=z6 _ ⟨by omega,by omega⟩
 clear e h d f g hw
 have n:¬((a+1:Nat):Int)=0:=by omega
 clear hm;go_enter func141,ntmps141
 go_wp2
 go_ret;exact⟨rfl,rfl⟩
theorem nsteps_eq {n b c:Nat}(g:1<=c)(a:n=0\/(n-1)*c<b)(d:b<=n*c):(if n=0 then 1 else n)=bB b c:=by
 unfold bB
 by_cases e:n=0
 ·rw[zJ e]
  rw[e,Nat.zero_mul] at d
  rw[zJ (by omega)]
 rw[zK e];have a:=a.resolve_left e
 rw[zK (by omega)]
 obtain⟨f,rfl⟩:∃f,n=f+1:=⟨n-1,by omega⟩
 rw[ye] at a;rw[zd] at d
 symm
 rw[Nat.div_eq_iff (by omega)]
 rw[zd];omega
structure gc (FL:List Ft)(ch n:Nat)(a:Int)(R:List Ft):Prop where
 n41:n<=41
 cl:gH FL a FL.length=min (n*ch) FL.length
 pr:n=0\/(n-1)*ch<FL.length
 ln:R.length=min ch (FL.length-gH FL a FL.length)
 rd:jB FL a R
theorem gc.len {FL:List Ft}{ch n:Nat}{a:Int}{R:List Ft}(h:gc FL ch n a R)(b:1<=ch/\ch<=8):R.length<=8:=by have:=h.ln; omega
theorem gc.n40 {FL:List Ft}{ch n:Nat}{a:Int}{R:List Ft}(h:gc FL ch n a R)(b:1<=ch/\ch<=8)(c:FL.length<=40):n<=40:=by
 rcases h.pr with q|q
 ·omega
 have:=Nat.mul_le_mul_left (n-1) b.1;omega
theorem gc.end_ {FL:List Ft}{ch n:Nat}{a:Int}{R:List Ft}(h:gc FL ch n a R)(b:1<=ch/\ch<=8)(c:R.length=0):(if n=0 then 1 else n)=bB FL.length ch:=by
 refine nsteps_eq b.1 h.pr ?_;have d:=h.ln;have e:=h.cl;omega
theorem gc.lid {FL:List Ft}{ch n:Nat}{a:Int}{R:List Ft}(_h:gc FL ch n a R)(c:0<R.length):lid R=lP a R R.length:=by
 unfold Go.Proofs.YtpabpniaekldeaaGreatDoor.lid
 obtain⟨b,hm⟩:∃b,R.length=b+1:=⟨R.length-1,by omega⟩
 rw[hm];rfl
theorem gc.next {FL:List Ft}{ch n:Nat}{a A:Int}{R b:List Ft}(h:gc FL ch n a R)(i:1<=ch/\ch<=8)(j:FL.length<=40)(k:0<R.length)(g:lP a R R.length=A)(d:jB FL A b)(c:b.length=min ch (FL.length-gH FL A FL.length)):gc FL ch (n+1) A b:=by
 have l:=h.ln;have m:=h.cl;have e:=h.rd.cnt;rw[g] at e
 have f:n*ch<FL.length:=by omega
 have o:=Nat.mul_le_mul_left n i.1
 refine⟨by omega,?_,Or.inr (by rw[ye]; exact f),c,d⟩
 rw[zd];omega
theorem steps_any (fb:Nat)(X:FV)(ver v:Int)(sl pv:Value)(LS G FL:List Ft)(ch:Nat)(w:World)(ah:aq w fb X)(Z:X.ch=ch)(C:1<=ch/\ch<=8)(aj:dD w X.sb 0 ver sl pv LS G)(ay:LS.length<=1000)(aA:G.length<=100)(an:0<=ver/\ver<=100)(ai:bS 0 ver G v=true)(H:d8 v LS FL):
  Calls prog 140 #[some fb,.int .i64 v] w fun e w'=>e=.returned (.int .i64 (bB FL.length ch))/\Below w.heap.size w w':=by
 have Y:∀d,aq d fb X->d.cell? ⟨fb,6,none⟩=some (.pointer (some ⟨X.sb,0,none⟩)):=fun d h=>(aq.cells h).2.2.2.2.2.2.1
 have W:∀d,aq d fb X->d.cell? ⟨fb,2,none⟩=some (.int .i64 ch):=fun d h=>by rw[<-Z]; exact(aq.cells h).2.2.1
 have V:=H.le40
 have P:gH FL 0 FL.length=0:=mq _ fun j ax=>by have:=(H.rt j ax).id; omega
 have RD:∀d a,Below w.heap.size w d->Calls prog 34 #[some X.sb,.int .i64 v,.int .i64 a,.int .i64 ch] d fun e w'=>∃t,e=.returned t/\∃R rv,t=.tuple #[rv,.int .i64 0]/\bf 66 24 w' d.heap.size rv R/\jB FL a R/\R.length=min ch (FL.length-gH FL a FL.length)/\Below d.heap.size d w':=fun d a h=>ReadC X.sb ver sl pv LS G FL v a ch d (aj.on h) ay aA an ai H C;have ad:=ae ah;have U:=ae RD;have al:=ae P;clear ah aj H RD Z P ai;go_enter func140,ntmps140
 go_wp2_with fail
 refine z8 (S:=fun w'=>aq w' fb X) (by kernel_rfl) ?_
 change wpAnyH _ _ _ _ _ _ _ _ (World.drew _);have b:aq (World.drew w) fb X:=aa ad;have k:Below w.heap.size w (World.drew w):=zE bu;have p:=aa U (World.drew w) 0 k;generalize World.drew w=w1 at b k p ⊢;refine am 0 rfl fb 0 b ?_;refine am 1 rfl fb 0 b ?_;refine am 2 rfl fb 6 b ?_
 refine am 3 rfl X.sb 0 b ?_ (hy:=fun w' u=>by simp[go_sem,Y w' u])
 refine aH 4 rfl (.int .i64 v) b ?_;refine am 5 rfl fb 0 b ?_;refine am 6 rfl fb 0 b ?_;refine am 7 rfl fb 2 b ?_
 refine aH 8 rfl (.int .i64 ch) b ?_ (hy:=fun w' u=>by simp[go_sem,W w' u])
 refine aV 9 ?_
 refine ou 9 rfl rfl 34 #[.pointer (some ⟨X.sb,0,none⟩),.int .i64 v,.int .i64 0,.int .i64 ch] (by simp[go_sem]) _ p ?_
 rintro t ak ⟨R,rv,rfl,l,y,x,s⟩;have r:=ag b s;refine⟨r,?_⟩;simp only[qZ];have b:=r
 obtain⟨f,m,i,rfl⟩:∃a n c,rv=.slice a n c:=by
  rcases l.2 with⟨rfl,_⟩|⟨g,cap,K,rfl,_⟩
  ·exact⟨_,_,_,rfl⟩
  exact⟨_,_,_,rfl⟩
 refine aH 10 rfl (.tuple #[.slice f m i,.int .i64 0]) b ?_;refine aH 11 rfl (.slice f m i) b ?_;refine aH 12 rfl (.int .i64 0) b ?_;refine aH 13 rfl (.slice f m i) b ?_;refine aH 14 rfl (.int .i64 0) b ?_
 refine zm (by kernel_rfl) ?_ _
 have L:m=R.length:=by
  rcases l.2 with⟨q,az⟩|⟨g,cap,K,q,_⟩
  ·cases q; omega
  cases q; rfl
 subst L
 have E:Hid (gc FL ch 0 0 R/\bf 66 24 ak w1.heap.size (.slice f R.length i) R):=⟨⟨by omega,by rw[aa al]; simp,Or.inl rfl,x,y⟩,l⟩
 have J:=ae (k.trans (s.mono k.size));clear b r k s p l y x
 go_wp2
 go_loopw [5,6,7,8] (fun O aw ev _ wr=>∃(n:Nat) (a:Int) (R:List Ft) (B:Nat) (f:Option Addr) (i:Nat),O=.int .i64 n/\aw=.slice f R.length i/\ev=.int .i64 0/\Hid (gc FL ch n a R)/\Hid (bf 66 24 wr B (.slice f R.length i) R)/\Below w.heap.size w wr) (fun O _ _ _ _=>50-(intOf O).toNat)
 ·exact⟨0,0,R,_,f,i,rfl,rfl,rfl,ae (aa E).1,ae (aa E).2,aa J⟩
 obtain⟨n,a,R,B,f,i,rfl,rfl,rfl,M,T,I⟩:=hrel;have o:=aa M;have aC:=o.n40 C V
 by_cases z:R.length=0
 ·have ac:=ae (o.end_ C z)
  have D:=ae I;obtain rfl:R=[]:=yU z;clear M o T I E z
  by_cases ab:n=0
  ·subst ab
   go_wp2
   go_ret
   exact⟨aB (by have:=aa ac; simp at this; omega),aa D⟩
  have aG:¬(n:Int)=0:=by omega
  go_wp2
  go_ret
  exact⟨aB (by have:=aa ac; rw[zK ab] at this; omega),aa D⟩
 have aD:(0:Int)<R.length:=by omega
 have au:0<R.length:=by omega
 have aF:=o.len C
 have F:=l4 (.slice f R.length i) R wr ((aa T).at (by unfold maxLen; omega)) (by omega)
 have Q:=o.lid (by omega)
 have ar:=ae o;have D:=ae I;rw[Q] at F;obtain⟨A,N⟩:∃A,lP a R R.length=A:=⟨_,rfl⟩;rw[N] at F;have ao:=ae N
 have aE:R≠[]:=fun e=>z (by rw[e]; rfl)
 clear M o I E Q N z
 go_wp2_with fail
 refine F.mono ?_;rintro e aI ⟨rfl,rfl⟩;clear F
 go_wp2_with fail
 refine z8 (S:=fun w'=>aq w' fb X) (by kernel_rfl) ?_
 change wpAnyH _ _ _ _ _ _ _ _ (World.drew _);have k:Below w.heap.size w (World.drew wr):=zE (aa D);have b:aq (World.drew wr) fb X:=ag (aa ad) k;have p:=aa U (World.drew wr) A k;generalize World.drew wr=w1 at b k p ⊢;refine am 0 rfl fb 0 b ?_;refine am 1 rfl fb 0 b ?_;refine am 2 rfl fb 6 b ?_
 refine am 3 rfl X.sb 0 b ?_ (hy:=fun w' u=>by simp[go_sem,Y w' u])
 refine aH 4 rfl (.int .i64 v) b ?_;refine aH 5 rfl (.int .i64 A) b ?_;refine am 6 rfl fb 0 b ?_;refine am 7 rfl fb 0 b ?_;refine am 8 rfl fb 2 b ?_
 refine aH 9 rfl (.int .i64 ch) b ?_ (hy:=fun w' u=>by simp[go_sem,W w' u])
 refine aV 10 ?_
 refine ou 10 rfl rfl 34 #[.pointer (some ⟨X.sb,0,none⟩),.int .i64 v,.int .i64 A,.int .i64 ch] (by simp[go_sem]) _ p ?_
 rintro t ak ⟨af,rv,rfl,l,y,x,s⟩;have r:=ag b s;refine⟨r,?_⟩;simp only[qZ];have b:=r
 obtain⟨f,m,i,rfl⟩:∃a n c,rv=.slice a n c:=by
  rcases l.2 with⟨rfl,_⟩|⟨g,cap,K,rfl,_⟩
  ·exact⟨_,_,_,rfl⟩
  exact⟨_,_,_,rfl⟩
 refine aH 11 rfl (.tuple #[.slice f m i,.int .i64 0]) b ?_;refine aH 12 rfl (.slice f m i) b ?_;refine aH 13 rfl (.int .i64 0) b ?_;refine aH 14 rfl (.slice f m i) b ?_;refine aH 15 rfl (.int .i64 0) b ?_
 refine zm (by kernel_rfl) ?_ _
 have L:m=af.length:=by
  rcases l.2 with⟨q,az⟩|⟨g,cap,K,q,_⟩
  ·cases q; omega
  cases q; rfl
 subst L;have av:=ae ((aa ar).next C V au (aa ao) y x);have ap:=ae l;have J:=ae (k.trans (s.mono k.size));clear b r k s p l y x
 go_wp2
 go_roundw
 ·exact⟨n+1,A,af,_,_,_,by go_num,rfl,rfl,av,ap,aa J⟩
 simp[intOf]; omega
theorem bf.toR {w:World}{B:Nat}{v:Value}{l:List Ft}(h:bf 66 24 w B v l):ah rF 66 w v l:=by
 obtain⟨k,b⟩:=h
 rcases b with⟨rfl,d⟩|⟨g,cap,a,rfl,_,c,e,f,i,j⟩
 ·exact Or.inl ⟨rfl,yU d⟩
 exact Or.inr ⟨g,0,cap,a,rfl,c,e,f,by rw[i]; show 0+cap*24<=cap*24; omega,by rw[List.drop_zero]; exact j⟩
theorem bL.fs {w:World}{v:Value}{l:List Ft}(h:bL rF w v l):mD 24 w v l.length (gf l):=by
 obtain⟨o,cap,e,p,d,f⟩:=h;refine⟨o,cap,e,d,fun c=>?_⟩;obtain⟨b,off,a,g,k⟩:=f c;refine⟨b,off,a,g,fun i hi j n=>?_⟩
 have m:l[i]?=some (gf l i):=by
  unfold gf;rw[zQ hi];rfl
 exact k i (gf l i) m j _ (by show(cc 24 (gf l i)).toList[j]?=_; rw[yS,dc 24 _ j n])
theorem gf_l {A B:List Ft}{i:Nat}(h:i<A.length):gf (A++B) i=gf A i:=by unfold gf; rw[y3 h]
theorem gf_r {A B:List Ft}(i:Nat):gf (A++B) (A.length+i)=gf B i:=by unfold gf; rw[yk (by omega),yg]
theorem pid_l {a:Int}{A B:List Ft}{i:Nat}(h:i<=A.length):lP a (A++B) i=lP a A i:=by
 cases i with
 | zero=>rfl
 | succ i=>show gf (A++B) i 0=gf A i 0; rw[gf_l (by omega)]
theorem pid_r (a:Int)(A B:List Ft)(i:Nat):lP a (A++B) (A.length+i)=lP (lP a A A.length) B i:=by
 cases i with
 | zero=>exact pid_l aD
 | succ i=>show gf (A++B) (A.length+i) 0=gf B i 0; rw[gf_r]
theorem jB.app {FL A B:List Ft}{a:Int}(h:jB FL a A)(b:jB FL (lP a A A.length) B):jB FL a (A++B):=by
 refine⟨fun i hi=>?_,fun i hi=>?_,?_⟩
 ·by_cases c:i<A.length
  ·rw[gf_l c]; exact h.mem i c
  obtain⟨q,rfl⟩:∃q,i=A.length+q:=⟨i-A.length,by omega⟩
  rw[gf_r]; exact b.mem q (by simp at hi; omega)
 ·by_cases c:i<A.length
  ·rw[gf_l c,pid_l (by omega)]; exact h.ris i c
  obtain⟨q,rfl⟩:∃q,i=A.length+q:=⟨i-A.length,by omega⟩
  rw[gf_r,pid_r]; exact b.ris q (by simp at hi; omega)
 rw[zH,pid_r,b.cnt,h.cnt,yr]
theorem step_any (fb:Nat)(X:FV)(ver:Int)(sl pv:Value)(LS H FL R:List Ft)(ch:Nat)(g:Nat)(n r o m reads left:Int)(rv:Value)(w:World)(aB:aq w fb X)(av:X.ch=ch)(aU:1<=ch/\ch<=8)(aD:dD w X.sb 0 ver sl pv LS H)(aX:LS.length<=1000)(aY:H.length<=100)(aG:0<=ver/\ver<=100)(aC:bS 0 ver H reads=true)(I:d8 reads LS FL)
  (Y:w.heap[g]?=some (.cells #[n,r,o,m,reads,left,rv] 170)) (J:ah rF 66 w rv R) (T:jB FL 0 R) (a7:1<=left/\left<=1000) :
  Calls prog 91 #[some fb,some g] w fun e w'=>e=.returned (.tuple #[])/\(∃c rv',w'.heap[g]?=some (.cells #[n,r,o,m,reads,.int .i64 (left-1),rv'] 170)/\ah rF 66 w' rv' (R++c)/\jB FL 0 (R++c)/\c.length=min ch (FL.length-R.length)/\(rv'.ownBlock=rv.ownBlock\/∀k,rv'.ownBlock=some k->w.heap.size<=k))/\aE (fun k=>k=g\/rv.ownBlock=some k) w w':=by
 have aL:∀b,aq b fb X->b.cell? ⟨fb,6,none⟩=some (.pointer (some ⟨X.sb,0,none⟩)):=fun b h=>(aq.cells h).2.2.2.2.2.2.1
 have aK:∀b,aq b fb X->b.cell? ⟨fb,2,none⟩=some (.int .i64 ch):=fun b h=>by rw[<-av]; exact(aq.cells h).2.2.1
 have aJ:=I.le40
 have aj:gH FL 0 FL.length=0:=mq _ fun j aW=>by have:=(I.rt j aW).id; omega
 have P:gH FL (lid R) FL.length=R.length:=by have:=T.cnt; rw[aj] at this; unfold lid; omega
 have a6:R.length<=40:=by rw[<-P]; exact zF (cle_le _ _ _) aJ
 have RD:∀b,Below w.heap.size w b->Calls prog 34 #[some X.sb,reads,.int .i64 (lid R),ch] b fun e w'=>∃t,e=.returned t/\∃W rv,t=.tuple #[rv,()]/\bf 66 24 w' b.heap.size rv W/\jB FL (lid R) W/\W.length=min ch (FL.length-gH FL (lid R) FL.length)/\Below b.heap.size b w':=fun b h=>ReadC X.sb ver sl pv LS H FL reads (lid R) ch b (aD.on h) aX aY aG aC I aU;have aS:=(af Y 6).trans (show _=some rv from rfl)
 have V:=l4 rv R w J.at.fs (by omega)
 obtain⟨d,l,f,az⟩:=J.sl
 have aM:∀b:World,b.heap[g]?=some (.cells #[n,r,o,m,reads,left,rv] 170)->b.cell? ⟨g,4,none⟩=some (.int .i64 reads):=fun b h=>(af h 4).trans rfl
 have aN:=ae aB;have aR:=ae Y;have ap:=ae RD;have aP:=ae J;have aQ:=ae T;have ao:=ae P;have a2:=ae az;clear aB aD I RD av aj aC Y J T P;subst az;generalize aT:lid R=A at V ap ao;go_enter func91,ntmps91
 go_wp2_with fail
 refine V.mono ?_;rintro e bb ⟨rfl,rfl⟩;clear V aS
 go_wp2_with fail
 refine z8 (S:=fun w'=>aq w' fb X/\w'.heap[g]?=some (.cells #[n,r,o,m,reads,left,.slice d l f] 170)) (by kernel_rfl) ?_
 change wpAnyH _ _ _ _ _ _ _ _ (World.drew _)
 have a:aq (World.drew w) fb X/\(World.drew w).heap[g]?=some (.cells #[n,r,o,m,reads,left,.slice d l f] 170):=⟨aa aN,aa aR⟩
 have z:Below w.heap.size w (World.drew w):=zE bu;have N:=aa ap (World.drew w) z;generalize World.drew w=w1 at a z N ⊢;refine am 0 rfl fb 0 a ?_;refine am 1 rfl fb 0 a ?_;refine am 2 rfl fb 6 a ?_
 refine am 3 rfl X.sb 0 a ?_ (hy:=fun w' C=>by simp[go_sem,aL w' C.1])
 refine am 4 rfl g 0 a ?_;refine am 5 rfl g 0 a ?_;refine am 6 rfl g 4 a ?_
 refine aH 7 rfl (.int .i64 reads) a ?_ (hy:=fun w' C=>by simp[go_sem,aM w' C.2])
 refine aH 8 rfl (.int .i64 A) a ?_;refine am 9 rfl fb 0 a ?_;refine am 10 rfl fb 0 a ?_;refine am 11 rfl fb 2 a ?_
 refine aH 12 rfl (.int .i64 ch) a ?_ (hy:=fun w' C=>by simp[go_sem,aK w' C.1])
 refine aV 13 ?_
 refine ou 13 rfl rfl 34 #[.pointer (some ⟨X.sb,0,none⟩),reads,A,ch] (by simp[go_sem]) _ N ?_
 rintro t aF ⟨c,a9,rfl,ax,U,D,F⟩
 have O:aq aF fb X/\aF.heap[g]?=some (.cells #[n,r,o,m,reads,left,.slice d l f] 170):=⟨ag a.1 F,ag a.2 F⟩
 refine⟨O,?_⟩;simp only[qZ];have a:=O;have M:=ax.toR;obtain⟨Z,ac,ab,rfl⟩:=M.sl;refine aH 14 rfl (.tuple #[.slice Z ac ab,()]) a ?_;refine aH 15 rfl (.slice Z ac ab) a ?_;refine aH 16 rfl (.int .i64 0) a ?_;refine aH 17 rfl (.slice Z ac ab) a ?_;refine aH 18 rfl (.int .i64 0) a ?_
 refine zm (by kernel_rfl) ?_ _
 have E:=z.trans (F.mono z.size);have Q:=(aa aP).on E
 obtain⟨ba,L,aZ,K,ad,y⟩:=apF Q M.at (by have:=D; omega)
 have ak:=au Q a.2 (by decide)
 have B:=(ad.block g (an a.2) (fun q=>ak g q.symm rfl)).trans a.2;have a1:=bi B 6;have a5:=(af B 6).trans (show _=some (Value.slice d l f) from rfl);obtain⟨u,x,v,rfl⟩:=K.sl;have G:=dZ (i:=6) B (.slice u x v);have a0:=bi G 5;have a3:=(af G 5).trans (show _=some (Value.int .i64 left) from rfl);have aA:=dZ (i:=5) G (.int .i64 (left-1))
 have a8:IntKind.i64.wrap (left-1)=left-1:=bG _ (by omega)
 have ay:ah rF 66 ((L.setCell ⟨g,6,none⟩ (.slice u x v)).setCell ⟨g,5,none⟩ (.int .i64 (left-1))) (.slice u x v) (R++c):=by
  have aw:=au K B (by decide)
  refine(K.same fun k s=>zW _ _ _ _ (aw k s)).same fun k s=>zW _ _ _ _ (aw k s)
 have ar:aE (fun k=>k=g\/Value.ownBlock (.slice d l f)=some k) w ((L.setCell ⟨g,6,none⟩ (.slice u x v)).setCell ⟨g,5,none⟩ (.int .i64 (left-1))):=
  (((aE.of_below (S:=fun k=>k=g\/Value.ownBlock (.slice d l f)=some k) E).grown ad (fun k s _=>Or.inr s)).setCell (p:=⟨g,6,none⟩) _ (fun _=>Or.inl rfl)).setCell (p:=⟨g,5,none⟩) _ (fun _=>Or.inl rfl)
 have al:jB FL 0 (R++c):=(aa aQ).app (by rw[<-aT] at U; exact U)
 have ai:c.length=min ch (FL.length-R.length):=by rw[aa ao] at D; exact D
 have aO:Hid (∃c rv',((L.setCell ⟨g,6,none⟩ (.slice u x v)).setCell ⟨g,5,none⟩ (.int .i64 (left-1))).heap[g]?=some (.cells #[n,r,o,m,reads,.int .i64 (left-1),rv'] 170)/\ah rF 66 ((L.setCell ⟨g,6,none⟩ (.slice u x v)).setCell ⟨g,5,none⟩ (.int .i64 (left-1))) rv' (R++c)/\jB FL 0 (R++c)/\c.length=min ch (FL.length-R.length)/\(rv'.ownBlock=Value.ownBlock (.slice d l f)\/∀k,rv'.ownBlock=some k->w.heap.size<=k)):=
  ⟨c,.slice u x v,aA,ay,al,ai,by
   rcases y with y|y
   ·exact Or.inl y
   exact Or.inr fun k s=>by have:=y k s; have:=E.size; omega⟩
 have aI:=ae ar;have a4:=(af a.2 6).trans (show _=some (Value.slice d l f) from rfl);clear O z F N ax U D a M E Q K ad y ak B G aA ay ar al ai
 go_wp2_with (first|(at_builtin; refine fS 62 aZ rfl _ _ rfl rfl rfl rfl ?_))
 exact yB (yY results91 _ _ _) rfl ⟨rfl,aa aO,aa aI⟩
section
variable {ops:Array Oper}{rest:List Oper}{o:Oper}{a:Act}{Q:Exit->Act->World->Prop}{w:World}
theorem cU (w1:World)(d:(execOp a.eval o).run prog w=.ok .skip w1)(b:o.guard=none)(h:wpList prog ops Q rest (a.put o.dst undef) w1):wpList prog ops Q (o::rest) a w:=
 wpList_plain b fun _ c=>by
  unfold Oper.wp;rw[d];exact c _ _ h
end
theorem kO (ev:Operand->Value)(o:Oper)(x y:Operand)(d:o.op=.store 3 x y)(g i:Nat)(n:Int)(e:ev x=.pointer (some ⟨g,i,none⟩))(hy:ev y=.int .i64 n)(w w1:World){u:Value}(b:w.cell? ⟨g,i,none⟩=some u)(c:w.frozen? ⟨g,i,none⟩=false)(a:w.setCell ⟨g,i,none⟩ (.int .i64 n)=w1):(execOp ev o).run prog w=.ok .skip w1:=by
 subst a;unfold execOp;simp only[d,e,hy];simp[go_sem,b,c]
theorem stS1 (ev:Operand->Value)(o:Oper)(x y:Operand)(t:TypeId)(f:o.op=.store t x y)(h:∀w,(sizeOf t).run prog w=.ok 1 w)(fb i:Nat)(a:Option Addr)(n c:Nat)(g:ev x=.pointer (some ⟨fb,i,none⟩))(hy:ev y=.slice a n c)(w w1:World){u:Value}(d:w.cell? ⟨fb,i,none⟩=some u)(e:w.frozen? ⟨fb,i,none⟩=false)(b:w.setCell ⟨fb,i,none⟩ (.slice a n c)=w1):(execOp ev o).run prog w=.ok .skip w1:=by
 subst b;exact stS ev o x y t f h fb i a n c g hy w d e
theorem bt102 (b d c a:Int)(ev:Operand->Value)(o:Oper)(x:Operand)(f:o.op=.build 170 #[(0,x)])(g:ev x=.agg #[b,d,c,a])(w:World):(execOp ev o).run prog w=.ok (.value (.agg #[b,d,c,a,(),(),.slice none 0 0])) w:=by
 have e:=run_build (P:=prog) w 170 #[(0,.agg #[b,d,c,a])] #[b,d,c,a,(),(),.slice none 0 0] (by kernel_rfl)
 unfold execOp;simp[f,g,e]
theorem bx102 (b d c a:Int)(ev:Operand->Value)(o:Oper)(x:Operand)(f:o.op=.box 170 x)(g:ev x=.agg #[b,d,c,a,(),(),.slice none 0 0])(w w1:World)(e:w.alloc (.cells #[b,d,c,a,(),(),.slice none 0 0] 170)=w1):(execOp ev o).run prog w=.ok (.value (.pointer (some ⟨w.heap.size,0,none⟩))) w1:=by
 subst e;unfold execOp;simp only[f,g]
 kernel_rfl
theorem ah.rest {α:Type}{R:dR α}{T:TypeId}{w:World}{g off cap:Nat}{a:α}{l:List α}(h:ah R T w (.slice (some ⟨g,off,none⟩) (l.length+1) cap) (a::l)):ah R T w (.slice (some (if cap=1 then ⟨g,off,none⟩ else ⟨g,off+R.wid,none⟩)) l.length (cap-1)) l:=by
 by_cases c:cap=1
 ·subst c
  obtain⟨e,b⟩:=ah.tail0 h;subst e;rw[zJ rfl];exact b
 rw[zK c];exact ah.tail h
theorem sl93 (ev:Operand->Value)(o:Oper)(x:Operand)(b off n cap:Nat)(e:o.op=.slice 127 x (some (.const (.int .i64 1))) none none)(f:ev x=.slice (some ⟨b,off,none⟩) (n+1) cap)(d:ev (.const (.int .i64 1))=.int .i64 1)(g:n+1<=cap)(a:World):(execOp ev o).run prog a=.ok (.value (.slice (some (if cap=1 then ⟨b,off,none⟩ else ⟨b,off+4,none⟩)) n (cap-1))) a:=by
 unfold execOp;simp only[e,Option.map_some,Option.map_none,f,d]
 by_cases c:cap=1
 ·subst c
  obtain rfl:n=0:=by omega
  simp[go_sem]
 simp[go_sem,c];intro h;omega
theorem heldNow (ver:Int)(a:List Ft)(h:0<=ver):bS 0 ver a ver=true:=by unfold bS; simp[h]
theorem take_none (fb:Nat)(X:FV)(w:World)(a:aq w fb X)(b:ah bT 39 w X.lv []):
  Calls prog 90 #[some fb] w fun e w'=>e=.returned (.pointer none)/\w=w':=by
 obtain⟨c,cap,e,_⟩:=b.at
 have d:w.cell? ⟨fb,8,none⟩=some (.slice c 0 cap):=by rw[show(Value.slice c 0 cap)=X.lv from e.symm]; exact a.cells.2.2.2.2.2.2.2.2.1
 clear a b e;go_enter func90,ntmps90
 go_wp2
 go_ret;exact⟨rfl,rfl⟩
theorem take_some (fb:Nat)(X:FV)(ver:Int)(sl pv:Value)(LS FL:List Ft)(PI:List Int)(ch:Nat)(f m j d:Int)(rest:List K4)(w:World)(B:aq w fb X)(aP:X.ch=ch)(bV:1<=ch/\ch<=8)(aK:dD w X.sb 0 ver sl pv LS (ri PI))(bX:LS.length<=1000)(b9:PI.length<6)(V:0<=ver/\ver<=100)(a7:d8 ver LS FL)(b5:0<=X.st/\X.st<=1000000000000)(a8:ah bT 39 w X.lv (⟨f,m,j,d⟩::rest)):
  Calls prog 90 #[some fb] w fun e w'=>e=.returned (.pointer (some ⟨w.heap.size,0,none⟩))/\w'.heap[w.heap.size]?=some (.cells #[f,m,j,d,ver,.int .i64 (bB FL.length ch),.slice none 0 0] 170)/\(∃A r,aq w' fb { X with lv:=A,st:=X.st+1 }/\ah bT 39 w' A rest/\A.ownBlock=X.lv.ownBlock/\dD w' X.sb 0 ver sl r LS (ri (PI++[ver]))/\(r.ownBlock=pv.ownBlock\/∀g,r.ownBlock=some g->w.heap.size<=g))/\aE (fun k=>k=fb\/k=X.sb\/pv.ownBlock=some k) w w':=by
 have bf:=an B;have aj:=a8
 rcases a8 with⟨_,e⟩|⟨b,off,cap,b4,z,be,ao,bg,bM,bO⟩
 ·simp at e
 simp only[zS] at ao z
 have bR:w.cell? ⟨fb,8,none⟩=some (.slice (some ⟨b,off,none⟩) (rest.length+1) cap):=by rw[<-z]; exact B.cells.2.2.2.2.2.2.2.2.1
 have bN:w.rangeAt b off (#[f,m,j,d]:Array Value).toList:=by
  obtain⟨ca,b8,a6,_,_,bK⟩:=aj.at
  obtain⟨b6,b1,bU,_,bL⟩:=bK (by simp)
  rw[z] at a6;cases a6;cases bU
  have:=bL 0 ⟨f,m,j,d⟩ rfl
  rw[Nat.zero_mul,yG] at this;exact this
 have aA:=sl93 (b:=b) (off:=off) (n:=rest.length) (cap:=cap)
 have T:=ah.rest (a:=⟨f,m,j,d⟩) (l:=rest) (R:=bT) (show ah bT 39 w (.slice (some ⟨b,off,none⟩) (rest.length+1) cap) _ by rw[<-z]; exact aj)
 have aL:(if cap=1 then (⟨b,off,none⟩:Addr) else ⟨b,off+4,none⟩).block=b:=by split<;>rfl
 change ah bT 39 w (.slice (some (if cap=1 then ⟨b,off,none⟩ else ⟨b,off+4,none⟩)) rest.length (cap-1)) rest at T
 obtain⟨c,a2⟩:∃c,(if cap=1 then (⟨b,off,none⟩:Addr) else ⟨b,off+4,none⟩)=c:=⟨_,rfl⟩
 rw[a2] at T aL aA;have bv:=ae aA;clear aA a2
 have I:=(zV w.heap.size w).alloc aD (.cells #[f,m,j,d,(),(),.slice none 0 0] 170)
 have ac:aq (w.alloc (.cells #[f,m,j,d,(),(),.slice none 0 0] 170)) fb X:=ag B I
 have ax:=zZ w (.cells #[f,m,j,d,(),(),.slice none 0 0] 170)
 obtain⟨Q,aJ⟩:∃Q,w.alloc (.cells #[f,m,j,d,(),(),.slice none 0 0] 170)=Q:=⟨_,rfl⟩
 rw[aJ] at I ac ax;have bF:Q.cell? ⟨fb,8,none⟩=some (.slice (some ⟨b,off,none⟩) (rest.length+1) cap):=(I.cell (p:=⟨fb,8,none⟩) bf).trans bR;have bJ:=jU ac 8
 have ai:w.heap.size≠fb:=by omega
 have J:=aq.set ac 8 (.slice (some c) rest.length (cap-1)) (FV.set_lv X _);have av:=(zW Q ⟨fb,8,none⟩ (.slice (some c) rest.length (cap-1)) w.heap.size ai).trans ax;have ap:=(aE.of_below (S:=fun k=>k=fb) I).setCell (p:=⟨fb,8,none⟩) (.slice (some c) rest.length (cap-1)) (fun _=>rfl);obtain⟨O,aC⟩:∃O,Q.setCell ⟨fb,8,none⟩ (.slice (some c) rest.length (cap-1))=O:=⟨_,rfl⟩;rw[aC] at J av ap;have bH:=jU J 5;have bD:O.cell? ⟨fb,5,none⟩=some (.int .i64 X.st):=(aq.cells J).2.2.2.2.2.1;have Z:=aq.set J 5 (.int .i64 (X.st+1)) (FV.set_st _ _);have K:=(zW O ⟨fb,5,none⟩ (.int .i64 (X.st+1)) w.heap.size ai).trans av;have W:=ap.setCell (p:=⟨fb,5,none⟩) (.int .i64 (X.st+1)) (fun _=>rfl);obtain⟨C,aF⟩:∃C,O.setCell ⟨fb,5,none⟩ (.int .i64 (X.st+1))=C:=⟨_,rfl⟩;rw[aF] at Z K W;have b3:C.cell? ⟨fb,6,none⟩=some (.pointer (some ⟨X.sb,0,none⟩)):=(aq.cells Z).2.2.2.2.2.2.1;have bd:=bi K 4;have bC:C.cell? ⟨w.heap.size,4,none⟩=some (.int .i64 0):=(af K 4).trans rfl
 have aw:(C.setCell ⟨w.heap.size,4,none⟩ (.int .i64 ver)).heap[w.heap.size]?=some (.cells #[f,m,j,d,ver,(),.slice none 0 0] 170):=dZ (i:=4) K (.int .i64 ver)
 have ar:aq (C.setCell ⟨w.heap.size,4,none⟩ (.int .i64 ver)) fb { X with lv:=(.slice (some c) rest.length (cap-1)),st:=X.st+1 }:=(zW _ _ _ _ (Ne.symm ai)).trans Z
 have H:=W.setCell (p:=⟨w.heap.size,4,none⟩) (.int .i64 ver) (fun h=>absurd h (by show ¬w.heap.size<w.heap.size; omega))
 obtain⟨x,aG⟩:∃x,C.setCell ⟨w.heap.size,4,none⟩ (.int .i64 ver)=x:=⟨_,rfl⟩;rw[aG] at ar aw H;have aZ:=aK.fb B W;have a0:=aK.fb B H
 have aU:ah bT 39 x (.slice (some c) rest.length (cap-1)) rest:=by
  have bY:=au aj B (by decide) b (by rw[z]; rfl)
  exact T.frm H (fun k s=>by simp[Value.ownBlock] at s; omega)
 have a5:=dQ X.sb 0 ver sl pv LS (ri PI) _ aZ
 have b0:IntKind.i64.wrap (X.st+1)=X.st+1:=bG _ (by omega)
 have bb:=ae ao;have bk:=ae ar;have bn:=ae aw;have bs:=ae a0;have bp:=ae aU;have F:=ae H;have bQ:=ae a7;have bc:=ae z;have bj:=ae aP;have bA:=ae aJ;have bw:=ae aC;have bx:=ae aF;have bz:=ae aG;clear B aK a7 aU a0 aZ ar aw H W aj be bM bO ac ax z I J Z aP ao bg T aJ aC aF aG av K ap ai;go_enter func90,ntmps90
 go_wp2_with (first|refine vM bN rfl _ rfl rfl ?_|refine cP _ _ (bt102 f m j d _ _ _ rfl rfl _) rfl ?_|refine cP _ _ (bx102 f m j d _ _ _ rfl rfl _ _ (aa bA)) rfl ?_|refine cU _ (stS1 _ _ _ _ 127 rfl (fun _=>by simp[go_sem]) fb 8 (some c) rest.length (cap-1) rfl rfl _ _ bF bJ (aa bw)) rfl ?_|refine cP _ _ (aa bv _ _ _ rfl rfl rfl (aa bb) _) rfl ?_|refine cU _ (kO _ _ _ _ rfl fb 5 (X.st+1) rfl rfl _ _ bD bH (aa bx)) rfl ?_)
 refine a5.mono ?_;rintro e cb ⟨rfl,rfl⟩;clear a5
 go_wp2_with (refine cU _ (kO _ _ _ _ rfl w.heap.size 4 ver rfl rfl _ _ bC bd (aa bz)) rfl ?_)
 refine z8 (S:=fun w'=>aq w' fb ({ X with lv:=(.slice (some c) rest.length (cap-1)),st:=X.st+1 }:FV)/\w'.heap[w.heap.size]?=some (.cells #[f,m,j,d,ver,(),.slice none 0 0] 170)) (by kernel_rfl) ?_
 change wpAnyH _ _ _ _ _ _ _ _ (World.drew _)
 have o:aq (World.drew x) fb ({ X with lv:=(.slice (some c) rest.length (cap-1)),st:=X.st+1 }:FV)/\(World.drew x).heap[w.heap.size]?=some (.cells #[f,m,j,d,ver,(),.slice none 0 0] 170):=⟨aa bk,aa bn⟩
 have t:dD (World.drew x) X.sb 0 ver sl pv LS (ri PI):=(aa bs).on (zE bu);have L:ah bT 39 (World.drew x) (.slice (some c) rest.length (cap-1)) rest:=aa bp;have Y:aE (fun k=>k=fb) w (World.drew x):=⟨(aa F).os,(aa F).tape,(aa F).output,(aa F).size,(aa F).block⟩;generalize World.drew x=ak at o t L Y ⊢
 have a3:Calls prog 30 #[some X.sb,ver] ak fun e w'=>e=.returned (.int .i64 0)/\(aE (fun k=>k=X.sb\/pv.ownBlock=some k) ak w'/\∃r,dD w' X.sb 0 ver sl r LS (ri (PI++[ver]))/\(r.ownBlock=pv.ownBlock\/∀g,r.ownBlock=some g->ak.heap.size<=g)):=by
  refine(Pin_any X.sb 0 ver sl pv LS PI ver ak t (fun g bW e=>by
   obtain⟨N,u⟩:=t.pins.ty bW;obtain⟨b7,bS⟩:=t.own.ty e
   exact aI u bS (by decide) rfl) (by omega) ⟨by omega,by omega⟩ V).mono ?_
  rintro e w' (⟨q,_⟩|⟨_,q,_⟩|⟨_,_,rfl,q1,q2⟩)
  ·rw[heldNow ver _ V.1] at q; cases q
  ·omega
  exact⟨rfl,⟨q1.os,q1.tape,q1.output,q1.size,q1.block⟩,q2⟩
 have aM:∀D,aq D fb ({ X with lv:=(.slice (some c) rest.length (cap-1)),st:=X.st+1 }:FV)->D.cell? ⟨fb,6,none⟩=some (.pointer (some ⟨X.sb,0,none⟩)):=fun D h=>(aq.cells h).2.2.2.2.2.2.1
 have al:∀D:World,D.heap[w.heap.size]?=some (.cells #[f,m,j,d,ver,(),.slice none 0 0] 170)->D.cell? ⟨w.heap.size,4,none⟩=some (.int .i64 ver):=fun D h=>(af h 4).trans rfl
 refine am 0 rfl fb 0 o ?_;refine am 1 rfl fb 0 o ?_;refine am 2 rfl fb 6 o ?_
 refine am 3 rfl X.sb 0 o ?_ (hy:=fun w' aB=>by simp[go_sem,aM w' aB.1])
 refine am 4 rfl w.heap.size 0 o ?_;refine am 5 rfl w.heap.size 0 o ?_;refine am 6 rfl w.heap.size 4 o ?_
 refine aH 7 rfl (.int .i64 ver) o ?_ (hy:=fun w' aB=>by simp[go_sem,al w' aB.2])
 refine aV 8 ?_
 refine it 8 rfl rfl 30 #[.pointer (some ⟨X.sb,0,none⟩),ver] (by simp[go_sem]) (.int .i64 0) _ a3 ?_
 rintro P ⟨G,r,az,aY⟩
 have a9:¬(fb=X.sb\/pv.ownBlock=some fb):=by
  rintro(q|q)
  ·exact aI o.1 t.blk (by decide) q
  obtain⟨N,u⟩:=t.pins.ty q; exact aI u o.1 (by decide) rfl
 have ba:¬(w.heap.size=X.sb\/pv.ownBlock=some w.heap.size):=by
  rintro(q|q)
  ·exact aI o.2 t.blk (by decide) q
  obtain⟨N,u⟩:=t.pins.ty q; exact aI u o.2 (by decide) rfl
 have ab:aq P fb ({ X with lv:=(.slice (some c) rest.length (cap-1)),st:=X.st+1 }:FV):=aQ o.1 G a9;have ad:=aQ o.2 G ba
 have aW:ah bT 39 P (.slice (some c) rest.length (cap-1)) rest:=L.frm G (fun k s=>by
  rintro(q|q)
  ·subst q; exact au L t.blk (by decide) _ s rfl
  obtain⟨N,u⟩:=t.pins.ty q; exact au L u (by decide) _ s rfl)
 have aO:aE (fun k=>k=fb\/k=X.sb\/pv.ownBlock=some k) w P:=(Y.mono (fun k _ q=>Or.inl q)).then G (fun k _ q=>Or.inr q);have bZ:=Y.size;refine⟨⟨ab,ad⟩,?_⟩;simp only[qZ]
 refine zm (by kernel_rfl) ?_ _
 have a4:=steps_any fb ({ X with lv:=(.slice (some c) rest.length (cap-1)),st:=X.st+1 }:FV) ver ver sl r LS (ri (PI++[ver])) FL ch P ab (aa bj) bV az bX (by rw[fI]; simp; omega) V (heldNow ver _ V.1) (aa bQ)
 have b2:=al P ad;have bl:=ae ab;have bo:=ae ad;have bq:=ae aW;have bt:=ae az;have bm:=ae aO;have br:=ae aY;clear o t L Y a3 aM al G az aY a9 ba ab ad aW aO
 go_wp2_with fail
 refine a4.mono ?_;rintro e v ⟨rfl,E⟩;have aR:=ag (aa bl) E;have y:=ag (aa bo) E;have bI:=bi y 5;have bE:=(af y 5).trans (show _=some (Value.int .i64 0) from rfl)
 have aT:(v.setCell ⟨w.heap.size,5,none⟩ (.int .i64 (bB FL.length ch))).heap[w.heap.size]?=some (.cells #[f,m,j,d,ver,.int .i64 (bB FL.length ch),.slice none 0 0] 170):=dZ (i:=5) y (.int .i64 (bB FL.length ch))
 have bh:fb≠w.heap.size:=by omega
 have aS:aq (v.setCell ⟨w.heap.size,5,none⟩ (.int .i64 (bB FL.length ch))) fb ({ X with lv:=(.slice (some c) rest.length (cap-1)),st:=X.st+1 }:FV):=(zW _ _ _ _ bh).trans aR;have U:aE (fun k=>k=w.heap.size) v (v.setCell ⟨w.heap.size,5,none⟩ (.int .i64 (bB FL.length ch))):=(aE.rfl' _ _).setCell (p:=⟨w.heap.size,5,none⟩) _ (fun _=>rfl);have ay:=(aa bq).on E
 have aX:=ay.frm U (fun k s=>au ay y (by decide) k s)
 have M:=(aa bt).on E
 have a1:dD (v.setCell ⟨w.heap.size,5,none⟩ (.int .i64 (bB FL.length ch))) X.sb 0 ver sl r LS (ri (PI++[ver])):=M.frm U (aI M.blk y (by decide)) (fun k s=>by obtain⟨N,u⟩:=M.own.ty s; exact aI u y (by decide)) (fun k s=>by obtain⟨N,u⟩:=M.pins.ty s; exact aI u y (by decide))
 have aN:=((aa bm).then (aE.of_below (S:=fun _=>False) E) (fun _ _ q=>q.elim)).then U (fun k s q=>by subst q; exact absurd s (Nat.lt_irrefl _))
 have bP:Hid ((v.setCell ⟨w.heap.size,5,none⟩ (.int .i64 (bB FL.length ch))).heap[w.heap.size]?=some (.cells #[f,m,j,d,ver,.int .i64 (bB FL.length ch),.slice none 0 0] 170)/\(∃A r,aq (v.setCell ⟨w.heap.size,5,none⟩ (.int .i64 (bB FL.length ch))) fb { X with lv:=A,st:=X.st+1 }/\ah bT 39 (v.setCell ⟨w.heap.size,5,none⟩ (.int .i64 (bB FL.length ch))) A rest/\A.ownBlock=X.lv.ownBlock/\dD (v.setCell ⟨w.heap.size,5,none⟩ (.int .i64 (bB FL.length ch))) X.sb 0 ver sl r LS (ri (PI++[ver]))/\(r.ownBlock=pv.ownBlock\/∀g,r.ownBlock=some g->w.heap.size<=g))/\aE (fun k=>k=fb\/k=X.sb\/pv.ownBlock=some k) w (v.setCell ⟨w.heap.size,5,none⟩ (.int .i64 (bB FL.length ch)))):=by
  refine⟨aT,⟨(.slice (some c) rest.length (cap-1)),r,aS,aX,by rw[aa bc]; show some c.block=some b; rw[aL],a1,?_⟩,aN⟩
  rcases aa br with q|q
  ·exact Or.inl q
  exact Or.inr fun k s=>by have:=q k s; omega
 clear E aR y aT aS U ay aX M a1 aN a4
 go_wp2_with (refine cU _ (kO _ _ _ _ rfl w.heap.size 5 (bB FL.length ch) rfl rfl _ _ bE bI rfl) rfl ?_)
 go_ret;exact⟨rfl,aa bP⟩
theorem rngB {f:World}{g:Nat}{c e d b reads left:Int}{rv:Value}(h:f.heap[g]?=some (.cells #[c,e,d,b,reads,left,rv] 170)):f.rangeAt g 0 (#[c,e,d,b]:Array Value).toList:=by
 intro j v a;rw[af h,zb]
 rcases j with _|_|_|_|j
 ·exact a
 ·exact a
 ·exact a
 ·exact a
 simp at a
structure FinR (fb g:Nat)(X:FV)(room:Nat)(ver:Int)(sl:Value)(LS R:List Ft)(PI:List Int)(ws:List dJ)(ls:List K4)(cs:List aL)(b:K4)(reads:Int)(w:World)(rv:Value)(w':World):Prop where
 reps:ah bE 103 w' rv (dI ver LS (b.keys.map (bR R LS reads)) reads ws)
 repf:∀k,rv.ownBlock=some k->w.heap.size<=k
 rest:∃wv' lv' tv' pv',aq w' fb { X with wv:=wv',lv:=lv',tv:=tv' }/\ah cW 201 w' wv' (cN ver LS (b.keys.map (bR R LS reads)) reads ws)/\ah aW 196 w' tv' (cR ver LS room reads cs (b.keys.map (bR R LS reads))) /\
  ah bT 39 w' lv' (if 0<aC (cN ver LS (b.keys.map (bR R LS reads)) reads ws) b then ls++[b] else ls)/\dD w' X.sb 0 ver sl pv' LS (ri (PI.erase reads)) /\
  (∀k,wv'.ownBlock=some k->w.heap.size<=k)/\(∀k,tv'.ownBlock=some k->X.tv.ownBlock=some k\/w.heap.size<=k)/\(∀k,lv'.ownBlock=some k->X.lv.ownBlock=some k\/w.heap.size<=k)/\(∀k,pv'.ownBlock=some k->w.heap.size<=k)
 frm:aE (fun k=>k=fb\/k=X.sb\/X.lv.ownBlock=some k) w w'
theorem finish_any (fb : Nat) (X : FV) (room : Nat) (ver : Int) (sl pv : Value) (LS R : List Ft) (PI : List Int) (ws : List dJ) (O : List K4) (cs : List aL) (g : Nat) (d f c b reads left : Int) (rv : Value) (w : World) (bg : aq w fb X) (cw : X.rm = room) (c6 : room ≤ 1000000) (bL : dD w X.sb 0 ver sl pv LS (ri PI)) (bK : LS.length ≤ 1000) (a : ∀ k ∈ (⟨d, f, c, b⟩ : K4).keys, dy k) (df : 0 ≤ c ∧ c ≤ 4194304) (hy : 0 ≤ b ∧ b ≤ 4194304) (de : 0 ≤ reads ∧ reads ≤ ver) (cQ : ver ≤ 100) (cK : Glb w)
    (da : PI.length ≤ 6) (c2 : reads ∈ PI) (bh : w.heap[g]? = some (.cells #[d, f, c, b, reads, left, rv] 170)) (cr : ah rF 66 w rv R) (cP : R.length ≤ 40) (cl : ∀ i, i < R.length → Rt (gf R i)) (cv : ah cW 201 w X.wv ws) (cp : ∀ aS ∈ ws, dy aS.k) (ct : ah bT 39 w X.lv O) (cu : ah aW 196 w X.tv cs) (dn : ws.length ≤ 100000) (dm : O.length ≤ 100000) (c4 : cs.length ≤ 1000) (c0 : aA cs ≤ 1000000) :
    Calls prog 92 #[.pointer (some ⟨fb, 0, none⟩), .pointer (some ⟨g, 0, none⟩)] w fun e w' => ∃ v, e = .returned v ∧ FinR fb g X room ver sl LS R PI ws O cs ⟨d, f, c, b⟩ reads w v w' := by
  have bJ := paint_any fb X ver sl pv LS (ri PI) R g d f c b reads left rv w bg bL bK a df hy de cQ cK bh cr.at.fs cP cl
  have co : ∀ t ∈ (⟨d, f, c, b⟩ : K4).keys.map (bR R LS reads), dy t.k ∧ t.body.size ≤ 1000000 := by
    intro t dd
    obtain ⟨k, c3, rfl⟩ := yH.1 dd
    have := gu cl k
    exact ⟨a k c3, by show (cg R k).size ≤ _; omega⟩
  have cq : ((⟨d, f, c, b⟩ : K4).keys.map (bR R LS reads)).length ≤ 1000 := by have := keys_len ⟨d, f, c, b⟩; rw [zY]; omega
  have c7 := ae bg
  have c8 := ae bL
  have c9 := ae bh
  have cV := ae cv
  have cT := ae ct
  have cU := ae cu
  have cj := ae cp
  have ci := ae co
  have cX := ae cw
  have dh := an bg
  have di := an bh
  clear bg bL bh cv ct cu cp co cK cr a cw
  generalize cm : (⟨d, f, c, b⟩ : K4).keys.map (bR R LS reads) = ts at bJ ci cq
  have T := ae cm
  clear cm
  go_enter func92, ntmps92
  go_wp2_with fail
  refine bJ.mono ?_
  rintro e w1 ⟨⟨dq, rfl, bp, b1⟩, aN⟩
  have cn := ag (aa c7) aN
  have cA := ag (aa c9) aN
  have cx := (aa c8).on aN
  have ch := ae aN
  have cM := ae bp
  have dg := ae b1
  obtain ⟨bN, bQ, bO, rfl⟩ := bp.sl
  clear bJ aN bp b1
  go_wp2_with fail
  refine z8 (S := fun w' => aq w' fb X ∧ w'.heap[g]? = some (.cells #[d, f, c, b, reads, left, rv] 170)) (by kernel_rfl) ?_
  change wpAnyH _ _ _ _ _ _ _ _ (World.drew _)
  have j : aq (World.drew w1) fb X ∧ (World.drew w1).heap[g]? = some (.cells #[d, f, c, b, reads, left, rv] 170) := ⟨cn, cA⟩
  have o : Below w1.heap.size w1 (World.drew w1) := zE bu
  have L := cx.on o
  have al := (aa ch).trans (o.mono (aa ch).size)
  have aT := (aa cM).on o
  generalize World.drew w1 = bk at j L al aT o ⊢
  have cI : Calls prog 32 #[.pointer (some ⟨X.sb, 0, none⟩), reads] bk fun e w' => e = .returned (.int .i64 0) ∧ (aE (fun k => k = X.sb) bk w' ∧ ∃ cB, dD w' X.sb 0 ver sl cB LS (ri (PI.erase reads)) ∧ ∀ q, cB.ownBlock = some q → bk.heap.size ≤ q) := by
    refine (Unpin_any X.sb 0 ver sl pv LS PI reads bk L da).mono ?_
    rintro e w' (⟨q, _⟩ | ⟨_, rfl, q1, q2⟩)
    · exact absurd c2 q
    · exact ⟨rfl, ⟨q1.os, q1.tape, q1.output, q1.size, q1.block⟩, q2⟩
  have ck : ∀ av, aq av fb X → av.cell? ⟨fb, 6, none⟩ = some (.pointer (some ⟨X.sb, 0, none⟩)) := fun av h => (aq.cells h).2.2.2.2.2.2.1
  have a7 : ∀ av : World, av.heap[g]? = some (.cells #[d, f, c, b, reads, left, rv] 170) → av.cell? ⟨g, 4, none⟩ = some (.int .i64 reads) := fun av h => (af h 4).trans rfl
  refine am 0 rfl fb 0 j ?_
  refine am 1 rfl fb 0 j ?_
  refine am 2 rfl fb 6 j ?_
  refine am 3 rfl X.sb 0 j ?_ (hy := fun w' aP => by simp [go_sem, ck w' aP.1])
  refine am 4 rfl g 0 j ?_
  refine am 5 rfl g 0 j ?_
  refine am 6 rfl g 4 j ?_
  refine aH 7 rfl (.int .i64 reads) j ?_ (hy := fun w' aP => by simp [go_sem, a7 w' aP.2])
  refine aV 8 ?_
  refine it 8 rfl rfl 32 #[.pointer (some ⟨X.sb, 0, none⟩), reads] (by simp [go_sem]) (.int .i64 0) _ cI ?_
  rintro u ⟨U, M, bB, ca⟩
  have a9 : aq u fb X := aQ j.1 U (aI j.1 L.blk (by decide))
  have bc := aQ j.2 U (aI j.2 L.blk (by decide))
  have bl := aT.frm U (fun k a => au aT L.blk (by decide) k a)
  have bq := (aa cV).on al
  have bn := (aa cT).on al
  have bo := (aa cU).on al
  have b8 := bq.frm U (fun k a => au bq L.blk (by decide) k a)
  have b2 := bn.frm U (fun k a => au bn L.blk (by decide) k a)
  have b5 := bo.frm U (fun k a => au bo L.blk (by decide) k a)
  have bm : aE (fun k => k = fb ∨ k = X.sb ∨ X.lv.ownBlock = some k) w u := (aE.of_below al).then U (fun k _ q => Or.inr (Or.inl q))
  have dj : w.heap.size ≤ u.heap.size := bm.size
  have bU : ∀ q, M.ownBlock = some q → w.heap.size ≤ q := fun q db => by have := ca q db; have := al.size; omega
  refine ⟨⟨a9, bc⟩, ?_⟩
  simp only [qZ]
  refine zm (by kernel_rfl) ?_ _
  have cC := mB fb X ver sl M LS (ri (PI.erase reads)) ws (.slice bN bQ bO) ts reads u a9 bB bK (by omega) b8 (aa cj) bl.at (by omega)
  have cY := a7 u bc
  have cE := ae (show aq u fb X ∧ u.heap[g]? = some (.cells #[d, f, c, b, reads, left, rv] 170) ∧ ah aW 196 u (.slice bN bQ bO) ts ∧ ah bT 39 u X.lv O ∧ ah aW 196 u X.tv cs ∧ dD u X.sb 0 ver sl M LS (ri (PI.erase reads)) ∧ aE (fun k => k = fb ∨ k = X.sb ∨ X.lv.ownBlock = some k) w u from ⟨a9, bc, bl, b2, b5, bB, bm⟩)
  have bV := ae bU
  have cS := ae a7
  clear cn cA cx j L al aT o cI ck U bB ca a9 bc bl bq bn bo b8 b2 b5 bm bU a7
  go_wp2_with fail
  refine cC.mono ?_
  rintro e P ⟨⟨dp, rfl, bA, cd⟩, ⟨r, bw, b9, cf⟩, V⟩
  obtain ⟨l, D, E, F, G, Y, Z⟩ := aa cE
  have bF := aQ D V (aI D l (by decide))
  have bS := E.frm V (fun k a => au E l (by decide) k a)
  have b3 := F.frm V (fun k a => au F l (by decide) k a)
  have b6 := G.frm V (fun k a => au G l (by decide) k a)
  have bC := Y.fb l V
  have bZ := Z.then V (fun k _ q => Or.inl q)
  have cH := kq fb { X with wv := r } room ver reads sl M LS (ri (PI.erase reads)) cs ts (.slice bN bQ bO) P bw (aa cX) bC bK (by omega) b6 bS (aa ci) c4 cq c0 c6
  have cZ := aa cS P bF
  obtain ⟨az, aF, aB, rfl⟩ := bA.sl
  have cF := ae (show aq P fb { X with wv := r } ∧ P.heap[g]? = some (.cells #[d, f, c, b, reads, left, rv] 170) ∧ ah bE 103 P (.slice az aF aB) (dI ver LS ts reads ws) ∧ ah bT 39 P X.lv O ∧ ah cW 201 P r (cN ver LS ts reads ws) ∧ dD P X.sb 0 ver sl M LS (ri (PI.erase reads)) ∧ aE (fun k => k = fb ∨ k = X.sb ∨ X.lv.ownBlock = some k) w P from ⟨bw, bF, bA, b3, b9, bC, bZ⟩)
  have bW := ae (show ∀ k, Value.ownBlock (.slice az aF aB) = some k → w.heap.size ≤ k from fun k a => by have := cd k a; omega)
  have bY := ae (show ∀ k, r.ownBlock = some k → w.heap.size ≤ k from fun k a => by have := cf k a; omega)
  have dk := V.size
  clear cC cY cE l D E F G Y Z bA cd bw b9 cf V bF bS b3 b6 bC bZ
  go_wp2_with fail
  refine cH.mono ?_
  rintro e Q ⟨rfl, ⟨A, bx, b7, ce⟩, ao⟩
  obtain ⟨l, D, E, F, G, Y, Z⟩ := aa cF
  have bG := aQ D ao (aI D l (by decide))
  have cc := E.frm ao (fun k a => au E l (by decide) k a)
  have b4 := F.frm ao (fun k a => au F l (by decide) k a)
  have br := G.frm ao (fun k a => au G l (by decide) k a)
  have cy := Y.fb l ao
  have b0 := Z.then ao (fun k _ q => Or.inl q)
  have cz : ∀ aS ∈ cN ver LS ts reads ws, bP aS.k := fun aS dc => (aa cj aS (yA.1 dc).1).small
  have cD := fe fb { X with wv := r, tv := A } _ d f c b Q bx br.at cz (by have := nN (ver := ver) (LS := LS) (ts := ts) (reads := reads) (ws := ws); omega)
  have cb := rngB bG
  have cG := ae (show aq Q fb { X with wv := r, tv := A } ∧ Q.heap[g]? = some (.cells #[d, f, c, b, reads, left, rv] 170) ∧ ah bE 103 Q (.slice az aF aB) (dI ver LS ts reads ws) ∧ ah bT 39 Q X.lv O ∧ ah cW 201 Q r (cN ver LS ts reads ws) ∧ dD Q X.sb 0 ver sl M LS (ri (PI.erase reads)) ∧ ah aW 196 Q A (cR ver LS room reads cs ts) ∧ aE (fun k => k = fb ∨ k = X.sb ∨ X.lv.ownBlock = some k) w Q from ⟨bx, bG, cc, b4, br, cy, b7, b0⟩)
  have bX := ae (show ∀ k, A.ownBlock = some k → X.tv.ownBlock = some k ∨ w.heap.size ≤ k from fun k a => (ce k a).elim Or.inl fun q => by right; omega)
  clear cH cZ cF l D E F G Y Z bx b7 ce ao bG cc b4 br cy b0 cz
  go_wp2_with (refine vM cb rfl _ rfl rfl ?_)
  refine cD.mono ?_
  rintro e m ⟨rfl, K⟩
  obtain ⟨l, D, E, F, G, Y, cJ, Z⟩ := aa cG
  have ap := ag l K
  have ay := ag D K
  have ak := E.on K
  have ad := F.on K
  have aj := G.on K
  have ar := Y.on K
  have ai := cJ.on K
  have ac := Z.then (aE.of_below (S := fun _ => False) K) (fun _ _ q => q.elim)
  clear cD cb cG l D E F G Y Z cJ K
  by_cases a3 : 0 < aC (cN ver LS ts reads ws) ⟨d, f, c, b⟩
  · have c5 : (0 : Int) < (aC (cN ver LS ts reads ws) ⟨d, f, c, b⟩ : Int) := by omega
    have bH := ae (show aq m fb ({ X with wv := r, tv := A } : FV) ∧ m.heap[g]? = some (.cells #[d, f, c, b, reads, left, rv] 170) ∧ ah bE 103 m (.slice az aF aB) (dI ver LS ts reads ws) ∧ ah bT 39 m X.lv O ∧ ah cW 201 m r (cN ver LS ts reads ws) ∧ dD m X.sb 0 ver sl M LS (ri (PI.erase reads)) ∧ ah aW 196 m A (cR ver LS room reads cs ts) ∧ aE (fun k => k = fb ∨ k = X.sb ∨ X.lv.ownBlock = some k) w m from ⟨ap, ay, ak, ad, aj, ar, ai, ac⟩)
    have cO := ae a3
    clear ap ay ak ad aj ar ai ac a3
    go_wp2_with fail
    obtain ⟨ap, ay, ak, ad, aj, ar, ai, ac⟩ := aa bH
    refine z8 (S := fun w' => w'.heap[g]? = some (.cells #[d, f, c, b, reads, left, rv] 170)) (by kernel_rfl) ?_
    change wpAnyH _ _ _ _ _ _ _ _ (World.drew _)
    have o : Below m.heap.size m (World.drew m) := zE bu
    have j : (World.drew m).heap[g]? = some (.cells #[d, f, c, b, reads, left, rv] 170) := ay
    have aw : aq (World.drew m) fb ({ X with wv := r, tv := A } : FV) := ap
    have a4 := ak.on o
    have aX := ad.on o
    have a1 := aj.on o
    have bb := ar.on o
    have aY := ai.on o
    have aM := ac.then (aE.of_below (S := fun _ => False) o) (fun _ _ q => q.elim)
    generalize World.drew m = s at j aw a4 aX a1 bb aY aM o ⊢
    clear ap ay ak ad aj ar ai ac o
    have c1 : fb < s.heap.size := an aw
    have bf : s.cell? ⟨fb, 8, none⟩ = some X.lv := (af aw 8).trans rfl
    have y := (zV s.heap.size s).alloc aD (.cells #[d, f, c, b] 39)
    have W := ag j y
    have aO := ag aw y
    have bs := (y.cell (p := ⟨fb, 8, none⟩) c1).trans bf
    have bv := aZ bT 39 s ⟨d, f, c, b⟩ #[d, f, c, b] rfl
    have x := aX.on y
    have aK := a4.on y
    have aJ := a1.on y
    have ax := bb.on y
    have aG := aY.on y
    obtain ⟨dr, n, bi, aR, ab, bM⟩ := apKey x bv (by simp; omega)
    have B := (ab.block g (an W) (fun q => au x W (by decide) g q.symm rfl)).trans W
    have z : aq n fb ({ X with wv := r, tv := A } : FV) := (ab.block fb (an aO) (fun q => au x aO (by decide) fb q.symm rfl)).trans aO
    have a5 := aK.same (w' := n) fun k a => ab.block k (aK.lt a) (fun q => by
      obtain ⟨be, N⟩ := x.ty q.symm
      exact au aK N (by decide) k a rfl)
    have a2 := aJ.same (w' := n) fun k a => ab.block k (aJ.lt a) (fun q => by
      obtain ⟨be, N⟩ := x.ty q.symm
      exact au aJ N (by decide) k a rfl)
    have a0 := aG.same (w' := n) fun k a => ab.block k (aG.lt a) (fun q => by
      obtain ⟨be, N⟩ := x.ty q.symm
      exact au aG N (by decide) k a rfl)
    have aU : aE (fun k => X.lv.ownBlock = some k) (s.alloc (.cells #[d, f, c, b] 39)) n := (aE.rfl' _ _).grown ab (fun k a _ => a)
    have bD := ax.frm aU (fun q => au x ax.blk (by decide) X.sb q rfl) (fun k a q => by obtain ⟨be, N⟩ := ax.own.ty a; exact au x N (by decide) k q rfl) (fun k a q => by obtain ⟨be, N⟩ := ax.pins.ty a; exact au x N (by decide) k q rfl)
    have bt := (aM.then (aE.of_below (S := fun _ => False) y) (fun _ _ q => q.elim)).then aU (fun k _ q => Or.inr (Or.inr q))
    have ba := jU z 8
    have a6 : n.cell? ⟨fb, 8, none⟩ = some X.lv := (af z 8).trans rfl
    obtain ⟨C, I, H, rfl⟩ := aR.sl
    have J : aE (fun k => k = fb) n (n.setCell ⟨fb, 8, none⟩ (.slice C I H)) := (aE.rfl' _ _).setCell (p := ⟨fb, 8, none⟩) _ (fun _ => rfl)
    have bz := aq.set z 8 (.slice C I H) (FV.set_lv ({ X with wv := r, tv := A } : FV) _)
    have a8 := aQ B J (aI B z (by decide))
    have dl : w.heap.size ≤ s.heap.size := aM.size
    have bd : Hid (FinR fb g X room ver sl LS R PI ws O cs ⟨d, f, c, b⟩ reads w (.slice az aF aB) (n.setCell ⟨fb, 8, none⟩ (.slice C I H))) := by
      refine ⟨?_, aa bW, ⟨r, .slice C I H, A, M, bz, ?_, ?_, ?_, bD.fb z J, aa bY, aa bX, fun k a => ?_, aa bV⟩, bt.then J (fun k _ q => Or.inl q)⟩
      · rw [aa T]; exact a5.frm J (fun k a => au a5 z (by decide) k a)
      · rw [aa T]; exact a2.frm J (fun k a => au a2 z (by decide) k a)
      · rw [aa T]; exact a0.frm J (fun k a => au a0 z (by decide) k a)
      · rw [aa T, zJ (aa cO)]; exact aR.frm J (fun k a => au aR z (by decide) k a)
      · rcases bM with q | q
        · exact Or.inl (q ▸ a)
        · right; have := q k a; simp at this; omega
    refine am 0 rfl fb 0 j ?_
    refine am 1 rfl fb 0 j ?_
    refine am 2 rfl fb 0 j ?_
    refine am 3 rfl fb 8 j ?_
    refine am 5 rfl g 0 j ?_
    refine am 6 rfl g 0 j ?_
    refine am 7 rfl g 0 j ?_
    refine aH 8 rfl (.agg #[d, f, c, b]) j ?_ (hy := fun w' aP => jT _ _ _ 39 rfl _ rfl _ underlying39 rfl (bj _ _ _ _) g 0 rfl _ (rngB aP))
    refine y6 (rs := [4, 9]) (by kernel_rfl) (by simp) ?_
    intro i hi
    simp only [zv, yT, or_false] at hi
    rcases hi with rfl | rfl
    · refine bI 4 rfl rfl (X.lv) (s) (by simp [go_sem, bf]) (j) ?_
      simp only [qZ]
      refine aV 9 ?_
      refine bI 9 rfl rfl (.slice (some ⟨s.heap.size, 0, none⟩) 1 1) (s.alloc (.cells #[d, f, c, b] 39)) (mt d f c b _ _ _ rfl rfl _) (W) ?_
      simp only [qZ]
      refine aV 10 ?_
      refine bI 10 rfl rfl (.slice C I H) (n) (exR 127 bi _ _ _ _ rfl rfl rfl rfl) (B) ?_
      simp only [qZ]
      refine am 11 rfl fb 0 B ?_
      refine am 12 rfl fb 8 B ?_
      refine aV 13 ?_
      refine cL 13 rfl rfl (n.setCell ⟨fb, 8, none⟩ (.slice C I H)) (stS _ _ _ _ 127 rfl (fun _ => by simp [go_sem]) fb 8 C I H rfl rfl n a6 ba) (a8) ?_
      simp only [Act.put]
      refine zm (by kernel_rfl) ?_ _
      clear j aw a4 aX a1 bb aY aM bf y W aO bs bv x aK aJ ax aG bi aR ab bM B z a5 a2 a0 aU bD bt ba a6 J bz a8 bH
      go_wp2
      go_ret
      exact ⟨_, rfl, aa bd⟩
    · refine bI 9 rfl rfl (.slice (some ⟨s.heap.size, 0, none⟩) 1 1) (s.alloc (.cells #[d, f, c, b] 39)) (mt d f c b _ _ _ rfl rfl _) (W) ?_
      simp only [qZ]
      refine aV 4 ?_
      refine bI 4 rfl rfl (X.lv) (s.alloc (.cells #[d, f, c, b] 39)) (by simp [go_sem, bs]) (W) ?_
      simp only [qZ]
      refine aV 10 ?_
      refine bI 10 rfl rfl (.slice C I H) (n) (exR 127 bi _ _ _ _ rfl rfl rfl rfl) (B) ?_
      simp only [qZ]
      refine am 11 rfl fb 0 B ?_
      refine am 12 rfl fb 8 B ?_
      refine aV 13 ?_
      refine cL 13 rfl rfl (n.setCell ⟨fb, 8, none⟩ (.slice C I H)) (stS _ _ _ _ 127 rfl (fun _ => by simp [go_sem]) fb 8 C I H rfl rfl n a6 ba) (a8) ?_
      simp only [Act.put]
      refine zm (by kernel_rfl) ?_ _
      clear j aw a4 aX a1 bb aY aM bf y W aO bs bv x aK aJ ax aG bi aR ab bM B z a5 a2 a0 aU bD bt ba a6 J bz a8 bH
      go_wp2
      go_ret
      exact ⟨_, rfl, aa bd⟩
  · have c5 : ¬ (0 : Int) < (aC (cN ver LS ts reads ws) ⟨d, f, c, b⟩ : Int) := by omega
    have bd : Hid (FinR fb g X room ver sl LS R PI ws O cs ⟨d, f, c, b⟩ reads w (.slice az aF aB) m) := by
      refine ⟨?_, aa bW, ⟨r, X.lv, A, M, ap, ?_, ?_, ?_, ar, aa bY, aa bX, fun k a => Or.inl a, aa bV⟩, ac⟩
      · rw [aa T]; exact ak
      · rw [aa T]; exact aj
      · rw [aa T]; exact ai
      · rw [aa T, zK a3]; exact ad
    clear ap ay ak ad aj ar ai ac a3
    go_wp2
    go_ret
    exact ⟨_, rfl, aa bd⟩
theorem bt138 (b l z x y a c:Int)(ev:Operand->Value)(o:Oper)(p q d s:Operand)(j:o.op=.build 201 #[(0,p),(1,q),(2,d),(3,s)])(e:ev p=.int .i64 b)(f:ev q=.agg #[l,z,x,y])(g:ev d=.int .i64 a)(h:ev s=.int .i64 c)(w:World):(execOp ev o).run prog w=.ok (.value (.agg #[b,l,z,x,y,a,c])) w:=by
 have i:=run_build (P:=prog) w 201 #[(0,.int .i64 b),(1,.agg #[l,z,x,y]),(2,.int .i64 a),(3,.int .i64 c)] #[b,l,z,x,y,a,c] (by kernel_rfl)
 unfold execOp;simp[j,e,f,g,h,i]
theorem f8.frm {w w':World}{d:Value}{f:List (Option Wk)}{S:Nat->Prop}(h:f8 w d f)(c:aE S w w')(q:∀k,d.ownBlock=some k->¬S k)(r:∀(i:Nat) (u:Wk),f[i]?=some (some u)->¬S u.g):f8 w' d f:=by
 refine⟨?_,fun i u m=>aQ (h.at_ i u m) c (r i u m)⟩;obtain⟨y,cap,e,n,o,p⟩:=h.kv;refine⟨y,cap,e,n,o,fun t=>?_⟩;obtain⟨b,off,l,g,s⟩:=p t;refine⟨b,off,l,zC g c.size,fun i a hi j x v=>?_⟩
 rw[zP (a:=⟨b,off+i*fK.wid+j,none⟩) (c.block b g (q b (by rw[e,l]; rfl)))]
 exact s i a hi j x v
def l6 (ls:List K4)(W:List (Option Wk))(b:K4):List K4:=if (ls.any (fun k=>decide (k=b)) || hasW W b) then ls else ls++[b]
theorem join_any (fb:Nat)(X:FV)(ver:Int)(sl pv:Value)(LS bU:List Ft)(ws:List dJ)(G:List K4)(H:List (Option Wk))(c l z x y:Int)(w:World)(bq:aq w fb X)(bX:dD w X.sb 0 ver sl pv LS bU)(bN:ah cW 201 w X.wv ws)(bg:ah bT 39 w X.lv G)(bM:ah fK 166 w X.kv (H.map (Option.map Wk.g)))(bO:f8 w X.kv H)(b7:0<=x/\x<=4194304)(hy:0<=y/\y<=4194304)
  (cc:0<=X.nw/\X.nw<=1000000000000/\0<=X.wt/\X.wt<=1000) (cb:ws.length<=100000) (ca:G.length<=100000) (b1:H.length<=100) :
  Calls prog 83 #[some fb,c,.agg #[l,z,x,y]] w fun e w'=>e=.returned (.tuple #[])/\(∃F E,aq w' fb { X with wv:=F,lv:=E }/\ah cW 201 w' F (ws++[⟨c,⟨l,z,x,y⟩,ver,X.nw+X.wt⟩])/\ah bT 39 w' E (l6 G H ⟨l,z,x-x%2,y-y%2⟩) /\
   (∀k,F.ownBlock=some k->X.wv.ownBlock=some k\/w.heap.size<=k)/\(∀k,E.ownBlock=some k->X.lv.ownBlock=some k\/w.heap.size<=k))/\aE (fun k=>k=fb\/X.wv.ownBlock=some k\/X.lv.ownBlock=some k) w w':=by
 have b8:=an bq;have v:=(zV w.heap.size w).alloc aD (.cells #[l,z,x,y] 39);have aF:=zZ w (.cells #[l,z,x,y] 39)
 have b2:(w.alloc (.cells #[l,z,x,y] 39)).heap.size=w.heap.size+1:=by simp
 have ac:aq (w.alloc (.cells #[l,z,x,y] 39)) fb X:=ag bq v;have bh:=bX.on v;have av:=bN.on v;have ap:=bg.on v;have al:=bM.on v;have aw:=bO.on v;obtain⟨w1,bi⟩:∃w1,w.alloc (.cells #[l,z,x,y] 39)=w1:=⟨_,rfl⟩;rw[bi] at v aF b2 ac bh av ap al aw;have b4:w1.cell? ⟨fb,6,none⟩=some (.pointer (some ⟨X.sb,0,none⟩)):=(aq.cells ac).2.2.2.2.2.2.1;have bV:=dQ X.sb 0 ver sl pv LS bU w1 bh
 have bH:∀(ev:Operand->Value) (o:Oper) (p:Operand),o.op=.box 39 p->ev p=.agg #[l,z,x,y]->(execOp ev o).run prog w=.ok (.value (.pointer (some ⟨w.heap.size,0,none⟩))) w1:=by
  intro ev o p b5 b6;rw[<-bi];unfold execOp;simp only[b5,b6]
  kernel_rfl
 have b3:=ae (show aq w1 fb X/\w1.heap[w.heap.size]?=some (.cells #[l,z,x,y] 39)/\ah cW 201 w1 X.wv ws/\ah bT 39 w1 X.lv G/\ah fK 166 w1 X.kv (H.map (Option.map Wk.g))/\f8 w1 X.kv H/\Below w.heap.size w w1 from⟨ac,aF,av,ap,al,aw,v⟩);have bZ:=ae bH;have bt:∀k,X.lv.ownBlock=some k->k<w.heap.size:=fun k a=>bg.lt a;have b0:=ae bt;clear bq bX bN bg bM bO v aF ac bh av ap al aw bi bH bt;go_enter func83,ntmps83
 go_wp2_with (refine cP _ _ (aa bZ _ _ _ rfl rfl) rfl ?_)
 refine bV.mono ?_;rintro e B ⟨rfl,rfl⟩;clear bV b4
 go_wp2_with fail
 obtain⟨ac,aF,av,ap,al,aw,v⟩:=aa b3
 refine z8 (S:=fun w'=>(w'.cell? ⟨fb,3,none⟩=some (.int .i64 X.nw)/\w'.cell? ⟨fb,1,none⟩=some (.int .i64 X.wt))/\w'.heap[w.heap.size]?=some (.cells #[l,z,x,y] 39)) (by kernel_rfl) ?_
 change wpAnyH _ _ _ _ _ _ _ _ (World.drew _);have s:Below w1.heap.size w1 (World.drew w1):=zE bu;have aU:(World.drew w1).heap[w.heap.size]?=some (.cells #[l,z,x,y] 39):=aF;have aB:aq (World.drew w1) fb X:=ac;have a6:=av.on s;have a3:=ap.on s;have a2:=al.on s;have a9:=aw.on s;have bf:=v.trans (s.mono v.size)
 have bP:w.heap.size+1<=(World.drew w1).heap.size:=by have:=s.size; omega
 generalize World.drew w1=h at aU aB a6 a3 a2 a9 bf bP s ⊢;clear ac aF av ap al aw v s;have b:(h.cell? ⟨fb,3,none⟩=some (.int .i64 X.nw)/\h.cell? ⟨fb,1,none⟩=some (.int .i64 X.wt))/\h.heap[w.heap.size]?=some (.cells #[l,z,x,y] 39):=⟨⟨(aq.cells aB).2.2.2.1,(aq.cells aB).2.1⟩,aU⟩;have bW:h.cell? ⟨fb,7,none⟩=some X.wv:=(af aB 7).trans rfl;have j:=(zV h.heap.size h).alloc aD (.cells #[c,l,z,x,y,ver,.int .i64 (X.nw+X.wt)] 201);have K:aq (h.alloc (.cells #[c,l,z,x,y,ver,.int .i64 (X.nw+X.wt)] 201)) fb X:=ag aB j;have aX:=ag aU j;have I:((h.alloc (.cells #[c,l,z,x,y,ver,.int .i64 (X.nw+X.wt)] 201)).cell? ⟨fb,3,none⟩=some (.int .i64 X.nw)/\(h.alloc (.cells #[c,l,z,x,y,ver,.int .i64 (X.nw+X.wt)] 201)).cell? ⟨fb,1,none⟩=some (.int .i64 X.wt))/\(h.alloc (.cells #[c,l,z,x,y,ver,.int .i64 (X.nw+X.wt)] 201)).heap[w.heap.size]?=some (.cells #[l,z,x,y] 39):=⟨⟨(aq.cells K).2.2.2.1,(aq.cells K).2.1⟩,aX⟩;have bC:(h.alloc (.cells #[c,l,z,x,y,ver,.int .i64 (X.nw+X.wt)] 201)).cell? ⟨fb,7,none⟩=some X.wv:=(af K 7).trans rfl;have aM:=aZ cW 201 h ⟨c,⟨l,z,x,y⟩,ver,X.nw+X.wt⟩ #[c,l,z,x,y,ver,.int .i64 (X.nw+X.wt)] rfl;have C:=a6.on j;have U:=a3.on j;have aT:=a2.on j;have bb:=a9.on j
 obtain⟨cd,m,aP,R,aR,aS⟩:=apReq C aM (by simp; omega)
 have t:aE (fun k=>X.wv.ownBlock=some k) (h.alloc (.cells #[c,l,z,x,y,ver,.int .i64 (X.nw+X.wt)] 201)) m:=(aE.rfl' _ _).grown aR (fun k a _=>a)
 have D:aq m fb X:=aQ K t (fun q=>au C K (by decide) fb q rfl)
 have aW:=aQ aX t (fun q=>au C aX (by decide) _ q rfl)
 have a4:=U.frm t (fun k a q=>by obtain⟨bo,aj⟩:=C.ty q; exact au U aj (by decide) k a rfl)
 have bv:=aT.frm t (fun k a q=>by obtain⟨bo,aj⟩:=C.ty q; exact au aT aj (by decide) k a rfl)
 have ba:=bb.frm t (fun k a q=>by obtain⟨bo,aj⟩:=C.ty q; exact au aT aj (by decide) k a rfl) (fun i u br q=>au C (bb.at_ i u br) (by decide) u.g q rfl)
 have a0:(m.cell? ⟨fb,3,none⟩=some (.int .i64 X.nw)/\m.cell? ⟨fb,1,none⟩=some (.int .i64 X.wt))/\m.heap[w.heap.size]?=some (.cells #[l,z,x,y] 39):=⟨⟨(aq.cells D).2.2.2.1,(aq.cells D).2.1⟩,aW⟩;have bB:m.cell? ⟨fb,7,none⟩=some X.wv:=(af D 7).trans rfl;have aO:=jU D 7;obtain⟨d,g,f,rfl⟩:=R.sl;have ak:aE (fun k=>k=fb) m (m.setCell ⟨fb,7,none⟩ (.slice d g f)):=(aE.rfl' _ _).setCell (p:=⟨fb,7,none⟩) _ (fun _=>rfl);have J:=aq.set D 7 (.slice d g f) (FV.set_wv X _)
 have P:=aQ aW ak (aI aW D (by decide))
 have be:((m.setCell ⟨fb,7,none⟩ (.slice d g f)).cell? ⟨fb,3,none⟩=some (.int .i64 X.nw)/\(m.setCell ⟨fb,7,none⟩ (.slice d g f)).cell? ⟨fb,1,none⟩=some (.int .i64 X.wt))/\(m.setCell ⟨fb,7,none⟩ (.slice d g f)).heap[w.heap.size]?=some (.cells #[l,z,x,y] 39):=⟨⟨(aq.cells J).2.2.2.1,(aq.cells J).2.1⟩,P⟩
 have V:=R.frm ak (fun k a=>au R D (by decide) k a)
 have T:=a4.frm ak (fun k a=>au a4 D (by decide) k a)
 have W:=ba.frm ak (fun k a=>au bv D (by decide) k a) (fun i u br=>aI (ba.at_ i u br) D (by decide))
 have O:aE (fun k=>k=fb\/X.wv.ownBlock=some k\/X.lv.ownBlock=some k) w (m.setCell ⟨fb,7,none⟩ (.slice d g f)):=(((aE.of_below bf).then (aE.of_below (S:=fun _=>False) j) (fun _ _ q=>q.elim)).then t (fun k _ q=>Or.inr (Or.inl q))).then ak (fun k _ q=>Or.inl q)
 have bz:∀k,Value.ownBlock (.slice d g f)=some k->X.wv.ownBlock=some k\/w.heap.size<=k:=fun k a=>by
  rcases aS with q|q
  ·exact Or.inl (q▸a)
  right; have:=q k a; simp at this; omega
 have bJ:IntKind.i64.wrap (X.nw+X.wt)=X.nw+X.wt:=bG _ (by omega)
 obtain⟨A,bk⟩:∃A,m.setCell ⟨fb,7,none⟩ (.slice d g f)=A:=⟨_,rfl⟩;rw[bk] at J P be V T W O;have bm:=ae (show aq A fb { X with wv:=.slice d g f }/\A.heap[w.heap.size]?=some (.cells #[l,z,x,y] 39)/\ah cW 201 A (.slice d g f) (ws++[⟨c,⟨l,z,x,y⟩,ver,X.nw+X.wt⟩])/\ah bT 39 A X.lv G/\f8 A X.kv H/\aE (fun k=>k=fb\/X.wv.ownBlock=some k\/X.lv.ownBlock=some k) w A from⟨J,P,V,T,W,O⟩);have bs:=ae bz;clear J P V T W O bz a4 bv ba ak t U aT bb;refine am 0 rfl fb 0 b ?_;refine am 1 rfl fb 0 b ?_;refine am 2 rfl fb 0 b ?_;refine am 3 rfl fb 7 b ?_;refine aH 5 rfl (.int .i64 c) b ?_;refine aH 6 rfl (.agg #[l,z,x,y]) b ?_ (hy:=fun w' Q=>jT _ _ _ 39 rfl _ rfl _ underlying39 rfl (bj _ _ _ _) w.heap.size 0 rfl _ (ao Q.2));refine aH 7 rfl (.int .i64 ver) b ?_;refine am 8 rfl fb 0 b ?_;refine am 9 rfl fb 0 b ?_;refine am 10 rfl fb 3 b ?_
 refine aH 11 rfl (.int .i64 X.nw) b ?_ (hy:=fun w' Q=>by simp[go_sem,Q.1.1])
 refine am 12 rfl fb 0 b ?_;refine am 13 rfl fb 0 b ?_;refine am 14 rfl fb 1 b ?_
 refine aH 15 rfl (.int .i64 X.wt) b ?_ (hy:=fun w' Q=>by simp[go_sem,Q.1.2])
 refine aH 16 rfl (.int .i64 (X.nw+X.wt)) b ?_ (hy:=fun w' Q=>by simp[go_sem,bJ])
 refine aH 17 rfl (.agg #[c,l,z,x,y,ver,.int .i64 (X.nw+X.wt)]) b ?_ (hy:=fun w' Q=>bt138 c l z x y ver (X.nw+X.wt) _ _ _ _ _ _ rfl rfl rfl rfl rfl _)
 refine y6 (rs:=[4,18]) (by kernel_rfl) (by simp) ?_
 intro i hi;simp only[zv,yT,or_false] at hi
 rcases hi with rfl|rfl
 case' inl=>
  refine bI 4 rfl rfl (X.wv) (h) (by simp[go_sem,bW]) (b) ?_
  simp only[qZ];refine aV 18 ?_;refine bI 18 rfl rfl (.slice (some ⟨h.heap.size,0,none⟩) 1 1) (h.alloc (.cells #[c,l,z,x,y,ver,.int .i64 (X.nw+X.wt)] 201)) (bsReq c l z x y ver (X.nw+X.wt) _ _ _ rfl rfl _) (I) ?_
 case' inr=>
  refine bI 18 rfl rfl (.slice (some ⟨h.heap.size,0,none⟩) 1 1) (h.alloc (.cells #[c,l,z,x,y,ver,.int .i64 (X.nw+X.wt)] 201)) (bsReq c l z x y ver (X.nw+X.wt) _ _ _ rfl rfl _) (I) ?_;simp only[qZ];refine aV 4 ?_
  refine bI 4 rfl rfl (X.wv) (h.alloc (.cells #[c,l,z,x,y,ver,.int .i64 (X.nw+X.wt)] 201)) (by simp[go_sem,bC]) (I) ?_
 all_goals
  simp only[qZ];refine aV 19 ?_;refine bI 19 rfl rfl (.slice d g f) (m) (exR 126 aP _ _ _ _ rfl rfl rfl rfl) (a0) ?_;simp only[qZ];refine am 20 rfl fb 0 a0 ?_;refine am 21 rfl fb 7 a0 ?_;refine aV 22 ?_
  refine cL 22 rfl rfl (A) (stS1 _ _ _ _ 126 rfl (fun _=>by simp[go_sem]) fb 7 d g f rfl rfl m A bB aO bk) (be) ?_
  simp only[Act.put]
  refine zm (by kernel_rfl) ?_ _
  clear b aU aB a6 a3 a2 a9 bf bP bW j K aX I bC aM C aP R aR aS D aW a0 bB aO be bJ bk;obtain⟨J,P,V,T,W,O⟩:=aa bm;have bw:A.rangeAt w.heap.size 0 (#[l,z,x,y]:Array Value).toList:=ao P
  have bQ:=kL l z x y A ⟨b7.1,by omega⟩ ⟨hy.1,by omega⟩
  clear J P V T W O
  go_wp2_with (refine vM bw rfl _ rfl rfl ?_)
  refine bQ.mono ?_;rintro e n ⟨rfl,a1⟩;obtain⟨J,P,V,T,W,O⟩:=aa bm;have az:=a1.trans ((zV A.heap.size n).alloc a1.size (.cells #[l,z,.int .i64 (x-x%2),.int .i64 (y-y%2)] 39));have aL:=zZ n (.cells #[l,z,.int .i64 (x-x%2),.int .i64 (y-y%2)] 39);have aC:aq (n.alloc (.cells #[l,z,.int .i64 (x-x%2),.int .i64 (y-y%2)] 39)) fb { X with wv:=.slice d g f }:=ag J az;have aK:=V.on az;have ar:=T.on az;have bx:=W.on az;have aJ:=O.then (aE.of_below (S:=fun _=>False) az) (fun _ _ q=>q.elim)
  have b9:w.heap.size<=n.heap.size:=by have:=O.size; have:=a1.size; omega
  have bc:=m8 fb { X with wv:=.slice d g f } G H l z (x-x%2) (y-y%2) (n.alloc (.cells #[l,z,.int .i64 (x-x%2),.int .i64 (y-y%2)] 39)) aC ar.at bx (by omega) b1
  obtain⟨bl,bd⟩:∃bl,(G.any (fun k=>decide (k=(⟨l,z,x-x%2,y-y%2⟩:K4))) || hasW H ⟨l,z,x-x%2,y-y%2⟩)=bl:=⟨_,rfl⟩;rw[bd] at bc;have bA:=ae bd;clear bd;have bR:=ae (show aq (n.alloc (.cells #[l,z,.int .i64 (x-x%2),.int .i64 (y-y%2)] 39)) fb { X with wv:=.slice d g f }/\(n.alloc (.cells #[l,z,.int .i64 (x-x%2),.int .i64 (y-y%2)] 39)).heap[n.heap.size]?=some (.cells #[l,z,.int .i64 (x-x%2),.int .i64 (y-y%2)] 39)/\ah cW 201 (n.alloc (.cells #[l,z,.int .i64 (x-x%2),.int .i64 (y-y%2)] 39)) (.slice d g f) (ws++[⟨c,⟨l,z,x,y⟩,ver,X.nw+X.wt⟩])/\ah bT 39 (n.alloc (.cells #[l,z,.int .i64 (x-x%2),.int .i64 (y-y%2)] 39)) X.lv G/\aE (fun k=>k=fb\/X.wv.ownBlock=some k\/X.lv.ownBlock=some k) w (n.alloc (.cells #[l,z,.int .i64 (x-x%2),.int .i64 (y-y%2)] 39)) from⟨aC,aL,aK,ar,aJ⟩);clear bQ bw J P V T W O a1 az aL aC aK ar bx aJ bm
  go_wp2_with fail
  refine bc.mono ?_;rintro e r ⟨rfl,aA⟩;obtain⟨aC,aL,aK,ar,aJ⟩:=aa bR;have ad:=ag aC aA;have ax:=ag aL aA;have ab:=aK.on aA;have Z:=ar.on aA;have Y:=aJ.then (aE.of_below (S:=fun _=>False) aA) (fun _ _ q=>q.elim);clear bc aC aL aK ar aJ aA bR
  cases bl with
  | true=>
   have bn:Hid ((∃F E,aq r fb { X with wv:=F,lv:=E }/\ah cW 201 r F (ws++[⟨c,⟨l,z,x,y⟩,ver,X.nw+X.wt⟩])/\ah bT 39 r E (l6 G H ⟨l,z,x-x%2,y-y%2⟩)/\(∀k,F.ownBlock=some k->X.wv.ownBlock=some k\/w.heap.size<=k)/\(∀k,E.ownBlock=some k->X.lv.ownBlock=some k\/w.heap.size<=k))/\aE (fun k=>k=fb\/X.wv.ownBlock=some k\/X.lv.ownBlock=some k) w r):=
    ⟨⟨.slice d g f,X.lv,ad,ab,by unfold l6; rw[aa bA]; exact Z,aa bs,fun k a=>Or.inl a⟩,Y⟩
   clear ad ax ab Z Y
   go_wp2_with fail
   exact yB (yY results83 _ _ _) rfl ⟨rfl,aa bn⟩
  | false=>
   have bS:=ae (show aq r fb { X with wv:=.slice d g f }/\r.heap[n.heap.size]?=some (.cells #[l,z,.int .i64 (x-x%2),.int .i64 (y-y%2)] 39)/\ah cW 201 r (.slice d g f) (ws++[⟨c,⟨l,z,x,y⟩,ver,X.nw+X.wt⟩])/\ah bT 39 r X.lv G/\aE (fun k=>k=fb\/X.wv.ownBlock=some k\/X.lv.ownBlock=some k) w r from⟨ad,ax,ab,Z,Y⟩);clear ad ax ab Z Y
   go_wp2_with fail
   obtain⟨ad,ax,ab,Z,Y⟩:=aa bS
   refine z8 (S:=fun w'=>w'.heap[n.heap.size]?=some (.cells #[l,z,.int .i64 (x-x%2),.int .i64 (y-y%2)] 39)) (by kernel_rfl) ?_
   change wpAnyH _ _ _ _ _ _ _ _ (World.drew _);have s:Below r.heap.size r (World.drew r):=zE bu;have b:(World.drew r).heap[n.heap.size]?=some (.cells #[l,z,.int .i64 (x-x%2),.int .i64 (y-y%2)] 39):=ax;have aN:aq (World.drew r) fb { X with wv:=.slice d g f }:=ad;have a8:=ab.on s;have a5:=Z.on s;have aY:=Y.then (aE.of_below (S:=fun _=>False) s) (fun _ _ q=>q.elim);generalize World.drew r=wq at b aN a8 a5 aY s ⊢;clear ad ax ab Z Y s bS;have bL:fb<wq.heap.size:=an aN;have bp:wq.cell? ⟨fb,8,none⟩=some X.lv:=(af aN 8).trans rfl;have j:=(zV wq.heap.size wq).alloc aD (.cells #[l,z,.int .i64 (x-x%2),.int .i64 (y-y%2)] 39);have I:=ag b j;have K:aq (wq.alloc (.cells #[l,z,.int .i64 (x-x%2),.int .i64 (y-y%2)] 39)) fb _:=ag aN j;have bE:=(j.cell (p:=⟨fb,8,none⟩) bL).trans bp;have aM:=aZ bT 39 wq ⟨l,z,x-x%2,y-y%2⟩ #[l,z,.int .i64 (x-x%2),.int .i64 (y-y%2)] rfl;have U:=a5.on j;have C:=a8.on j
   obtain⟨ce,B,aP,R,aR,aS⟩:=apKey U aM (by simp; omega)
   have t:aE (fun k=>X.lv.ownBlock=some k) (wq.alloc (.cells #[l,z,.int .i64 (x-x%2),.int .i64 (y-y%2)] 39)) B:=(aE.rfl' _ _).grown aR (fun k a _=>a)
   have ay:=aQ I t (fun q=>by have:=aa b0 _ q; omega)
   have ai:aq B fb { X with wv:=.slice d g f }:=aQ K t (fun q=>au U K (by decide) fb q rfl)
   have a7:=C.frm t (fun k a q=>by obtain⟨bo,aj⟩:=U.ty q; exact au C aj (by decide) k a rfl)
   have bD:B.cell? ⟨fb,8,none⟩=some X.lv:=(af ai 8).trans rfl;have aO:=jU ai 8;obtain⟨L,N,M,rfl⟩:=R.sl;have aG:aE (fun k=>k=fb) B (B.setCell ⟨fb,8,none⟩ (.slice L N M)):=(aE.rfl' _ _).setCell (p:=⟨fb,8,none⟩) _ (fun _=>rfl);have bK:=aq.set ai 8 (.slice L N M) (FV.set_lv _ _)
   have bF:=aQ ay aG (aI ay ai (by decide))
   have bY:=aY.size
   have bn:Hid ((∃F E,aq (B.setCell ⟨fb,8,none⟩ (.slice L N M)) fb { X with wv:=F,lv:=E }/\ah cW 201 (B.setCell ⟨fb,8,none⟩ (.slice L N M)) F (ws++[⟨c,⟨l,z,x,y⟩,ver,X.nw+X.wt⟩])/\ah bT 39 (B.setCell ⟨fb,8,none⟩ (.slice L N M)) E (l6 G H ⟨l,z,x-x%2,y-y%2⟩)/\(∀k,F.ownBlock=some k->X.wv.ownBlock=some k\/w.heap.size<=k)/\(∀k,E.ownBlock=some k->X.lv.ownBlock=some k\/w.heap.size<=k))/\aE (fun k=>k=fb\/X.wv.ownBlock=some k\/X.lv.ownBlock=some k) w (B.setCell ⟨fb,8,none⟩ (.slice L N M))):=by
    refine⟨⟨.slice d g f,.slice L N M,bK,a7.frm aG (fun k a=>au a7 ai (by decide) k a),?_,aa bs,fun k a=>?_⟩,((aY.then (aE.of_below (S:=fun _=>False) j) (fun _ _ q=>q.elim)).then t (fun k _ q=>Or.inr (Or.inr q))).then aG (fun k _ q=>Or.inl q)⟩
    ·unfold l6; rw[aa bA]; exact R.frm aG (fun k a=>au R ai (by decide) k a)
    rcases aS with q|q
    ·exact Or.inl (q▸a)
    right; have:=q k a; simp at this; omega
   refine am 0 rfl fb 0 b ?_;refine am 1 rfl fb 0 b ?_;refine am 2 rfl fb 0 b ?_;refine am 3 rfl fb 8 b ?_;refine aH 5 rfl (.agg #[l,z,.int .i64 (x-x%2),.int .i64 (y-y%2)]) b ?_ (hy:=fun w' Q=>jT _ _ _ 39 rfl _ rfl _ underlying39 rfl (bj _ _ _ _) n.heap.size 0 rfl _ (ao Q))
   refine y6 (rs:=[4,6]) (by kernel_rfl) (by simp) ?_
   intro i hi;simp only[zv,yT,or_false] at hi
   rcases hi with rfl|rfl
   focus
    refine bI 4 rfl rfl (X.lv) (wq) (by simp[go_sem,bp]) (b) ?_
    simp only[qZ];refine aV 6 ?_;refine bI 6 rfl rfl (.slice (some ⟨wq.heap.size,0,none⟩) 1 1) (wq.alloc (.cells #[l,z,.int .i64 (x-x%2),.int .i64 (y-y%2)] 39)) (mt l z (x-x%2) (y-y%2) _ _ _ rfl rfl _) (I) ?_
   rotate_left
   focus
    refine bI 6 rfl rfl (.slice (some ⟨wq.heap.size,0,none⟩) 1 1) (wq.alloc (.cells #[l,z,.int .i64 (x-x%2),.int .i64 (y-y%2)] 39)) (mt l z (x-x%2) (y-y%2) _ _ _ rfl rfl _) (I) ?_;simp only[qZ];refine aV 4 ?_
    refine bI 4 rfl rfl (X.lv) (wq.alloc (.cells #[l,z,.int .i64 (x-x%2),.int .i64 (y-y%2)] 39)) (by simp[go_sem,bE]) (I) ?_
   all_goals
    simp only[qZ];refine aV 7 ?_;refine bI 7 rfl rfl (.slice L N M) (B) (exR 127 aP _ _ _ _ rfl rfl rfl rfl) (ay) ?_;simp only[qZ];refine am 8 rfl fb 0 ay ?_;refine am 9 rfl fb 8 ay ?_;refine aV 10 ?_
    refine cL 10 rfl rfl (B.setCell ⟨fb,8,none⟩ (.slice L N M)) (stS _ _ _ _ 127 rfl (fun _=>by simp[go_sem]) fb 8 L N M rfl rfl B bD aO) (bF) ?_
    simp only[Act.put]
    refine zm (by kernel_rfl) ?_ _
    clear b aN a8 a5 aY bL bp j I K bE aM U C aP R aR aS t ay ai a7 bD aO aG bK bF bY
    go_wp2_with fail
    exact yB (yY results83 _ _ _) rfl ⟨rfl,aa bn⟩
theorem stR (ev:Operand->Value)(o:Oper)(x y:Operand)(a:TypeId)(e:o.op=.store a x y)(cs b:Array Value)(hi:(prog.info? a).map (·.size)=some cs.size)(c:cs.all (·.oneCell')=true)(f:b.size=cs.size)(g:Nat)(h:ev x=.pointer (some ⟨g,0,none⟩))(hy:ev y=.agg cs)(w:World)(d:w.heap[g]?=some (.cells b a (0,0))):(execOp ev o).run prog w=.ok .skip (w.setRow g cs):=by
 unfold execOp;simp only[e,h,hy,Instr.storeAt,Instr.sureAddr,Sem.run_bind,Sem.run_pure,Result.andThen_ok,run_storeVar_row w g a a b cs d hi f c]
theorem aE.setRow {S:Nat->Prop}{a b:World}(h:aE S a b){g:Nat}(cs:Array Value)(f:a.heap.size<=g):aE S a (b.setRow g cs):=by
 have c:=aK (zV g b) aD cs
 exact⟨c.os.trans h.os,c.tape.trans h.tape,c.output.trans h.output,zF h.size c.size,fun k d e=>(setRow_other (by omega) cs).trans (h.block k d e)⟩
theorem bytes_eq {a b:ByteArray}(h:a.toList=b.toList):a=b:=by
 rw[ByteArray.toList_eq,ByteArray.toList_eq] at h;exact ByteArray.ext (Array.toList_inj.1 h)
theorem ki (n s:Int)(b t:ByteArray):(prog.info? 103).map (·.size)=some (#[Value.int .i64 n,Value.int .i64 s,Value.string b,Value.string t]:Array Value).size:=by kernel_rfl
theorem gh (n s:Int)(b t:ByteArray):(#[Value.int .i64 n,Value.int .i64 s,Value.string b,Value.string t]:Array Value).all (·.oneCell')=true:=by simp[Value.oneCell']
def OnR (fb:Nat)(X:FV)(ver:Int)(LS:List Ft)(ws:List dJ)(ts:List aL)(k:K4)(tag:ByteArray)(w:World)(e:Ending)(w':World):Prop:=
 ∃(r:gD) (b:Bool),e=.returned (.tuple #[.agg r.a,b]) /\
  ((tag=du k (eA ver k LS)/\b=true/\r=⟨0,304,⟨#[]⟩,tag⟩/\Below w.heap.size w w') \/
   (tag≠du k (eA ver k LS)/\∃t,cS ts k=some t/\b=true/\r=⟨0,200,t.body,t.tag⟩/\(∃tv',aq w' fb { X with tv:=tv' }/\ah aW 196 w' tv' (bm ts t.k++[t])/\∀g,tv'.ownBlock=some g->w.heap.size<=g)/\aE (fun k=>k=fb) w w') \/
   (tag≠du k (eA ver k LS)/\cS ts k=none/\X.q<=ws.length/\b=true/\r=⟨0,503,⟨#[]⟩,⟨#[]⟩⟩/\Below w.heap.size w w') \/
   (tag≠du k (eA ver k LS)/\cS ts k=none/\¬X.q<=ws.length/\b=false/\r=⟨0,0,⟨#[]⟩,⟨#[]⟩⟩/\Below w.heap.size w w'))
theorem atOnce_any (fb:Nat)(X:FV)(ver:Int)(sl pv:Value)(LS bp:List Ft)(ws:List dJ)(ts:List aL)(l z x y:Int)(tag:ByteArray)(w:World)(br:aq w fb X)(b3:dD w X.sb 0 ver sl pv LS bp)(cg:LS.length<=1000)(cf:dy ⟨l,z,x,y⟩)(bD:0<=ver/\ver<=100)(E:Glb w)(a9:ah cW 201 w X.wv ws)(bS:ah aW 196 w X.tv ts)(b9:ts.length<=1000000):
  Calls prog 82 #[some fb,.agg #[l,z,x,y],tag] w fun e w'=>OnR fb X ver LS ws ts ⟨l,z,x,y⟩ tag w e w':=by
 have cj:=an br
 have cc:∃bt cap,X.wv=.slice bt ws.length cap:=by obtain⟨bt,cap,e,_⟩:=a9.at; exact⟨bt,cap,e⟩
 obtain⟨ch,ci,bW⟩:=cc
 have cn:ws.length<=9223372036854775807:=by have:=a9.len_le; unfold maxLen at this; omega
 obtain⟨w1,aO⟩:∃w1,w.alloc (.cells #[l,z,x,y] 39)=w1:=⟨_,rfl⟩;obtain⟨r,ax⟩:∃r,w1.alloc (.cells #[(),(),.string ⟨#[]⟩,.string ⟨#[]⟩] 103)=r:=⟨_,rfl⟩;have bh:Below w.heap.size w w1:=aO▸(zV w.heap.size w).alloc aD (.cells #[l,z,x,y] 39);have F:Below w.heap.size w r:=ax▸bh.alloc bh.size (.cells #[(),(),.string ⟨#[]⟩,.string ⟨#[]⟩] 103);have bG:w1.heap[w.heap.size]?=some (.cells #[l,z,x,y] 39):=aO▸zZ w (.cells #[l,z,x,y] 39)
 have bX:w1.heap.size=w.heap.size+1:=by rw[<-aO]; simp
 have cd:r.heap.size=w1.heap.size+1:=by rw[<-ax]; simp
 have aj:r.heap[w.heap.size]?=some (.cells #[l,z,x,y] 39):=ax▸(zr w1 (.cells #[(),(),.string ⟨#[]⟩,.string ⟨#[]⟩] 103) (by omega)).trans bG
 have aG:r.heap[w1.heap.size]?=some (.cells #[(),(),.string ⟨#[]⟩,.string ⟨#[]⟩] 103):=ax▸zZ w1 (.cells #[(),(),.string ⟨#[]⟩,.string ⟨#[]⟩] 103);have ad:aq r fb X:=ag br F;have bl:=b3.on F;have ce:r.cell? ⟨fb,6,none⟩=some (.pointer (some ⟨X.sb,0,none⟩)):=(aq.cells ad).2.2.2.2.2.2.1;have b2:=dQ X.sb 0 ver sl pv LS bp r bl
 have bq:=nr fb X ver ver sl pv LS bp l z x y r ad bl cg cf ⟨bD.1,by omega⟩ bD.2 (E.on F)
 have bN:∀(ev:Operand->Value) (o:Oper) (p:Operand),o.op=.box 39 p->ev p=.agg #[l,z,x,y]->(execOp ev o).run prog w=.ok (.value (.pointer (some ⟨w.heap.size,0,none⟩))) w1:=by
  intro ev o p J bs;rw[<-aO];unfold execOp;simp only[J,bs]
  kernel_rfl
 have bL:∀(ev:Operand->Value) (o:Oper),o.op=.alloc 103->(execOp ev o).run prog w1=.ok (.value (.pointer (some ⟨w1.heap.size,0,none⟩))) r:=by
  intro ev o J;rw[<-ax];unfold execOp;simp only[J]
  kernel_rfl
 have bF:=ae bN;have bE:=ae bL;have bC:r.rangeAt w.heap.size 0 (#[l,z,x,y]:Array Value).toList:=ao aj;have b4:=a9.on F;have az:=bS.on F;have bZ:=ae (show aq r fb X/\r.heap[w.heap.size]?=some (.cells #[l,z,x,y] 39)/\r.heap[w1.heap.size]?=some (.cells #[(),(),.string ⟨#[]⟩,.string ⟨#[]⟩] 103)/\ah aW 196 r X.tv ts/\Below w.heap.size w r from⟨ad,aj,aG,az,F⟩);have b7:=ae bW;generalize b8:w1.heap.size=b at *
 have bY:w.heap.size<=b:=by omega
 have cl:=ae bX;clear bX cd br b3 a9 bS bh F bG aj aG ad bl bN bL b4 az aO ax E b8 bW;generalize bT:du ⟨l,z,x,y⟩ (eA ver ⟨l,z,x,y⟩ LS)=pt at bq;have a0:=ae bT;clear bT;go_enter func82,ntmps82
 go_wp2_with (first|refine cP _ _ (aa bF _ _ _ rfl rfl) rfl ?_|refine cP _ _ (aa bE _ _ rfl) rfl ?_)
 refine b2.mono ?_;rintro e V ⟨rfl,rfl⟩;clear b2 ce
 go_wp2_with (refine vM bC rfl _ rfl rfl ?_)
 refine bq.mono ?_;rintro e A ⟨rfl,ap⟩;obtain⟨ad,aj,aG,az,F⟩:=aa bZ;have aM:aq A fb X:=ag ad ap;have aF:=ag aj ap;have Y:=ag aG ap;have aA:=az.on ap;have O:=F.trans (ap.mono F.size);clear bq bC bZ bF bE ad aj aG az F ap
 by_cases bn:tag=pt
 ·subst bn
  have bK:=yX _ _ _ (#[(),(304:Int),.string ⟨#[]⟩,tag]) _ _ Y
  have bM:=aK O (show w.heap.size<=b by omega) (#[(),(304:Int),.string ⟨#[]⟩,tag])
  have b6:=ae bK;have b5:=ae bM;clear bK bM O
  go_wp2_with (refine stG 103 #[(),(304:Int),.string ⟨#[]⟩,tag] #[(),(),.string ⟨#[]⟩,.string ⟨#[]⟩] (ki _ _ _ _) (gh _ _ _ _) rfl b Y rfl _ _ rfl rfl rfl ?_)
  refine zL (v:=.tuple #[.agg #[(),(304:Int),.string ⟨#[]⟩,tag],true]) (rct results82 _ _ b 103 _ (0,0) _ (.bool true) rfl rfl (aa b6) underlying103 rfl (ki _ _ _ _)) rfl ?_;exact⟨⟨0,304,⟨#[]⟩,tag⟩,true,rfl,Or.inl ⟨(aa a0).symm,rfl,rfl,aa b5⟩⟩
 have be:=ae bn;have cb:¬tag.toList=pt.toList:=fun q=>bn (bytes_eq q)
 have cm:(tag.toList==pt.toList)=false:=by rw[zc]; exact cb
 have b0:=ae (show aq A fb X/\A.heap[w.heap.size]?=some (.cells #[l,z,x,y] 39)/\A.heap[b]?=some (.cells #[(),(),.string ⟨#[]⟩,.string ⟨#[]⟩] 103)/\ah aW 196 A X.tv ts/\Below w.heap.size w A from⟨aM,aF,Y,aA,O⟩);clear aM aF Y aA O
 go_wp2_with fail
 obtain⟨aM,aF,Y,aA,O⟩:=aa b0
 refine z8 (S:=fun w'=>aq w' fb X/\w'.heap[w.heap.size]?=some (.cells #[l,z,x,y] 39)) (by kernel_rfl) ?_
 change wpAnyH _ _ _ _ _ _ _ _ (World.drew _);have ac:Below A.heap.size A (World.drew A):=zE bu;have u:aq (World.drew A) fb X/\(World.drew A).heap[w.heap.size]?=some (.cells #[l,z,x,y] 39):=⟨aM,aF⟩;have ak:(World.drew A).heap[b]?=some (.cells #[(),(),.string ⟨#[]⟩,.string ⟨#[]⟩] 103):=Y;have Q:=aA.on ac;have P:=O.trans (ac.mono O.size);generalize World.drew A=B at u ak Q P ⊢;clear aM aF Y aA O ac b0;have ba:∀bv,aq bv fb X->bv.cell? ⟨fb,11,none⟩=some X.tv:=fun bv h=>(aq.cells h).2.2.2.2.2.2.2.2.2.2.2;have aZ:=mj X.tv ts l z x y B Q.at;have I:=(zV B.heap.size B).alloc aD (.cells (tv none) 196);have al:aq (B.alloc (.cells (tv none) 196)) fb X/\(B.alloc (.cells (tv none) 196)).heap[w.heap.size]?=some (.cells #[l,z,x,y] 39):=⟨ag u.1 I,ag u.2 I⟩;have aB:=mj X.tv ts l z x y (B.alloc (.cells (tv none) 196)) (Q.on I).at;generalize bQ:cS ts ⟨l,z,x,y⟩=a at aZ aB;have bd:=ae bQ;clear bQ;have ck:=P.size;refine am 0 rfl fb 0 u ?_;refine am 1 rfl fb 0 u ?_;refine am 2 rfl fb 10 u ?_;refine am 3 rfl fb 11 u ?_
 refine aH 4 rfl (X.tv) u ?_ (hy:=fun w' aw=>by simp[go_sem,ba w' aw.1])
 refine aH 5 rfl (.agg #[l,z,x,y]) u ?_ (hy:=fun w' aw=>jT _ _ _ 39 rfl _ rfl _ underlying39 rfl (bj _ _ _ _) w.heap.size 0 rfl _ (ao aw.2))
 refine y6 (rs:=[6,10]) (by kernel_rfl) (by simp) ?_
 intro i hi;simp only[zv,yT,or_false] at hi
 rcases hi with rfl|rfl
 case' inl=>
  refine it 6 rfl rfl 130 #[X.tv,.agg #[l,z,x,y]] (by simp[go_sem]) (.tuple #[.agg (tv a),a.isSome]) _ aZ ?_
  intro s aJ;have bO:aq s fb X:=ag u.1 aJ;have bH:=ag u.2 aJ;have a3:=ag ak aJ;have aU:=Q.on aJ;have ay:=P.trans (aJ.mono P.size);have a6:aq s fb X/\s.heap[w.heap.size]?=some (.cells #[l,z,x,y] 39):=⟨bO,bH⟩;refine⟨a6,?_⟩;simp only[qZ];refine aH 7 rfl (.tuple #[.agg (tv a),a.isSome]) a6 ?_;refine aH 8 rfl (.agg (tv a)) a6 ?_;refine aH 9 rfl (.bool a.isSome) a6 ?_;have av:=(zV s.heap.size s).alloc aD (.cells (tv none) 196);have Z:=zZ s (.cells (tv none) 196);obtain⟨m,bV⟩:∃m,s.alloc (.cells (tv none) 196)=m:=⟨_,rfl⟩
  have bz:∀(ev:Operand->Value) (o:Oper),o.op=.alloc 196->(execOp ev o).run prog s=.ok (.value (.pointer (some ⟨s.heap.size,0,none⟩))) m:=by
   intro ev o J;rw[<-bV];unfold execOp;simp only[J]
   kernel_rfl
  rw[bV] at av Z;have G:aq m fb X/\m.heap[w.heap.size]?=some (.cells #[l,z,x,y] 39):=⟨ag bO av,ag bH av⟩;have a4:=ag a3 av;have aX:=aU.on av;have aT:=ay.trans (av.mono ay.size);have bk:b<s.heap.size:=an a3;have a1:∀g,X.tv.ownBlock=some g->g<s.heap.size:=fun g E=>aU.lt E;obtain⟨d,bi⟩:∃d,s.heap.size=d:=⟨_,rfl⟩;rw[bi] at Z bz bk a1;refine aV 10 ?_;refine bI 10 rfl rfl (.pointer (some ⟨d,0,none⟩)) (m) (bz _ _ rfl) (G) ?_
 case' inr=>
  obtain⟨s,bU⟩:∃s,B.alloc (.cells (tv none) 196)=s:=⟨_,rfl⟩;have bg:=zZ B (.cells (tv none) 196)
  have bx:∀(ev:Operand->Value) (o:Oper),o.op=.alloc 196->(execOp ev o).run prog B=.ok (.value (.pointer (some ⟨B.heap.size,0,none⟩))) s:=by
   intro ev o J;rw[<-bU];unfold execOp;simp only[J]
   kernel_rfl
  rw[bU] at I al aB bg;have a3:=ag ak I;have aU:=Q.on I;have ay:=P.trans (I.mono P.size);have bk:b<B.heap.size:=an ak;have a1:∀g,X.tv.ownBlock=some g->g<B.heap.size:=fun g E=>Q.lt E;obtain⟨d,bi⟩:∃d,B.heap.size=d:=⟨_,rfl⟩;rw[bi] at bg bx bk a1;refine bI 10 rfl rfl (.pointer (some ⟨d,0,none⟩)) (s) (bx _ _ rfl) (al) ?_;simp only[qZ];refine aV 6 ?_
  refine it 6 rfl rfl 130 #[X.tv,.agg #[l,z,x,y]] (by simp[go_sem]) (.tuple #[.agg (tv a),a.isSome]) _ aB ?_
  intro m ar;have G:aq m fb X/\m.heap[w.heap.size]?=some (.cells #[l,z,x,y] 39):=⟨ag al.1 ar,ag al.2 ar⟩;have a4:=ag a3 ar;have aX:=aU.on ar;have Z:=ag bg ar;have aT:=ay.trans (ar.mono ay.size);refine⟨G,?_⟩;simp only[qZ];refine aH 7 rfl (.tuple #[.agg (tv a),a.isSome]) G ?_;refine aH 8 rfl (.agg (tv a)) G ?_
  refine t_take 9 rfl (.bool a.isSome) (by kernel_rfl) (by kernel_rfl) (by kernel_rfl) (fun _ _ _ h=>h) rfl (fun w' aw=>by simp[go_sem]) G ?_
 all_goals
  simp only[qZ];have ab:=yX _ _ _ (tv a) _ _ Z
  have n:=aK aT (show w.heap.size<=d by omega) (tv a)
  have t:=(setRow_other (w:=m) (show d≠b by omega) (tv a)).trans a4
  have H:aq (m.setRow d (tv a)) fb X:=(setRow_other (w:=m) (show d≠fb by omega) (tv a)).trans G.1
  have a2:=(setRow_other (w:=m) (show d≠w.heap.size by omega) (tv a)).trans G.2
  have W:ah aW 196 (m.setRow d (tv a)) X.tv ts:=aX.same fun g E=>setRow_other (w:=m) (show d≠g by have:=show g<d from a1 g E; omega) (tv a)
  have aY:∀(ev:Operand->Value) (o:Oper) (p q:Operand),o.op=.store 196 p q->ev p=.pointer (some ⟨d,0,none⟩)->ev q=.agg (tv a)->(execOp ev o).run prog m=.ok .skip (m.setRow d (tv a)):=fun ev o p q J bs aR=>stR ev o p q 196 J (tv a) (tv none) (d9 _) (je _) (by cases a<;>rfl) d bs aR m Z
  generalize m.setRow d (tv a)=c at ab n t H a2 W aY;have a7:aq c fb X/\c.heap[w.heap.size]?=some (.cells #[l,z,x,y] 39):=⟨H,a2⟩;refine aV 11 ?_;refine cL 11 rfl rfl (c) (aY _ _ _ _ rfl rfl rfl) (a7) ?_;simp only[Act.put];refine aH 12 rfl (.bool a.isSome) a7 ?_
  refine zm (by kernel_rfl) ?_ _
  cases a with
  | some T=>
   obtain⟨⟨K,N,L,M⟩,f,j⟩:=T;have ai:=ae (show aq c fb X/\c.heap[d]?=some (.cells (tv (some ⟨⟨K,N,L,M⟩,f,j⟩)) 196)/\c.heap[b]?=some (.cells #[(),(),.string ⟨#[]⟩,.string ⟨#[]⟩] 103)/\ah aW 196 c X.tv ts/\Below w.heap.size w c from⟨H,ab,t,W,n⟩);clear H ab t W n a7 aY Z G a4 aX aT a2 aZ aB I al u ak Q P ba;simp only[Option.isSome_some]
   go_wp2_with fail
   obtain⟨H,ab,t,W,n⟩:=aa ai
   refine z8 (S:=fun w'=>w'.heap[d]?=some (.cells (tv (some ⟨⟨K,N,L,M⟩,f,j⟩)) 196)) (by kernel_rfl) ?_
   change wpAnyH _ _ _ _ _ _ _ _ (World.drew _);have ac:Below c.heap.size c (World.drew c):=zE bu;have U:(World.drew c).heap[d]?=some (.cells (tv (some ⟨⟨K,N,L,M⟩,f,j⟩)) 196):=ab;have aN:aq (World.drew c) fb X:=H;have D:(World.drew c).heap[b]?=some (.cells #[(),(),.string ⟨#[]⟩,.string ⟨#[]⟩] 103):=t;have bb:=W.on ac;have C:=n.trans (ac.mono n.size);generalize World.drew c=aS at U aN D bb C ⊢;clear H ab t W n ac ai;have b1:=use_any fb X ts K N L M f j aS aN bb b9;refine am 0 rfl fb 0 U ?_;refine am 1 rfl fb 0 U ?_;refine am 2 rfl fb 10 U ?_;refine aH 3 rfl (.agg (tv (some ⟨⟨K,N,L,M⟩,f,j⟩))) U ?_ (hy:=fun w' aw=>jT _ _ _ 196 rfl _ rfl _ underlying196 rfl (d9 _) d 0 rfl _ (ao aw));refine aV 4 ?_
   refine it 4 rfl rfl 131 #[.pointer (some ⟨fb,10,none⟩),.agg (tv (some ⟨⟨K,N,L,M⟩,f,j⟩))] (by simp[go_sem]) (.tuple #[]) _ b1 ?_
   rintro V ⟨⟨bo,bP,bc,bA⟩,a5⟩
   have a8:=aQ U a5 (aI U aN (by decide))
   have bf:=aQ D a5 (aI D aN (by decide))
   have bw:aE (fun k=>k=fb) w V:=(aE.of_below C).trans (a5.mono (fun _ _ q=>q));refine⟨a8,?_⟩;simp only[qZ]
   refine zm (by kernel_rfl) ?_ _
   have R:=yX _ _ _ (#[(),(200:Int),f,j]) _ _ bf
   have bR:aq (V.setRow b (#[(),(200:Int),f,j])) fb { X with tv:=bo }:=(setRow_other (w:=V) (show b≠fb by omega) _).trans bP
   have bB:ah aW 196 (V.setRow b (#[(),(200:Int),f,j])) bo (bm ts ⟨K,N,L,M⟩++[⟨⟨K,N,L,M⟩,f,j⟩]):=bc.same fun g E=>setRow_other (w:=V) (show b≠g by have:=au bc bf (by decide) g E; omega) _
   have bJ:aE (fun k=>k=fb) w (V.setRow b (#[(),(200:Int),f,j])):=bw.setRow _ (by omega)
   have cq:=(af a8 4).trans (show _=some (Value.string f) from rfl);have cr:=(af a8 5).trans (show _=some (Value.string j) from rfl)
   have aP:Hid (OnR fb X ver LS ws ts ⟨l,z,x,y⟩ tag w (.returned (.tuple #[.agg #[(),(200:Int),f,j],true])) (V.setRow b (#[(),(200:Int),f,j]))):=⟨⟨0,200,f,j⟩,true,rfl,Or.inr (Or.inl ⟨fun q=>aa be (q.trans (aa a0)),⟨⟨K,N,L,M⟩,f,j⟩,aa bd,rfl,rfl,⟨bo,bR,bB,fun g E=>by have:=bA g E; have:=C.size; omega⟩,bJ⟩)⟩
   have aC:=ae R;clear U aN D bb C b1 bP bc bA a5 a8 bw bR bB bJ R
   go_wp2_with (refine stG 103 #[(),(200:Int),f,j] #[(),(),.string ⟨#[]⟩,.string ⟨#[]⟩] (ki _ _ _ _) (gh _ _ _ _) rfl b bf rfl _ _ rfl rfl rfl ?_)
   exact zL (v:=.tuple #[.agg #[(),(200:Int),f,j],true]) (rct results82 _ _ b 103 #[(),(200:Int),f,j] (0,0) _ (.bool true) rfl rfl (aa aC) underlying103 rfl (ki _ _ _ _)) rfl (aa aP)
  | none=>
   have co:c.cell? ⟨fb,0,none⟩=some (.int .i64 X.q):=(aq.cells H).1
   have cp:c.cell? ⟨fb,7,none⟩=some (.slice ch ws.length ci):=by rw[<-aa b7]; exact(aq.cells H).2.2.2.2.2.2.2.1
   have ai:=ae (show c.heap[b]?=some (.cells #[(),(),.string ⟨#[]⟩,.string ⟨#[]⟩] 103)/\Below w.heap.size w c from⟨t,n⟩);clear H ab t W n a7 aY Z G a4 aX aT a2 aZ aB I al u ak Q P ba;simp only[Option.isSome_none]
   by_cases aR:X.q<=(ws.length:Int)
   ·have ca:decide (X.q<=(ws.length:Int))=true:=by simp[aR]
    go_wp2_with fail
    go_quiet (fail)
    obtain⟨t,n⟩:=aa ai;have D:=ag t (nc c nq);have C:=n.trans ((nc c nq).mono n.size);generalize c.drewN nq=aS at D C ⊢;have R:=yX _ _ _ (#[(),(503:Int),.string ⟨#[]⟩,.string ⟨#[]⟩]) _ _ D;have aP:Hid (OnR fb X ver LS ws ts ⟨l,z,x,y⟩ tag w (.returned (.tuple #[.agg #[(),(503:Int),.string ⟨#[]⟩,.string ⟨#[]⟩],true])) (aS.setRow b (#[(),(503:Int),.string ⟨#[]⟩,.string ⟨#[]⟩]))):=⟨⟨0,503,⟨#[]⟩,⟨#[]⟩⟩,true,rfl,Or.inr (Or.inr (Or.inl ⟨fun q=>aa be (q.trans (aa a0)),aa bd,aR,rfl,rfl,aK C bY _⟩))⟩;have aC:=ae R;clear R t n C ai
    go_wp2_with (refine stG 103 (#[(),(503:Int),.string ⟨#[]⟩,.string ⟨#[]⟩]) #[(),(),.string ⟨#[]⟩,.string ⟨#[]⟩] (ki _ _ _ _) (gh _ _ _ _) rfl b D rfl _ _ rfl rfl rfl ?_)
    exact zL (v:=.tuple #[.agg #[(),(503:Int),.string ⟨#[]⟩,.string ⟨#[]⟩],true]) (rct results82 _ _ b 103 (#[(),(503:Int),.string ⟨#[]⟩,.string ⟨#[]⟩]) (0,0) _ (.bool true) rfl rfl (aa aC) underlying103 rfl (ki _ _ _ _)) rfl (aa aP)
   have ca:decide (X.q<=(ws.length:Int))=false:=by simp[aR]
   go_wp2_with fail
   go_quiet (fail)
   obtain⟨t,n⟩:=aa ai;have D:=ag t (nc c nq);have C:=n.trans ((nc c nq).mono n.size);generalize c.drewN nq=aS at D C ⊢;have R:=yX _ _ _ (#[(),(),.string ⟨#[]⟩,.string ⟨#[]⟩]) _ _ D
   have aP:Hid (OnR fb X ver LS ws ts ⟨l,z,x,y⟩ tag w (.returned (.tuple #[.agg #[(),(),.string ⟨#[]⟩,.string ⟨#[]⟩],false])) (aS.setRow b (#[(),(),.string ⟨#[]⟩,.string ⟨#[]⟩]))):=⟨⟨0,0,⟨#[]⟩,⟨#[]⟩⟩,false,rfl,Or.inr (Or.inr (Or.inr ⟨fun q=>aa be (q.trans (aa a0)),aa bd,by omega,rfl,rfl,aK C bY _⟩))⟩
   have aC:=ae R;clear R t n C ai
   go_wp2_with (refine stG 103 (#[(),(),.string ⟨#[]⟩,.string ⟨#[]⟩]) #[(),(),.string ⟨#[]⟩,.string ⟨#[]⟩] (ki _ _ _ _) (gh _ _ _ _) rfl b D rfl _ _ rfl rfl rfl ?_)
   exact zL (v:=.tuple #[.agg #[(),(),.string ⟨#[]⟩,.string ⟨#[]⟩],false]) (rct results82 _ _ b 103 (#[(),(),.string ⟨#[]⟩,.string ⟨#[]⟩]) (0,0) _ (.bool false) rfl rfl (aa aC) underlying103 rfl (ki _ _ _ _)) rfl (aa aP)
end Go.Proofs.YtpabpniaekldeaaGreatDoor
