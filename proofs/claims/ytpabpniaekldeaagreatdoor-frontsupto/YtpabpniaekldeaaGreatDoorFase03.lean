/-
  The texts DwRefParse, DwShelf, DwPrint, DwTag, FcA, FcB, PkParts, PkLeaf, PkLeafB, PkOwn, PkPack, FcC, FcD, FcE, FcF, FcG, FcH, FdA, FdB, FdC.
-/
import Derived.Test.YtpabpniaekldeaaGreatDoorFase02
import Derived.Test.YtpabpniaekldeaaGreatDoorProg
import Derived.Test.YtpabpniaekldeaaGreatDoorRows
import Derived.Shelf.LaysM
import Derived.Shelf.Strconv.Itoa3
import Derived.Lib.AppendIntMem
import Derived.WalkKit
import Derived.WalkSpells
import Derived.WalkLawsBesides
import Derived.Deep.QuietTactic
import Derived.BigQuiet
import Derived.Laws.BytesArg
import Derived.Laws.IdiomStrings
set_option maxHeartbeats 25600000
namespace Go.Proofs.YtpabpniaekldeaaGreatDoor.Dw
open Go.Proofs.Tryz
open Go.RowKit
set_option maxRecDepth 20000
structure RB (w W:World):Prop where
 r0:W.cell? ⟨w.heap.size,0,none⟩=some (.int .i64 0)
 r1:W.cell? ⟨w.heap.size,1,none⟩=some (.int .i64 0)
 r2:W.cell? ⟨w.heap.size,2,none⟩=some (.int .i64 0)
 r3:W.cell? ⟨w.heap.size,3,none⟩=some (.int .i64 0)
 o0:W.cell? ⟨w.heap.size+1,0,none⟩=some (.int .i64 0)
 o1:W.cell? ⟨w.heap.size+1,1,none⟩=some (.int .i64 0)
 o2:W.cell? ⟨w.heap.size+1,2,none⟩=some (.int .i64 0)
 o3:W.cell? ⟨w.heap.size+1,3,none⟩=some (.int .i64 0)
 f0:W.frozen? ⟨w.heap.size,0,none⟩=false
 f1:W.frozen? ⟨w.heap.size,1,none⟩=false
 f2:W.frozen? ⟨w.heap.size,2,none⟩=false
 f3:W.frozen? ⟨w.heap.size,3,none⟩=false
 wl:w.heap.size+1<W.heap.size
 bel:Below w.heap.size w W
theorem RB.on {w W W':World}(h:RB w W)(hb:Below W.heap.size W W'):RB w W':=by
 have hs:=hb.size;have hw:=h.wl
 have l0:w.heap.size<W.heap.size:=by omega
 exact⟨(hb.cell (p:=⟨w.heap.size,0,none⟩) l0).trans h.r0,(hb.cell (p:=⟨w.heap.size,1,none⟩) l0).trans h.r1,(hb.cell (p:=⟨w.heap.size,2,none⟩) l0).trans h.r2,(hb.cell (p:=⟨w.heap.size,3,none⟩) l0).trans h.r3,
  (hb.cell (p:=⟨w.heap.size+1,0,none⟩) hw).trans h.o0,(hb.cell (p:=⟨w.heap.size+1,1,none⟩) hw).trans h.o1,(hb.cell (p:=⟨w.heap.size+1,2,none⟩) hw).trans h.o2,(hb.cell (p:=⟨w.heap.size+1,3,none⟩) hw).trans h.o3,
  (hb.frozen (p:=⟨w.heap.size,0,none⟩) l0).trans h.f0,(hb.frozen (p:=⟨w.heap.size,1,none⟩) l0).trans h.f1,(hb.frozen (p:=⟨w.heap.size,2,none⟩) l0).trans h.f2,(hb.frozen (p:=⟨w.heap.size,3,none⟩) l0).trans h.f3,
  by omega,h.bel.trans (hb.mono (by omega))⟩
theorem RB.start (w:World):RB w ((w.alloc (.cells #[(),(),(),()] 39)).alloc (.cells #[(),(),(),()] 39)):=by
 refine⟨?_,?_,?_,?_,?_,?_,?_,?_,?_,?_,?_,?_,?_,?_⟩
 all_goals first
  | exact(bu.alloc aD _).alloc (by simp) _
  | simp[go_sem]
theorem lX (w:World):Calls prog 137 #[()] w fun e w'=>e=.returned (.string ⟨#[108,97,110,100]⟩)/\Below w.heap.size w w':=gV 0 (by omega) w
theorem oV (w:World):Calls prog 137 #[(1:Int)] w fun e w'=>e=.returned (.string ⟨#[119,97,116,101,114]⟩)/\Below w.heap.size w w':=gV 1 (by omega) w
theorem name_2 (w:World):Calls prog 137 #[(2:Int)] w fun e w'=>e=.returned (.string ⟨#[114,111,97,100]⟩)/\Below w.heap.size w w':=gV 2 (by omega) w
theorem name_3 (w:World):Calls prog 137 #[(3:Int)] w fun e w'=>e=.returned (.string ⟨#[109,97,114,107]⟩)/\Below w.heap.size w w':=gV 3 (by omega) w
theorem ref_none1 (p:List UInt8)(h:p.length<5\/p.drop (p.length-5)≠Pp.dotTile):Pp.splitL p=none:=by
 rw[<-Pp.refL_eq]; unfold Pp.refL; rw[if_pos h]
theorem ref_case (p:List UInt8)(pcs:List (List UInt8))(h:¬(p.length<5\/p.drop (p.length-5)≠Pp.dotTile))(hp:pcs=Pp.pieces (p.take (p.length-5))):
  Pp.splitL p=if Pp.refOk pcs=true then some (pcs.getD 1 [],pcs.getD 2 [],pcs.getD 3 [],pcs.getD 4 []) else none:=by
 rw[<-Pp.refL_eq,hp]; unfold Pp.refL; rw[if_neg h]
theorem ok5 (a n z x y:List UInt8):Pp.refOk [a,n,z,x,y]=(decide (a=[]) && (Pp.nameB n && (Pp.numB z && (Pp.numB x && Pp.numB y)))):=by
 simp[Pp.refOk]
theorem lK (s:ByteArray)(w:World)(hs:s.size<=1048576)(h:s.size<5\/¬s.data.toList.drop (s.size-5)=Pp.dotTile):
  Calls prog 84 #[s] w fun e w'=>(∃l z x y er:Int,parseL s.data.toList=((l,z,x,y),er)/\e=.returned (.tuple #[.agg #[l,z,x,y],er]))/\Below w.heap.size w w':=by
 have hP:=ae (cQ _ (ref_none1 s.data.toList (by rw[bw]; exact h)))
 by_cases h5:s.size<5
 focus
  clear h
 rotate_left
 focus
  have hd:¬s.data.toList.drop (s.size-5)=Pp.dotTile:=h.resolve_left h5
  have hsuf:((s.extract (s.size-5) s.size).toList==[46,116,105,108,101])=false:=by
   rw[beq_eq_false_iff_ne,ByteArray.toList_eq,cut_hi]; exact hd
  clear h hd
 all_goals
  go_enter func84,ntmps84
  go_wp2_with fail
  refine bodyPost_ret (v:=.tuple #[.agg #[(),(),(),()],(1:Int)]) (by simp[results,results84,go_sem]) rfl ⟨⟨0,0,0,0,1,aa hP,rfl⟩,?_⟩
  exact(bu.alloc aD _).alloc (by simp) _
theorem ownS_some {W:World}{B:Nat}{v:Value}{l:List ByteArray}(h:OwnS W B v l)(hl:0<l.length):∃g cap,v=.slice (some ⟨g,0,none⟩) l.length cap/\g<W.heap.size/\∀j (hj:j<l.length),W.cell? ⟨g,j,none⟩=some (.string l[j]):=by
 have h0:=h
 rcases h.2 with⟨_,hn⟩|⟨g,cap,cur,rfl,_,hg,_,_,_,_⟩
 ·omega
 refine⟨g,cap,rfl,?_,?_⟩
 ·exact(Array.getElem?_eq_some_iff.1 hg).1
 intro j hj
 rw[World.ownsRow.cellAt h0 j (by omega)]
 simp[hj]
theorem mR (s:ByteArray)(w:World)(hs:s.size<=1048576)(h5:5<=s.size)(hd:s.data.toList.drop (s.size-5)=Pp.dotTile):
  Calls prog 84 #[s] w fun e w'=>(∃l z x y er:Int,parseL s.data.toList=((l,z,x,y),er)/\e=.returned (.tuple #[.agg #[l,z,x,y],er]))/\Below w.heap.size w w':=by
 have hsuf:((s.extract (s.size-5) s.size).toList==[46,116,105,108,101])=true:=by
  rw[ByteArray.toList_eq,cut_hi,hd]; rfl
 have hcase:∀pcs,pcs=Pp.pieces (s.data.toList.take (s.size-5))->Pp.splitL s.data.toList=if Pp.refOk pcs=true then some (pcs.getD 1 [],pcs.getD 2 [],pcs.getD 3 [],pcs.getD 4 []) else none:=
  fun pcs hp=>ref_case s.data.toList pcs (by rw[bw]; intro e; rcases e with e|e; omega; exact e hd) (by rw[bw]; exact hp)
 have HC:=ae hcase;clear hcase hd
 have hex:(s.extract 0 (s.size-5)).size<=1048576:=by simp; omega
 go_enter func84,ntmps84
 go_wp2_with fail
 refine(parts_any _ _ hex).mono ?_;rintro e w1 ⟨v,l,rfl,hown,hpcs,hsz,hb⟩;rw[cut_lo] at hpcs;have hsp:=ae (aa HC _ hpcs)
 have hne:0<l.length:=by
  have e:=congrArg List.length hpcs;rw[List.length_map] at e;have:=Pp.pieces_ne (s.data.toList.take (s.size-5));have h2:0<(Pp.pieces (s.data.toList.take (s.size-5))).length:=List.length_pos_iff.2 this;omega
 obtain⟨g,cap,rfl,hg,hcell⟩:=ownS_some hown hne;have HSZ:=ae hsz;clear HC hpcs hown hsz hex;have hI:=(RB.start w).on hb;clear hb
 by_cases hl5:l.length=5
 ·match l,hl5 with
  | [A,N,Z,X,Y],_=>
   have c0:w1.cell? ⟨g,0,none⟩=some (.string A):=hcell 0 (by simp)
   have c1:w1.cell? ⟨g,1,none⟩=some (.string N):=hcell 1 (by simp)
   have c2:w1.cell? ⟨g,2,none⟩=some (.string Z):=hcell 2 (by simp)
   have c3:w1.cell? ⟨g,3,none⟩=some (.string X):=hcell 3 (by simp)
   have c4:w1.cell? ⟨g,4,none⟩=some (.string Y):=hcell 4 (by simp)
   have sN:N.size<=maxLen:=aa HSZ N (by simp)
   have sZ:Z.size<=maxLen:=aa HSZ Z (by simp)
   have sX:X.size<=maxLen:=aa HSZ X (by simp)
   have sY:Y.size<=maxLen:=aa HSZ Y (by simp)
   have hsp':Hid (Pp.splitL s.data.toList=if (decide (A.data.toList=[]) && (Pp.nameB N.data.toList && (Pp.numB Z.data.toList && (Pp.numB X.data.toList && Pp.numB Y.data.toList))))=true then some (N.data.toList,Z.data.toList,X.data.toList,Y.data.toList) else none):=by
    have:=aa hsp;simp only[List.map_cons,List.map_nil,ok5] at this;exact this
   clear hsp hcell HSZ hne;have hAl:A.toList.isEmpty=A.data.toList.isEmpty:=empty_of A _ rfl;have HI:=ae hI;obtain⟨r0,r1,r2,r3,o0,o1,o2,o3,f0,f1,f2,f3,wl,bel⟩:=hI;have HBw:=ae bel;clear bel
   cases hA:A.data.toList.isEmpty with
   | false=>
    rw[hA] at hAl
    have hP:Hid (parseL s.data.toList=((0,0,0,0),1)):=by
     refine ae (cQ _ ?_);rw[aa hsp',if_neg]
     have:¬A.data.toList=[]:=fun e=>by rw[e] at hA; cases hA
     simp[this]
    clear hsp' hA
    go_wp2_with fail
    refine bodyPost_ret (v:=.tuple #[.agg #[(),(),(),()],(1:Int)]) (by simp[results,results84,go_sem,r0,r1,r2,r3]) rfl ⟨⟨0,0,0,0,1,aa hP,rfl⟩,?_⟩
    exact((((aa HBw).setCell aD _).setCell aD _).setCell aD _).setCell aD _
   | true=>
    rw[hA] at hAl;have hA0:A.data.toList=[]:=List.isEmpty_iff.1 hA;rw[hA0] at hsp';clear hA hA0
    cases hn:Pp.nameB N.data.toList with
    | false=>
     have hP:Hid (parseL s.data.toList=((0,0,0,0),1)):=by
      refine ae (cQ _ ?_)
      rw[aa hsp',hn]; simp
     obtain⟨vz,hvz⟩:∃v,eH Z.data.toList=v:=⟨_,rfl⟩;obtain⟨vx,hvx⟩:∃v,eH X.data.toList=v:=⟨_,rfl⟩;obtain⟨vy,hvy⟩:∃v,eH Y.data.toList=v:=⟨_,rfl⟩;have HZ:=ae hvz;have HX:=ae hvx;have HY:=ae hvy;have Hn:=ae hn;clear hsp' hn hvz hvx hvy
     go_wp2_with fail
     refine(da N 97 122 8 _ _ _ _ sN rfl rfl rfl).mono ?_;rintro e w2 ⟨rfl,rfl⟩;rw[dw,aa Hn]
     go_wp2_with fail
     refine(aJ Z _ sZ).mono ?_;rintro e w2 ⟨rfl,rfl⟩;rw[aa HZ]
     go_wp2_with fail
     refine(aJ X _ sX).mono ?_;rintro e w2 ⟨rfl,rfl⟩;rw[aa HX]
     go_wp2_with fail
     refine(aJ Y _ sY).mono ?_;rintro e w2 ⟨rfl,rfl⟩;rw[aa HY]
     go_wp2_with fail
     refine bodyPost_ret (v:=.tuple #[.agg #[(),(),(),()],(1:Int)]) (by simp[results,results84,go_sem,r0,r1,r2,r3]) rfl ⟨⟨0,0,0,0,1,aa hP,rfl⟩,?_⟩
     exact((((aa HBw).setCell aD _).setCell aD _).setCell aD _).setCell aD _
    | true=>
     cases hz:Pp.numB Z.data.toList with
     | false=>
      have hP:Hid (parseL s.data.toList=((0,0,0,0),1)):=by
       refine ae (cQ _ ?_)
       rw[aa hsp',hn,hz]; simp
      have HZ:Hid (eH Z.data.toList=-1):=jF _ hz;obtain⟨vx,hvx⟩:∃v,eH X.data.toList=v:=⟨_,rfl⟩;have HX:=ae hvx;clear hvx;obtain⟨vy,hvy⟩:∃v,eH Y.data.toList=v:=⟨_,rfl⟩;have HY:=ae hvy;clear hvy;have Hn:=ae hn;clear hsp' hn hz
      go_wp2_with fail
      refine(da N 97 122 8 _ _ _ _ sN rfl rfl rfl).mono ?_;rintro e w2 ⟨rfl,rfl⟩;rw[dw,aa Hn]
      go_wp2_with fail
      refine(aJ Z _ sZ).mono ?_;rintro e w2 ⟨rfl,rfl⟩;rw[aa HZ]
      go_wp2_with fail
      refine(aJ X _ sX).mono ?_;rintro e w2 ⟨rfl,rfl⟩;rw[aa HX]
      go_wp2_with fail
      refine(aJ Y _ sY).mono ?_;rintro e w2 ⟨rfl,rfl⟩;rw[aa HY]
      go_wp2_with fail
      refine bodyPost_ret (v:=.tuple #[.agg #[(),(),(),()],(1:Int)]) (by simp[results,results84,go_sem,r0,r1,r2,r3]) rfl ⟨⟨0,0,0,0,1,aa hP,rfl⟩,?_⟩
      exact((((aa HBw).setCell aD _).setCell aD _).setCell aD _).setCell aD _
     | true=>
      cases hx:Pp.numB X.data.toList with
      | false=>
       have hP:Hid (parseL s.data.toList=((0,0,0,0),1)):=by
        refine ae (cQ _ ?_)
        rw[aa hsp',hn,hz,hx]; simp
       obtain⟨vz,hvz⟩:∃v,Pp.valL Z.data.toList=v:=⟨_,rfl⟩
       have HZ:Hid (eH Z.data.toList=(vz:Int)):=by show eH _=_; rw[fq _ hz,hvz]
       have cvz:vz<1000000000:=by
        have:=dU Z 9 (by have:=(Pp.numB_len _ hz).2; rw[bw] at this; exact this) (Pp.numB_within _ hz)
        have l9:=(Pp.numB_len _ hz).2;rw[List.take_of_length_le l9,hvz] at this;exact this
       have HX:Hid (eH X.data.toList=-1):=jF _ hx;obtain⟨vy,hvy⟩:∃v,eH Y.data.toList=v:=⟨_,rfl⟩;have HY:=ae hvy;clear hvy;have Hn:=ae hn;clear hsp' hn hz hx hvz
       go_wp2_with fail
       refine(da N 97 122 8 _ _ _ _ sN rfl rfl rfl).mono ?_;rintro e w2 ⟨rfl,rfl⟩;rw[dw,aa Hn]
       go_wp2_with fail
       refine(aJ Z _ sZ).mono ?_;rintro e w2 ⟨rfl,rfl⟩;rw[aa HZ]
       go_wp2_with fail
       refine(aJ X _ sX).mono ?_;rintro e w2 ⟨rfl,rfl⟩;rw[aa HX]
       go_wp2_with fail
       refine(aJ Y _ sY).mono ?_;rintro e w2 ⟨rfl,rfl⟩;rw[aa HY]
       go_wp2_with fail
       refine bodyPost_ret (v:=.tuple #[.agg #[(),(),(),()],(1:Int)]) (by simp[results,results84,go_sem,r0,r1,r2,r3]) rfl ⟨⟨0,0,0,0,1,aa hP,rfl⟩,?_⟩
       exact((((aa HBw).setCell aD _).setCell aD _).setCell aD _).setCell aD _
      | true=>
       cases hy:Pp.numB Y.data.toList with
       | false=>
        have hP:Hid (parseL s.data.toList=((0,0,0,0),1)):=by
         refine ae (cQ _ ?_)
         rw[aa hsp',hn,hz,hx,hy]; simp
        obtain⟨vz,hvz⟩:∃v,Pp.valL Z.data.toList=v:=⟨_,rfl⟩
        have HZ:Hid (eH Z.data.toList=(vz:Int)):=by show eH _=_; rw[fq _ hz,hvz]
        have cvz:vz<1000000000:=by
         have:=dU Z 9 (by have:=(Pp.numB_len _ hz).2; rw[bw] at this; exact this) (Pp.numB_within _ hz)
         have l9:=(Pp.numB_len _ hz).2;rw[List.take_of_length_le l9,hvz] at this;exact this
        obtain⟨vx,hvx⟩:∃v,Pp.valL X.data.toList=v:=⟨_,rfl⟩
        have HX:Hid (eH X.data.toList=(vx:Int)):=by show eH _=_; rw[fq _ hx,hvx]
        have cvx:vx<1000000000:=by
         have:=dU X 9 (by have:=(Pp.numB_len _ hx).2; rw[bw] at this; exact this) (Pp.numB_within _ hx)
         have l9:=(Pp.numB_len _ hx).2;rw[List.take_of_length_le l9,hvx] at this;exact this
        have HY:Hid (eH Y.data.toList=-1):=jF _ hy;have Hn:=ae hn;clear hsp' hn hz hx hy hvz hvx
        go_wp2_with fail
        refine(da N 97 122 8 _ _ _ _ sN rfl rfl rfl).mono ?_;rintro e w2 ⟨rfl,rfl⟩;rw[dw,aa Hn]
        go_wp2_with fail
        refine(aJ Z _ sZ).mono ?_;rintro e w2 ⟨rfl,rfl⟩;rw[aa HZ]
        go_wp2_with fail
        refine(aJ X _ sX).mono ?_;rintro e w2 ⟨rfl,rfl⟩;rw[aa HX]
        go_wp2_with fail
        refine(aJ Y _ sY).mono ?_;rintro e w2 ⟨rfl,rfl⟩;rw[aa HY]
        go_wp2_with fail
        refine bodyPost_ret (v:=.tuple #[.agg #[(),(),(),()],(1:Int)]) (by simp[results,results84,go_sem,r0,r1,r2,r3]) rfl ⟨⟨0,0,0,0,1,aa hP,rfl⟩,?_⟩
        exact((((aa HBw).setCell aD _).setCell aD _).setCell aD _).setCell aD _
       | true=>
        have hsp:Pp.splitL s.data.toList=some (N.data.toList,Z.data.toList,X.data.toList,Y.data.toList):=by
         rw[aa hsp',hn,hz,hx,hy]; simp
        obtain⟨vz,hvz⟩:∃v,Pp.valL Z.data.toList=v:=⟨_,rfl⟩
        have HZ:Hid (eH Z.data.toList=(vz:Int)):=by show eH _=_; rw[fq _ hz,hvz]
        have cvz:vz<1000000000:=by
         have:=dU Z 9 (by have:=(Pp.numB_len _ hz).2; rw[bw] at this; exact this) (Pp.numB_within _ hz)
         have l9:=(Pp.numB_len _ hz).2;rw[List.take_of_length_le l9,hvz] at this;exact this
        obtain⟨vx,hvx⟩:∃v,Pp.valL X.data.toList=v:=⟨_,rfl⟩
        have HX:Hid (eH X.data.toList=(vx:Int)):=by show eH _=_; rw[fq _ hx,hvx]
        have cvx:vx<1000000000:=by
         have:=dU X 9 (by have:=(Pp.numB_len _ hx).2; rw[bw] at this; exact this) (Pp.numB_within _ hx)
         have l9:=(Pp.numB_len _ hx).2;rw[List.take_of_length_le l9,hvx] at this;exact this
        obtain⟨vy,hvy⟩:∃v,Pp.valL Y.data.toList=v:=⟨_,rfl⟩
        have HY:Hid (eH Y.data.toList=(vy:Int)):=by show eH _=_; rw[fq _ hy,hvy]
        have cvy:vy<1000000000:=by
         have:=dU Y 9 (by have:=(Pp.numB_len _ hy).2; rw[bw] at this; exact this) (Pp.numB_within _ hy)
         have l9:=(Pp.numB_len _ hy).2;rw[List.take_of_length_le l9,hvy] at this;exact this
        have Hn:=ae hn;have hNl:N.toList=N.data.toList:=ByteArray.toList_eq N;have HG:=hg;clear hsp' hn hz hx hy hg
        by_cases h0:N.data.toList=Pp.land
        ·have hL:Pp.layerL N.data.toList=0:=by simp[Pp.layerL,h0]
         have b0:([108,97,110,100]==N.data.toList)=true:=fG _ _ h0;have hok:=ae (fW _ _ _ _ _ hsp);have herr:=ae (eh _ _ _ _ _ hsp);rw[hL,hvz,hvx,hvy] at hok herr;clear hsp hL hvz hvx hvy h0
         go_wp2_with fail
         refine(da N 97 122 8 _ _ _ _ sN rfl rfl rfl).mono ?_;rintro e w2 ⟨rfl,rfl⟩;rw[dw,aa Hn]
         go_wp2_with fail
         refine(aJ Z _ sZ).mono ?_;rintro e w2 ⟨rfl,rfl⟩;rw[aa HZ]
         go_wp2_with fail
         refine(aJ X _ sX).mono ?_;rintro e w2 ⟨rfl,rfl⟩;rw[aa HX]
         go_wp2_with fail
         refine(aJ Y _ sY).mono ?_;rintro e w2 ⟨rfl,rfl⟩;rw[aa HY];clear c0 c2 c3 c4 HZ HX HY Hn hAl sN sZ sX sY
         go_wp2
         refine wp_loop_rounds 5 ?_;rw[rounds_succ]
         go_wp2_with fail
         refine(lX _).mono ?_;rintro e wn0 ⟨rfl,hbn0⟩
         have hgn0:g<wn0.heap.size:=by have:=hbn0.size; omega
         have c1n0:wn0.cell? ⟨g,1,none⟩=some (.string N):=(hbn0.cell (p:=⟨g,1,none⟩) HG).trans c1;have HIn0:=(aa HI).on hbn0;clear r0 r1 r2 r3 o0 o1 o2 o3 f0 f1 f2 f3 wl HBw HI c1 HG hbn0;obtain⟨r0,r1,r2,r3,o0,o1,o2,o3,f0,f1,f2,f3,wl,bel⟩:=HIn0;have HI:Hid (RB w wn0):=ae ⟨r0,r1,r2,r3,o0,o1,o2,o3,f0,f1,f2,f3,wl,bel⟩;have HBw:=ae bel;have c1:=c1n0;have HG:=hgn0;clear bel c1n0 hgn0
         go_wp2_with fail
         refine(bq 0 vz vx vy _).mono ?_;rintro e wk ⟨rfl,hbk⟩;generalize Pp.keyErr 0 vz vx vy=E at hok herr
         have hka:Below wn0.heap.size wn0 wk:=(bu.alloc aD _).trans (hbk.mono (by simp))
         obtain⟨hck,hfk⟩:=mw hbk
         have hkl:wn0.heap.size<wn0.heap.size+1:=by omega
         have HIk:=(aa HI).on hka;clear r0 r1 r2 r3 o0 o1 o2 o3 f0 f1 f2 f3 wl HBw HI c1 HG hbk hka;obtain⟨r0,r1,r2,r3,o0,o1,o2,o3,f0,f1,f2,f3,wl,bel⟩:=HIk;have HBw:=ae bel;clear bel
         by_cases hE:E=0
         ·have hP:=ae (aa hok hE)
          subst hE;clear hok herr
          go_wp2_with fail
          refine bodyPost_ret (v:=.tuple #[.agg #[(),vz,vx,vy],()]) (by simp[results,results84,go_sem,r0,r1,r2,r3]) rfl ⟨⟨0,vz,vx,vy,0,aa hP,rfl⟩,?_⟩
          exact((((aa HBw).setCell aD _).setCell aD _).setCell aD _).setCell aD _
         have hP:=ae (aa herr hE)
         have hbe:(E != 0)=true:=by rw[bne_iff_ne]; exact hE
         clear hok herr hE
         go_wp2_with fail
         refine bodyPost_ret (v:=.tuple #[.agg #[(),(),(),()],E]) (by simp[results,results84,go_sem,r0,r1,r2,r3]) rfl ⟨⟨0,0,0,0,E,aa hP,rfl⟩,?_⟩
         exact((((aa HBw).setCell aD _).setCell aD _).setCell aD _).setCell aD _
        have b0:([108,97,110,100]==N.data.toList)=false:=im _ _ h0
        by_cases h1:N.data.toList=Pp.water
        ·have hL:Pp.layerL N.data.toList=1:=by simp[Pp.layerL,h1,Pp.land,Pp.water]
         have b1:([119,97,116,101,114]==N.data.toList)=true:=fG _ _ h1;have hok:=ae (fW _ _ _ _ _ hsp);have herr:=ae (eh _ _ _ _ _ hsp);rw[hL,hvz,hvx,hvy] at hok herr;clear hsp hL hvz hvx hvy h0 h1
         go_wp2_with fail
         refine(da N 97 122 8 _ _ _ _ sN rfl rfl rfl).mono ?_;rintro e w2 ⟨rfl,rfl⟩;rw[dw,aa Hn]
         go_wp2_with fail
         refine(aJ Z _ sZ).mono ?_;rintro e w2 ⟨rfl,rfl⟩;rw[aa HZ]
         go_wp2_with fail
         refine(aJ X _ sX).mono ?_;rintro e w2 ⟨rfl,rfl⟩;rw[aa HX]
         go_wp2_with fail
         refine(aJ Y _ sY).mono ?_;rintro e w2 ⟨rfl,rfl⟩;rw[aa HY];clear c0 c2 c3 c4 HZ HX HY Hn hAl sN sZ sX sY
         go_wp2
         refine wp_loop_rounds 5 ?_;rw[rounds_succ]
         go_wp2_with fail
         refine(lX _).mono ?_;rintro e wn0 ⟨rfl,hbn0⟩
         have hgn0:g<wn0.heap.size:=by have:=hbn0.size; omega
         have c1n0:wn0.cell? ⟨g,1,none⟩=some (.string N):=(hbn0.cell (p:=⟨g,1,none⟩) HG).trans c1;have HIn0:=(aa HI).on hbn0;clear r0 r1 r2 r3 o0 o1 o2 o3 f0 f1 f2 f3 wl HBw HI c1 HG hbn0;obtain⟨r0,r1,r2,r3,o0,o1,o2,o3,f0,f1,f2,f3,wl,bel⟩:=HIn0;have HI:Hid (RB w wn0):=ae ⟨r0,r1,r2,r3,o0,o1,o2,o3,f0,f1,f2,f3,wl,bel⟩;have HBw:=ae bel;have c1:=c1n0;have HG:=hgn0;clear bel c1n0 hgn0
         go_wp2_with fail
         rw[rounds_succ]
         go_wp2_with fail
         refine(oV _).mono ?_;rintro e wn1 ⟨rfl,hbn1⟩
         have hgn1:g<wn1.heap.size:=by have:=hbn1.size; omega
         have c1n1:wn1.cell? ⟨g,1,none⟩=some (.string N):=(hbn1.cell (p:=⟨g,1,none⟩) HG).trans c1;have HIn1:=(aa HI).on hbn1;clear r0 r1 r2 r3 o0 o1 o2 o3 f0 f1 f2 f3 wl HBw HI c1 HG hbn1;obtain⟨r0,r1,r2,r3,o0,o1,o2,o3,f0,f1,f2,f3,wl,bel⟩:=HIn1;have HI:Hid (RB w wn1):=ae ⟨r0,r1,r2,r3,o0,o1,o2,o3,f0,f1,f2,f3,wl,bel⟩;have HBw:=ae bel;have c1:=c1n1;have HG:=hgn1;clear bel c1n1 hgn1
         go_wp2_with fail
         refine(bq 1 vz vx vy _).mono ?_;rintro e wk ⟨rfl,hbk⟩;generalize Pp.keyErr 1 vz vx vy=E at hok herr
         have hka:Below wn1.heap.size wn1 wk:=(bu.alloc aD _).trans (hbk.mono (by simp))
         obtain⟨hck,hfk⟩:=mw hbk
         have hkl:wn1.heap.size<wn1.heap.size+1:=by omega
         have HIk:=(aa HI).on hka;clear r0 r1 r2 r3 o0 o1 o2 o3 f0 f1 f2 f3 wl HBw HI c1 HG hbk hka;obtain⟨r0,r1,r2,r3,o0,o1,o2,o3,f0,f1,f2,f3,wl,bel⟩:=HIk;have HBw:=ae bel;clear bel
         by_cases hE:E=0
         ·have hP:=ae (aa hok hE)
          subst hE;clear hok herr
          go_wp2_with fail
          refine bodyPost_ret (v:=.tuple #[.agg #[(1:Int),vz,vx,vy],()]) (by simp[results,results84,go_sem,r0,r1,r2,r3]) rfl ⟨⟨1,vz,vx,vy,0,aa hP,rfl⟩,?_⟩
          exact((((aa HBw).setCell aD _).setCell aD _).setCell aD _).setCell aD _
         have hP:=ae (aa herr hE)
         have hbe:(E != 0)=true:=by rw[bne_iff_ne]; exact hE
         clear hok herr hE
         go_wp2_with fail
         refine bodyPost_ret (v:=.tuple #[.agg #[(),(),(),()],E]) (by simp[results,results84,go_sem,r0,r1,r2,r3]) rfl ⟨⟨0,0,0,0,E,aa hP,rfl⟩,?_⟩
         exact((((aa HBw).setCell aD _).setCell aD _).setCell aD _).setCell aD _
        have b1:([119,97,116,101,114]==N.data.toList)=false:=im _ _ h1
        by_cases h2:N.data.toList=Pp.road
        ·have hL:Pp.layerL N.data.toList=2:=by simp[Pp.layerL,h2,Pp.land,Pp.water,Pp.road]
         have b2:([114,111,97,100]==N.data.toList)=true:=fG _ _ h2;have hok:=ae (fW _ _ _ _ _ hsp);have herr:=ae (eh _ _ _ _ _ hsp);rw[hL,hvz,hvx,hvy] at hok herr;clear hsp hL hvz hvx hvy h0 h1 h2
         go_wp2_with fail
         refine(da N 97 122 8 _ _ _ _ sN rfl rfl rfl).mono ?_;rintro e w2 ⟨rfl,rfl⟩;rw[dw,aa Hn]
         go_wp2_with fail
         refine(aJ Z _ sZ).mono ?_;rintro e w2 ⟨rfl,rfl⟩;rw[aa HZ]
         go_wp2_with fail
         refine(aJ X _ sX).mono ?_;rintro e w2 ⟨rfl,rfl⟩;rw[aa HX]
         go_wp2_with fail
         refine(aJ Y _ sY).mono ?_;rintro e w2 ⟨rfl,rfl⟩;rw[aa HY];clear c0 c2 c3 c4 HZ HX HY Hn hAl sN sZ sX sY
         go_wp2
         refine wp_loop_rounds 5 ?_;rw[rounds_succ]
         go_wp2_with fail
         refine(lX _).mono ?_;rintro e wn0 ⟨rfl,hbn0⟩
         have hgn0:g<wn0.heap.size:=by have:=hbn0.size; omega
         have c1n0:wn0.cell? ⟨g,1,none⟩=some (.string N):=(hbn0.cell (p:=⟨g,1,none⟩) HG).trans c1;have HIn0:=(aa HI).on hbn0;clear r0 r1 r2 r3 o0 o1 o2 o3 f0 f1 f2 f3 wl HBw HI c1 HG hbn0;obtain⟨r0,r1,r2,r3,o0,o1,o2,o3,f0,f1,f2,f3,wl,bel⟩:=HIn0;have HI:Hid (RB w wn0):=ae ⟨r0,r1,r2,r3,o0,o1,o2,o3,f0,f1,f2,f3,wl,bel⟩;have HBw:=ae bel;have c1:=c1n0;have HG:=hgn0;clear bel c1n0 hgn0
         go_wp2_with fail
         rw[rounds_succ]
         go_wp2_with fail
         refine(oV _).mono ?_;rintro e wn1 ⟨rfl,hbn1⟩
         have hgn1:g<wn1.heap.size:=by have:=hbn1.size; omega
         have c1n1:wn1.cell? ⟨g,1,none⟩=some (.string N):=(hbn1.cell (p:=⟨g,1,none⟩) HG).trans c1;have HIn1:=(aa HI).on hbn1;clear r0 r1 r2 r3 o0 o1 o2 o3 f0 f1 f2 f3 wl HBw HI c1 HG hbn1;obtain⟨r0,r1,r2,r3,o0,o1,o2,o3,f0,f1,f2,f3,wl,bel⟩:=HIn1;have HI:Hid (RB w wn1):=ae ⟨r0,r1,r2,r3,o0,o1,o2,o3,f0,f1,f2,f3,wl,bel⟩;have HBw:=ae bel;have c1:=c1n1;have HG:=hgn1;clear bel c1n1 hgn1
         go_wp2_with fail
         rw[rounds_succ]
         go_wp2_with fail
         refine(name_2 _).mono ?_;rintro e wn2 ⟨rfl,hbn2⟩
         have hgn2:g<wn2.heap.size:=by have:=hbn2.size; omega
         have c1n2:wn2.cell? ⟨g,1,none⟩=some (.string N):=(hbn2.cell (p:=⟨g,1,none⟩) HG).trans c1;have HIn2:=(aa HI).on hbn2;clear r0 r1 r2 r3 o0 o1 o2 o3 f0 f1 f2 f3 wl HBw HI c1 HG hbn2;obtain⟨r0,r1,r2,r3,o0,o1,o2,o3,f0,f1,f2,f3,wl,bel⟩:=HIn2;have HI:Hid (RB w wn2):=ae ⟨r0,r1,r2,r3,o0,o1,o2,o3,f0,f1,f2,f3,wl,bel⟩;have HBw:=ae bel;have c1:=c1n2;have HG:=hgn2;clear bel c1n2 hgn2
         go_wp2_with fail
         refine(bq 2 vz vx vy _).mono ?_;rintro e wk ⟨rfl,hbk⟩;generalize Pp.keyErr 2 vz vx vy=E at hok herr
         have hka:Below wn2.heap.size wn2 wk:=(bu.alloc aD _).trans (hbk.mono (by simp))
         obtain⟨hck,hfk⟩:=mw hbk
         have hkl:wn2.heap.size<wn2.heap.size+1:=by omega
         have HIk:=(aa HI).on hka;clear r0 r1 r2 r3 o0 o1 o2 o3 f0 f1 f2 f3 wl HBw HI c1 HG hbk hka;obtain⟨r0,r1,r2,r3,o0,o1,o2,o3,f0,f1,f2,f3,wl,bel⟩:=HIk;have HBw:=ae bel;clear bel
         by_cases hE:E=0
         ·have hP:=ae (aa hok hE)
          subst hE;clear hok herr
          go_wp2_with fail
          refine bodyPost_ret (v:=.tuple #[.agg #[(2:Int),vz,vx,vy],()]) (by simp[results,results84,go_sem,r0,r1,r2,r3]) rfl ⟨⟨2,vz,vx,vy,0,aa hP,rfl⟩,?_⟩
          exact((((aa HBw).setCell aD _).setCell aD _).setCell aD _).setCell aD _
         have hP:=ae (aa herr hE)
         have hbe:(E != 0)=true:=by rw[bne_iff_ne]; exact hE
         clear hok herr hE
         go_wp2_with fail
         refine bodyPost_ret (v:=.tuple #[.agg #[(),(),(),()],E]) (by simp[results,results84,go_sem,r0,r1,r2,r3]) rfl ⟨⟨0,0,0,0,E,aa hP,rfl⟩,?_⟩
         exact((((aa HBw).setCell aD _).setCell aD _).setCell aD _).setCell aD _
        have b2:([114,111,97,100]==N.data.toList)=false:=im _ _ h2
        by_cases h3:N.data.toList=Pp.mark
        ·have hL:Pp.layerL N.data.toList=3:=by simp[Pp.layerL,h3,Pp.land,Pp.water,Pp.road,Pp.mark]
         have b3:([109,97,114,107]==N.data.toList)=true:=fG _ _ h3;have hok:=ae (fW _ _ _ _ _ hsp);have herr:=ae (eh _ _ _ _ _ hsp);rw[hL,hvz,hvx,hvy] at hok herr;clear hsp hL hvz hvx hvy h0 h1 h2 h3
         go_wp2_with fail
         refine(da N 97 122 8 _ _ _ _ sN rfl rfl rfl).mono ?_;rintro e w2 ⟨rfl,rfl⟩;rw[dw,aa Hn]
         go_wp2_with fail
         refine(aJ Z _ sZ).mono ?_;rintro e w2 ⟨rfl,rfl⟩;rw[aa HZ]
         go_wp2_with fail
         refine(aJ X _ sX).mono ?_;rintro e w2 ⟨rfl,rfl⟩;rw[aa HX]
         go_wp2_with fail
         refine(aJ Y _ sY).mono ?_;rintro e w2 ⟨rfl,rfl⟩;rw[aa HY];clear c0 c2 c3 c4 HZ HX HY Hn hAl sN sZ sX sY
         go_wp2
         refine wp_loop_rounds 5 ?_;rw[rounds_succ]
         go_wp2_with fail
         refine(lX _).mono ?_;rintro e wn0 ⟨rfl,hbn0⟩
         have hgn0:g<wn0.heap.size:=by have:=hbn0.size; omega
         have c1n0:wn0.cell? ⟨g,1,none⟩=some (.string N):=(hbn0.cell (p:=⟨g,1,none⟩) HG).trans c1;have HIn0:=(aa HI).on hbn0;clear r0 r1 r2 r3 o0 o1 o2 o3 f0 f1 f2 f3 wl HBw HI c1 HG hbn0;obtain⟨r0,r1,r2,r3,o0,o1,o2,o3,f0,f1,f2,f3,wl,bel⟩:=HIn0;have HI:Hid (RB w wn0):=ae ⟨r0,r1,r2,r3,o0,o1,o2,o3,f0,f1,f2,f3,wl,bel⟩;have HBw:=ae bel;have c1:=c1n0;have HG:=hgn0;clear bel c1n0 hgn0
         go_wp2_with fail
         rw[rounds_succ]
         go_wp2_with fail
         refine(oV _).mono ?_;rintro e wn1 ⟨rfl,hbn1⟩
         have hgn1:g<wn1.heap.size:=by have:=hbn1.size; omega
         have c1n1:wn1.cell? ⟨g,1,none⟩=some (.string N):=(hbn1.cell (p:=⟨g,1,none⟩) HG).trans c1;have HIn1:=(aa HI).on hbn1;clear r0 r1 r2 r3 o0 o1 o2 o3 f0 f1 f2 f3 wl HBw HI c1 HG hbn1;obtain⟨r0,r1,r2,r3,o0,o1,o2,o3,f0,f1,f2,f3,wl,bel⟩:=HIn1;have HI:Hid (RB w wn1):=ae ⟨r0,r1,r2,r3,o0,o1,o2,o3,f0,f1,f2,f3,wl,bel⟩;have HBw:=ae bel;have c1:=c1n1;have HG:=hgn1;clear bel c1n1 hgn1
         go_wp2_with fail
         rw[rounds_succ]
         go_wp2_with fail
         refine(name_2 _).mono ?_;rintro e wn2 ⟨rfl,hbn2⟩
         have hgn2:g<wn2.heap.size:=by have:=hbn2.size; omega
         have c1n2:wn2.cell? ⟨g,1,none⟩=some (.string N):=(hbn2.cell (p:=⟨g,1,none⟩) HG).trans c1;have HIn2:=(aa HI).on hbn2;clear r0 r1 r2 r3 o0 o1 o2 o3 f0 f1 f2 f3 wl HBw HI c1 HG hbn2;obtain⟨r0,r1,r2,r3,o0,o1,o2,o3,f0,f1,f2,f3,wl,bel⟩:=HIn2;have HI:Hid (RB w wn2):=ae ⟨r0,r1,r2,r3,o0,o1,o2,o3,f0,f1,f2,f3,wl,bel⟩;have HBw:=ae bel;have c1:=c1n2;have HG:=hgn2;clear bel c1n2 hgn2
         go_wp2_with fail
         rw[rounds_succ]
         go_wp2_with fail
         refine(name_3 _).mono ?_;rintro e wn3 ⟨rfl,hbn3⟩
         have hgn3:g<wn3.heap.size:=by have:=hbn3.size; omega
         have c1n3:wn3.cell? ⟨g,1,none⟩=some (.string N):=(hbn3.cell (p:=⟨g,1,none⟩) HG).trans c1;have HIn3:=(aa HI).on hbn3;clear r0 r1 r2 r3 o0 o1 o2 o3 f0 f1 f2 f3 wl HBw HI c1 HG hbn3;obtain⟨r0,r1,r2,r3,o0,o1,o2,o3,f0,f1,f2,f3,wl,bel⟩:=HIn3;have HI:Hid (RB w wn3):=ae ⟨r0,r1,r2,r3,o0,o1,o2,o3,f0,f1,f2,f3,wl,bel⟩;have HBw:=ae bel;have c1:=c1n3;have HG:=hgn3;clear bel c1n3 hgn3
         go_wp2_with fail
         refine(bq 3 vz vx vy _).mono ?_;rintro e wk ⟨rfl,hbk⟩;generalize Pp.keyErr 3 vz vx vy=E at hok herr
         have hka:Below wn3.heap.size wn3 wk:=(bu.alloc aD _).trans (hbk.mono (by simp))
         obtain⟨hck,hfk⟩:=mw hbk
         have hkl:wn3.heap.size<wn3.heap.size+1:=by omega
         have HIk:=(aa HI).on hka;clear r0 r1 r2 r3 o0 o1 o2 o3 f0 f1 f2 f3 wl HBw HI c1 HG hbk hka;obtain⟨r0,r1,r2,r3,o0,o1,o2,o3,f0,f1,f2,f3,wl,bel⟩:=HIk;have HBw:=ae bel;clear bel
         by_cases hE:E=0
         ·have hP:=ae (aa hok hE)
          subst hE;clear hok herr
          go_wp2_with fail
          refine bodyPost_ret (v:=.tuple #[.agg #[(3:Int),vz,vx,vy],()]) (by simp[results,results84,go_sem,r0,r1,r2,r3]) rfl ⟨⟨3,vz,vx,vy,0,aa hP,rfl⟩,?_⟩
          exact((((aa HBw).setCell aD _).setCell aD _).setCell aD _).setCell aD _
         have hP:=ae (aa herr hE)
         have hbe:(E != 0)=true:=by rw[bne_iff_ne]; exact hE
         clear hok herr hE
         go_wp2_with fail
         refine bodyPost_ret (v:=.tuple #[.agg #[(),(),(),()],E]) (by simp[results,results84,go_sem,r0,r1,r2,r3]) rfl ⟨⟨0,0,0,0,E,aa hP,rfl⟩,?_⟩
         exact((((aa HBw).setCell aD _).setCell aD _).setCell aD _).setCell aD _
        have b3:([109,97,114,107]==N.data.toList)=false:=im _ _ h3
        have hL:Pp.layerL N.data.toList=-1:=by simp[Pp.layerL,h0,h1,h2,h3]
        have hP:Hid (parseL s.data.toList=((0,0,0,0),2)):=by
         have he:Pp.keyErr (Pp.layerL N.data.toList) (Pp.valL Z.data.toList) (Pp.valL X.data.toList) (Pp.valL Y.data.toList)=2:=by rw[hL]; exact dF _ _ _ _ (Or.inl (by decide))
         show parseL s.data.toList=_
         rw[eh _ _ _ _ _ hsp (by rw[he]; decide),he]
        clear hsp hL hvz hvx hvy h0 h1 h2 h3
        go_wp2_with fail
        refine(da N 97 122 8 _ _ _ _ sN rfl rfl rfl).mono ?_;rintro e w2 ⟨rfl,rfl⟩;rw[dw,aa Hn]
        go_wp2_with fail
        refine(aJ Z _ sZ).mono ?_;rintro e w2 ⟨rfl,rfl⟩;rw[aa HZ]
        go_wp2_with fail
        refine(aJ X _ sX).mono ?_;rintro e w2 ⟨rfl,rfl⟩;rw[aa HX]
        go_wp2_with fail
        refine(aJ Y _ sY).mono ?_;rintro e w2 ⟨rfl,rfl⟩;rw[aa HY];clear c0 c2 c3 c4 HZ HX HY Hn hAl sN sZ sX sY
        go_wp2
        refine wp_loop_rounds 5 ?_;rw[rounds_succ]
        go_wp2_with fail
        refine(lX _).mono ?_;rintro e wn0 ⟨rfl,hbn0⟩
        have hgn0:g<wn0.heap.size:=by have:=hbn0.size; omega
        have c1n0:wn0.cell? ⟨g,1,none⟩=some (.string N):=(hbn0.cell (p:=⟨g,1,none⟩) HG).trans c1;have HIn0:=(aa HI).on hbn0;clear r0 r1 r2 r3 o0 o1 o2 o3 f0 f1 f2 f3 wl HBw HI c1 HG hbn0;obtain⟨r0,r1,r2,r3,o0,o1,o2,o3,f0,f1,f2,f3,wl,bel⟩:=HIn0;have HI:Hid (RB w wn0):=ae ⟨r0,r1,r2,r3,o0,o1,o2,o3,f0,f1,f2,f3,wl,bel⟩;have HBw:=ae bel;have c1:=c1n0;have HG:=hgn0;clear bel c1n0 hgn0
        go_wp2_with fail
        rw[rounds_succ]
        go_wp2_with fail
        refine(oV _).mono ?_;rintro e wn1 ⟨rfl,hbn1⟩
        have hgn1:g<wn1.heap.size:=by have:=hbn1.size; omega
        have c1n1:wn1.cell? ⟨g,1,none⟩=some (.string N):=(hbn1.cell (p:=⟨g,1,none⟩) HG).trans c1;have HIn1:=(aa HI).on hbn1;clear r0 r1 r2 r3 o0 o1 o2 o3 f0 f1 f2 f3 wl HBw HI c1 HG hbn1;obtain⟨r0,r1,r2,r3,o0,o1,o2,o3,f0,f1,f2,f3,wl,bel⟩:=HIn1;have HI:Hid (RB w wn1):=ae ⟨r0,r1,r2,r3,o0,o1,o2,o3,f0,f1,f2,f3,wl,bel⟩;have HBw:=ae bel;have c1:=c1n1;have HG:=hgn1;clear bel c1n1 hgn1
        go_wp2_with fail
        rw[rounds_succ]
        go_wp2_with fail
        refine(name_2 _).mono ?_;rintro e wn2 ⟨rfl,hbn2⟩
        have hgn2:g<wn2.heap.size:=by have:=hbn2.size; omega
        have c1n2:wn2.cell? ⟨g,1,none⟩=some (.string N):=(hbn2.cell (p:=⟨g,1,none⟩) HG).trans c1;have HIn2:=(aa HI).on hbn2;clear r0 r1 r2 r3 o0 o1 o2 o3 f0 f1 f2 f3 wl HBw HI c1 HG hbn2;obtain⟨r0,r1,r2,r3,o0,o1,o2,o3,f0,f1,f2,f3,wl,bel⟩:=HIn2;have HI:Hid (RB w wn2):=ae ⟨r0,r1,r2,r3,o0,o1,o2,o3,f0,f1,f2,f3,wl,bel⟩;have HBw:=ae bel;have c1:=c1n2;have HG:=hgn2;clear bel c1n2 hgn2
        go_wp2_with fail
        rw[rounds_succ]
        go_wp2_with fail
        refine(name_3 _).mono ?_;rintro e wn3 ⟨rfl,hbn3⟩
        have hgn3:g<wn3.heap.size:=by have:=hbn3.size; omega
        have c1n3:wn3.cell? ⟨g,1,none⟩=some (.string N):=(hbn3.cell (p:=⟨g,1,none⟩) HG).trans c1;have HIn3:=(aa HI).on hbn3;clear r0 r1 r2 r3 o0 o1 o2 o3 f0 f1 f2 f3 wl HBw HI c1 HG hbn3;obtain⟨r0,r1,r2,r3,o0,o1,o2,o3,f0,f1,f2,f3,wl,bel⟩:=HIn3;have HI:Hid (RB w wn3):=ae ⟨r0,r1,r2,r3,o0,o1,o2,o3,f0,f1,f2,f3,wl,bel⟩;have HBw:=ae bel;have c1:=c1n3;have HG:=hgn3;clear bel c1n3 hgn3
        go_wp2_with fail
        rw[rounds_succ]
        go_wp2_with fail
        refine bodyPost_ret (v:=.tuple #[.agg #[(),(),(),()],(2:Int)]) (by simp[results,results84,go_sem,r0,r1,r2,r3]) rfl ⟨⟨0,0,0,0,2,aa hP,rfl⟩,?_⟩
        exact((((aa HBw).setCell aD _).setCell aD _).setCell aD _).setCell aD _
 have hbe:((l.length:Int) != 5)=true:=by rw[bne_iff_ne]; omega
 have hP:Hid (parseL s.data.toList=((0,0,0,0),1)):=by
  refine ae (cQ _ ?_);rw[aa hsp,if_neg];intro e;have:=((Pp.refOk_iff _).1 e).1.1;rw[List.length_map] at this;exact hl5 this
 clear hsp hl5 hcell;obtain⟨r0,r1,r2,r3,o0,o1,o2,o3,f0,f1,f2,f3,wl,bel⟩:=hI;have HBw:=ae bel;clear bel
 go_wp2_with fail
 refine bodyPost_ret (v:=.tuple #[.agg #[(),(),(),()],(1:Int)]) (by simp[results,results84,go_sem,r0,r1,r2,r3]) rfl ⟨⟨0,0,0,0,1,aa hP,rfl⟩,?_⟩
 exact((((aa HBw).setCell aD _).setCell aD _).setCell aD _).setCell aD _
end Go.Proofs.YtpabpniaekldeaaGreatDoor.Dw
namespace Go.Proofs
open Go.Proofs.Tryz
set_option maxRecDepth 20000
open Go.Shelf
def Tryz.laysM171_ren:Go.Shelf.Ren:=⟨fun|171=>180|243=>195|246=>198|283=>199|284=>200|285=>201|286=>202|129=>204|317=>203|318=>205|319=>206|320=>207|337=>208|338=>209|n=>n,fun|3=>3|9=>9|2=>2|4=>4|171=>246|0=>0|53=>247|37=>220|5=>5|173=>250|212=>253|51=>254|20=>20|213=>255|46=>256|232=>259|233=>260|n=>n,fun|17=>1|18=>2|19=>3|n=>n⟩
theorem Tryz.laysM171:Go.Proofs.LaysM.n171 prog Tryz.laysM171_ren:={
 mixed:=by kernel_rfl
 f129:=func204.trans (congrArg some (by kernel_rfl))
 f171:=func180.trans (congrArg some (by kernel_rfl))
 f243:=func195.trans (congrArg some (by kernel_rfl))
 f246:=func198.trans (congrArg some (by kernel_rfl))
 f283:=func199.trans (congrArg some (by kernel_rfl))
 f284:=func200.trans (congrArg some (by kernel_rfl))
 f285:=func201.trans (congrArg some (by kernel_rfl))
 f286:=func202.trans (congrArg some (by kernel_rfl))
 f317:=func203.trans (congrArg some (by kernel_rfl))
 f318:=func205.trans (congrArg some (by kernel_rfl))
 f319:=func206.trans (congrArg some (by kernel_rfl))
 f320:=func207.trans (congrArg some (by kernel_rfl))
 f337:=func208.trans (congrArg some (by kernel_rfl))
 f338:=func209.trans (congrArg some (by kernel_rfl))
 t0:=underlying0
 a0:=Tryz.isAgg0
 z0:=Tryz.sizeOf0
 v0:=Tryz.zeroValue0
 t2:=underlying2
 a2:=Tryz.isAgg2
 z2:=Tryz.sizeOf2
 v2:=Tryz.zeroValue2
 t3:=underlying3
 a3:=Tryz.isAgg3
 z3:=Tryz.sizeOf3
 v3:=Tryz.zeroValue3
 t4:=underlying4
 a4:=Tryz.isAgg4
 z4:=Tryz.sizeOf4
 v4:=Tryz.zeroValue4
 t5:=underlying5
 a5:=Tryz.isAgg5
 z5:=Tryz.sizeOf5
 v5:=Tryz.zeroValue5
 t9:=underlying9
 a9:=Tryz.isAgg9
 z9:=Tryz.sizeOf9
 v9:=Tryz.zeroValue9
 t20:=underlying20
 a20:=Tryz.isAgg20
 z20:=Tryz.sizeOf20
 v20:=Tryz.zeroValue20
 t37:=underlying220
 a37:=Tryz.isAgg220
 z37:=Tryz.sizeOf220
 v37:=Tryz.zeroValue220
 t46:=underlying256
 a46:=Tryz.isAgg256
 z46:=Tryz.sizeOf256
 v46:=Tryz.zeroValue256
 t51:=underlying254
 a51:=Tryz.isAgg254
 z51:=Tryz.sizeOf254
 v51:=Tryz.zeroValue254
 t53:=underlying247
 a53:=Tryz.isAgg247
 z53:=Tryz.sizeOf247
 v53:=Tryz.zeroValue247
 t171:=underlying246
 a171:=Tryz.isAgg246
 z171:=Tryz.sizeOf246
 v171:=Tryz.zeroValue246
 t173:=underlying250
 a173:=Tryz.isAgg250
 z173:=Tryz.sizeOf250
 v173:=Tryz.zeroValue250
 t212:=underlying253
 a212:=Tryz.isAgg253
 z212:=Tryz.sizeOf253
 v212:=Tryz.zeroValue253
 t213:=underlying255
 a213:=Tryz.isAgg255
 z213:=Tryz.sizeOf255
 t232:=underlying259
 a232:=Tryz.isAgg259
 z232:=Tryz.sizeOf259
 v232:=Tryz.zeroValue259
 t233:=underlying260
 a233:=Tryz.isAgg260
 z233:=Tryz.sizeOf260
 v233:=Tryz.zeroValue260
 g17:=by kernel_rfl
 g18:=by kernel_rfl
 g19:=by kernel_rfl
 i0:=by kernel_rfl
 i2:=by kernel_rfl
 i3:=by kernel_rfl
 i4:=by kernel_rfl
 i5:=by kernel_rfl
 i9:=by kernel_rfl
 i20:=by kernel_rfl
 i37:=by kernel_rfl
 i46:=by kernel_rfl
 i51:=by kernel_rfl
 i53:=by kernel_rfl
 i171:=by kernel_rfl
 i173:=by kernel_rfl
 i212:=by kernel_rfl
 i232:=by kernel_rfl
 i233:=by kernel_rfl
 m17:=by kernel_rfl
 m18:=by kernel_rfl
 m19:=by kernel_rfl }
theorem Tryz.itoa_any (n : Int)(h0 : -9223372036854775808 ≤ n)(h1 : n ≤ 9223372036854775807)(w : World)(htab : Lib.TabIs Tryz.prog w "internal/strconv.uint64pow10" .u64 Lib.pow10Tab):
  Calls prog 180 #[n] w fun e w'=>e=.returned (.string ⟨(Lib.itoa n).toArray⟩)/\∃k os,w'=Sort.grow (w.drewN k) os:=Any.strconv_Itoa Tryz.laysM171 n h0 h1 w htab
end Go.Proofs
namespace Go.Proofs.YtpabpniaekldeaaGreatDoor.Dw
open Go.Proofs.Tryz
open Go.RowKit
set_option maxRecDepth 20000
theorem refParse_any (s:ByteArray)(w:World)(hs:s.size<=1048576):
  Calls prog 84 #[s] w fun e w'=>(∃l z x y er:Int,parseL s.data.toList=((l,z,x,y),er)/\e=.returned (.tuple #[.agg #[l,z,x,y],er]))/\Below w.heap.size w w':=by
 by_cases h:s.size<5\/¬s.data.toList.drop (s.size-5)=Pp.dotTile
 ·exact lK s w hs h
 exact mR s w hs (by omega) (Classical.not_not.1 (fun e=>h (Or.inr e)))
def printL (l z x y:Nat):List UInt8:=47::(Pp.names l++47::(Lib.decDigits z++47::(Lib.decDigits x++47::(Lib.decDigits y++Pp.dotTile))))
abbrev Tab (w : World): Prop := Lib.TabBelow Tryz.prog w.heap.size w "internal/strconv.uint64pow10" .u64 Lib.pow10Tab
theorem dig_size (n:Nat):(⟨(Lib.decDigits n).toArray⟩:ByteArray).size<=n+1:=dec_len n
theorem ll (n:Nat)(w W:World)(hn:n<=1000000000)(hT:Tab w)(hb:Below w.heap.size w W):
  Calls prog 180 #[n] W fun e w'=>(∃D:ByteArray,e=.returned (.string D)/\D.data.toList=Lib.decDigits n/\D.size<=1000000001)/\Below W.heap.size W w':=by
 refine(Tryz.itoa_any n (by omega) (by omega) W (hT W hb)).mono ?_
 rintro e w' ⟨rfl,k,os,rfl⟩;refine⟨⟨_,rfl,?_,?_⟩,Lib.below_grow _ _ aD k os⟩
 ·rw[Lib.itoa_nonneg]
 rw[Lib.itoa_nonneg];have:=dig_size n;omega
theorem name_in (l:Nat)(hl:l<4)(w:World)(h:NamesIn w):∃M:ByteArray,w.cell? ⟨0,l,none⟩=some (.string M)/\M.data.toList=Pp.names l/\M.size<=10:=by
 obtain⟨c0,c1,c2,c3⟩:=h
 match l,hl with
 | 0,_=>exact⟨_,c0,rfl,by decide⟩
 | 1,_=>exact⟨_,c1,rfl,by decide⟩
 | 2,_=>exact⟨_,c2,rfl,by decide⟩
 | 3,_=>exact⟨_,c3,rfl,by decide⟩
theorem size_lit (a:Array UInt8):(⟨a⟩:ByteArray).size=a.size:=rfl
structure KB (w:World)(l z x y:Nat)(W:World):Prop where
 kl:W.cell? ⟨w.heap.size,0,none⟩=some (.int .i64 l)
 kz:W.cell? ⟨w.heap.size,1,none⟩=some (.int .i64 z)
 kx:W.cell? ⟨w.heap.size,2,none⟩=some (.int .i64 x)
 ky:W.cell? ⟨w.heap.size,3,none⟩=some (.int .i64 y)
 wl:w.heap.size<W.heap.size
 bel:Below w.heap.size w W
theorem KB.start (w:World)(l z x y:Nat):KB w l z x y (w.alloc (.cells #[l,z,x,y] 39)):=by
 refine⟨?_,?_,?_,?_,?_,?_⟩
 all_goals first
  | exact bu.alloc aD _
  | simp[go_sem]
theorem KB.on {w W W':World}{l z x y:Nat}(h:KB w l z x y W)(hb:Below W.heap.size W W'):KB w l z x y W':=by
 have hs:=hb.size;have hw:=h.wl
 exact⟨(hb.cell (p:=⟨w.heap.size,0,none⟩) hw).trans h.kl,(hb.cell (p:=⟨w.heap.size,1,none⟩) hw).trans h.kz,(hb.cell (p:=⟨w.heap.size,2,none⟩) hw).trans h.kx,(hb.cell (p:=⟨w.heap.size,3,none⟩) hw).trans h.ky,by omega,h.bel.trans (hb.mono (by omega))⟩
theorem print_yes (l z x y:Nat)(w:World)(hl:l<4)(hz:z<=1000000)(hx:x<=10000000)(hy:y<=10000000)(h:Pp.keyErr l z x y=0)(hN:Nm w)(hT:Tab w):
  Calls prog 149 #[.agg #[l,z,x,y]] w fun e w'=>(∃P:ByteArray,e=.returned (.tuple #[P,()])/\P.data.toList=printL l z x y/\P.size<=5000000000)/\Below w.heap.size w w':=by
 have HT:=ae hT;have HN:=ae hN;have HK:=ae h;clear hT hN h
 have hl4:(l:Int)<4:=by omega
 go_enter func149,ntmps149
 go_wp2_with fail
 refine(bV l z x y _).mono ?_;rintro e w1 ⟨rfl,hb⟩;rw[aa HK];have hI:=(KB.start w l z x y).on hb;have HI:=ae hI;obtain⟨kl,kz,kx,ky,wl,bel⟩:=hI;obtain⟨M,cM,hM,sM⟩:=name_in l hl w1 ((aa HN).on bel).2;have HM:=ae hM;clear hb bel hM
 go_wp2_with fail
 refine(ll z w w1 (by omega) (aa HT) (aa HI).bel).mono ?_
 rintro e w2 ⟨⟨Dz,rfl,hDz,sz⟩,hb2⟩;have HDz:=ae hDz;have hI2:=(aa HI).on hb2;clear kl kz kx ky wl HI hb2 hDz cM;have HI:=ae hI2;obtain⟨kl,kz,kx,ky,wl,bel⟩:=hI2;clear bel
 go_wp2_with fail
 refine(ll x w w2 (by omega) (aa HT) (aa HI).bel).mono ?_
 rintro e w3 ⟨⟨Dx,rfl,hDx,sx⟩,hb3⟩;have HDx:=ae hDx;have hI3:=(aa HI).on hb3;clear kl kz kx ky wl HI hb3 hDx;have HI:=ae hI3;obtain⟨kl,kz,kx,ky,wl,bel⟩:=hI3;clear bel
 go_wp2_with fail
 refine(ll y w w3 (by omega) (aa HT) (aa HI).bel).mono ?_
 rintro e w4 ⟨⟨Dy,rfl,hDy,sy⟩,hb4⟩;have HDy:=ae hDy;have hI4:=(aa HI).on hb4;clear kl kz kx ky wl HI hb4 hDy;have HBf:=ae hI4.bel;clear hI4
 go_wp2_with fail
 go_ret2
 refine⟨⟨_,rfl,?_,?_⟩,aa HBf⟩
 ·simp[aa HM,aa HDz,aa HDx,aa HDy,printL,Pp.dotTile]
 simp only[ByteArray.size_append,size_lit];simp;omega
theorem iy (n:Nat)(W:World)(hn:n<=1000000000):
  Calls prog 173 #[n] W fun e w'=>(∃D:ByteArray,e=.returned (.string D)/\D.data.toList=Lib.decDigits n/\D.size<=1000000001)/\Below W.heap.size W w':=by
 refine(digits_any n W hn).mono ?_;rintro e w' ⟨rfl,hb⟩;have:=dig_size n
 exact⟨⟨_,rfl,rfl,by omega⟩,hb⟩
theorem names_at (l:Nat)(hl:l<4)(W:World):
  Calls prog 137 #[l] W fun e w'=>(∃M:ByteArray,e=.returned (.string M)/\M.data.toList=Pp.names l/\M.size<=10)/\Below W.heap.size W w':=by
 refine(gV l hl W).mono ?_;rintro e w' ⟨rfl,hb⟩;refine⟨⟨_,rfl,rfl,?_⟩,hb⟩
 match l,hl with
 | 0,_=>decide
 | 1,_=>decide
 | 2,_=>decide
 | 3,_=>decide
theorem oH (l z x y:Nat)(w:World)(hl:l<4)(hz:z<=1000000)(hx:x<=10000000)(hy:y<=10000000)(h:Pp.keyErr l z x y=0):
  Calls prog 150 #[.agg #[l,z,x,y]] w fun e w'=>(∃P:ByteArray,e=.returned (.tuple #[P,()])/\P.data.toList=printL l z x y/\P.size<=5000000000)/\Below w.heap.size w w':=by
 have HK:=ae h;clear h;go_enter func150,ntmps150
 go_wp2_with fail
 refine(bq l z x y _).mono ?_;rintro e w1 ⟨rfl,hb⟩;rw[aa HK];have hI:=(KB.start w l z x y).on hb;have HI:=ae hI;obtain⟨kl,kz,kx,ky,wl,bel⟩:=hI;clear hb bel
 go_wp2_with fail
 refine(names_at l hl _).mono ?_;rintro e w2 ⟨⟨M,rfl,hM,sM⟩,hb2⟩;have HM:=ae hM;have hI2:=(aa HI).on hb2;clear kl kz kx ky wl HI hb2 hM;have HI:=ae hI2;obtain⟨kl,kz,kx,ky,wl,bel⟩:=hI2;have HBf:=ae bel;clear bel
 go_wp2
 refine wp_loop_rounds 4 ?_;rw[rounds_succ];clear kl kz kx ky HI
 go_wp2_with fail
 refine(iy z _ (by omega)).mono ?_
 rintro e w3 ⟨⟨Dz,rfl,hDz,sz⟩,hb3⟩;have HDz:=ae hDz
 have e0:w3.cell? ⟨w2.heap.size,1,none⟩=some (.int .i64 x):=(hb3.cell (p:=⟨w2.heap.size,1,none⟩) (by simp)).trans (by simp[go_sem])
 have e1:w3.cell? ⟨w2.heap.size,2,none⟩=some (.int .i64 y):=(hb3.cell (p:=⟨w2.heap.size,2,none⟩) (by simp)).trans (by simp[go_sem])
 have s3:w2.heap.size<w3.heap.size:=by have:=hb3.size; simp at this; omega
 have b3:Below w.heap.size w w3:=((aa HBf).alloc (by omega) _).trans (hb3.mono (by simp; omega))
 have HB3:=ae b3;clear hb3 b3 hDz HBf
 go_wp2_with fail
 rw[rounds_succ]
 go_wp2_with fail
 refine(iy x _ (by omega)).mono ?_
 rintro e w4 ⟨⟨Dx,rfl,hDx,sx⟩,hb4⟩;have HDx:=ae hDx;have e1':w4.cell? ⟨w2.heap.size,2,none⟩=some (.int .i64 y):=(hb4.cell (p:=⟨w2.heap.size,2,none⟩) s3).trans e1;have b4:Below w.heap.size w w4:=(aa HB3).trans (hb4.mono (aa HB3).size);have HB4:=ae b4;clear hb4 b4 hDx HB3 e0 e1
 go_wp2_with fail
 rw[rounds_succ]
 go_wp2_with fail
 refine(iy y _ (by omega)).mono ?_
 rintro e w5 ⟨⟨Dy,rfl,hDy,sy⟩,hb5⟩;have HDy:=ae hDy;have b5:Below w.heap.size w w5:=(aa HB4).trans (hb5.mono (aa HB4).size);have HB5:=ae b5;clear hb5 b5 hDy HB4 e1'
 go_wp2_with fail
 rw[rounds_succ]
 go_wp2_with fail
 go_ret2
 refine⟨⟨_,rfl,?_,?_⟩,aa HB5⟩
 ·simp[aa HM,aa HDz,aa HDx,aa HDy,printL,Pp.dotTile]
 simp only[ByteArray.size_append,size_lit];simp;omega
theorem tab_on {w W:World}(hT:Tab w)(hb:Below w.heap.size w W):Tab W:=fun w' hb'=>hT w' (hb.trans (hb'.mono hb.size))
theorem aj (w:World)(o:Obj):Below w.heap.size w (w.alloc o):=bu.alloc aD _
theorem tag_yes (l z x y v:Nat)(w:World)(hl:l<4)(hz:z<=1000000)(hx:x<=10000000)(hy:y<=10000000)(h:Pp.keyErr l z x y=0)(hN:Nm w)(hT:Tab w)(hv:v<=100):
  Calls prog 151 #[.agg #[l,z,x,y],v] w fun e w'=>(∃T:ByteArray,e=.returned (.tuple #[T,()])/\T.data.toList=printL l z x y++64::Lib.decDigits v)/\Below w.heap.size w w':=by
 have HK:=ae h;clear h;have HN:=ae hN;have HT:=ae hT;clear hN hT;go_enter func151,ntmps151
 go_wp2_with fail
 refine(print_yes l z x y _ hl hz hx hy (aa HK) ((aa HN).on (aj _ _)) (tab_on (aa HT) (aj _ _))).mono ?_;rintro e w1 ⟨⟨P,rfl,hP,sP⟩,hb⟩
 have hB:Below w.heap.size w w1:=(bu.alloc aD _).trans (hb.mono (by simp))
 have HB:=ae hB;have HP:=ae hP;clear hb hB hP
 go_wp2_with fail
 refine(ll v w w1 (by omega) (aa HT) (aa HB)).mono ?_
 rintro e w2 ⟨⟨D,rfl,hD,sD⟩,hb2⟩;have hB2:Below w.heap.size w w2:=(aa HB).trans (hb2.mono (aa HB).size);have HB2:=ae hB2;have HD:=ae hD;clear hb2 hB2 hD
 go_wp2_with fail
 go_ret2
 refine⟨⟨_,rfl,?_⟩,aa HB2⟩;simp[aa HP,aa HD]
theorem refTag_yes (l z x y v:Nat)(w:World)(hl:l<4)(hz:z<=1000000)(hx:x<=10000000)(hy:y<=10000000)(h:Pp.keyErr l z x y=0)(hv:v<=100):
  Calls prog 139 #[.agg #[l,z,x,y],v] w fun e w'=>(∃T:ByteArray,e=.returned (.tuple #[T,()])/\T.data.toList=printL l z x y++64::Lib.decDigits v)/\Below w.heap.size w w':=by
 have HK:=ae h;clear h;go_enter func139,ntmps139
 go_wp2_with fail
 refine(oH l z x y _ hl hz hx hy (aa HK)).mono ?_;rintro e w1 ⟨⟨P,rfl,hP,sP⟩,hb⟩
 have hB:Below w.heap.size w w1:=(bu.alloc aD _).trans (hb.mono (by simp))
 have HB:=ae hB;have HP:=ae hP;clear hb hB hP
 go_wp2_with fail
 refine(iy v _ (by omega)).mono ?_
 rintro e w2 ⟨⟨D,rfl,hD,sD⟩,hb2⟩;have hB2:Below w.heap.size w w2:=(aa HB).trans (hb2.mono (aa HB).size);have HB2:=ae hB2;have HD:=ae hD;clear hb2 hB2 hD
 go_wp2_with fail
 go_ret2
 refine⟨⟨_,rfl,?_⟩,aa HB2⟩;simp[aa HP,aa HD]
end Go.Proofs.YtpabpniaekldeaaGreatDoor.Dw
namespace Go.Proofs.YtpabpniaekldeaaGreatDoor
open Go.Proofs.Tryz
open Go.RowKit
set_option maxRecDepth 20000
def Glb (w : World): Prop := 4 ≤ w.heap.size ∧ ∀ W : World, (∀ i, i < 4 → W.heap[i]? = w.heap[i]?) → Dw.NamesIn W ∧ Lib.TabIs Tryz.prog W "internal/strconv.uint64pow10" .u64 Lib.pow10Tab
theorem Glb.nm {w:World}(h:Glb w):Dw.Nm w:=⟨by have:=h.1; omega,(h.2 w fun _ _=>rfl).1⟩
theorem Glb.on {w w':World}(h:Glb w)(hb:Below w.heap.size w w'):Glb w':=⟨by have:=hb.size; have:=h.1; omega,fun W hW=>h.2 W fun i hi=>(hW i hi).trans (hb.block i (by have:=h.1; omega))⟩
theorem Glb.tab {w:World}(h:Glb w):Dw.Tab w:=fun w' hb=>((h.on hb).2 w' fun _ _=>rfl).2
theorem Glb.frm {w w':World}{S:Nat->Prop}(h:Glb w)(hf:aE S w w')(hS:∀k,S k->4<=k):Glb w':=⟨by have:=hf.size; have:=h.1; omega,fun W hW=>h.2 W fun i hi=>(hW i hi).trans (hf.block i (by have:=h.1; omega) (fun q=>by have:=hS i q; omega))⟩
theorem dy.perr {k:K4}(h:dy k):Dw.Pp.keyErr k.l k.z k.x k.y=0:=by
 have h1:=h.l;have h2:=h.z;have h3:=h.x;have h4:=h.y;unfold Dw.Pp.keyErr
 rw[if_neg (by omega),if_neg (by omega),if_neg (by omega)]
theorem pow22 {z:Int}(h:z<=22):(2:Int) ^ z.toNat<=4194304:=by
 have h1:z.toNat<=22:=by omega
 have h2:(2:Nat) ^ z.toNat<=2 ^ 22:=Nat.pow_le_pow_right (by decide) h1
 have h3:((2:Int) ^ z.toNat)=((2 ^ z.toNat:Nat):Int):=by simp
 rw[h3];omega
theorem dy.small {k:K4}(h:dy k):bP k:=by
 have h1:=pow22 h.z.2;have h2:=h.x;have h3:=h.y
 exact⟨by omega,by omega⟩
def du (k:K4)(s:Int):ByteArray:=⟨(Dw.printL k.l.toNat k.z.toNat k.x.toNat k.y.toNat++64::Lib.decDigits s.toNat).toArray⟩
theorem ba_of (T:ByteArray)(l:List UInt8)(h:T.data.toList=l):T=⟨l.toArray⟩:=by
 subst h; cases T; simp
theorem Tag_any (l z x y s:Int)(w:World)(hk:dy ⟨l,z,x,y⟩)(hs:0<=s/\s<=100)(hg:Glb w):
  Calls prog 151 #[.agg #[l,z,x,y],s] w fun e w'=>e=.returned (.tuple #[.string (du ⟨l,z,x,y⟩ s),()])/\Below w.heap.size w w':=by
 have hsm:=hk.small;obtain⟨⟨x1,x2⟩,⟨y1,y2⟩⟩:=hsm;have hl:=hk.l;have hz:=hk.z;have hpe:=hk.perr;dsimp only at x1 x2 y1 y2 hl hz hpe;have e1:(l.toNat:Int)=l:=Int.toNat_of_nonneg hl.1;have e2:(z.toNat:Int)=z:=Int.toNat_of_nonneg hz.1;have e3:(x.toNat:Int)=x:=Int.toNat_of_nonneg x1;have e4:(y.toNat:Int)=y:=Int.toNat_of_nonneg y1;have e5:(s.toNat:Int)=s:=Int.toNat_of_nonneg hs.1
 have T:=Dw.tag_yes l.toNat z.toNat x.toNat y.toNat s.toNat w (by omega) (by omega) (by omega) (by omega) (by rw[e1,e2,e3,e4]; exact hpe) hg.nm hg.tab (by omega)
 rw[e1,e2,e3,e4,e5] at T;refine T.mono ?_;rintro e w' ⟨⟨B,rfl,hB⟩,hb⟩
 exact⟨by rw[ba_of B _ hB]; rfl,hb⟩
theorem stK_in {v:Int}{LS:List Ft}(hv:0<=v)(k:K4):0<=eA v k LS/\eA v k LS<=v:=by
 unfold eA;exact⟨stp_nn _ _ _ _ _ _ _,ox hv _ fun i _=>lc_le hv⟩
theorem nr (fb:Nat)(X:FV)(ver v:Int)(sl pv:Value)(LS PL:List Ft)(l z x y:Int)(w:World)(hf:aq w fb X)(hs:dD w X.sb 0 ver sl pv LS PL)(hl:LS.length<=1000)(hk:dy ⟨l,z,x,y⟩)(hv:0<=v/\v<=ver)(hver:ver<=100)(hg:Glb w):
  Calls prog 129 #[.pointer (some ⟨fb,0,none⟩),v,.agg #[l,z,x,y]] w fun e w'=>e=.returned (.tuple #[.string (du ⟨l,z,x,y⟩ (eA v ⟨l,z,x,y⟩ LS)),()])/\Below w.heap.size w w':=by
 have hlt0:=an hf;have he:=hk.err;have hb0:=(Below.refl w.heap.size w).alloc aD (.cells #[l,z,x,y] 39);have hA:=heap_alloc_new w (.cells #[l,z,x,y] 39)
 have hz1:(w.alloc (.cells #[l,z,x,y] 39)).heap.size=w.heap.size+1:=by simp
 have c6:=(hb0.cell (p:=⟨fb,6,none⟩) hlt0).trans hf.cells.2.2.2.2.2.2.1;have hs1:=hs.on hb0;have hsi:=stK_in (LS:=LS) hv.1 ⟨l,z,x,y⟩
 have hF:∀W,Below (w.alloc (.cells #[l,z,x,y] 39)).heap.size (w.alloc (.cells #[l,z,x,y] 39)) W->W.cell? ⟨fb,6,none⟩=some (.pointer (some ⟨X.sb,0,none⟩)):=fun W h=>(h.cell (p:=⟨fb,6,none⟩) (by show fb<_; omega)).trans c6
 have hK:∀W,Below (w.alloc (.cells #[l,z,x,y] 39)).heap.size (w.alloc (.cells #[l,z,x,y] 39)) W->W.rangeAt w.heap.size 0 #[.int .i64 l,.int .i64 z,.int .i64 x,.int .i64 y].toList:=fun W h=>ao (ag hA h);have ST:∀W,Below (w.alloc (.cells #[l,z,x,y] 39)).heap.size (w.alloc (.cells #[l,z,x,y] 39)) W->Calls prog 38 #[.pointer (some ⟨X.sb,0,none⟩),v,.agg #[l,z,x,y]] W fun e w'=>e=.returned (.tuple #[.int .i64 (eA v ⟨l,z,x,y⟩ LS),()])/\Below W.heap.size W w':=fun W h=>nZ X.sb 0 ver sl pv LS v l z x y W (hs1.on h).sto hl he hv;have HG:=ae hg;have HB0:=ae hb0;have HA:=ae hA;have HKO:=ae hk;clear hf hs hs1 hb0 he hk hg;generalize eA v ⟨l,z,x,y⟩ LS=S at ST hsi ⊢;go_enter func129,ntmps129
 go_wp2_with fail
 refine aM (by kernel_rfl) (by kernel_rfl) ?_
 refine eI fb 0 ?_;refine bd fb 0 ?_;refine bd fb 6 ?_
 refine bd X.sb 0 ?_ (h:=fun w' hw'=>by simp[go_sem,hF w' hw'])
 refine bD (.int .i64 v) ?_;refine aR rfl 39 _ rfl (w.heap.size) (0) rfl (#[l,z,x,y]) _ underlying39 rfl (bj _ _ _ _) (hK) ?_;simp only[qZ]
 refine eB rfl 38 (#[.pointer (some ⟨X.sb,0,none⟩),v,.agg #[l,z,x,y]]) (fun _=>by simp[go_sem]) (.tuple #[S,()]) (ST) ?_
 simp only[qZ];refine bD (.tuple #[S,()]) ?_;refine bH (.int .i64 S) ?_;refine bH (.int .i64 0) ?_;refine bF rfl _ rfl (.int .i64 S) rfl ?_;simp only[qZ];refine bF rfl _ rfl (.int .i64 0) rfl ?_;simp only[qZ];refine wpQuiet_nil ?_;intro w2 hw2;have hA2:=ag (aa HA) hw2
 have hB2:=(aa HB0).trans (hw2.mono (by simp))
 have TG:=Tag_any l z x y S w2 (aa HKO) (by omega) ((aa HG).on hB2)
 have hrg2:w2.rangeAt w.heap.size 0 #[.int .i64 l,.int .i64 z,.int .i64 x,.int .i64 y].toList:=ao hA2;have HB2:=ae hB2;clear hw2 hF hK ST hA c6 hA2 hB2 hsi
 go_wp2_with (refine bU 39 #[l,z,x,y] underlying39 rfl (bj _ _ _ _) w.heap.size 0 hrg2 rfl _ rfl rfl ?_)
 refine TG.mono ?_;rintro e w9 ⟨rfl,hb9⟩;have HB9:=ae ((aa HB2).trans (hb9.mono (aa HB2).size));clear hb9 TG
 go_wp2_with fail
 go_ret2
 exact⟨rfl,aa HB9⟩
def kk (l z x y:Int)(j i:Nat):List K4:=((List.range j).flatMap fun(q:Nat)=>[(⟨l,z,x,y+(q:Int)⟩:K4),⟨l,z,x+1,y+(q:Int)⟩])++(List.range i).map fun(p:Nat)=>(⟨l,z,x+(p:Int),y+(j:Int)⟩:K4)
theorem kk_next (l z x y:Int)(j i:Nat):kk l z x y j (i+1)=kk l z x y j i++[⟨l,z,x+i,y+j⟩]:=by
 unfold kk;rw[List.range_succ,List.map_append,<-List.append_assoc];rfl
theorem kk_line (l z x y:Int)(j:Nat):kk l z x y (j+1) 0=kk l z x y j 2:=by
 unfold kk;rw[List.range_succ,List.flatMap_append];simp[List.range_succ]
theorem kk_len (l z x y:Int)(j i:Nat)(hj:j<=2)(hi:i<=2):(kk l z x y j i).length<=6:=by
 unfold kk;rw[List.length_append,List.length_map,List.length_range,List.length_flatMap]
 have:((List.range j).map fun(q:Nat)=>[(⟨l,z,x,y+(q:Int)⟩:K4),⟨l,z,x+1,y+(q:Int)⟩].length).sum=2*j:=by
  have:j=0\/j=1\/j=2:=by omega
  rcases this with rfl|rfl|rfl<;>rfl
 rw[this];omega
theorem keysOf_any (l z x y:Int)(w:World)(hx:0<=x/\x<=4194304)(hy:0<=y/\y<=4194304):
  Calls prog 174 #[.agg #[l,z,x,y]] w fun e w'=>(∃v,e=.returned v/\ah bT 39 w' v (K4.keys ⟨l,z,x,y⟩)/\∀g,v.ownBlock=some g->w.heap.size<=g)/\Below w.heap.size w w':=by
 have hb0:=(Below.refl w.heap.size w).alloc aD (.cells #[l,z,x,y] 39);have hA:=heap_alloc_new w (.cells #[l,z,x,y] 39)
 have hz1:(w.alloc (.cells #[l,z,x,y] 39)).heap.size=w.heap.size+1:=by simp
 by_cases hz:z=0
 ·have hb1:=hb0.alloc (by simp) (.cells #[l,z,x,y] 39)
  have HH:Hid ((∃v,Ending.returned (.slice (some ⟨w.heap.size+1,0,none⟩) 1 1)=.returned v/\ah bT 39 ((w.alloc (.cells #[l,z,x,y] 39)).alloc (.cells #[l,z,x,y] 39)) v (K4.keys ⟨l,z,x,y⟩)/\∀g,v.ownBlock=some g->w.heap.size<=g)/\Below w.heap.size w ((w.alloc (.cells #[l,z,x,y] 39)).alloc (.cells #[l,z,x,y] 39))):=by
   refine⟨⟨_,rfl,?_,fun g hg=>by simp[Value.ownBlock] at hg; omega⟩,hb1⟩
   have h:=cr (R:=bT) (T:=39) (w.alloc (.cells #[l,z,x,y] 39)) [⟨l,z,x,y⟩] #[l,z,x,y] rfl (by simp[maxLen])
   rw[hz1] at h;unfold K4.keys;rw[if_pos hz];exact h
  subst hz;clear hb0 hA hb1;go_enter func174,ntmps174
  go_wp2_with (refine cP _ _ (mt l 0 x y _ _ _ rfl rfl _) rfl ?_)
  go_ret;exact aa HH
 have hkeys:K4.keys ⟨l,z,x,y⟩=kk l z x y 2 0:=by
  unfold K4.keys kk;rw[if_neg hz];simp[List.range_succ]
 have hN:=cr (R:=bT) (T:=39) (w.alloc (.cells #[l,z,x,y] 39)) [] #[] rfl (by simp)
 have hb1:=hb0.alloc (by simp) (.cells #[] 39)
 have hA1:=(heap_alloc_old (w.alloc (.cells #[l,z,x,y] 39)) (.cells #[] 39) (show w.heap.size<_ by simp)).trans hA
 have HN:=ae hN;have HB1:=ae hb1;have HA1:=ae hA1;rw[hkeys]
 have hwy:IntKind.i64.wrap (y+1)=y+1:=bG _ (by omega)
 have hwx:IntKind.i64.wrap (x+1)=x+1:=bG _ (by omega)
 have hzb:(z==0)=false:=by simp[hz]
 clear hN hb0 hb1 hA hA1 hkeys;go_enter func174,ntmps174
 go_wp2_with fail
 go_loopw [3,4,5] (fun v yv _ wr=>∃j:Nat,j<=2/\yv=.int .i64 (y+j)/\ah bT 39 wr v (kk l z x y j 0)/\Hid (∀g,v.ownBlock=some g->w.heap.size+1<=g)/\wr.heap[w.heap.size]?=some (.cells #[l,z,x,y] 39)/\Below w.heap.size w wr) (fun _ yv _ _=>(y+2-intOf yv).toNat)
 case atStart=>exact⟨0,by omega,by simp,by simpa[kk] using aa HN,ae (fun g hg=>by simp[Value.ownBlock] at hg; omega),aa HA1,aa HB1⟩
 case round=>
  obtain⟨j,hj,rfl,hown,hfr,hA,hb⟩:=hrel;have hc:=af hA;have c0:=(hc 0).trans (show _=some (Value.int .i64 l) from rfl);have c1:=(hc 1).trans (show _=some (Value.int .i64 z) from rfl);have c2:=(hc 2).trans (show _=some (Value.int .i64 x) from rfl);have c3:=(hc 3).trans (show _=some (Value.int .i64 y) from rfl);have HO:=ae hown;have HA:=ae hA;have HB:=ae hb;clear hown hA hb hc
  by_cases hjj:j<2
  ·have hle:y+(j:Int)<=y+1:=by omega
   go_wp2_with fail
   go_loopw [3,5] (fun v xv wr=>∃i:Nat,i<=2/\xv=.int .i64 (x+i)/\ah bT 39 wr v (kk l z x y j i)/\Hid (∀g,v.ownBlock=some g->w.heap.size+1<=g)/\wr.heap[w.heap.size]?=some (.cells #[l,z,x,y] 39)/\Below w.heap.size w wr) (fun _ xv _=>(x+2-intOf xv).toNat)
   case atStart=>exact⟨0,by omega,by simp,aa HO,hfr,aa HA,aa HB⟩
   case round=>
    obtain⟨i,hi,rfl,hown,hfr2,hA,hb⟩:=hrel;have hc:=af hA;have c0:=(hc 0).trans (show _=some (Value.int .i64 l) from rfl);have c1:=(hc 1).trans (show _=some (Value.int .i64 z) from rfl);have c2:=(hc 2).trans (show _=some (Value.int .i64 x) from rfl);have hszr:=hb.size
    by_cases hii:i<2
    ·have hle2:x+(i:Int)<=x+1:=by omega
     have hwi:IntKind.i64.wrap (x+(i:Int)+1)=x+((i+1:Nat):Int):=by rw[bG _ (by omega)]; omega
     have hat:=aZ bT 39 wr ⟨l,z,x+i,y+j⟩ #[l,z,.int .i64 (x+i),.int .i64 (y+j)] rfl;have hbA:=(Below.refl wr.heap.size wr).alloc aD (.cells #[l,z,.int .i64 (x+i),.int .i64 (y+j)] 39);have hoA:=hown.on hbA
     obtain⟨v3,w3,r1,r2,r3,r4⟩:=apKey hoA hat (by have:=kk_len l z x y j i hj hi; simp; omega)
     rw[<-kk_next] at r2;have HO3:=ae r2
     have HB3:=ae ((hb.alloc hszr (.cells #[l,z,.int .i64 (x+i),.int .i64 (y+j)] 39)).grown r3 (by simp; omega) (fun g hg=>by have:=aa hfr2 g hg; omega))
     have HA3:=ae ((r3.block w.heap.size (by have:=an hA; simp; omega) (fun q=>by have:=aa hfr2 w.heap.size q.symm; omega)).trans (ag hA hbA))
     have HFR:=ae (bN (aa hfr2) r4 (by have:=an hA; simp; omega))
     clear hown hA hb hc hat hbA hoA r2 r3 r4
     go_wp2_with (first|refine cP _ _ (mt l z (x+i) (y+j) _ _ _ rfl rfl _) rfl ?_|(at_builtin; refine fS 127 r1 rfl _ _ rfl rfl rfl rfl ?_))
     go_roundw
     case rel=>exact⟨i+1,by omega,by go_num,aa HO3,aa HFR,aa HA3,aa HB3⟩
     case measure=>simp[intOf]; omega
    have hi2:i=2:=by omega
    subst hi2
    have hle2:¬x+((2:Nat):Int)<=x+1:=by omega
    rw[<-kk_line] at hown;have HO3:=ae hown;have HA3:=ae hA;have HB3:=ae hb;clear hown hA hb hc
    go_wp2_with fail
    go_roundw
    case rel=>exact⟨j+1,by omega,by go_num,aa HO3,hfr2,aa HA3,aa HB3⟩
    case measure=>simp[intOf]; omega
  have hj2:j=2:=by omega
  subst hj2
  have hle:¬y+((2:Nat):Int)<=y+1:=by omega
  go_wp2_with fail
  go_ret
  exact⟨⟨_,rfl,aa HO,fun g hg=>by have:=aa hfr g hg; omega⟩,aa HB⟩
end Go.Proofs.YtpabpniaekldeaaGreatDoor
namespace Go.Proofs.YtpabpniaekldeaaGreatDoor.Pk
open Go.Proofs.Tryz
set_option maxRecDepth 20000
namespace Pt
open Go.Proofs.Tryz
def okPic (l:List UInt8):Bool:=decide (l.length=64/\∀c∈l,c.toNat<=15)
theorem okPic_iff (l:List UInt8):okPic l=true↔l.length=64/\∀c∈l,c.toNat<=15:=by simp[okPic]
def runByte (n:Nat)(c:UInt8):UInt8:=UInt8.ofNat (16*n+c.toNat)
def go (c:UInt8)(n:Nat):List UInt8->List UInt8
 | []=>[runByte n c]
 | x::r=>if x=c/\n<15 then go c (n+1) r else runByte n c::go x 0 r
def runs:List UInt8->List UInt8
 | []=>[]
 | x::r=>go x 0 r
def lead (c:UInt8):Nat->List UInt8->Nat
 | 0,_=>0
 | _+1,[]=>0
 | n+1,x::r=>if x=c then lead c n r+1 else 0
theorem lead_le (c:UInt8):∀(n:Nat) (l:List UInt8),lead c n l<=n/\lead c n l<=l.length
 | 0,_=>by simp[lead]
 | _+1,[]=>by simp[lead]
 | n+1,x::r=>by
  have h:=lead_le c n r;unfold lead
  split<;>simp<;>omega
theorem go_lead (c:UInt8):∀(r:List UInt8) (n m:Nat),n+m=15->go c n r=runByte (n+lead c m r) c::runs (r.drop (lead c m r))
 | [],n,m,h=>by cases m<;>simp[go,lead,runs]
 | x::r,n,m,h=>by
  cases m with
  | zero=>
   have hn:¬n<15:=by omega
   simp[go,lead,runs,hn]
  | succ m=>
   have hn:n<15:=by omega
   by_cases hx:x=c
   ·subst hx
    have ih:=go_lead x r (n+1) m (by omega)
    simp only[go,lead,hn,and_self,if_true,ih]
    rw[show n+1+lead x m r=n+(lead x m r+1) from by omega]
    simp
   simp[go,lead,runs,hx]
theorem runs_cons (x:UInt8)(r:List UInt8):runs (x::r)=runByte (lead x 15 r) x::runs (r.drop (lead x 15 r)):=by
 have:=go_lead x r 0 15 rfl;simpa[runs] using this
def ofRun (b:UInt8):List UInt8:=List.replicate (b.toNat / 16+1) (b%16)
def km (l:List UInt8):List UInt8:=l.flatMap ofRun
theorem iO (n:Nat)(c:UInt8)(hn:n<=15)(hc:c.toNat<=15):ofRun (runByte n c)=List.replicate (n+1) c:=by
 unfold ofRun runByte
 have h1:(UInt8.ofNat (16*n+c.toNat)).toNat=16*n+c.toNat:=by simp; omega
 rw[h1]
 have h2:(16*n+c.toNat) / 16=n:=by omega
 have h3:UInt8.ofNat (16*n+c.toNat)%16=c:=by
  apply UInt8.toNat_inj.1
  simp only[UInt8.toNat_mod,h1];have:(16:UInt8).toNat=16:=rfl
  rw[this]; omega
 rw[h2,h3]
theorem kj (c:UInt8):∀(r:List UInt8) (n:Nat),n<=15->c.toNat<=15->(∀x∈r,x.toNat<=15)->km (go c n r)=List.replicate (n+1) c++r
 | [],n,hn,hc,_=>by simp[go,km,iO n c hn hc]
 | x::r,n,hn,hc,h=>by
  unfold go
  by_cases hx:x=c/\n<15
  ·rw[if_pos hx]
   obtain⟨rfl,hlt⟩:=hx
   rw[kj x r (n+1) (by omega) hc (fun y hy=>h y (by simp[hy]))]
   rw[List.replicate_succ' (n:=n+1)];simp
  rw[if_neg hx]
  have ih:=kj x r 0 (by omega) (h x (by simp)) (fun y hy=>h y (by simp[hy]))
  simp only[km,List.flatMap_cons] at ih ⊢;rw[ih,iO n c hn hc];simp
theorem spread_runs (l:List UInt8)(h:∀x∈l,x.toNat<=15):km (runs l)=l:=by
 cases l with
 | nil=>rfl
 | cons x r=>
  have:=kj x r 0 (by omega) (h x (by simp)) (fun y hy=>h y (by simp[hy]))
  simpa[runs] using this
def wt (l:List UInt8):Nat:=(km l).length
theorem wt_nil:wt []=0:=rfl
theorem wt_cons (b:UInt8)(l:List UInt8):wt (b::l)=b.toNat / 16+1+wt l:=by simp[wt,km,ofRun]
theorem wt_le:∀l:List UInt8,l.length<=wt l/\wt l<=16*l.length
 | []=>by simp[wt_nil]
 | b::l=>by
  have:=wt_le l;have hb:b.toNat<256:=b.toNat_lt;rw[wt_cons];simp only[List.length_cons];omega
def sum1:List UInt8->Nat
 | []=>0
 | c::r=>c.toNat+sum1 r
def sum2 (n:Int):List UInt8->Int
 | []=>0
 | c::r=>n*c.toNat+sum2 (n-1) r
theorem sum1_append:∀a b:List UInt8,sum1 (a++b)=sum1 a+sum1 b
 | [],b=>by simp[sum1]
 | c::a,b=>by simp[sum1,sum1_append a b]; omega
theorem sum2_append:∀(a b:List UInt8) (n:Int),sum2 n (a++b)=sum2 n a+sum2 (n-a.length) b
 | [],b,n=>by simp[sum2]
 | c::a,b,n=>by
  simp only[List.cons_append,sum2,sum2_append a b (n-1),List.length_cons]
  rw[show n-1-(a.length:Int)=n-((a.length+1:Nat):Int) from by omega]
  omega
theorem sum1_le:∀l:List UInt8,sum1 l<=255*l.length
 | []=>by simp[sum1]
 | c::r=>by
  have:=sum1_le r;have hc:c.toNat<256:=c.toNat_lt;simp only[sum1,List.length_cons];omega
theorem sum2_le:∀(l:List UInt8) (n:Int),(l.length:Int)<=n->n<=64->0<=sum2 n l/\sum2 n l<=16320*l.length
 | [],_,_,_=>by simp[sum2]
 | c::r,n,h,h'=>by
  have hc:c.toNat<256:=c.toNat_lt;simp only[List.length_cons] at h
  have ih:=sum2_le r (n-1) (by omega) (by omega)
  have h1:0<=n*(c.toNat:Int):=Int.mul_nonneg (by omega) (by omega)
  have h2:n*(c.toNat:Int)<=64*255:=Int.mul_le_mul h' (by omega) (by omega) (by omega)
  simp only[sum2,List.length_cons];omega
def ch1 (l:List UInt8):UInt8:=UInt8.ofNat ((1+sum1 l)%251)
def ch2 (l:List UInt8):UInt8:=UInt8.ofNat ((64+sum2 64 l)%251).toNat
def body (l:List UInt8):List UInt8:=84::(runs l++[ch1 l,ch2 l])
def mid (b:List UInt8):List UInt8:=(b.drop 1).take (b.length-3)
theorem body_len (l:List UInt8)(h:okPic l=true):7<=(body l).length/\(body l).length<=67:=by
 obtain⟨h1,h2⟩:=(okPic_iff l).1 h;have hs:=spread_runs l h2
 have hw:wt (runs l)=64:=by simp[wt,hs,h1]
 have:=wt_le (runs l);simp only[body,List.length_cons,List.length_append,List.length_nil];omega
end Pt
end Go.Proofs.YtpabpniaekldeaaGreatDoor.Pk
namespace Go.Proofs.YtpabpniaekldeaaGreatDoor.Pk
open Go.Proofs.Tryz
open Go.RowKit
set_option maxRecDepth 20000
theorem ae {p:Prop}(h:p):Hid p:=h
theorem aa {p:Prop}(h:Hid p):p:=h
theorem ai {a b:Bool}(h:a=b):Ending.returned (.bool a)=.returned (.bool b):=by rw[h]
theorem aB {k:IntKind}{a b:Int}(h:a=b):Ending.returned (.int k a)=.returned (.int k b):=by rw[h]
theorem eg (s:ByteArray)(k:Nat)(h:k<s.size):s.data.toList.take (k+1)=s.data.toList.take k++[s[k]]:=by
 rw[List.take_succ_eq_append_getElem (by simpa using h)]; rfl
def within (lo hi:Int)(l:List UInt8):Bool:=l.all fun c=>decide (lo<=(c.toNat:Int)/\(c.toNat:Int)<=hi)
theorem cC (lo hi:Int)(s:ByteArray)(k:Nat)(h:k<s.size)(hb:¬(lo<=(s[k].toNat:Int)/\(s[k].toNat:Int)<=hi)):within lo hi s.data.toList=false:=by
 rw[Bool.eq_false_iff];intro ht;simp only[within,List.all_eq_true,decide_eq_true_eq] at ht;exact hb (ht s[k] (Array.mem_toList_iff.2 (Array.getElem_mem _)))
theorem eG (lo hi:Int)(s:ByteArray)(k:Nat)(h:k<s.size)(h0:within lo hi (s.data.toList.take k)=true)(hb:lo<=(s[k].toNat:Int)/\(s[k].toNat:Int)<=hi):within lo hi (s.data.toList.take (k+1))=true:=by
 rw[eg s k h];unfold within at h0 ⊢;rw[List.all_append,h0];simp[hb]
theorem dG (s:ByteArray)(lo hi:Int)(w:World)(hs:s.size<=maxLen):
  Calls prog 194 #[s,.int .u8 lo,.int .u8 hi] w fun e w'=>e=.returned (.bool (within lo hi s.data.toList))/\w=w':=by
 unfold maxLen at hs;go_enter func194,ntmps194
 go_wp2
 go_loop [7] (fun i=>∃k:Nat,k<=s.size/\i=.int .i64 k/\Hid (within lo hi (s.data.toList.take k)=true)) (fun i=>s.size-(intOf i).toNat)
 case atStart=>exact⟨0,Nat.zero_le _,rfl,ae rfl⟩
 case round=>
  obtain⟨k,hk,rfl,hall⟩:=hrel
  by_cases hlt:k<s.size
  ·by_cases h1:(s[k].toNat:Int)<lo
   ·go_wp2
    go_ret
    exact⟨ai (cC lo hi s k hlt (by omega)).symm,rfl⟩
   by_cases h2:hi<(s[k].toNat:Int)
   ·go_wp2
    go_ret
    exact⟨ai (cC lo hi s k hlt (by omega)).symm,rfl⟩
   go_wp2
   go_round
   case rel=>exact⟨k+1,by omega,by go_num,ae (eG lo hi s k hlt (aa hall) (by omega))⟩
   case measure=>simp[intOf]; omega
  go_wp2
  go_ret;refine⟨ai ?_,rfl⟩;have:=aa hall
  rw[List.take_of_length_le (by simp; omega)] at this
  exact this.symm
theorem i7 (l:List UInt8)(hl:l.length=64):within 0 15 l=Pt.okPic l:=by
 rw[Bool.eq_iff_iff,Pt.okPic_iff];simp only[within,List.all_eq_true,decide_eq_true_eq]
 exact⟨fun h=>⟨hl,fun c hc=>by have:=h c hc; omega⟩,fun h c hc=>by have:=h.2 c hc; omega⟩
theorem notpic (s:ByteArray)(h:s.size≠64):Pt.okPic s.data.toList=false:=by
 rw[Bool.eq_false_iff,ne_eq,Pt.okPic_iff];simp
 intro h'; exact absurd h' h
theorem m6 (s:ByteArray)(w:World)(hs:s.size<=maxLen):
  Calls prog 181 #[s] w fun e w'=>e=.returned (.bool (Pt.okPic s.data.toList))/\w=w':=by
 by_cases h:s.size=64
 ·have hb:((s.size:Int)==64)=true:=by simp; omega
  have hp':Hid (within 0 15 s.data.toList=Pt.okPic s.data.toList):=i7 _ (by simpa using h)
  clear h;go_enter func181,ntmps181
  go_wp2_with (go_at_call 194; refine(dG s 0 15 _ hs).mono ?_; rintro e w' ⟨rfl,rfl⟩)
  go_ret;exact⟨ai (aa hp'),rfl⟩
 have hb:((s.size:Int)==64)=false:=by simp; omega
 go_enter func181,ntmps181
 go_wp2_with fail
 go_ret;exact⟨ai (notpic s h).symm,rfl⟩
theorem dP (s:ByteArray)(k:Nat)(h:k<s.size):s.data.toList.drop k=s[k]::s.data.toList.drop (k+1):=by
 rw[List.drop_eq_getElem_cons (by simpa using h)]; rfl
def gA (s:ByteArray)(i:Nat)(c:UInt8)(n:Nat):Prop:=Pt.lead c 15 (s.data.toList.drop (i+1))+1=n+Pt.lead c (16-n) (s.data.toList.drop (i+n))
theorem runSo_one (s:ByteArray)(i:Nat)(c:UInt8):gA s i c 1:=by unfold gA; show _=1+Pt.lead c 15 _; omega
theorem runSo_more (s:ByteArray)(i:Nat)(c:UInt8)(n:Nat)(hn:n<16)(hk:i+n<s.size)(hc:s[i+n]=c)(h:gA s i c n):gA s i c (n+1):=by
 unfold gA at h ⊢
 rw[h,dP s (i+n) hk,show 16-n=(16-(n+1))+1 from by omega]
 simp only[Pt.lead,hc,if_true]
 rw[show i+n+1=i+(n+1) from by omega]
 omega
theorem runSo_end16 (s:ByteArray)(i:Nat)(c:UInt8)(n:Nat)(hn:¬n<16)(hn':n<=16)(h:gA s i c n):Pt.lead c 15 (s.data.toList.drop (i+1))+1=n:=by
 unfold gA at h
 rw[show 16-n=0 from by omega] at h
 simpa[Pt.lead] using h
theorem runSo_endS (s:ByteArray)(i:Nat)(c:UInt8)(n:Nat)(hn:n<16)(hk:¬i+n<s.size)(h:gA s i c n):Pt.lead c 15 (s.data.toList.drop (i+1))+1=n:=by
 unfold gA at h
 rw[List.drop_of_length_le (l:=s.data.toList) (i:=i+n) (by simp; omega),show 16-n=(15-n)+1 from by omega] at h
 simpa[Pt.lead] using h
theorem runSo_endC (s:ByteArray)(i:Nat)(c:UInt8)(n:Nat)(hn:n<16)(hk:i+n<s.size)(hc:¬s[i+n]=c)(h:gA s i c n):Pt.lead c 15 (s.data.toList.drop (i+1))+1=n:=by
 unfold gA at h
 rw[dP s (i+n) hk,show 16-n=(15-n)+1 from by omega] at h
 simpa[Pt.lead,hc] using h
theorem dH (x:Int)(h1:-9223372036854775808<=x)(h2:x<=9223372036854775807):IntKind.i64.wrap x=x:=by rw[IntKind.wrap_i64]; omega
theorem dd (w:World)(q n:Nat):∃k,(w.drewN q).drewN n=w.drewN k:=⟨_,World.drewN_drewN _ _ _⟩
theorem mQ (s:ByteArray)(i:Nat)(w:World)(hs:s.size<=1000)(hi:i<s.size):
  Calls prog 182 #[s,i] w fun e w'=>e=.returned (.int .i64 ((Pt.lead s[i] 15 (s.data.toList.drop (i+1))+1:Nat):Int))/\∃q,w'=w.drewN q:=by
 obtain⟨c,hc⟩:∃c,c=s[i]:=⟨_,rfl⟩;rw[<-hc];have HC:=ae hc;clear hc;go_enter func182,ntmps182
 go_wp2
 go_loopw [5] (fun v wr=>∃n:Nat,1<=n/\n<=16/\v=.int .i64 n/\Hid (gA s i c n)/\∃q,wr=w.drewN q) (fun v _=>16-(intOf v).toNat)
 case atStart=>exact⟨1,by omega,by omega,rfl,runSo_one s i c,0,rfl⟩
 case round=>
  obtain⟨n,h1,h2,rfl,hR,q,rfl⟩:=hrel
  by_cases hn:n<16
  ·have ew:IntKind.i64.wrap ((i:Int)+(n:Int))=(i:Int)+(n:Int):=dH _ (by omega) (by omega)
   by_cases hk:i+n<s.size
   ·have hk':(i:Int)+(n:Int)<(s.size:Int):=by omega
    have hn':(n:Int)<16:=by omega
    have hi':(i:Int)<(s.size:Int):=by omega
    have p1:(0:Int)<=(i:Int)+(n:Int):=by omega
    have e1:((i:Int)+(n:Int)).toNat=i+n:=by omega
    by_cases he:s[i+n]=s[i]
    ·have hb:((s[i+n].toNat:Int)==(s[i].toNat:Int))=true:=by rw[he]; simp
     have hR':=ae (runSo_more s i c n hn hk (he.trans (aa HC).symm) (aa hR));clear he
     go_wp2_with fail
     go_quiet (fail)
     go_wp2
     go_roundw
     case rel=>exact⟨n+1,by omega,by omega,by go_num,hR',_,rfl⟩
     case measure=>simp[intOf]; omega
    have hb:((s[i+n].toNat:Int)==(s[i].toNat:Int))=false:=by
     rw[beq_eq_false_iff_ne];intro h
     exact he (UInt8.toNat_inj.1 (by omega))
    have hR':=ae (runSo_endC s i c n hn hk (by rw[aa HC]; exact he) (aa hR))
    clear he
    go_wp2_with fail
    go_quiet (fail)
    go_wp2
    go_ret
    exact⟨aB (by rw[aa hR']),dd _ _ _⟩
   have hn':(n:Int)<16:=by omega
   have hd:decide ((i:Int)+(n:Int)<(s.size:Int))=false:=by simp; omega
   have hR':=ae (runSo_endS s i c n hn hk (aa hR))
   go_wp2_with fail
   go_quiet (fail)
   go_wp2
   go_ret
   exact⟨aB (by rw[aa hR']),dd _ _ _⟩
  have hd:decide ((n:Int)<16)=false:=by simp; omega
  have hR':=ae (runSo_end16 s i c n hn h2 (aa hR))
  go_wp2_with fail
  go_quiet (fail)
  go_wp2
  go_ret
  exact⟨aB (by rw[aa hR']),dd _ _ _⟩
theorem nu (s:ByteArray)(k:Nat)(h:k<s.size):Pt.sum1 (s.data.toList.take (k+1))=Pt.sum1 (s.data.toList.take k)+s[k].toNat:=by
 rw[eg s k h,Pt.sum1_append]; simp[Pt.sum1]
theorem nt (s:ByteArray)(k:Nat)(h:k<s.size):Pt.sum2 64 (s.data.toList.take (k+1))=Pt.sum2 64 (s.data.toList.take k)+(64-(k:Int))*s[k].toNat:=by
 rw[eg s k h,Pt.sum2_append]
 have:(s.data.toList.take k).length=k:=by simp; omega
 simp[Pt.sum2,this]
theorem oD {k k':IntKind}{a b c d:Int}(h:a=c)(h':b=d):Ending.returned (.tuple #[.int k a,.int k' b])=.returned (.tuple #[.int k c,.int k' d]):=by rw[h,h']
theorem ch1_int (l:List UInt8):((Pt.ch1 l).toNat:Int)=(1+(Pt.sum1 l:Int))%251:=by
 unfold Pt.ch1;rw[UInt8.toNat_ofNat'];omega
theorem ch2_int (l:List UInt8):((Pt.ch2 l).toNat:Int)=(64+Pt.sum2 64 l)%251:=by
 unfold Pt.ch2;rw[UInt8.toNat_ofNat'];omega
theorem checks_any (s:ByteArray)(w:World)(hs:s.size=64):
  Calls prog 183 #[s] w fun e w'=>e=.returned (.tuple #[.int .u8 (Pt.ch1 s.data.toList).toNat,.int .u8 (Pt.ch2 s.data.toList).toNat])/\w=w':=by
 have hle:s.size<=64:=by omega
 have hge:64<=s.size:=by omega
 have HS:=ae hs;clear hs;go_enter func183,ntmps183
 go_wp2
 go_loop [4,5,6,7] (fun a b i _=>∃k:Nat,k<=s.size/\i=.int .i64 k/\a=.int .i64 (1+(Pt.sum1 (s.data.toList.take k):Int))/\b=.int .i64 (64+Pt.sum2 64 (s.data.toList.take k))) (fun _ _ i _=>s.size-(intOf i).toNat)
 case atStart=>exact⟨0,Nat.zero_le _,rfl,rfl,rfl⟩
 case round=>
  obtain⟨k,hk,rfl,rfl,rfl⟩:=hrel
  have hl:(s.data.toList.take k).length=k:=by simp; omega
  have b1:=Pt.sum1_le (s.data.toList.take k)
  have b2:=Pt.sum2_le (s.data.toList.take k) 64 (by omega) (by omega)
  rw[hl] at b1 b2;clear hl
  by_cases hlt:k<s.size
  ·have e1:=ae (nu s k hlt)
   have e2:=ae (nt s k hlt);have hc:s[k].toNat<256:=s[k].toNat_lt
   have m1:0<=(64-(k:Int))*s[k].toNat:=Int.mul_nonneg (by omega) (by omega)
   have m2:(64-(k:Int))*s[k].toNat<=64*255:=Int.mul_le_mul (by omega) (by omega) (by omega) (by omega)
   go_wp2
   go_round
   case rel=>exact⟨k+1,by omega,by go_num,by rw[aa e1]; go_num,by rw[aa e2]; go_num⟩
   case measure=>simp[intOf]; omega
  go_wp2
  go_ret2
  have ek:s.data.toList.take k=s.data.toList:=List.take_of_length_le (by simp; omega)
  exact⟨oD (by rw[ch1_int,ek]) (by rw[ch2_int,ek]),rfl⟩
theorem Tryz.info5:(prog.info? 5).map (fun i=>(i.zero,i.size,i.bytes))=some (some (.int .u8 0),1,1):=by kernel_rfl
def bv (b:UInt8):Value:=.int .u8 b.toNat
def de (w:World)(B:Nat)(v:Value)(l:List UInt8):Prop:=w.ownsRow B 5 1 v l.length (l.map bv)
theorem ownB_nil (w:World)(B:Nat):de w B (.slice none 0 0) []:=World.ownsRow_nil _ _ _ _
theorem lS (w:World)(B:Nat)(hB:B<=w.heap.size)(b:UInt8)(n:Int)(hn:n=b.toNat):de (w.alloc (.cells #[.int .u8 n] 5)) B (.slice (some ⟨w.heap.size,0,none⟩) 1 1) [b]:=by
 subst hn
 exact World.ownsRow_lit w #[bv b] 1 hB (by decide) rfl
theorem de.alloc {w:World}{B:Nat}{v:Value}{l:List UInt8}(h:de w B v l)(o:Obj):de (w.alloc o) B v l:=World.ownsRow.alloc h o
theorem de.drewN {w:World}{B:Nat}{v:Value}{l:List UInt8}(h:de w B v l)(q:Nat):de (w.drewN q) B v l:=h
theorem de.str {w:World}{B:Nat}{v:Value}{l:List UInt8}(h:de w B v l)(q:Nat):(convert 220 9 v).run prog (w.drewN q)=.ok (.string ⟨l.toArray⟩) (w.drewN q):=by
 have h0:=h
 rcases h.2 with⟨rfl,hn⟩|⟨g,cap,cur,rfl,_,hg,_,_,_,htake⟩
 ·have:l=[]:=List.length_eq_zero_iff.1 hn
  subst this;exact run_convert_bytes_nil (P:=prog) (w.drewN q) 220 5 underlying220 underlying5 0 0 9 underlying9
 refine run_convert_bytes_back (w.drewN q) 220 9 5 ⟨g,0,none⟩ cap l underlying220 underlying5 underlying9 ?_;intro j hj
 have:=World.ownsRow.cellAt h0 j (by simpa using hj)
 rw[World.cell?_drewN]
 have e:(⟨g,0,none⟩:Addr).add j=⟨g,j,none⟩:=by simp[Addr.add]; exact fun h=>h.symm
 rw[e,this];simp[hj,bv]
theorem bQ {ops:Array Oper}{rest:List Oper}{o:Oper}{a:Act}{Q:Exit->Act->World->Prop}(hgd:o.guard=none)(s x:Operand)
  (ho:o.op=.call { callee:=.builtin .append,args:=#[s,x],argTypes:=#[220,220] })
  (W:World) (B:Nat) (v:Value) (l:List UInt8) (b:UInt8) (n:Int) (hs:a.eval s=v) (hown:de W B v l) (hx:a.eval x=.slice (some ⟨W.heap.size,0,none⟩) 1 1)
  (hb:n=b.toNat) (hlen:l.length<=1000000) (hB:B<=W.heap.size)
  (h:∀v' w',de w' B v' (l++[b])->Below B W w'->wpList prog ops Q rest (a.put o.dst v') w') :
  wpList prog ops Q (o::rest) a (W.alloc (.cells #[.int .u8 n] 5)):=by
 subst hb;obtain⟨i0,hi,hz0,hz1,hz2⟩:=info_parts Tryz.info5
 refine wpList_append_own _ hgd s x 220 ho B 5 i0 (.int .u8 0) 1 1 underlying220 hi hz0 hz1 hz2 rfl (by decide) v l.length (l.map bv) hs (hown.alloc _) ⟨W.heap.size,0,none⟩ 1 1 [bv b] hx rfl (cell_one_new _ _ _) ?_ ?_ ?_ ?_ ?_
 ·intro u hu; simp at hu; subst hu; rfl
 ·unfold maxLen; omega
 ·omega
 ·simp; omega
 intro v' w1 hown' hgrow _;refine h v' w1 ?_ ?_
 ·unfold de
  simpa using hown'
 exact((Below.refl B W).alloc hB _).grown hgrow (by simp; omega) (fun k hk=>(World.ownsRow.lt hown k hk).1)
theorem cell_two (w:World)(x y:Value)(t:TypeId):∀j u,[x,y][j]?=some u->(w.alloc (.cells #[x,y] t)).cell? ((⟨w.heap.size,0,none⟩:Addr).add j)=some u:=by
 intro j u hj
 match j,hj with
 | 0,hj=>simp at hj; subst hj; simp[Addr.add]
 | 1,hj=>simp at hj; subst hj; simp[Addr.add]
theorem mI {ops:Array Oper}{rest:List Oper}{o:Oper}{a:Act}{Q:Exit->Act->World->Prop}(hgd:o.guard=none)(s x:Operand)
  (ho:o.op=.call { callee:=.builtin .append,args:=#[s,x],argTypes:=#[220,220] })
  (W:World) (B:Nat) (v:Value) (l:List UInt8) (b c:UInt8) (hs:a.eval s=v) (hown:de W B v l) (hx:a.eval x=.slice (some ⟨W.heap.size,0,none⟩) 2 2)
  (hlen:l.length<=1000000) (hB:B<=W.heap.size)
  (h:∀v' w',de w' B v' (l++[b,c])->Below B W w'->wpList prog ops Q rest (a.put o.dst v') w') :
  wpList prog ops Q (o::rest) a (W.alloc (.cells #[.int .u8 b.toNat,.int .u8 c.toNat] 5)):=by
 obtain⟨i0,hi,hz0,hz1,hz2⟩:=info_parts Tryz.info5
 refine wpList_append_own _ hgd s x 220 ho B 5 i0 (.int .u8 0) 1 1 underlying220 hi hz0 hz1 hz2 rfl (by decide) v l.length (l.map bv) hs (hown.alloc _) ⟨W.heap.size,0,none⟩ 2 2 [bv b,bv c] hx rfl (cell_two _ _ _ _) ?_ ?_ ?_ ?_ ?_
 ·intro u hu; simp at hu; rcases hu with rfl|rfl<;>rfl
 ·unfold maxLen; omega
 ·omega
 ·simp; omega
 intro v' w1 hown' hgrow _;refine h v' w1 ?_ ?_
 ·unfold de
  simpa using hown'
 exact((Below.refl B W).alloc hB _).grown hgrow (by simp; omega) (fun k hk=>(World.ownsRow.lt hown k hk).1)
theorem gR (n:Nat)(c:UInt8)(hn:n<=15)(hc:c.toNat<=15):((Pt.runByte n c).toNat:Int)=16*(n:Int)+c.toNat:=by
 unfold Pt.runByte;rw[UInt8.toNat_ofNat'];omega
def Laid (s:ByteArray)(k:Nat)(l:List UInt8):Prop:=l++Pt.runs (s.data.toList.drop k)=84::Pt.runs s.data.toList
theorem laid_start (s:ByteArray):Laid s 0 [84]:=rfl
theorem laid_step (s:ByteArray)(k:Nat)(h:k<s.size)(l:List UInt8)(hl:Laid s k l):
  Laid s (k+(Pt.lead s[k] 15 (s.data.toList.drop (k+1))+1)) (l++[Pt.runByte (Pt.lead s[k] 15 (s.data.toList.drop (k+1))) s[k]]):=by
 unfold Laid at hl ⊢;rw[<-hl,dP s k h,Pt.runs_cons,List.drop_drop];simp[Nat.add_assoc,Nat.add_comm]
theorem laid_end (s:ByteArray)(k:Nat)(h:¬k<s.size)(l:List UInt8)(hl:Laid s k l):l=84::Pt.runs s.data.toList:=by
 unfold Laid at hl
 rw[List.drop_of_length_le (by simp; omega)] at hl
 simpa[Pt.runs] using hl
theorem fU {a b:List UInt8}{n:Int}(h:a=b):Ending.returned (.tuple #[.string ⟨a.toArray⟩,n])=.returned (.tuple #[.string ⟨b.toArray⟩,n]):=by rw[h]
theorem pack_yes (s:ByteArray)(w:World)(h:Pt.okPic s.data.toList=true):
  Calls prog 152 #[s] w fun e w'=>e=.returned (.tuple #[.string ⟨(Pt.body s.data.toList).toArray⟩,()])/\Below w.heap.size w w':=by
 obtain⟨h64,hink⟩:=(Pt.okPic_iff _).1 h
 have hs64:s.size=64:=by simpa using h64
 have hs:s.size<=maxLen:=by rw[hs64]; decide
 have hs':s.size<=1000:=by omega
 have HI:=ae hink;have H64:=ae hs64;clear h64 hink hs64;go_enter func152,ntmps152
 go_wp2_with (go_at_call 181; refine(m6 s _ hs).mono ?_; rintro e w' ⟨rfl,rfl⟩)
 go_loopw [4,5,6] (fun v i _ wr=>∃(k:Nat) (l:List UInt8),k<=s.size/\i=.int .i64 k/\l.length<=k+1/\Hid (Laid s k l)/\de wr w.heap.size v l/\Below w.heap.size w wr) (fun _ i _ _=>s.size-(intOf i).toNat)
 case atStart=>exact⟨0,[84],Nat.zero_le _,rfl,by simp,laid_start s,lS w _ aD 84 84 rfl,bu.alloc aD _⟩
 case round=>
  obtain⟨k,l,hk,rfl,hlen,hL,hown,hbel⟩:=hrel;have hsz:=hbel.size
  by_cases hlt:k<s.size
  ·have hc15:s[k].toNat<=15:=aa HI _ (Array.mem_toList_iff.2 (Array.getElem_mem _))
   have hstep:=ae (laid_step s k hlt l (aa hL));have hcall:=fun wx=>mQ s k wx hs' hlt;have hle:=Pt.lead_le s[k] 15 (s.data.toList.drop (k+1));rw[List.length_drop] at hle;generalize Pt.lead s[k] 15 (s.data.toList.drop (k+1))=n at hstep hcall hle;have hcall':=ae hcall;clear hcall hL;obtain⟨hn15,hnl⟩:=hle
   have hnl':k+1+n<=s.size:=by simp at hnl; omega
   clear hnl
   go_wp2_with (first|(go_at_call 182; refine(aa hcall' _).mono ?_; rintro e w1 ⟨rfl,q,hq⟩; subst hq)|(at_builtin; refine bQ rfl (.tmp 20) (.tmp 29) rfl _ w.heap.size _ l (Pt.runByte n s[k]) _ rfl (hown.drewN _) rfl ?_ ?_ ?_ ?_))
   ·rw[gR n _ hn15 hc15]; omega
   ·omega
   ·simpa using hsz
   intro v' w1 hown' hbel';have hbel2:Below w.heap.size w w1:=(ap hbel _).trans hbel';clear hown hbel hbel'
   go_wp2
   go_roundw
   case rel=>exact⟨k+(n+1),_,by omega,by go_num,by simp; omega,hstep,hown',hbel2⟩
   case measure=>simp[intOf]; omega
  have hE:=laid_end s k hlt l (aa hL);clear hL;have hE':=ae hE;clear hE
  go_wp2_with (first|(go_at_call 183; refine(checks_any s _ (aa H64)).mono ?_; rintro e w1 ⟨rfl,rfl⟩)|(at_builtin; refine mI rfl (.tmp 39) (.tmp 42) rfl _ w.heap.size _ l (Pt.ch1 s.data.toList) (Pt.ch2 s.data.toList) rfl hown rfl ?_ ?_ ?_))
  ·omega
  ·exact hsz
  intro v' w1 hown' hbel';have hcv:=hown'.str 0;rw[World.drewN_zero] at hcv;have hbel2:Below w.heap.size w w1:=hbel.trans hbel';clear hown hbel hbel'
  go_wp2
  go_ret2
  exact⟨fU (by rw[aa hE']; rfl),hbel2⟩
end Go.Proofs.YtpabpniaekldeaaGreatDoor.Pk
namespace Go.Proofs.YtpabpniaekldeaaGreatDoor
open Go.Proofs.Tryz
open Go.RowKit
set_option maxRecDepth 20000
def cg (FL:List Ft)(k:K4):ByteArray:=⟨(Pk.Pt.body (tile FL k.l k.z k.x k.y).data.toList).toArray⟩
theorem tile_list (FL:List Ft)(l z x y:Int):(tile FL l z x y).data.toList=kP (gf FL) FL.length l z x y 64:=by unfold tile; rfl
theorem okTile {FL:List Ft}(hr:∀i,i<FL.length->Rt (gf FL i))(l z x y:Int):Pk.Pt.okPic (tile FL l z x y).data.toList=true:=by
 rw[tile_list,Pk.Pt.okPic_iff];refine⟨oL _ _ _ _ _ _ _,fun c hc=>?_⟩;unfold kP at hc;obtain⟨p,_,rfl⟩:=List.mem_map.1 hc;have hall:=pL hr;have h1:=l8 hall l z x y p;have h2:=oq (j7 hall) l z (un z) (js x (un z) ((p:Int)%8)) (js y (un z) ((p:Int) / 8));have h3:ink (gf FL) FL.length l z x y p<=15:=h2.2;omega
theorem gu {FL:List Ft}(hr:∀i,i<FL.length->Rt (gf FL i))(k:K4):7<=(cg FL k).size/\(cg FL k).size<=67:=Pk.Pt.body_len _ (okTile hr k.l k.z k.x k.y)
def bR (R LS:List Ft)(reads:Int)(k:K4):aL:=⟨k,cg R k,du k (eA reads k LS)⟩
theorem mU (fb:Nat)(X:FV)(ver:Int)(sl pv:Value)(LS PL R:List Ft)(g:Nat)(bl bz bx by' reads left:Int)(rv:Value)(l z x y:Int)(w:World)(hf:aq w fb X)(hs:dD w X.sb 0 ver sl pv LS PL)(hl:LS.length<=1000)(hk:dy ⟨l,z,x,y⟩)(hv:0<=reads/\reads<=ver)(hver:ver<=100)(hg:Glb w)
  (hu:w.heap[g]?=some (.cells #[bl,bz,bx,by',reads,left,rv] 170)) (hR:kU w rv R.length (gf R)) (hR40:R.length<=40) (hRt:∀i,i<R.length->Rt (gf R i)) :
  Calls prog 175 #[.pointer (some ⟨fb,0,none⟩),.pointer (some ⟨g,0,none⟩),.agg #[l,z,x,y]] w fun e w'=>e=.returned (.tuple #[.agg (tv (some (bR R LS reads ⟨l,z,x,y⟩))),()])/\Below w.heap.size w w':=by
 have hltg:=an hu;have hltf:=an hf;have hb0:=(Below.refl w.heap.size w).alloc aD (.cells #[l,z,x,y] 39)
 have hb1:=hb0.alloc (by simp) (.cells (tv none) 196)
 have hz1:((w.alloc (.cells #[l,z,x,y] 39)).alloc (.cells (tv none) 196)).heap.size=w.heap.size+2:=by simp
 have hA:=(heap_alloc_old (w.alloc (.cells #[l,z,x,y] 39)) (.cells (tv none) 196) (show w.heap.size<_ by simp)).trans (heap_alloc_new w (.cells #[l,z,x,y] 39))
 have hB:=heap_alloc_new (w.alloc (.cells #[l,z,x,y] 39)) (.cells (tv none) 196)
 rw[show(w.alloc (.cells #[l,z,x,y] 39)).heap.size=w.heap.size+1 by simp] at hB
 have he:=hk.err;dsimp only at he;have hu1:=ag hu hb1;have hok:=okTile hRt l z x y;have hP:∀W,Below ((w.alloc (.cells #[l,z,x,y] 39)).alloc (.cells (tv none) 196)).heap.size ((w.alloc (.cells #[l,z,x,y] 39)).alloc (.cells (tv none) 196)) W->Calls prog 107 #[rv,.agg #[l,z,x,y]] W fun e w'=>e=.returned (.tuple #[.string (tile R l z x y),()])/\Below W.heap.size W w':=fun W h=>paint_tile he hR40 hRt rv W ((hR.on hb1).on h);have h6:∀W,Below ((w.alloc (.cells #[l,z,x,y] 39)).alloc (.cells (tv none) 196)).heap.size ((w.alloc (.cells #[l,z,x,y] 39)).alloc (.cells (tv none) 196)) W->W.cell? ⟨g,6,none⟩=some rv:=fun W h=>(af (ag hu1 h) 6).trans rfl;have hK:∀W,Below ((w.alloc (.cells #[l,z,x,y] 39)).alloc (.cells (tv none) 196)).heap.size ((w.alloc (.cells #[l,z,x,y] 39)).alloc (.cells (tv none) 196)) W->W.rangeAt w.heap.size 0 #[.int .i64 l,.int .i64 z,.int .i64 x,.int .i64 y].toList:=fun W h=>ao (ag hA h)
 obtain⟨ra,rn,rc,hrv⟩:∃a n c,rv=.slice a n c:=by obtain⟨a1,a2,a3,_⟩:=hR; exact⟨_,_,_,a3⟩
 subst hrv;have HF:=ae hf;have HS:=ae hs;have HG:=ae hg;have HU:=ae hu;have HA:=ae hA;have HB:=ae hB;have HB1:=ae hb1;have HKO:=ae hk;have HBD:Hid ((⟨(Pk.Pt.body (tile R l z x y).data.toList).toArray⟩:ByteArray)=cg R ⟨l,z,x,y⟩):=rfl;clear hf hs hg hu hA hB hb0 hb1 hu1 hk hR he;go_enter func175,ntmps175
 go_wp2_with fail
 refine aM (by kernel_rfl) (by kernel_rfl) ?_
 refine eI g 0 ?_;refine bd g 0 ?_;refine bd g 6 ?_
 refine bH (.slice ra rn rc) ?_ (h:=fun w' hw'=>by simp[go_sem,h6 w' hw'])
 refine aR rfl 39 _ rfl (w.heap.size) (0) rfl (#[l,z,x,y]) _ underlying39 rfl (bj _ _ _ _) (hK) ?_;simp only[qZ]
 refine eB rfl 107 (#[.slice ra rn rc,.agg #[l,z,x,y]]) (fun _=>by simp[go_sem]) (.tuple #[.string (tile R l z x y),()]) (hP) ?_
 simp only[qZ];refine bD (.tuple #[.string (tile R l z x y),()]) ?_;refine bH (.string (tile R l z x y)) ?_;refine bH (.int .i64 0) ?_;refine bF rfl _ rfl (.string (tile R l z x y)) rfl ?_;simp only[qZ];refine bF rfl _ rfl (.int .i64 0) rfl ?_;simp only[qZ];refine wpQuiet_nil ?_;intro w2 hw2;have hA2:=ag (aa HA) hw2;have hB2:=ag (aa HB) hw2;have hb2:=(aa HB1).trans (hw2.mono (aa HB1).size);have PK:=Pk.pack_yes (tile R l z x y) w2 hok;rw[aa HBD] at PK;have HA2:=ae hA2;have HB2:=ae hB2;have HBB2:=ae hb2;clear hw2 hP h6 hK hA2 hB2 hb2
 go_wp2_with fail
 refine PK.mono ?_;rintro e w3 ⟨rfl,hb3⟩;have hA3:=ag (aa HA2) hb3;have hB3:=ag (aa HB2) hb3;have hbb3:=(aa HBB2).trans (hb3.mono (aa HBB2).size);have hu3:=ag (aa HU) hbb3;have hf3:=ag (aa HF) hbb3;have hs3:=(aa HS).on hbb3;have hg3:=(aa HG).on hbb3;have TG:∀W,Below w3.heap.size w3 W->Calls prog 129 #[.pointer (some ⟨fb,0,none⟩),reads,.agg #[l,z,x,y]] W fun e w'=>e=.returned (.tuple #[.string (du ⟨l,z,x,y⟩ (eA reads ⟨l,z,x,y⟩ LS)),()])/\Below W.heap.size W w':=fun W h=>nr fb X ver reads sl pv LS PL l z x y W (ag hf3 h) (hs3.on h) hl (aa HKO) hv hver (hg3.on h);have h4:∀W,Below w3.heap.size w3 W->W.cell? ⟨g,4,none⟩=some (.int .i64 reads):=fun W h=>(af (ag hu3 h) 4).trans rfl;have hK3:∀W,Below w3.heap.size w3 W->W.rangeAt w.heap.size 0 #[.int .i64 l,.int .i64 z,.int .i64 x,.int .i64 y].toList:=fun W h=>ao (ag hA3 h);have HA3:=ae hA3;have HB3:=ae hB3;have HBB3:=ae hbb3;clear hb3 PK hA3 hB3 hbb3 hu3 hf3 hs3 hg3 hok
 go_wp2_with fail
 refine aM (by kernel_rfl) (by kernel_rfl) ?_
 refine eI fb 0 ?_;refine eI g 0 ?_;refine bd g 0 ?_;refine bd g 4 ?_
 refine bH (.int .i64 reads) ?_ (h:=fun w' hw'=>by simp[go_sem,h4 w' hw'])
 refine aR rfl 39 _ rfl (w.heap.size) (0) rfl (#[l,z,x,y]) _ underlying39 rfl (bj _ _ _ _) (hK3) ?_;simp only[qZ]
 refine eB rfl 129 (#[.pointer (some ⟨fb,0,none⟩),reads,.agg #[l,z,x,y]]) (fun _=>by simp[go_sem]) (.tuple #[.string (du ⟨l,z,x,y⟩ (eA reads ⟨l,z,x,y⟩ LS)),()]) (TG) ?_
 simp only[qZ];refine bD (.tuple #[.string (du ⟨l,z,x,y⟩ (eA reads ⟨l,z,x,y⟩ LS)),()]) ?_;refine bH (.string (du ⟨l,z,x,y⟩ (eA reads ⟨l,z,x,y⟩ LS))) ?_;refine bH (.int .i64 0) ?_;refine bF rfl _ rfl (.string (du ⟨l,z,x,y⟩ (eA reads ⟨l,z,x,y⟩ LS))) rfl ?_;simp only[qZ];refine bF rfl _ rfl (.int .i64 0) rfl ?_;simp only[qZ];refine wpQuiet_nil ?_;intro w2 hw2;have hA4:=ag (aa HA3) hw2;have hB4:=ag (aa HB3) hw2;have hbb4:=(aa HBB3).trans (hw2.mono (aa HBB3).size);have hrg4:w2.rangeAt w.heap.size 0 #[.int .i64 l,.int .i64 z,.int .i64 x,.int .i64 y].toList:=ao hA4;have hS4:=setRow_heap _ _ _ (tv (some (bR R LS reads ⟨l,z,x,y⟩))) _ _ hB4;have HS4:=ae hS4
 have HB5:=ae (aK hbb4 (show w.heap.size<=w.heap.size+1 by omega) (tv (some (bR R LS reads ⟨l,z,x,y⟩))))
 have hbt:∀(A:Act) (o:Oper) (p q r:Operand),o.op=.build 196 #[(0,p),(1,q),(2,r)]->A.eval p=.agg #[l,z,x,y]->A.eval q=.string (cg R ⟨l,z,x,y⟩)->A.eval r=.string (du ⟨l,z,x,y⟩ (eA reads ⟨l,z,x,y⟩ LS))->∀W,(execOp A.eval o).run prog W=.ok (.value (.agg (tv (some (bR R LS reads ⟨l,z,x,y⟩))))) W:=by
  intro A o p q r ho hp hq hr W
  have hb:=run_build (P:=prog) W 196 #[(0,.agg #[l,z,x,y]),(1,.string (cg R ⟨l,z,x,y⟩)),(2,.string (du ⟨l,z,x,y⟩ (eA reads ⟨l,z,x,y⟩ LS)))] (tv (some (bR R LS reads ⟨l,z,x,y⟩))) (by kernel_rfl)
  unfold execOp;simp[ho,hp,hq,hr,hb]
 clear hw2 hA4 hbb4 TG h4 hK3 hS4
 go_wp2_with (first|refine bU 39 #[l,z,x,y] underlying39 rfl (bj _ _ _ _) w.heap.size 0 hrg4 rfl _ rfl rfl ?_|refine cP _ _ (hbt _ _ _ _ _ rfl rfl rfl rfl _) rfl ?_|refine stG 196 (tv (some (bR R LS reads ⟨l,z,x,y⟩))) (tv none) (d9 _) (je _) rfl (w.heap.size+1) hB4 rfl _ _ rfl rfl rfl ?_)
 refine bodyPost_ret (v:=.tuple #[.agg (tv (some (bR R LS reads ⟨l,z,x,y⟩))),()]) (rct results175 _ _ (w.heap.size+1) 196 (tv (some (bR R LS reads ⟨l,z,x,y⟩))) (0,0) _ (.int .i64 0) rfl rfl (aa HS4) underlying196 rfl (d9 _)) rfl ⟨rfl,aa HB5⟩
theorem map_snoc {α β:Type}{l:List α}{k:Nat}{a:α}(f:α->β)(h:l[k]?=some a):(l.take (k+1)).map f=(l.take k).map f++[f a]:=by rw[be h,List.map_append]; rfl
theorem keys_len (b:K4):b.keys.length<=4:=by unfold K4.keys; split<;>simp
theorem paint_any (fb:Nat)(X:FV)(ver:Int)(sl pv:Value)(LS PL R:List Ft)(g:Nat)(bl bz bx by' reads left:Int)(rv:Value)(w:World)(hf:aq w fb X)(hs:dD w X.sb 0 ver sl pv LS PL)(hl:LS.length<=1000)(hk:∀k∈(⟨bl,bz,bx,by'⟩:K4).keys,dy k)(hx:0<=bx/\bx<=4194304)(hy:0<=by'/\by'<=4194304)(hv:0<=reads/\reads<=ver)(hver:ver<=100)(hg:Glb w)
  (hu:w.heap[g]?=some (.cells #[bl,bz,bx,by',reads,left,rv] 170)) (hR:kU w rv R.length (gf R)) (hR40:R.length<=40) (hRt:∀i,i<R.length->Rt (gf R i)) :
  Calls prog 142 #[.pointer (some ⟨fb,0,none⟩),.pointer (some ⟨g,0,none⟩)] w fun e w'=>(∃v,e=.returned v/\ah aW 196 w' v ((⟨bl,bz,bx,by'⟩:K4).keys.map (bR R LS reads))/\∀g,v.ownBlock=some g->w.heap.size<=g)/\Below w.heap.size w w':=by
 have hltg:=an hu;have hb0:=(Below.refl w.heap.size w).alloc aD (.cells #[] 196)
 have hN:=cr (R:=aW) (T:=196) w [] #[] rfl (by simp)
 have hu1:=ag hu hb0
 have hrgb:(w.alloc (.cells #[] 196)).rangeAt g 0 #[.int .i64 bl,.int .i64 bz,.int .i64 bx,.int .i64 by'].toList:=by
  intro j v hv;rw[af hu1,Nat.zero_add]
  rcases j with _|_|_|_|j
  ·exact hv
  ·exact hv
  ·exact hv
  ·exact hv
  simp at hv
 have KO:=keysOf_any bl bz bx by' (w.alloc (.cells #[] 196)) hx hy
 have HF:=ae hf;have HS:=ae hs;have HG:=ae hg;have HU:=ae hu;have HR:=ae hR;have HK:=ae hk;have HN:=ae hN;have HB0:=ae hb0;clear hf hs hg hu hN hb0 hu1 hk hR;go_enter func142,ntmps142
 go_wp2_with (refine bU 39 #[bl,bz,bx,by'] underlying39 rfl (bj _ _ _ _) g 0 hrgb rfl _ rfl rfl ?_)
 refine KO.mono ?_;rintro e w2 ⟨⟨kv,rfl,hokv,hfrk⟩,hb2⟩
 have hb02:=(aa HB0).trans (hb2.mono (by simp))
 have hN2:=(aa HN).on hb2;have HN2:=ae hN2;have HB02:=ae hb02
 have hkl:=keys_len ⟨bl,bz,bx,by'⟩
 generalize hKS:K4.keys ⟨bl,bz,bx,by'⟩=ks at hkl hokv HK ⊢
 obtain⟨ka,kc,rfl,_⟩:=hokv.at;have HKV:=ae hokv;have HKS:=ae hKS;clear KO hrgb hokv hfrk hb2 hN2 hb02 hKS
 go_wp2_with fail
 go_loopw [5,7,8,9] (fun v i _ _ wr=>∃k:Nat,k<=ks.length/\i=.int .i64 k/\ah aW 196 wr v ((ks.take k).map (bR R LS reads))/\Hid (∀g,v.ownBlock=some g->w.heap.size<=g)/\ah bT 39 wr (.slice ka ks.length kc) ks/\Below w.heap.size w wr) (fun _ i _ _ _=>ks.length-(intOf i).toNat)
 case atStart=>exact⟨0,by omega,rfl,by simpa using aa HN2,ae (fun g hg=>by simp[Value.ownBlock] at hg; omega),aa HKV,aa HB02⟩
 case round=>
  obtain⟨k,hk,rfl,hown,hfr,hbk,hb⟩:=hrel;have hsz:=hb.size
  by_cases hlt:k<ks.length
  ·have hkn:(k:Int)<ks.length:=by omega
   obtain⟨oa',kc',ek,_,_,hkc⟩:=hbk.at
   obtain⟨b,off,e1,hbl,hc0⟩:=hkc (by omega)
   cases ek;subst e1;obtain⟨⟨rl,rz,rx,ry⟩,ht⟩:∃t,ks[k]?=some t:=⟨_,List.getElem?_eq_getElem hlt⟩;have hko:=aa HK _ (List.mem_of_getElem? ht);have hrg:wr.rangeAt b (off+k*4) #[.int .i64 rl,.int .i64 rz,.int .i64 rx,.int .i64 ry].toList:=bL.key hc0 ht
   have PT:=mU fb X ver sl pv LS PL R g bl bz bx by' reads left rv rl rz rx ry wr (ag (aa HF) hb) ((aa HS).on hb) hl hko hv hver ((aa HG).on hb) (ag (aa HU) hb) ((aa HR).on hb) hR40 hRt
   have hms:=map_snoc (bR R LS reads) ht;have HO:=ae hown;have HB:=ae hb;have HBK:=ae hbk;clear hown hb hbk hc0 hkc
   go_wp2_with (refine bU 39 #[rl,rz,rx,ry] underlying39 rfl (bj _ _ _ _) b (off+k*4) hrg rfl _ rfl rfl ?_)
   refine PT.mono ?_;rintro e w3 ⟨rfl,hb3⟩;have hT0:=heap_alloc_new w3 (.cells (tv none) 196);have hbT:=(Below.refl w3.heap.size w3).alloc aD (.cells (tv none) 196);have hS1:=setRow_heap _ _ _ (tv (some (bR R LS reads ⟨rl,rz,rx,ry⟩))) _ _ hT0;have hbS:=aK hbT aD (tv (some (bR R LS reads ⟨rl,rz,rx,ry⟩)));have hown4:=((aa HO).on hb3).on hbS
   have hB4:=((aa HB).trans (hb3.mono (aa HB).size)).trans (hbS.mono (by have:=hb3.size; omega))
   have hBK4:=((aa HBK).on hb3).on hbS
   have hzS:((w3.alloc (.cells (tv none) 196)).setRow w3.heap.size (tv (some (bR R LS reads ⟨rl,rz,rx,ry⟩)))).heap.size=w3.heap.size+1:=by simp[World.setRow]
   have hz3:wr.heap.size<=w3.heap.size:=hb3.size;have hrg4:((w3.alloc (.cells (tv none) 196)).setRow w3.heap.size (tv (some (bR R LS reads ⟨rl,rz,rx,ry⟩)))).rangeAt w3.heap.size 0 (tv (some (bR R LS reads ⟨rl,rz,rx,ry⟩))).toList:=ao hS1;have hat:=aZ aW 196 ((w3.alloc (.cells (tv none) 196)).setRow w3.heap.size (tv (some (bR R LS reads ⟨rl,rz,rx,ry⟩)))) (bR R LS reads ⟨rl,rz,rx,ry⟩) (tv (some (bR R LS reads ⟨rl,rz,rx,ry⟩))) rfl;have hbA:=(Below.refl ((w3.alloc (.cells (tv none) 196)).setRow w3.heap.size (tv (some (bR R LS reads ⟨rl,rz,rx,ry⟩)))).heap.size ((w3.alloc (.cells (tv none) 196)).setRow w3.heap.size (tv (some (bR R LS reads ⟨rl,rz,rx,ry⟩))))).alloc aD (.cells (tv (some (bR R LS reads ⟨rl,rz,rx,ry⟩))) 196);have hoA:=hown4.on hbA
   obtain⟨v5,w5,r1,r2,r3,r4⟩:=mz hoA hat (by simp; omega)
   rw[<-hms] at r2;have HO5:=ae r2;have hszz:=hB4.size
   have HB5:=ae ((hB4.alloc hszz (.cells (tv (some (bR R LS reads ⟨rl,rz,rx,ry⟩))) 196)).grown r3 (by simp[hzS]; omega) (fun q hq=>aa hfr q hq))
   have hBKA:=hBK4.on hbA
   have HBK5:=ae (hBKA.same (w':=w5) fun q hq=>r3.block q (hBKA.lt hq) (fun z=>by
    obtain⟨c1,d1⟩:=hoA.ty z.symm
    exact au hBKA d1 (by decide) q hq rfl))
   have HFR:=ae (bN (aa hfr) r4 (by simp[hzS]; omega))
   clear hb3 PT hbT hS1 hbS hown4 hB4 hBK4 hBKA hat hbA hoA r2 r3 r4 hms hrg hszz hzS hz3
   go_wp2_with (first|refine stG 196 (tv (some (bR R LS reads ⟨rl,rz,rx,ry⟩))) (tv none) (d9 _) (je _) rfl w3.heap.size hT0 rfl _ _ rfl rfl rfl ?_|refine bU 196 (tv (some (bR R LS reads ⟨rl,rz,rx,ry⟩))) underlying196 rfl (d9 _) w3.heap.size 0 hrg4 rfl _ rfl rfl ?_|refine cP _ _ (jt _ _ _ _ _ _ _ _ _ rfl rfl _) rfl ?_|(at_builtin; refine fS 123 r1 rfl _ _ rfl rfl rfl rfl ?_))
   go_roundw
   case rel=>exact⟨k+1,by omega,by go_num,aa HO5,aa HFR,aa HBK5,aa HB5⟩
   case measure=>simp[intOf]; omega
  have hkn:k=ks.length:=by omega
  have htl:ks.take k=ks:=by rw[hkn,List.take_length]
  rw[htl] at hown;subst hkn
  go_wp2_with fail
  go_ret
  exact⟨⟨u5,rfl,by rw[aa HKS]; exact hown,aa hfr⟩,hb⟩
theorem ou {l:List Oper}{Q:Exit->Act->World->Prop}{S:World->Prop}{listed:Array Bool}{a:Act}{w:World}{fuel:Nat}{o:Oper}{rest:List Oper}(i:Nat)(hd:l.drop i=o::rest)(hw:Region.wanted o (yielded l.toArray a.tmps)=true)(f:FuncId)(args:Array Value)(h0:(execOp a.eval o).run prog w=.ok (.enter f args) w)(R:Value->World->Prop)
  (hc:Calls prog f args w fun e w'=>∃v,e=.returned v/\R v w') (h:∀v w',R v w'->S w'/\wpAnyH prog .any l.toArray Q S fuel (listed.setIfInBounds i true) (a.put o.dst v) w') :
  wpOp prog l.toArray Q i (fun a' w'=>S w'/\wpAnyH prog .any l.toArray Q S fuel (listed.setIfInBounds i true) a' w') a w:=by
 unfold wpOp;simp only[gw hd];rw[if_pos hw]
 left
 unfold Oper.wp;rw[h0]
 exact hc.mono fun e w' ⟨v,e1,e2⟩=>by subst e1; exact h v w' e2
theorem ReadC (sb:Nat)(ver:Int)(sl pv:Value)(LS PL FL:List Ft)(v a:Int)(n:Nat)(w:World)(hs:dD w sb 0 ver sl pv LS PL)(hl:LS.length<=1000)(hp:PL.length<=100)(hv:0<=ver/\ver<=100)(hh:bS 0 ver PL v=true)(hR:d8 v LS FL)(hn:1<=n/\n<=8):
  Calls prog 34 #[.pointer (some ⟨sb,0,none⟩),v,a,n] w fun e w'=>∃t,e=.returned t/\∃R rv,t=.tuple #[rv,()]/\bf 66 24 w' w.heap.size rv R/\jB FL a R/\R.length=min n (FL.length-gH FL a FL.length)/\Below w.heap.size w w':=by
 refine(Read_any sb 0 ver sl pv LS PL FL v a n w hs hl hp ⟨by omega,by omega⟩ hv hh hR hn).mono ?_
 rintro e w' ⟨⟨R,rv,rfl,h1,h2,h3,h4⟩,hb⟩;refine⟨_,rfl,R,rv,rfl,h1,h2,?_,hb⟩;have hc:=h2.cnt;have hle:=cle_le FL (lP a R R.length) FL.length
 rcases h4 with h4|h4
 ·omega
 omega
def lid (R:List Ft):Int:=lP 0 R R.length
theorem l4 (v:Value)(R:List Ft)(w:World)(hv:mD 24 w v R.length (gf R))(hl:R.length<=1000000):
  Calls prog 141 #[v] w fun e w'=>e=.returned (.int .i64 (lid R))/\w=w':=by
 obtain⟨oa,cap,rfl,_,hc⟩:=hv
 by_cases h0:R.length=0
 ·have e:lid R=0:=by unfold lid; rw[h0]; rfl
  rw[e,h0];clear e h0 hc hl;go_enter func141,ntmps141
  go_wp2_with fail
  go_ret;exact⟨rfl,rfl⟩
 obtain⟨m,hm⟩:∃m,R.length=m+1:=⟨R.length-1,by omega⟩
 obtain⟨b,off,rfl,hbl,hc0⟩:=hc (by omega)
 have e:lid R=gf R m 0:=by unfold lid; rw[hm]; rfl
 have c:=hc0 m (by omega) 0 (by omega)
 rw[Nat.add_zero] at c;rw[e,hm];obtain⟨I,hI⟩:∃I,gf R m 0=I:=⟨_,rfl⟩;rw[hI] at c ⊢
 have hz:((m+1:Nat):Int)=(m:Int)+1:=by omega
 have hw:IntKind.i64.wrap ((m:Int)+1-1)=m:=by rw[bG _ (by omega)]; omega
 have hw64:wrap64 (m:Int)=m:=IntWalk.wrap64_in _ ⟨by omega,by omega⟩
 clear e hI h0 hc hc0 hw
 have hne:¬((m+1:Nat):Int)=0:=by omega
 clear hm;go_enter func141,ntmps141
 go_wp2_with fail
 go_ret;exact⟨rfl,rfl⟩
theorem nsteps_eq {n N c:Nat}(hc:1<=c)(h1:n=0\/(n-1)*c<N)(h2:N<=n*c):(if n=0 then 1 else n)=bB N c:=by
 unfold bB
 by_cases e:n=0
 ·rw[if_pos e]
  rw[e,Nat.zero_mul] at h2
  rw[if_pos (by omega)]
 rw[if_neg e];have h1:=h1.resolve_left e
 rw[if_neg (by omega)]
 obtain⟨m,rfl⟩:∃m,n=m+1:=⟨n-1,by omega⟩
 rw[Nat.add_sub_cancel] at h1;rw[Nat.succ_mul] at h2
 symm
 rw[Nat.div_eq_iff (by omega)]
 rw[Nat.succ_mul];omega
structure gc (FL:List Ft)(ch n:Nat)(a:Int)(R:List Ft):Prop where
 n41:n<=41
 cl:gH FL a FL.length=min (n*ch) FL.length
 pr:n=0\/(n-1)*ch<FL.length
 ln:R.length=min ch (FL.length-gH FL a FL.length)
 rd:jB FL a R
theorem gc.len {FL:List Ft}{ch n:Nat}{a:Int}{R:List Ft}(h:gc FL ch n a R)(hc:1<=ch/\ch<=8):R.length<=8:=by have:=h.ln; omega
theorem gc.n40 {FL:List Ft}{ch n:Nat}{a:Int}{R:List Ft}(h:gc FL ch n a R)(hc:1<=ch/\ch<=8)(h40:FL.length<=40):n<=40:=by
 rcases h.pr with q|q
 ·omega
 have:=Nat.mul_le_mul_left (n-1) hc.1;omega
theorem gc.end_ {FL:List Ft}{ch n:Nat}{a:Int}{R:List Ft}(h:gc FL ch n a R)(hc:1<=ch/\ch<=8)(h0:R.length=0):(if n=0 then 1 else n)=bB FL.length ch:=by
 refine nsteps_eq hc.1 h.pr ?_;have h1:=h.ln;have h2:=h.cl;omega
theorem gc.lid {FL:List Ft}{ch n:Nat}{a:Int}{R:List Ft}(_h:gc FL ch n a R)(h0:0<R.length):lid R=lP a R R.length:=by
 unfold Go.Proofs.YtpabpniaekldeaaGreatDoor.lid
 obtain⟨m,hm⟩:∃m,R.length=m+1:=⟨R.length-1,by omega⟩
 rw[hm];rfl
theorem gc.next {FL:List Ft}{ch n:Nat}{a A:Int}{R R2:List Ft}(h:gc FL ch n a R)(hc:1<=ch/\ch<=8)(h40:FL.length<=40)(h0:0<R.length)(hA:lP a R R.length=A)(hrp:jB FL A R2)(hlen:R2.length=min ch (FL.length-gH FL A FL.length)):gc FL ch (n+1) A R2:=by
 have h1:=h.ln;have h2:=h.cl;have h3:=h.rd.cnt;rw[hA] at h3
 have h4:n*ch<FL.length:=by omega
 have h5:=Nat.mul_le_mul_left n hc.1
 refine⟨by omega,?_,Or.inr (by rw[Nat.add_sub_cancel]; exact h4),hlen,hrp⟩
 rw[Nat.succ_mul];omega
theorem steps_any (fb:Nat)(X:FV)(ver v:Int)(sl pv:Value)(LS PL FL:List Ft)(ch:Nat)(w:World)(hf:aq w fb X)(hch:X.ch=ch)(hc:1<=ch/\ch<=8)(hs:dD w X.sb 0 ver sl pv LS PL)(hl:LS.length<=1000)(hp:PL.length<=100)(hver:0<=ver/\ver<=100)(hh:bS 0 ver PL v=true)(hR:d8 v LS FL):
  Calls prog 140 #[.pointer (some ⟨fb,0,none⟩),.int .i64 v] w fun e w'=>e=.returned (.int .i64 (bB FL.length ch))/\Below w.heap.size w w':=by
 have hF6:∀W,aq W fb X->W.cell? ⟨fb,6,none⟩=some (.pointer (some ⟨X.sb,0,none⟩)):=fun W h=>(aq.cells h).2.2.2.2.2.2.1
 have hF2:∀W,aq W fb X->W.cell? ⟨fb,2,none⟩=some (.int .i64 ch):=fun W h=>by rw[<-hch]; exact(aq.cells h).2.2.1
 have h40:=hR.le40
 have hcl0:gH FL 0 FL.length=0:=mq _ fun j hj=>by have:=(hR.rt j hj).id; omega
 have RD:∀W a,Below w.heap.size w W->Calls prog 34 #[.pointer (some ⟨X.sb,0,none⟩),.int .i64 v,.int .i64 a,.int .i64 ch] W fun e w'=>∃t,e=.returned t/\∃R rv,t=.tuple #[rv,.int .i64 0]/\bf 66 24 w' W.heap.size rv R/\jB FL a R/\R.length=min ch (FL.length-gH FL a FL.length)/\Below W.heap.size W w':=fun W a h=>ReadC X.sb ver sl pv LS PL FL v a ch W (hs.on h) hl hp hver hh hR hc;have HF:=ae hf;have HRD:=ae RD;have HCL0:=ae hcl0;clear hf hs hR RD hch hcl0 hh;go_enter func140,ntmps140
 go_wp2_with fail
 refine wp_region_held (S:=fun w'=>aq w' fb X) (by kernel_rfl) ?_
 change wpAnyH _ _ _ _ _ _ _ _ (World.drew _);have hS:aq (World.drew w) fb X:=aa HF;have hb1:Below w.heap.size w (World.drew w):=Below.drew bu;have RD1:=aa HRD (World.drew w) 0 hb1;generalize World.drew w=w1 at hS hb1 RD1 ⊢;refine am 0 rfl fb 0 hS ?_;refine am 1 rfl fb 0 hS ?_;refine am 2 rfl fb 6 hS ?_
 refine am 3 rfl X.sb 0 hS ?_ (hy:=fun w' hw'=>by simp[go_sem,hF6 w' hw'])
 refine aH 4 rfl (.int .i64 v) hS ?_;refine am 5 rfl fb 0 hS ?_;refine am 6 rfl fb 0 hS ?_;refine am 7 rfl fb 2 hS ?_
 refine aH 8 rfl (.int .i64 ch) hS ?_ (hy:=fun w' hw'=>by simp[go_sem,hF2 w' hw'])
 refine aV 9 ?_
 refine ou 9 rfl rfl 34 #[.pointer (some ⟨X.sb,0,none⟩),.int .i64 v,.int .i64 0,.int .i64 ch] (by simp[go_sem]) _ RD1 ?_
 rintro t w2 ⟨R,rv,rfl,ho,hrp,hlen,hb2⟩;have hS2:=ag hS hb2;refine⟨hS2,?_⟩;simp only[qZ];have hS:=hS2
 obtain⟨ra,rn,rc,rfl⟩:∃a n c,rv=.slice a n c:=by
  rcases ho.2 with⟨rfl,_⟩|⟨g,cap,cur,rfl,_⟩
  ·exact⟨_,_,_,rfl⟩
  exact⟨_,_,_,rfl⟩
 refine aH 10 rfl (.tuple #[.slice ra rn rc,.int .i64 0]) hS ?_;refine aH 11 rfl (.slice ra rn rc) hS ?_;refine aH 12 rfl (.int .i64 0) hS ?_;refine aH 13 rfl (.slice ra rn rc) hS ?_;refine aH 14 rfl (.int .i64 0) hS ?_
 refine wpAnyH_done (by kernel_rfl) ?_ _
 have hrn:rn=R.length:=by
  rcases ho.2 with⟨q,hn⟩|⟨g,cap,cur,q,_⟩
  ·cases q; omega
  cases q; rfl
 subst hrn
 have HX:Hid (gc FL ch 0 0 R/\bf 66 24 w2 w1.heap.size (.slice ra R.length rc) R):=⟨⟨by omega,by rw[aa HCL0]; simp,Or.inl rfl,hlen,hrp⟩,ho⟩
 have HB2:=ae (hb1.trans (hb2.mono hb1.size));clear hS hS2 hb1 hb2 RD1 ho hrp hlen
 go_wp2_with fail
 go_loopw [5,6,7,8] (fun nv cv ev _ wr=>∃(n:Nat) (a:Int) (R:List Ft) (B:Nat) (ra:Option Addr) (rc:Nat),nv=.int .i64 n/\cv=.slice ra R.length rc/\ev=.int .i64 0/\Hid (gc FL ch n a R)/\Hid (bf 66 24 wr B (.slice ra R.length rc) R)/\Below w.heap.size w wr) (fun nv _ _ _ _=>50-(intOf nv).toNat)
 case atStart=>exact⟨0,0,R,_,ra,rc,rfl,rfl,rfl,ae (aa HX).1,ae (aa HX).2,aa HB2⟩
 case round=>
  obtain⟨n,a,R,B,ra,rc,rfl,rfl,rfl,hst,hown,hb⟩:=hrel;have hst0:=aa hst;have hn40:=hst0.n40 hc h40
  by_cases h0:R.length=0
  ·have HE:=ae (hst0.end_ hc h0)
   have HB:=ae hb;obtain rfl:R=[]:=List.eq_nil_of_length_eq_zero h0;clear hst hst0 hown hb HX h0
   by_cases hn0:n=0
   ·subst hn0
    go_wp2_with fail
    go_ret
    exact⟨aB (by have:=aa HE; simp at this; omega),aa HB⟩
   have hni:¬(n:Int)=0:=by omega
   go_wp2_with fail
   go_ret
   exact⟨aB (by have:=aa HE; rw[if_neg hn0] at this; omega),aa HB⟩
  have hpos:(0:Int)<R.length:=by omega
  have hpn:0<R.length:=by omega
  have hl8:=hst0.len hc
  have LI:=l4 (.slice ra R.length rc) R wr ((aa hown).at (by unfold maxLen; omega)) (by omega)
  have hlid:=hst0.lid (by omega)
  have HST:=ae hst0;have HB:=ae hb;rw[hlid] at LI;obtain⟨A,hA⟩:∃A,lP a R R.length=A:=⟨_,rfl⟩;rw[hA] at LI;have HAA:=ae hA
  have hR0:R≠[]:=fun e=>h0 (by rw[e]; rfl)
  clear hst hst0 hb HX hlid hA h0
  go_wp2_with fail
  refine LI.mono ?_;rintro e w9 ⟨rfl,rfl⟩;clear LI
  go_wp2_with fail
  refine wp_region_held (S:=fun w'=>aq w' fb X) (by kernel_rfl) ?_
  change wpAnyH _ _ _ _ _ _ _ _ (World.drew _);have hb1:Below w.heap.size w (World.drew wr):=Below.drew (aa HB);have hS:aq (World.drew wr) fb X:=ag (aa HF) hb1;have RD1:=aa HRD (World.drew wr) A hb1;generalize World.drew wr=w1 at hS hb1 RD1 ⊢;refine am 0 rfl fb 0 hS ?_;refine am 1 rfl fb 0 hS ?_;refine am 2 rfl fb 6 hS ?_
  refine am 3 rfl X.sb 0 hS ?_ (hy:=fun w' hw'=>by simp[go_sem,hF6 w' hw'])
  refine aH 4 rfl (.int .i64 v) hS ?_;refine aH 5 rfl (.int .i64 A) hS ?_;refine am 6 rfl fb 0 hS ?_;refine am 7 rfl fb 0 hS ?_;refine am 8 rfl fb 2 hS ?_
  refine aH 9 rfl (.int .i64 ch) hS ?_ (hy:=fun w' hw'=>by simp[go_sem,hF2 w' hw'])
  refine aV 10 ?_
  refine ou 10 rfl rfl 34 #[.pointer (some ⟨X.sb,0,none⟩),.int .i64 v,.int .i64 A,.int .i64 ch] (by simp[go_sem]) _ RD1 ?_
  rintro t w2 ⟨R2,rv,rfl,ho,hrp,hlen,hb2⟩;have hS2:=ag hS hb2;refine⟨hS2,?_⟩;simp only[qZ];have hS:=hS2
  obtain⟨ra,rn,rc,rfl⟩:∃a n c,rv=.slice a n c:=by
   rcases ho.2 with⟨rfl,_⟩|⟨g,cap,cur,rfl,_⟩
   ·exact⟨_,_,_,rfl⟩
   exact⟨_,_,_,rfl⟩
  refine aH 11 rfl (.tuple #[.slice ra rn rc,.int .i64 0]) hS ?_;refine aH 12 rfl (.slice ra rn rc) hS ?_;refine aH 13 rfl (.int .i64 0) hS ?_;refine aH 14 rfl (.slice ra rn rc) hS ?_;refine aH 15 rfl (.int .i64 0) hS ?_
  refine wpAnyH_done (by kernel_rfl) ?_ _
  have hrn:rn=R2.length:=by
   rcases ho.2 with⟨q,hn⟩|⟨g,cap,cur,q,_⟩
   ·cases q; omega
   cases q; rfl
  subst hrn;have HN:=ae ((aa HST).next hc h40 hpn (aa HAA) hrp hlen);have HO2:=ae ho;have HB2:=ae (hb1.trans (hb2.mono hb1.size));clear hS hS2 hb1 hb2 RD1 ho hrp hlen
  go_wp2_with fail
  go_roundw
  case rel=>exact⟨n+1,A,R2,_,_,_,by go_num,rfl,rfl,HN,HO2,aa HB2⟩
  case measure=>simp[intOf]; omega
theorem bf.toR {w:World}{B:Nat}{v:Value}{l:List Ft}(h:bf 66 24 w B v l):ah rF 66 w v l:=by
 obtain⟨h1,h2⟩:=h
 rcases h2 with⟨rfl,hn⟩|⟨g,cap,cur,rfl,_,hh,r1,r2,r3,r4⟩
 ·exact Or.inl ⟨rfl,List.eq_nil_of_length_eq_zero hn⟩
 exact Or.inr ⟨g,0,cap,cur,rfl,hh,r1,r2,by rw[r3]; show 0+cap*24<=cap*24; omega,by rw[List.drop_zero]; exact r4⟩
theorem bL.fs {w:World}{v:Value}{l:List Ft}(h:bL rF w v l):mD 24 w v l.length (gf l):=by
 obtain⟨oa,cap,e,h1,h2,h3⟩:=h;refine⟨oa,cap,e,h2,fun h0=>?_⟩;obtain⟨b,off,e',hb,hc⟩:=h3 h0;refine⟨b,off,e',hb,fun i hi j hj=>?_⟩
 have hg:l[i]?=some (gf l i):=by
  unfold gf;rw[List.getElem?_eq_getElem hi];rfl
 exact hc i (gf l i) hg j _ (by show(cc 24 (gf l i)).toList[j]?=_; rw[Array.getElem?_toList,dc 24 _ j hj])
theorem gf_l {A B:List Ft}{i:Nat}(h:i<A.length):gf (A++B) i=gf A i:=by unfold gf; rw[List.getElem?_append_left h]
theorem gf_r {A B:List Ft}(i:Nat):gf (A++B) (A.length+i)=gf B i:=by unfold gf; rw[List.getElem?_append_right (by omega),Nat.add_sub_cancel_left]
theorem pid_l {a:Int}{A B:List Ft}{i:Nat}(h:i<=A.length):lP a (A++B) i=lP a A i:=by
 cases i with
 | zero=>rfl
 | succ i=>show gf (A++B) i 0=gf A i 0; rw[gf_l (by omega)]
theorem pid_r (a:Int)(A B:List Ft)(i:Nat):lP a (A++B) (A.length+i)=lP (lP a A A.length) B i:=by
 cases i with
 | zero=>exact pid_l aD
 | succ i=>show gf (A++B) (A.length+i) 0=gf B i 0; rw[gf_r]
theorem jB.app {FL A B:List Ft}{a:Int}(h:jB FL a A)(h':jB FL (lP a A A.length) B):jB FL a (A++B):=by
 refine⟨fun i hi=>?_,fun i hi=>?_,?_⟩
 ·by_cases c:i<A.length
  ·rw[gf_l c]; exact h.mem i c
  obtain⟨q,rfl⟩:∃q,i=A.length+q:=⟨i-A.length,by omega⟩
  rw[gf_r]; exact h'.mem q (by simp at hi; omega)
 ·by_cases c:i<A.length
  ·rw[gf_l c,pid_l (by omega)]; exact h.ris i c
  obtain⟨q,rfl⟩:∃q,i=A.length+q:=⟨i-A.length,by omega⟩
  rw[gf_r,pid_r]; exact h'.ris q (by simp at hi; omega)
 rw[List.length_append,pid_r,h'.cnt,h.cnt,Nat.add_assoc]
theorem step_any (fb:Nat)(X:FV)(ver:Int)(sl pv:Value)(LS PL FL R:List Ft)(ch:Nat)(g:Nat)(bl bz bx by' reads left:Int)(rv:Value)(w:World)(hf:aq w fb X)(hch:X.ch=ch)(hc:1<=ch/\ch<=8)(hs:dD w X.sb 0 ver sl pv LS PL)(hl:LS.length<=1000)(hp:PL.length<=100)(hver:0<=ver/\ver<=100)(hh:bS 0 ver PL reads=true)(hR:d8 reads LS FL)
  (hu:w.heap[g]?=some (.cells #[bl,bz,bx,by',reads,left,rv] 170)) (ho:ah rF 66 w rv R) (hrd:jB FL 0 R) (hle:1<=left/\left<=1000) :
  Calls prog 91 #[.pointer (some ⟨fb,0,none⟩),.pointer (some ⟨g,0,none⟩)] w fun e w'=>e=.returned (.tuple #[])/\(∃R2 rv',w'.heap[g]?=some (.cells #[bl,bz,bx,by',reads,.int .i64 (left-1),rv'] 170)/\ah rF 66 w' rv' (R++R2)/\jB FL 0 (R++R2)/\R2.length=min ch (FL.length-R.length)/\(rv'.ownBlock=rv.ownBlock\/∀k,rv'.ownBlock=some k->w.heap.size<=k))/\aE (fun k=>k=g\/rv.ownBlock=some k) w w':=by
 have hF6:∀W,aq W fb X->W.cell? ⟨fb,6,none⟩=some (.pointer (some ⟨X.sb,0,none⟩)):=fun W h=>(aq.cells h).2.2.2.2.2.2.1
 have hF2:∀W,aq W fb X->W.cell? ⟨fb,2,none⟩=some (.int .i64 ch):=fun W h=>by rw[<-hch]; exact(aq.cells h).2.2.1
 have h40:=hR.le40
 have hcl0:gH FL 0 FL.length=0:=mq _ fun j hj=>by have:=(hR.rt j hj).id; omega
 have hcl:gH FL (lid R) FL.length=R.length:=by have:=hrd.cnt; rw[hcl0] at this; unfold lid; omega
 have hRl:R.length<=40:=by rw[<-hcl]; exact Nat.le_trans (cle_le _ _ _) h40
 have RD:∀W,Below w.heap.size w W->Calls prog 34 #[.pointer (some ⟨X.sb,0,none⟩),reads,.int .i64 (lid R),ch] W fun e w'=>∃t,e=.returned t/\∃R' rv,t=.tuple #[rv,()]/\bf 66 24 w' W.heap.size rv R'/\jB FL (lid R) R'/\R'.length=min ch (FL.length-gH FL (lid R) FL.length)/\Below W.heap.size W w':=fun W h=>ReadC X.sb ver sl pv LS PL FL reads (lid R) ch W (hs.on h) hl hp hver hh hR hc;have c6:=(af hu 6).trans (show _=some rv from rfl)
 have LI:=l4 rv R w ho.at.fs (by omega)
 obtain⟨ra,rn,rc,hrv⟩:=ho.sl
 have hG4:∀W:World,W.heap[g]?=some (.cells #[bl,bz,bx,by',reads,left,rv] 170)->W.cell? ⟨g,4,none⟩=some (.int .i64 reads):=fun W h=>(af h 4).trans rfl
 have HF:=ae hf;have HU:=ae hu;have HRD:=ae RD;have HO:=ae ho;have HP:=ae hrd;have HCL:=ae hcl;have HRV:=ae hrv;clear hf hs hR RD hch hcl0 hh hu ho hrd hcl;subst hrv;generalize hA:lid R=A at LI HRD HCL;go_enter func91,ntmps91
 go_wp2_with fail
 refine LI.mono ?_;rintro e w9 ⟨rfl,rfl⟩;clear LI c6
 go_wp2_with fail
 refine wp_region_held (S:=fun w'=>aq w' fb X/\w'.heap[g]?=some (.cells #[bl,bz,bx,by',reads,left,.slice ra rn rc] 170)) (by kernel_rfl) ?_
 change wpAnyH _ _ _ _ _ _ _ _ (World.drew _)
 have hS:aq (World.drew w) fb X/\(World.drew w).heap[g]?=some (.cells #[bl,bz,bx,by',reads,left,.slice ra rn rc] 170):=⟨aa HF,aa HU⟩
 have hb1:Below w.heap.size w (World.drew w):=Below.drew bu;have RD1:=aa HRD (World.drew w) hb1;generalize World.drew w=w1 at hS hb1 RD1 ⊢;refine am 0 rfl fb 0 hS ?_;refine am 1 rfl fb 0 hS ?_;refine am 2 rfl fb 6 hS ?_
 refine am 3 rfl X.sb 0 hS ?_ (hy:=fun w' hw'=>by simp[go_sem,hF6 w' hw'.1])
 refine am 4 rfl g 0 hS ?_;refine am 5 rfl g 0 hS ?_;refine am 6 rfl g 4 hS ?_
 refine aH 7 rfl (.int .i64 reads) hS ?_ (hy:=fun w' hw'=>by simp[go_sem,hG4 w' hw'.2])
 refine aH 8 rfl (.int .i64 A) hS ?_;refine am 9 rfl fb 0 hS ?_;refine am 10 rfl fb 0 hS ?_;refine am 11 rfl fb 2 hS ?_
 refine aH 12 rfl (.int .i64 ch) hS ?_ (hy:=fun w' hw'=>by simp[go_sem,hF2 w' hw'.1])
 refine aV 13 ?_
 refine ou 13 rfl rfl 34 #[.pointer (some ⟨X.sb,0,none⟩),reads,A,ch] (by simp[go_sem]) _ RD1 ?_
 rintro t w2 ⟨R2,rv2,rfl,ho2,hrp,hlen,hb2⟩
 have hS2:aq w2 fb X/\w2.heap[g]?=some (.cells #[bl,bz,bx,by',reads,left,.slice ra rn rc] 170):=⟨ag hS.1 hb2,ag hS.2 hb2⟩
 refine⟨hS2,?_⟩;simp only[qZ];have hS:=hS2;have hoR2:=ho2.toR;obtain⟨qa,qn,qc,rfl⟩:=hoR2.sl;refine aH 14 rfl (.tuple #[.slice qa qn qc,()]) hS ?_;refine aH 15 rfl (.slice qa qn qc) hS ?_;refine aH 16 rfl (.int .i64 0) hS ?_;refine aH 17 rfl (.slice qa qn qc) hS ?_;refine aH 18 rfl (.int .i64 0) hS ?_
 refine wpAnyH_done (by kernel_rfl) ?_ _
 have hB2:=hb1.trans (hb2.mono hb1.size);have hoR:=(aa HO).on hB2
 obtain⟨v3,w3,r1,r2,r3,r4⟩:=apF hoR hoR2.at (by have:=hlen; omega)
 have hgne:=au hoR hS.2 (by decide)
 have hu3:=(r3.block g (an hS.2) (fun q=>hgne g q.symm rfl)).trans hS.2;have hfz6:=bi hu3 6;have c63:=(af hu3 6).trans (show _=some (Value.slice ra rn rc) from rfl);obtain⟨pa,pn,pc,rfl⟩:=r2.sl;have hu4:=dZ (i:=6) hu3 (.slice pa pn pc);have hfz5:=bi hu4 5;have c54:=(af hu4 5).trans (show _=some (Value.int .i64 left) from rfl);have hu5:=dZ (i:=5) hu4 (.int .i64 (left-1))
 have hwl:IntKind.i64.wrap (left-1)=left-1:=bG _ (by omega)
 have ho5:ah rF 66 ((w3.setCell ⟨g,6,none⟩ (.slice pa pn pc)).setCell ⟨g,5,none⟩ (.int .i64 (left-1))) (.slice pa pn pc) (R++R2):=by
  have hn3:=au r2 hu3 (by decide)
  refine(r2.same fun k hk=>Below.heap_setCell _ _ _ _ (hn3 k hk)).same fun k hk=>Below.heap_setCell _ _ _ _ (hn3 k hk)
 have hF5:aE (fun k=>k=g\/Value.ownBlock (.slice ra rn rc)=some k) w ((w3.setCell ⟨g,6,none⟩ (.slice pa pn pc)).setCell ⟨g,5,none⟩ (.int .i64 (left-1))):=
  (((aE.of_below (S:=fun k=>k=g\/Value.ownBlock (.slice ra rn rc)=some k) hB2).grown r3 (fun k hk _=>Or.inr hk)).setCell (p:=⟨g,6,none⟩) _ (fun _=>Or.inl rfl)).setCell (p:=⟨g,5,none⟩) _ (fun _=>Or.inl rfl)
 have hrp':jB FL 0 (R++R2):=(aa HP).app (by rw[<-hA] at hrp; exact hrp)
 have hlen':R2.length=min ch (FL.length-R.length):=by rw[aa HCL] at hlen; exact hlen
 have HH:Hid (∃R2 rv',((w3.setCell ⟨g,6,none⟩ (.slice pa pn pc)).setCell ⟨g,5,none⟩ (.int .i64 (left-1))).heap[g]?=some (.cells #[bl,bz,bx,by',reads,.int .i64 (left-1),rv'] 170)/\ah rF 66 ((w3.setCell ⟨g,6,none⟩ (.slice pa pn pc)).setCell ⟨g,5,none⟩ (.int .i64 (left-1))) rv' (R++R2)/\jB FL 0 (R++R2)/\R2.length=min ch (FL.length-R.length)/\(rv'.ownBlock=Value.ownBlock (.slice ra rn rc)\/∀k,rv'.ownBlock=some k->w.heap.size<=k)):=
  ⟨R2,.slice pa pn pc,hu5,ho5,hrp',hlen',by
   rcases r4 with r4|r4
   ·exact Or.inl r4
   exact Or.inr fun k hk=>by have:=r4 k hk; have:=hB2.size; omega⟩
 have HF5:=ae hF5;have c62:=(af hS.2 6).trans (show _=some (Value.slice ra rn rc) from rfl);clear hS2 hb1 hb2 RD1 ho2 hrp hlen hS hoR2 hB2 hoR r2 r3 r4 hgne hu3 hu4 hu5 ho5 hF5 hrp' hlen'
 go_wp2_with (first|(at_builtin; refine fS 62 r1 rfl _ _ rfl rfl rfl rfl ?_))
 exact bodyPost_end (results_none results91 _ _ _) rfl ⟨rfl,aa HH,aa HF5⟩
section
variable {ops:Array Oper}{rest:List Oper}{o:Oper}{a:Act}{Q:Exit->Act->World->Prop}{w:World}
theorem cU (w1:World)(hr:(execOp a.eval o).run prog w=.ok .skip w1)(hgd:o.guard=none)(h:wpList prog ops Q rest (a.put o.dst undef) w1):wpList prog ops Q (o::rest) a w:=
 wpList_plain hgd fun _ hK=>by
  unfold Oper.wp;rw[hr];exact hK _ _ h
end
theorem kO (ev:Operand->Value)(o:Oper)(x y:Operand)(ho:o.op=.store 3 x y)(g i:Nat)(n:Int)(hx:ev x=.pointer (some ⟨g,i,none⟩))(hy:ev y=.int .i64 n)(w w1:World){u:Value}(hc:w.cell? ⟨g,i,none⟩=some u)(hf:w.frozen? ⟨g,i,none⟩=false)(h1:w.setCell ⟨g,i,none⟩ (.int .i64 n)=w1):(execOp ev o).run prog w=.ok .skip w1:=by
 subst h1;unfold execOp;simp only[ho,hx,hy];simp[go_sem,hc,hf]
theorem stS1 (ev:Operand->Value)(o:Oper)(x y:Operand)(t:TypeId)(ho:o.op=.store t x y)(hz:∀w,(sizeOf t).run prog w=.ok 1 w)(fb i:Nat)(oa:Option Addr)(n c:Nat)(hx:ev x=.pointer (some ⟨fb,i,none⟩))(hy:ev y=.slice oa n c)(w w1:World){u:Value}(hc:w.cell? ⟨fb,i,none⟩=some u)(hf:w.frozen? ⟨fb,i,none⟩=false)(h1:w.setCell ⟨fb,i,none⟩ (.slice oa n c)=w1):(execOp ev o).run prog w=.ok .skip w1:=by
 subst h1;exact stS ev o x y t ho hz fb i oa n c hx hy w hc hf
theorem bt102 (bl bz bx by':Int)(ev:Operand->Value)(o:Oper)(x:Operand)(ho:o.op=.build 170 #[(0,x)])(hx:ev x=.agg #[bl,bz,bx,by'])(w:World):(execOp ev o).run prog w=.ok (.value (.agg #[bl,bz,bx,by',(),(),.slice none 0 0])) w:=by
 have hb:=run_build (P:=prog) w 170 #[(0,.agg #[bl,bz,bx,by'])] #[bl,bz,bx,by',(),(),.slice none 0 0] (by kernel_rfl)
 unfold execOp;simp[ho,hx,hb]
theorem bx102 (bl bz bx by':Int)(ev:Operand->Value)(o:Oper)(x:Operand)(ho:o.op=.box 170 x)(hx:ev x=.agg #[bl,bz,bx,by',(),(),.slice none 0 0])(w w1:World)(h1:w.alloc (.cells #[bl,bz,bx,by',(),(),.slice none 0 0] 170)=w1):(execOp ev o).run prog w=.ok (.value (.pointer (some ⟨w.heap.size,0,none⟩))) w1:=by
 subst h1;unfold execOp;simp only[ho,hx]
 kernel_rfl
theorem ah.rest {α:Type}{R:dR α}{T:TypeId}{w:World}{g off cap:Nat}{a:α}{l:List α}(h:ah R T w (.slice (some ⟨g,off,none⟩) (l.length+1) cap) (a::l)):ah R T w (.slice (some (if cap=1 then ⟨g,off,none⟩ else ⟨g,off+R.wid,none⟩)) l.length (cap-1)) l:=by
 by_cases c:cap=1
 ·subst c
  obtain⟨e,h'⟩:=ah.tail0 h;subst e;rw[if_pos rfl];exact h'
 rw[if_neg c];exact ah.tail h
theorem sl93 (ev:Operand->Value)(o:Oper)(x:Operand)(b off n cap:Nat)(ho:o.op=.slice 127 x (some (.const (.int .i64 1))) none none)(hx:ev x=.slice (some ⟨b,off,none⟩) (n+1) cap)(h1:ev (.const (.int .i64 1))=.int .i64 1)(hc:n+1<=cap)(W:World):(execOp ev o).run prog W=.ok (.value (.slice (some (if cap=1 then ⟨b,off,none⟩ else ⟨b,off+4,none⟩)) n (cap-1))) W:=by
 unfold execOp;simp only[ho,Option.map_some,Option.map_none,hx,h1]
 by_cases c:cap=1
 ·subst c
  obtain rfl:n=0:=by omega
  simp[go_sem]
 simp[go_sem,c];intro h;omega
theorem heldNow (ver:Int)(PL:List Ft)(h:0<=ver):bS 0 ver PL ver=true:=by unfold bS; simp[h]
theorem take_none (fb:Nat)(X:FV)(w:World)(hf:aq w fb X)(ho:ah bT 39 w X.lv []):
  Calls prog 90 #[.pointer (some ⟨fb,0,none⟩)] w fun e w'=>e=.returned (.pointer none)/\w=w':=by
 obtain⟨oa,cap,e,_⟩:=ho.at
 have c8:w.cell? ⟨fb,8,none⟩=some (.slice oa 0 cap):=by rw[show(Value.slice oa 0 cap)=X.lv from e.symm]; exact hf.cells.2.2.2.2.2.2.2.2.1
 clear hf ho e;go_enter func90,ntmps90
 go_wp2_with fail
 go_ret;exact⟨rfl,rfl⟩
theorem take_some (fb:Nat)(X:FV)(ver:Int)(sl pv:Value)(LS FL:List Ft)(PI:List Int)(ch:Nat)(bl bz bx by':Int)(rest:List K4)(w:World)(hf:aq w fb X)(hch:X.ch=ch)(hc:1<=ch/\ch<=8)(hs:dD w X.sb 0 ver sl pv LS (ri PI))(hl:LS.length<=1000)(hp:PI.length<6)(hver:0<=ver/\ver<=100)(hR:d8 ver LS FL)(hst:0<=X.st/\X.st<=1000000000000)(ho:ah bT 39 w X.lv (⟨bl,bz,bx,by'⟩::rest)):
  Calls prog 90 #[.pointer (some ⟨fb,0,none⟩)] w fun e w'=>e=.returned (.pointer (some ⟨w.heap.size,0,none⟩))/\w'.heap[w.heap.size]?=some (.cells #[bl,bz,bx,by',ver,.int .i64 (bB FL.length ch),.slice none 0 0] 170)/\(∃lv' pv',aq w' fb { X with lv:=lv',st:=X.st+1 }/\ah bT 39 w' lv' rest/\lv'.ownBlock=X.lv.ownBlock/\dD w' X.sb 0 ver sl pv' LS (ri (PI++[ver]))/\(pv'.ownBlock=pv.ownBlock\/∀g,pv'.ownBlock=some g->w.heap.size<=g))/\aE (fun k=>k=fb\/k=X.sb\/pv.ownBlock=some k) w w':=by
 have hlt0:=an hf;have h0:=ho
 rcases ho with⟨_,e⟩|⟨b,off,cap,cur,elv,hblk,hcap,hmax,hcs,htk⟩
 ·simp at e
 simp only[List.length_cons] at hcap elv
 have c8:w.cell? ⟨fb,8,none⟩=some (.slice (some ⟨b,off,none⟩) (rest.length+1) cap):=by rw[<-elv]; exact hf.cells.2.2.2.2.2.2.2.2.1
 have hrg:w.rangeAt b off #[.int .i64 bl,.int .i64 bz,.int .i64 bx,.int .i64 by'].toList:=by
  obtain⟨oa,cp,e1,_,_,hc0⟩:=h0.at
  obtain⟨b',off',e2,_,hc1⟩:=hc0 (by simp)
  rw[elv] at e1;cases e1;cases e2
  have:=hc1 0 ⟨bl,bz,bx,by'⟩ rfl
  rw[Nat.zero_mul,Nat.add_zero] at this;exact this
 have hsl:=sl93 (b:=b) (off:=off) (n:=rest.length) (cap:=cap)
 have hrest:=ah.rest (a:=⟨bl,bz,bx,by'⟩) (l:=rest) (R:=bT) (show ah bT 39 w (.slice (some ⟨b,off,none⟩) (rest.length+1) cap) _ by rw[<-elv]; exact h0)
 have hsab:(if cap=1 then (⟨b,off,none⟩:Addr) else ⟨b,off+4,none⟩).block=b:=by split<;>rfl
 change ah bT 39 w (.slice (some (if cap=1 then ⟨b,off,none⟩ else ⟨b,off+4,none⟩)) rest.length (cap-1)) rest at hrest
 obtain⟨sa,hsa⟩:∃sa,(if cap=1 then (⟨b,off,none⟩:Addr) else ⟨b,off+4,none⟩)=sa:=⟨_,rfl⟩
 rw[hsa] at hrest hsab hsl;have HSL:=ae hsl;clear hsl hsa
 have hbA:=(Below.refl w.heap.size w).alloc aD (.cells #[bl,bz,bx,by',(),(),.slice none 0 0] 170)
 have hfA:aq (w.alloc (.cells #[bl,bz,bx,by',(),(),.slice none 0 0] 170)) fb X:=ag hf hbA
 have hgA:=heap_alloc_new w (.cells #[bl,bz,bx,by',(),(),.slice none 0 0] 170)
 obtain⟨wA,hwA⟩:∃wA,w.alloc (.cells #[bl,bz,bx,by',(),(),.slice none 0 0] 170)=wA:=⟨_,rfl⟩
 rw[hwA] at hbA hfA hgA;have c8A:wA.cell? ⟨fb,8,none⟩=some (.slice (some ⟨b,off,none⟩) (rest.length+1) cap):=(hbA.cell (p:=⟨fb,8,none⟩) hlt0).trans c8;have fz8:=jU hfA 8
 have hne:w.heap.size≠fb:=by omega
 have hf2:=aq.set hfA 8 (.slice (some sa) rest.length (cap-1)) (FV.set_lv X _);have hg2:=(Below.heap_setCell wA ⟨fb,8,none⟩ (.slice (some sa) rest.length (cap-1)) w.heap.size hne).trans hgA;have hF2:=(aE.of_below (S:=fun k=>k=fb) hbA).setCell (p:=⟨fb,8,none⟩) (.slice (some sa) rest.length (cap-1)) (fun _=>rfl);obtain⟨w2,hw2⟩:∃w2,wA.setCell ⟨fb,8,none⟩ (.slice (some sa) rest.length (cap-1))=w2:=⟨_,rfl⟩;rw[hw2] at hf2 hg2 hF2;have fz5:=jU hf2 5;have c52:w2.cell? ⟨fb,5,none⟩=some (.int .i64 X.st):=(aq.cells hf2).2.2.2.2.2.1;have hf3:=aq.set hf2 5 (.int .i64 (X.st+1)) (FV.set_st _ _);have hg3:=(Below.heap_setCell w2 ⟨fb,5,none⟩ (.int .i64 (X.st+1)) w.heap.size hne).trans hg2;have hF3:=hF2.setCell (p:=⟨fb,5,none⟩) (.int .i64 (X.st+1)) (fun _=>rfl);obtain⟨w3,hw3⟩:∃w3,w2.setCell ⟨fb,5,none⟩ (.int .i64 (X.st+1))=w3:=⟨_,rfl⟩;rw[hw3] at hf3 hg3 hF3;have c63:w3.cell? ⟨fb,6,none⟩=some (.pointer (some ⟨X.sb,0,none⟩)):=(aq.cells hf3).2.2.2.2.2.2.1;have fz43:=bi hg3 4;have c43:w3.cell? ⟨w.heap.size,4,none⟩=some (.int .i64 0):=(af hg3 4).trans rfl
 have hg4:(w3.setCell ⟨w.heap.size,4,none⟩ (.int .i64 ver)).heap[w.heap.size]?=some (.cells #[bl,bz,bx,by',ver,(),.slice none 0 0] 170):=dZ (i:=4) hg3 (.int .i64 ver)
 have hf4:aq (w3.setCell ⟨w.heap.size,4,none⟩ (.int .i64 ver)) fb { X with lv:=(.slice (some sa) rest.length (cap-1)),st:=X.st+1 }:=(Below.heap_setCell _ _ _ _ (Ne.symm hne)).trans hf3
 have hF4:=hF3.setCell (p:=⟨w.heap.size,4,none⟩) (.int .i64 ver) (fun h=>absurd h (by show ¬w.heap.size<w.heap.size; omega))
 obtain⟨w4,hw4⟩:∃w4,w3.setCell ⟨w.heap.size,4,none⟩ (.int .i64 ver)=w4:=⟨_,rfl⟩;rw[hw4] at hf4 hg4 hF4;have hs3:=hs.fb hf hF3;have hs4:=hs.fb hf hF4
 have ho4:ah bT 39 w4 (.slice (some sa) rest.length (cap-1)) rest:=by
  have hbne:=au h0 hf (by decide) b (by rw[elv]; rfl)
  exact hrest.frm hF4 (fun k hk=>by simp[Value.ownBlock] at hk; omega)
 have VE:=dQ X.sb 0 ver sl pv LS (ri PI) _ hs3
 have hwst:IntKind.i64.wrap (X.st+1)=X.st+1:=bG _ (by omega)
 have HCAP:=ae hcap;have HF4:=ae hf4;have HG4:=ae hg4;have HS4:=ae hs4;have HO4:=ae ho4;have HFF4:=ae hF4;have HR:=ae hR;have HELV:=ae elv;have HCH:=ae hch;have HWA:=ae hwA;have HW2:=ae hw2;have HW3:=ae hw3;have HW4:=ae hw4;clear hf hs hR ho4 hs4 hs3 hf4 hg4 hF4 hF3 h0 hblk hcs htk hfA hgA elv hbA hf2 hf3 hch hcap hmax hrest hwA hw2 hw3 hw4 hg2 hg3 hF2 hne;go_enter func90,ntmps90
 go_wp2_with (first|refine bU 39 #[bl,bz,bx,by'] underlying39 rfl (bj _ _ _ _) b off hrg rfl _ rfl rfl ?_|refine cP _ _ (bt102 bl bz bx by' _ _ _ rfl rfl _) rfl ?_|refine cP _ _ (bx102 bl bz bx by' _ _ _ rfl rfl _ _ (aa HWA)) rfl ?_|refine cU _ (stS1 _ _ _ _ 127 rfl (fun _=>by simp[go_sem]) fb 8 (some sa) rest.length (cap-1) rfl rfl _ _ c8A fz8 (aa HW2)) rfl ?_|refine cP _ _ (aa HSL _ _ _ rfl rfl rfl (aa HCAP) _) rfl ?_|refine cU _ (kO _ _ _ _ rfl fb 5 (X.st+1) rfl rfl _ _ c52 fz5 (aa HW3)) rfl ?_)
 refine VE.mono ?_;rintro e w9 ⟨rfl,rfl⟩;clear VE
 go_wp2_with (refine cU _ (kO _ _ _ _ rfl w.heap.size 4 ver rfl rfl _ _ c43 fz43 (aa HW4)) rfl ?_)
 refine wp_region_held (S:=fun w'=>aq w' fb ({ X with lv:=(.slice (some sa) rest.length (cap-1)),st:=X.st+1 }:FV)/\w'.heap[w.heap.size]?=some (.cells #[bl,bz,bx,by',ver,(),.slice none 0 0] 170)) (by kernel_rfl) ?_
 change wpAnyH _ _ _ _ _ _ _ _ (World.drew _)
 have hS:aq (World.drew w4) fb ({ X with lv:=(.slice (some sa) rest.length (cap-1)),st:=X.st+1 }:FV)/\(World.drew w4).heap[w.heap.size]?=some (.cells #[bl,bz,bx,by',ver,(),.slice none 0 0] 170):=⟨aa HF4,aa HG4⟩
 have hs5:dD (World.drew w4) X.sb 0 ver sl pv LS (ri PI):=(aa HS4).on (Below.drew bu);have ho5:ah bT 39 (World.drew w4) (.slice (some sa) rest.length (cap-1)) rest:=aa HO4;have hF5:aE (fun k=>k=fb) w (World.drew w4):=⟨(aa HFF4).os,(aa HFF4).tape,(aa HFF4).output,(aa HFF4).size,(aa HFF4).block⟩;generalize World.drew w4=w5 at hS hs5 ho5 hF5 ⊢
 have PN:Calls prog 30 #[.pointer (some ⟨X.sb,0,none⟩),ver] w5 fun e w'=>e=.returned (.int .i64 0)/\(aE (fun k=>k=X.sb\/pv.ownBlock=some k) w5 w'/\∃pv',dD w' X.sb 0 ver sl pv' LS (ri (PI++[ver]))/\(pv'.ownBlock=pv.ownBlock\/∀g,pv'.ownBlock=some g->w5.heap.size<=g)):=by
  refine(Pin_any X.sb 0 ver sl pv LS PI ver w5 hs5 (fun g hg e=>by
   obtain⟨c1,d1⟩:=hs5.pins.ty hg;obtain⟨c2,d2⟩:=hs5.own.ty e
   exact aI d1 d2 (by decide) rfl) (by omega) ⟨by omega,by omega⟩ hver).mono ?_
  rintro e w' (⟨q,_⟩|⟨_,q,_⟩|⟨_,_,rfl,q1,q2⟩)
  ·rw[heldNow ver _ hver.1] at q; cases q
  ·omega
  exact⟨rfl,⟨q1.os,q1.tape,q1.output,q1.size,q1.block⟩,q2⟩
 have hF6:∀W,aq W fb ({ X with lv:=(.slice (some sa) rest.length (cap-1)),st:=X.st+1 }:FV)->W.cell? ⟨fb,6,none⟩=some (.pointer (some ⟨X.sb,0,none⟩)):=fun W h=>(aq.cells h).2.2.2.2.2.2.1
 have hG4':∀W:World,W.heap[w.heap.size]?=some (.cells #[bl,bz,bx,by',ver,(),.slice none 0 0] 170)->W.cell? ⟨w.heap.size,4,none⟩=some (.int .i64 ver):=fun W h=>(af h 4).trans rfl
 refine am 0 rfl fb 0 hS ?_;refine am 1 rfl fb 0 hS ?_;refine am 2 rfl fb 6 hS ?_
 refine am 3 rfl X.sb 0 hS ?_ (hy:=fun w' hw'=>by simp[go_sem,hF6 w' hw'.1])
 refine am 4 rfl w.heap.size 0 hS ?_;refine am 5 rfl w.heap.size 0 hS ?_;refine am 6 rfl w.heap.size 4 hS ?_
 refine aH 7 rfl (.int .i64 ver) hS ?_ (hy:=fun w' hw'=>by simp[go_sem,hG4' w' hw'.2])
 refine aV 8 ?_
 refine it 8 rfl rfl 30 #[.pointer (some ⟨X.sb,0,none⟩),ver] (by simp[go_sem]) (.int .i64 0) _ PN ?_
 rintro w6 ⟨hF6',pv',hs6,hpv⟩
 have n1:¬(fb=X.sb\/pv.ownBlock=some fb):=by
  rintro(q|q)
  ·exact aI hS.1 hs5.blk (by decide) q
  obtain⟨c1,d1⟩:=hs5.pins.ty q; exact aI d1 hS.1 (by decide) rfl
 have n2:¬(w.heap.size=X.sb\/pv.ownBlock=some w.heap.size):=by
  rintro(q|q)
  ·exact aI hS.2 hs5.blk (by decide) q
  obtain⟨c1,d1⟩:=hs5.pins.ty q; exact aI d1 hS.2 (by decide) rfl
 have hf6:aq w6 fb ({ X with lv:=(.slice (some sa) rest.length (cap-1)),st:=X.st+1 }:FV):=aQ hS.1 hF6' n1;have hg6:=aQ hS.2 hF6' n2
 have ho6:ah bT 39 w6 (.slice (some sa) rest.length (cap-1)) rest:=ho5.frm hF6' (fun k hk=>by
  rintro(q|q)
  ·subst q; exact au ho5 hs5.blk (by decide) _ hk rfl
  obtain⟨c1,d1⟩:=hs5.pins.ty q; exact au ho5 d1 (by decide) _ hk rfl)
 have hFa:aE (fun k=>k=fb\/k=X.sb\/pv.ownBlock=some k) w w6:=(hF5.mono (fun k _ q=>Or.inl q)).then hF6' (fun k _ q=>Or.inr q);have hsz5:=hF5.size;refine⟨⟨hf6,hg6⟩,?_⟩;simp only[qZ]
 refine wpAnyH_done (by kernel_rfl) ?_ _
 have ST:=steps_any fb ({ X with lv:=(.slice (some sa) rest.length (cap-1)),st:=X.st+1 }:FV) ver ver sl pv' LS (ri (PI++[ver])) FL ch w6 hf6 (aa HCH) hc hs6 hl (by rw[fI]; simp; omega) hver (heldNow ver _ hver.1) (aa HR)
 have c46:=hG4' w6 hg6;have HF6:=ae hf6;have HG6:=ae hg6;have HO6:=ae ho6;have HS6:=ae hs6;have HFa:=ae hFa;have HPV:=ae hpv;clear hS hs5 ho5 hF5 PN hF6 hG4' hF6' hs6 hpv n1 n2 hf6 hg6 ho6 hFa
 go_wp2_with fail
 refine ST.mono ?_;rintro e w7 ⟨rfl,hb7⟩;have hf7:=ag (aa HF6) hb7;have hg7:=ag (aa HG6) hb7;have fz7:=bi hg7 5;have c57:=(af hg7 5).trans (show _=some (Value.int .i64 0) from rfl)
 have hg8:(w7.setCell ⟨w.heap.size,5,none⟩ (.int .i64 (bB FL.length ch))).heap[w.heap.size]?=some (.cells #[bl,bz,bx,by',ver,.int .i64 (bB FL.length ch),.slice none 0 0] 170):=dZ (i:=5) hg7 (.int .i64 (bB FL.length ch))
 have hne7:fb≠w.heap.size:=by omega
 have hf8:aq (w7.setCell ⟨w.heap.size,5,none⟩ (.int .i64 (bB FL.length ch))) fb ({ X with lv:=(.slice (some sa) rest.length (cap-1)),st:=X.st+1 }:FV):=(Below.heap_setCell _ _ _ _ hne7).trans hf7;have hF78:aE (fun k=>k=w.heap.size) w7 (w7.setCell ⟨w.heap.size,5,none⟩ (.int .i64 (bB FL.length ch))):=(aE.rfl' _ _).setCell (p:=⟨w.heap.size,5,none⟩) _ (fun _=>rfl);have ho7:=(aa HO6).on hb7
 have ho8:=ho7.frm hF78 (fun k hk=>au ho7 hg7 (by decide) k hk)
 have hs7:=(aa HS6).on hb7
 have hs8:dD (w7.setCell ⟨w.heap.size,5,none⟩ (.int .i64 (bB FL.length ch))) X.sb 0 ver sl pv' LS (ri (PI++[ver])):=hs7.frm hF78 (aI hs7.blk hg7 (by decide)) (fun k hk=>by obtain⟨c1,d1⟩:=hs7.own.ty hk; exact aI d1 hg7 (by decide)) (fun k hk=>by obtain⟨c1,d1⟩:=hs7.pins.ty hk; exact aI d1 hg7 (by decide))
 have hF8:=((aa HFa).then (aE.of_below (S:=fun _=>False) hb7) (fun _ _ q=>q.elim)).then hF78 (fun k hk q=>by subst q; exact absurd hk (Nat.lt_irrefl _))
 have HH:Hid ((w7.setCell ⟨w.heap.size,5,none⟩ (.int .i64 (bB FL.length ch))).heap[w.heap.size]?=some (.cells #[bl,bz,bx,by',ver,.int .i64 (bB FL.length ch),.slice none 0 0] 170)/\(∃lv' pv',aq (w7.setCell ⟨w.heap.size,5,none⟩ (.int .i64 (bB FL.length ch))) fb { X with lv:=lv',st:=X.st+1 }/\ah bT 39 (w7.setCell ⟨w.heap.size,5,none⟩ (.int .i64 (bB FL.length ch))) lv' rest/\lv'.ownBlock=X.lv.ownBlock/\dD (w7.setCell ⟨w.heap.size,5,none⟩ (.int .i64 (bB FL.length ch))) X.sb 0 ver sl pv' LS (ri (PI++[ver]))/\(pv'.ownBlock=pv.ownBlock\/∀g,pv'.ownBlock=some g->w.heap.size<=g))/\aE (fun k=>k=fb\/k=X.sb\/pv.ownBlock=some k) w (w7.setCell ⟨w.heap.size,5,none⟩ (.int .i64 (bB FL.length ch)))):=by
  refine⟨hg8,⟨(.slice (some sa) rest.length (cap-1)),pv',hf8,ho8,by rw[aa HELV]; show some sa.block=some b; rw[hsab],hs8,?_⟩,hF8⟩
  rcases aa HPV with q|q
  ·exact Or.inl q
  exact Or.inr fun k hk=>by have:=q k hk; omega
 clear hb7 hf7 hg7 hg8 hf8 hF78 ho7 ho8 hs7 hs8 hF8 ST
 go_wp2_with (refine cU _ (kO _ _ _ _ rfl w.heap.size 5 (bB FL.length ch) rfl rfl _ _ c57 fz7 rfl) rfl ?_)
 go_ret;exact⟨rfl,aa HH⟩
theorem rngB {W:World}{g:Nat}{bl bz bx by' reads left:Int}{rv:Value}(h:W.heap[g]?=some (.cells #[bl,bz,bx,by',reads,left,rv] 170)):W.rangeAt g 0 #[.int .i64 bl,.int .i64 bz,.int .i64 bx,.int .i64 by'].toList:=by
 intro j v hv;rw[af h,Nat.zero_add]
 rcases j with _|_|_|_|j
 ·exact hv
 ·exact hv
 ·exact hv
 ·exact hv
 simp at hv
structure FinR (fb g:Nat)(X:FV)(room:Nat)(ver:Int)(sl:Value)(LS R:List Ft)(PI:List Int)(ws:List dJ)(ls:List K4)(cs:List aL)(b:K4)(reads:Int)(w:World)(rv:Value)(w':World):Prop where
 reps:ah bE 103 w' rv (dI ver LS (b.keys.map (bR R LS reads)) reads ws)
 repf:∀k,rv.ownBlock=some k->w.heap.size<=k
 rest:∃wv' lv' tv' pv',aq w' fb { X with wv:=wv',lv:=lv',tv:=tv' }/\ah cW 201 w' wv' (cN ver LS (b.keys.map (bR R LS reads)) reads ws)/\ah aW 196 w' tv' (cR ver LS room reads cs (b.keys.map (bR R LS reads))) /\
  ah bT 39 w' lv' (if 0<aC (cN ver LS (b.keys.map (bR R LS reads)) reads ws) b then ls++[b] else ls)/\dD w' X.sb 0 ver sl pv' LS (ri (PI.erase reads)) /\
  (∀k,wv'.ownBlock=some k->w.heap.size<=k)/\(∀k,tv'.ownBlock=some k->X.tv.ownBlock=some k\/w.heap.size<=k)/\(∀k,lv'.ownBlock=some k->X.lv.ownBlock=some k\/w.heap.size<=k)/\(∀k,pv'.ownBlock=some k->w.heap.size<=k)
 frm:aE (fun k=>k=fb\/k=X.sb\/X.lv.ownBlock=some k) w w'
theorem finish_any (fb : Nat) (X : FV) (room : Nat) (ver : Int) (sl pv : Value) (LS R : List Ft) (PI : List Int) (ws : List dJ) (ls : List K4) (cs : List aL) (g : Nat) (bl bz bx by' reads left : Int) (rv : Value) (w : World) (hf : aq w fb X) (hrm : X.rm = room) (hro : room ≤ 1000000) (hs : dD w X.sb 0 ver sl pv LS (ri PI)) (hl : LS.length ≤ 1000) (hk : ∀ k ∈ (⟨bl, bz, bx, by'⟩ : K4).keys, dy k) (hx : 0 ≤ bx ∧ bx ≤ 4194304) (hy : 0 ≤ by' ∧ by' ≤ 4194304) (hv : 0 ≤ reads ∧ reads ≤ ver) (hver : ver ≤ 100) (hg : Glb w)
    (hp : PI.length ≤ 6) (hin : reads ∈ PI) (hu : w.heap[g]? = some (.cells #[bl, bz, bx, by', reads, left, rv] 170)) (hoR : ah rF 66 w rv R) (hR40 : R.length ≤ 40) (hRt : ∀ i, i < R.length → Rt (gf R i)) (how : ah cW 201 w X.wv ws) (hkw : ∀ r ∈ ws, dy r.k) (hol : ah bT 39 w X.lv ls) (hot : ah aW 196 w X.tv cs) (hlw : ws.length ≤ 100000) (hll : ls.length ≤ 100000) (hlc : cs.length ≤ 1000) (hbc : aA cs ≤ 1000000) :
    Calls prog 92 #[.pointer (some ⟨fb, 0, none⟩), .pointer (some ⟨g, 0, none⟩)] w fun e w' => ∃ v, e = .returned v ∧ FinR fb g X room ver sl LS R PI ws ls cs ⟨bl, bz, bx, by'⟩ reads w v w' := by
  have PT := paint_any fb X ver sl pv LS (ri PI) R g bl bz bx by' reads left rv w hf hs hl hk hx hy hv hver hg hu hoR.at.fs hR40 hRt
  have hkt : ∀ t ∈ (⟨bl, bz, bx, by'⟩ : K4).keys.map (bR R LS reads), dy t.k ∧ t.body.size ≤ 1000000 := by
    intro t ht
    obtain ⟨k, hk1, rfl⟩ := List.mem_map.1 ht
    have := gu hRt k
    exact ⟨hk k hk1, by show (cg R k).size ≤ _; omega⟩
  have hlk : ((⟨bl, bz, bx, by'⟩ : K4).keys.map (bR R LS reads)).length ≤ 1000 := by have := keys_len ⟨bl, bz, bx, by'⟩; rw [List.length_map]; omega
  have HF := ae hf
  have HS := ae hs
  have HU := ae hu
  have HOW := ae how
  have HOL := ae hol
  have HOT := ae hot
  have HKW := ae hkw
  have HKT := ae hkt
  have HRM := ae hrm
  have hltf := an hf
  have hltg := an hu
  clear hf hs hu how hol hot hkw hkt hg hoR hk hrm
  generalize hTS : (⟨bl, bz, bx, by'⟩ : K4).keys.map (bR R LS reads) = ts at PT HKT hlk
  have HTS := ae hTS
  clear hTS
  go_enter func92, ntmps92
  go_wp2_with fail
  refine PT.mono ?_
  rintro e w1 ⟨⟨tsv, rfl, hots, hfts⟩, hb1⟩
  have hf1 := ag (aa HF) hb1
  have hu1 := ag (aa HU) hb1
  have hs1 := (aa HS).on hb1
  have HB1 := ae hb1
  have HOTS := ae hots
  have HFTS := ae hfts
  obtain ⟨ta, tn, tc, rfl⟩ := hots.sl
  clear PT hb1 hots hfts
  go_wp2_with fail
  refine wp_region_held (S := fun w' => aq w' fb X ∧ w'.heap[g]? = some (.cells #[bl, bz, bx, by', reads, left, rv] 170)) (by kernel_rfl) ?_
  change wpAnyH _ _ _ _ _ _ _ _ (World.drew _)
  have hS : aq (World.drew w1) fb X ∧ (World.drew w1).heap[g]? = some (.cells #[bl, bz, bx, by', reads, left, rv] 170) := ⟨hf1, hu1⟩
  have hbD : Below w1.heap.size w1 (World.drew w1) := Below.drew bu
  have hs2 := hs1.on hbD
  have hB2 := (aa HB1).trans (hbD.mono (aa HB1).size)
  have hots2 := (aa HOTS).on hbD
  generalize World.drew w1 = w2 at hS hs2 hB2 hots2 hbD ⊢
  have UN : Calls prog 32 #[.pointer (some ⟨X.sb, 0, none⟩), reads] w2 fun e w' => e = .returned (.int .i64 0) ∧ (aE (fun k => k = X.sb) w2 w' ∧ ∃ pv', dD w' X.sb 0 ver sl pv' LS (ri (PI.erase reads)) ∧ ∀ q, pv'.ownBlock = some q → w2.heap.size ≤ q) := by
    refine (Unpin_any X.sb 0 ver sl pv LS PI reads w2 hs2 hp).mono ?_
    rintro e w' (⟨q, _⟩ | ⟨_, rfl, q1, q2⟩)
    · exact absurd hin q
    · exact ⟨rfl, ⟨q1.os, q1.tape, q1.output, q1.size, q1.block⟩, q2⟩
  have hF6 : ∀ W, aq W fb X → W.cell? ⟨fb, 6, none⟩ = some (.pointer (some ⟨X.sb, 0, none⟩)) := fun W h => (aq.cells h).2.2.2.2.2.2.1
  have hG4 : ∀ W : World, W.heap[g]? = some (.cells #[bl, bz, bx, by', reads, left, rv] 170) → W.cell? ⟨g, 4, none⟩ = some (.int .i64 reads) := fun W h => (af h 4).trans rfl
  refine am 0 rfl fb 0 hS ?_
  refine am 1 rfl fb 0 hS ?_
  refine am 2 rfl fb 6 hS ?_
  refine am 3 rfl X.sb 0 hS ?_ (hy := fun w' hw' => by simp [go_sem, hF6 w' hw'.1])
  refine am 4 rfl g 0 hS ?_
  refine am 5 rfl g 0 hS ?_
  refine am 6 rfl g 4 hS ?_
  refine aH 7 rfl (.int .i64 reads) hS ?_ (hy := fun w' hw' => by simp [go_sem, hG4 w' hw'.2])
  refine aV 8 ?_
  refine it 8 rfl rfl 32 #[.pointer (some ⟨X.sb, 0, none⟩), reads] (by simp [go_sem]) (.int .i64 0) _ UN ?_
  rintro w3 ⟨hF3, pv3, hs3, hpv3⟩
  have hf3 : aq w3 fb X := aQ hS.1 hF3 (aI hS.1 hs2.blk (by decide))
  have hu3 := aQ hS.2 hF3 (aI hS.2 hs2.blk (by decide))
  have hots3 := hots2.frm hF3 (fun k hk => au hots2 hs2.blk (by decide) k hk)
  have how2 := (aa HOW).on hB2
  have hol2 := (aa HOL).on hB2
  have hot2 := (aa HOT).on hB2
  have how3 := how2.frm hF3 (fun k hk => au how2 hs2.blk (by decide) k hk)
  have hol3 := hol2.frm hF3 (fun k hk => au hol2 hs2.blk (by decide) k hk)
  have hot3 := hot2.frm hF3 (fun k hk => au hot2 hs2.blk (by decide) k hk)
  have hFw3 : aE (fun k => k = fb ∨ k = X.sb ∨ X.lv.ownBlock = some k) w w3 := (aE.of_below hB2).then hF3 (fun k _ q => Or.inr (Or.inl q))
  have hsz3 : w.heap.size ≤ w3.heap.size := hFw3.size
  have hpv3' : ∀ q, pv3.ownBlock = some q → w.heap.size ≤ q := fun q hq => by have := hpv3 q hq; have := hB2.size; omega
  refine ⟨⟨hf3, hu3⟩, ?_⟩
  simp only [qZ]
  refine wpAnyH_done (by kernel_rfl) ?_ _
  have AF := mB fb X ver sl pv3 LS (ri (PI.erase reads)) ws (.slice ta tn tc) ts reads w3 hf3 hs3 hl (by omega) how3 (aa HKW) hots3.at (by omega)
  have c43 := hG4 w3 hu3
  have H3 := ae (show aq w3 fb X ∧ w3.heap[g]? = some (.cells #[bl, bz, bx, by', reads, left, rv] 170) ∧ ah aW 196 w3 (.slice ta tn tc) ts ∧ ah bT 39 w3 X.lv ls ∧ ah aW 196 w3 X.tv cs ∧ dD w3 X.sb 0 ver sl pv3 LS (ri (PI.erase reads)) ∧ aE (fun k => k = fb ∨ k = X.sb ∨ X.lv.ownBlock = some k) w w3 from ⟨hf3, hu3, hots3, hol3, hot3, hs3, hFw3⟩)
  have HPV3 := ae hpv3'
  have HG4 := ae hG4
  clear hf1 hu1 hs1 hS hs2 hB2 hots2 hbD UN hF6 hF3 hs3 hpv3 hf3 hu3 hots3 how2 hol2 hot2 how3 hol3 hot3 hFw3 hpv3' hG4
  go_wp2_with fail
  refine AF.mono ?_
  rintro e w4 ⟨⟨rpv, rfl, hrp, hrpf⟩, ⟨wv4, hf4, how4, hwvf⟩, hF4⟩
  obtain ⟨a1, a2, a3, a4, a5, a6, a7⟩ := aa H3
  have hu4 := aQ a2 hF4 (aI a2 a1 (by decide))
  have hots4 := a3.frm hF4 (fun k hk => au a3 a1 (by decide) k hk)
  have hol4 := a4.frm hF4 (fun k hk => au a4 a1 (by decide) k hk)
  have hot4 := a5.frm hF4 (fun k hk => au a5 a1 (by decide) k hk)
  have hs4 := a6.fb a1 hF4
  have hFw4 := a7.then hF4 (fun k _ q => Or.inl q)
  have LU := kq fb { X with wv := wv4 } room ver reads sl pv3 LS (ri (PI.erase reads)) cs ts (.slice ta tn tc) w4 hf4 (aa HRM) hs4 hl (by omega) hot4 hots4 (aa HKT) hlc hlk hbc hro
  have c44 := aa HG4 w4 hu4
  obtain ⟨ra, rn, rc, rfl⟩ := hrp.sl
  have H4 := ae (show aq w4 fb { X with wv := wv4 } ∧ w4.heap[g]? = some (.cells #[bl, bz, bx, by', reads, left, rv] 170) ∧ ah bE 103 w4 (.slice ra rn rc) (dI ver LS ts reads ws) ∧ ah bT 39 w4 X.lv ls ∧ ah cW 201 w4 wv4 (cN ver LS ts reads ws) ∧ dD w4 X.sb 0 ver sl pv3 LS (ri (PI.erase reads)) ∧ aE (fun k => k = fb ∨ k = X.sb ∨ X.lv.ownBlock = some k) w w4 from ⟨hf4, hu4, hrp, hol4, how4, hs4, hFw4⟩)
  have HRPF := ae (show ∀ k, Value.ownBlock (.slice ra rn rc) = some k → w.heap.size ≤ k from fun k hk => by have := hrpf k hk; omega)
  have HWVF := ae (show ∀ k, wv4.ownBlock = some k → w.heap.size ≤ k from fun k hk => by have := hwvf k hk; omega)
  have hsz4 := hF4.size
  clear AF c43 H3 a1 a2 a3 a4 a5 a6 a7 hrp hrpf hf4 how4 hwvf hF4 hu4 hots4 hol4 hot4 hs4 hFw4
  go_wp2_with fail
  refine LU.mono ?_
  rintro e w5 ⟨rfl, ⟨tv5, hf5, hot5, htvf⟩, hF5⟩
  obtain ⟨a1, a2, a3, a4, a5, a6, a7⟩ := aa H4
  have hu5 := aQ a2 hF5 (aI a2 a1 (by decide))
  have hrp5 := a3.frm hF5 (fun k hk => au a3 a1 (by decide) k hk)
  have hol5 := a4.frm hF5 (fun k hk => au a4 a1 (by decide) k hk)
  have how5 := a5.frm hF5 (fun k hk => au a5 a1 (by decide) k hk)
  have hs5 := a6.fb a1 hF5
  have hFw5 := a7.then hF5 (fun k _ q => Or.inl q)
  have hsm : ∀ r ∈ cN ver LS ts reads ws, bP r.k := fun r hr => (aa HKW r (List.mem_filter.1 hr).1).small
  have CF := fe fb { X with wv := wv4, tv := tv5 } _ bl bz bx by' w5 hf5 how5.at hsm (by have := nN (ver := ver) (LS := LS) (ts := ts) (reads := reads) (ws := ws); omega)
  have hrgb := rngB hu5
  have H5 := ae (show aq w5 fb { X with wv := wv4, tv := tv5 } ∧ w5.heap[g]? = some (.cells #[bl, bz, bx, by', reads, left, rv] 170) ∧ ah bE 103 w5 (.slice ra rn rc) (dI ver LS ts reads ws) ∧ ah bT 39 w5 X.lv ls ∧ ah cW 201 w5 wv4 (cN ver LS ts reads ws) ∧ dD w5 X.sb 0 ver sl pv3 LS (ri (PI.erase reads)) ∧ ah aW 196 w5 tv5 (cR ver LS room reads cs ts) ∧ aE (fun k => k = fb ∨ k = X.sb ∨ X.lv.ownBlock = some k) w w5 from ⟨hf5, hu5, hrp5, hol5, how5, hs5, hot5, hFw5⟩)
  have HTVF := ae (show ∀ k, tv5.ownBlock = some k → X.tv.ownBlock = some k ∨ w.heap.size ≤ k from fun k hk => (htvf k hk).elim Or.inl fun q => by right; omega)
  clear LU c44 H4 a1 a2 a3 a4 a5 a6 a7 hf5 hot5 htvf hF5 hu5 hrp5 hol5 how5 hs5 hFw5 hsm
  go_wp2_with (refine bU 39 #[bl, bz, bx, by'] underlying39 rfl (bj _ _ _ _) g 0 hrgb rfl _ rfl rfl ?_)
  refine CF.mono ?_
  rintro e w6 ⟨rfl, hb6⟩
  obtain ⟨a1, a2, a3, a4, a5, a6, a8, a7⟩ := aa H5
  have hf6 := ag a1 hb6
  have hu6 := ag a2 hb6
  have hrp6 := a3.on hb6
  have hol6 := a4.on hb6
  have how6 := a5.on hb6
  have hs6 := a6.on hb6
  have hot6 := a8.on hb6
  have hFw6 := a7.then (aE.of_below (S := fun _ => False) hb6) (fun _ _ q => q.elim)
  clear CF hrgb H5 a1 a2 a3 a4 a5 a6 a7 a8 hb6
  by_cases hpos : 0 < aC (cN ver LS ts reads ws) ⟨bl, bz, bx, by'⟩
  · have hpi : (0 : Int) < (aC (cN ver LS ts reads ws) ⟨bl, bz, bx, by'⟩ : Int) := by omega
    have H6 := ae (show aq w6 fb ({ X with wv := wv4, tv := tv5 } : FV) ∧ w6.heap[g]? = some (.cells #[bl, bz, bx, by', reads, left, rv] 170) ∧ ah bE 103 w6 (.slice ra rn rc) (dI ver LS ts reads ws) ∧ ah bT 39 w6 X.lv ls ∧ ah cW 201 w6 wv4 (cN ver LS ts reads ws) ∧ dD w6 X.sb 0 ver sl pv3 LS (ri (PI.erase reads)) ∧ ah aW 196 w6 tv5 (cR ver LS room reads cs ts) ∧ aE (fun k => k = fb ∨ k = X.sb ∨ X.lv.ownBlock = some k) w w6 from ⟨hf6, hu6, hrp6, hol6, how6, hs6, hot6, hFw6⟩)
    have HPOS := ae hpos
    clear hf6 hu6 hrp6 hol6 how6 hs6 hot6 hFw6 hpos
    go_wp2_with fail
    obtain ⟨hf6, hu6, hrp6, hol6, how6, hs6, hot6, hFw6⟩ := aa H6
    refine wp_region_held (S := fun w' => w'.heap[g]? = some (.cells #[bl, bz, bx, by', reads, left, rv] 170)) (by kernel_rfl) ?_
    change wpAnyH _ _ _ _ _ _ _ _ (World.drew _)
    have hbD : Below w6.heap.size w6 (World.drew w6) := Below.drew bu
    have hS : (World.drew w6).heap[g]? = some (.cells #[bl, bz, bx, by', reads, left, rv] 170) := hu6
    have hf7 : aq (World.drew w6) fb ({ X with wv := wv4, tv := tv5 } : FV) := hf6
    have hrp7 := hrp6.on hbD
    have hol7 := hol6.on hbD
    have how7 := how6.on hbD
    have hs7 := hs6.on hbD
    have hot7 := hot6.on hbD
    have hF7 := hFw6.then (aE.of_below (S := fun _ => False) hbD) (fun _ _ q => q.elim)
    generalize World.drew w6 = w7 at hS hf7 hrp7 hol7 how7 hs7 hot7 hF7 hbD ⊢
    clear hf6 hu6 hrp6 hol6 how6 hs6 hot6 hFw6 hbD
    have hfl : fb < w7.heap.size := an hf7
    have c8 : w7.cell? ⟨fb, 8, none⟩ = some X.lv := (af hf7 8).trans rfl
    have hbA := (Below.refl w7.heap.size w7).alloc aD (.cells #[bl, bz, bx, by'] 39)
    have hSA := ag hS hbA
    have hfA := ag hf7 hbA
    have c8A := (hbA.cell (p := ⟨fb, 8, none⟩) hfl).trans c8
    have hat := aZ bT 39 w7 ⟨bl, bz, bx, by'⟩ #[bl, bz, bx, by'] rfl
    have holA := hol7.on hbA
    have hrpA := hrp7.on hbA
    have howA := how7.on hbA
    have hsA := hs7.on hbA
    have hotA := hot7.on hbA
    obtain ⟨v4, w8, r1, r2, r3, r4⟩ := apKey holA hat (by simp; omega)
    have hS8 := (r3.block g (an hSA) (fun q => au holA hSA (by decide) g q.symm rfl)).trans hSA
    have hf8 : aq w8 fb ({ X with wv := wv4, tv := tv5 } : FV) := (r3.block fb (an hfA) (fun q => au holA hfA (by decide) fb q.symm rfl)).trans hfA
    have hrp8 := hrpA.same (w' := w8) fun k hk => r3.block k (hrpA.lt hk) (fun q => by
      obtain ⟨c1, d1⟩ := holA.ty q.symm
      exact au hrpA d1 (by decide) k hk rfl)
    have how8 := howA.same (w' := w8) fun k hk => r3.block k (howA.lt hk) (fun q => by
      obtain ⟨c1, d1⟩ := holA.ty q.symm
      exact au howA d1 (by decide) k hk rfl)
    have hot8 := hotA.same (w' := w8) fun k hk => r3.block k (hotA.lt hk) (fun q => by
      obtain ⟨c1, d1⟩ := holA.ty q.symm
      exact au hotA d1 (by decide) k hk rfl)
    have hF8a : aE (fun k => X.lv.ownBlock = some k) (w7.alloc (.cells #[bl, bz, bx, by'] 39)) w8 := (aE.rfl' _ _).grown r3 (fun k hk _ => hk)
    have hs8 := hsA.frm hF8a (fun q => au holA hsA.blk (by decide) X.sb q rfl) (fun k hk q => by obtain ⟨c1, d1⟩ := hsA.own.ty hk; exact au holA d1 (by decide) k q rfl) (fun k hk q => by obtain ⟨c1, d1⟩ := hsA.pins.ty hk; exact au holA d1 (by decide) k q rfl)
    have hF8 := (hF7.then (aE.of_below (S := fun _ => False) hbA) (fun _ _ q => q.elim)).then hF8a (fun k _ q => Or.inr (Or.inr q))
    have hfz := jU hf8 8
    have c88 : w8.cell? ⟨fb, 8, none⟩ = some X.lv := (af hf8 8).trans rfl
    obtain ⟨oa4, n4, k4, rfl⟩ := r2.sl
    have hF89 : aE (fun k => k = fb) w8 (w8.setCell ⟨fb, 8, none⟩ (.slice oa4 n4 k4)) := (aE.rfl' _ _).setCell (p := ⟨fb, 8, none⟩) _ (fun _ => rfl)
    have hf9 := aq.set hf8 8 (.slice oa4 n4 k4) (FV.set_lv ({ X with wv := wv4, tv := tv5 } : FV) _)
    have hS9 := aQ hS8 hF89 (aI hS8 hf8 (by decide))
    have hsz7 : w.heap.size ≤ w7.heap.size := hF7.size
    have HH : Hid (FinR fb g X room ver sl LS R PI ws ls cs ⟨bl, bz, bx, by'⟩ reads w (.slice ra rn rc) (w8.setCell ⟨fb, 8, none⟩ (.slice oa4 n4 k4))) := by
      refine ⟨?_, aa HRPF, ⟨wv4, .slice oa4 n4 k4, tv5, pv3, hf9, ?_, ?_, ?_, hs8.fb hf8 hF89, aa HWVF, aa HTVF, fun k hk => ?_, aa HPV3⟩, hF8.then hF89 (fun k _ q => Or.inl q)⟩
      · rw [aa HTS]; exact hrp8.frm hF89 (fun k hk => au hrp8 hf8 (by decide) k hk)
      · rw [aa HTS]; exact how8.frm hF89 (fun k hk => au how8 hf8 (by decide) k hk)
      · rw [aa HTS]; exact hot8.frm hF89 (fun k hk => au hot8 hf8 (by decide) k hk)
      · rw [aa HTS, if_pos (aa HPOS)]; exact r2.frm hF89 (fun k hk => au r2 hf8 (by decide) k hk)
      · rcases r4 with q | q
        · exact Or.inl (q ▸ hk)
        · right; have := q k hk; simp at this; omega
    refine am 0 rfl fb 0 hS ?_
    refine am 1 rfl fb 0 hS ?_
    refine am 2 rfl fb 0 hS ?_
    refine am 3 rfl fb 8 hS ?_
    refine am 5 rfl g 0 hS ?_
    refine am 6 rfl g 0 hS ?_
    refine am 7 rfl g 0 hS ?_
    refine aH 8 rfl (.agg #[bl, bz, bx, by']) hS ?_ (hy := fun w' hw' => jT _ _ _ 39 rfl _ rfl _ underlying39 rfl (bj _ _ _ _) g 0 rfl _ (rngB hw'))
    refine wpAnyH_all (rs := [4, 9]) (by kernel_rfl) (by simp) ?_
    intro i hi
    simp only [List.mem_cons, List.not_mem_nil, or_false] at hi
    rcases hi with rfl | rfl
    · refine bI 4 rfl rfl (X.lv) (w7) (by simp [go_sem, c8]) (hS) ?_
      simp only [qZ]
      refine aV 9 ?_
      refine bI 9 rfl rfl (.slice (some ⟨w7.heap.size, 0, none⟩) 1 1) (w7.alloc (.cells #[bl, bz, bx, by'] 39)) (mt bl bz bx by' _ _ _ rfl rfl _) (hSA) ?_
      simp only [qZ]
      refine aV 10 ?_
      refine bI 10 rfl rfl (.slice oa4 n4 k4) (w8) (exR 127 r1 _ _ _ _ rfl rfl rfl rfl) (hS8) ?_
      simp only [qZ]
      refine am 11 rfl fb 0 hS8 ?_
      refine am 12 rfl fb 8 hS8 ?_
      refine aV 13 ?_
      refine cL 13 rfl rfl (w8.setCell ⟨fb, 8, none⟩ (.slice oa4 n4 k4)) (stS _ _ _ _ 127 rfl (fun _ => by simp [go_sem]) fb 8 oa4 n4 k4 rfl rfl w8 c88 hfz) (hS9) ?_
      simp only [Act.put]
      refine wpAnyH_done (by kernel_rfl) ?_ _
      clear hS hf7 hrp7 hol7 how7 hs7 hot7 hF7 c8 hbA hSA hfA c8A hat holA hrpA howA hsA hotA r1 r2 r3 r4 hS8 hf8 hrp8 how8 hot8 hF8a hs8 hF8 hfz c88 hF89 hf9 hS9 H6
      go_wp2_with fail
      go_ret
      exact ⟨_, rfl, aa HH⟩
    · refine bI 9 rfl rfl (.slice (some ⟨w7.heap.size, 0, none⟩) 1 1) (w7.alloc (.cells #[bl, bz, bx, by'] 39)) (mt bl bz bx by' _ _ _ rfl rfl _) (hSA) ?_
      simp only [qZ]
      refine aV 4 ?_
      refine bI 4 rfl rfl (X.lv) (w7.alloc (.cells #[bl, bz, bx, by'] 39)) (by simp [go_sem, c8A]) (hSA) ?_
      simp only [qZ]
      refine aV 10 ?_
      refine bI 10 rfl rfl (.slice oa4 n4 k4) (w8) (exR 127 r1 _ _ _ _ rfl rfl rfl rfl) (hS8) ?_
      simp only [qZ]
      refine am 11 rfl fb 0 hS8 ?_
      refine am 12 rfl fb 8 hS8 ?_
      refine aV 13 ?_
      refine cL 13 rfl rfl (w8.setCell ⟨fb, 8, none⟩ (.slice oa4 n4 k4)) (stS _ _ _ _ 127 rfl (fun _ => by simp [go_sem]) fb 8 oa4 n4 k4 rfl rfl w8 c88 hfz) (hS9) ?_
      simp only [Act.put]
      refine wpAnyH_done (by kernel_rfl) ?_ _
      clear hS hf7 hrp7 hol7 how7 hs7 hot7 hF7 c8 hbA hSA hfA c8A hat holA hrpA howA hsA hotA r1 r2 r3 r4 hS8 hf8 hrp8 how8 hot8 hF8a hs8 hF8 hfz c88 hF89 hf9 hS9 H6
      go_wp2_with fail
      go_ret
      exact ⟨_, rfl, aa HH⟩
  · have hpi : ¬ (0 : Int) < (aC (cN ver LS ts reads ws) ⟨bl, bz, bx, by'⟩ : Int) := by omega
    have HH : Hid (FinR fb g X room ver sl LS R PI ws ls cs ⟨bl, bz, bx, by'⟩ reads w (.slice ra rn rc) w6) := by
      refine ⟨?_, aa HRPF, ⟨wv4, X.lv, tv5, pv3, hf6, ?_, ?_, ?_, hs6, aa HWVF, aa HTVF, fun k hk => Or.inl hk, aa HPV3⟩, hFw6⟩
      · rw [aa HTS]; exact hrp6
      · rw [aa HTS]; exact how6
      · rw [aa HTS]; exact hot6
      · rw [aa HTS, if_neg hpos]; exact hol6
    clear hf6 hu6 hrp6 hol6 how6 hs6 hot6 hFw6 hpos
    go_wp2_with fail
    go_ret
    exact ⟨_, rfl, aa HH⟩
theorem bt138 (who l z x y a d:Int)(ev:Operand->Value)(o:Oper)(p q r s:Operand)(ho:o.op=.build 201 #[(0,p),(1,q),(2,r),(3,s)])(h1:ev p=.int .i64 who)(h2:ev q=.agg #[l,z,x,y])(h3:ev r=.int .i64 a)(h4:ev s=.int .i64 d)(w:World):(execOp ev o).run prog w=.ok (.value (.agg #[who,l,z,x,y,a,d])) w:=by
 have hb:=run_build (P:=prog) w 201 #[(0,.int .i64 who),(1,.agg #[l,z,x,y]),(2,.int .i64 a),(3,.int .i64 d)] #[who,l,z,x,y,a,d] (by kernel_rfl)
 unfold execOp;simp[ho,h1,h2,h3,h4,hb]
theorem f8.frm {w w':World}{kv:Value}{W:List (Option Wk)}{S:Nat->Prop}(h:f8 w kv W)(hf:aE S w w')(h1:∀k,kv.ownBlock=some k->¬S k)(h2:∀(i:Nat) (u:Wk),W[i]?=some (some u)->¬S u.g):f8 w' kv W:=by
 refine⟨?_,fun i u hu=>aQ (h.at_ i u hu) hf (h2 i u hu)⟩;obtain⟨oa,cap,e,a1,a2,a3⟩:=h.kv;refine⟨oa,cap,e,a1,a2,fun hn=>?_⟩;obtain⟨b,off,e',hlt,hc⟩:=a3 hn;refine⟨b,off,e',Nat.lt_of_lt_of_le hlt hf.size,fun i a hi j x hx=>?_⟩
 rw[World.cell?_of_block (a:=⟨b,off+i*fK.wid+j,none⟩) (hf.block b hlt (h1 b (by rw[e,e']; rfl)))]
 exact hc i a hi j x hx
def l6 (ls:List K4)(W:List (Option Wk))(b:K4):List K4:=if (ls.any (fun k=>decide (k=b)) || hasW W b) then ls else ls++[b]
theorem join_any (fb:Nat)(X:FV)(ver:Int)(sl pv:Value)(LS PL:List Ft)(ws:List dJ)(ls:List K4)(W:List (Option Wk))(who l z x y:Int)(w:World)(hf:aq w fb X)(hs:dD w X.sb 0 ver sl pv LS PL)(how:ah cW 201 w X.wv ws)(hol:ah bT 39 w X.lv ls)(hok:ah fK 166 w X.kv (W.map (Option.map Wk.g)))(hwk:f8 w X.kv W)(hx:0<=x/\x<=4194304)(hy:0<=y/\y<=4194304)
  (hd:0<=X.nw/\X.nw<=1000000000000/\0<=X.wt/\X.wt<=1000) (hlw:ws.length<=100000) (hll:ls.length<=100000) (hlk:W.length<=100) :
  Calls prog 83 #[.pointer (some ⟨fb,0,none⟩),who,.agg #[l,z,x,y]] w fun e w'=>e=.returned (.tuple #[])/\(∃wv' lv',aq w' fb { X with wv:=wv',lv:=lv' }/\ah cW 201 w' wv' (ws++[⟨who,⟨l,z,x,y⟩,ver,X.nw+X.wt⟩])/\ah bT 39 w' lv' (l6 ls W ⟨l,z,x-x%2,y-y%2⟩) /\
   (∀k,wv'.ownBlock=some k->X.wv.ownBlock=some k\/w.heap.size<=k)/\(∀k,lv'.ownBlock=some k->X.lv.ownBlock=some k\/w.heap.size<=k))/\aE (fun k=>k=fb\/X.wv.ownBlock=some k\/X.lv.ownBlock=some k) w w':=by
 have hlt0:=an hf;have hb0:=(Below.refl w.heap.size w).alloc aD (.cells #[l,z,x,y] 39);have hA:=heap_alloc_new w (.cells #[l,z,x,y] 39)
 have hz0:(w.alloc (.cells #[l,z,x,y] 39)).heap.size=w.heap.size+1:=by simp
 have hf1:aq (w.alloc (.cells #[l,z,x,y] 39)) fb X:=ag hf hb0;have hs1:=hs.on hb0;have how1:=how.on hb0;have hol1:=hol.on hb0;have hok1:=hok.on hb0;have hwk1:=hwk.on hb0;obtain⟨w1,hw1⟩:∃w1,w.alloc (.cells #[l,z,x,y] 39)=w1:=⟨_,rfl⟩;rw[hw1] at hb0 hA hz0 hf1 hs1 how1 hol1 hok1 hwk1;have c6:w1.cell? ⟨fb,6,none⟩=some (.pointer (some ⟨X.sb,0,none⟩)):=(aq.cells hf1).2.2.2.2.2.2.1;have VE:=dQ X.sb 0 ver sl pv LS PL w1 hs1
 have hbx:∀(ev:Operand->Value) (o:Oper) (p:Operand),o.op=.box 39 p->ev p=.agg #[l,z,x,y]->(execOp ev o).run prog w=.ok (.value (.pointer (some ⟨w.heap.size,0,none⟩))) w1:=by
  intro ev o p ho hp;rw[<-hw1];unfold execOp;simp only[ho,hp]
  kernel_rfl
 have H1:=ae (show aq w1 fb X/\w1.heap[w.heap.size]?=some (.cells #[l,z,x,y] 39)/\ah cW 201 w1 X.wv ws/\ah bT 39 w1 X.lv ls/\ah fK 166 w1 X.kv (W.map (Option.map Wk.g))/\f8 w1 X.kv W/\Below w.heap.size w w1 from⟨hf1,hA,how1,hol1,hok1,hwk1,hb0⟩);have HBX:=ae hbx;have hlw0:∀k,X.lv.ownBlock=some k->k<w.heap.size:=fun k hk=>hol.lt hk;have HLW:=ae hlw0;clear hf hs how hol hok hwk hb0 hA hf1 hs1 how1 hol1 hok1 hwk1 hw1 hbx hlw0;go_enter func83,ntmps83
 go_wp2_with (refine cP _ _ (aa HBX _ _ _ rfl rfl) rfl ?_)
 refine VE.mono ?_;rintro e w9 ⟨rfl,rfl⟩;clear VE c6
 go_wp2_with fail
 obtain⟨hf1,hA,how1,hol1,hok1,hwk1,hb0⟩:=aa H1
 refine wp_region_held (S:=fun w'=>(w'.cell? ⟨fb,3,none⟩=some (.int .i64 X.nw)/\w'.cell? ⟨fb,1,none⟩=some (.int .i64 X.wt))/\w'.heap[w.heap.size]?=some (.cells #[l,z,x,y] 39)) (by kernel_rfl) ?_
 change wpAnyH _ _ _ _ _ _ _ _ (World.drew _);have hbD:Below w1.heap.size w1 (World.drew w1):=Below.drew bu;have hA3:(World.drew w1).heap[w.heap.size]?=some (.cells #[l,z,x,y] 39):=hA;have hf3:aq (World.drew w1) fb X:=hf1;have how3:=how1.on hbD;have hol3:=hol1.on hbD;have hok3:=hok1.on hbD;have hwk3:=hwk1.on hbD;have hb3:=hb0.trans (hbD.mono hb0.size)
 have hz3:w.heap.size+1<=(World.drew w1).heap.size:=by have:=hbD.size; omega
 generalize World.drew w1=w3 at hA3 hf3 how3 hol3 hok3 hwk3 hb3 hz3 hbD ⊢;clear hf1 hA how1 hol1 hok1 hwk1 hb0 hbD;have hS:(w3.cell? ⟨fb,3,none⟩=some (.int .i64 X.nw)/\w3.cell? ⟨fb,1,none⟩=some (.int .i64 X.wt))/\w3.heap[w.heap.size]?=some (.cells #[l,z,x,y] 39):=⟨⟨(aq.cells hf3).2.2.2.1,(aq.cells hf3).2.1⟩,hA3⟩;have c7:w3.cell? ⟨fb,7,none⟩=some X.wv:=(af hf3 7).trans rfl;have hbA:=(Below.refl w3.heap.size w3).alloc aD (.cells #[who,l,z,x,y,ver,.int .i64 (X.nw+X.wt)] 201);have hfA:aq (w3.alloc (.cells #[who,l,z,x,y,ver,.int .i64 (X.nw+X.wt)] 201)) fb X:=ag hf3 hbA;have hAA:=ag hA3 hbA;have hSA:((w3.alloc (.cells #[who,l,z,x,y,ver,.int .i64 (X.nw+X.wt)] 201)).cell? ⟨fb,3,none⟩=some (.int .i64 X.nw)/\(w3.alloc (.cells #[who,l,z,x,y,ver,.int .i64 (X.nw+X.wt)] 201)).cell? ⟨fb,1,none⟩=some (.int .i64 X.wt))/\(w3.alloc (.cells #[who,l,z,x,y,ver,.int .i64 (X.nw+X.wt)] 201)).heap[w.heap.size]?=some (.cells #[l,z,x,y] 39):=⟨⟨(aq.cells hfA).2.2.2.1,(aq.cells hfA).2.1⟩,hAA⟩;have c7A:(w3.alloc (.cells #[who,l,z,x,y,ver,.int .i64 (X.nw+X.wt)] 201)).cell? ⟨fb,7,none⟩=some X.wv:=(af hfA 7).trans rfl;have hat:=aZ cW 201 w3 ⟨who,⟨l,z,x,y⟩,ver,X.nw+X.wt⟩ #[who,l,z,x,y,ver,.int .i64 (X.nw+X.wt)] rfl;have howA:=how3.on hbA;have holA:=hol3.on hbA;have hokA:=hok3.on hbA;have hwkA:=hwk3.on hbA
 obtain⟨v4,w4,r1,r2,r3,r4⟩:=apReq howA hat (by simp; omega)
 have hFa:aE (fun k=>X.wv.ownBlock=some k) (w3.alloc (.cells #[who,l,z,x,y,ver,.int .i64 (X.nw+X.wt)] 201)) w4:=(aE.rfl' _ _).grown r3 (fun k hk _=>hk)
 have hf4:aq w4 fb X:=aQ hfA hFa (fun q=>au howA hfA (by decide) fb q rfl)
 have hA4:=aQ hAA hFa (fun q=>au howA hAA (by decide) _ q rfl)
 have hol4:=holA.frm hFa (fun k hk q=>by obtain⟨c1,d1⟩:=howA.ty q; exact au holA d1 (by decide) k hk rfl)
 have hok4:=hokA.frm hFa (fun k hk q=>by obtain⟨c1,d1⟩:=howA.ty q; exact au hokA d1 (by decide) k hk rfl)
 have hwk4:=hwkA.frm hFa (fun k hk q=>by obtain⟨c1,d1⟩:=howA.ty q; exact au hokA d1 (by decide) k hk rfl) (fun i u hu q=>au howA (hwkA.at_ i u hu) (by decide) u.g q rfl)
 have hS4:(w4.cell? ⟨fb,3,none⟩=some (.int .i64 X.nw)/\w4.cell? ⟨fb,1,none⟩=some (.int .i64 X.wt))/\w4.heap[w.heap.size]?=some (.cells #[l,z,x,y] 39):=⟨⟨(aq.cells hf4).2.2.2.1,(aq.cells hf4).2.1⟩,hA4⟩;have c74:w4.cell? ⟨fb,7,none⟩=some X.wv:=(af hf4 7).trans rfl;have hfz:=jU hf4 7;obtain⟨oa4,n4,k4,rfl⟩:=r2.sl;have hF45:aE (fun k=>k=fb) w4 (w4.setCell ⟨fb,7,none⟩ (.slice oa4 n4 k4)):=(aE.rfl' _ _).setCell (p:=⟨fb,7,none⟩) _ (fun _=>rfl);have hf5:=aq.set hf4 7 (.slice oa4 n4 k4) (FV.set_wv X _)
 have hA5:=aQ hA4 hF45 (aI hA4 hf4 (by decide))
 have hS5:((w4.setCell ⟨fb,7,none⟩ (.slice oa4 n4 k4)).cell? ⟨fb,3,none⟩=some (.int .i64 X.nw)/\(w4.setCell ⟨fb,7,none⟩ (.slice oa4 n4 k4)).cell? ⟨fb,1,none⟩=some (.int .i64 X.wt))/\(w4.setCell ⟨fb,7,none⟩ (.slice oa4 n4 k4)).heap[w.heap.size]?=some (.cells #[l,z,x,y] 39):=⟨⟨(aq.cells hf5).2.2.2.1,(aq.cells hf5).2.1⟩,hA5⟩
 have how5:=r2.frm hF45 (fun k hk=>au r2 hf4 (by decide) k hk)
 have hol5:=hol4.frm hF45 (fun k hk=>au hol4 hf4 (by decide) k hk)
 have hwk5:=hwk4.frm hF45 (fun k hk=>au hok4 hf4 (by decide) k hk) (fun i u hu=>aI (hwk4.at_ i u hu) hf4 (by decide))
 have hFw5:aE (fun k=>k=fb\/X.wv.ownBlock=some k\/X.lv.ownBlock=some k) w (w4.setCell ⟨fb,7,none⟩ (.slice oa4 n4 k4)):=(((aE.of_below hb3).then (aE.of_below (S:=fun _=>False) hbA) (fun _ _ q=>q.elim)).then hFa (fun k _ q=>Or.inr (Or.inl q))).then hF45 (fun k _ q=>Or.inl q)
 have hwvf:∀k,Value.ownBlock (.slice oa4 n4 k4)=some k->X.wv.ownBlock=some k\/w.heap.size<=k:=fun k hk=>by
  rcases r4 with q|q
  ·exact Or.inl (q▸hk)
  right; have:=q k hk; simp at this; omega
 have hdw:IntKind.i64.wrap (X.nw+X.wt)=X.nw+X.wt:=bG _ (by omega)
 obtain⟨w5,hw5⟩:∃w5,w4.setCell ⟨fb,7,none⟩ (.slice oa4 n4 k4)=w5:=⟨_,rfl⟩;rw[hw5] at hf5 hA5 hS5 how5 hol5 hwk5 hFw5;have H5:=ae (show aq w5 fb { X with wv:=.slice oa4 n4 k4 }/\w5.heap[w.heap.size]?=some (.cells #[l,z,x,y] 39)/\ah cW 201 w5 (.slice oa4 n4 k4) (ws++[⟨who,⟨l,z,x,y⟩,ver,X.nw+X.wt⟩])/\ah bT 39 w5 X.lv ls/\f8 w5 X.kv W/\aE (fun k=>k=fb\/X.wv.ownBlock=some k\/X.lv.ownBlock=some k) w w5 from⟨hf5,hA5,how5,hol5,hwk5,hFw5⟩);have HWVF:=ae hwvf;clear hf5 hA5 how5 hol5 hwk5 hFw5 hwvf hol4 hok4 hwk4 hF45 hFa holA hokA hwkA;refine am 0 rfl fb 0 hS ?_;refine am 1 rfl fb 0 hS ?_;refine am 2 rfl fb 0 hS ?_;refine am 3 rfl fb 7 hS ?_;refine aH 5 rfl (.int .i64 who) hS ?_;refine aH 6 rfl (.agg #[l,z,x,y]) hS ?_ (hy:=fun w' hw'=>jT _ _ _ 39 rfl _ rfl _ underlying39 rfl (bj _ _ _ _) w.heap.size 0 rfl _ (ao hw'.2));refine aH 7 rfl (.int .i64 ver) hS ?_;refine am 8 rfl fb 0 hS ?_;refine am 9 rfl fb 0 hS ?_;refine am 10 rfl fb 3 hS ?_
 refine aH 11 rfl (.int .i64 X.nw) hS ?_ (hy:=fun w' hw'=>by simp[go_sem,hw'.1.1])
 refine am 12 rfl fb 0 hS ?_;refine am 13 rfl fb 0 hS ?_;refine am 14 rfl fb 1 hS ?_
 refine aH 15 rfl (.int .i64 X.wt) hS ?_ (hy:=fun w' hw'=>by simp[go_sem,hw'.1.2])
 refine aH 16 rfl (.int .i64 (X.nw+X.wt)) hS ?_ (hy:=fun w' hw'=>by simp[go_sem,hdw])
 refine aH 17 rfl (.agg #[who,l,z,x,y,ver,.int .i64 (X.nw+X.wt)]) hS ?_ (hy:=fun w' hw'=>bt138 who l z x y ver (X.nw+X.wt) _ _ _ _ _ _ rfl rfl rfl rfl rfl _)
 refine wpAnyH_all (rs:=[4,18]) (by kernel_rfl) (by simp) ?_
 intro i hi;simp only[List.mem_cons,List.not_mem_nil,or_false] at hi
 rcases hi with rfl|rfl
 case' inl=>
  refine bI 4 rfl rfl (X.wv) (w3) (by simp[go_sem,c7]) (hS) ?_
  simp only[qZ];refine aV 18 ?_;refine bI 18 rfl rfl (.slice (some ⟨w3.heap.size,0,none⟩) 1 1) (w3.alloc (.cells #[who,l,z,x,y,ver,.int .i64 (X.nw+X.wt)] 201)) (bsReq who l z x y ver (X.nw+X.wt) _ _ _ rfl rfl _) (hSA) ?_
 case' inr=>
  refine bI 18 rfl rfl (.slice (some ⟨w3.heap.size,0,none⟩) 1 1) (w3.alloc (.cells #[who,l,z,x,y,ver,.int .i64 (X.nw+X.wt)] 201)) (bsReq who l z x y ver (X.nw+X.wt) _ _ _ rfl rfl _) (hSA) ?_;simp only[qZ];refine aV 4 ?_
  refine bI 4 rfl rfl (X.wv) (w3.alloc (.cells #[who,l,z,x,y,ver,.int .i64 (X.nw+X.wt)] 201)) (by simp[go_sem,c7A]) (hSA) ?_
 all_goals
  simp only[qZ];refine aV 19 ?_;refine bI 19 rfl rfl (.slice oa4 n4 k4) (w4) (exR 126 r1 _ _ _ _ rfl rfl rfl rfl) (hS4) ?_;simp only[qZ];refine am 20 rfl fb 0 hS4 ?_;refine am 21 rfl fb 7 hS4 ?_;refine aV 22 ?_
  refine cL 22 rfl rfl (w5) (stS1 _ _ _ _ 126 rfl (fun _=>by simp[go_sem]) fb 7 oa4 n4 k4 rfl rfl w4 w5 c74 hfz hw5) (hS5) ?_
  simp only[Act.put]
  refine wpAnyH_done (by kernel_rfl) ?_ _
  clear hS hA3 hf3 how3 hol3 hok3 hwk3 hb3 hz3 c7 hbA hfA hAA hSA c7A hat howA r1 r2 r3 r4 hf4 hA4 hS4 c74 hfz hS5 hdw hw5;obtain⟨hf5,hA5,how5,hol5,hwk5,hFw5⟩:=aa H5;have hrg5:w5.rangeAt w.heap.size 0 #[.int .i64 l,.int .i64 z,.int .i64 x,.int .i64 y].toList:=ao hA5
  have BL:=kL l z x y w5 ⟨hx.1,by omega⟩ ⟨hy.1,by omega⟩
  clear hf5 hA5 how5 hol5 hwk5 hFw5
  go_wp2_with (refine bU 39 #[l,z,x,y] underlying39 rfl (bj _ _ _ _) w.heap.size 0 hrg5 rfl _ rfl rfl ?_)
  refine BL.mono ?_;rintro e w6 ⟨rfl,hb6⟩;obtain⟨hf5,hA5,how5,hol5,hwk5,hFw5⟩:=aa H5;have hb7:=hb6.trans ((Below.refl w5.heap.size w6).alloc hb6.size (.cells #[l,z,.int .i64 (x-x%2),.int .i64 (y-y%2)] 39));have hG7:=heap_alloc_new w6 (.cells #[l,z,.int .i64 (x-x%2),.int .i64 (y-y%2)] 39);have hf7:aq (w6.alloc (.cells #[l,z,.int .i64 (x-x%2),.int .i64 (y-y%2)] 39)) fb { X with wv:=.slice oa4 n4 k4 }:=ag hf5 hb7;have how7:=how5.on hb7;have hol7:=hol5.on hb7;have hwk7:=hwk5.on hb7;have hFw7:=hFw5.then (aE.of_below (S:=fun _=>False) hb7) (fun _ _ q=>q.elim)
  have hGw:w.heap.size<=w6.heap.size:=by have:=hFw5.size; have:=hb6.size; omega
  have HFL:=m8 fb { X with wv:=.slice oa4 n4 k4 } ls W l z (x-x%2) (y-y%2) (w6.alloc (.cells #[l,z,.int .i64 (x-x%2),.int .i64 (y-y%2)] 39)) hf7 hol7.at hwk7 (by omega) hlk
  obtain⟨Bo,hBo⟩:∃Bo,(ls.any (fun k=>decide (k=(⟨l,z,x-x%2,y-y%2⟩:K4))) || hasW W ⟨l,z,x-x%2,y-y%2⟩)=Bo:=⟨_,rfl⟩;rw[hBo] at HFL;have HBB:=ae hBo;clear hBo;have H7:=ae (show aq (w6.alloc (.cells #[l,z,.int .i64 (x-x%2),.int .i64 (y-y%2)] 39)) fb { X with wv:=.slice oa4 n4 k4 }/\(w6.alloc (.cells #[l,z,.int .i64 (x-x%2),.int .i64 (y-y%2)] 39)).heap[w6.heap.size]?=some (.cells #[l,z,.int .i64 (x-x%2),.int .i64 (y-y%2)] 39)/\ah cW 201 (w6.alloc (.cells #[l,z,.int .i64 (x-x%2),.int .i64 (y-y%2)] 39)) (.slice oa4 n4 k4) (ws++[⟨who,⟨l,z,x,y⟩,ver,X.nw+X.wt⟩])/\ah bT 39 (w6.alloc (.cells #[l,z,.int .i64 (x-x%2),.int .i64 (y-y%2)] 39)) X.lv ls/\aE (fun k=>k=fb\/X.wv.ownBlock=some k\/X.lv.ownBlock=some k) w (w6.alloc (.cells #[l,z,.int .i64 (x-x%2),.int .i64 (y-y%2)] 39)) from⟨hf7,hG7,how7,hol7,hFw7⟩);clear BL hrg5 hf5 hA5 how5 hol5 hwk5 hFw5 hb6 hb7 hG7 hf7 how7 hol7 hwk7 hFw7 H5
  go_wp2_with fail
  refine HFL.mono ?_;rintro e w8 ⟨rfl,hb8⟩;obtain⟨hf7,hG7,how7,hol7,hFw7⟩:=aa H7;have hf8:=ag hf7 hb8;have hG8:=ag hG7 hb8;have how8:=how7.on hb8;have hol8:=hol7.on hb8;have hFw8:=hFw7.then (aE.of_below (S:=fun _=>False) hb8) (fun _ _ q=>q.elim);clear HFL hf7 hG7 how7 hol7 hFw7 hb8 H7
  cases Bo with
  | true=>
   have HH:Hid ((∃wv' lv',aq w8 fb { X with wv:=wv',lv:=lv' }/\ah cW 201 w8 wv' (ws++[⟨who,⟨l,z,x,y⟩,ver,X.nw+X.wt⟩])/\ah bT 39 w8 lv' (l6 ls W ⟨l,z,x-x%2,y-y%2⟩)/\(∀k,wv'.ownBlock=some k->X.wv.ownBlock=some k\/w.heap.size<=k)/\(∀k,lv'.ownBlock=some k->X.lv.ownBlock=some k\/w.heap.size<=k))/\aE (fun k=>k=fb\/X.wv.ownBlock=some k\/X.lv.ownBlock=some k) w w8):=
    ⟨⟨.slice oa4 n4 k4,X.lv,hf8,how8,by unfold l6; rw[aa HBB]; exact hol8,aa HWVF,fun k hk=>Or.inl hk⟩,hFw8⟩
   clear hf8 hG8 how8 hol8 hFw8
   go_wp2_with fail
   exact bodyPost_end (results_none results83 _ _ _) rfl ⟨rfl,aa HH⟩
  | false=>
   have H8:=ae (show aq w8 fb { X with wv:=.slice oa4 n4 k4 }/\w8.heap[w6.heap.size]?=some (.cells #[l,z,.int .i64 (x-x%2),.int .i64 (y-y%2)] 39)/\ah cW 201 w8 (.slice oa4 n4 k4) (ws++[⟨who,⟨l,z,x,y⟩,ver,X.nw+X.wt⟩])/\ah bT 39 w8 X.lv ls/\aE (fun k=>k=fb\/X.wv.ownBlock=some k\/X.lv.ownBlock=some k) w w8 from⟨hf8,hG8,how8,hol8,hFw8⟩);clear hf8 hG8 how8 hol8 hFw8
   go_wp2_with fail
   obtain⟨hf8,hG8,how8,hol8,hFw8⟩:=aa H8
   refine wp_region_held (S:=fun w'=>w'.heap[w6.heap.size]?=some (.cells #[l,z,.int .i64 (x-x%2),.int .i64 (y-y%2)] 39)) (by kernel_rfl) ?_
   change wpAnyH _ _ _ _ _ _ _ _ (World.drew _);have hbD:Below w8.heap.size w8 (World.drew w8):=Below.drew bu;have hS:(World.drew w8).heap[w6.heap.size]?=some (.cells #[l,z,.int .i64 (x-x%2),.int .i64 (y-y%2)] 39):=hG8;have hfq:aq (World.drew w8) fb { X with wv:=.slice oa4 n4 k4 }:=hf8;have howq:=how8.on hbD;have holq:=hol8.on hbD;have hFq:=hFw8.then (aE.of_below (S:=fun _=>False) hbD) (fun _ _ q=>q.elim);generalize World.drew w8=wq at hS hfq howq holq hFq hbD ⊢;clear hf8 hG8 how8 hol8 hFw8 hbD H8;have hfl:fb<wq.heap.size:=an hfq;have c8:wq.cell? ⟨fb,8,none⟩=some X.lv:=(af hfq 8).trans rfl;have hbA:=(Below.refl wq.heap.size wq).alloc aD (.cells #[l,z,.int .i64 (x-x%2),.int .i64 (y-y%2)] 39);have hSA:=ag hS hbA;have hfA:aq (wq.alloc (.cells #[l,z,.int .i64 (x-x%2),.int .i64 (y-y%2)] 39)) fb _:=ag hfq hbA;have c8A:=(hbA.cell (p:=⟨fb,8,none⟩) hfl).trans c8;have hat:=aZ bT 39 wq ⟨l,z,x-x%2,y-y%2⟩ #[l,z,.int .i64 (x-x%2),.int .i64 (y-y%2)] rfl;have holA:=holq.on hbA;have howA:=howq.on hbA
   obtain⟨v9,w9,r1,r2,r3,r4⟩:=apKey holA hat (by simp; omega)
   have hFa:aE (fun k=>X.lv.ownBlock=some k) (wq.alloc (.cells #[l,z,.int .i64 (x-x%2),.int .i64 (y-y%2)] 39)) w9:=(aE.rfl' _ _).grown r3 (fun k hk _=>hk)
   have hS9:=aQ hSA hFa (fun q=>by have:=aa HLW _ q; omega)
   have hf9:aq w9 fb { X with wv:=.slice oa4 n4 k4 }:=aQ hfA hFa (fun q=>au holA hfA (by decide) fb q rfl)
   have how9:=howA.frm hFa (fun k hk q=>by obtain⟨c1,d1⟩:=holA.ty q; exact au howA d1 (by decide) k hk rfl)
   have c89:w9.cell? ⟨fb,8,none⟩=some X.lv:=(af hf9 8).trans rfl;have hfz:=jU hf9 8;obtain⟨oa9,n9,k9,rfl⟩:=r2.sl;have hF90:aE (fun k=>k=fb) w9 (w9.setCell ⟨fb,8,none⟩ (.slice oa9 n9 k9)):=(aE.rfl' _ _).setCell (p:=⟨fb,8,none⟩) _ (fun _=>rfl);have hf0:=aq.set hf9 8 (.slice oa9 n9 k9) (FV.set_lv _ _)
   have hS0:=aQ hS9 hF90 (aI hS9 hf9 (by decide))
   have hFq0:=hFq.size
   have HH:Hid ((∃wv' lv',aq (w9.setCell ⟨fb,8,none⟩ (.slice oa9 n9 k9)) fb { X with wv:=wv',lv:=lv' }/\ah cW 201 (w9.setCell ⟨fb,8,none⟩ (.slice oa9 n9 k9)) wv' (ws++[⟨who,⟨l,z,x,y⟩,ver,X.nw+X.wt⟩])/\ah bT 39 (w9.setCell ⟨fb,8,none⟩ (.slice oa9 n9 k9)) lv' (l6 ls W ⟨l,z,x-x%2,y-y%2⟩)/\(∀k,wv'.ownBlock=some k->X.wv.ownBlock=some k\/w.heap.size<=k)/\(∀k,lv'.ownBlock=some k->X.lv.ownBlock=some k\/w.heap.size<=k))/\aE (fun k=>k=fb\/X.wv.ownBlock=some k\/X.lv.ownBlock=some k) w (w9.setCell ⟨fb,8,none⟩ (.slice oa9 n9 k9))):=by
    refine⟨⟨.slice oa4 n4 k4,.slice oa9 n9 k9,hf0,how9.frm hF90 (fun k hk=>au how9 hf9 (by decide) k hk),?_,aa HWVF,fun k hk=>?_⟩,((hFq.then (aE.of_below (S:=fun _=>False) hbA) (fun _ _ q=>q.elim)).then hFa (fun k _ q=>Or.inr (Or.inr q))).then hF90 (fun k _ q=>Or.inl q)⟩
    ·unfold l6; rw[aa HBB]; exact r2.frm hF90 (fun k hk=>au r2 hf9 (by decide) k hk)
    rcases r4 with q|q
    ·exact Or.inl (q▸hk)
    right; have:=q k hk; simp at this; omega
   refine am 0 rfl fb 0 hS ?_;refine am 1 rfl fb 0 hS ?_;refine am 2 rfl fb 0 hS ?_;refine am 3 rfl fb 8 hS ?_;refine aH 5 rfl (.agg #[l,z,.int .i64 (x-x%2),.int .i64 (y-y%2)]) hS ?_ (hy:=fun w' hw'=>jT _ _ _ 39 rfl _ rfl _ underlying39 rfl (bj _ _ _ _) w6.heap.size 0 rfl _ (ao hw'))
   refine wpAnyH_all (rs:=[4,6]) (by kernel_rfl) (by simp) ?_
   intro i hi;simp only[List.mem_cons,List.not_mem_nil,or_false] at hi
   rcases hi with rfl|rfl
   focus
    refine bI 4 rfl rfl (X.lv) (wq) (by simp[go_sem,c8]) (hS) ?_
    simp only[qZ];refine aV 6 ?_;refine bI 6 rfl rfl (.slice (some ⟨wq.heap.size,0,none⟩) 1 1) (wq.alloc (.cells #[l,z,.int .i64 (x-x%2),.int .i64 (y-y%2)] 39)) (mt l z (x-x%2) (y-y%2) _ _ _ rfl rfl _) (hSA) ?_
   rotate_left
   focus
    refine bI 6 rfl rfl (.slice (some ⟨wq.heap.size,0,none⟩) 1 1) (wq.alloc (.cells #[l,z,.int .i64 (x-x%2),.int .i64 (y-y%2)] 39)) (mt l z (x-x%2) (y-y%2) _ _ _ rfl rfl _) (hSA) ?_;simp only[qZ];refine aV 4 ?_
    refine bI 4 rfl rfl (X.lv) (wq.alloc (.cells #[l,z,.int .i64 (x-x%2),.int .i64 (y-y%2)] 39)) (by simp[go_sem,c8A]) (hSA) ?_
   all_goals
    simp only[qZ];refine aV 7 ?_;refine bI 7 rfl rfl (.slice oa9 n9 k9) (w9) (exR 127 r1 _ _ _ _ rfl rfl rfl rfl) (hS9) ?_;simp only[qZ];refine am 8 rfl fb 0 hS9 ?_;refine am 9 rfl fb 8 hS9 ?_;refine aV 10 ?_
    refine cL 10 rfl rfl (w9.setCell ⟨fb,8,none⟩ (.slice oa9 n9 k9)) (stS _ _ _ _ 127 rfl (fun _=>by simp[go_sem]) fb 8 oa9 n9 k9 rfl rfl w9 c89 hfz) (hS0) ?_
    simp only[Act.put]
    refine wpAnyH_done (by kernel_rfl) ?_ _
    clear hS hfq howq holq hFq hfl c8 hbA hSA hfA c8A hat holA howA r1 r2 r3 r4 hFa hS9 hf9 how9 c89 hfz hF90 hf0 hS0 hFq0
    go_wp2_with fail
    exact bodyPost_end (results_none results83 _ _ _) rfl ⟨rfl,aa HH⟩
theorem stR (ev:Operand->Value)(o:Oper)(x y:Operand)(ty:TypeId)(ho:o.op=.store ty x y)(cs old:Array Value)(hi:(prog.info? ty).map (·.size)=some cs.size)(h1:cs.all (·.oneCell')=true)(hs:old.size=cs.size)(g:Nat)(hx:ev x=.pointer (some ⟨g,0,none⟩))(hy:ev y=.agg cs)(w:World)(hg:w.heap[g]?=some (.cells old ty (0,0))):(execOp ev o).run prog w=.ok .skip (w.setRow g cs):=by
 unfold execOp;simp only[ho,hx,hy,Instr.storeAt,Instr.sureAddr,Sem.run_bind,Sem.run_pure,Result.andThen_ok,run_storeVar_row w g ty ty old cs hg hi hs h1]
theorem aE.setRow {S:Nat->Prop}{a b:World}(h:aE S a b){g:Nat}(cs:Array Value)(hg:a.heap.size<=g):aE S a (b.setRow g cs):=by
 have hb:=aK (Below.refl g b) aD cs
 exact⟨hb.os.trans h.os,hb.tape.trans h.tape,hb.output.trans h.output,Nat.le_trans h.size hb.size,fun k hk hs=>(setRow_other (by omega) cs).trans (h.block k hk hs)⟩
theorem bytes_eq {a b:ByteArray}(h:a.toList=b.toList):a=b:=by
 rw[ByteArray.toList_eq,ByteArray.toList_eq] at h;exact ByteArray.ext (Array.toList_inj.1 h)
theorem ki (n s:Int)(b t:ByteArray):(prog.info? 103).map (·.size)=some (#[Value.int .i64 n,Value.int .i64 s,Value.string b,Value.string t]:Array Value).size:=by kernel_rfl
theorem gh (n s:Int)(b t:ByteArray):(#[Value.int .i64 n,Value.int .i64 s,Value.string b,Value.string t]:Array Value).all (·.oneCell')=true:=by simp[Value.oneCell']
def OnR (fb:Nat)(X:FV)(ver:Int)(LS:List Ft)(ws:List dJ)(ts:List aL)(k:K4)(tag:ByteArray)(w:World)(e:Ending)(w':World):Prop:=
 ∃(r:gD) (b:Bool),e=.returned (.tuple #[.agg r.a,b]) /\
  ((tag=du k (eA ver k LS)/\b=true/\r=⟨0,304,⟨#[]⟩,tag⟩/\Below w.heap.size w w') \/
   (tag≠du k (eA ver k LS)/\∃t,cS ts k=some t/\b=true/\r=⟨0,200,t.body,t.tag⟩/\(∃tv',aq w' fb { X with tv:=tv' }/\ah aW 196 w' tv' (bm ts t.k++[t])/\∀g,tv'.ownBlock=some g->w.heap.size<=g)/\aE (fun k=>k=fb) w w') \/
   (tag≠du k (eA ver k LS)/\cS ts k=none/\X.q<=ws.length/\b=true/\r=⟨0,503,⟨#[]⟩,⟨#[]⟩⟩/\Below w.heap.size w w') \/
   (tag≠du k (eA ver k LS)/\cS ts k=none/\¬X.q<=ws.length/\b=false/\r=⟨0,0,⟨#[]⟩,⟨#[]⟩⟩/\Below w.heap.size w w'))
theorem atOnce_any (fb:Nat)(X:FV)(ver:Int)(sl pv:Value)(LS PL:List Ft)(ws:List dJ)(ts:List aL)(l z x y:Int)(tag:ByteArray)(w:World)(hf:aq w fb X)(hs:dD w X.sb 0 ver sl pv LS PL)(hl:LS.length<=1000)(hk:dy ⟨l,z,x,y⟩)(hver:0<=ver/\ver<=100)(hg:Glb w)(how:ah cW 201 w X.wv ws)(hot:ah aW 196 w X.tv ts)(hlt:ts.length<=1000000):
  Calls prog 82 #[.pointer (some ⟨fb,0,none⟩),.agg #[l,z,x,y],tag] w fun e w'=>OnR fb X ver LS ws ts ⟨l,z,x,y⟩ tag w e w':=by
 have hlt0:=an hf
 have hwl:∃oa cap,X.wv=.slice oa ws.length cap:=by obtain⟨oa,cap,e,_⟩:=how.at; exact⟨oa,cap,e⟩
 obtain⟨wa,wc,hwv⟩:=hwl
 have hwn:ws.length<=9223372036854775807:=by have:=how.len_le; unfold maxLen at this; omega
 obtain⟨w1,hw1⟩:∃w1,w.alloc (.cells #[l,z,x,y] 39)=w1:=⟨_,rfl⟩;obtain⟨w2,hw2⟩:∃w2,w1.alloc (.cells #[(),(),.string ⟨#[]⟩,.string ⟨#[]⟩] 103)=w2:=⟨_,rfl⟩;have hb1:Below w.heap.size w w1:=hw1▸(Below.refl w.heap.size w).alloc aD (.cells #[l,z,x,y] 39);have hb2:Below w.heap.size w w2:=hw2▸hb1.alloc hb1.size (.cells #[(),(),.string ⟨#[]⟩,.string ⟨#[]⟩] 103);have hA1:w1.heap[w.heap.size]?=some (.cells #[l,z,x,y] 39):=hw1▸heap_alloc_new w (.cells #[l,z,x,y] 39)
 have hz1:w1.heap.size=w.heap.size+1:=by rw[<-hw1]; simp
 have hz2:w2.heap.size=w1.heap.size+1:=by rw[<-hw2]; simp
 have hA2:w2.heap[w.heap.size]?=some (.cells #[l,z,x,y] 39):=hw2▸(heap_alloc_old w1 (.cells #[(),(),.string ⟨#[]⟩,.string ⟨#[]⟩] 103) (by omega)).trans hA1
 have hB2:w2.heap[w1.heap.size]?=some (.cells #[(),(),.string ⟨#[]⟩,.string ⟨#[]⟩] 103):=hw2▸heap_alloc_new w1 (.cells #[(),(),.string ⟨#[]⟩,.string ⟨#[]⟩] 103);have hf2:aq w2 fb X:=ag hf hb2;have hs2:=hs.on hb2;have c6:w2.cell? ⟨fb,6,none⟩=some (.pointer (some ⟨X.sb,0,none⟩)):=(aq.cells hf2).2.2.2.2.2.2.1;have VE:=dQ X.sb 0 ver sl pv LS PL w2 hs2
 have TG:=nr fb X ver ver sl pv LS PL l z x y w2 hf2 hs2 hl hk ⟨hver.1,by omega⟩ hver.2 (hg.on hb2)
 have hbx:∀(ev:Operand->Value) (o:Oper) (p:Operand),o.op=.box 39 p->ev p=.agg #[l,z,x,y]->(execOp ev o).run prog w=.ok (.value (.pointer (some ⟨w.heap.size,0,none⟩))) w1:=by
  intro ev o p ho hp;rw[<-hw1];unfold execOp;simp only[ho,hp]
  kernel_rfl
 have hal:∀(ev:Operand->Value) (o:Oper),o.op=.alloc 103->(execOp ev o).run prog w1=.ok (.value (.pointer (some ⟨w1.heap.size,0,none⟩))) w2:=by
  intro ev o ho;rw[<-hw2];unfold execOp;simp only[ho]
  kernel_rfl
 have HBX:=ae hbx;have HAL:=ae hal;have hrk2:w2.rangeAt w.heap.size 0 #[.int .i64 l,.int .i64 z,.int .i64 x,.int .i64 y].toList:=ao hA2;have how2:=how.on hb2;have hot2:=hot.on hb2;have H2:=ae (show aq w2 fb X/\w2.heap[w.heap.size]?=some (.cells #[l,z,x,y] 39)/\w2.heap[w1.heap.size]?=some (.cells #[(),(),.string ⟨#[]⟩,.string ⟨#[]⟩] 103)/\ah aW 196 w2 X.tv ts/\Below w.heap.size w w2 from⟨hf2,hA2,hB2,hot2,hb2⟩);have HWV:=ae hwv;generalize hg2:w1.heap.size=g2 at *
 have hzg:w.heap.size<=g2:=by omega
 have HZ1:=ae hz1;clear hz1 hz2 hf hs how hot hb1 hb2 hA1 hA2 hB2 hf2 hs2 hbx hal how2 hot2 hw1 hw2 hg hg2 hwv;generalize hpt:du ⟨l,z,x,y⟩ (eA ver ⟨l,z,x,y⟩ LS)=pt at TG;have HPT:=ae hpt;clear hpt;go_enter func82,ntmps82
 go_wp2_with (first|refine cP _ _ (aa HBX _ _ _ rfl rfl) rfl ?_|refine cP _ _ (aa HAL _ _ rfl) rfl ?_)
 refine VE.mono ?_;rintro e w9 ⟨rfl,rfl⟩;clear VE c6
 go_wp2_with (refine bU 39 #[l,z,x,y] underlying39 rfl (bj _ _ _ _) w.heap.size 0 hrk2 rfl _ rfl rfl ?_)
 refine TG.mono ?_;rintro e w3 ⟨rfl,hb3⟩;obtain⟨hf2,hA2,hB2,hot2,hb2⟩:=aa H2;have hf3:aq w3 fb X:=ag hf2 hb3;have hA3:=ag hA2 hb3;have hB3:=ag hB2 hb3;have hot3:=hot2.on hb3;have hb03:=hb2.trans (hb3.mono hb2.size);clear TG hrk2 H2 HBX HAL hf2 hA2 hB2 hot2 hb2 hb3
 by_cases htg:tag=pt
 ·subst htg
  have hS1:=setRow_heap _ _ _ (#[(),(304:Int),.string ⟨#[]⟩,tag]) _ _ hB3
  have hbS:=aK hb03 (show w.heap.size<=g2 by omega) (#[(),(304:Int),.string ⟨#[]⟩,tag])
  have HS1:=ae hS1;have HBS:=ae hbS;clear hS1 hbS hb03
  go_wp2_with (refine stG 103 #[(),(304:Int),.string ⟨#[]⟩,tag] #[(),(),.string ⟨#[]⟩,.string ⟨#[]⟩] (ki _ _ _ _) (gh _ _ _ _) rfl g2 hB3 rfl _ _ rfl rfl rfl ?_)
  refine bodyPost_ret (v:=.tuple #[.agg #[(),(304:Int),.string ⟨#[]⟩,tag],true]) (rct results82 _ _ g2 103 _ (0,0) _ (.bool true) rfl rfl (aa HS1) underlying103 rfl (ki _ _ _ _)) rfl ?_;exact⟨⟨0,304,⟨#[]⟩,tag⟩,true,rfl,Or.inl ⟨(aa HPT).symm,rfl,rfl,aa HBS⟩⟩
 have HTG:=ae htg;have htl:¬tag.toList=pt.toList:=fun q=>htg (bytes_eq q)
 have hte:(tag.toList==pt.toList)=false:=by rw[beq_eq_false_iff_ne]; exact htl
 have H3:=ae (show aq w3 fb X/\w3.heap[w.heap.size]?=some (.cells #[l,z,x,y] 39)/\w3.heap[g2]?=some (.cells #[(),(),.string ⟨#[]⟩,.string ⟨#[]⟩] 103)/\ah aW 196 w3 X.tv ts/\Below w.heap.size w w3 from⟨hf3,hA3,hB3,hot3,hb03⟩);clear hf3 hA3 hB3 hot3 hb03
 go_wp2_with fail
 obtain⟨hf3,hA3,hB3,hot3,hb03⟩:=aa H3
 refine wp_region_held (S:=fun w'=>aq w' fb X/\w'.heap[w.heap.size]?=some (.cells #[l,z,x,y] 39)) (by kernel_rfl) ?_
 change wpAnyH _ _ _ _ _ _ _ _ (World.drew _);have hbD:Below w3.heap.size w3 (World.drew w3):=Below.drew bu;have hS:aq (World.drew w3) fb X/\(World.drew w3).heap[w.heap.size]?=some (.cells #[l,z,x,y] 39):=⟨hf3,hA3⟩;have hB4:(World.drew w3).heap[g2]?=some (.cells #[(),(),.string ⟨#[]⟩,.string ⟨#[]⟩] 103):=hB3;have hot4:=hot3.on hbD;have hb04:=hb03.trans (hbD.mono hb03.size);generalize World.drew w3=w4 at hS hB4 hot4 hb04 ⊢;clear hf3 hA3 hB3 hot3 hb03 hbD H3;have hF11:∀W,aq W fb X->W.cell? ⟨fb,11,none⟩=some X.tv:=fun W h=>(aq.cells h).2.2.2.2.2.2.2.2.2.2.2;have FI1:=mj X.tv ts l z x y w4 hot4.at;have hbA:=(Below.refl w4.heap.size w4).alloc aD (.cells (tv none) 196);have hSA:aq (w4.alloc (.cells (tv none) 196)) fb X/\(w4.alloc (.cells (tv none) 196)).heap[w.heap.size]?=some (.cells #[l,z,x,y] 39):=⟨ag hS.1 hbA,ag hS.2 hbA⟩;have FI2:=mj X.tv ts l z x y (w4.alloc (.cells (tv none) 196)) (hot4.on hbA).at;generalize hfo:cS ts ⟨l,z,x,y⟩=fo at FI1 FI2;have HFO:=ae hfo;clear hfo;have hsz4:=hb04.size;refine am 0 rfl fb 0 hS ?_;refine am 1 rfl fb 0 hS ?_;refine am 2 rfl fb 10 hS ?_;refine am 3 rfl fb 11 hS ?_
 refine aH 4 rfl (X.tv) hS ?_ (hy:=fun w' hw'=>by simp[go_sem,hF11 w' hw'.1])
 refine aH 5 rfl (.agg #[l,z,x,y]) hS ?_ (hy:=fun w' hw'=>jT _ _ _ 39 rfl _ rfl _ underlying39 rfl (bj _ _ _ _) w.heap.size 0 rfl _ (ao hw'.2))
 refine wpAnyH_all (rs:=[6,10]) (by kernel_rfl) (by simp) ?_
 intro i hi;simp only[List.mem_cons,List.not_mem_nil,or_false] at hi
 rcases hi with rfl|rfl
 case' inl=>
  refine it 6 rfl rfl 130 #[X.tv,.agg #[l,z,x,y]] (by simp[go_sem]) (.tuple #[.agg (tv fo),fo.isSome]) _ FI1 ?_
  intro w5 hb5;have hf5:aq w5 fb X:=ag hS.1 hb5;have hA5:=ag hS.2 hb5;have hB5:=ag hB4 hb5;have hot5:=hot4.on hb5;have hb05:=hb04.trans (hb5.mono hb04.size);have hS5:aq w5 fb X/\w5.heap[w.heap.size]?=some (.cells #[l,z,x,y] 39):=⟨hf5,hA5⟩;refine⟨hS5,?_⟩;simp only[qZ];refine aH 7 rfl (.tuple #[.agg (tv fo),fo.isSome]) hS5 ?_;refine aH 8 rfl (.agg (tv fo)) hS5 ?_;refine aH 9 rfl (.bool fo.isSome) hS5 ?_;have hbT:=(Below.refl w5.heap.size w5).alloc aD (.cells (tv none) 196);have hT0:=heap_alloc_new w5 (.cells (tv none) 196);obtain⟨w6,hw6⟩:∃w6,w5.alloc (.cells (tv none) 196)=w6:=⟨_,rfl⟩
  have hal6:∀(ev:Operand->Value) (o:Oper),o.op=.alloc 196->(execOp ev o).run prog w5=.ok (.value (.pointer (some ⟨w5.heap.size,0,none⟩))) w6:=by
   intro ev o ho;rw[<-hw6];unfold execOp;simp only[ho]
   kernel_rfl
  rw[hw6] at hbT hT0;have hS6:aq w6 fb X/\w6.heap[w.heap.size]?=some (.cells #[l,z,x,y] 39):=⟨ag hf5 hbT,ag hA5 hbT⟩;have hB6:=ag hB5 hbT;have hot6:=hot5.on hbT;have hb06:=hb05.trans (hbT.mono hb05.size);have hg6:g2<w5.heap.size:=an hB5;have OTL:∀g,X.tv.ownBlock=some g->g<w5.heap.size:=fun g hg=>hot5.lt hg;obtain⟨g3,hg3⟩:∃g3,w5.heap.size=g3:=⟨_,rfl⟩;rw[hg3] at hT0 hal6 hg6 OTL;refine aV 10 ?_;refine bI 10 rfl rfl (.pointer (some ⟨g3,0,none⟩)) (w6) (hal6 _ _ rfl) (hS6) ?_
 case' inr=>
  obtain⟨w5,hw5⟩:∃w5,w4.alloc (.cells (tv none) 196)=w5:=⟨_,rfl⟩;have hT5:=heap_alloc_new w4 (.cells (tv none) 196)
  have hal5:∀(ev:Operand->Value) (o:Oper),o.op=.alloc 196->(execOp ev o).run prog w4=.ok (.value (.pointer (some ⟨w4.heap.size,0,none⟩))) w5:=by
   intro ev o ho;rw[<-hw5];unfold execOp;simp only[ho]
   kernel_rfl
  rw[hw5] at hbA hSA FI2 hT5;have hB5:=ag hB4 hbA;have hot5:=hot4.on hbA;have hb05:=hb04.trans (hbA.mono hb04.size);have hg6:g2<w4.heap.size:=an hB4;have OTL:∀g,X.tv.ownBlock=some g->g<w4.heap.size:=fun g hg=>hot4.lt hg;obtain⟨g3,hg3⟩:∃g3,w4.heap.size=g3:=⟨_,rfl⟩;rw[hg3] at hT5 hal5 hg6 OTL;refine bI 10 rfl rfl (.pointer (some ⟨g3,0,none⟩)) (w5) (hal5 _ _ rfl) (hSA) ?_;simp only[qZ];refine aV 6 ?_
  refine it 6 rfl rfl 130 #[X.tv,.agg #[l,z,x,y]] (by simp[go_sem]) (.tuple #[.agg (tv fo),fo.isSome]) _ FI2 ?_
  intro w6 hb6;have hS6:aq w6 fb X/\w6.heap[w.heap.size]?=some (.cells #[l,z,x,y] 39):=⟨ag hSA.1 hb6,ag hSA.2 hb6⟩;have hB6:=ag hB5 hb6;have hot6:=hot5.on hb6;have hT0:=ag hT5 hb6;have hb06:=hb05.trans (hb6.mono hb05.size);refine⟨hS6,?_⟩;simp only[qZ];refine aH 7 rfl (.tuple #[.agg (tv fo),fo.isSome]) hS6 ?_;refine aH 8 rfl (.agg (tv fo)) hS6 ?_
  refine t_take 9 rfl (.bool fo.isSome) (by kernel_rfl) (by kernel_rfl) (by kernel_rfl) (fun _ _ _ h=>h) rfl (fun w' hw'=>by simp[go_sem]) hS6 ?_
 all_goals
  simp only[qZ];have hT7:=setRow_heap _ _ _ (tv fo) _ _ hT0
  have hb07:=aK hb06 (show w.heap.size<=g3 by omega) (tv fo)
  have hB7:=(setRow_other (w:=w6) (show g3≠g2 by omega) (tv fo)).trans hB6
  have hf7:aq (w6.setRow g3 (tv fo)) fb X:=(setRow_other (w:=w6) (show g3≠fb by omega) (tv fo)).trans hS6.1
  have hA7:=(setRow_other (w:=w6) (show g3≠w.heap.size by omega) (tv fo)).trans hS6.2
  have hot7:ah aW 196 (w6.setRow g3 (tv fo)) X.tv ts:=hot6.same fun g hg=>setRow_other (w:=w6) (show g3≠g by have:=show g<g3 from OTL g hg; omega) (tv fo)
  have hst7:∀(ev:Operand->Value) (o:Oper) (p q:Operand),o.op=.store 196 p q->ev p=.pointer (some ⟨g3,0,none⟩)->ev q=.agg (tv fo)->(execOp ev o).run prog w6=.ok .skip (w6.setRow g3 (tv fo)):=fun ev o p q ho hp hq=>stR ev o p q 196 ho (tv fo) (tv none) (d9 _) (je _) (by cases fo<;>rfl) g3 hp hq w6 hT0
  generalize w6.setRow g3 (tv fo)=w7 at hT7 hb07 hB7 hf7 hA7 hot7 hst7;have hS7:aq w7 fb X/\w7.heap[w.heap.size]?=some (.cells #[l,z,x,y] 39):=⟨hf7,hA7⟩;refine aV 11 ?_;refine cL 11 rfl rfl (w7) (hst7 _ _ _ _ rfl rfl rfl) (hS7) ?_;simp only[Act.put];refine aH 12 rfl (.bool fo.isSome) hS7 ?_
  refine wpAnyH_done (by kernel_rfl) ?_ _
  cases fo with
  | some T=>
   obtain⟨⟨tl,tz,tx,ty⟩,tb,tt⟩:=T;have H7:=ae (show aq w7 fb X/\w7.heap[g3]?=some (.cells (tv (some ⟨⟨tl,tz,tx,ty⟩,tb,tt⟩)) 196)/\w7.heap[g2]?=some (.cells #[(),(),.string ⟨#[]⟩,.string ⟨#[]⟩] 103)/\ah aW 196 w7 X.tv ts/\Below w.heap.size w w7 from⟨hf7,hT7,hB7,hot7,hb07⟩);clear hf7 hT7 hB7 hot7 hb07 hS7 hst7 hT0 hS6 hB6 hot6 hb06 hA7 FI1 FI2 hbA hSA hS hB4 hot4 hb04 hF11;simp only[Option.isSome_some]
   go_wp2_with fail
   obtain⟨hf7,hT7,hB7,hot7,hb07⟩:=aa H7
   refine wp_region_held (S:=fun w'=>w'.heap[g3]?=some (.cells (tv (some ⟨⟨tl,tz,tx,ty⟩,tb,tt⟩)) 196)) (by kernel_rfl) ?_
   change wpAnyH _ _ _ _ _ _ _ _ (World.drew _);have hbD:Below w7.heap.size w7 (World.drew w7):=Below.drew bu;have hS8:(World.drew w7).heap[g3]?=some (.cells (tv (some ⟨⟨tl,tz,tx,ty⟩,tb,tt⟩)) 196):=hT7;have hf8:aq (World.drew w7) fb X:=hf7;have hB8:(World.drew w7).heap[g2]?=some (.cells #[(),(),.string ⟨#[]⟩,.string ⟨#[]⟩] 103):=hB7;have hot8:=hot7.on hbD;have hb08:=hb07.trans (hbD.mono hb07.size);generalize World.drew w7=w8 at hS8 hf8 hB8 hot8 hb08 ⊢;clear hf7 hT7 hB7 hot7 hb07 hbD H7;have US:=use_any fb X ts tl tz tx ty tb tt w8 hf8 hot8 hlt;refine am 0 rfl fb 0 hS8 ?_;refine am 1 rfl fb 0 hS8 ?_;refine am 2 rfl fb 10 hS8 ?_;refine aH 3 rfl (.agg (tv (some ⟨⟨tl,tz,tx,ty⟩,tb,tt⟩))) hS8 ?_ (hy:=fun w' hw'=>jT _ _ _ 196 rfl _ rfl _ underlying196 rfl (d9 _) g3 0 rfl _ (ao hw'));refine aV 4 ?_
   refine it 4 rfl rfl 131 #[.pointer (some ⟨fb,10,none⟩),.agg (tv (some ⟨⟨tl,tz,tx,ty⟩,tb,tt⟩))] (by simp[go_sem]) (.tuple #[]) _ US ?_
   rintro w9 ⟨⟨tv9,hf9,hot9,hfr9⟩,hF9⟩
   have hT9:=aQ hS8 hF9 (aI hS8 hf8 (by decide))
   have hB9:=aQ hB8 hF9 (aI hB8 hf8 (by decide))
   have hF09:aE (fun k=>k=fb) w w9:=(aE.of_below hb08).trans (hF9.mono (fun _ _ q=>q));refine⟨hT9,?_⟩;simp only[qZ]
   refine wpAnyH_done (by kernel_rfl) ?_ _
   have hRE:=setRow_heap _ _ _ (#[(),(200:Int),tb,tt]) _ _ hB9
   have hfx:aq (w9.setRow g2 (#[(),(200:Int),tb,tt])) fb { X with tv:=tv9 }:=(setRow_other (w:=w9) (show g2≠fb by omega) _).trans hf9
   have hotx:ah aW 196 (w9.setRow g2 (#[(),(200:Int),tb,tt])) tv9 (bm ts ⟨tl,tz,tx,ty⟩++[⟨⟨tl,tz,tx,ty⟩,tb,tt⟩]):=hot9.same fun g hg=>setRow_other (w:=w9) (show g2≠g by have:=au hot9 hB9 (by decide) g hg; omega) _
   have hFx:aE (fun k=>k=fb) w (w9.setRow g2 (#[(),(200:Int),tb,tt])):=hF09.setRow _ (by omega)
   have q4:=(af hT9 4).trans (show _=some (Value.string tb) from rfl);have q5:=(af hT9 5).trans (show _=some (Value.string tt) from rfl)
   have HH:Hid (OnR fb X ver LS ws ts ⟨l,z,x,y⟩ tag w (.returned (.tuple #[.agg #[(),(200:Int),tb,tt],true])) (w9.setRow g2 (#[(),(200:Int),tb,tt]))):=⟨⟨0,200,tb,tt⟩,true,rfl,Or.inr (Or.inl ⟨fun q=>aa HTG (q.trans (aa HPT)),⟨⟨tl,tz,tx,ty⟩,tb,tt⟩,aa HFO,rfl,rfl,⟨tv9,hfx,hotx,fun g hg=>by have:=hfr9 g hg; have:=hb08.size; omega⟩,hFx⟩)⟩
   have HRE:=ae hRE;clear hS8 hf8 hB8 hot8 hb08 US hf9 hot9 hfr9 hF9 hT9 hF09 hfx hotx hFx hRE
   go_wp2_with (refine stG 103 #[(),(200:Int),tb,tt] #[(),(),.string ⟨#[]⟩,.string ⟨#[]⟩] (ki _ _ _ _) (gh _ _ _ _) rfl g2 hB9 rfl _ _ rfl rfl rfl ?_)
   exact bodyPost_ret (v:=.tuple #[.agg #[(),(200:Int),tb,tt],true]) (rct results82 _ _ g2 103 #[(),(200:Int),tb,tt] (0,0) _ (.bool true) rfl rfl (aa HRE) underlying103 rfl (ki _ _ _ _)) rfl (aa HH)
  | none=>
   have c0:w7.cell? ⟨fb,0,none⟩=some (.int .i64 X.q):=(aq.cells hf7).1
   have c7:w7.cell? ⟨fb,7,none⟩=some (.slice wa ws.length wc):=by rw[<-aa HWV]; exact(aq.cells hf7).2.2.2.2.2.2.2.1
   have H7:=ae (show w7.heap[g2]?=some (.cells #[(),(),.string ⟨#[]⟩,.string ⟨#[]⟩] 103)/\Below w.heap.size w w7 from⟨hB7,hb07⟩);clear hf7 hT7 hB7 hot7 hb07 hS7 hst7 hT0 hS6 hB6 hot6 hb06 hA7 FI1 FI2 hbA hSA hS hB4 hot4 hb04 hF11;simp only[Option.isSome_none]
   by_cases hq:X.q<=(ws.length:Int)
   ·have hqd:decide (X.q<=(ws.length:Int))=true:=by simp[hq]
    go_wp2_with fail
    go_quiet (fail)
    obtain⟨hB7,hb07⟩:=aa H7;have hB8:=ag hB7 (nc w7 nq);have hb08:=hb07.trans ((nc w7 nq).mono hb07.size);generalize w7.drewN nq=w8 at hB8 hb08 ⊢;have hRE:=setRow_heap _ _ _ (#[(),(503:Int),.string ⟨#[]⟩,.string ⟨#[]⟩]) _ _ hB8;have HH:Hid (OnR fb X ver LS ws ts ⟨l,z,x,y⟩ tag w (.returned (.tuple #[.agg #[(),(503:Int),.string ⟨#[]⟩,.string ⟨#[]⟩],true])) (w8.setRow g2 (#[(),(503:Int),.string ⟨#[]⟩,.string ⟨#[]⟩]))):=⟨⟨0,503,⟨#[]⟩,⟨#[]⟩⟩,true,rfl,Or.inr (Or.inr (Or.inl ⟨fun q=>aa HTG (q.trans (aa HPT)),aa HFO,hq,rfl,rfl,aK hb08 hzg _⟩))⟩;have HRE:=ae hRE;clear hRE hB7 hb07 hb08 H7
    go_wp2_with (refine stG 103 (#[(),(503:Int),.string ⟨#[]⟩,.string ⟨#[]⟩]) #[(),(),.string ⟨#[]⟩,.string ⟨#[]⟩] (ki _ _ _ _) (gh _ _ _ _) rfl g2 hB8 rfl _ _ rfl rfl rfl ?_)
    exact bodyPost_ret (v:=.tuple #[.agg #[(),(503:Int),.string ⟨#[]⟩,.string ⟨#[]⟩],true]) (rct results82 _ _ g2 103 (#[(),(503:Int),.string ⟨#[]⟩,.string ⟨#[]⟩]) (0,0) _ (.bool true) rfl rfl (aa HRE) underlying103 rfl (ki _ _ _ _)) rfl (aa HH)
   have hqd:decide (X.q<=(ws.length:Int))=false:=by simp[hq]
   go_wp2_with fail
   go_quiet (fail)
   obtain⟨hB7,hb07⟩:=aa H7;have hB8:=ag hB7 (nc w7 nq);have hb08:=hb07.trans ((nc w7 nq).mono hb07.size);generalize w7.drewN nq=w8 at hB8 hb08 ⊢;have hRE:=setRow_heap _ _ _ (#[(),(),.string ⟨#[]⟩,.string ⟨#[]⟩]) _ _ hB8
   have HH:Hid (OnR fb X ver LS ws ts ⟨l,z,x,y⟩ tag w (.returned (.tuple #[.agg #[(),(),.string ⟨#[]⟩,.string ⟨#[]⟩],false])) (w8.setRow g2 (#[(),(),.string ⟨#[]⟩,.string ⟨#[]⟩]))):=⟨⟨0,0,⟨#[]⟩,⟨#[]⟩⟩,false,rfl,Or.inr (Or.inr (Or.inr ⟨fun q=>aa HTG (q.trans (aa HPT)),aa HFO,by omega,rfl,rfl,aK hb08 hzg _⟩))⟩
   have HRE:=ae hRE;clear hRE hB7 hb07 hb08 H7
   go_wp2_with (refine stG 103 (#[(),(),.string ⟨#[]⟩,.string ⟨#[]⟩]) #[(),(),.string ⟨#[]⟩,.string ⟨#[]⟩] (ki _ _ _ _) (gh _ _ _ _) rfl g2 hB8 rfl _ _ rfl rfl rfl ?_)
   exact bodyPost_ret (v:=.tuple #[.agg #[(),(),.string ⟨#[]⟩,.string ⟨#[]⟩],false]) (rct results82 _ _ g2 103 (#[(),(),.string ⟨#[]⟩,.string ⟨#[]⟩]) (0,0) _ (.bool false) rfl rfl (aa HRE) underlying103 rfl (ki _ _ _ _)) rfl (aa HH)
end Go.Proofs.YtpabpniaekldeaaGreatDoor
