/- Part of the proof. -/
import Derived.Test.YtmggaclaoefdaabGreatGBE
namespace Go.Proofs.YtmggaclaoefdaabGreat
open Go.RowKit Go.Shelf Go.Proofs.Tryz
set_option linter.unusedVariables false
set_option linter.unusedSimpArgs false
set_option maxRecDepth 100000
set_option maxHeartbeats 8000000
attribute [local go_sem] Oper.semAt_some
theorem yn: ∀(l:List Gq) (i:Nat) (g:Gq),l[i]?=some g->(db l)[i*3]?=some (iV (g.at_:Int))/\(db l)[i*3+1]?=some (iV (g.cut:Int))/\(db l)[i*3+2]?=some (iV (g.nx:Int)):=by
 intro l
 induction l with
 |nil=>intro i g h;simp at h
 |cons a l ih=>
  intro i g h;have e:db (a::l)=js a++db l:=rfl;have hl:(js a).length=3:=rfl
  cases i with
  |zero=>
   simp at h;subst h;rw[e];exact ⟨rfl,rfl,rfl⟩
  |succ i=>
   have h1:=ih i g (by simpa using h)
   rw[e,List.getElem?_append_right (by omega),List.getElem?_append_right (by omega),List.getElem?_append_right (by omega),hl]
   rw[show (i+1)*3-3=i*3 by omega,show (i+1)*3+1-3=i*3+1 by omega,show (i+1)*3+2-3=i*3+2 by omega]
   exact h1
theorem E8 (w:World) (t:TypeId) (a b c d e:Value) (j:Nat) (u:Value) (h: [a,b,c,d,e][j]?=some u):(w.alloc (.cells #[a,b,c,d,e] t)).cell? ((⟨w.heap.size,0,none⟩:Addr).add j)=some u:=by
 have hb:(w.alloc (.cells #[a,b,c,d,e] t)).heap[w.heap.size]?=some (.cells #[a,b,c,d,e] t):=hZ _ _;have hj:j<5:=(List.getElem?_eq_some_iff.1 h).1
 have e1:(w.alloc (.cells #[a,b,c,d,e] t)).cell? ((dZ w.heap.size 0).add j)= [a,b,c,d,e][j]?:=by
  generalize w.alloc (.cells #[a,b,c,d,e] t)=W at hb |-
  cases j with
  |zero=>simp[World.cell?,Addr.add,hb]
  |succ j=>simp[World.cell?,Addr.add,hb]
 rw[e1];exact h
section
variable {lo:Nat} {w w':World} {s:Nat} {r:Rn} {X:PM} {qs:List Nat} {an:List Tm}
theorem MX.goal (M:MX lo w s r X qs an) {i:Nat} (hf:X.first=i+1) (hi:i<X.gs.length): ∃gb cg,r.gv=.slice (some ⟨gb,0,none⟩) X.gs.length cg/\w.cell? ⟨gb,i*3,none⟩=some (iV ((ai X).at_:Int))/\w.cell? ⟨gb,i*3+1,none⟩=some (iV ((ai X).cut:Int))/\w.cell? ⟨gb,i*3+2,none⟩=some (iV ((ai X).nx:Int)):=by
 have hg:X.gs[i]?=some (ai X):=by
  unfold ai;rw[hf,Nat.add_sub_cancel,List.getD_eq_getElem?_getD,gE hi]
  rfl
 have hk:=yn X.gs i _ hg
 have hln:(db X.gs).length=X.gs.length*3:=by
  exact ym X.gs
 obtain ⟨gb,cg,hgv⟩: ∃gb cg,r.gv=sZ gb X.gs.length cg:=by
  rcases M.mn.go.2 with ⟨_,h2⟩| ⟨g,cp,_,h1,_⟩
  .omega
  .exact ⟨g,cp,h1⟩
 have ho:=M.mn.go;rw[hgv]at ho;exact ⟨gb,cg,hgv,(ho.cellAt (i*3) (by omega)).trans hk.1,(ho.cellAt (i*3+1) (by omega)).trans hk.2.1,(ho.cellAt (i*3+2) (by omega)).trans hk.2.2⟩
structure jc (w:World) (s:Nat) (r:Rn):Prop where
 pin:kg w r.P
 cap:r.P.len<=r.P.cap
 few:r.P.len<=1000
 blk: ∀b o,r.P.a=some ⟨b,o,none⟩->0<r.P.len->¬cm s r b
 hd: ∀j,j<r.P.len->d9 12 (r.P.hd j)/\iz (r.P.hd j)=0/\cnt (r.P.hd j)<=1000/\NM (cm s r) (r.P.hd j)
 bd: ∀j,j<r.P.len->NM (cm s r) (r.P.bd j)/\(r.P.bd j).len<=100/\∀i,i<(r.P.bd j).len->d9 12 ((r.P.bd j).f i)/\iz ((r.P.bd j).f i)=0/\cnt ((r.P.bd j).f i)<=1000
theorem jc.next {r':Rn} (h:jc w s r) (hB:Bw (cm s r) w.heap.size w w') (hk:RK w s r r'):jc w' s r':=by
 have e:=hk.P;refine ⟨?_,by rw[e];exact h.cap,by rw[e];exact h.few,?_,?_,?_⟩
 .rw[e]
  refine ⟨h.pin.1,fun j hj=>⟨?_,(h.pin.2 j hj).2.1.bw hB lZ (h.hd j hj).2.2.2,(h.pin.2 j hj).2.2.bw hB lZ (h.bd j hj).1⟩⟩
  obtain ⟨b,o,ha,c0,c1,c2,c3⟩:=(h.pin.2 j hj).1;have hb:=h.blk b o ha (by omega)
  exact ⟨b,o,ha,(hB.cell (p:=(dZ b (o+j*4))) (ag c0) hb).trans c0,(hB.cell (p:=(dZ b (o+j*4+1))) (ag c1) hb).trans c1,(hB.cell (p:=(dZ b (o+j*4+2))) (ag c2) hb).trans c2,(hB.cell (p:=(dZ b (o+j*4+3))) (ag c3) hb).trans c3⟩
 .rw[e]
  intro b o ha h0 hm;obtain ⟨b',o',ha',c0,_⟩:=(h.pin.2 0 h0).1;rw[ha]at ha';cases ha';exact h.blk b o ha h0 (hk.own b (ag c0) hm)
 .rw[e]
  exact fun j hj=>⟨(h.hd j hj).1,(h.hd j hj).2.1,(h.hd j hj).2.2.1,(h.hd j hj).2.2.2.anti (h.pin.2 j hj).2.1 hk.own⟩
 .rw[e]
  exact fun j hj=>⟨(h.bd j hj).1.anti (h.pin.2 j hj).2.2 hk.own,(h.bd j hj).2⟩
theorem Bp {i fr:Nat} (w:World) (M:MX lo w s r X qs an) (hlo:lo<=w.heap.size) (hG:HG (ah X.h) X.h.length) (hf:X.first=i+1) (hi:i<X.gs.length) (hg5:X.gs.length<=5000) (hat:(ai X).at_<X.h.length) (hk2:(ah X.h (bf X)).k=2) (hfr:fr<=r.P.len) (hP:jc w s r) (hn:X.fin=0->∃n:Nat,X.left=(n:Int)/\n<=4000) (htr:X.tr.length<=9000000) (hcs:X.cs.length<=1000000):
 Calls prog 113 #[.pointer (some ⟨s,0,none⟩),iV (fr:Int)] w (Rs lo w s r qs an (i4 r.P fr X)):=by
 obtain ⟨gb,cg,hgv,y0,y1,y2⟩:=M.goal hf hi;obtain ⟨⟨_,c1,c2,_⟩,_,_⟩:=M.mn.blk.get;rw[hgv]at c1;rw[M.first,hf]at c2;have c2':w.cell? (dZ s 2)=some (iV ((i:Int)+1)):=by rw[c2];simp
 have hw1:IntKind.i64.wrap ((i:Int)+1-1)=(i:Int):=by simp[IntKind.wrap,IntKind.bits,IntKind.signed];omega
 have hw0:IntKind.i64.wrap (i:Int)=(i:Int):=by simp[IntKind.wrap,IntKind.bits,IntKind.signed];omega
 have hiI:(i:Int)<(X.gs.length:Int):=by omega
 have hi0:(0:Int)<=(i:Int):=by omega
 have HM:=hid M;have HG0:=hid hG;have Hf:=hid hf;clear M hG hf c2;have HB0:Hid (Below w.heap.size w w):=bR;have HKp:Hid (∀W,Below w.heap.size w W->W.cell? (dZ s 1)=some (sZ gb X.gs.length cg)/\W.cell? (dZ s 2)=some (iV ((i:Int)+1))/\W.cell? (dZ gb (i*3))=some (iV ((ai X).at_:Int))/\W.cell? (dZ gb (i*3+1))=some (iV ((ai X).cut:Int))/\W.cell? (dZ gb (i*3+2))=some (iV ((ai X).nx:Int))):=fun W hW=>⟨(hW.cell (p:=(dZ s 1)) (ag c1)).trans c1,(hW.cell (p:=(dZ s 2)) (ag c2')).trans c2',(hW.cell (p:=(dZ gb (i*3))) (ag y0)).trans y0,(hW.cell (p:=(dZ gb (i*3+1))) (ag y1)).trans y1,(hW.cell (p:=(dZ gb (i*3+2))) (ag y2)).trans y2⟩
 go_enter Tryz.func113,Tryz.ntmps113
 go_wp2_with fail
 go_region_held3 (fun W=>W.cell? (dZ s 1)=some (sZ gb X.gs.length cg)/\W.cell? (dZ s 2)=some (iV ((i:Int)+1))/\W.cell? (dZ gb (i*3))=some (iV ((ai X).at_:Int))/\W.cell? (dZ gb (i*3+1))=some (iV ((ai X).cut:Int))/\W.cell? (dZ gb (i*3+2))=some (iV ((ai X).nx:Int))) ((refine HKp.o _ ?_;repeat (first|exact bR|refine Below.drew ?_|refine Below.alloc ?_ (by simp) _| (refine Below.set ?_ (by simp) _ _)))) (fail)
 all_goals
  have HXa:Hid ((w.alloc (.cells #[iV ((ai X).at_:Int),iV ((ai X).cut:Int),iV ((ai X).nx:Int)] 76)).drew.heap[w.heap.size]?=some (.cells #[iV ((ai X).at_:Int),iV ((ai X).cut:Int),iV ((ai X).nx:Int)] 76)):=hZ _ _;have HBa:Hid (Below w.heap.size w (w.alloc (.cells #[iV ((ai X).at_:Int),iV ((ai X).cut:Int),iV ((ai X).nx:Int)] 76)).drew):=bA.drew;generalize (w.alloc (.cells #[iV ((ai X).at_:Int),iV ((ai X).cut:Int),iV ((ai X).nx:Int)] 76)).drew=wa at*;have hwa:w.heap.size<wa.heap.size:=(aZ HXa.o);obtain ⟨ha,hcp,hhv,hhc,_,_⟩:=ak HM.o.mn.hp;have Hhv:=hid hhv
  have HHin:Hid (∀W,Below wa.heap.size wa W->HIn W ha X.h.length (ah X.h)):=fun W hW=>by
   have h1:=(HM.o.mn.below HBa.o).below hW;have h2:=h1.hp;rw[hhv]at h2;exact j3.hin h2 rfl HG0.o.nmZ
  have HK2:Hid (∀W,Below wa.heap.size wa W->W.cell? (dZ s 0)=some (.slice ha X.h.length hcp)/\W.cell? (dZ w.heap.size 0)=some (iV ((ai X).at_:Int))):=fun W hW=>by
   obtain ⟨⟨q0,_⟩,_⟩:=((HM.o.mn.below HBa.o).below hW).blk.get;rw[hhv]at q0;exact ⟨q0,(ae ((hW.block _ hwa).trans HXa.o)).1⟩
  have HB2:Hid (Below wa.heap.size wa wa):=bR;obtain ⟨p0,p1⟩:=HK2.o wa bR;clear c1 c2' y0 y1 y2 hhv;have hlb:X.h.length<=1000000:=by have:=HG0.o.ok.few;omega
  go_wp2_with fail
  go_region_held3 (fun W=>W.cell? (dZ s 0)=some (.slice ha X.h.length hcp)/\W.cell? (dZ w.heap.size 0)=some (iV ((ai X).at_:Int))) ((refine HK2.o _ ?_;repeat (first|exact HB2.o|refine Below.drew ?_))) (first
   | (go_at_call 107
      refine (zo _ (HHin.o _ (by repeat (first|exact HB2.o|refine Below.drew ?_)))).mono ?_
      rintro e w5 ⟨vb,m,rfl,hV,hvb,hm,hb5⟩;have hmw:wa.heap.size<=m:=hm;replace HB2:Hid (Below wa.heap.size wa w5):=Below.trans (by repeat (first|exact HB2.o|refine Below.drew ?_)) (hb5.mono HB2.o.size)
      have HV5:Hid (VW w5 vb m ha X.h.length hcp (ah X.h) (fun _=>none)):=hV
      clear hV hvb hm hb5)
   | (go_at_call 108
      refine (kd HG0.o hlb hat _ HV5.o).mono ?_;rintro e w6 ⟨rfl,_,hg6⟩;replace HB2:Hid (Below wa.heap.size wa w6):=Below.trans HB2.o ⟨hg6.os,hg6.tape,hg6.output,hg6.size,fun k hk=>hg6.block k (lL hk HB2.o.size) (fun e=>by have:=oj e;omega)⟩
      clear hg6))
  all_goals
   have HB6:=hid (HBa.o.trans (HB2.o.mono HBa.o.size));have HX6:=hid ((HB2.o.block _ hwa).trans HXa.o);rw[show aj (ah X.h) X.h.length (ai X).at_=bf X from rfl]
   have hatl:bf X<X.h.length:=HG0.o.end_lt hat;obtain ⟨hb,ho,hha,r0,r1,r2⟩:=(HHin.o w6 HB2.o).row (bf X) hatl;have hn0:=HG0.o.ok.n0 _ hatl;have hnn:(ah X.h (bf X)).n=((cd (ah X.h (bf X))).len:Int):=by show _=(((ah X.h (bf X)).n.toNat:Nat):Int);omega
   rw[hk2]at r0;rw[hnn]at r1;have r2':w6.cell? (dZ hb (ho+bf X*3+2))=some (.string (cd (ah X.h (bf X))).nm):=r2;have hatI:(bf X:Int)<(X.h.length:Int):=by omega
   obtain ⟨q0,_⟩:=HK2.o w6 HB2.o;have hs6:=HB2.o.size;have HXn:Hid ((w6.alloc (.cells #[iV 2,iV ((cd (ah X.h (bf X))).len:Int),.string (cd (ah X.h (bf X))).nm] 81)).heap[w6.heap.size]?=some (.cells #[iV 2,iV ((cd (ah X.h (bf X))).len:Int),.string (cd (ah X.h (bf X))).nm] 81)):=hZ _ _;have HBn:Hid (Below w6.heap.size w6 (w6.alloc (.cells #[iV 2,iV ((cd (ah X.h (bf X))).len:Int),.string (cd (ah X.h (bf X))).nm] 81))):=bA;clear r2 p0 p1 hn0;subst hha;obtain ⟨ta,ct,htv,_,_,_⟩:=ak HM.o.mn.tl;go_wp2_with fail;generalize w6.alloc (.cells #[iV 2,iV ((cd (ah X.h (bf X))).len:Int),.string (cd (ah X.h (bf X))).nm] 81)=w7 at*;have HB7:=hid (HB6.o.trans (HBn.o.mono HB6.o.size))
   have HK4:Hid (∀W,Below w.heap.size w W->W.cell? (dZ s 0)=some (.slice (some (dZ hb ho)) X.h.length hcp)/\W.cell? (dZ s 1)=some (sZ gb X.gs.length cg)/\W.cell? (dZ s 2)=some (iV ((i:Int)+1))/\W.cell? (dZ s 4)=some (.slice ta X.tr.length ct)):=fun W hW=>by
    have hM:=HM.o.mn.below hW;obtain ⟨⟨k0,k1,k2,_,k4,_⟩,_⟩:=hM.blk.get;rw[Hhv.o]at k0;rw[hgv]at k1;rw[HM.o.first,Hf.o]at k2;rw[htv]at k4;exact ⟨k0,k1,by rw[k2];simp,k4⟩
   obtain ⟨u0,u1,u2,u4⟩:=HK4.o w7 HB7.o;have h7s:w6.heap.size<w7.heap.size:=(aZ HXn.o);have Htv:=hid htv;have Hgv:Hid (r.gv=sZ gb X.gs.length cg):=hgv;clear q0 r0 r1 r2' htv hgv
   go_region_held3 (fun W=>W.cell? (dZ s 0)=some (.slice (some (dZ hb ho)) X.h.length hcp)/\W.cell? (dZ s 1)=some (sZ gb X.gs.length cg)/\W.cell? (dZ s 2)=some (iV ((i:Int)+1))/\W.cell? (dZ s 4)=some (.slice ta X.tr.length ct)) ((refine HK4.o _ ?_;repeat (first|exact HB7.o|refine Below.drew ?_|refine Below.alloc ?_ (by first| (simp;omega)|omega) _))) (fail)
   all_goals
    have HXw:Hid ((w7.alloc (.cells #[iV ((i:Int)+1),iV 0,iV (X.h.length:Int),iV (X.tr.length:Int),iV (X.gs.length:Int)] 78)).drew.heap[w7.heap.size]?=some (.cells #[iV ((i:Int)+1),iV 0,iV (X.h.length:Int),iV (X.tr.length:Int),iV (X.gs.length:Int)] 78)):=hZ _ _;have HB78:Hid (Below w7.heap.size w7 (w7.alloc (.cells #[iV ((i:Int)+1),iV 0,iV (X.h.length:Int),iV (X.tr.length:Int),iV (X.gs.length:Int)] 78)).drew):=bA.drew;generalize (w7.alloc (.cells #[iV ((i:Int)+1),iV 0,iV (X.h.length:Int),iV (X.tr.length:Int),iV (X.gs.length:Int)] 78)).drew=w8 at*;have h8s:w7.heap.size<w8.heap.size:=(aZ HXw.o);have HB8:=hid (HB7.o.trans (HB78.o.mono HB7.o.size));have HTr:Hid (i4 r.P fr X=j5 r.P (cd (ah X.h (bf X))) (dn X) (bf X) (ai X).nx (r.P.len+1) fr X):=rfl;have HXn8:=hid ((HB78.o.block _ h7s).trans HXn.o);have HXg8:=hid ((HB78.o.block _ (by omega)).trans ((HBn.o.block _ (by omega)).trans HX6.o))
    clear HXn HX6 HBn hnn u0 u1 u2 u4;generalize cd (ah X.h (bf X))=T at*;have HPr:=hid hP;have HP8:=hid (hP.pin.below HB8.o)
    have HFt:Hid (∀(W:World) (k:Nat) (r1:Rn),o9 W s r1->r1.P=r.P->kg W r.P->k<=r.P.len->Calls prog 138 #[pZ s,.agg #[iV 2,iV (T.len:Int),.string T.nm],iV (k:Int)] W fun e w'=>e=.returned (iV (jq (cj (bm r.P) T k)))/\Below W.heap.size W w'):=fun W k r1 hb hp hpi hk=>by
     have:=Ly T k W hb (by rw[hp];exact hpi) (by rw[hp];exact hP.cap) (by rw[hp];exact hP.few) (by rw[hp];exact hk)
     rw[hp]at this;exact this
    have HF8:Hid (Calls prog 138 #[pZ s,.agg #[iV 2,iV (T.len:Int),.string T.nm],iV (fr:Int)] w8 fun e w'=>e=.returned (iV (jq (cj (bm r.P) T fr)))/\Below w8.heap.size w8 w'):=HFt.o w8 fr r (HM.o.mn.below HB8.o).blk rfl HP8.o hfr
    obtain ⟨n0,n1,n2,_⟩:=ae HXn8.o;have Hn:=hid hn;clear hP hn;go_wp2_with fail;refine HF8.o.mono ?_;rintro e wz ⟨rfl,hbz⟩;have HBz:=hid (HB8.o.trans (hbz.mono HB8.o.size));have HXnz:=hid ((hbz.block _ (by omega)).trans HXn8.o)
    have HXgz:=hid ((hbz.block _ (by omega)).trans HXg8.o)
    have HXwz:=hid ((hbz.block _ (by omega)).trans HXw.o)
    have hzs:=hbz.size
    have HMl:Hid (∀k,cm s r k->k<w.heap.size):=fun k hm=>by
     have M:=HM.o.mn
     rcases hm with e|e|e|e|e|e
     .rw[e];exact M.blk.lt
     .exact fj M.hp e
     .exact fj M.go e
     .exact fj M.ch e
     .exact fj M.tl e
     .exact fj M.anr e
    have HPz:Hid (jc wz s r):=HPr.o.next (Bw.ofBelow HBz.o) ⟨rfl,rfl,rfl,rfl,fun _ _ h=>h⟩
    clear hbz n0 n1 n2;go_wp2_with fail
    go_loopw [9] (fun x wr=>∃(lf fn:Int) (r1:Rn) (k f:Nat),x=iV (jq (cj (bm r.P) T k))/\k<=r.P.len/\r.P.len+1<=f+k/\MX lo wr s r1 { X with left:=lf,fin:=fn} qs an/\RK wz s r r1/\Bw (cm s r) wz.heap.size wz wr/\i4 r.P fr X=j5 r.P T (dn X) (bf X) (ai X).nx f k { X with left:=lf,fin:=fn} /\(fn=0->∃n:Nat,lf=(n:Int)/\n<=4000)) (fun x _=>if intOf x<0 then 0 else r.P.len+1-(intOf x).toNat)
    case atStart=>
     exact ⟨X.left,X.fin,r,fr,r.P.len+1,rfl,hfr,by omega,⟨HM.o.mn.below HBz.o,HM.o.first,HM.o.left,HM.o.fin⟩,⟨rfl,rfl,rfl,rfl,fun _ _ h=>h⟩,Bw.refl _ _ _,HTr.o,Hn.o⟩
    case round=>
     obtain ⟨lf,fn,r1,k,f,rfl,hk,hfu,hM1,hK1,hB1,hE1,hn1⟩:=hrel;have HM1:=hid hM1;have HK1:=hid hK1;have HB1:=hid hB1;have HE1:=hid hE1;have Hn1:=hid hn1;have Hbx:Hid (∀b,w.heap.size<=b->b<wz.heap.size->wr.heap[b]?=wz.heap[b]?):=fun b h1 h2=>hB1.block b h2 (fun hm=>by have:=HMl.o b hm;omega)
     have HRKw:Hid (RK w s r r1):=⟨hK1.q,hK1.st,hK1.av,hK1.P,fun q hq hm=>hK1.own q (by have:=HBz.o.size;omega) hm⟩
     have HBw:=hid ((Bw.ofBelow HBz.o).trans (hB1.mono HBz.o.size));obtain ⟨_,⟨_,s7,_,s9,_⟩,_⟩:=hM1.mn.blk.get;rw[hM1.fin]at s7;have s7':=s7;obtain ⟨f,rfl⟩: ∃f',f=f'+1:=⟨f-1,by omega⟩
     have hrs:=hB1.size;clear hM1 hK1 hB1 hE1 hn1 s7
     cases hfit:cj (bm r.P) T k with
     |none=>
      have HE:Hid (i4 r.P fr X=({ X with left:=lf,fin:=fn},false)):=by rw[Hid,HE1.o,j5,hfit]
      clear hfit;rw[show jq none= -1 from rfl]
      go_wp2_with fail
      all_goals
       go_ret;rw[HE.o];exact ⟨rfl,r1,HM1.o,HRKw.o,HBw.o⟩
     |some j=>
      have hj:k<=j/\j<r.P.len:=by
       unfold cj at hfit;have h1:=List.find?_some hfit;have h2:=List.mem_of_find?_eq_some hfit;rw[List.mem_range,iy]at h2;simp at h1;exact ⟨h1.1,h2⟩
      by_cases hfn:fn=0
      case neg=>
       have HE:Hid (i4 r.P fr X=({ X with left:=lf,fin:=fn},false)):=by rw[Hid,HE1.o,j5,hfit];simp[hfn]
       clear hfit;rw[show jq (some j)=(j:Int)from rfl]
       have hj0:(0:Int)<=(j:Int):=by omega
       have hfb:=bF hfn;go_wp2_with fail
       all_goals
        go_ret;rw[HE.o];exact ⟨rfl,r1,HM1.o,HRKw.o,HBw.o⟩
      subst hfn;obtain ⟨n,hlf,hn4⟩:=Hn1.o rfl;have HPr1:=hid (HPz.o.next HB1.o HK1.o);have hP1:r1.P=r.P:=HK1.o.P;have HPin:Hid (kg wr r.P):=by have:=HPr1.o.pin;rw[hP1]at this;exact this
      obtain ⟨pb,po,hpa,z0,z1,z2,z3⟩:=(HPin.o.2 j hj.2).1;have HX:Hid (kg wr r.P/\(∃r2,o9 wr s r2/\r2.P=r.P)/\wr.heap[w.heap.size]?=some (.cells #[iV ((ai X).at_:Int),iV ((ai X).cut:Int),iV ((ai X).nx:Int)] 76)):=⟨HPin.o,⟨r1,HM1.o.mn.blk,hP1⟩,(Hbx.o _ lZ (by omega)).trans HXgz.o⟩
      have HK8:Hid (∀W:World,(kg W r.P/\(∃r2,o9 W s r2/\r2.P=r.P)/\W.heap[w.heap.size]?=some (.cells #[iV ((ai X).at_:Int),iV ((ai X).cut:Int),iV ((ai X).nx:Int)] 76))->W.cell? (dZ s 9)=some (.slice (some (dZ pb po)) r.P.len r.P.cap)/\(W.cell? (dZ pb (po+j*4))=some (iV (r.P.hd j).v)/\W.cell? (dZ pb (po+j*4+1))=some (.string (r.P.hd j).nm)/\W.cell? (dZ pb (po+j*4+2))=some (.slice (r.P.hd j).a (r.P.hd j).len (r.P.hd j).cap)/\W.cell? (dZ pb (po+j*4+3))=some (.slice (r.P.bd j).a (r.P.bd j).len (r.P.bd j).cap))/\W.cell? (dZ w.heap.size 2)=some (iV ((ai X).nx:Int))):=fun W hW=>by
       obtain ⟨h1,⟨r2,h2,h3⟩,h4⟩:=hW;obtain ⟨pb',po',hpa',y0,y1,y2,y3⟩:=(h1.2 j hj.2).1;rw[hpa]at hpa';cases hpa';obtain ⟨_,⟨_,_,_,g9,_⟩,_⟩:=h2.get;rw[h3,hpa]at g9;exact ⟨g9,⟨y0,y1,y2,y3⟩,(ae h4).2.2.1⟩
      have hG1:=HG0.o;have hhd:=HPr1.o.hd j (by rw[hP1];exact hj.2)
      have hbd:=HPr1.o.bd j (by rw[hP1];exact hj.2)
      rw[hP1]at hhd hbd
      have HEn:Hid (∀W,Below wr.heap.size wr W->Calls prog 139 #[pZ s,.agg #[iV (r.P.hd j).v,.string (r.P.hd j).nm,.slice (r.P.hd j).a (r.P.hd j).len (r.P.hd j).cap,.slice (r.P.bd j).a (r.P.bd j).len (r.P.bd j).cap],iV (bf X:Int),iV ((ai X).nx:Int)] W (Rs lo W s r1 qs an (a7 (r.P.hd j) (r.P.bd j) (bf X) (ai X).nx { X with left:=lf,fin:=0}))):=fun W hW=>
       Ep (n:=n) W ⟨HM1.o.mn.below hW,HM1.o.first,HM1.o.left,HM1.o.fin⟩ (by have:=hW.size;omega) hG1 ⟨(HPin.o.2 j hj.2).2.1.below hW,hhd.1,hhd.2.1,hhd.2.2.1,hhd.2.2.2⟩ ⟨(HPin.o.2 j hj.2).2.2.below hW,hbd.1,hbd.2.1,hbd.2.2⟩ hatl (by show X.gs.length<=10000;omega) ⟨hlf,hn4⟩ htr
      have HUn:Hid (am (dn X) (a7 (r.P.hd j) (r.P.bd j) (bf X) (ai X).nx { X with left:=lf,fin:=0}).1= { X with left:=(a7 (r.P.hd j) (r.P.bd j) (bf X) (ai X).nx { X with left:=lf,fin:=0}).1.left,fin:=(a7 (r.P.hd j) (r.P.bd j) (bf X) (ai X).nx { X with left:=lf,fin:=0}).1.fin}):=ot (n:=n) (X:= { X with left:=lf,fin:=0}) hG1 hhd.2.1 hhd.1 hbd.2.2 hatl hlf
      have HTF:Hid (i4 r.P fr X=match a7 (r.P.hd j) (r.P.bd j) (bf X) (ai X).nx { X with left:=lf,fin:=0} with
       | (Y,true)=>(match cj (bm r.P) T (j+1)with
         |none=>Y
         |some k=> { Y with cs:=Y.cs++ [{ dn X with cl:=k}]},true)
       | (Y,false)=>j5 r.P T (dn X) (bf X) (ai X).nx f (j+1) (am (dn X) Y)):=by rw[Hid,HE1.o,j5,hfit];simp only[ne_eq,not_true_eq_false,if_false];rfl
      have HGr:=oz (n:=n) (nx:=(ai X).nx) (X:= { X with left:=lf,fin:=0}) hG1 hhd.2.1 hbd.2.2 hatl hlf hn4 rfl
      obtain ⟨q,hq⟩: ∃q,a7 (r.P.hd j) (r.P.bd j) (bf X) (ai X).nx { X with left:=lf,fin:=0} =q:=⟨_,rfl⟩
      rw[hq]at HEn HUn HTF HGr;obtain ⟨Z,ok⟩:=q;have HGrow:=hid HGr;have HNb:Hid (∀b,w.heap.size<=b->b<wz.heap.size->¬cm s r1 b):=fun b h1 h2 hm=>by have:=HMl.o b (HK1.o.own b h2 hm);omega
      clear hhd hbd hG1 hfit z0 z1 z2 z3 hq HGr;have hj0:(0:Int)<=(j:Int):=by omega
      have hjI:(j:Int)<(r.P.len:Int):=by omega
      obtain ⟨v0,v1,v2⟩:=HK8.o wr HX.o;rw[show jq (some j)=(j:Int)from rfl]
      cases ok with
      |false=>
       have HTF':=hid HTF.o;go_wp2_with fail
       go_region_held3 (fun W=>W.cell? (dZ s 9)=some (.slice (some (dZ pb po)) r.P.len r.P.cap)/\(W.cell? (dZ pb (po+j*4))=some (iV (r.P.hd j).v)/\W.cell? (dZ pb (po+j*4+1))=some (.string (r.P.hd j).nm)/\W.cell? (dZ pb (po+j*4+2))=some (.slice (r.P.hd j).a (r.P.hd j).len (r.P.hd j).cap)/\W.cell? (dZ pb (po+j*4+3))=some (.slice (r.P.bd j).a (r.P.bd j).len (r.P.bd j).cap))/\W.cell? (dZ w.heap.size 2)=some (iV ((ai X).nx:Int))) ((refine HK8.o _ ?_;first|exact HX.o|exact ⟨HX.o.1.below (bR.drew),HX.o.2.1,HX.o.2.2⟩)) (first
        | (go_at_call 139
           refine (HEn.o _ (by repeat (first|exact bR|refine Below.drew ?_))).mono ?_
           rintro e w2 ⟨rfl,r2,hM2,hK2',hB2'⟩;have hB2:Bw (cm s r1) wr.heap.size wr w2:=Bw.trans (by repeat (first|exact Bw.refl _ _ _|refine Bw.drew ?_)) (hB2'.mono lZ)
           have hK2:RK wr s r1 r2:=⟨hK2'.q,hK2'.st,hK2'.av,hK2'.P,hK2'.own⟩;clear hB2' hK2';have HM2:=hid hM2;have HK2:=hid hK2;have HB2':=hid hB2;have hPr2:=HPr1.o.next hB2 hK2;have hP2:r2.P=r.P:=hK2.P.trans hP1;replace HX:Hid (kg w2 r.P/\(∃r2,o9 w2 s r2/\r2.P=r.P)/\w2.heap[w.heap.size]?=some (.cells #[iV ((ai X).at_:Int),iV ((ai X).cut:Int),iV ((ai X).nx:Int)] 76)):=⟨by have:=hPr2.pin;rw[hP2]at this;exact this,⟨r2,hM2.mn.blk,hP2⟩,(hB2.block _ (by omega) (HNb.o _ lZ (by omega))).trans HX.o.2.2⟩
           clear hM2 hK2 hB2 hPr2))
       all_goals
        have Hb2:Hid (∀b,w.heap.size<=b->b<wz.heap.size->w2.heap[b]?=wz.heap[b]?):=fun b h1 h2=>(HB2'.o.block b (by omega) (HNb.o b h1 h2)).trans (Hbx.o b h1 h2)
        have hw2s:=HB2'.o.size;have hXw2:=(Hb2.o _ (by omega) (by omega)).trans HXwz.o
        have a0:w2.cell? (dZ w7.heap.size 0)=some (iV ((i:Int)+1)):=by simp[World.cell?,hXw2]
        have a1:w2.cell? (dZ w7.heap.size 1)=some (iV 0):=by simp[World.cell?,hXw2]
        have a2:w2.cell? (dZ w7.heap.size 2)=some (iV (X.h.length:Int)):=by simp[World.cell?,hXw2]
        have a3:w2.cell? (dZ w7.heap.size 3)=some (iV (X.tr.length:Int)):=by simp[World.cell?,hXw2]
        have a4:w2.cell? (dZ w7.heap.size 4)=some (iV (X.gs.length:Int)):=by simp[World.cell?,hXw2]
        have HUc:Hid (Calls prog 136 #[pZ s,.agg #[iV ((i:Int)+1),iV 0,iV (X.h.length:Int),iV (X.tr.length:Int),iV (X.gs.length:Int)]] w2 fun e w'=>e=.returned (.tuple #[])/\∃r',MX lo w' s r' (am (dn X) Z) qs an/\RK w2 s r2 r'/\r'.cv=r2.cv/\Bw (cm s r2) w2.heap.size w2 w'):=by
         have h1:=Kh (c:=dn X) w2 HM2.o HGrow.o.1.1 HGrow.o.1.2.1 HGrow.o.1.2.2.2 (by have:=HGrow.o.1.2.2.1;omega)
         have e1:((dn X).goal:Int)=(i:Int)+1:=by show (X.first:Int)=_;rw[Hf.o];simp
         rw[e1]at h1;exact h1
        have hwj:IntKind.i64.wrap ((j:Int)+1)=(j:Int)+1:=by have:=HPr.o.few;simp[IntKind.wrap,IntKind.bits,IntKind.signed];omega
        clear hXw2 v0 v1 v2;go_wp2_with fail;refine HUc.o.mono ?_;rintro e w3 ⟨rfl,r3,hM3,hK3,_,hB3⟩;have HM3:=hid hM3;have hN2: ∀b,w.heap.size<=b->b<wz.heap.size->¬cm s r2 b:=fun b h1 h2 hm=>HNb.o b h1 h2 (HK2.o.own b (by omega) hm)
        have hXn3:=(hB3.block _ (by omega) (hN2 _ (by omega) (by omega))).trans ((Hb2.o _ (by omega) (by omega)).trans HXnz.o)
        obtain ⟨m0,m1,m2,_⟩:=ae hXn3;have hP3:r3.P=r.P:=hK3.P.trans (HK2.o.P.trans hP1);have hPr3:=(HPr1.o.next HB2'.o HK2.o).next hB3 hK3;have hPin3:kg w3 r.P:=by have:=hPr3.pin;rw[hP3]at this;exact this
        have HF3:Hid (Calls prog 138 #[pZ s,.agg #[iV 2,iV (T.len:Int),.string T.nm],iV ((j:Int)+1)] w3 fun e w'=>e=.returned (iV (jq (cj (bm r.P) T (j+1))))/\Below w3.heap.size w3 w'):=by
         have h1:=HFt.o w3 (j+1) r3 hM3.mn.blk hP3 hPin3 (by omega)
         rw[Int.natCast_add]at h1;exact h1
        have HK3:=hid ((HK1.o.trans HK2.o hrs).trans hK3 (by omega))
        have HB3:=hid (kz (kz HB1.o HK1.o HB2'.o) (HK1.o.trans HK2.o hrs) hB3);clear hM3 hK3 hB3 hXn3 hPr3 hPin3 a0 a1 a2 a3 a4 hN2;go_wp2_with fail;refine HF3.o.mono ?_;rintro e w4 ⟨rfl,hb4⟩;have HB4:=hid hb4;clear hb4 m0 m1 m2;go_wp2_with fail;go_roundw
        case rel=>
         have hU:=HUn.o;have hM4:=HM3.o;rw[hU]at hM4;refine ⟨Z.left,Z.fin,r3,j+1,f,rfl,by omega,by omega,⟨hM4.mn.below HB4.o,hM4.first,hM4.left,hM4.fin⟩,HK3.o,HB3.o.trans (Bw.ofBelow (HB4.o.mono HB3.o.size)),?_,fun h=>?_⟩
         .rw[HTF'.o,hU]
         .obtain ⟨n',e1,e2⟩:=HGrow.o.2.2 h
          exact ⟨n',e1,by omega⟩
        case measure=>
         have h0: ¬((j:Int)<0):=by omega
         have hjl:=hj.2;clear hwj
         cases hft:cj (bm r.P) T (j+1)with
         |none=>
          show (if (-1:Int)<0 then 0 else r.P.len+1-(-1:Int).toNat)<(if (j:Int)<0 then 0 else r.P.len+1-(j:Int).toNat)
          rw[if_pos (by decide),if_neg h0,Int.toNat_natCast]
          omega
         |some j'=>
          have hj':j+1<=j':=by
           unfold cj at hft;have h1:=List.find?_some hft;simp at h1;exact h1.1
          show (if (j':Int)<0 then 0 else r.P.len+1-(j':Int).toNat)<(if (j:Int)<0 then 0 else r.P.len+1-(j:Int).toNat)
          rw[if_neg (by omega),if_neg h0,Int.toNat_natCast,Int.toNat_natCast]
          omega
      |true=>
       have HTT:Hid (i4 r.P fr X=(match cj (bm r.P) T (j+1)with
        |none=>Z
        |some k=> { Z with cs:=Z.cs++ [{ dn X with cl:=k}]},true)):=HTF.o
       go_wp2_with fail
       go_region_held3 (fun W=>W.cell? (dZ s 9)=some (.slice (some (dZ pb po)) r.P.len r.P.cap)/\(W.cell? (dZ pb (po+j*4))=some (iV (r.P.hd j).v)/\W.cell? (dZ pb (po+j*4+1))=some (.string (r.P.hd j).nm)/\W.cell? (dZ pb (po+j*4+2))=some (.slice (r.P.hd j).a (r.P.hd j).len (r.P.hd j).cap)/\W.cell? (dZ pb (po+j*4+3))=some (.slice (r.P.bd j).a (r.P.bd j).len (r.P.bd j).cap))/\W.cell? (dZ w.heap.size 2)=some (iV ((ai X).nx:Int))) ((refine HK8.o _ ?_;first|exact HX.o|exact ⟨HX.o.1.below (bR.drew),HX.o.2.1,HX.o.2.2⟩)) (first
        | (go_at_call 139
           refine (HEn.o _ (by repeat (first|exact bR|refine Below.drew ?_))).mono ?_
           rintro e w2 ⟨rfl,r2,hM2,hK2',hB2'⟩;have hB2:Bw (cm s r1) wr.heap.size wr w2:=Bw.trans (by repeat (first|exact Bw.refl _ _ _|refine Bw.drew ?_)) (hB2'.mono lZ)
           have hK2:RK wr s r1 r2:=⟨hK2'.q,hK2'.st,hK2'.av,hK2'.P,hK2'.own⟩;clear hB2' hK2';have HM2:=hid hM2;have HK2:=hid hK2;have HB2':=hid hB2;have hPr2:=HPr1.o.next hB2 hK2;have hP2:r2.P=r.P:=hK2.P.trans hP1;replace HX:Hid (kg w2 r.P/\(∃r2,o9 w2 s r2/\r2.P=r.P)/\w2.heap[w.heap.size]?=some (.cells #[iV ((ai X).at_:Int),iV ((ai X).cut:Int),iV ((ai X).nx:Int)] 76)):=⟨by have:=hPr2.pin;rw[hP2]at this;exact this,⟨r2,hM2.mn.blk,hP2⟩,(hB2.block _ (by omega) (HNb.o _ lZ (by omega))).trans HX.o.2.2⟩
           clear hM2 hK2 hB2 hPr2))
       all_goals
        have Hb2:Hid (∀b,w.heap.size<=b->b<wz.heap.size->w2.heap[b]?=wz.heap[b]?):=fun b h1 h2=>(HB2'.o.block b (by omega) (HNb.o b h1 h2)).trans (Hbx.o b h1 h2)
        have hw2s:=HB2'.o.size;have hXw2:=(Hb2.o _ (by omega) (by omega)).trans HXwz.o
        have hXn2:=(Hb2.o _ (by omega) (by omega)).trans HXnz.o
        obtain ⟨m0,m1,m2,_⟩:=ae hXn2;have hP2':r2.P=r.P:=HK2.o.P.trans hP1;have hPr2:=HPr1.o.next HB2'.o HK2.o;have hPin2:kg w2 r.P:=by have:=hPr2.pin;rw[hP2']at this;exact this
        have HF3:Hid (Calls prog 138 #[pZ s,.agg #[iV 2,iV (T.len:Int),.string T.nm],iV ((j:Int)+1)] w2 fun e w'=>e=.returned (iV (jq (cj (bm r.P) T (j+1))))/\Below w2.heap.size w2 w'):=by
         have h1:=HFt.o w2 (j+1) r2 HM2.o.mn.blk hP2' hPin2 (by omega)
         rw[Int.natCast_add]at h1;exact h1
        have hwj:IntKind.i64.wrap ((j:Int)+1)=(j:Int)+1:=by have:=HPr.o.few;simp[IntKind.wrap,IntKind.bits,IntKind.signed];omega
        have HXw2:=hid hXw2;have HRw2:Hid (RK w s r r2):=HRKw.o.trans HK2.o (by have:=HBz.o.size;omega)
        have HBw2:=hid (kz HBw.o HRKw.o HB2'.o);clear hXn2 hPr2 hPin2 hXw2 v0 v1 v2;go_wp2_with fail;refine HF3.o.mono ?_;rintro e w3 ⟨rfl,hb3⟩;have HB3:=hid hb3;have hXw3:=(hb3.block _ (by omega)).trans HXw2.o
        have f1:w3.cell? (dZ w7.heap.size 1)=some (iV 0):=by simp[World.cell?,hXw3]
        have ff1:w3.frozen? (dZ w7.heap.size 1)=false:=by simp[World.frozen?,hXw3]
        clear hb3 m0 m1 m2
        cases hft:cj (bm r.P) T (j+1)with
        |none=>
         have HE:Hid (i4 r.P fr X=(Z,true)):=by rw[Hid,HTT.o,hft]
         have hM3:=HM2.o.mn.below HB3.o;have g1:(w3.setCell (dZ w7.heap.size 1) (iV (-1))).cell? (dZ w7.heap.size 1)=some (iV (-1)):=by simp[World.setCell,World.cell?,Array.getElem?_modify,hXw3]
         clear hft;rw[show jq none= -1 from rfl]
         go_wp2_with fail;have hNs: ¬cm s r2 w7.heap.size:=fun hm=>HNb.o _ (by omega) (by omega) (HK2.o.own _ (by omega) hm)
         have hgw:=af (W:=w3) w7.heap.size 1 (iV (-1));have h3s:=HB3.o.size;have hBx:=Bw.ofG hgw
         have hM4:MN lo (w3.setCell (dZ w7.heap.size 1) (iV (-1))) s r2 Z.h Z.gs Z.cs Z.tr qs an:=by
          refine hM3.stood hBx (fun k hk=>?_) (fun A hA=>eo (hM3.all A hA).1 fun k hk=>(NM.old (M:=fun k=>w.heap.size<=k) (HM.o.mn.all A hA).1 (fun k h=>h)).nb (by show w.heap.size<=k;omega))
          subst hk;refine ⟨hNs,fun e=>?_⟩
          obtain ⟨cc,hcc⟩:=de hM3.qu e;rw[hXw3]at hcc;cases hcc
         go_ret;rw[HE.o];exact ⟨rfl,r2,⟨hM4,HM2.o.first,HM2.o.left,HM2.o.fin⟩,HRw2.o,(HBw2.o.trans (Bw.ofBelow (HB3.o.mono HBw2.o.size))).grown hgw (by have:=HBz.o.size;omega) (fun k e=> .inl (by have:=oj e;omega))⟩
        |some k2=>
         have HE:Hid (i4 r.P fr X=({ Z with cs:=Z.cs++ [{ dn X with cl:=k2}]},true)):=by rw[Hid,HTT.o,hft]
         have hM3:=HM2.o.mn.below HB3.o;have HX4:Hid ((w3.setCell (dZ w7.heap.size 1) (iV (k2:Int))).heap[w7.heap.size]?=some (.cells #[iV ((i:Int)+1),iV (k2:Int),iV (X.h.length:Int),iV (X.tr.length:Int),iV (X.gs.length:Int)] 78)):=by simp[Hid,World.setCell,Array.getElem?_modify,hXw3]
         have hNs: ¬cm s r2 w7.heap.size:=fun hm=>HNb.o _ (by omega) (by omega) (HK2.o.own _ (by omega) hm)
         have hgw:=af (W:=w3) w7.heap.size 1 (iV (k2:Int));have h3s:=HB3.o.size;have hBx:=Bw.ofG hgw
         have HM4:Hid (MN lo (w3.setCell (dZ w7.heap.size 1) (iV (k2:Int))) s r2 Z.h Z.gs Z.cs Z.tr qs an):=by
          refine hM3.stood hBx (fun k hk=>?_) (fun A hA=>eo (hM3.all A hA).1 fun k hk=>(NM.old (M:=fun k=>w.heap.size<=k) (HM.o.mn.all A hA).1 (fun k h=>h)).nb (by show w.heap.size<=k;omega))
          subst hk;refine ⟨hNs,fun e=>?_⟩
          obtain ⟨cc,hcc⟩:=de hM3.qu e;rw[hXw3]at hcc;cases hcc
         have HBw4:Hid (Bw (cm s r) w.heap.size w (w3.setCell (dZ w7.heap.size 1) (iV (k2:Int)))):=(HBw2.o.trans (Bw.ofBelow (HB3.o.mono HBw2.o.size))).grown hgw (by have:=HBz.o.size;omega) (fun k e=> .inl (by have:=oj e;omega))
         have h4s:=hgw.size;have hk20:(0:Int)<=(k2:Int):=by omega
         have g1:(w3.setCell (dZ w7.heap.size 1) (iV (k2:Int))).cell? (dZ w7.heap.size 1)=some (iV (k2:Int)):=by simp[World.setCell,World.cell?,Array.getElem?_modify,hXw3]
         clear hft hM3 hNs hgw hBx hXw3;rw[show jq (some k2)=(k2:Int)from rfl]
         go_wp2_with fail;generalize w3.setCell (dZ w7.heap.size 1) (iV (k2:Int))=w4 at*;clear g1 f1 ff1;obtain ⟨sc,cc,hcv,hcc,_,_⟩:=ak HM4.o.ch;have Hcv:=hid hcv;obtain ⟨⟨_,_,_,s3,_⟩,_,sf⟩:=HM4.o.blk.get;rw[hcv]at s3;have sf3:=sf 3;have hsw:=HM4.o.blk.lt;have m0:w4.cell? (dZ w7.heap.size 0)=some (iV ((i:Int)+1)):=by simp[World.cell?,HX4.o]
         have m1:w4.cell? (dZ w7.heap.size 1)=some (iV (k2:Int)):=by simp[World.cell?,HX4.o]
         have m2:w4.cell? (dZ w7.heap.size 2)=some (iV (X.h.length:Int)):=by simp[World.cell?,HX4.o]
         have m3:w4.cell? (dZ w7.heap.size 3)=some (iV (X.tr.length:Int)):=by simp[World.cell?,HX4.o]
         have m4:w4.cell? (dZ w7.heap.size 4)=some (iV (X.gs.length:Int)):=by simp[World.cell?,HX4.o]
         obtain ⟨i0,hi0,hz0,hz1,hz2⟩:=info_parts (P:=prog) (e:=78) (z:=.agg #[iV 0,iV 0,iV 0,iV 0,iV 0]) (size:=5) (bytes:=40) (by kernel_rfl)
         have hBa:Below w4.heap.size w4 (w4.alloc (.cells #[iV ((i:Int)+1),iV (k2:Int),iV (X.h.length:Int),iV (X.tr.length:Int),iV (X.gs.length:Int)] 78)):=bA;have HMa:Hid (MN lo (w4.alloc (.cells #[iV ((i:Int)+1),iV (k2:Int),iV (X.h.length:Int),iV (X.tr.length:Int),iV (X.gs.length:Int)] 78)) s r2 Z.h Z.gs Z.cs Z.tr qs an):=HM4.o.below hBa;have HOa:Hid ((w4.alloc (.cells #[iV ((i:Int)+1),iV (k2:Int),iV (X.h.length:Int),iV (X.tr.length:Int),iV (X.gs.length:Int)] 78)).ownsRow lo 78 5 (.slice sc Z.cs.length cc) Z.cs.length (dq Z.cs)):=by have:=HMa.o.ch;rwa [hcv]at this
         have HNa:Hid (∀j u,(dq [(⟨X.first,k2,X.h.length,X.tr.length,X.gs.length⟩:jo)])[j]?=some u->(w4.alloc (.cells #[iV ((i:Int)+1),iV (k2:Int),iV (X.h.length:Int),iV (X.tr.length:Int),iV (X.gs.length:Int)] 78)).cell? ((dZ w4.heap.size 0).add j)=some u):=by
          intro j u hj;have e1:((X.first:Nat):Int)=(i:Int)+1:=by rw[Hf.o];simp
          have e2:dq [(⟨X.first,k2,X.h.length,X.tr.length,X.gs.length⟩:jo)]= [iV ((i:Int)+1),iV (k2:Int),iV (X.h.length:Int),iV (X.tr.length:Int),iV (X.gs.length:Int)]:=by rw[<-e1];rfl
          rw[e2]at hj;exact E8 w4 78 _ _ _ _ _ j u hj
         have HFa:Hid (∀u∈dq [(⟨X.first,k2,X.h.length,X.tr.length,X.gs.length⟩:jo)],u.oneCell'=true):=by
          intro u hu;simp[dq,j7]at hu
          rcases hu with rfl|rfl|rfl|rfl|rfl <;> rfl
         have hlo':lo<=(w4.alloc (.cells #[iV ((i:Int)+1),iV (k2:Int),iV (X.h.length:Int),iV (X.tr.length:Int),iV (X.gs.length:Int)] 78)).heap.size:=by have:=hBa.size;have:=HBw4.o.size;omega
         have hZc:Z.cs.length<=1000000:=by rw[HGrow.o.2.1];exact hcs
         have HDk:Hid (∀p,(Value.slice sc Z.cs.length cc).ownBlock=some p->p≠s):=fun p hp e=>by
          subst e;exact HM4.o.apart.h1.2.2.1 (by rw[hcv];exact hp)
         clear hcv sf
         go_region_law (refine dz rfl (.tmp 109) (.tmp 111) 27 rfl lo 78 i0 (.agg #[iV 0,iV 0,iV 0,iV 0,iV 0]) 5 40 Tryz.underlying27 hi0 hz0 hz1 hz2 rfl (by decide) (.slice sc Z.cs.length cc) Z.cs.length (dq Z.cs) (by first|rfl|simp[Act.eval,Act.put]) HOa.o (dZ w4.heap.size 0) 1 1 (dq [(⟨X.first,k2,X.h.length,X.tr.length,X.gs.length⟩:jo)]) (by first|rfl|simp[Act.eval,Act.put]) rfl HNa.o HFa.o (by unfold maxLen;omega) (by omega) hlo' (by omega) ?_
                        intro g9 cap9 w9 hown9 hg9 hat9;have HG9:Hid ((w4.alloc (.cells #[iV ((i:Int)+1),iV (k2:Int),iV (X.h.length:Int),iV (X.tr.length:Int),iV (X.gs.length:Int)] 78)).grownBy w9 (Value.slice sc Z.cs.length cc).ownBlock):=⟨hg9.os,hg9.tape,hg9.output,hg9.size,hg9.block⟩;have HO9:Hid (w9.ownsRow lo 78 5 (sZ g9 (Z.cs.length+1) cap9) (Z.cs.length+1) (dq Z.cs++dq [(⟨X.first,k2,X.h.length,X.tr.length,X.gs.length⟩:jo)])):=hown9;have HA9:Hid (some g9=(Value.slice sc Z.cs.length cc).ownBlock\/g9=(w4.alloc (.cells #[iV ((i:Int)+1),iV (k2:Int),iV (X.h.length:Int),iV (X.tr.length:Int),iV (X.gs.length:Int)] 78)).heap.size):=hat9;have hst9:w9.heap[s]?=w4.heap[s]?:=(hg9.block s (by simp;omega) (fun e=>HDk.o s e.symm rfl)).trans (jZ _ _ hsw)
                        have q3:w9.cell? (dZ s 3)=some (.slice sc Z.cs.length cc):=(cB hst9).trans s3;have qf3:w9.frozen? (dZ s 3)=false:=(World.frozen?_of_block hst9).trans sf3;clear hown9 hg9 hat9 hst9)
         all_goals
          go_wp2_with fail;go_ret;rw[HE.o];have hB9:Bw (fun k=>r2.cv.ownBlock=some k) (w4.alloc (.cells #[iV ((i:Int)+1),iV (k2:Int),iV (X.h.length:Int),iV (X.tr.length:Int),iV (X.gs.length:Int)] 78)).heap.size (w4.alloc (.cells #[iV ((i:Int)+1),iV (k2:Int),iV (X.h.length:Int),iV (X.tr.length:Int),iV (X.gs.length:Int)] 78)) w9:=⟨HG9.o.os,HG9.o.tape,HG9.o.output,HG9.o.size,fun k hk hm=>HG9.o.block k hk (fun e=>hm (by rw[Hcv.o];exact e.symm))⟩
          have hT:=HMa.o.toC (v':=sZ g9 (Z.cs.length+1) cap9) (cs':=Z.cs++ [(⟨X.first,k2,X.h.length,X.tr.length,X.gs.length⟩:jo)]) hB9 (fun k hk=> .inl hk) (fun A hA=>eo (HMa.o.all A hA).1 fun k hk=>(HMa.o.all A hA).2.nb (rZ (.inr (.inl hk)))) (by rw[List.length_append,As];exact HO9.o) (by
           rw[Hcv.o]
           rcases HA9.o with e|e
           .exact .inl e
           .exact .inr ⟨g9,rfl,by omega⟩)
          have h4a:w4.heap.size<=(w4.alloc (.cells #[iV ((i:Int)+1),iV (k2:Int),iV (X.h.length:Int),iV (X.tr.length:Int),iV (X.gs.length:Int)] 78)).heap.size:=hBa.size;have hws:w.heap.size<=w4.heap.size:=HBw4.o.size;refine ⟨rfl,_,⟨hT.1,HM2.o.first,HM2.o.left,HM2.o.fin⟩,⟨HRw2.o.q,HRw2.o.st,HRw2.o.av,HRw2.o.P,fun k hk hm=>?_⟩,(HBw4.o.trans (Bw.ofBelow (hBa.mono hws))).trans ((hT.2.mono (by omega)).wide fun k hk hm=>?_)⟩
          .rcases hm with e|e|e|e|e|e
           .exact .inl e
           .exact HRw2.o.own k hk (.inr (.inl e))
           .exact HRw2.o.own k hk (rZ (.inl e))
           .have e2:g9=k:=by simpa[Value.ownBlock]using e
            subst e2
            rcases HA9.o with e'|e'
            .exact HRw2.o.own _ hk (rZ (.inr (.inl (by rw[Hcv.o];exact e'.symm))))
            .omega
           .exact HRw2.o.own k hk (rZ (rZ (.inl e)))
           .exact HRw2.o.own k hk (rZ (rZ (.inr e)))
          .rcases hm with e|e
           .exact .inl e
           .exact HRw2.o.own k hk (rZ (.inr (.inl e)))
end
end Go.Proofs.YtmggaclaoefdaabGreat
