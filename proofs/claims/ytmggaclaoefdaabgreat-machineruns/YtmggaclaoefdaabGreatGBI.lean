/- Part of the proof. -/
import Derived.Test.YtmggaclaoefdaabGreatGBH
import Derived.Test.YtmggaclaoefdaabGreatMzC
namespace Go.Proofs.YtmggaclaoefdaabGreat
open Go.RowKit Go.Proofs.Tryz
set_option linter.unusedVariables false
set_option linter.unusedSimpArgs false
set_option maxRecDepth 100000
set_option maxHeartbeats 8000000
structure Tp (n:Nat) (qs:List Nat) (X Y:PM):Prop where
 ok:jm n qs Y
 gs:Y.gs.length<=5000
 tr:Y.tr.length<=X.tr.length+4000
 cs:Y.cs.length<=X.cs.length
theorem jm.same {n:Nat} {qs:List Nat} {X Y:PM} (M:jm n qs X) (h1:Y.h=X.h) (h2:Y.tr=X.tr) (h3:Y.gs=X.gs) (h4:Y.first<=X.gs.length) (h5:Y.cs=X.cs):jm n qs Y:=M.ext ((rn.refl X).same h1 h2 h3) (by rw[h1,h2,h3];exact M.s) (by rw[h3];exact h4) (by rw[h5];exact List.Sublist.refl _)
theorem Jn.back {n:Nat} {qs:List Nat} {X:PM} {c:jo} (h:Jn n qs X c) {l:List jo}:(am c { X with cs:=l}).first=c.goal-1+1/\c.goal-1<(am c { X with cs:=l}).gs.length/\(am c { X with cs:=l}).gs.length<=X.gs.length/\(am c { X with cs:=l}).tr.length<=X.tr.length:=by
 have:=h.goal;have:=h.gs;refine ⟨by show c.goal=_;omega,?_,?_,?_⟩
 .show c.goal-1<(X.gs.take c.gs).length
  rw[List.length_take];omega
 .show (X.gs.take c.gs).length<=_
  rw[List.length_take];omega
 .show (X.tr.take c.tr).length<=_
  rw[List.length_take];omega
theorem Je {P:Pg} (hC:i7 P) {qs:List Nat}: ∀(f:Nat) (X:PM),jm P.len qs X->X.gs.length<=5000->Tp P.len qs X (fz P f X):=by
 intro f
 induction f with
 |zero=>intro X hO hg;exact ⟨hO,hg,Nat.le_add_right _ _,lZ⟩
 |succ f ih=>
  intro X hO hg;rw[fz]
  by_cases hfin:X.fin≠0
  .rw[if_pos hfin];exact ⟨hO,hg,Nat.le_add_right _ _,lZ⟩
  rw[if_neg hfin];have hfin0:X.fin=0:=Classical.not_not.1 hfin
  cases hl:X.cs.getLast? with
  |none=>exact ⟨hO.same rfl rfl rfl hO.fst rfl,hg,Nat.le_add_right _ _,lZ⟩
  |some c=>
   have hm:=List.mem_of_getLast? hl;have hc:=hO.ch c hm;have hb:=hc.back (l:=X.cs.dropLast);have hO1:=hO.back hl
   have hO2:jm P.len qs { am c { X with cs:=X.cs.dropLast} with left:=4000}:=hO1.same rfl rfl rfl hO1.fst rfl
   have hT:=pz (fr:=c.cl) hC hO2 hb.1 hb.2.1 hc.fn hfin0 ⟨4000,rfl,lZ⟩
   have hcl:X.cs.dropLast.length+1=X.cs.length:=by
    rw[List.length_dropLast];have:0<X.cs.length:=List.length_pos_of_mem hm;omega
   show Tp P.len qs X (match i4 P c.cl { am c { X with cs:=X.cs.dropLast} with left:=4000} with| (Y,true)=>Y| (Y,false)=>fz P f Y)
   have hg2:({ am c { X with cs:=X.cs.dropLast} with left:=4000}:PM).gs.length<=X.gs.length:=hb.2.2.1
   have ht2:({ am c { X with cs:=X.cs.dropLast} with left:=4000}:PM).tr.length<=X.tr.length:=hb.2.2.2
   have hZc:({ am c { X with cs:=X.cs.dropLast} with left:=4000}:PM).cs.length+1=X.cs.length:=hcl
   generalize ({ am c { X with cs:=X.cs.dropLast} with left:=4000}:PM)=Z at*
   generalize i4 P c.cl Z=q at*;obtain ⟨Y,ok⟩:=q
   rcases hT with ⟨e,lf,fn,hY,_⟩| ⟨e,hY⟩
   .have e':ok=false:=e
    subst e'
    have hY':Y= { Z with left:=lf,fin:=fn}:=hY
    subst hY'
    have h1:=ih { Z with left:=lf,fin:=fn} (hO2.same rfl rfl rfl hO2.fst rfl) (by show Z.gs.length<=5000;omega)
    exact ⟨h1.ok,h1.gs,by have h2:_<=Z.tr.length+4000:=h1.tr;show (fz P f _).tr.length<=_;omega,by have h2:_<=Z.cs.length:=h1.cs;show (fz P f _).cs.length<=_;omega⟩
   .have e':ok=true:=e
    subst e';have hY':Nv P.len qs Z Y:=hY;refine ⟨hY'.ok,hY'.gs,by have:=hY'.tr;show Y.tr.length<=_;omega,?_⟩
    show Y.cs.length<=_
    rcases hY'.cs with e| ⟨k,e⟩
    .rw[e];omega
    .rw[e,List.length_append];simp;omega
theorem nu {P:Pg} (hC:i7 P) {qs:List Nat} {X:PM} (hO:jm P.len qs X) (hg:X.gs.length<=5000):Tp P.len qs X (dr P X):=Je hC _ X hO hg
noncomputable def lu (X:PM):MR:=jn (X.left.toNat+1) (bf X+1) (bf X+2) (X.left.toNat,X.h,[])
noncomputable def pd (X:PM):PM:= { X with first:=(ai X).nx,h:=(lu X).l,tr:=X.tr++(lu X).bs,left:=(lu X).left,fin:=if (lu X).left<0 then 3 else X.fin}
noncomputable def bn (P:Pg) (X:PM):PM:=
 if (ah X.h (bf X)).k=1 then { X with fin:=4}
 else if gn (cd (ah X.h (bf X))) oc 0 then { X with cs:=X.cs.take (ai X).cut,first:=(ai X).nx}
 else if gn (cd (ah X.h (bf X))) ku 0 then { X with first:=(ai X).nx}
 else if gn (cd (ah X.h (bf X))) lj 0 then dr P X
 else if gn (cd (ah X.h (bf X))) Df 2 then if (lu X).ok then pd X else dr P (pd X)
 else match i4 P 0 X with
  | (Y,true)=>Y
  | (Y,false)=>dr P Y
theorem lp {X:PM} {i:Nat} (hf:X.first=i+1) (hi:i<X.gs.length):X.gs[i]?=some (ai X):=by
 unfold ai;rw[hf,Nat.add_sub_cancel,List.getD_eq_getElem?_getD,gE hi]
 rfl
theorem Me {c:Cl} {nm:ByteArray} {n:Nat} (h:gn (cd c) nm n=true):c.nm.toList=nm.toList/\c.n.toNat=n:=by
 unfold gn at h;simp at h;exact h
theorem Ab {qs:List Nat} {n:Nat} {X:PM} {i:Nat} (hO:jm n qs X) (hf:X.first=i+1) (hi:i<X.gs.length) (hk: ¬(ah X.h (bf X)).k=1) (ht:gn (cd (ah X.h (bf X))) Df 2=true):bf X<X.h.length/\bf X+1<X.h.length/\bf X+2<X.h.length:=by
 have hgo:=hO.s.go i _ (lp hf hi);have hatl:bf X<X.h.length:=hO.s.hg.end_lt hgo.1;have hk2:(ah X.h (bf X)).k=2:=(hO.s.hg.kind _ hatl).resolve_left hk;have hn:=(Me ht).2;have h0:=hO.s.hg.ok.n0 _ hatl;have h1:=(hO.s.hg.kids _ hatl hk2 0 (by omega)).1
 have h2:=(hO.s.hg.kids _ hatl hk2 1 (by omega)).1
 exact ⟨hatl,by omega,by omega⟩
theorem Dz {qs:List Nat} {n:Nat} {X:PM} {i:Nat} (hO:jm n qs X) (hf:X.first=i+1) (hi:i<X.gs.length) (hk: ¬(ah X.h (bf X)).k=1) (ht:gn (cd (ah X.h (bf X))) Df 2=true) (hl: ∃n:Nat,X.left=(n:Int)/\n<=4000):rn X (pd X)/\jm n qs (pd X)/\(pd X).tr.length<=X.tr.length+4000:=by
 obtain ⟨hatl,h1,h2⟩:=Ab hO hf hi hk ht;have hgo:=hO.s.go i _ (lp hf hi);obtain ⟨m,hm,hm4⟩:=hl
 have hER:lu X=jn (m+1) (bf X+1) (bf X+2) (m,X.h,[]):=by
  unfold lu;rw[hm,Int.toNat_natCast]
 have hG:=hO.s.hg;have hGd:(lu X).Good (m,X.h,[]):=by rw[hER];exact gj _ _ _ _ ⟨hG,hG.nmZ⟩ h1 h2
 have hUd:(lu X).Und (m,X.h,[]):=by rw[hER];exact zx _ _ _ _ ⟨hG,hG.nmZ⟩ h1 h2
 obtain ⟨new,u1,u2,u3⟩:=hUd;have u1':(lu X).bs=new:=u1;have hln:(lu X).l.length=X.h.length:=hGd.len;have hbs:(lu X).bs.length<=0+m:=hGd.bs';have hE:rn X (pd X):=⟨by show X.h.length<=(lu X).l.length;omega,⟨new,by rw[<-u1'];rfl,fun i hi hm=>u2 i hm,fun i hi _=>(u3 i hi).2⟩,List.take_length⟩
 refine ⟨hE,hO.ext hE ⟨hGd.hg,fun k g hg=>?_,fun x hx=>?_,fun x hx=>?_⟩ ?_ (List.Sublist.refl _),?_⟩
 .have:=hO.s.go k g hg
  exact ⟨by show g.at_<(lu X).l.length;omega,this.2⟩
 .have hx':x∈X.tr++(lu X).bs:=hx
  show x<(lu X).l.length
  rcases List.mem_append.1 hx' with h|h
  .have:=hO.s.tl x h;omega
  .rw[u1']at h
   have:x<X.h.length:=(u3 x h).1;omega
 .have:=hO.s.qu x hx
  show x<(lu X).l.length
  omega
 .have:=hgo.2
  show (ai X).nx<=X.gs.length
  omega
 .show (X.tr++(lu X).bs).length<=_
  rw[List.length_append];omega
structure Tg (n:Nat) (qs:List Nat) (X Y:PM):Prop where
 ok:jm n qs Y
 gs:Y.gs.length<=5000
 tr:Y.tr.length<=X.tr.length+8000
 cs:Y.cs.length<=X.cs.length+1
theorem nh {P:Pg} (hC:i7 P) {qs:List Nat} {X:PM} {i:Nat} (hO:jm P.len qs X) (hg:X.gs.length<=5000) (hf:X.first=i+1) (hi:i<X.gs.length) (hn:X.fin=0) (hl: ∃n:Nat,X.left=(n:Int)/\n<=4000):Tg P.len qs X (bn P X):=by
 have hgo:=hO.s.go i _ (lp hf hi);have hatl:=hO.s.hg.end_lt hgo.1;have hnx:(ai X).nx<=X.gs.length:=by have:=hgo.2;omega
 have hB: ∀Y:PM,jm P.len qs Y->Y.gs.length<=5000->Y.tr.length<=X.tr.length+4000->Y.cs.length<=X.cs.length->Tg P.len qs X (dr P Y):=fun Y h1 h2 h3 h4=>by
  have:=nu hC h1 h2;exact ⟨this.ok,this.gs,by have:=this.tr;omega,by have:=this.cs;omega⟩
 unfold bn
 by_cases hk:(ah X.h (bf X)).k=1
 .rw[if_pos hk];exact ⟨hO.same rfl rfl rfl hO.fst rfl,hg,Nat.le_add_right _ _,Nat.le_add_right _ _⟩
 rw[if_neg hk]
 by_cases h1:gn (cd (ah X.h (bf X))) oc 0=true
 .rw[if_pos h1]
  exact ⟨hO.ext ((rn.refl X).same rfl rfl rfl) hO.s hnx (List.take_sublist _ _),hg,Nat.le_add_right _ _,by show (X.cs.take _).length<=_;rw[List.length_take];omega⟩
 rw[if_neg h1]
 by_cases h2:gn (cd (ah X.h (bf X))) ku 0=true
 .rw[if_pos h2];exact ⟨hO.same rfl rfl rfl hnx rfl,hg,Nat.le_add_right _ _,Nat.le_add_right _ _⟩
 rw[if_neg h2]
 by_cases h3:gn (cd (ah X.h (bf X))) lj 0=true
 .rw[if_pos h3];exact hB X hO hg (Nat.le_add_right _ _) lZ
 rw[if_neg h3]
 by_cases h4:gn (cd (ah X.h (bf X))) Df 2=true
 .rw[if_pos h4]
  obtain ⟨e1,e2,e3⟩:=Dz hO hf hi hk h4 hl
  by_cases h5:(lu X).ok=true
  .rw[if_pos h5];exact ⟨e2,hg,by omega,Nat.le_add_right _ _⟩
  .rw[if_neg h5];exact hB (pd X) e2 hg e3 lZ
 rw[if_neg h4];have hk2:=(hO.s.hg.kind _ hatl).resolve_left hk;have hT:=pz (fr:=0) hC hO hf hi hk2 hn hl;generalize i4 P 0 X=q at*;obtain ⟨Y,ok⟩:=q
 rcases hT with ⟨e,lf,fn,hY,_⟩| ⟨e,hY⟩
 .have e':ok=false:=e
  subst e';have hY':=hY;subst hY';exact hB _ (hO.same rfl rfl rfl hO.fst rfl) hg (Nat.le_add_right _ _) lZ
 .have e':ok=true:=e
  subst e';have hY':Nv P.len qs X Y:=hY;refine ⟨hY'.ok,hY'.gs,by have:=hY'.tr;show Y.tr.length<=_;omega,?_⟩
  show Y.cs.length<=_
  rcases hY'.cs with e| ⟨k,e⟩
  .rw[e];omega
  .rw[e,List.length_append];simp
noncomputable def jv (h:List Cl) (qs:List Nat):List Tm:=
 (qs.map (gy (ah h) h.length)).map fun T=>ap (iq (jz (bg [] ((qs.map (gy (ah h) h.length)).map cz).flatten))) T
structure FM where
 m:PM
 an:List (List Tm)
 st:Nat
noncomputable def a6 (P:Pg) (qs:List Nat) (Y:FM):FM:=
 if 200<gd (ah Y.m.h) Y.m.h.length qs then { Y with m:= { Y.m with fin:=3} }
 else if 40<=Y.an.length+1 then { Y with m:= { Y.m with fin:=1},an:=Y.an++ [jv Y.m.h qs]}
 else { Y with m:=dr P Y.m,an:=Y.an++ [jv Y.m.h qs]}
noncomputable def au (P:Pg) (qs:List Nat):Nat->FM->FM
 |0,Y=>Y
 |f+1,Y=>if Y.m.fin=0/\Y.m.first=0 then au P qs f (a6 P qs Y)else Y
noncomputable def b9 (P:Pg) (qs:List Nat) (Y:FM):FM:=
 if Y.m.fin=0/\Y.m.first≠0 then au P qs 41 { Y with m:=bn P { Y.m with left:=4000},st:=Y.st+1} else au P qs 41 Y
noncomputable def pj (P:Pg) (qs:List Nat) (limit:Nat):Nat->FM->FM
 |0,Y=>Y
 |f+1,Y=>if Y.m.fin=0/\Y.st<limit then pj P qs limit f (b9 P qs Y)else Y
section
open Go.Shelf
attribute [local go_sem] Oper.semAt_some
theorem O5:(prog.info? 78).map (fun i=>(i.zero,i.size,i.bytes))=some (some (.agg #[iV 0,iV 0,iV 0,iV 0,iV 0]),5,40):=by kernel_rfl
theorem N1 (a:Option Addr) (ln cp k:Nat) (h:k<=ln) (hc:ln<=cp) (W:World):(Instr.slice 27 (.slice a ln cp) none (some (iV k)) none).run prog W=.ok (.slice a k cp) W:=by
 obtain ⟨i0,hi,hz0,hz1,hz2⟩:=info_parts O5;have h':(k:Int)<=(cp:Int):=by omega
 cases a with
 |none=>simp[Instr.slice,run_underlying Tryz.underlying27,Instr.sliceBounds,run_sliceBound,sizeOf,typeInfo,hi,h',Addr.add]
 |some ad=>simp[Instr.slice,run_underlying Tryz.underlying27,Instr.sliceBounds,run_sliceBound,sizeOf,typeInfo,hi,h',Addr.add]
theorem yl: ∀(l:List jo) (i:Nat) (c:jo),l[i]?=some c->(dq l)[i*5]?=some (iV (c.goal:Int))/\(dq l)[i*5+1]?=some (iV (c.cl:Int))/\(dq l)[i*5+2]?=some (iV (c.hp:Int))/\(dq l)[i*5+3]?=some (iV (c.tr:Int))/\(dq l)[i*5+4]?=some (iV (c.gs:Int)):=by
 intro l
 induction l with
 |nil=>intro i g h;simp at h
 |cons a l ih=>
  intro i g h;have e:dq (a::l)=j7 a++dq l:=rfl;have hl:(j7 a).length=5:=rfl
  cases i with
  |zero=>
   simp at h;subst h;rw[e];exact ⟨rfl,rfl,rfl,rfl,rfl⟩
  |succ i=>
   have h1:=ih i g (by simpa using h)
   rw[e,List.getElem?_append_right (by omega),List.getElem?_append_right (by omega),List.getElem?_append_right (by omega),List.getElem?_append_right (by omega),List.getElem?_append_right (by omega),hl]
   rw[show (i+1)*5-5=i*5 by omega,show (i+1)*5+1-5=i*5+1 by omega,show (i+1)*5+2-5=i*5+2 by omega,show (i+1)*5+3-5=i*5+3 by omega,show (i+1)*5+4-5=i*5+4 by omega]
   exact h1
def Jp (lo:Nat) (w:World) (s:Nat) (r:Rn) (qs:List Nat) (an:List Tm) (Y:PM) (e:Ending) (w':World):Prop:=e=.returned (.tuple #[])/\∃r',MX lo w' s r' Y qs an/\RK w s r r'/\Bw (cm s r) w.heap.size w w'
theorem Pm {P:Pg} {f:Nat} {X:PM} {c:jo} (h:X.fin=0) (hc:X.cs.getLast?=some c):fz P (f+1) X=match i4 P c.cl { am c { X with cs:=X.cs.dropLast} with left:=4000} with
 | (Y,true)=>Y
 | (Y,false)=>fz P f Y:=by
 rw[fz,if_neg (by simp[h]),hc]
 rfl
section
variable {lo:Nat} {w w':World} {s:Nat} {r:Rn} {X:PM} {qs:List Nat} {an:List Tm}
theorem MN.cutC {h:List Cl} {gs:List Gq} {cs:List jo} {tr:List Nat} (M:MN lo w s r h gs cs tr qs an) {a:Option Addr} {cp k:Nat} (hcv:r.cv=.slice a cs.length cp) (ha:a=none->cs.length=0/\cp=0) (hk:k<=cs.length):MN lo (w.setCell ⟨s,3,none⟩ (.slice a k cp)) s { r with cv:=.slice a k cp} h gs (cs.take k) tr qs an/\(Value.slice a k cp).ownBlock=r.cv.ownBlock:=by
 have hrow:w.ownsRow lo 78 5 (.slice a k cp) (cs.take k).length (dq (cs.take k)):=by
  have:=M.ch;rw[hcv]at this;rw[List.length_take,Nat.min_eq_left hk];exact su this hk (E0 cs k) (fun e=>⟨by have:=(ha e).1;omega,(ha e).2⟩)
 have he:(Value.slice a k cp).ownBlock=r.cv.ownBlock:=by rw[hcv];cases a <;> rfl
 exact ⟨(M.toC (X:=fun _=>False) (Bw.refl _ _ _) (fun k hk=>hk.elim) (fun A hA=>NM.old (M.all A hA).1 (fun k hk=>hk.elim)) hrow (.inl he)).1,he⟩
theorem nr (w:World) (M:MX lo w s r X qs an) (hlo:lo<=w.heap.size) (hO:jm r.P.len qs X) (hC:i7 r.P) (hP:jc w s r) (hg5:X.gs.length<=5000) (htr:X.tr.length<=8000000) (hcs:X.cs.length<=1000000):
 Calls prog 111 #[.pointer (some ⟨s,0,none⟩)] w (Jp lo w s r qs an (dr r.P X)):=by
 have HM:=hid M;have HO0:=hid hO;have HP0:=hid hP;have HC:=hid hC;clear M hO hP hC
 go_enter Tryz.func111,Tryz.ntmps111
 go_wp2_with fail
 go_loopg [] X.cs.length (fun fu wr=>∃(r1:Rn) (Y:PM),MX lo wr s r1 Y qs an/\jm r.P.len qs Y/\RK w s r r1/\Bw (cm s r) w.heap.size w wr/\jc wr s r1/\dr r.P X=fz r.P (fu+1) Y/\Y.cs.length<=fu/\Y.gs.length<=5000/\Y.tr.length<=8000000/\Y.cs.length<=1000000)
 case atStart=>
  exact ⟨r,X,HM.o,HO0.o,⟨rfl,rfl,rfl,rfl,fun _ _ h=>h⟩,Bw.refl _ _ _,HP0.o,rfl,lZ,hg5,htr,hcs⟩
 case round=>
  obtain ⟨r1,Y,hM1,hO1,hK1,hB1,hP1,hE1,hle,hgl,htl,hcl⟩:=hrel;have HM1:=hid hM1;have HO1:=hid hO1;have HK1:=hid hK1;have HB1:=hid hB1;have HP1:=hid hP1;have HE1:=hid hE1;obtain ⟨⟨_,_,_,y3,_⟩,⟨_,y7,_⟩,yf⟩:=hM1.mn.blk.get;rw[hM1.fin]at y7;obtain ⟨ca,cp,hcv,hcp,hcn,hcg⟩:=ak hM1.mn.ch;rw[hcv]at y3;have yf3:=yf 3;have yf7:=yf 7;have yf10:=yf 10;have hws:=hB1.size;have hslt:=hM1.mn.blk.lt;clear hM1 hO1 hK1 hB1 hP1 hE1 yf
  by_cases hfin:Y.fin=0
  case neg=>
   have hfb:=bF hfin;have HF:Hid (dr r.P X=Y):=by rw[Hid,HE1.o,fz,if_pos hfin]
   clear hfin hcv hcn hcg;go_wp2_with fail
   go_end0
   exact ⟨rfl,r1,by rw[HF.o];exact HM1.o,HK1.o,HB1.o⟩
  have hfb:=beq_iff_eq.2 hfin;have HFin:=hid hfin
  by_cases hch:Y.cs= []
  case pos=>
   have HF:Hid (dr r.P X= { Y with fin:=1}):=by rw[Hid,HE1.o,fz,if_neg (by simp[hfin]),hch];rfl
   have hz:Y.cs.length=0:=by rw[hch];rfl
   rw[hz]at y3;clear hfin hch hcv hcn hcg;go_wp2_with fail
   go_end0
   have hM2:=HM1.o.mn.int 7 1 (r':= { r1 with fin:=1}) rfl ⟨rfl,rfl,rfl,rfl,rfl,rfl⟩
   refine ⟨rfl,{ r1 with fin:=1},?_,⟨HK1.o.q,HK1.o.st,HK1.o.av,HK1.o.P,HK1.o.own⟩,HB1.o.grown (af s 7 _) hws (fun k e=> .inr (.inl (oj e).symm))⟩
   rw[HF.o];exact ⟨hM2,HM1.o.first,HM1.o.left,rfl⟩
  obtain ⟨l,c,hlc⟩: ∃l c,Y.cs=l++ [c]:=by
   rcases List.eq_nil_or_concat Y.cs with h| ⟨l,c,h⟩
   .exact absurd h hch
   .exact ⟨l,c,by rw[h,List.concat_eq_append]⟩
  have hlast:Y.cs.getLast?=some c:=by rw[hlc];simp
  have hdl:Y.cs.dropLast=l:=by rw[hlc];simp
  have hln:Y.cs.length=l.length+1:=by rw[hlc];simp
  have hget:Y.cs[l.length]?=some c:=by rw[hlc];simp
  have hCc:=HO1.o.ch c (List.mem_of_getLast? hlast)
  obtain ⟨g,rfl⟩: ∃g,ca=some ⟨g,0,none⟩:=by
   cases ca with
   |none=>have:=(hcn rfl).1;omega
   |some ad=>obtain ⟨g,e⟩:=hcg ad rfl;exact ⟨g,by rw[e]⟩
  have hk5:=yl Y.cs l.length c hget;have hfl:=It Y.cs;have hrow:=HM1.o.mn.ch;rw[hcv]at hrow;have d0:=(hrow.cellAt (l.length*5) (by omega)).trans hk5.1
  have d1:=(hrow.cellAt (l.length*5+1) (by omega)).trans hk5.2.1
  have d2:=(hrow.cellAt (l.length*5+2) (by omega)).trans hk5.2.2.1
  have d3:=(hrow.cellAt (l.length*5+3) (by omega)).trans hk5.2.2.2.1
  have d4:=(hrow.cellAt (l.length*5+4) (by omega)).trans hk5.2.2.2.2
  have HEb:Hid (dr r.P X=match i4 r.P c.cl { am c { Y with cs:=l} with left:=4000} with
   | (Z,true)=>Z
   | (Z,false)=>fz r.P gk Z):=by rw[Hid,HE1.o,Pm hfin hlast,hdl]
  have HCc:=hid hCc
  have HOb:Hid (jm r.P.len qs (am c { Y with cs:=l})):=by have:=HO1.o.back hlast;rw[hdl]at this;exact this
  have hcut:=HM1.o.mn.cutC (k:=l.length) hcv (fun e=>by cases e) (by omega)
  have htk:Y.cs.take l.length=l:=by rw[hlc];simp
  rw[htk]at hcut;have HMc:=hid hcut.1;have HCv:=hid hcut.2;rw[hln]at y3 hle hcl hcp;have hto:=fun W=>N1 (some ⟨g,0,none⟩) (l.length+1) cp l.length (by omega) hcp W
  have hkk:((l.length+1:Nat):Int)-1=(l.length:Int):=by omega
  have hwk:IntKind.i64.wrap (l.length:Int)=(l.length:Int):=by simp[IntKind.wrap,IntKind.bits,IntKind.signed];omega
  have hd:=decide_eq_false (by omega)
  have hKI:(l.length:Int)<((l.length+1:Nat):Int):=by omega
  have HBn:Hid (Below wr.heap.size wr (wr.alloc (.cells #[iV (c.goal:Int),iV (c.cl:Int),iV (c.hp:Int),iV (c.tr:Int),iV (c.gs:Int)] 78))):=bA;have z3:=(HBn.o.cell (ag y3)).trans y3;have zf3:=(HBn.o.frozen (p:=⟨s,3,none⟩) hslt).trans yf3;clear hfin hch hcv hcn hcg hlast hdl hln hget hCc hk5 hfl hrow hcut htk hlc;go_wp2_with fail;have hz:(wr.setCell ⟨s,3,none⟩ (sZ g l.length cp)).heap.size=wr.heap.size:=by simp[World.setCell]
  have HMd:Hid (MN lo ((wr.setCell ⟨s,3,none⟩ (sZ g l.length cp)).alloc (.cells #[iV (c.goal:Int),iV (c.cl:Int),iV (c.hp:Int),iV (c.tr:Int),iV (c.gs:Int)] 78)) s { r1 with cv:=sZ g l.length cp} Y.h Y.gs l Y.tr qs an):=HMc.o.below bA
  have HNd:Hid (((wr.setCell ⟨s,3,none⟩ (sZ g l.length cp)).alloc (.cells #[iV (c.goal:Int),iV (c.cl:Int),iV (c.hp:Int),iV (c.tr:Int),iV (c.gs:Int)] 78)).heap[wr.heap.size]?=some (.cells #[iV (c.goal:Int),iV (c.cl:Int),iV (c.hp:Int),iV (c.tr:Int),iV (c.gs:Int)] 78)):=by
   have:=hZ (wr.setCell ⟨s,3,none⟩ (sZ g l.length cp)) (.cells #[iV (c.goal:Int),iV (c.cl:Int),iV (c.hp:Int),iV (c.tr:Int),iV (c.gs:Int)] 78)
   rwa [hz]at this
  have HMu:Hid (∀k,cm s { r1 with cv:=sZ g l.length cp} k->cm s r1 k/\k<wr.heap.size):=fun k hm=>by
   have h1:cm s r1 k:=by
    rcases hm with e|e|e|e|e|e
    .exact .inl e
    .exact .inr (.inl e)
    .exact rZ (.inl e)
    .exact rZ (.inr (.inl (HCv.o▸e)))
    .exact rZ (rZ (.inl e))
    .exact rZ (rZ (.inr e))
   refine ⟨h1,?_⟩;have M:=HM1.o.mn
   rcases h1 with e|e|e|e|e|e
   .rw[e];exact M.blk.lt
   .exact fj M.hp e
   .exact fj M.go e
   .exact fj M.ch e
   .exact fj M.tl e
   .exact fj M.anr e
  have HBd:Hid (Bw (cm s r1) wr.heap.size wr ((wr.setCell ⟨s,3,none⟩ (sZ g l.length cp)).alloc (.cells #[iV (c.goal:Int),iV (c.cl:Int),iV (c.hp:Int),iV (c.tr:Int),iV (c.gs:Int)] 78))):=((Bw.refl _ _ wr).grown (af s 3 _) lZ (fun k hk=> .inr (.inl (oj hk).symm))).trans (Bw.ofBelow (bR.alloc (by omega) _))
  have hsd:wr.heap.size<((wr.setCell ⟨s,3,none⟩ (sZ g l.length cp)).alloc (.cells #[iV (c.goal:Int),iV (c.cl:Int),iV (c.hp:Int),iV (c.tr:Int),iV (c.gs:Int)] 78)).heap.size:=(aZ HNd.o)
  have HUc:Hid (Calls prog 136 #[pZ s,.agg #[iV (c.goal:Int),iV (c.cl:Int),iV (c.hp:Int),iV (c.tr:Int),iV (c.gs:Int)]] ((wr.setCell ⟨s,3,none⟩ (sZ g l.length cp)).alloc (.cells #[iV (c.goal:Int),iV (c.cl:Int),iV (c.hp:Int),iV (c.tr:Int),iV (c.gs:Int)] 78)) fun e w'=>e=.returned (.tuple #[])/\∃r',MX lo w' s r' (am c { Y with cs:=l}) qs an/\RK ((wr.setCell ⟨s,3,none⟩ (sZ g l.length cp)).alloc (.cells #[iV (c.goal:Int),iV (c.cl:Int),iV (c.hp:Int),iV (c.tr:Int),iV (c.gs:Int)] 78)) s { r1 with cv:=sZ g l.length cp} r'/\r'.cv=sZ g l.length cp/\Bw (cm s { r1 with cv:=sZ g l.length cp}) ((wr.setCell ⟨s,3,none⟩ (sZ g l.length cp)).alloc (.cells #[iV (c.goal:Int),iV (c.cl:Int),iV (c.hp:Int),iV (c.tr:Int),iV (c.gs:Int)] 78)).heap.size ((wr.setCell ⟨s,3,none⟩ (sZ g l.length cp)).alloc (.cells #[iV (c.goal:Int),iV (c.cl:Int),iV (c.hp:Int),iV (c.tr:Int),iV (c.gs:Int)] 78)) w'):=
   Kh (c:=c) (X:= { Y with cs:=l}) ((wr.setCell ⟨s,3,none⟩ (sZ g l.length cp)).alloc (.cells #[iV (c.goal:Int),iV (c.cl:Int),iV (c.hp:Int),iV (c.tr:Int),iV (c.gs:Int)] 78)) ⟨HMd.o,HM1.o.first,HM1.o.left,HM1.o.fin⟩ HCc.o.hp HCc.o.tr HCc.o.gs (by show Y.tr.length<=10000000;omega)
  clear y3 y7 d0 d1 d2 d3 d4 z3 zf3 yf3 yf7 yf10 hz hto;refine HUc.o.mono ?_;rintro e w5 ⟨rfl,r5,hM5,hK5,_,hB5⟩;clear HUc;have HM5:=hid hM5
  have HRd:Hid (RK wr s r1 { r1 with cv:=sZ g l.length cp}):=⟨rfl,rfl,rfl,rfl,fun k _ hm=>(HMu.o k hm).1⟩
  have HX5:Hid (w5.heap[wr.heap.size]?=some (.cells #[iV (c.goal:Int),iV (c.cl:Int),iV (c.hp:Int),iV (c.tr:Int),iV (c.gs:Int)] 78)):=(hB5.block _ hsd (fun hm=>by have:=(HMu.o _ hm).2;omega)).trans HNd.o
  have HK5:=hid (HRd.o.trans hK5 (by omega))
  have HB5:=hid (kz HBd.o HRd.o hB5);have hs5:=hB5.size;generalize ((wr.setCell ⟨s,3,none⟩ (sZ g l.length cp)).alloc (.cells #[iV (c.goal:Int),iV (c.cl:Int),iV (c.hp:Int),iV (c.tr:Int),iV (c.gs:Int)] 78))=wd at*;obtain ⟨_,⟨_,_,_,_,y10⟩,yf⟩:=hM5.mn.blk.get;have yf10:=yf 10
  have hM6:=hM5.mn.int 10 4000 (r':= { r5 with left:=4000}) rfl ⟨rfl,rfl,rfl,rfl,rfl,rfl⟩
  have HM6:Hid (MX lo (w5.setCell ⟨s,10,none⟩ (iV 4000)) s { r5 with left:=4000} { am c { Y with cs:=l} with left:=4000} qs an):=⟨hM6,hM5.first,rfl,hM5.fin⟩
  have hg6:=af (W:=w5) s 10 (iV 4000);have HX6:Hid ((w5.setCell ⟨s,10,none⟩ (iV 4000)).heap[wr.heap.size]?=some (.cells #[iV (c.goal:Int),iV (c.cl:Int),iV (c.hp:Int),iV (c.tr:Int),iV (c.gs:Int)] 78)):=(hg6.block _ (by omega) (fun e=>by have:=oj e;omega)).trans HX5.o
  have HK6:Hid (RK wr s r1 { r5 with left:=4000}):=⟨HK5.o.q,HK5.o.st,HK5.o.av,HK5.o.P,HK5.o.own⟩
  have HB6:Hid (Bw (cm s r1) wr.heap.size wr (w5.setCell ⟨s,10,none⟩ (iV 4000))):=HB5.o.grown hg6 (by omega) (fun k e=> .inr (.inl (oj e).symm))
  have x1:(w5.setCell ⟨s,10,none⟩ (iV 4000)).cell? ⟨wr.heap.size,1,none⟩=some (iV (c.cl:Int)):=by simp[World.cell?,HX6.o]
  have hs6:=hg6.size;clear hM5 hK5 hB5 yf hM6 hg6;go_wp2_with fail;generalize w5.setCell ⟨s,10,none⟩ (iV 4000)=w6 at*;have hcb:=HCc.o.back (l:=l);have hP6:r5.P=r.P:=HK6.o.P.trans HK1.o.P
  have HTr:Hid (Calls prog 113 #[pZ s,iV (c.cl:Int)] w6 (Rs lo w6 s { r5 with left:=4000} qs an (i4 r.P c.cl { am c { Y with cs:=l} with left:=4000}))):=by
   have hO:=HOb.o;have hgo:=hO.s.go (c.goal-1) _ (lp hcb.1 hcb.2.1)
   have h1:=Bp (i:=c.goal-1) (fr:=c.cl) w6 HM6.o (by omega) hO.s.hg hcb.1 hcb.2.1 (by have:=hcb.2.2.1;show (am c { Y with cs:=l}).gs.length<=5000;have:(am c { Y with cs:=l}).gs.length<=Y.gs.length:=hcb.2.2.1;omega) hgo.1 HCc.o.fn (by show c.cl<=r5.P.len;rw[hP6];exact HCc.o.cl) (HP1.o.next HB6.o HK6.o) (fun _=>⟨4000,rfl,lZ⟩) (by have:(am c { Y with cs:=l}).tr.length<=Y.tr.length:=hcb.2.2.2;show (am c { Y with cs:=l}).tr.length<=9000000;omega) (by show l.length<=1000000;omega)
   rw[Hid,<-hP6];exact h1
  have hTO:=pz (fr:=c.cl) (X:= { am c { Y with cs:=l} with left:=4000}) HC.o (HOb.o.same rfl rfl rfl HOb.o.fst rfl) hcb.1 hcb.2.1 HCc.o.fn HFin.o ⟨4000,rfl,lZ⟩
  have HTO:=hid hTO;have hgu:=hcb.2.2.1;have htu:=hcb.2.2.2;clear hTO hcb x1;refine HTr.o.mono ?_;rintro e w7 ⟨rfl,r7,hM7,hK7,hB7⟩;clear HTr;have HK7:=hid ((HK1.o.trans HK6.o hws).trans hK7 (by omega))
  have HB7:=hid (kz (kz HB1.o HK1.o HB6.o) (HK1.o.trans HK6.o hws) hB7);have HP7:=hid ((HP1.o.next HB6.o HK6.o).next hB7 hK7);clear hK7 hB7
  obtain ⟨q,hq⟩: ∃q,i4 r.P c.cl { am c { Y with cs:=l} with left:=4000} =q:=⟨_,rfl⟩
  rw[hq]at hM7 HTO HEb |-;obtain ⟨Z,ok⟩:=q;have HM7:=hid hM7;clear hM7 hq
  cases ok with
  |true=>
   have HF:=hid HEb.o;go_wp2_with fail
   go_end0
   exact ⟨rfl,r7,by rw[HF.o];exact HM7.o,HK7.o,HB7.o⟩
  |false=>
   have HF:=hid HEb.o;obtain ⟨_,lf,fn,hZ,_⟩:=HTO.o.resolve_right (fun h=>by cases h.1)
   have hZ':Z= { am c { Y with cs:=l} with left:=lf,fin:=fn}:=hZ
   have HOz:Hid (jm r.P.len qs Z):=by rw[Hid,hZ'];exact HOb.o.same rfl rfl rfl HOb.o.fst rfl
   have hZc:Z.cs.length=l.length:=by rw[hZ'];rfl
   have hZg:Z.gs.length<=5000:=by rw[hZ'];show (am c { Y with cs:=l}).gs.length<=5000;omega
   have hZt:Z.tr.length<=8000000:=by rw[hZ'];show (am c { Y with cs:=l}).tr.length<=8000000;omega
   clear hZ hZ';go_wp2_with fail
   go_roundg (gk-1)
   case measure=>omega
   case rel=>exact ⟨r7,Z,HM7.o,HOz.o,HK7.o,HB7.o,HP7.o,by rw[show gk-1+1=gk from by omega];exact HF.o,by omega,hZg,hZt,by omega⟩
end
end
end Go.Proofs.YtmggaclaoefdaabGreat
