/- Part of the proof. Part of the proof. -/
import Derived.Test.YtmggaclaoefdaabGreatSq0
import Derived.Test.YtmggaclaoefdaabGreatGBG
import Derived.Test.YtmggaclaoefdaabGreatHr8
import Derived.Test.YtmggaclaoefdaabGreatMzC
namespace Go.Proofs.YtmggaclaoefdaabGreat
open Go.RowKit
set_option linter.unusedVariables false
set_option linter.unusedSimpArgs false
structure BkO (n:Nat) (qs:List Nat) (X Y:PM):Prop where
 ok:OkM n qs Y
 gs:Y.gs.length≤5000
 tr:Y.tr.length≤X.tr.length+4000
 cs:Y.cs.length≤X.cs.length
theorem OkM.same {n:Nat} {qs:List Nat} {X Y:PM} (M:OkM n qs X) (h1:Y.h=X.h) (h2:Y.tr=X.tr) (h3:Y.gs=X.gs) (h4:Y.first≤X.gs.length) (h5:Y.cs=X.cs):OkM n qs Y:=M.ext ((Ext.refl X).same h1 h2 h3) (by rw[h1,h2,h3];exact M.s) (by rw[h3];exact h4) (by rw[h5];exact List.Sublist.refl _)
theorem OkC.back {n:Nat} {qs:List Nat} {X:PM} {c:Chq} (h:OkC n qs X c) {l:List Chq}:(undoP c { X with cs:=l}).first=c.goal-1+1∧c.goal-1<(undoP c { X with cs:=l}).gs.length∧(undoP c { X with cs:=l}).gs.length≤X.gs.length∧(undoP c { X with cs:=l}).tr.length≤X.tr.length:=by
 have:=h.goal;have:=h.gs;refine ⟨by show c.goal=_;omega,?_,?_,?_⟩
 ·show c.goal-1<(X.gs.take c.gs).length
  rw[List.length_take];omega
 ·show (X.gs.take c.gs).length≤_
  rw[List.length_take];omega
 ·show (X.tr.take c.tr).length≤_
  rw[List.length_take];omega
theorem backF_out {P:Pg} (hC:ClOk P) {qs:List Nat}: ∀(f:Nat) (X:PM),OkM P.len qs X→X.gs.length≤5000→BkO P.len qs X (backF P f X):=by
 intro f
 induction f with
 |zero=>intro X hO hg;exact ⟨hO,hg,Nat.le_add_right _ _,Nat.le_refl _⟩
 |succ f ih=>
  intro X hO hg;rw[backF]
  by_cases hfin:X.fin≠0
  ·rw[if_pos hfin];exact ⟨hO,hg,Nat.le_add_right _ _,Nat.le_refl _⟩
  rw[if_neg hfin];have hfin0:X.fin=0:=Classical.not_not.1 hfin
  cases hl:X.cs.getLast? with
  |none=>exact ⟨hO.same rfl rfl rfl hO.fst rfl,hg,Nat.le_add_right _ _,Nat.le_refl _⟩
  |some c=>
   have hm:=List.mem_of_getLast? hl;have hc:=hO.ch c hm;have hb:=hc.back (l:=X.cs.dropLast);have hO1:=hO.back hl
   have hO2:OkM P.len qs { undoP c { X with cs:=X.cs.dropLast} with left:=4000}:=hO1.same rfl rfl rfl hO1.fst rfl
   have hT:=tryM_out (fr:=c.cl) hC hO2 hb.1 hb.2.1 hc.fn hfin0 ⟨4000,rfl,Nat.le_refl _⟩
   have hcl:X.cs.dropLast.length+1=X.cs.length:=by
    rw[List.length_dropLast];have:0<X.cs.length:=List.length_pos_of_mem hm;omega
   show BkO P.len qs X (match tryM P c.cl { undoP c { X with cs:=X.cs.dropLast} with left:=4000} with| (Y,true)=>Y| (Y,false)=>backF P f Y)
   have hg2:({ undoP c { X with cs:=X.cs.dropLast} with left:=4000}:PM).gs.length≤X.gs.length:=hb.2.2.1
   have ht2:({ undoP c { X with cs:=X.cs.dropLast} with left:=4000}:PM).tr.length≤X.tr.length:=hb.2.2.2
   have hZc:({ undoP c { X with cs:=X.cs.dropLast} with left:=4000}:PM).cs.length+1=X.cs.length:=hcl
   generalize ({ undoP c { X with cs:=X.cs.dropLast} with left:=4000}:PM)=Z at*
   generalize tryM P c.cl Z=q at*;obtain ⟨Y,ok⟩:=q
   rcases hT with ⟨e,lf,fn,hY,_⟩| ⟨e,hY⟩
   ·have e':ok=false:=e
    subst e'
    have hY':Y= { Z with left:=lf,fin:=fn}:=hY
    subst hY'
    have h1:=ih { Z with left:=lf,fin:=fn} (hO2.same rfl rfl rfl hO2.fst rfl) (by show Z.gs.length≤5000;omega)
    exact ⟨h1.ok,h1.gs,by have h2:_≤Z.tr.length+4000:=h1.tr;show (backF P f _).tr.length≤_;omega,by have h2:_≤Z.cs.length:=h1.cs;show (backF P f _).cs.length≤_;omega⟩
   ·have e':ok=true:=e
    subst e';have hY':TryY P.len qs Z Y:=hY;refine ⟨hY'.ok,hY'.gs,by have:=hY'.tr;show Y.tr.length≤_;omega,?_⟩
    show Y.cs.length≤_
    rcases hY'.cs with e| ⟨k,e⟩
    ·rw[e];omega
    ·rw[e,List.length_append];simp;omega
theorem backM_out {P:Pg} (hC:ClOk P) {qs:List Nat} {X:PM} (hO:OkM P.len qs X) (hg:X.gs.length≤5000):BkO P.len qs X (backM P X):=backF_out hC _ X hO hg
noncomputable def eqR (X:PM):MR:=smH (X.left.toNat+1) (atM X+1) (atM X+2) (X.left.toNat,X.h,[])
noncomputable def eqX (X:PM):PM:= { X with first:=(goalM X).nx,h:=(eqR X).l,tr:=X.tr++(eqR X).bs,left:=(eqR X).left,fin:=if (eqR X).left<0 then 3 else X.fin}
noncomputable def takeM (P:Pg) (X:PM):PM:=
 if (hOf X.h (atM X)).k=1 then { X with fin:=4}
 else if isT (nameT (hOf X.h (atM X))) nCut 0 then { X with cs:=X.cs.take (goalM X).cut,first:=(goalM X).nx}
 else if isT (nameT (hOf X.h (atM X))) nTrue 0 then { X with first:=(goalM X).nx}
 else if isT (nameT (hOf X.h (atM X))) nFail 0 then backM P X
 else if isT (nameT (hOf X.h (atM X))) nEq 2 then if (eqR X).ok then eqX X else backM P (eqX X)
 else match tryM P 0 X with
  | (Y,true)=>Y
  | (Y,false)=>backM P Y
theorem goal_get {X:PM} {i:Nat} (hf:X.first=i+1) (hi:i<X.gs.length):X.gs[i]?=some (goalM X):=by
 unfold goalM;rw[hf,Nat.add_sub_cancel,List.getD_eq_getElem?_getD,List.getElem?_eq_getElem hi]
 rfl
theorem isT_name {c:Cl} {nm:ByteArray} {n:Nat} (h:isT (nameT c) nm n=true):c.nm.toList=nm.toList∧c.n.toNat=n:=by
 unfold isT at h;simp at h;exact h
theorem eq_args {qs:List Nat} {n:Nat} {X:PM} {i:Nat} (hO:OkM n qs X) (hf:X.first=i+1) (hi:i<X.gs.length) (hk: ¬(hOf X.h (atM X)).k=1) (ht:isT (nameT (hOf X.h (atM X))) nEq 2=true):atM X<X.h.length∧atM X+1<X.h.length∧atM X+2<X.h.length:=by
 have hgo:=hO.s.go i _ (goal_get hf hi);have hatl:atM X<X.h.length:=hO.s.hg.end_lt hgo.1;have hk2:(hOf X.h (atM X)).k=2:=(hO.s.hg.kind _ hatl).resolve_left hk;have hn:=(isT_name ht).2;have h0:=hO.s.hg.ok.n0 _ hatl;have h1:=(hO.s.hg.kids _ hatl hk2 0 (by omega)).1
 have h2:=(hO.s.hg.kids _ hatl hk2 1 (by omega)).1
 exact ⟨hatl,by omega,by omega⟩
theorem eq_out {qs:List Nat} {n:Nat} {X:PM} {i:Nat} (hO:OkM n qs X) (hf:X.first=i+1) (hi:i<X.gs.length) (hk: ¬(hOf X.h (atM X)).k=1) (ht:isT (nameT (hOf X.h (atM X))) nEq 2=true) (hl: ∃n:Nat,X.left=(n:Int)∧n≤4000):Ext X (eqX X)∧OkM n qs (eqX X)∧(eqX X).tr.length≤X.tr.length+4000:=by
 obtain ⟨hatl,h1,h2⟩:=eq_args hO hf hi hk ht;have hgo:=hO.s.go i _ (goal_get hf hi);obtain ⟨m,hm,hm4⟩:=hl
 have hER:eqR X=smH (m+1) (atM X+1) (atM X+2) (m,X.h,[]):=by
  unfold eqR;rw[hm,Int.toNat_natCast]
 have hG:=hO.s.hg;have hGd:(eqR X).Good (m,X.h,[]):=by rw[hER];exact smH_good _ _ _ _ ⟨hG,hG.nmZ⟩ h1 h2
 have hUd:(eqR X).Und (m,X.h,[]):=by rw[hER];exact smH_und _ _ _ _ ⟨hG,hG.nmZ⟩ h1 h2
 obtain ⟨new,u1,u2,u3⟩:=hUd;have u1':(eqR X).bs=new:=u1;have hln:(eqR X).l.length=X.h.length:=hGd.len;have hbs:(eqR X).bs.length≤0+m:=hGd.bs';have hE:Ext X (eqX X):=⟨by show X.h.length≤(eqR X).l.length;omega,⟨new,by rw[←u1'];rfl,fun i hi hm=>u2 i hm,fun i hi _=>(u3 i hi).2⟩,List.take_length⟩
 refine ⟨hE,hO.ext hE ⟨hGd.hg,fun k g hg=>?_,fun x hx=>?_,fun x hx=>?_⟩ ?_ (List.Sublist.refl _),?_⟩
 ·have:=hO.s.go k g hg
  exact ⟨by show g.at_<(eqR X).l.length;omega,this.2⟩
 ·have hx':x∈X.tr++(eqR X).bs:=hx
  show x<(eqR X).l.length
  rcases List.mem_append.1 hx' with h|h
  ·have:=hO.s.tl x h;omega
  ·rw[u1']at h
   have:x<X.h.length:=(u3 x h).1;omega
 ·have:=hO.s.qu x hx
  show x<(eqR X).l.length
  omega
 ·have:=hgo.2
  show (goalM X).nx≤X.gs.length
  omega
 ·show (X.tr++(eqR X).bs).length≤_
  rw[List.length_append];omega
structure TkO (n:Nat) (qs:List Nat) (X Y:PM):Prop where
 ok:OkM n qs Y
 gs:Y.gs.length≤5000
 tr:Y.tr.length≤X.tr.length+8000
 cs:Y.cs.length≤X.cs.length+1
theorem takeM_out {P:Pg} (hC:ClOk P) {qs:List Nat} {X:PM} {i:Nat} (hO:OkM P.len qs X) (hg:X.gs.length≤5000) (hf:X.first=i+1) (hi:i<X.gs.length) (hn:X.fin=0) (hl: ∃n:Nat,X.left=(n:Int)∧n≤4000):TkO P.len qs X (takeM P X):=by
 have hgo:=hO.s.go i _ (goal_get hf hi);have hatl:=hO.s.hg.end_lt hgo.1;have hnx:(goalM X).nx≤X.gs.length:=by have:=hgo.2;omega
 have hB: ∀Y:PM,OkM P.len qs Y→Y.gs.length≤5000→Y.tr.length≤X.tr.length+4000→Y.cs.length≤X.cs.length→TkO P.len qs X (backM P Y):=fun Y h1 h2 h3 h4=>by
  have:=backM_out hC h1 h2;exact ⟨this.ok,this.gs,by have:=this.tr;omega,by have:=this.cs;omega⟩
 unfold takeM
 by_cases hk:(hOf X.h (atM X)).k=1
 ·rw[if_pos hk];exact ⟨hO.same rfl rfl rfl hO.fst rfl,hg,Nat.le_add_right _ _,Nat.le_add_right _ _⟩
 rw[if_neg hk]
 by_cases h1:isT (nameT (hOf X.h (atM X))) nCut 0=true
 ·rw[if_pos h1]
  exact ⟨hO.ext ((Ext.refl X).same rfl rfl rfl) hO.s hnx (List.take_sublist _ _),hg,Nat.le_add_right _ _,by show (X.cs.take _).length≤_;rw[List.length_take];omega⟩
 rw[if_neg h1]
 by_cases h2:isT (nameT (hOf X.h (atM X))) nTrue 0=true
 ·rw[if_pos h2];exact ⟨hO.same rfl rfl rfl hnx rfl,hg,Nat.le_add_right _ _,Nat.le_add_right _ _⟩
 rw[if_neg h2]
 by_cases h3:isT (nameT (hOf X.h (atM X))) nFail 0=true
 ·rw[if_pos h3];exact hB X hO hg (Nat.le_add_right _ _) (Nat.le_refl _)
 rw[if_neg h3]
 by_cases h4:isT (nameT (hOf X.h (atM X))) nEq 2=true
 ·rw[if_pos h4]
  obtain ⟨e1,e2,e3⟩:=eq_out hO hf hi hk h4 hl
  by_cases h5:(eqR X).ok=true
  ·rw[if_pos h5];exact ⟨e2,hg,by omega,Nat.le_add_right _ _⟩
  ·rw[if_neg h5];exact hB (eqX X) e2 hg e3 (Nat.le_refl _)
 rw[if_neg h4];have hk2:=(hO.s.hg.kind _ hatl).resolve_left hk;have hT:=tryM_out (fr:=0) hC hO hf hi hk2 hn hl;generalize tryM P 0 X=q at*;obtain ⟨Y,ok⟩:=q
 rcases hT with ⟨e,lf,fn,hY,_⟩| ⟨e,hY⟩
 ·have e':ok=false:=e
  subst e';have hY':=hY;subst hY';exact hB _ (hO.same rfl rfl rfl hO.fst rfl) hg (Nat.le_add_right _ _) (Nat.le_refl _)
 ·have e':ok=true:=e
  subst e';have hY':TryY P.len qs X Y:=hY;refine ⟨hY'.ok,hY'.gs,by have:=hY'.tr;show Y.tr.length≤_;omega,?_⟩
  show Y.cs.length≤_
  rcases hY'.cs with e| ⟨k,e⟩
  ·rw[e];omega
  ·rw[e,List.length_append];simp
noncomputable def readM (h:List Cl) (qs:List Nat):List Tm:=
 (qs.map (std (hOf h) h.length)).map fun T=>ap (nmOf (num (addV [] ((qs.map (std (hOf h) h.length)).map vsT).flatten))) T
structure FM where
 m:PM
 an:List (List Tm)
 st:Nat
noncomputable def answerM (P:Pg) (qs:List Nat) (Y:FM):FM:=
 if 200<sumC (hOf Y.m.h) Y.m.h.length qs then { Y with m:= { Y.m with fin:=3} }
 else if 40≤Y.an.length+1 then { Y with m:= { Y.m with fin:=1},an:=Y.an++ [readM Y.m.h qs]}
 else { Y with m:=backM P Y.m,an:=Y.an++ [readM Y.m.h qs]}
noncomputable def settleM (P:Pg) (qs:List Nat):Nat→FM→FM
 |0,Y=>Y
 |f+1,Y=>if Y.m.fin=0∧Y.m.first=0 then settleM P qs f (answerM P qs Y)else Y
noncomputable def stepM (P:Pg) (qs:List Nat) (Y:FM):FM:=
 if Y.m.fin=0∧Y.m.first≠0 then settleM P qs 41 { Y with m:=takeM P { Y.m with left:=4000},st:=Y.st+1} else settleM P qs 41 Y
noncomputable def runM (P:Pg) (qs:List Nat) (limit:Nat):Nat→FM→FM
 |0,Y=>Y
 |f+1,Y=>if Y.m.fin=0∧Y.st<limit then runM P qs limit f (stepM P qs Y)else Y
end Go.Proofs.YtmggaclaoefdaabGreat

namespace Go.Proofs.YtmggaclaoefdaabGreat
open Go.RowKit Go.Shelf
set_option linter.unusedVariables false
set_option linter.unusedSimpArgs false
attribute [local go_sem] Oper.semAt_some
theorem infoChq:(Tryz.prog.info? 78).map (fun i=>(i.zero,i.size,i.bytes))=some (some (.agg #[iV 0,iV 0,iV 0,iV 0,iV 0]),5,40):=by kernel_rfl
theorem toK_run (a:Option Addr) (ln cp k:Nat) (h:k≤ln) (hc:ln≤cp) (W:World):(Instr.slice 27 (.slice a ln cp) none (some (iV k)) none).run Tryz.prog W=.ok (.slice a k cp) W:=by
 obtain ⟨i0,hi,hz0,hz1,hz2⟩:=info_parts infoChq;have h':(k:Int)≤(cp:Int):=by omega
 cases a with
 |none=>simp[Instr.slice,run_underlying Tryz.underlying27,Instr.sliceBounds,run_sliceBound,sizeOf,typeInfo,hi,h',Addr.add]
 |some ad=>simp[Instr.slice,run_underlying Tryz.underlying27,Instr.sliceBounds,run_sliceBound,sizeOf,typeInfo,hi,h',Addr.add]
theorem flatK_get: ∀(l:List Chq) (i:Nat) (c:Chq),l[i]?=some c→(flatK l)[i*5]?=some (iV (c.goal:Int))∧(flatK l)[i*5+1]?=some (iV (c.cl:Int))∧(flatK l)[i*5+2]?=some (iV (c.hp:Int))∧(flatK l)[i*5+3]?=some (iV (c.tr:Int))∧(flatK l)[i*5+4]?=some (iV (c.gs:Int)):=by
 intro l
 induction l with
 |nil=>intro i g h;simp at h
 |cons a l ih=>
  intro i g h;have e:flatK (a::l)=cellsK a++flatK l:=rfl;have hl:(cellsK a).length=5:=rfl
  cases i with
  |zero=>
   simp at h;subst h;rw[e];exact ⟨rfl,rfl,rfl,rfl,rfl⟩
  |succ i=>
   have h1:=ih i g (by simpa using h)
   rw[e,List.getElem?_append_right (by omega),List.getElem?_append_right (by omega),List.getElem?_append_right (by omega),List.getElem?_append_right (by omega),List.getElem?_append_right (by omega),hl]
   rw[show (i+1)*5-5=i*5 by omega,show (i+1)*5+1-5=i*5+1 by omega,show (i+1)*5+2-5=i*5+2 by omega,show (i+1)*5+3-5=i*5+3 by omega,show (i+1)*5+4-5=i*5+4 by omega]
   exact h1
def BkR (lo:Nat) (w:World) (s:Nat) (r:Rn) (qs:List Nat) (an:List Tm) (Y:PM) (e:Ending) (w':World):Prop:=e=.returned (.tuple #[])∧∃r',MX lo w' s r' Y qs an∧RK w s r r'∧Bw (MnR s r) w.heap.size w w'
theorem back_on {P:Pg} {f:Nat} {X:PM} {c:Chq} (h:X.fin=0) (hc:X.cs.getLast?=some c):backF P (f+1) X=match tryM P c.cl { undoP c { X with cs:=X.cs.dropLast} with left:=4000} with
 | (Y,true)=>Y
 | (Y,false)=>backF P f Y:=by
 rw[backF,if_neg (by simp[h]),hc]
 rfl
section
variable {lo:Nat} {w w':World} {s:Nat} {r:Rn} {X:PM} {qs:List Nat} {an:List Tm}
theorem MN.cutC {h:List Cl} {gs:List Gq} {cs:List Chq} {tr:List Nat} (M:MN lo w s r h gs cs tr qs an) {a:Option Addr} {cp k:Nat} (hcv:r.cv=.slice a cs.length cp) (ha:a=none→cs.length=0∧cp=0) (hk:k≤cs.length):MN lo (w.setCell ⟨s,3,none⟩ (.slice a k cp)) s { r with cv:=.slice a k cp} h gs (cs.take k) tr qs an∧(Value.slice a k cp).ownBlock=r.cv.ownBlock:=by
 have hrow:w.ownsRow lo 78 5 (.slice a k cp) (cs.take k).length (flatK (cs.take k)):=by
  have:=M.ch;rw[hcv]at this;rw[List.length_take,Nat.min_eq_left hk];exact row_cut this hk (flatK_take cs k) (fun e=>⟨by have:=(ha e).1;omega,(ha e).2⟩)
 have he:(Value.slice a k cp).ownBlock=r.cv.ownBlock:=by rw[hcv];cases a <;> rfl
 exact ⟨(M.toC (X:=fun _=>False) (Bw.refl _ _ _) (fun k hk=>hk.elim) (fun A hA=>NM.old (M.all A hA).1 (fun k hk=>hk.elim)) hrow (.inl he)).1,he⟩
set_option maxRecDepth 100000 in
set_option maxHeartbeats 8000000 in
theorem mback_any (w:World) (M:MX lo w s r X qs an) (hlo:lo≤w.heap.size) (hO:OkM r.P.len qs X) (hC:ClOk r.P) (hP:PrgM w s r) (hg5:X.gs.length≤5000) (htr:X.tr.length≤8000000) (hcs:X.cs.length≤1000000):
 Calls Tryz.prog 111 #[.pointer (some ⟨s,0,none⟩)] w (BkR lo w s r qs an (backM r.P X)):=by
 have HM:=hid M;have HO0:=hid hO;have HP0:=hid hP;have HC:=hid hC;clear M hO hP hC
 go_enter Tryz.func111,Tryz.ntmps111
 go_wp2_with fail
 go_loopg [] X.cs.length (fun fu wr=>∃(r1:Rn) (Y:PM),MX lo wr s r1 Y qs an∧OkM r.P.len qs Y∧RK w s r r1∧Bw (MnR s r) w.heap.size w wr∧PrgM wr s r1∧backM r.P X=backF r.P (fu+1) Y∧Y.cs.length≤fu∧Y.gs.length≤5000∧Y.tr.length≤8000000∧Y.cs.length≤1000000)
 case atStart=>
  exact ⟨r,X,HM.o,HO0.o,⟨rfl,rfl,rfl,rfl,fun _ _ h=>h⟩,Bw.refl _ _ _,HP0.o,rfl,Nat.le_refl _,hg5,htr,hcs⟩
 case round=>
  obtain ⟨r1,Y,hM1,hO1,hK1,hB1,hP1,hE1,hle,hgl,htl,hcl⟩:=hrel;have HM1:=hid hM1;have HO1:=hid hO1;have HK1:=hid hK1;have HB1:=hid hB1;have HP1:=hid hP1;have HE1:=hid hE1;obtain ⟨⟨_,_,_,y3,_⟩,⟨_,y7,_⟩,yf⟩:=hM1.mn.blk.get;rw[hM1.fin]at y7;obtain ⟨ca,cp,hcv,hcp,hcn,hcg⟩:=row_nil hM1.mn.ch;rw[hcv]at y3;have yf3:=yf 3;have yf7:=yf 7;have yf10:=yf 10;have hws:=hB1.size;have hslt:=hM1.mn.blk.lt;clear hM1 hO1 hK1 hB1 hP1 hE1 yf
  by_cases hfin:Y.fin=0
  case neg=>
   have hfb:=beq_eq_false_iff_ne.2 hfin;have HF:Hid (backM r.P X=Y):=by rw[Hid,HE1.o,backF,if_pos hfin]
   clear hfin hcv hcn hcg;go_wp2_with fail
   go_end0
   exact ⟨rfl,r1,by rw[HF.o];exact HM1.o,HK1.o,HB1.o⟩
  have hfb:=beq_iff_eq.2 hfin;have HFin:=hid hfin
  by_cases hch:Y.cs= []
  case pos=>
   have HF:Hid (backM r.P X= { Y with fin:=1}):=by rw[Hid,HE1.o,backF,if_neg (by simp[hfin]),hch];rfl
   have hz:Y.cs.length=0:=by rw[hch];rfl
   rw[hz]at y3;clear hfin hch hcv hcn hcg;go_wp2_with fail
   go_end0
   have hM2:=HM1.o.mn.int 7 1 (r':= { r1 with fin:=1}) rfl ⟨rfl,rfl,rfl,rfl,rfl,rfl⟩
   refine ⟨rfl,{ r1 with fin:=1},?_,⟨HK1.o.q,HK1.o.st,HK1.o.av,HK1.o.P,HK1.o.own⟩,HB1.o.grown (grown_set s 7 _) hws (fun k e=> .inr (.inl (Option.some.inj e).symm))⟩
   rw[HF.o];exact ⟨hM2,HM1.o.first,HM1.o.left,rfl⟩
  obtain ⟨l,c,hlc⟩: ∃l c,Y.cs=l++ [c]:=by
   rcases List.eq_nil_or_concat Y.cs with h| ⟨l,c,h⟩
   ·exact absurd h hch
   ·exact ⟨l,c,by rw[h,List.concat_eq_append]⟩
  have hlast:Y.cs.getLast?=some c:=by rw[hlc];simp
  have hdl:Y.cs.dropLast=l:=by rw[hlc];simp
  have hln:Y.cs.length=l.length+1:=by rw[hlc];simp
  have hget:Y.cs[l.length]?=some c:=by rw[hlc];simp
  have hCc:=HO1.o.ch c (List.mem_of_getLast? hlast)
  obtain ⟨g,rfl⟩: ∃g,ca=some ⟨g,0,none⟩:=by
   cases ca with
   |none=>have:=(hcn rfl).1;omega
   |some ad=>obtain ⟨g,e⟩:=hcg ad rfl;exact ⟨g,by rw[e]⟩
  have hk5:=flatK_get Y.cs l.length c hget;have hfl:=flatK_len Y.cs;have hrow:=HM1.o.mn.ch;rw[hcv]at hrow;have d0:=(hrow.cellAt (l.length*5) (by omega)).trans hk5.1
  have d1:=(hrow.cellAt (l.length*5+1) (by omega)).trans hk5.2.1
  have d2:=(hrow.cellAt (l.length*5+2) (by omega)).trans hk5.2.2.1
  have d3:=(hrow.cellAt (l.length*5+3) (by omega)).trans hk5.2.2.2.1
  have d4:=(hrow.cellAt (l.length*5+4) (by omega)).trans hk5.2.2.2.2
  have HEb:Hid (backM r.P X=match tryM r.P c.cl { undoP c { Y with cs:=l} with left:=4000} with
   | (Z,true)=>Z
   | (Z,false)=>backF r.P gk Z):=by rw[Hid,HE1.o,back_on hfin hlast,hdl]
  have HCc:=hid hCc
  have HOb:Hid (OkM r.P.len qs (undoP c { Y with cs:=l})):=by have:=HO1.o.back hlast;rw[hdl]at this;exact this
  have hcut:=HM1.o.mn.cutC (k:=l.length) hcv (fun e=>by cases e) (by omega)
  have htk:Y.cs.take l.length=l:=by rw[hlc];simp
  rw[htk]at hcut;have HMc:=hid hcut.1;have HCv:=hid hcut.2;rw[hln]at y3 hle hcl hcp;have hto:=fun W=>toK_run (some ⟨g,0,none⟩) (l.length+1) cp l.length (by omega) hcp W
  have hkk:((l.length+1:Nat):Int)-1=(l.length:Int):=by omega
  have hwk:IntKind.i64.wrap (l.length:Int)=(l.length:Int):=by simp[IntKind.wrap,IntKind.bits,IntKind.signed];omega
  have hd:=decide_eq_false (by omega)
  have hKI:(l.length:Int)<((l.length+1:Nat):Int):=by omega
  have HBn:Hid (Below wr.heap.size wr (wr.alloc (.cells #[iV (c.goal:Int),iV (c.cl:Int),iV (c.hp:Int),iV (c.tr:Int),iV (c.gs:Int)] 78))):=(Below.refl _ _).alloc (Nat.le_refl _) _;have z3:=(HBn.o.cell (lt_of_cell y3)).trans y3;have zf3:=(HBn.o.frozen (p:=⟨s,3,none⟩) hslt).trans yf3;clear hfin hch hcv hcn hcg hlast hdl hln hget hCc hk5 hfl hrow hcut htk hlc;go_wp2_with fail;have hz:(wr.setCell ⟨s,3,none⟩ (.slice (some ⟨g,0,none⟩) l.length cp)).heap.size=wr.heap.size:=by simp[World.setCell]
  have HMd:Hid (MN lo ((wr.setCell ⟨s,3,none⟩ (.slice (some ⟨g,0,none⟩) l.length cp)).alloc (.cells #[iV (c.goal:Int),iV (c.cl:Int),iV (c.hp:Int),iV (c.tr:Int),iV (c.gs:Int)] 78)) s { r1 with cv:=.slice (some ⟨g,0,none⟩) l.length cp} Y.h Y.gs l Y.tr qs an):=HMc.o.below ((Below.refl _ _).alloc (Nat.le_refl _) _)
  have HNd:Hid (((wr.setCell ⟨s,3,none⟩ (.slice (some ⟨g,0,none⟩) l.length cp)).alloc (.cells #[iV (c.goal:Int),iV (c.cl:Int),iV (c.hp:Int),iV (c.tr:Int),iV (c.gs:Int)] 78)).heap[wr.heap.size]?=some (.cells #[iV (c.goal:Int),iV (c.cl:Int),iV (c.hp:Int),iV (c.tr:Int),iV (c.gs:Int)] 78)):=by
   have:=heap_alloc_new (wr.setCell ⟨s,3,none⟩ (.slice (some ⟨g,0,none⟩) l.length cp)) (.cells #[iV (c.goal:Int),iV (c.cl:Int),iV (c.hp:Int),iV (c.tr:Int),iV (c.gs:Int)] 78)
   rwa [hz]at this
  have HMu:Hid (∀k,MnR s { r1 with cv:=.slice (some ⟨g,0,none⟩) l.length cp} k→MnR s r1 k∧k<wr.heap.size):=fun k hm=>by
   have h1:MnR s r1 k:=by
    rcases hm with e|e|e|e|e|e
    ·exact .inl e
    ·exact .inr (.inl e)
    ·exact .inr (.inr (.inl e))
    ·exact .inr (.inr (.inr (.inl (HCv.o▸e))))
    ·exact .inr (.inr (.inr (.inr (.inl e))))
    ·exact .inr (.inr (.inr (.inr (.inr e))))
   refine ⟨h1,?_⟩;have M:=HM1.o.mn
   rcases h1 with e|e|e|e|e|e
   ·rw[e];exact M.blk.lt
   ·exact rowLt M.hp e
   ·exact rowLt M.go e
   ·exact rowLt M.ch e
   ·exact rowLt M.tl e
   ·exact rowLt M.anr e
  have HBd:Hid (Bw (MnR s r1) wr.heap.size wr ((wr.setCell ⟨s,3,none⟩ (.slice (some ⟨g,0,none⟩) l.length cp)).alloc (.cells #[iV (c.goal:Int),iV (c.cl:Int),iV (c.hp:Int),iV (c.tr:Int),iV (c.gs:Int)] 78))):=((Bw.refl _ _ wr).grown (grown_set s 3 _) (Nat.le_refl _) (fun k hk=> .inr (.inl (Option.some.inj hk).symm))).trans (Bw.ofBelow ((Below.refl _ _).alloc (by omega) _))
  have hsd:wr.heap.size<((wr.setCell ⟨s,3,none⟩ (.slice (some ⟨g,0,none⟩) l.length cp)).alloc (.cells #[iV (c.goal:Int),iV (c.cl:Int),iV (c.hp:Int),iV (c.tr:Int),iV (c.gs:Int)] 78)).heap.size:=(Array.getElem?_eq_some_iff.1 HNd.o).1
  have HUc:Hid (Calls Tryz.prog 136 #[.pointer (some ⟨s,0,none⟩),.agg #[iV (c.goal:Int),iV (c.cl:Int),iV (c.hp:Int),iV (c.tr:Int),iV (c.gs:Int)]] ((wr.setCell ⟨s,3,none⟩ (.slice (some ⟨g,0,none⟩) l.length cp)).alloc (.cells #[iV (c.goal:Int),iV (c.cl:Int),iV (c.hp:Int),iV (c.tr:Int),iV (c.gs:Int)] 78)) fun e w'=>e=.returned (.tuple #[])∧∃r',MX lo w' s r' (undoP c { Y with cs:=l}) qs an∧RK ((wr.setCell ⟨s,3,none⟩ (.slice (some ⟨g,0,none⟩) l.length cp)).alloc (.cells #[iV (c.goal:Int),iV (c.cl:Int),iV (c.hp:Int),iV (c.tr:Int),iV (c.gs:Int)] 78)) s { r1 with cv:=.slice (some ⟨g,0,none⟩) l.length cp} r'∧r'.cv=.slice (some ⟨g,0,none⟩) l.length cp∧Bw (MnR s { r1 with cv:=.slice (some ⟨g,0,none⟩) l.length cp}) ((wr.setCell ⟨s,3,none⟩ (.slice (some ⟨g,0,none⟩) l.length cp)).alloc (.cells #[iV (c.goal:Int),iV (c.cl:Int),iV (c.hp:Int),iV (c.tr:Int),iV (c.gs:Int)] 78)).heap.size ((wr.setCell ⟨s,3,none⟩ (.slice (some ⟨g,0,none⟩) l.length cp)).alloc (.cells #[iV (c.goal:Int),iV (c.cl:Int),iV (c.hp:Int),iV (c.tr:Int),iV (c.gs:Int)] 78)) w'):=
   mundoX (c:=c) (X:= { Y with cs:=l}) ((wr.setCell ⟨s,3,none⟩ (.slice (some ⟨g,0,none⟩) l.length cp)).alloc (.cells #[iV (c.goal:Int),iV (c.cl:Int),iV (c.hp:Int),iV (c.tr:Int),iV (c.gs:Int)] 78)) ⟨HMd.o,HM1.o.first,HM1.o.left,HM1.o.fin⟩ HCc.o.hp HCc.o.tr HCc.o.gs (by show Y.tr.length≤10000000;omega)
  clear y3 y7 d0 d1 d2 d3 d4 z3 zf3 yf3 yf7 yf10 hz hto;refine HUc.o.mono ?_;rintro e w5 ⟨rfl,r5,hM5,hK5,_,hB5⟩;clear HUc;have HM5:=hid hM5
  have HRd:Hid (RK wr s r1 { r1 with cv:=.slice (some ⟨g,0,none⟩) l.length cp}):=⟨rfl,rfl,rfl,rfl,fun k _ hm=>(HMu.o k hm).1⟩
  have HX5:Hid (w5.heap[wr.heap.size]?=some (.cells #[iV (c.goal:Int),iV (c.cl:Int),iV (c.hp:Int),iV (c.tr:Int),iV (c.gs:Int)] 78)):=(hB5.block _ hsd (fun hm=>by have:=(HMu.o _ hm).2;omega)).trans HNd.o
  have HK5:=hid (HRd.o.trans hK5 (by omega))
  have HB5:=hid (bw_next HBd.o HRd.o hB5);have hs5:=hB5.size;generalize ((wr.setCell ⟨s,3,none⟩ (.slice (some ⟨g,0,none⟩) l.length cp)).alloc (.cells #[iV (c.goal:Int),iV (c.cl:Int),iV (c.hp:Int),iV (c.tr:Int),iV (c.gs:Int)] 78))=wd at*;obtain ⟨_,⟨_,_,_,_,y10⟩,yf⟩:=hM5.mn.blk.get;have yf10:=yf 10
  have hM6:=hM5.mn.int 10 4000 (r':= { r5 with left:=4000}) rfl ⟨rfl,rfl,rfl,rfl,rfl,rfl⟩
  have HM6:Hid (MX lo (w5.setCell ⟨s,10,none⟩ (iV 4000)) s { r5 with left:=4000} { undoP c { Y with cs:=l} with left:=4000} qs an):=⟨hM6,hM5.first,rfl,hM5.fin⟩
  have hg6:=grown_set (W:=w5) s 10 (iV 4000);have HX6:Hid ((w5.setCell ⟨s,10,none⟩ (iV 4000)).heap[wr.heap.size]?=some (.cells #[iV (c.goal:Int),iV (c.cl:Int),iV (c.hp:Int),iV (c.tr:Int),iV (c.gs:Int)] 78)):=(hg6.block _ (by omega) (fun e=>by have:=Option.some.inj e;omega)).trans HX5.o
  have HK6:Hid (RK wr s r1 { r5 with left:=4000}):=⟨HK5.o.q,HK5.o.st,HK5.o.av,HK5.o.P,HK5.o.own⟩
  have HB6:Hid (Bw (MnR s r1) wr.heap.size wr (w5.setCell ⟨s,10,none⟩ (iV 4000))):=HB5.o.grown hg6 (by omega) (fun k e=> .inr (.inl (Option.some.inj e).symm))
  have x1:(w5.setCell ⟨s,10,none⟩ (iV 4000)).cell? ⟨wr.heap.size,1,none⟩=some (iV (c.cl:Int)):=by simp[World.cell?,HX6.o]
  have hs6:=hg6.size;clear hM5 hK5 hB5 yf hM6 hg6;go_wp2_with fail;generalize w5.setCell ⟨s,10,none⟩ (iV 4000)=w6 at*;have hcb:=HCc.o.back (l:=l);have hP6:r5.P=r.P:=HK6.o.P.trans HK1.o.P
  have HTr:Hid (Calls Tryz.prog 113 #[.pointer (some ⟨s,0,none⟩),iV (c.cl:Int)] w6 (EnR lo w6 s { r5 with left:=4000} qs an (tryM r.P c.cl { undoP c { Y with cs:=l} with left:=4000}))):=by
   have hO:=HOb.o;have hgo:=hO.s.go (c.goal-1) _ (goal_get hcb.1 hcb.2.1)
   have h1:=mtry_any (i:=c.goal-1) (fr:=c.cl) w6 HM6.o (by omega) hO.s.hg hcb.1 hcb.2.1 (by have:=hcb.2.2.1;show (undoP c { Y with cs:=l}).gs.length≤5000;have:(undoP c { Y with cs:=l}).gs.length≤Y.gs.length:=hcb.2.2.1;omega) hgo.1 HCc.o.fn (by show c.cl≤r5.P.len;rw[hP6];exact HCc.o.cl) (HP1.o.next HB6.o HK6.o) (fun _=>⟨4000,rfl,Nat.le_refl _⟩) (by have:(undoP c { Y with cs:=l}).tr.length≤Y.tr.length:=hcb.2.2.2;show (undoP c { Y with cs:=l}).tr.length≤9000000;omega) (by show l.length≤1000000;omega)
   rw[Hid,←hP6];exact h1
  have hTO:=tryM_out (fr:=c.cl) (X:= { undoP c { Y with cs:=l} with left:=4000}) HC.o (HOb.o.same rfl rfl rfl HOb.o.fst rfl) hcb.1 hcb.2.1 HCc.o.fn HFin.o ⟨4000,rfl,Nat.le_refl _⟩
  have HTO:=hid hTO;have hgu:=hcb.2.2.1;have htu:=hcb.2.2.2;clear hTO hcb x1;refine HTr.o.mono ?_;rintro e w7 ⟨rfl,r7,hM7,hK7,hB7⟩;clear HTr;have HK7:=hid ((HK1.o.trans HK6.o hws).trans hK7 (by omega))
  have HB7:=hid (bw_next (bw_next HB1.o HK1.o HB6.o) (HK1.o.trans HK6.o hws) hB7);have HP7:=hid ((HP1.o.next HB6.o HK6.o).next hB7 hK7);clear hK7 hB7
  obtain ⟨q,hq⟩: ∃q,tryM r.P c.cl { undoP c { Y with cs:=l} with left:=4000} =q:=⟨_,rfl⟩
  rw[hq]at hM7 HTO HEb ⊢;obtain ⟨Z,ok⟩:=q;have HM7:=hid hM7;clear hM7 hq
  cases ok with
  |true=>
   have HF:=hid HEb.o;go_wp2_with fail
   go_end0
   exact ⟨rfl,r7,by rw[HF.o];exact HM7.o,HK7.o,HB7.o⟩
  |false=>
   have HF:=hid HEb.o;obtain ⟨_,lf,fn,hZ,_⟩:=HTO.o.resolve_right (fun h=>by cases h.1)
   have hZ':Z= { undoP c { Y with cs:=l} with left:=lf,fin:=fn}:=hZ
   have HOz:Hid (OkM r.P.len qs Z):=by rw[Hid,hZ'];exact HOb.o.same rfl rfl rfl HOb.o.fst rfl
   have hZc:Z.cs.length=l.length:=by rw[hZ'];rfl
   have hZg:Z.gs.length≤5000:=by rw[hZ'];show (undoP c { Y with cs:=l}).gs.length≤5000;omega
   have hZt:Z.tr.length≤8000000:=by rw[hZ'];show (undoP c { Y with cs:=l}).tr.length≤8000000;omega
   clear hZ hZ';go_wp2_with fail
   go_roundg (gk-1)
   case measure=>omega
   case rel=>exact ⟨r7,Z,HM7.o,HOz.o,HK7.o,HB7.o,HP7.o,by rw[show gk-1+1=gk from by omega];exact HF.o,by omega,hZg,hZt,by omega⟩
end
end Go.Proofs.YtmggaclaoefdaabGreat
