/- Part of the proof. -/
import Derived.Test.YtmggaclaoefdaabGreatGAR
namespace Go.Proofs.YtmggaclaoefdaabGreat
open Go.RowKit Go.Proofs.Tryz
set_option linter.unusedVariables false
set_option linter.unusedSimpArgs false
set_option maxRecDepth 100000
set_option maxHeartbeats 8000000
attribute [local go_sem] Oper.semAt_some
theorem E9 {B blk i:Nat} {w W:World} {v:Value} (h:Below B w W) (hb:B<=blk):Below B w (W.setCell ⟨blk,i,none⟩ v):=by
 have hg:=af (W:=W) blk i v
 exact ⟨hg.os.trans h.os,hg.tape.trans h.tape,hg.output.trans h.output,lT h.size hg.size,fun k hk=>by
  by_cases e:k<W.heap.size
  .exact (hg.block k e (fun e'=>by have:=oj e';omega)).trans (h.block k hk)
  .have h1:W.heap[k]?=none:=Array.getElem?_eq_none (by omega)
   have h2:(W.setCell (dZ blk i) v).heap[k]?=none:=Array.getElem?_eq_none (by simp;omega)
   rw[h2,<-h1];exact h.block k hk⟩
def S4 (w:World) (lo mb vb m:Nat) (bv:Value) (g cap:Nat) (r:MR) (e:Ending) (w':World):Prop:=e=.returned (.bool r.ok)/\∃bv' σ',MW lo w' mb vb m bv' r.left g cap r.l σ' r.bs/\Bw (MB m mb g bv) w.heap.size w w'/\(bv'.ownBlock=bv.ownBlock\/∃q,bv'.ownBlock=some q/\w.heap.size<=q)
def Ti (f:Nat):Prop:=∀(lo mb vb m:Nat) (bv:Value) (g cap:Nat) (s:MS) (σ:Int->Option Int) (a b:Nat) (w:World),s.1<f->s.1<=1000000->s.2.2.length+s.1<=1000000->MG s->MW lo w mb vb m bv (s.1:Int) g cap s.2.1 σ s.2.2->a<s.2.1.length->b<s.2.1.length->
 Calls prog 160 #[.pointer (some ⟨mb,0,none⟩),iV (a:Int),iV (b:Int)] w (S4 w lo mb vb m bv g cap (jn f a b s))
noncomputable def Sb (f x y n:Nat) (l:List Cl) (bs:List Nat):MR:=match n with
 |0=> .no (-1) l bs
 |n+1=>xc (jn f) x y (n,l,bs)
theorem Fv (f a b n:Nat) (l:List Cl) (bs:List Nat):jn (f+1) a b (n,l,bs)=Sb f (aj (ah l) l.length a) (aj (ah l) l.length b) n l bs:=by cases n <;> rfl
theorem Ki {lo mb vb m:Nat} {bv:Value} {left:Int} {g cap:Nat} {l:List Cl} {σ:Int->Option Int} {bs:List Nat} (H:HG (ah l) l.length) {i:Nat} (hi:i<l.length) (W:World) (M:MW lo W mb vb m bv left g cap l σ bs):
 Calls prog 108 #[.pointer (some ⟨vb,0,none⟩),iV i] W fun e w'=>e=.returned (iV (aj (ah l) l.length i:Nat))/\∃σ',MW lo w' mb vb m bv left g cap l σ' bs/\Bw (MM m mb) W.heap.size W w':=by
 refine (kd H (by have:=H.ok.few;omega) hi W M.mkg.view).mono ?_
 rintro e w' ⟨rfl,⟨σ',hV⟩,hg⟩;have hb:Bw (MM m mb) W.heap.size W w':=⟨hg.os,hg.tape,hg.output,hg.size,fun k hk hm=>hg.block k hk (fun e=>hm (.inl (oj e)))⟩
 exact ⟨rfl,σ',M.look (M.mkg.map hV hg) hb,hb⟩
theorem A7 {F:Nat->Nat->MS->MR} {a b:Nat} {s:MS} {x:Int} {l:List Cl} {bs:List Nat} {k:Nat} (h:m8 F a b k s=.no x l bs): ∀j,k<=j->m8 F a b j s=.no x l bs:=by
 intro j hj
 induction j with
 |zero=>obtain rfl:k=0:=by omega
        exact h
 |succ j ih=>
  by_cases e:k=j+1
  .rw[<-e];exact h
  .show (match m8 F a b j s with| .yes s'=>F (a+1+j) (b+1+j) s'|r=>r)=_
   rw[ih (by omega)]
theorem A8 {F:Nat->Nat->MS->MR} {a b:Nat} {s s':MS} {k:Nat} (h:m8 F a b k s=.yes s'):m8 F a b (k+1) s=F (a+1+k) (b+1+k) s':=by
 show (match m8 F a b k s with| .yes s'=>F (a+1+k) (b+1+k) s'|r=>r)=_
 rw[h]
theorem Fl {w w7 w8:World} {lo mb vb m:Nat} {bv:Value} {g cap n:Nat} {l:List Cl} {bs:List Nat} {v t:Nat} {e:Ending} (h:Nr w7 lo mb vb m bv g cap l bs v t (ja (ah l) l.length v n [t]) e w8) (hB:Bw (MB m mb g bv) w.heap.size w w7) (hs:w.heap.size<=w7.heap.size):
 e=.returned (.bool (r6 v t (n,l,bs)).ok)/\∃bv' σ',MW lo w8 mb vb m bv' (r6 v t (n,l,bs)).left g cap (r6 v t (n,l,bs)).l σ' (r6 v t (n,l,bs)).bs/\Bw (MB m mb g bv) w.heap.size w w8/\(bv'.ownBlock=bv.ownBlock\/∃q,bv'.ownBlock=some q/\w.heap.size<=q):=by
 unfold r6
 show e=.returned (.bool (match ja (ah l) l.length v n [t]with| .ok k=>MR.yes (k,ig l (jy l v t).1 (jy l v t).2,bs++ [(jy l v t).1])|q=>MR.no q.left l bs).ok)/\∃bv' σ',MW lo w8 mb vb m bv' (match ja (ah l) l.length v n [t]with| .ok k=>MR.yes (k,ig l (jy l v t).1 (jy l v t).2,bs++ [(jy l v t).1])|q=>MR.no q.left l bs).left g cap (match ja (ah l) l.length v n [t]with| .ok k=>MR.yes (k,ig l (jy l v t).1 (jy l v t).2,bs++ [(jy l v t).1])|q=>MR.no q.left l bs).l σ' (match ja (ah l) l.length v n [t]with| .ok k=>MR.yes (k,ig l (jy l v t).1 (jy l v t).2,bs++ [(jy l v t).1])|q=>MR.no q.left l bs).bs/\_
 generalize ja (ah l) l.length v n [t]=r at*
 rcases h with ⟨hy,rfl,σ',hM,hb⟩| ⟨hy,rfl,bv',σ',hM,hb,hat⟩
 .cases r with
  |ok k=>cases hy
  |hit k=>exact ⟨rfl,bv,σ',hM,hB.trans (hb.mono hs),.inl rfl⟩
  |over=>exact ⟨rfl,bv,σ',hM,hB.trans (hb.mono hs),.inl rfl⟩
 .cases r with
  |ok k=>
   refine ⟨rfl,bv',σ',hM,hB.trans (hb.mono hs),?_⟩
   rcases hat with e| ⟨q,e,hq⟩
   .exact .inl e
   .exact .inr ⟨q,e,by omega⟩
  |hit k=>cases hy
  |over=>cases hy
theorem Em (f:Nat) (ih:Ti f):Ti (f+1):=by
 intro lo mb vb m bv g cap s σ a b w hf hn1 hbs1 G M ha hb;obtain ⟨n,l,bs⟩:=s;have hG:=G.hg;have HG':=hid hG;have HGd:=hid G;have HIH:=hid ih;have hfew:=hG.ok.few;have hal:=ha;have hbl:=hb;have hnn:n<=1000000:=hn1;have hbb:=hbs1;have hff:n<f+1:=hf;have HM0:=hid M;have HDa:Hid (∀W σ',MW lo W mb vb m bv (n:Int) g cap l σ' bs->Calls prog 108 #[pZ vb,iV a] W fun e w'=>e=.returned (iV (aj (ah l) l.length a:Nat))/\∃σ',MW lo w' mb vb m bv (n:Int) g cap l σ' bs/\Bw (MM m mb) W.heap.size W w'):=fun W σ' hM=>Ki hG ha W hM
 have HDb:Hid (∀W σ',MW lo W mb vb m bv (n:Int) g cap l σ' bs->Calls prog 108 #[pZ vb,iV b] W fun e w'=>e=.returned (iV (aj (ah l) l.length b:Nat))/\∃σ',MW lo w' mb vb m bv (n:Int) g cap l σ' bs/\Bw (MM m mb) W.heap.size W w'):=fun W σ' hM=>Ki hG hb W hM
 have hax:=hG.end_lt hal;have hbx:=hG.end_lt hbl;have hea:=hG.end_end hal;have heb:=hG.end_end hbl;have HSm:=hid (Fv f a b n l bs);generalize hrr:jn (f+1) a b (n,l,bs)=rr at*;have m0:=M.mkg.cells.1;have HC0:=hid m0;clear M G ha hb hG ih hn1 hbs1 hf
 go_enter Tryz.func160,Tryz.ntmps160
 go_wp2_with fail;generalize aj (ah l) l.length a=x at*;generalize aj (ah l) l.length b=y at*
 go_region_held3 (fun W=>W.cell? (dZ mb 0)=some (pZ vb)) (first|exact HC5.o|exact HC4.o|exact HC0.o|trivial) (first
  | (go_at_call 108
     with_reducible show Calls prog _ #[pZ vb,iV (a:Int)] _ _
     refine (HDa.o _ σ4 (HM4.o.below (by repeat (first|exact bR|refine Below.drew ?_)))).mono ?_
     rintro e w5 ⟨rfl,σ5,hM5,hb5⟩;have HM5:=hid hM5;have HC5:=hid hM5.mkg.cells.1;have HB5:Hid (Bw (MM m mb) w.heap.size w w5):=HB4.o.trans (Bw.mono (Bw.trans (Bw.ofBelow (by repeat (first|exact bR|refine Below.drew ?_))) hb5) HB4.o.size)
     clear hM5 hb5)
  | (go_at_call 108
     with_reducible show Calls prog _ #[pZ vb,iV (b:Int)] _ _
     refine (HDb.o _ σ4 (HM4.o.below (by repeat (first|exact bR|refine Below.drew ?_)))).mono ?_
     rintro e w5 ⟨rfl,σ5,hM5,hb5⟩;have HM5:=hid hM5;have HC5:=hid hM5.mkg.cells.1;have HB5:Hid (Bw (MM m mb) w.heap.size w w5):=HB4.o.trans (Bw.mono (Bw.trans (Bw.ofBelow (by repeat (first|exact bR|refine Below.drew ?_))) hb5) HB4.o.size)
     clear hM5 hb5)
  | (go_at_call 108
     with_reducible show Calls prog _ #[pZ vb,iV (a:Int)] _ _
     refine (HDa.o _ σ (HM0.o.below (by repeat (first|exact bR|refine Below.drew ?_)))).mono ?_
     rintro e w4 ⟨rfl,σ4,hM4,hb4⟩;have HM4:=hid hM4;have HC4:=hid hM4.mkg.cells.1;have HB4:Hid (Bw (MM m mb) w.heap.size w w4):=Bw.trans (Bw.ofBelow (by repeat (first|exact bR|refine Below.drew ?_))) hb4
     clear hM4 hb4)
  | (go_at_call 108
     with_reducible show Calls prog _ #[pZ vb,iV (b:Int)] _ _
     refine (HDb.o _ σ (HM0.o.below (by repeat (first|exact bR|refine Below.drew ?_)))).mono ?_
     rintro e w4 ⟨rfl,σ4,hM4,hb4⟩;have HM4:=hid hM4;have HC4:=hid hM4.mkg.cells.1;have HB4:Hid (Bw (MM m mb) w.heap.size w w4):=Bw.trans (Bw.ofBelow (by repeat (first|exact bR|refine Below.drew ?_))) hb4
     clear hM4 hb4))
 all_goals
  have hMM:=HM5.o;have m50:=hMM.mkg.cells.1;have v50:=hMM.mkg.view.cells.1;obtain ⟨x0,x1,x2,xf⟩:=hMM.cellN hax;obtain ⟨y0,y1,y2,yf⟩:=hMM.cellN hbx;have hxI:(x:Int)<(l.length:Int):=by omega
  have hyI:(y:Int)<(l.length:Int):=by omega
  have HKp:Hid (∀W,Below w5.heap.size w5 W->W.cell? (dZ mb 0)=some (pZ vb)/\W.cell? (dZ vb 0)=some (sZ g l.length cap)/\W.cell? (dZ g (x*3))=some (iV (ah l x).k)/\W.cell? (dZ g (x*3+1))=some (iV (ah l x).n)/\W.cell? (dZ g (x*3+2))=some (.string (ah l x).nm)/\W.cell? (dZ g (y*3))=some (iV (ah l y).k)/\W.cell? (dZ g (y*3+1))=some (iV (ah l y).n)/\W.cell? (dZ g (y*3+2))=some (.string (ah l y).nm)):=fun W hW=>by
   have hM:=hMM.below hW;have hcx:=hM.cellN hax;have hcy:=hM.cellN hbx;exact ⟨hM.mkg.cells.1,hM.mkg.view.cells.1,hcx.1,hcx.2.1,hcx.2.2.1,hcy.1,hcy.2.1,hcy.2.2.1⟩
  clear hMM xf yf m0 HM4 HC4 HB4 HC0 HC5 HDa HDb;go_wp2_with fail
  go_region_held3 (fun W=>W.cell? (dZ mb 0)=some (pZ vb)/\W.cell? (dZ vb 0)=some (sZ g l.length cap)/\W.cell? (dZ g (x*3))=some (iV (ah l x).k)/\W.cell? (dZ g (x*3+1))=some (iV (ah l x).n)/\W.cell? (dZ g (x*3+2))=some (.string (ah l x).nm)/\W.cell? (dZ g (y*3))=some (iV (ah l y).k)/\W.cell? (dZ g (y*3+1))=some (iV (ah l y).n)/\W.cell? (dZ g (y*3+2))=some (.string (ah l y).nm)) ((refine HKp.o _ ?_;repeat (first|exact bR|refine Below.drew ?_|refine E9 ?_ (by simp)|refine Below.alloc ?_ (by simp) _))) (fail)
 .have HB6:Hid (Below w5.heap.size w5 ((w5.alloc (.cells #[iV (ah l x).k,iV (ah l x).n,.string (ah l x).nm] 81)).alloc (.cells #[iV (ah l y).k,iV (ah l y).n,.string (ah l y).nm] 81)).drew):=(bA.alloc (by simp) _).drew
  have h12:=oq w5 (.cells #[iV (ah l x).k,iV (ah l x).n,.string (ah l x).nm] 81) (.cells #[iV (ah l y).k,iV (ah l y).n,.string (ah l y).nm] 81);have HX7:Hid (((w5.alloc (.cells #[iV (ah l x).k,iV (ah l x).n,.string (ah l x).nm] 81)).alloc (.cells #[iV (ah l y).k,iV (ah l y).n,.string (ah l y).nm] 81)).drew.heap[w5.heap.size]?=some (.cells #[iV (ah l x).k,iV (ah l x).n,.string (ah l x).nm] 81)):=h12.1;have HX8:Hid (((w5.alloc (.cells #[iV (ah l x).k,iV (ah l x).n,.string (ah l x).nm] 81)).alloc (.cells #[iV (ah l y).k,iV (ah l y).n,.string (ah l y).nm] 81)).drew.heap[w5.heap.size+1]?=some (.cells #[iV (ah l y).k,iV (ah l y).n,.string (ah l y).nm] 81)):=h12.2;have hs6:((w5.alloc (.cells #[iV (ah l x).k,iV (ah l x).n,.string (ah l x).nm] 81)).alloc (.cells #[iV (ah l y).k,iV (ah l y).n,.string (ah l y).nm] 81)).drew.heap.size=w5.heap.size+2:=by simp
  generalize ((w5.alloc (.cells #[iV (ah l x).k,iV (ah l x).n,.string (ah l x).nm] 81)).alloc (.cells #[iV (ah l y).k,iV (ah l y).n,.string (ah l y).nm] 81)).drew=W6 at*;clear h12 m50 v50 x0 x1 x2 y0 y1 y2 HKp;have hM6:=HM5.o.below HB6.o;have hmb:mb<w5.heap.size:=HM5.o.mkg.lt;have HM6:Hid (MW lo W6 mb vb m bv (n:Int) g cap l σ5 bs):=hM6;have HLo:Hid (Calls prog 171 #[pZ mb] W6 fun e w'=>e=.returned (.bool (decide (0<n)))/\MK w' mb vb m bv ((n:Int)-1) (some (dZ g 0)) l.length cap (ah l) σ5/\W6.grownBy w' (some mb)):=rf hnn W6 hM6.mkg
  clear hM6;go_wp2_with fail;refine HLo.o.mono ?_;rintro e w7 ⟨rfl,hK7,hg7⟩;have hb7:Bw (MM m mb) W6.heap.size W6 w7:=⟨hg7.os,hg7.tape,hg7.output,hg7.size,fun k hk hm=>hg7.block k hk (fun e=>hm (.inr (oj e)))⟩
  have HM7:Hid (MW lo w7 mb vb m bv ((n:Int)-1) g cap l σ5 bs):=HM6.o.look hK7 hb7
  have HB7:Hid (Bw (MB m mb g bv) w.heap.size w w7):=((HB5.o.trans (Bw.ofBelow (HB6.o.mono HB5.o.size))).trans (hb7.mono (by have:=HB5.o.size;omega))).wide fun k _ hk=>by
   rcases hk with e|e
   .exact .inl e
   .exact .inr (.inl e)
  have Y7:Hid (w7.heap[w5.heap.size]?=some (.cells #[iV (ah l x).k,iV (ah l x).n,.string (ah l x).nm] 81)):=(hg7.block _ (by omega) (fun e=>by have:=oj e;omega)).trans HX7.o
  have Y8:Hid (w7.heap[w5.heap.size+1]?=some (.cells #[iV (ah l y).k,iV (ah l y).n,.string (ah l y).nm] 81)):=(hg7.block _ (by omega) (fun e=>by have:=oj e;omega)).trans HX8.o
  have hs7:w.heap.size<=w7.heap.size:=by have:=hg7.size;have:=HB5.o.size;omega
  obtain ⟨a0,a1,a2,_⟩:=ae Y7.o;obtain ⟨b0,b1,b2,_⟩:=ae Y8.o;clear hK7 hg7 hb7 HLo HM6 HX7 HX8
  cases n with
  |zero=>
   have hd:decide (0<0)=false:=rfl;have HE:=hid HSm.o;go_wp2_with fail;go_ret;refine ⟨by rw[HE.o];rfl,bv,σ5,?_,HB7.o,.inl rfl⟩
   rw[HE.o];exact HM7.o
  |succ n=>
  have hd:decide (0<n+1)=true:=decide_eq_true (by omega)
  have hn1:((n+1:Nat):Int)-1=(n:Int):=by omega
  rw[hn1]at HM7;have HE:Hid (rr=xc (jn f) x y (n,l,bs)):=HSm.o;have hkx:=HG'.o.kind x hax;have hky:=HG'.o.kind y hbx;have Hnx:Hid ((ah l x).k=1->(ah l x).n=x):=fun h=>mr HG'.o hax hea h
  have Hny:Hid ((ah l y).k=1->(ah l y).n=y):=fun h=>mr HG'.o hbx heb h
  have HBx:Hid (Calls prog 172 #[pZ mb,iV (x:Int),iV (y:Int)] w7 (Nr w7 lo mb vb m bv g cap l bs x y (ja (ah l) l.length x n [y]))\/(ah l x).k≠1):=by
   by_cases h:(ah l x).k=1
   .exact .inl (np w7 (by omega) HM7.o HG'.o hax (Hnx.o h) hbx Hny.o HGd.o.nm (by omega))
   .exact .inr h
  have HBy:Hid (Calls prog 172 #[pZ mb,iV (y:Int),iV (x:Int)] w7 (Nr w7 lo mb vb m bv g cap l bs y x (ja (ah l) l.length y n [x]))\/(ah l y).k≠1):=by
   by_cases h:(ah l y).k=1
   .exact .inl (np w7 (by omega) HM7.o HG'.o hbx (Hny.o h) hax Hnx.o HGd.o.nm (by omega))
   .exact .inr h
  by_cases h1:(ah l x).k=1
  case pos=>
   have h1b:((ah l x).k==1)=true:=beq_iff_eq.2 h1
   by_cases hxy:x=y
   case pos=>
    have HE1:Hid (rr=.yes (n,l,bs)):=by rw[Hid,HE.o];unfold xc;exact if_pos ⟨h1,hxy⟩
    subst hxy;go_wp2_with fail;go_ret;refine ⟨by rw[HE1.o];rfl,bv,σ5,?_,HB7.o,.inl rfl⟩
    rw[HE1.o];exact HM7.o
   have hxb:((x:Int)==(y:Int))=false:=bF (by omega)
   have HE1:Hid (rr=r6 x y (n,l,bs)):=by
    rw[Hid,HE.o];unfold xc;rw[if_neg (fun h=>hxy h.2)]
    exact if_pos h1
   have HBc:Hid (Calls prog 172 #[pZ mb,iV (x:Int),iV (y:Int)] w7 (Nr w7 lo mb vb m bv g cap l bs x y (ja (ah l) l.length x n [y]))):=HBx.o.resolve_right (fun h=>h h1)
   clear HBx HBy;go_wp2_with fail;refine HBc.o.mono ?_;intro e w8 h8;obtain ⟨he,h9⟩:=Fl h8 HB7.o hs7;subst he;rw[<-HE1.o]at h9 |-;go_wp2_with fail;go_ret;exact ⟨rfl,h9⟩
  have h1b:((ah l x).k==1)=false:=bF h1
  by_cases h2:(ah l y).k=1
  case pos=>
   have h2b:((ah l y).k==1)=true:=beq_iff_eq.2 h2
   have HE1:Hid (rr=r6 y x (n,l,bs)):=by
    rw[Hid,HE.o];unfold xc;rw[if_neg (fun h=>h1 h.1),if_neg h1]
    exact if_pos h2
   have HBc:Hid (Calls prog 172 #[pZ mb,iV (y:Int),iV (x:Int)] w7 (Nr w7 lo mb vb m bv g cap l bs y x (ja (ah l) l.length y n [x]))):=HBy.o.resolve_right (fun h=>h h2)
   clear HBx HBy;go_wp2_with fail;refine HBc.o.mono ?_;intro e w8 h8;obtain ⟨he,h9⟩:=Fl h8 HB7.o hs7;subst he;rw[<-HE1.o]at h9 |-;go_wp2_with fail;go_ret;exact ⟨rfl,h9⟩
  have h2b:=bF h2;clear HBx HBy;have Hh1:Hid ((ah l x).k=2):=hkx.resolve_left h1;have Hh2:Hid ((ah l y).k=2):=hky.resolve_left h2
  have HE2:Hid (rr=if¬((ah l x).n=(ah l y).n/\(ah l x).nm.toList=(ah l y).nm.toList)then .no n l bs else m8 (jn f) x y (ah l x).n.toNat (n,l,bs)):=by
   rw[Hid,HE.o];unfold xc;rw[if_neg (fun h=>h1 h.1),if_neg h1]
   exact if_neg h2
  have hk12:(ah l x).k=(ah l y).k:=by rw[Hh1.o,Hh2.o]
  rw[hk12]at a0 h1b
  by_cases hqn:(ah l x).n=(ah l y).n
  case neg=>
   have HE1:Hid (rr=.no n l bs):=by rw[Hid,HE2.o];exact if_pos (fun h=>hqn h.1)
   have hqb:=bF hqn;go_wp2_with fail;go_ret;refine ⟨by rw[HE1.o];rfl,bv,σ5,?_,HB7.o,.inl rfl⟩
   rw[HE1.o];exact HM7.o
  by_cases hqm:(ah l x).nm.toList=(ah l y).nm.toList
  case neg=>
   have HE1:Hid (rr=.no n l bs):=by rw[Hid,HE2.o];exact if_pos (fun h=>hqm h.2)
   have hqb:=beq_iff_eq.2 hqn;go_wp2_with fail;go_ret;refine ⟨by rw[HE1.o];rfl,bv,σ5,?_,HB7.o,.inl rfl⟩
   rw[HE1.o];exact HM7.o
  have hqb:=beq_iff_eq.2 hqn;have HE1:Hid (rr=m8 (jn f) x y (ah l x).n.toNat (n,l,bs)):=by rw[Hid,HE2.o];exact if_neg (fun h=>h ⟨hqn,hqm⟩)
  have Hkx:Hid (∀k:Nat,(k:Int)<(ah l x).n->x+1+k<l.length/\y+1+k<l.length):=fun k hk=>⟨(HG'.o.kids x hax Hh1.o k hk).1,(HG'.o.kids y hbx Hh2.o k (by rw[<-hqn];exact hk)).1⟩
  have hn0:=HG'.o.ok.n0 x hax;have hn4:(ah l x).n<=4:=HG'.o.ok.n4 x hax (by rw[Hh1.o];omega)
  have HGo:Hid (∀k,k<=(ah l x).n.toNat->(m8 (jn f) x y k (n,l,bs)).Good (n,l,bs)):=by
   have G1:MG (n,l,bs):=⟨HGd.o.hg,HGd.o.nm⟩;refine p7 G1 fun k hk s' hs'=>?_
   have hl:s'.2.1.length=l.length:=hs'.len;have h9:=Hkx.o k (by omega)
   exact gj f _ _ s' hs'.mg (by rw[hl];exact h9.1) (by rw[hl];exact h9.2)
  obtain ⟨N,hN⟩: ∃N:Nat,(ah l x).n=(N:Int):=⟨(ah l x).n.toNat,by omega⟩
  have hNt:(ah l x).n.toNat=N:=by rw[hN];rfl
  rw[hNt]at HE1 HGo;rw[hN]at a1 Hkx hn4 hqb;go_wp2_with fail;clear a0 a1 a2 b0 b1 b2
  go_loopw [77] (fun iv wq=>∃(k:Nat) (s':MS) (bv':Value) (σ':Int->Option Int),k<=N/\iv=iV k/\m8 (jn f) x y k (n,l,bs)=.yes s'/\MW lo wq mb vb m bv' (s'.1:Int) g cap s'.2.1 σ' s'.2.2/\Bw (MB m mb g bv) w.heap.size w wq/\(bv'.ownBlock=bv.ownBlock\/∃q,bv'.ownBlock=some q/\w.heap.size<=q)) (fun v _=>N-(intOf v).toNat)
  case atStart=>exact ⟨0,(n,l,bs),bv,σ5,oZ,rfl,rfl,HM7.o,HB7.o,.inl rfl⟩
  case round=>
   obtain ⟨k,s',bv',σ',hk,rfl,hsm,hM,hB,hat⟩:=hrel;have HMr:=hid hM;have HBr:=hid hB;have Hat:=hid hat;have Hsm:Hid (m8 (jn f) x y k (n,l,bs)=.yes s'):=hsm;have hgo:=HGo.o k hk;rw[hsm]at hgo;have hl:s'.2.1.length=l.length:=hgo.len;have hle:(s'.1:Int)<=(n:Int):=hgo.le;have hbl':(s'.2.2.length:Int)+(s'.1:Int)<=(bs.length:Int)+(n:Int):=hgo.bs rfl;have HMg:Hid (MG s'):=hgo.mg;have hsr:=hB.size;clear hM hB hat hsm hgo HM7 HB7
   by_cases hlt:k<N
   case pos=>
    have hkI:(k:Int)<(N:Int):=by omega
    have hxk:=Hkx.o k hkI;have HCl:Hid (Calls prog 160 #[pZ mb,iV ((x+1+k:Nat):Int),iV ((y+1+k:Nat):Int)] wr (S4 wr lo mb vb m bv' g cap (jn f (x+1+k) (y+1+k) s'))):=HIH.o lo mb vb m bv' g cap s' σ' (x+1+k) (y+1+k) wr (by omega) (by omega) (by omega) HMg.o HMr.o (by omega) (by omega)
    have hw1:IntKind.i64.wrap ((x:Int)+1)=(x:Int)+1:=by simp[IntKind.wrap,IntKind.bits,IntKind.signed];omega
    have hw2:IntKind.i64.wrap ((x:Int)+1+(k:Int))=((x+1+k:Nat):Int):=by simp[IntKind.wrap,IntKind.bits,IntKind.signed];omega
    have hw3:IntKind.i64.wrap ((y:Int)+1)=(y:Int)+1:=by simp[IntKind.wrap,IntKind.bits,IntKind.signed];omega
    have hw4:IntKind.i64.wrap ((y:Int)+1+(k:Int))=((y+1+k:Nat):Int):=by simp[IntKind.wrap,IntKind.bits,IntKind.signed];omega
    have HNx:=hid (A8 Hsm.o);generalize jn f (x+1+k) (y+1+k) s'=r at*;go_wp2_with fail;refine HCl.o.mono ?_;rintro e w8 ⟨rfl,bv8,σ8,hM8,hB8,hat8⟩
    have HB8:Hid (Bw (MB m mb g bv) w.heap.size w w8):=HBr.o.trans ((hB8.mono hsr).wide fun q hq hm=>by
     rcases hm with e|e|e|e
     .exact .inl e
     .exact .inr (.inl e)
     .exact rZ (.inl e)
     .rcases Hat.o with h| ⟨p,h,hp⟩
      .exact rZ (.inr (h▸e))
      .rw[h]at e;have:=oj e;omega)
    have Ha8:Hid (bv8.ownBlock=bv.ownBlock\/∃q,bv8.ownBlock=some q/\w.heap.size<=q):=by
     rcases hat8 with h| ⟨p,h,hp⟩
     .rw[Hid,h];exact Hat.o
     .exact .inr ⟨p,h,by omega⟩
    cases r with
    |yes s8=>
     have HM8:=hid hM8;clear hM8 hB8 hat8;rw[show (MR.yes s8).ok=true from rfl]
     go_wp2_with fail;go_roundw
     case rel=>exact ⟨k+1,s8,bv8,σ8,by omega,by go_num,HNx.o,HM8.o,HB8.o,Ha8.o⟩
     case measure=>simp[intOf];omega
    |no x8 l8 bs8=>
     have HM8:=hid hM8;have HEf:Hid (rr=.no x8 l8 bs8):=by rw[Hid,HE1.o];exact A7 HNx.o N (by omega)
     clear hM8 hB8 hat8;rw[show (MR.no x8 l8 bs8).ok=false from rfl]
     go_wp2_with fail;go_ret;refine ⟨by rw[HEf.o];rfl,bv8,σ8,?_,HB8.o,Ha8.o⟩
     rw[HEf.o];exact HM8.o
   have hkI: ¬((k:Int)<(N:Int)):=by omega
   obtain rfl:k=N:=by omega
   have HEf:=hid (HE1.o.trans Hsm.o);go_wp2_with fail;go_ret;refine ⟨by rw[HEf.o];rfl,bv',σ',?_,HBr.o,Hat.o⟩
   rw[HEf.o];exact HMr.o
 .have HB6:Hid (Below w5.heap.size w5 ((w5.alloc (.cells #[iV (ah l y).k,iV (ah l y).n,.string (ah l y).nm] 81)).alloc (.cells #[iV (ah l x).k,iV (ah l x).n,.string (ah l x).nm] 81)).drew):=(bA.alloc (by simp) _).drew
  have h12:=oq w5 (.cells #[iV (ah l y).k,iV (ah l y).n,.string (ah l y).nm] 81) (.cells #[iV (ah l x).k,iV (ah l x).n,.string (ah l x).nm] 81);have HX8:Hid (((w5.alloc (.cells #[iV (ah l y).k,iV (ah l y).n,.string (ah l y).nm] 81)).alloc (.cells #[iV (ah l x).k,iV (ah l x).n,.string (ah l x).nm] 81)).drew.heap[w5.heap.size]?=some (.cells #[iV (ah l y).k,iV (ah l y).n,.string (ah l y).nm] 81)):=h12.1;have HX7:Hid (((w5.alloc (.cells #[iV (ah l y).k,iV (ah l y).n,.string (ah l y).nm] 81)).alloc (.cells #[iV (ah l x).k,iV (ah l x).n,.string (ah l x).nm] 81)).drew.heap[w5.heap.size+1]?=some (.cells #[iV (ah l x).k,iV (ah l x).n,.string (ah l x).nm] 81)):=h12.2;have hs6:((w5.alloc (.cells #[iV (ah l y).k,iV (ah l y).n,.string (ah l y).nm] 81)).alloc (.cells #[iV (ah l x).k,iV (ah l x).n,.string (ah l x).nm] 81)).drew.heap.size=w5.heap.size+2:=by simp
  generalize ((w5.alloc (.cells #[iV (ah l y).k,iV (ah l y).n,.string (ah l y).nm] 81)).alloc (.cells #[iV (ah l x).k,iV (ah l x).n,.string (ah l x).nm] 81)).drew=W6 at*;clear h12 m50 v50 x0 x1 x2 y0 y1 y2 HKp;have hM6:=HM5.o.below HB6.o;have hmb:mb<w5.heap.size:=HM5.o.mkg.lt;have HM6:Hid (MW lo W6 mb vb m bv (n:Int) g cap l σ5 bs):=hM6;have HLo:Hid (Calls prog 171 #[pZ mb] W6 fun e w'=>e=.returned (.bool (decide (0<n)))/\MK w' mb vb m bv ((n:Int)-1) (some (dZ g 0)) l.length cap (ah l) σ5/\W6.grownBy w' (some mb)):=rf hnn W6 hM6.mkg
  clear hM6;go_wp2_with fail;refine HLo.o.mono ?_;rintro e w7 ⟨rfl,hK7,hg7⟩;have hb7:Bw (MM m mb) W6.heap.size W6 w7:=⟨hg7.os,hg7.tape,hg7.output,hg7.size,fun k hk hm=>hg7.block k hk (fun e=>hm (.inr (oj e)))⟩
  have HM7:Hid (MW lo w7 mb vb m bv ((n:Int)-1) g cap l σ5 bs):=HM6.o.look hK7 hb7
  have HB7:Hid (Bw (MB m mb g bv) w.heap.size w w7):=((HB5.o.trans (Bw.ofBelow (HB6.o.mono HB5.o.size))).trans (hb7.mono (by have:=HB5.o.size;omega))).wide fun k _ hk=>by
   rcases hk with e|e
   .exact .inl e
   .exact .inr (.inl e)
  have Y7:Hid (w7.heap[w5.heap.size+1]?=some (.cells #[iV (ah l x).k,iV (ah l x).n,.string (ah l x).nm] 81)):=(hg7.block _ (by omega) (fun e=>by have:=oj e;omega)).trans HX7.o
  have Y8:Hid (w7.heap[w5.heap.size]?=some (.cells #[iV (ah l y).k,iV (ah l y).n,.string (ah l y).nm] 81)):=(hg7.block _ (by omega) (fun e=>by have:=oj e;omega)).trans HX8.o
  have hs7:w.heap.size<=w7.heap.size:=by have:=hg7.size;have:=HB5.o.size;omega
  obtain ⟨a0,a1,a2,_⟩:=ae Y7.o;obtain ⟨b0,b1,b2,_⟩:=ae Y8.o;clear hK7 hg7 hb7 HLo HM6 HX7 HX8
  cases n with
  |zero=>
   have hd:decide (0<0)=false:=rfl;have HE:=hid HSm.o;go_wp2_with fail;go_ret;refine ⟨by rw[HE.o];rfl,bv,σ5,?_,HB7.o,.inl rfl⟩
   rw[HE.o];exact HM7.o
  |succ n=>
  have hd:decide (0<n+1)=true:=decide_eq_true (by omega)
  have hn1:((n+1:Nat):Int)-1=(n:Int):=by omega
  rw[hn1]at HM7;have HE:Hid (rr=xc (jn f) x y (n,l,bs)):=HSm.o;have hkx:=HG'.o.kind x hax;have hky:=HG'.o.kind y hbx;have Hnx:Hid ((ah l x).k=1->(ah l x).n=x):=fun h=>mr HG'.o hax hea h
  have Hny:Hid ((ah l y).k=1->(ah l y).n=y):=fun h=>mr HG'.o hbx heb h
  have HBx:Hid (Calls prog 172 #[pZ mb,iV (x:Int),iV (y:Int)] w7 (Nr w7 lo mb vb m bv g cap l bs x y (ja (ah l) l.length x n [y]))\/(ah l x).k≠1):=by
   by_cases h:(ah l x).k=1
   .exact .inl (np w7 (by omega) HM7.o HG'.o hax (Hnx.o h) hbx Hny.o HGd.o.nm (by omega))
   .exact .inr h
  have HBy:Hid (Calls prog 172 #[pZ mb,iV (y:Int),iV (x:Int)] w7 (Nr w7 lo mb vb m bv g cap l bs y x (ja (ah l) l.length y n [x]))\/(ah l y).k≠1):=by
   by_cases h:(ah l y).k=1
   .exact .inl (np w7 (by omega) HM7.o HG'.o hbx (Hny.o h) hax Hnx.o HGd.o.nm (by omega))
   .exact .inr h
  by_cases h1:(ah l x).k=1
  case pos=>
   have h1b:((ah l x).k==1)=true:=beq_iff_eq.2 h1
   by_cases hxy:x=y
   case pos=>
    have HE1:Hid (rr=.yes (n,l,bs)):=by rw[Hid,HE.o];unfold xc;exact if_pos ⟨h1,hxy⟩
    subst hxy;go_wp2_with fail;go_ret;refine ⟨by rw[HE1.o];rfl,bv,σ5,?_,HB7.o,.inl rfl⟩
    rw[HE1.o];exact HM7.o
   have hxb:((x:Int)==(y:Int))=false:=bF (by omega)
   have HE1:Hid (rr=r6 x y (n,l,bs)):=by
    rw[Hid,HE.o];unfold xc;rw[if_neg (fun h=>hxy h.2)]
    exact if_pos h1
   have HBc:Hid (Calls prog 172 #[pZ mb,iV (x:Int),iV (y:Int)] w7 (Nr w7 lo mb vb m bv g cap l bs x y (ja (ah l) l.length x n [y]))):=HBx.o.resolve_right (fun h=>h h1)
   clear HBx HBy;go_wp2_with fail;refine HBc.o.mono ?_;intro e w8 h8;obtain ⟨he,h9⟩:=Fl h8 HB7.o hs7;subst he;rw[<-HE1.o]at h9 |-;go_wp2_with fail;go_ret;exact ⟨rfl,h9⟩
  have h1b:((ah l x).k==1)=false:=bF h1
  by_cases h2:(ah l y).k=1
  case pos=>
   have h2b:((ah l y).k==1)=true:=beq_iff_eq.2 h2
   have HE1:Hid (rr=r6 y x (n,l,bs)):=by
    rw[Hid,HE.o];unfold xc;rw[if_neg (fun h=>h1 h.1),if_neg h1]
    exact if_pos h2
   have HBc:Hid (Calls prog 172 #[pZ mb,iV (y:Int),iV (x:Int)] w7 (Nr w7 lo mb vb m bv g cap l bs y x (ja (ah l) l.length y n [x]))):=HBy.o.resolve_right (fun h=>h h2)
   clear HBx HBy;go_wp2_with fail;refine HBc.o.mono ?_;intro e w8 h8;obtain ⟨he,h9⟩:=Fl h8 HB7.o hs7;subst he;rw[<-HE1.o]at h9 |-;go_wp2_with fail;go_ret;exact ⟨rfl,h9⟩
  have h2b:=bF h2;clear HBx HBy;have Hh1:Hid ((ah l x).k=2):=hkx.resolve_left h1;have Hh2:Hid ((ah l y).k=2):=hky.resolve_left h2
  have HE2:Hid (rr=if¬((ah l x).n=(ah l y).n/\(ah l x).nm.toList=(ah l y).nm.toList)then .no n l bs else m8 (jn f) x y (ah l x).n.toNat (n,l,bs)):=by
   rw[Hid,HE.o];unfold xc;rw[if_neg (fun h=>h1 h.1),if_neg h1]
   exact if_neg h2
  have hk12:(ah l x).k=(ah l y).k:=by rw[Hh1.o,Hh2.o]
  rw[hk12]at a0 h1b
  by_cases hqn:(ah l x).n=(ah l y).n
  case neg=>
   have HE1:Hid (rr=.no n l bs):=by rw[Hid,HE2.o];exact if_pos (fun h=>hqn h.1)
   have hqb:=bF hqn;go_wp2_with fail;go_ret;refine ⟨by rw[HE1.o];rfl,bv,σ5,?_,HB7.o,.inl rfl⟩
   rw[HE1.o];exact HM7.o
  by_cases hqm:(ah l x).nm.toList=(ah l y).nm.toList
  case neg=>
   have HE1:Hid (rr=.no n l bs):=by rw[Hid,HE2.o];exact if_pos (fun h=>hqm h.2)
   have hqb:=beq_iff_eq.2 hqn;go_wp2_with fail;go_ret;refine ⟨by rw[HE1.o];rfl,bv,σ5,?_,HB7.o,.inl rfl⟩
   rw[HE1.o];exact HM7.o
  have hqb:=beq_iff_eq.2 hqn;have HE1:Hid (rr=m8 (jn f) x y (ah l x).n.toNat (n,l,bs)):=by rw[Hid,HE2.o];exact if_neg (fun h=>h ⟨hqn,hqm⟩)
  have Hkx:Hid (∀k:Nat,(k:Int)<(ah l x).n->x+1+k<l.length/\y+1+k<l.length):=fun k hk=>⟨(HG'.o.kids x hax Hh1.o k hk).1,(HG'.o.kids y hbx Hh2.o k (by rw[<-hqn];exact hk)).1⟩
  have hn0:=HG'.o.ok.n0 x hax;have hn4:(ah l x).n<=4:=HG'.o.ok.n4 x hax (by rw[Hh1.o];omega)
  have HGo:Hid (∀k,k<=(ah l x).n.toNat->(m8 (jn f) x y k (n,l,bs)).Good (n,l,bs)):=by
   have G1:MG (n,l,bs):=⟨HGd.o.hg,HGd.o.nm⟩;refine p7 G1 fun k hk s' hs'=>?_
   have hl:s'.2.1.length=l.length:=hs'.len;have h9:=Hkx.o k (by omega)
   exact gj f _ _ s' hs'.mg (by rw[hl];exact h9.1) (by rw[hl];exact h9.2)
  obtain ⟨N,hN⟩: ∃N:Nat,(ah l x).n=(N:Int):=⟨(ah l x).n.toNat,by omega⟩
  have hNt:(ah l x).n.toNat=N:=by rw[hN];rfl
  rw[hNt]at HE1 HGo;rw[hN]at a1 Hkx hn4 hqb;go_wp2_with fail;clear a0 a1 a2 b0 b1 b2
  go_loopw [77] (fun iv wq=>∃(k:Nat) (s':MS) (bv':Value) (σ':Int->Option Int),k<=N/\iv=iV k/\m8 (jn f) x y k (n,l,bs)=.yes s'/\MW lo wq mb vb m bv' (s'.1:Int) g cap s'.2.1 σ' s'.2.2/\Bw (MB m mb g bv) w.heap.size w wq/\(bv'.ownBlock=bv.ownBlock\/∃q,bv'.ownBlock=some q/\w.heap.size<=q)) (fun v _=>N-(intOf v).toNat)
  case atStart=>exact ⟨0,(n,l,bs),bv,σ5,oZ,rfl,rfl,HM7.o,HB7.o,.inl rfl⟩
  case round=>
   obtain ⟨k,s',bv',σ',hk,rfl,hsm,hM,hB,hat⟩:=hrel;have HMr:=hid hM;have HBr:=hid hB;have Hat:=hid hat;have Hsm:Hid (m8 (jn f) x y k (n,l,bs)=.yes s'):=hsm;have hgo:=HGo.o k hk;rw[hsm]at hgo;have hl:s'.2.1.length=l.length:=hgo.len;have hle:(s'.1:Int)<=(n:Int):=hgo.le;have hbl':(s'.2.2.length:Int)+(s'.1:Int)<=(bs.length:Int)+(n:Int):=hgo.bs rfl;have HMg:Hid (MG s'):=hgo.mg;have hsr:=hB.size;clear hM hB hat hsm hgo HM7 HB7
   by_cases hlt:k<N
   case pos=>
    have hkI:(k:Int)<(N:Int):=by omega
    have hxk:=Hkx.o k hkI;have HCl:Hid (Calls prog 160 #[pZ mb,iV ((x+1+k:Nat):Int),iV ((y+1+k:Nat):Int)] wr (S4 wr lo mb vb m bv' g cap (jn f (x+1+k) (y+1+k) s'))):=HIH.o lo mb vb m bv' g cap s' σ' (x+1+k) (y+1+k) wr (by omega) (by omega) (by omega) HMg.o HMr.o (by omega) (by omega)
    have hw1:IntKind.i64.wrap ((x:Int)+1)=(x:Int)+1:=by simp[IntKind.wrap,IntKind.bits,IntKind.signed];omega
    have hw2:IntKind.i64.wrap ((x:Int)+1+(k:Int))=((x+1+k:Nat):Int):=by simp[IntKind.wrap,IntKind.bits,IntKind.signed];omega
    have hw3:IntKind.i64.wrap ((y:Int)+1)=(y:Int)+1:=by simp[IntKind.wrap,IntKind.bits,IntKind.signed];omega
    have hw4:IntKind.i64.wrap ((y:Int)+1+(k:Int))=((y+1+k:Nat):Int):=by simp[IntKind.wrap,IntKind.bits,IntKind.signed];omega
    have HNx:=hid (A8 Hsm.o);generalize jn f (x+1+k) (y+1+k) s'=r at*;go_wp2_with fail;refine HCl.o.mono ?_;rintro e w8 ⟨rfl,bv8,σ8,hM8,hB8,hat8⟩
    have HB8:Hid (Bw (MB m mb g bv) w.heap.size w w8):=HBr.o.trans ((hB8.mono hsr).wide fun q hq hm=>by
     rcases hm with e|e|e|e
     .exact .inl e
     .exact .inr (.inl e)
     .exact rZ (.inl e)
     .rcases Hat.o with h| ⟨p,h,hp⟩
      .exact rZ (.inr (h▸e))
      .rw[h]at e;have:=oj e;omega)
    have Ha8:Hid (bv8.ownBlock=bv.ownBlock\/∃q,bv8.ownBlock=some q/\w.heap.size<=q):=by
     rcases hat8 with h| ⟨p,h,hp⟩
     .rw[Hid,h];exact Hat.o
     .exact .inr ⟨p,h,by omega⟩
    cases r with
    |yes s8=>
     have HM8:=hid hM8;clear hM8 hB8 hat8;rw[show (MR.yes s8).ok=true from rfl]
     go_wp2_with fail;go_roundw
     case rel=>exact ⟨k+1,s8,bv8,σ8,by omega,by go_num,HNx.o,HM8.o,HB8.o,Ha8.o⟩
     case measure=>simp[intOf];omega
    |no x8 l8 bs8=>
     have HM8:=hid hM8;have HEf:Hid (rr=.no x8 l8 bs8):=by rw[Hid,HE1.o];exact A7 HNx.o N (by omega)
     clear hM8 hB8 hat8;rw[show (MR.no x8 l8 bs8).ok=false from rfl]
     go_wp2_with fail;go_ret;refine ⟨by rw[HEf.o];rfl,bv8,σ8,?_,HB8.o,Ha8.o⟩
     rw[HEf.o];exact HM8.o
   have hkI: ¬((k:Int)<(N:Int)):=by omega
   obtain rfl:k=N:=by omega
   have HEf:=hid (HE1.o.trans Hsm.o);go_wp2_with fail;go_ret;refine ⟨by rw[HEf.o];rfl,bv',σ',?_,HBr.o,Hat.o⟩
   rw[HEf.o];exact HMr.o
theorem Ii: ∀f,Ti f:=by
 intro f
 induction f with
 |zero=>intro lo mb vb m bv g cap s σ a b w h;exact absurd h (nL _)
 |succ f ih=>exact Em f ih
end Go.Proofs.YtmggaclaoefdaabGreat
