/- Part of the proof. -/
import Derived.Test.YtmggaclaoefdaabGreatGAG
import Derived.Deep.Cut
import Derived.Deep.CutRange
namespace Go.Proofs.YtmggaclaoefdaabGreat
open Go.RowKit Go.Proofs.Tryz
set_option linter.unusedVariables false
set_option linter.unusedSimpArgs false
set_option maxRecDepth 100000
set_option maxHeartbeats 8000000
inductive MO where
 |over
 |no (L:Nat)
 |yes (L:Nat) (σ:Sg)
def jp (S T:Tm):List (Tm × Tm):=(List.range S.len).map fun i=>(S.f i,T.f i)
theorem Gw {S T:Tm} {k:Nat} (h:k<S.len):(jp S T).drop k=(S.f k,T.f k)::(jp S T).drop (k+1):=by
 have hl:k<(jp S T).length:=by simp[jp,h]
 rw[List.drop_eq_getElem_cons hl]
 congr 1
 simp[jp]
theorem Kp {S T:Tm}:(jp S T).drop S.len= []:=by
 rw[List.drop_eq_nil_iff];simp[jp]
def ao:Nat ->Sg ->Nat ->List (Tm × Tm) ->MO
 |0,_,_,_=> .over
 |_+1,σ,L,[]=> .yes L σ
 |_+1,_,0,_::_=> .over
 |F+1,σ,L+1,(x,y)::ps=>
  if (wha σ x).v≠0 then
   if (wha σ x).v=(wha σ y).v then ao F σ L ps
   else match ba σ (wha σ x).v L [wha σ y]with
    | .over=> .over
    | .found k=> .no k
    | .free k=>ao F (put σ (wha σ x) (wha σ y)) k ps
  else if (wha σ y).v≠0 then
   match ba σ (wha σ y).v L [wha σ x]with
    | .over=> .over
    | .found k=> .no k
    | .free k=>ao F (put σ (wha σ y) (wha σ x)) k ps
  else if (wha σ x).nm.toList=(wha σ y).nm.toList /\ (wha σ x).len=(wha σ y).len then ao F σ L (jp (wha σ x) (wha σ y)++ps)
  else .no L
theorem Good.gf {w w':World} {b m:Nat} {tv tv':Value} {N:Int} {T:Tm} (h:Good w b m tv N T) (hg:GF b m tv w w') (hn:TN tv tv' w):Good w' b m tv' N T:=
 ⟨h.1.gf hg h.2.2.1 h.2.2.2.1 h.2.2.2.2,h.2.1,h.2.2.1,h.2.2.2.1,fun g hg'=>by
  rcases hn g hg' with e|e
  .exact h.2.2.2.2 g e
  .exact h.1.nb e⟩
theorem Good.below {w w':World} {b m:Nat} {tv:Value} {N:Int} {T:Tm} (h:Good w b m tv N T) (hb:Below w.heap.size w w'):Good w' b m tv N T:=h.gf (GF.ofBelow hb) (TN.refl _ _)
theorem Good.kid {w:World} {b m:Nat} {tv:Value} {N:Int} {T:Tm} (h:Good w b m tv N T) {i:Nat} (hi:i<T.len):Good w b m tv N (T.f i):=
 ⟨h.1.kid hi,h.2.1.kid hi,h.2.2.1.kid hi,h.2.2.2.1.kid hi,fun g hg=>(h.2.2.2.2 g hg).kid hi⟩
theorem VS.good {w:World} {b m:Nat} {tv:Value} {N:Int} {lo n:Nat} {σ:Sg} {L:Int} (h:VS w b m tv N lo n σ L) {T:Tm} (hT:Good w b m tv N T):Good w b m tv N (wha σ T):=by
 rcases pq σ (T.v.toNat+1) T with e| ⟨v,e⟩
 .unfold wha;rw[e];exact hT
 .obtain ⟨h1,h2,h3,h4,h5⟩:=h.trm v _ e
  exact ⟨h1,h2,h3,h4,h5⟩
def Qm (K:Tm ->Prop):Prop:=∀T,K T -> ∀i,i<T.len ->K (T.f i)
def KX (σ:Sg) (S T:Tm) (σ':Sg):Prop:=∀K,Qm K ->(∀v U,σ v=some U ->K U) ->K S ->K T -> ∀v U,σ' v=some U ->K U
theorem KX.refl (σ:Sg) (S T:Tm):KX σ S T σ:=fun _ _ h _ _=>h
theorem Kj {K:Tm ->Prop} {σ:Sg} (h: ∀v U,σ v=some U ->K U) {T:Tm} (hT:K T):K (wha σ T):=by
 rcases pq σ (T.v.toNat+1) T with e| ⟨v,e⟩
 .unfold wha;rw[e];exact hT
 .exact h v _ e
theorem Kk {K:Tm ->Prop} {σ:Sg} (h: ∀v U,σ v=some U ->K U) {X T:Tm} (hX:K X) (hT:K T): ∀v U,put σ X T v=some U ->K U:=by
 intro v U hv;unfold put at hv
 split at hv <;>
 .unfold upd at hv
  split at hv
  .obtain rfl:=oj hv
   assumption
  .exact h v U hv
def SP (w:World) (b m:Nat) (tv:Value) (N:Int) (lo n:Nat) (σ:Sg) (L:Nat) (S T:Tm) (e:Ending) (w':World):Prop:=
 (e=.returned (.bool true) /\ ∃(k:Nat) (σ':Sg) (tv':Value) (n':Nat),k<L /\ VS w' b m tv' N lo n' σ' k /\ n'+k<=n+L /\ GF b m tv w w' /\ (TX lo tv σ w tv' σ' w' /\ KX σ S T σ') /\ ∀F ps,L<F -> ∃F',k<F' /\ ao F σ L ((S,T)::ps)=ao F' σ' k ps) \/
 (e=.returned (.bool false) /\ ∃(L':Int) (σ':Sg) (tv':Value) (n':Nat),VS w' b m tv' N lo n' σ' L' /\ n'<=n+L /\ GF b m tv w w' /\ (TX lo tv σ w tv' σ' w' /\ KX σ S T σ') /\ ((L'= -1 /\ ∀F ps,L<F ->ao F σ L ((S,T)::ps)=.over) \/ ∃k:Nat,L'=k /\ k<L /\ ∀F ps,L<F ->ao F σ L ((S,T)::ps)=.no k))
def SC (L:Nat):Prop:=∀(b m:Nat) (tv:Value) (N:Int) (lo n:Nat) (σ:Sg) (S T:Tm) (w:World),VS w b m tv N lo n σ L ->L<=4000 ->n+L<=1000000000 ->Good w b m tv N S ->Good w b m tv N T ->
    Calls prog 146 #[.pointer (some ⟨b,0,none⟩),S.val,T.val] w (SP w b m tv N lo n σ L S T)
theorem py {b m:Nat} {tv:Value} {N:Int} {lo n:Nat} {σ:Sg} {L:Int} (T:Tm) (w:World) (hS:VS w b m tv N lo n σ L) (hT:d9 N T):
 Calls prog 122 #[.pointer (some ⟨b,0,none⟩),.agg #[iV T.v,.string T.nm,.slice T.a T.len T.cap]] w fun e w'=>e=.returned (.agg #[iV (wha σ T).v,.string (wha σ T).nm,.slice (wha σ T).a (wha σ T).len (wha σ T).cap]) /\ Below w.heap.size w w' /\ d9 N (wha σ T):=t5 T w hS hT
theorem T4 {w w2:World} {a0 a1 a2 c0 c1 c2:Value} (hS:w2.heap[w.heap.size]?=some (.cells #[a0,a1,a2] 67)) (hT:w2.heap[w.heap.size+1]?=some (.cells #[c0,c1,c2] 67)) (hB:Below w.heap.size w w2) (a0' a1' a2' c0' c1' c2':Value):
 (((((((w2.setCell ⟨w.heap.size,0,none⟩ a0').setCell ⟨w.heap.size,1,none⟩ a1').setCell ⟨w.heap.size,2,none⟩ a2').setCell ⟨w.heap.size+1,0,none⟩ c0').setCell ⟨w.heap.size+1,1,none⟩ c1').setCell ⟨w.heap.size+1,2,none⟩ c2').heap[w.heap.size]?=some (.cells #[a0',a1',a2'] 67)) /\
 (((((((w2.setCell ⟨w.heap.size,0,none⟩ a0').setCell ⟨w.heap.size,1,none⟩ a1').setCell ⟨w.heap.size,2,none⟩ a2').setCell ⟨w.heap.size+1,0,none⟩ c0').setCell ⟨w.heap.size+1,1,none⟩ c1').setCell ⟨w.heap.size+1,2,none⟩ c2').heap[w.heap.size+1]?=some (.cells #[c0',c1',c2'] 67)) /\
 Below w.heap.size w ((((((w2.setCell ⟨w.heap.size,0,none⟩ a0').setCell ⟨w.heap.size,1,none⟩ a1').setCell ⟨w.heap.size,2,none⟩ a2').setCell ⟨w.heap.size+1,0,none⟩ c0').setCell ⟨w.heap.size+1,1,none⟩ c1').setCell ⟨w.heap.size+1,2,none⟩ c2'):=by
 have hgA:w2.grownBy (((w2.setCell (dZ w.heap.size 0) a0').setCell (dZ w.heap.size 1) a1').setCell (dZ w.heap.size 2) a2') (some w.heap.size):=G.trans (G.trans (af _ 0 _) (af _ 1 _)) (af _ 2 _);have hXA:=wl (a:=a0') (b:=a1') (c:=a2') hS;have hTA:=(hgA.block (w.heap.size+1) (aZ hT) (by simp)).trans hT
 have hBA:=hB.grown hgA (by have:=hB.size;omega) (fun k hk=>by have:=oj hk;omega)
 generalize ((w2.setCell (dZ w.heap.size 0) a0').setCell (dZ w.heap.size 1) a1').setCell (dZ w.heap.size 2) a2'=wA at*;have hgB:wA.grownBy (((wA.setCell (dZ (w.heap.size+1) 0) c0').setCell (dZ (w.heap.size+1) 1) c1').setCell (dZ (w.heap.size+1) 2) c2') (some (w.heap.size+1)):=G.trans (G.trans (af _ 0 _) (af _ 1 _)) (af _ 2 _);have hTB:=wl (a:=c0') (b:=c1') (c:=c2') hTA;have hXB:=(hgB.block w.heap.size (aZ hXA) (by simp)).trans hXA
 exact ⟨hXB,hTB,hBA.grown hgB (by have:=hBA.size;omega) (fun k hk=>by have:=oj hk;omega)⟩
theorem SP.ok {w:World} {b m:Nat} {tv:Value} {N:Int} {lo n:Nat} {σ:Sg} {L:Nat} {S T:Tm} {e:Ending} {w':World} (h:SP w b m tv N lo n σ L S T e w'): ∃ok:Bool,e=.returned (.bool ok):=by
 rcases h with ⟨h,_⟩| ⟨h,_⟩
 .exact ⟨_,h⟩
 .exact ⟨_,h⟩
theorem SP.gf {w:World} {b m:Nat} {tv:Value} {N:Int} {lo n:Nat} {σ:Sg} {L:Nat} {S T:Tm} {e:Ending} {w':World} (h:SP w b m tv N lo n σ L S T e w'):GF b m tv w w':=by
 rcases h with ⟨_,_,_,_,_,_,_,_,h,_⟩| ⟨_,_,_,_,_,_,_,h,_⟩
 .exact h
 .exact h
theorem Bs {F:Nat} {σ:Sg} {L:Nat} {S T:Tm} {ps:List (Tm × Tm)} (h:(wha σ S).v≠0) (he:(wha σ S).v=(wha σ T).v):ao (F+1) σ (L+1) ((S,T)::ps)=ao F σ L ps:=by
 rw[ao,if_pos h,if_pos he]
theorem rh {F:Nat} {σ:Sg} {L:Nat} {S T:Tm} {ps:List (Tm × Tm)} (h:(wha σ S).v≠0) (he:(wha σ S).v≠(wha σ T).v):ao (F+1) σ (L+1) ((S,T)::ps)=match ba σ (wha σ S).v L [wha σ T]with
        | .over=> .over
        | .found k=> .no k
        | .free k=>ao F (put σ (wha σ S) (wha σ T)) k ps:=by
 rw[ao,if_pos h,if_neg he]
theorem vh {F:Nat} {σ:Sg} {L:Nat} {S T:Tm} {ps:List (Tm × Tm)} (h:(wha σ S).v=0) (he:(wha σ T).v≠0):ao (F+1) σ (L+1) ((S,T)::ps)=match ba σ (wha σ T).v L [wha σ S]with
        | .over=> .over
        | .found k=> .no k
        | .free k=>ao F (put σ (wha σ T) (wha σ S)) k ps:=by
 rw[ao,if_neg (by simpa using h),if_pos he]
theorem F7 {F:Nat} {σ:Sg} {L:Nat} {S T:Tm} {ps:List (Tm × Tm)} (h:(wha σ S).v=0) (he:(wha σ T).v=0) (hn:(wha σ S).nm.toList=(wha σ T).nm.toList) (hl:(wha σ S).len=(wha σ T).len):ao (F+1) σ (L+1) ((S,T)::ps)=ao F σ L (jp (wha σ S) (wha σ T)++ps):=by
 rw[ao,if_neg (by simpa using h),if_neg (by simpa using he),if_pos ⟨hn,hl⟩]
theorem Bu {F:Nat} {σ:Sg} {L:Nat} {S T:Tm} {ps:List (Tm × Tm)} (h:(wha σ S).v=0) (he:(wha σ T).v=0) (hn: ¬((wha σ S).nm.toList=(wha σ T).nm.toList /\ (wha σ S).len=(wha σ T).len)):ao (F+1) σ (L+1) ((S,T)::ps)=.no L:=by
 rw[ao,if_neg (by simpa using h),if_neg (by simpa using he),if_neg hn]
theorem SP.rebase {w W:World} {b m:Nat} {tv:Value} {N:Int} {lo n:Nat} {σ:Sg} {L:Nat} {S T:Tm} {e:Ending} {w':World} (hW:Below w.heap.size w W) (h:SP W b m tv N lo n σ L S T e w'):SP w b m tv N lo n σ L S T e w':=by
 rcases h with ⟨h0,k,σ',tv',n',h1,h2,h3,h4,h5,h6⟩| ⟨h0,L',σ',tv',n',h1,h2,h3,h4,h5⟩
 .exact .inl ⟨h0,k,σ',tv',n',h1,h2,h3,(GF.ofBelow hW).trans (TN.refl _ _) h4,⟨(TX.ofBelow hW).trans h5.1 hW.size,h5.2⟩,h6⟩
 .exact .inr ⟨h0,L',σ',tv',n',h1,h2,(GF.ofBelow hW).trans (TN.refl _ _) h3,⟨(TX.ofBelow hW).trans h4.1 hW.size,h4.2⟩,h5⟩
theorem GF.cell {b m:Nat} {tv:Value} {w w':World} (h:GF b m tv w w') {p:Addr} {v:Value} (hc:w.cell? p=some v) (h1:p.block≠b) (h2:p.block≠m) (h3: ∀g,tv.ownBlock=some g ->g≠p.block):w'.cell? p=some v:=
 (cB (h.block p.block (ag hc) h1 h2 h3)).trans hc
theorem Ha (L:Nat) (hall: ∀k,k<L ->SC k):SC L:=by
 intro b m tv N lo n σ S T w hS hL hn hGS hGT;have HAll:=hid hall;have HS:=hid hS;have HGS:=hid hGS;have HGT:=hid hGT;have hbl:=hS.lt;have hml:=hS.map.lt;clear hall hS hGS hGT
 show Calls prog 146 #[pZ b,.agg #[iV S.v,.string S.nm,.slice S.a S.len S.cap],.agg #[iV T.v,.string T.nm,.slice T.a T.len T.cap]] w _
 go_enter Tryz.func146,Tryz.ntmps146
 go_wp2_with fail;have HBx:Hid (Below w.heap.size w ((w.alloc (.cells #[iV S.v,.string S.nm,.slice S.a S.len S.cap] 67)).alloc (.cells #[iV T.v,.string T.nm,.slice T.a T.len T.cap] 67))):=bA.alloc (by simp) _
 have HX0:Hid (((w.alloc (.cells #[iV S.v,.string S.nm,.slice S.a S.len S.cap] 67)).alloc (.cells #[iV T.v,.string T.nm,.slice T.a T.len T.cap] 67)).heap[w.heap.size]?=some (.cells #[iV S.v,.string S.nm,.slice S.a S.len S.cap] 67)):=by
  rw[Hid,jZ _ _ (by simp)];exact hZ w _
 have HT0:Hid (((w.alloc (.cells #[iV S.v,.string S.nm,.slice S.a S.len S.cap] 67)).alloc (.cells #[iV T.v,.string T.nm,.slice T.a T.len T.cap] 67)).heap[w.heap.size+1]?=some (.cells #[iV T.v,.string T.nm,.slice T.a T.len T.cap] 67)):=by
  have:=hZ (w.alloc (.cells #[iV S.v,.string S.nm,.slice S.a S.len S.cap] 67)) (.cells #[iV T.v,.string T.nm,.slice T.a T.len T.cap] 67)
  rwa [show (w.alloc (.cells #[iV S.v,.string S.nm,.slice S.a S.len S.cap] 67)).heap.size=w.heap.size+1 from by simp]at this
 generalize ((w.alloc (.cells #[iV S.v,.string S.nm,.slice S.a S.len S.cap] 67)).alloc (.cells #[iV T.v,.string T.nm,.slice T.a T.len T.cap] 67))=wb at*;have hsb:w.heap.size+1<wb.heap.size:=(aZ HT0.o);have HVb:Hid (∀W,Below wb.heap.size wb W ->VS W b m tv N lo n σ L):=fun W hW=>(HS.o.below HBx.o).below hW
 have HCx:Hid (∀W,Below wb.heap.size wb W ->W.heap[w.heap.size]?=some (.cells #[iV S.v,.string S.nm,.slice S.a S.len S.cap] 67) /\ W.heap[w.heap.size+1]?=some (.cells #[iV T.v,.string T.nm,.slice T.a T.len T.cap] 67)):=fun W hW=>⟨(hW.block _ (by omega)).trans HX0.o,(hW.block _ (by omega)).trans HT0.o⟩
 obtain ⟨x0,x1,x2,f0,f1,f2⟩:=ae HX0.o;obtain ⟨t0,t1,t2,g0,g1,g2⟩:=ae HT0.o;have tok1:True:=trivial
 go_cut []from 8 to 13 (fun wx=>wx.heap[w.heap.size]?=some (.cells #[iV (wha σ S).v,.string (wha σ S).nm,.slice (wha σ S).a (wha σ S).len (wha σ S).cap] 67) /\ wx.heap[w.heap.size+1]?=some (.cells #[iV (wha σ T).v,.string (wha σ T).nm,.slice (wha σ T).a (wha σ T).len (wha σ T).cap] 67) /\ Below w.heap.size w wx)
 case first=>
  go_region_with (first
   | (go_at_call 122
      have _t:=tok1;refine (py S _ (HVb.o _ (by repeat (first|exact bR|refine Below.drew ?_))) HGS.o.2.1).mono ?_
      rintro e w1 ⟨rfl,hb1,hO1⟩;have HB1:Hid (Below wb.heap.size wb w1):=Below.trans (by repeat (first|exact bR|refine Below.drew ?_)) (hb1.mono lZ)
      obtain ⟨a0,a1,a2,_,_,_⟩:=ae (HCx.o _ HB1.o).1;obtain ⟨c0,c1,c2,_,_,_⟩:=ae (HCx.o _ HB1.o).2;clear hb1 hO1 tok1)
   | (go_at_call 122
      refine (py T _ (HVb.o _ (by repeat (first|exact HB1.o|refine Below.drew ?_))) HGT.o.2.1).mono ?_
      rintro e w2 ⟨rfl,hb2,hO2⟩;have HB2:Hid (Below wb.heap.size wb w2):=Below.trans (by repeat (first|exact HB1.o|refine Below.drew ?_)) (hb2.mono HB1.o.size)
      obtain ⟨d0,d1,d2,fd0,fd1,fd2⟩:=ae (HCx.o _ HB2.o).1;obtain ⟨e0,e1,e2,fe0,fe1,fe2⟩:=ae (HCx.o _ HB2.o).2;clear hb2 hO2))
  all_goals
   go_wp2_with fail
   go_meet
   case rel=>exact T4 (HCx.o _ HB2.o).1 (HCx.o _ HB2.o).2 (HBx.o.trans (HB2.o.mono HBx.o.size)) _ _ _ _ _ _
 case rest=>
  obtain ⟨hA,hC,hB⟩:=hcut;have HGU:=hid (HS.o.good HGS.o);have HGV:=hid (HS.o.good HGT.o);have HMv:Hid (∀F k ps,(wha σ S).v≠0 ->(wha σ S).v=(wha σ T).v ->ao (F+1) σ (k+1) ((S,T)::ps)=ao F σ k ps):=fun F k ps h1 h2=>Bs h1 h2
  have HMl:Hid (∀F k ps,(wha σ S).v≠0 ->(wha σ S).v≠(wha σ T).v ->ao (F+1) σ (k+1) ((S,T)::ps)=match ba σ (wha σ S).v k [wha σ T]with
   | .over=> .over
   | .found k=> .no k
   | .free k=>ao F (put σ (wha σ S) (wha σ T)) k ps):=fun F k ps h1 h2=>rh h1 h2
  have HMr:Hid (∀F k ps,(wha σ S).v=0 ->(wha σ T).v≠0 ->ao (F+1) σ (k+1) ((S,T)::ps)=match ba σ (wha σ T).v k [wha σ S]with
   | .over=> .over
   | .found k=> .no k
   | .free k=>ao F (put σ (wha σ T) (wha σ S)) k ps):=fun F k ps h1 h2=>vh h1 h2
  have HMo:Hid (∀F k ps,(wha σ S).v=0 ->(wha σ T).v=0 ->(wha σ S).nm.toList=(wha σ T).nm.toList ->(wha σ S).len=(wha σ T).len ->ao (F+1) σ (k+1) ((S,T)::ps)=ao F σ k (jp (wha σ S) (wha σ T)++ps)):=fun F k ps h1 h2 h3 h4=>F7 h1 h2 h3 h4
  have HMf:Hid (∀F k ps,(wha σ S).v=0 ->(wha σ T).v=0 -> ¬((wha σ S).nm.toList=(wha σ T).nm.toList /\ (wha σ S).len=(wha σ T).len) ->ao (F+1) σ (k+1) ((S,T)::ps)=.no k):=fun F k ps h1 h2 h3=>Bu h1 h2 h3
  have HKU:Hid (∀K,Qm K ->(∀v U,σ v=some U ->K U) ->K S ->K T ->K (wha σ S) /\ K (wha σ T)):=fun K _ h1 h2 h3=>⟨Kj h1 h2,Kj h1 h3⟩
  have HUn:Hid ((wha σ S).v≠0 ->σ (wha σ S).v=none):=fun h=>zv HS.o.dec _ S HGS.o.2.1.top.1 (by omega) h
  have HVn:Hid ((wha σ T).v≠0 ->σ (wha σ T).v=none):=fun h=>zv HS.o.dec _ T HGT.o.2.1.top.1 (by omega) h
  have HA:=hid hA;have HC:=hid hC;have HB:=hid hB;clear hA hC hB x0 x1 x2 f0 f1 f2 t0 t1 t2 g0 g1 g2 HCx HVb HX0 HT0 HBx hsb tok1;generalize wha σ S=U at*;generalize wha σ T=V at*;have hulen:U.len<=2 ^ 63-1:=HGU.o.1.len;have hvlen:V.len<=2 ^ 63-1:=HGV.o.1.len;obtain ⟨x0,x1,x2,f0,f1,f2⟩:=ae HA.o;obtain ⟨t0,t1,t2,g0,g1,g2⟩:=ae HC.o;go_wp2_with fail;refine (Bx wc (HS.o.below HB.o) hL).mono ?_;rintro e w3 ⟨rfl,hS3,hG3⟩;have HS3:Hid (VS w3 b m tv N lo n σ ((L:Int)-1)):=hS3;have hcs:w.heap.size+1<wc.heap.size:=ag t0;have HF3:Hid (GF b m tv w w3):=(GF.ofBelow HB.o).trans (TN.refl _ _) (GF.ofG hG3);have HT3:Hid (TX lo tv σ w tv σ w3):=(TX.ofBelow HB.o).trans (TX.ofG hG3 (fun g hg=>(HS.o.tb g hg).1)) HB.o.size
  have HA3:Hid (w3.heap[w.heap.size]?=some (.cells #[iV U.v,.string U.nm,.slice U.a U.len U.cap] 67)):=(hG3.block _ (by omega) (by simp;omega)).trans HA.o
  have HC3:Hid (w3.heap[w.heap.size+1]?=some (.cells #[iV V.v,.string V.nm,.slice V.a V.len V.cap] 67)):=(hG3.block _ (by omega) (by simp;omega)).trans HC.o
  clear hS3 hG3 x0 x1 x2 f0 f1 f2 t0 t1 t2 g0 g1 g2 HA HC HB;obtain ⟨x0,x1,x2,f0,f1,f2⟩:=ae HA3.o;obtain ⟨t0,t1,t2,g0,g1,g2⟩:=ae HC3.o
  by_cases h0:L=0
  .subst h0
   rw[show decide (1<=((0:Nat):Int))=false from rfl]
   replace HS3:Hid (VS w3 b m tv N lo n σ (-1)):=HS3.o;go_wp2_with fail;go_ret
   exact .inr ⟨rfl,-1,σ,tv,n,HS3.o,by omega,HF3.o,⟨HT3.o,KX.refl _ _ _⟩,.inl ⟨rfl,fun F ps hF=>by
    obtain ⟨F',rfl⟩: ∃F',F=F'+1:=⟨F-1,by omega⟩
    rfl⟩⟩
  rw[show decide (1<=(L:Int))=true from decide_eq_true (by omega)]
  obtain ⟨k,rfl⟩: ∃k,L=k+1:=⟨L-1,by omega⟩
  replace HS3:Hid (VS w3 b m tv N lo n σ (k:Int)):=by
   have:=HS3.o
   rwa [show ((k+1:Nat):Int)-1=(k:Int)from by omega]at this
  have HGU3:Hid (Good w3 b m tv N U):=HGU.o.gf HF3.o (TN.refl _ _);have HGV3:Hid (Good w3 b m tv N V):=HGV.o.gf HF3.o (TN.refl _ _)
  by_cases hu:U.v=0
  case neg=>
   have hub:(U.v !=0)=true:=bne_iff_ne.2 hu
   by_cases huv:U.v=V.v
   .have huvb:(U.v==V.v)=true:=beq_iff_eq.2 huv
    have HR:Hid (∀F ps,k+1<F -> ∃F',k<F' /\ ao F σ (k+1) ((S,T)::ps)=ao F' σ k ps):=fun F ps hF=>by
     obtain ⟨F',rfl⟩: ∃F',F=F'+1:=⟨F-1,by omega⟩
     exact ⟨F',by omega,HMv.o F' k ps hu huv⟩
    clear hu huv;go_wp2_with fail;go_ret;exact .inl ⟨rfl,k,σ,tv,n,by omega,HS3.o,by omega,HF3.o,⟨HT3.o,KX.refl _ _ _⟩,HR.o⟩
   .have huvb:(U.v==V.v)=false:=bF huv
    have HR:Hid (∀F ps,k+1<F -> ∃F',k<F' /\ ao F σ (k+1) ((S,T)::ps)=match ba σ U.v k [V]with
     | .over=> .over
     | .found k=> .no k
     | .free k=>ao F' (put σ U V) k ps):=fun F ps hF=>by
     obtain ⟨F',rfl⟩: ∃F',F=F'+1:=⟨F-1,by omega⟩
     exact ⟨F',by omega,HMl.o F' k ps hu huv⟩
    have HBi:Hid (Calls prog 166 #[pZ b,.agg #[iV U.v,.string U.nm,.slice U.a U.len U.cap],.agg #[iV V.v,.string V.nm,.slice V.a V.len V.cap]] w3 fun e w'=>(e=.returned (.bool true) /\ ∃(tv':Value) (q:Nat),ba σ U.v k [V]=.free q /\ q<k /\ VS w' b m tv' N lo (n+1) (put σ U V) q /\ GF b m tv w3 w' /\ TX lo tv σ w3 tv' (put σ U V) w') \/ (e=.returned (.bool false) /\ ∃L':Int,VS w' b m tv N lo n σ L' /\ (GF b m tv w3 w' /\ TX lo tv σ w3 tv σ w') /\ ((L'= -1 /\ ba σ U.v k [V]=.over) \/ ∃q:Nat,L'=q /\ q<k /\ ba σ U.v k [V]=.found q))):=Cm U V w3 HS3.o (by omega) (by omega) HGU3.o HGV3.o hu huv (HUn.o hu) HVn.o
    clear hu huv;go_wp2_with fail;refine HBi.o.mono ?_;rintro e w5 (⟨rfl,tv',q,hw,hq,hS5,hG5,hT5⟩| ⟨rfl,L',hS5,⟨hG5,hT5⟩,(⟨rfl,hw⟩| ⟨q,rfl,hq,hw⟩)⟩)
    .have HQ:Hid (∀F ps,k+1<F -> ∃F',q<F' /\ ao F σ (k+1) ((S,T)::ps)=ao F' (put σ U V) q ps):=fun F ps hF=>by
      obtain ⟨F',h1,h2⟩:=HR.o F ps hF;exact ⟨F',by omega,by rw[h2,hw]⟩
     have HS5:Hid (VS w5 b m tv' N lo (n+1) (put σ U V) q):=hS5;have HF5:Hid (GF b m tv w w5):=HF3.o.trans (TN.refl _ _) hG5;have HT5:Hid (TX lo tv σ w tv' (put σ U V) w5 /\ KX σ S T (put σ U V)):=⟨HT3.o.trans hT5 HF3.o.size,fun K hK h1 h2 h3=>Kk h1 (HKU.o K hK h1 h2 h3).1 (HKU.o K hK h1 h2 h3).2⟩
     clear hw hS5 hG5 hT5;go_wp2_with fail;go_ret;exact .inl ⟨rfl,q,_,tv',n+1,by omega,HS5.o,by omega,HF5.o,HT5.o,HQ.o⟩
    .have HQ:Hid (∀F ps,k+1<F ->ao F σ (k+1) ((S,T)::ps)=.over):=fun F ps hF=>by
      obtain ⟨F',h1,h2⟩:=HR.o F ps hF;rw[h2,hw]
     have HS5:Hid (VS w5 b m tv N lo n σ (-1)):=hS5;have HF5:Hid (GF b m tv w w5):=HF3.o.trans (TN.refl _ _) hG5;have HT5:Hid (TX lo tv σ w tv σ w5 /\ KX σ S T σ):=⟨HT3.o.trans hT5 HF3.o.size,KX.refl _ _ _⟩;clear hw hS5 hG5 hT5;go_wp2_with fail;go_ret;exact .inr ⟨rfl,-1,σ,tv,n,HS5.o,by omega,HF5.o,HT5.o,.inl ⟨rfl,HQ.o⟩⟩
    .have HQ:Hid (∀F ps,k+1<F ->ao F σ (k+1) ((S,T)::ps)=.no q):=fun F ps hF=>by
      obtain ⟨F',h1,h2⟩:=HR.o F ps hF;rw[h2,hw]
     have HS5:Hid (VS w5 b m tv N lo n σ (q:Int)):=hS5;have HF5:Hid (GF b m tv w w5):=HF3.o.trans (TN.refl _ _) hG5;have HT5:Hid (TX lo tv σ w tv σ w5 /\ KX σ S T σ):=⟨HT3.o.trans hT5 HF3.o.size,KX.refl _ _ _⟩;clear hw hS5 hG5 hT5;go_wp2_with fail;go_ret;exact .inr ⟨rfl,q,σ,tv,n,HS5.o,by omega,HF5.o,HT5.o,.inr ⟨q,rfl,by omega,HQ.o⟩⟩
  case pos=>
  have hub:(U.v !=0)=false:=by rw[hu];rfl
  by_cases hv:V.v=0
  case neg=>
   have hvb:(V.v !=0)=true:=bne_iff_ne.2 hv
   have HR:Hid (∀F ps,k+1<F -> ∃F',k<F' /\ ao F σ (k+1) ((S,T)::ps)=match ba σ V.v k [U]with
    | .over=> .over
    | .found k=> .no k
    | .free k=>ao F' (put σ V U) k ps):=fun F ps hF=>by
    obtain ⟨F',rfl⟩: ∃F',F=F'+1:=⟨F-1,by omega⟩
    exact ⟨F',by omega,HMr.o F' k ps hu hv⟩
   have HBi:Hid (Calls prog 166 #[pZ b,.agg #[iV V.v,.string V.nm,.slice V.a V.len V.cap],.agg #[iV U.v,.string U.nm,.slice U.a U.len U.cap]] w3 fun e w'=>(e=.returned (.bool true) /\ ∃(tv':Value) (q:Nat),ba σ V.v k [U]=.free q /\ q<k /\ VS w' b m tv' N lo (n+1) (put σ V U) q /\ GF b m tv w3 w' /\ TX lo tv σ w3 tv' (put σ V U) w') \/ (e=.returned (.bool false) /\ ∃L':Int,VS w' b m tv N lo n σ L' /\ (GF b m tv w3 w' /\ TX lo tv σ w3 tv σ w') /\ ((L'= -1 /\ ba σ V.v k [U]=.over) \/ ∃q:Nat,L'=q /\ q<k /\ ba σ V.v k [U]=.found q))):=Cm V U w3 HS3.o (by omega) (by omega) HGV3.o HGU3.o hv (by omega) (HVn.o hv) HUn.o
   clear hu hv;go_wp2_with fail;refine HBi.o.mono ?_;rintro e w5 (⟨rfl,tv',q,hw,hq,hS5,hG5,hT5⟩| ⟨rfl,L',hS5,⟨hG5,hT5⟩,(⟨rfl,hw⟩| ⟨q,rfl,hq,hw⟩)⟩)
   .have HQ:Hid (∀F ps,k+1<F -> ∃F',q<F' /\ ao F σ (k+1) ((S,T)::ps)=ao F' (put σ V U) q ps):=fun F ps hF=>by
     obtain ⟨F',h1,h2⟩:=HR.o F ps hF;exact ⟨F',by omega,by rw[h2,hw]⟩
    have HS5:Hid (VS w5 b m tv' N lo (n+1) (put σ V U) q):=hS5;have HF5:Hid (GF b m tv w w5):=HF3.o.trans (TN.refl _ _) hG5;have HT5:Hid (TX lo tv σ w tv' (put σ V U) w5 /\ KX σ S T (put σ V U)):=⟨HT3.o.trans hT5 HF3.o.size,fun K hK h1 h2 h3=>Kk h1 (HKU.o K hK h1 h2 h3).2 (HKU.o K hK h1 h2 h3).1⟩
    clear hw hS5 hG5 hT5;go_wp2_with fail;go_ret;exact .inl ⟨rfl,q,_,tv',n+1,by omega,HS5.o,by omega,HF5.o,HT5.o,HQ.o⟩
   .have HQ:Hid (∀F ps,k+1<F ->ao F σ (k+1) ((S,T)::ps)=.over):=fun F ps hF=>by
     obtain ⟨F',h1,h2⟩:=HR.o F ps hF;rw[h2,hw]
    have HS5:Hid (VS w5 b m tv N lo n σ (-1)):=hS5;have HF5:Hid (GF b m tv w w5):=HF3.o.trans (TN.refl _ _) hG5;have HT5:Hid (TX lo tv σ w tv σ w5 /\ KX σ S T σ):=⟨HT3.o.trans hT5 HF3.o.size,KX.refl _ _ _⟩;clear hw hS5 hG5 hT5;go_wp2_with fail;go_ret;exact .inr ⟨rfl,-1,σ,tv,n,HS5.o,by omega,HF5.o,HT5.o,.inl ⟨rfl,HQ.o⟩⟩
   .have HQ:Hid (∀F ps,k+1<F ->ao F σ (k+1) ((S,T)::ps)=.no q):=fun F ps hF=>by
     obtain ⟨F',h1,h2⟩:=HR.o F ps hF;rw[h2,hw]
    have HS5:Hid (VS w5 b m tv N lo n σ (q:Int)):=hS5;have HF5:Hid (GF b m tv w w5):=HF3.o.trans (TN.refl _ _) hG5;have HT5:Hid (TX lo tv σ w tv σ w5 /\ KX σ S T σ):=⟨HT3.o.trans hT5 HF3.o.size,KX.refl _ _ _⟩;clear hw hS5 hG5 hT5;go_wp2_with fail;go_ret;exact .inr ⟨rfl,q,σ,tv,n,HS5.o,by omega,HF5.o,HT5.o,.inr ⟨q,rfl,by omega,HQ.o⟩⟩
  case pos=>
  have hvb:(V.v !=0)=false:=by rw[hv];rfl
  by_cases hsame:U.nm.toList=V.nm.toList /\ U.len=V.len
  case neg=>
   have HR:Hid (∀F ps,k+1<F ->ao F σ (k+1) ((S,T)::ps)=.no k):=fun F ps hF=>by
    obtain ⟨F',rfl⟩: ∃F',F=F'+1:=⟨F-1,by omega⟩
    exact HMf.o F' k ps hu hv hsame
   by_cases hnm:U.nm.toList=V.nm.toList
   .have hnb:(U.nm.toList==V.nm.toList)=true:=beq_iff_eq.2 hnm
    have hnb2:(U.nm.toList !=V.nm.toList)=false:=by rw[hnm];simp
    have hlb:((U.len:Int) !=(V.len:Int))=true:=bne_iff_ne.2 (fun e=>hsame ⟨hnm,by omega⟩)
    clear hsame hnm hu hv;go_wp2_with fail;go_ret;exact .inr ⟨rfl,k,σ,tv,n,HS3.o,by omega,HF3.o,⟨HT3.o,KX.refl _ _ _⟩,.inr ⟨k,rfl,by omega,HR.o⟩⟩
   .have hnb:(U.nm.toList==V.nm.toList)=false:=bF hnm
    have hnb2:(U.nm.toList !=V.nm.toList)=true:=bne_iff_ne.2 hnm;clear hsame hnm hu hv;go_wp2_with fail;go_ret;exact .inr ⟨rfl,k,σ,tv,n,HS3.o,by omega,HF3.o,⟨HT3.o,KX.refl _ _ _⟩,.inr ⟨k,rfl,by omega,HR.o⟩⟩
  case pos=>
  obtain ⟨hnm,hlen⟩:=hsame;have hnb:(U.nm.toList==V.nm.toList)=true:=beq_iff_eq.2 hnm;have hnb2:(U.nm.toList !=V.nm.toList)=false:=by rw[hnm];simp
  have hlb:((U.len:Int) !=(V.len:Int))=false:=by rw[hlen];simp
  have HR:Hid (∀F ps,k+1<F -> ∃F',k<F' /\ ao F σ (k+1) ((S,T)::ps)=ao F' σ k (jp U V++ps)):=fun F ps hF=>by
   obtain ⟨F',rfl⟩: ∃F',F=F'+1:=⟨F-1,by omega⟩
   exact ⟨F',by omega,HMo.o F' k ps hu hv hnm hlen⟩
  clear hnm hu hv HMv HMl HMr HMo HMf;go_wp2_with fail;generalize hua:U.a=ua at*;generalize hva:V.a=va at*
  go_loopw [63] (fun i wr=>∃(j kj nj:Nat) (σj:Sg) (tvj:Value),j<=U.len /\ i=iV j /\ kj<=k /\ VS wr b m tvj N lo nj σj kj /\ nj+kj<=n+k /\ GF b m tv w3 wr /\ (TX lo tv σ w3 tvj σj wr /\ KX σ S T σj) /\ ∀F ps,k+1<F -> ∃F',kj<F' /\ ao F σ (k+1) ((S,T)::ps)=ao F' σj kj ((jp U V).drop j++ps)) (fun i _=>U.len-(intOf i).toNat)
  case atStart=>exact ⟨0,k,n,σ,tv,oZ,rfl,lZ,HS3.o,lZ,GF.refl _ _ _ _,⟨TX.ofBelow bR,KX.refl _ _ _⟩,HR.o⟩
  case round=>
   obtain ⟨j,kj,nj,σj,tvj,hj,rfl,hkj,hSr,hnj,hGr,⟨hTr,hKr⟩,hRr⟩:=hrel;have HSr:Hid (VS wr b m tvj N lo nj σj kj):=hSr;have HGr:Hid (GF b m tv w3 wr):=hGr;have HTr:Hid (TX lo tv σ w3 tvj σj wr):=hTr;have HKr:Hid (KX σ S T σj):=hKr;have HRr:Hid (∀F ps,k+1<F -> ∃F',kj<F' /\ ao F σ (k+1) ((S,T)::ps)=ao F' σj kj ((jp U V).drop j++ps)):=hRr;have hw3:w.heap.size+1<w3.heap.size:=ag (ae HC3.o).1;clear hSr hGr hTr hKr hRr HR
   by_cases hlt:j<U.len
   case neg=>
    have hje:j=U.len:=by omega
    have HQ:Hid (∀F ps,k+1<F -> ∃F',kj<F' /\ ao F σ (k+1) ((S,T)::ps)=ao F' σj kj ps):=fun F ps hF=>by
     obtain ⟨F',h1,h2⟩:=HRr.o F ps hF;exact ⟨F',h1,by rw[h2,hje,Kp];rfl⟩
    clear hje;go_wp2_with fail;go_ret;exact .inl ⟨rfl,kj,σj,tvj,nj,by omega,HSr.o,by omega,HF3.o.trans (TN.refl _ _) HGr.o,⟨HT3.o.trans HTr.o HF3.o.size,HKr.o⟩,HQ.o⟩
   have hGUr:Good wr b m tvj N U:=HGU3.o.gf HGr.o HTr.o.1;have hGVr:Good wr b m tvj N V:=HGV3.o.gf HGr.o HTr.o.1;have HGUj:Hid (Good wr b m tvj N (U.f j)):=hGUr.kid hlt;have HGVj:Hid (Good wr b m tvj N (V.f j)):=hGVr.kid (by omega)
   have HNb:Hid ((∃bb o,ua=some (dZ bb o) /\ bb≠b /\ bb≠m /\ ∀g,tvj.ownBlock=some g ->g≠bb) /\ (∃bb o,va=some (dZ bb o) /\ bb≠b /\ bb≠m /\ ∀g,tvj.ownBlock=some g ->g≠bb)):=by
    refine ⟨?_,?_⟩
    .obtain ⟨b1,o1,e1,n1⟩:=hGUr.2.2.1.root (by omega)
     obtain ⟨b2,o2,e2,n2⟩:=hGUr.2.2.2.1.root (by omega)
     rw[hua]at e1 e2;refine ⟨b1,o1,e1,n1,?_,fun g hg=>?_⟩
     .rw[e1]at e2;cases e2;exact n2
     .obtain ⟨b3,o3,e3,n3⟩:=(hGUr.2.2.2.2 g hg).root (by omega)
      rw[hua,e1]at e3;cases e3;exact fun e=>n3 e.symm
    .obtain ⟨b1,o1,e1,n1⟩:=hGVr.2.2.1.root (by omega)
     obtain ⟨b2,o2,e2,n2⟩:=hGVr.2.2.2.1.root (by omega)
     rw[hva]at e1 e2;refine ⟨b1,o1,e1,n1,?_,fun g hg=>?_⟩
     .rw[e1]at e2;cases e2;exact n2
     .obtain ⟨b3,o3,e3,n3⟩:=(hGVr.2.2.2.2 g hg).root (by omega)
      rw[hva,e1]at e3;cases e3;exact fun e=>n3 e.symm
   have hru:fe wr ua j (U.f j):=hua▸hGUr.1.row hlt;have hrv:fe wr va j (V.f j):=hva▸hGVr.1.row (by omega)
   have htl:=HS.o.trail_lt;have X2:wr.cell? (dZ w.heap.size 2)=some (.slice ua U.len U.cap):=HGr.o.cell x2 (by simp;omega) (by simp;omega) (fun g hg=>by have:=htl g hg;simp;omega)
   have T2:wr.cell? (dZ (w.heap.size+1) 2)=some (.slice va V.len V.cap):=HGr.o.cell t2 (by simp;omega) (by simp;omega) (fun g hg=>by have:=htl g hg;simp;omega)
   have HTl:Hid (∀g,tvj.ownBlock=some g ->g≠w.heap.size /\ g≠w.heap.size+1):=fun g hg=>by
    rcases HTr.o.1 g hg with h|h
    .have:=htl g h;omega
    .omega
   have HRj:Hid (∀F ps,k+1<F -> ∃F',kj<F' /\ ao F σ (k+1) ((S,T)::ps)=ao F' σj kj ((U.f j,V.f j)::((jp U V).drop (j+1)++ps))):=fun F ps hF=>by
    obtain ⟨F',h1,h2⟩:=HRr.o F ps hF;exact ⟨F',h1,by rw[h2,Gw hlt];rfl⟩
   obtain ⟨bu,ou,hue,c0,c1,c2⟩:=hru;obtain ⟨bv,ov,hve,d0,d1,d2⟩:=hrv;clear hGUr hGVr htl HRr;subst hue hve;have hltV:j<V.len:=by omega
   have hltI:(j:Int)<(U.len:Int):=by omega
   have hltJ:(j:Int)<(V.len:Int):=by omega
   have HKg:Hid (∀W,GF b m tvj wr W ->W.cell? (dZ w.heap.size 2)=some (.slice (some (dZ bu ou)) U.len U.cap) /\ W.cell? (dZ (w.heap.size+1) 2)=some (.slice (some (dZ bv ov)) V.len V.cap) /\ W.cell? (dZ bu (ou+j*3))=some (iV (U.f j).v) /\ W.cell? (dZ bu (ou+j*3+1))=some (.string (U.f j).nm) /\ W.cell? (dZ bu (ou+j*3+2))=some (.slice (U.f j).a (U.f j).len (U.f j).cap) /\ W.cell? (dZ bv (ov+j*3))=some (iV (V.f j).v) /\ W.cell? (dZ bv (ov+j*3+1))=some (.string (V.f j).nm) /\ W.cell? (dZ bv (ov+j*3+2))=some (.slice (V.f j).a (V.f j).len (V.f j).cap)):=fun W hW=>by
    obtain ⟨⟨bb,o,e1,n1,n2,n3⟩,⟨bb',o',e1',n1',n2',n3'⟩⟩:=HNb.o;cases e1;cases e1';exact ⟨hW.cell X2 (by simp;omega) (by simp;omega) (fun g hg=>(HTl.o g hg).1),hW.cell T2 (by simp;omega) (by simp;omega) (fun g hg=>(HTl.o g hg).2),hW.cell c0 n1 n2 n3,hW.cell c1 n1 n2 n3,hW.cell c2 n1 n2 n3,hW.cell d0 n1' n2' n3',hW.cell d1 n1' n2' n3',hW.cell d2 n1' n2' n3'⟩
   have HKp:Hid (∀W,Below wr.heap.size wr W ->W.cell? (dZ w.heap.size 2)=some (.slice (some (dZ bu ou)) U.len U.cap) /\ W.cell? (dZ (w.heap.size+1) 2)=some (.slice (some (dZ bv ov)) V.len V.cap) /\ W.cell? (dZ bu (ou+j*3))=some (iV (U.f j).v) /\ W.cell? (dZ bu (ou+j*3+1))=some (.string (U.f j).nm) /\ W.cell? (dZ bu (ou+j*3+2))=some (.slice (U.f j).a (U.f j).len (U.f j).cap) /\ W.cell? (dZ bv (ov+j*3))=some (iV (V.f j).v) /\ W.cell? (dZ bv (ov+j*3+1))=some (.string (V.f j).nm) /\ W.cell? (dZ bv (ov+j*3+2))=some (.slice (V.f j).a (V.f j).len (V.f j).cap)):=fun W hW=>HKg.o W (GF.ofBelow hW)
   have HCj:Hid (∀W,Below wr.heap.size wr W ->Calls prog 146 #[pZ b,.agg #[iV (U.f j).v,.string (U.f j).nm,.slice (U.f j).a (U.f j).len (U.f j).cap],.agg #[iV (V.f j).v,.string (V.f j).nm,.slice (V.f j).a (V.f j).len (V.f j).cap]] W fun e w5=>∃ok:Bool,e=.returned (.bool ok) /\ SP wr b m tvj N lo nj σj kj (U.f j) (V.f j) (.returned (.bool ok)) w5):=fun W hW=>
    (HAll.o kj (by omega) b m tvj N lo nj σj (U.f j) (V.f j) W (HSr.o.below hW) (by omega) (by omega) (HGUj.o.below hW) (HGVj.o.below hW)).mono fun e w5 h5=>by
      obtain ⟨ok,rfl⟩:=h5.ok;exact ⟨ok,rfl,h5.rebase hW⟩
   clear x0 x1 x2 f0 f1 f2 t0 t1 t2 g0 g1 g2;go_wp2_with fail
   go_region_held3 (fun w'=>w'.cell? (dZ w.heap.size 2)=some (.slice (some (dZ bu ou)) U.len U.cap) /\ w'.cell? (dZ (w.heap.size+1) 2)=some (.slice (some (dZ bv ov)) V.len V.cap) /\ w'.cell? (dZ bu (ou+j*3))=some (iV (U.f j).v) /\ w'.cell? (dZ bu (ou+j*3+1))=some (.string (U.f j).nm) /\ w'.cell? (dZ bu (ou+j*3+2))=some (.slice (U.f j).a (U.f j).len (U.f j).cap) /\ w'.cell? (dZ bv (ov+j*3))=some (iV (V.f j).v) /\ w'.cell? (dZ bv (ov+j*3+1))=some (.string (V.f j).nm) /\ w'.cell? (dZ bv (ov+j*3+2))=some (.slice (V.f j).a (V.f j).len (V.f j).cap)) (first|exact HK5.o| ((refine HKp.o _ ?_;repeat (first|exact bR|refine Below.drew ?_)))) (first
    | (go_at_call 146
       refine (HCj.o _ (by repeat (first|exact bR|refine Below.drew ?_))).mono ?_
       rintro e w5 ⟨ok,rfl,h5⟩;have HK5:Hid (w5.cell? (dZ w.heap.size 2)=some (.slice (some (dZ bu ou)) U.len U.cap) /\ w5.cell? (dZ (w.heap.size+1) 2)=some (.slice (some (dZ bv ov)) V.len V.cap) /\ w5.cell? (dZ bu (ou+j*3))=some (iV (U.f j).v) /\ w5.cell? (dZ bu (ou+j*3+1))=some (.string (U.f j).nm) /\ w5.cell? (dZ bu (ou+j*3+2))=some (.slice (U.f j).a (U.f j).len (U.f j).cap) /\ w5.cell? (dZ bv (ov+j*3))=some (iV (V.f j).v) /\ w5.cell? (dZ bv (ov+j*3+1))=some (.string (V.f j).nm) /\ w5.cell? (dZ bv (ov+j*3+2))=some (.slice (V.f j).a (V.f j).len (V.f j).cap)):=HKg.o _ h5.gf;have H5:Hid (SP wr b m tvj N lo nj σj kj (U.f j) (V.f j) (.returned (.bool ok)) w5):=h5;clear h5))
   rcases H5.o with ⟨he,q,σq,tvq,nq,hq,hSq,hnq,hGq,⟨hTq,hKq⟩,hRq⟩| ⟨he,L',σq,tvq,nq,hSq,hnq,hGq,⟨hTq,hKq⟩,hRq⟩
   .obtain rfl:ok=true:=by simpa using he
    have HSq:Hid (VS w5 b m tvq N lo nq σq q):=hSq;have HGq:Hid (GF b m tv w3 w5):=HGr.o.trans HTr.o.1 hGq;have HTq:Hid (TX lo tv σ w3 tvq σq w5 /\ KX σ S T σq):=⟨HTr.o.trans hTq HGr.o.size,fun K hK h1 h2 h3=>hKq K hK (HKr.o K hK h1 h2 h3) (hK _ (HKU.o K hK h1 h2 h3).1 j hlt) (hK _ (HKU.o K hK h1 h2 h3).2 j hltV)⟩
    have HQ:Hid (∀F ps,k+1<F -> ∃F',q<F' /\ ao F σ (k+1) ((S,T)::ps)=ao F' σq q ((jp U V).drop (j+1)++ps)):=fun F ps hF=>by
     obtain ⟨F',h1,h2⟩:=HRj.o F ps hF;obtain ⟨F2,h3,h4⟩:=hRq F' ((jp U V).drop (j+1)++ps) h1;exact ⟨F2,h3,by rw[h2,h4]⟩
    clear H5 HK5 hSq hGq hTq hKq hRq he;go_wp2_with fail;go_roundw
    case rel=>exact ⟨j+1,q,nq,σq,tvq,by omega,by go_num,by omega,HSq.o,by omega,HGq.o,HTq.o,HQ.o⟩
    case measure=>simp[intOf];omega
   .obtain rfl:ok=false:=by simpa using he
    have HSq:=hid hSq;have HGq:=hid (HF3.o.trans (TN.refl _ _) (HGr.o.trans HTr.o.1 hGq));have HTq:Hid (TX lo tv σ w tvq σq w5 /\ KX σ S T σq):=⟨HT3.o.trans (HTr.o.trans hTq HGr.o.size) HF3.o.size,fun K hK h1 h2 h3=>hKq K hK (HKr.o K hK h1 h2 h3) (hK _ (HKU.o K hK h1 h2 h3).1 j hlt) (hK _ (HKU.o K hK h1 h2 h3).2 j hltV)⟩
    have HQ:Hid ((L'= -1 /\ ∀F ps,k+1<F ->ao F σ (k+1) ((S,T)::ps)=.over) \/ ∃q:Nat,L'=q /\ q<k+1 /\ ∀F ps,k+1<F ->ao F σ (k+1) ((S,T)::ps)=.no q):=by
     rcases hRq with ⟨h1,h2⟩| ⟨q,h1,h2,h3⟩
     .refine .inl ⟨h1,fun F ps hF=>?_⟩
      obtain ⟨F',g1,g2⟩:=HRj.o F ps hF;rw[g2,h2 F' _ g1]
     .refine .inr ⟨q,h1,by omega,fun F ps hF=>?_⟩
      obtain ⟨F',g1,g2⟩:=HRj.o F ps hF;rw[g2,h3 F' _ g1]
    clear H5 HK5 hSq hGq hTq hKq hRq he;go_wp2_with fail;go_ret;exact .inr ⟨rfl,L',σq,tvq,nq,HSq.o,by omega,HGq.o,HTq.o,HQ.o⟩
theorem K5: ∀L,SC L:=by
 intro L
 induction L using Nat.strongRecOn with
 |_ L ih=>exact Ha L ih
end Go.Proofs.YtmggaclaoefdaabGreat
