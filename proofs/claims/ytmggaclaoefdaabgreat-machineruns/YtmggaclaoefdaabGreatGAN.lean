/- Part of the proof. -/
import Derived.Test.YtmggaclaoefdaabGreatGAM
namespace Go.Proofs.YtmggaclaoefdaabGreat
open Go.RowKit Go.Shelf Go.Proofs.Tryz
set_option linter.unusedVariables false
set_option linter.unusedSimpArgs false
set_option maxRecDepth 100000
set_option maxHeartbeats 8000000
def pr (ops:Array Oper):Bool:=ops.all fun o=>match o.op with| .defer _=>false|_=>true
theorem Ek {ops:Array Oper} (h:pr ops=true) {i:Nat} {o:Oper} (ho:ops[i]?=some o): ∀c,o.op≠.defer c:=fun c e=>by
 unfold pr at h;rw[Array.all_eq_true]at h;obtain ⟨hi,e1⟩:=Array.getElem?_eq_some_iff.1 ho;have:=h i hi;rw[e1,e]at this;cases this
theorem Ef {P:Program} {row:String} {args:Array Value} {w:World} {R:Value->World->Prop} {l n:Nat} (h:Rows P row args w R):RowsIn (Fence.wide.inRound l) n P row args w R:=fun c cs _=>by
 obtain ⟨v,w',r,s⟩:=h c cs;exact ⟨v,w',r,stepsIn_wide.2 s⟩
theorem D1 {P:Program} {ops:Array Oper} {Q:Exit->Act->World->Prop} {l n i:Nat} {K:Act->World->Prop} {a:Act} {w:World} (hd:pr ops=true) (hQ: ¬LetsOut Q) (h:wpOp P ops Q i K a w):wpOpIn (Fence.wide.inRound l) n P ops Q i K a w:=by
 unfold wpOp at h;unfold wpOpIn
 cases ho:ops[i]? with
 |none=>rw[ho]at h;exact h
 |some o=>
  rw[ho]at h;dsimp only at h |-
  by_cases hw:Region.wanted o (yielded ops a.tmps)=true
  .rw[if_pos hw]at h |-
   rcases h with h|h
   .refine ⟨fun _ _=>trivial,?_⟩
    rw[Oper.semAt_plain _ _ _ (Ek hd ho)];unfold Oper.wp at h;generalize (execOp a.eval o).run P w=r at*
    cases r with
    |ok x w'=>
     cases x <;> simp only[Oper.upon]at h
     case value=>exact h
     case skip=>exact h
     case defer=>exact h
     case enter=>exact ⟨fun e=>(by cases e),CallsIn.inRound l (callsIn_wide.2 h)⟩
     case row=>exact ⟨fun e=>(by cases e),Ef h⟩
     all_goals exact h.elim
    |halt x w'=>
     cases x <;> simp only[Oper.upon]at h
     case panic=>exact h
     all_goals exact h.elim
   .exact absurd h.2 hQ
  .rw[if_neg hw]at h |-
   exact ⟨fun _ _=>trivial,h⟩
theorem Ct {P:Program} {ops:Array Oper} {Q:Exit->Act->World->Prop} {md:Region.Mode} {l n:Nat} (hd:pr ops=true) (hQ: ¬LetsOut Q): ∀(fuel:Nat) (listed:Array Bool) (a:Act) (w:World),wpAny P md ops Q fuel listed a w->wpAnyIn (Fence.wide.inRound l) n P md ops Q fuel listed a w:=by
 intro fuel
 induction fuel with
 |zero=>intro listed a w h;exact h
 |succ fuel ih=>intro listed a w h;exact ⟨h.1,fun i hi=>wpOpIn_mono (fun a w h=>ih _ a w h) (D1 hd hQ (h.2 i hi))⟩
theorem lz {P:Program} {ops:Array Oper} {Q:Exit->Act->World->Prop} {l n id:Nat} {a:Act} {w:World} (S:World->Prop) (hm:P.follows .mixedOrders=true) (hd:pr ops=true) (hQ: ¬LetsOut Q) (hS:S w.drew)
 (h:S w.drew->wpAnyH P .any ops Q S ops.size (Array.replicate ops.size false) a w.drew):(Code.region id ops true).wpIn (Fence.wide.inRound l) n P Q a w:=
 wpIn_region_any hm (Ct hd hQ _ _ _ _ (wpAny_of_held _ _ _ _ (h hS)))
section
attribute [local go_sem] Oper.semAt_some
theorem Bw.own {M:Nat->Prop} {s B:Nat} {w W W':World} {row:Option Nat} (h:Bw M s w W) (hs:s<=W.heap.size) (hB:s<=B) (hg:W.grownBy W' row) (hr: ∀r,row=some r->B<=r/\∃o:Obj,W.heap[r]?=some o/\o.isCells=false):Bw M s w W':=
 h.grown hg hs fun k e=> .inl (lT hB (hr k e).1)
theorem jh {W W':World} {B:Nat} {t:TypeId} {v:Value} {row:Option Nat} {C:Nat} (h:Boxed W B t v) (hg:W.grownBy W' row) (hr: ∀r,row=some r->C<=r/\∃o:Obj,W.heap[r]?=some o/\o.isCells=false):Boxed W' B t v:=
 h.kept hg (dd (fun r e=>(hr r e).2) h rfl)
theorem Bw.g {m:Nat} {w W:World} (h:Bw (fun k=>k=m) w.heap.size w W):w.grownBy W (some m):=⟨h.os,h.tape,h.output,h.size,fun k hk hn=>h.block k hk (fun e=>hn (by rw[e]))⟩
theorem Bw.ofG {m:Nat} {w W:World} (h:w.grownBy W (some m)):Bw (fun k=>k=m) w.heap.size w W:=⟨h.os,h.tape,h.output,h.size,fun k hk hn=>h.block k hk (fun e=>hn (oj e))⟩
def S8 (n:Nat):Prop:=∀(vb m:Nat) (a:Option Addr) (len cap:Nat) (h:Nat->Cl) (σ:Int->Option Int) (g:Nat) (lb:Array Value) (L:List Nat) (b:Nat) (w:World),HG h len->len<=1000000->VW w vb m a len cap h σ->(∀(args:Array Value) (w:World),(callFunc g args).run prog w=.ok (.enter g args) w)->b<w.heap.size->b≠m->Do g lb len L b w->
 Calls prog 114 #[.pointer (some ⟨vb,0,none⟩),iV (n:Int),.func (.func g) #[] lb] w fun e w'=>e=.returned (iV (gg (n:Int) (gd h len L)))/\(∃σ',VW w' vb m a len cap h σ')/\w.grownBy w' (some m)
def S7 (w:World) (vb m:Nat) (a:Option Addr) (len cap:Nat) (h:Nat->Cl) (n s:Nat) (ci:List (Cx len)) (W:World):Prop:=∃(k:Nat) (σ':Int->Option Int),k+gd h len (bh ci)=n/\Boxed W s 159 (.pointer (some ⟨vb,0,none⟩))/\Boxed W (s+1) 3 (iV (k:Int))/\Boxed W (s+2) 3 (iV 0)/\VW W vb m a len cap h σ'/\Bw (fun k=>k=m) s w W/\s+3<=W.heap.size
def S6 (w:World) (vb m:Nat) (a:Option Addr) (len cap:Nat) (h:Nat->Cl) (n s:Nat) (c:Code) (ci:List (Cx len)) (W:World):Prop:=c=.ret/\n<gd h len (bh ci)/\Boxed W (s+2) 3 (iV (-1))/\(∃σ',VW W vb m a len cap h σ')/\Bw (fun k=>k=m) s w W/\s+3<=W.heap.size
theorem ue {n t:Nat} (h:n<t):gg (n:Int) t= -1:=by unfold gg;rw[if_neg (by omega)]
theorem ug {n t k:Nat} (h:k+t=n):gg (n:Int) t=(k:Int):=by unfold gg;rw[if_pos (by omega)];omega
theorem D7 (n:Nat) (hn:n<=200) (ih: ∀k,k<n->S8 k):S8 n:=by
 intro vb m a len cap h σ g lb L b w H hlb V hent hb hbm hS;have HV0:Hid (VW w vb m a len cap h σ):=V;have HG':Hid (HG h len):=H;obtain ⟨W0,hW0⟩: ∃W0,((w.alloc (.cells #[pZ vb] 159)).alloc (.cells #[iV (n:Int)] 3)).alloc (.cells #[iV 0] 3)=W0:=⟨_,rfl⟩;have hB0:Below w.heap.size w W0:=by rw[<-hW0];exact (bA.alloc (by simp) _).alloc (by simp;omega) _
 have hs0:W0.heap.size=w.heap.size+3:=by rw[<-hW0];simp
 have x0:Boxed W0 w.heap.size 159 (pZ vb):=by rw[<-hW0];exact ((Boxed.new w _ _).alloc _).alloc _
 have x1:Boxed W0 (w.heap.size+1) 3 (iV (n:Int)):=by
  rw[<-hW0];have:=(Boxed.new (w.alloc (.cells #[pZ vb] 159)) 3 (iV (n:Int))).alloc (.cells #[iV 0] 3)
  rwa [World.size_alloc]at this
 have x2:Boxed W0 (w.heap.size+2) 3 (iV 0):=by
  rw[<-hW0];have:=Boxed.new ((w.alloc (.cells #[pZ vb] 159)).alloc (.cells #[iV (n:Int)] 3)) 3 (iV 0)
  rwa [World.size_alloc,World.size_alloc]at this
 have HS0:Hid (Do g lb len L b W0):=hS.below hB0;have HI0:Hid (S7 w vb m a len cap h n w.heap.size [] W0):=⟨n,σ,rfl,x0,x1,x2,V.below hB0,Bw.ofBelow hB0,by omega⟩
 have HEn:Hid (∀(args:Array Value) (w:World),(callFunc g args).run prog w=.ok (.enter g args) w):=hent;have hml:m<w.heap.size:=V.lt.2;have HIH:Hid (∀k,k<n->S8 k):=ih;clear V H hent hS x0 x1 x2 hB0 ih;refine (callsIn_wide (n:=5)).1 (callsIn_of_wp_marks Tryz.func114 rfl trivial (wpIn_wide.2 ?_) rfl);simp only[Tryz.ntmps114,List.size_toArray,List.length_cons,List.length_nil,Nat.reduceAdd,Nat.reduceSub,Array.replicate_succ,Array.replicate_zero,List.push_toArray,List.append_toArray,List.nil_append,List.cons_append];go_wp2_with fail
 try rw[hW0]
 generalize hs:w.heap.size=s at*
 refine wpIn_wide.1 (wpIn_rangeFunc_ownG (n:=5) rfl (by omega) (gf:=g) (lb:=lb) rfl trivial HEn.o (HS0.o 4) (fun h k=>Kb.t h k) (Kb.b (by omega)) bR (fun _=>rfl)
  (S7 w vb m a len cap h n s) (S6 w vb m a len cap h n s)
  (fun ci X Y row hs' hg hr=>by
    obtain ⟨k,σ',e,h0,h1,h2,hV,hB,hz⟩:=hs';exact ⟨k,σ',e,jh h0 hg hr,jh h1 hg hr,jh h2 hg hr,hV.own (by omega) hg hr,hB.own (by omega) (by omega) hg hr,lT hz hg.size⟩)
  (fun c ci X Y row hs' hg hr=>by
    obtain ⟨e,h0,h1,⟨σ',hV⟩,hB,hz⟩:=hs';exact ⟨e,h0,jh h1 hg hr,⟨σ',hV.own (by omega) hg hr⟩,hB.own (by omega) (by omega) hg hr,lT hz hg.size⟩)
  HI0.o
  (fun x=> { tmps:= #[pZ vb,iV (n:Int),.func (.func g) #[] lb,pZ s,pZ (s+1),undef,pZ (s+2),iV (x.1:Int),.func (.func g) #[] lb,iV (x.1:Int),undef,undef,undef,undef,undef,undef,undef,undef,undef,undef,undef,undef,undef],defers:= []}) ?assign ?body ?done ?stop)
 case assign=>
  intro l x W K hK
  gi_wp2
  exact hK
 case stop=>
  rintro D c ci W hD hp ⟨rfl,h0,h1,⟨σ',hV⟩,hB,hz⟩ hDK;refine wpIn_ret ?_;have hg:=grownBy_putObj' W D (.deferred none);have hne: ∀k,k<s+3->some k≠some D:=fun k hk e=>by have:=oj e;omega
  have h1':Boxed (W.putObj D (.deferred none)) (s+2) 3 (iV (-1)):=h1.kept hg (hne _ (by omega))
  refine ⟨by simp,.inl ⟨_,_,rfl,run_takeDeferred hDK,iV (-1),?_,?_,⟨σ',?_⟩,?_⟩⟩
  .simp[results,Tryz.results114,go_sem,h1'.cell]
  .rw[ue (lL h0 (Kx hp))]
  .exact HV0.o.low hV fun k hk=>hg.block k (by omega) (hne _ (by omega))
  .have:=hB.grown (B:=s) hg (by omega) (fun k e=> .inl (by cases e;omega))
   exact Bw.g (by rw[hs];exact this)
 case done=>
  rintro D ys W hD hys ⟨k,σ',e,h0,h1,h2,hV,hB,hz⟩ hDK;have b1:=h1.cell;have b2:=h2.cell;have f2:=h2.frozen;have HR:Hid (gg (n:Int) (gd h len L)=(k:Int)):=by rw[Hid,<-hys];exact ug e
  have HV:Hid (VW (W.setCell (dZ (s+2) 0) (iV (k:Int))) vb m a len cap h σ'):=HV0.o.low hV fun q hq=>(af (W:=W) (s+2) 0 _).block q (by omega) (fun e=>by have:=oj e;omega)
  have HB:Hid (Bw (fun k=>k=m) s w (W.setCell (dZ (s+2) 0) (iV (k:Int)))):=hB.grown (af (W:=W) (s+2) 0 _) (by omega) (fun q e=> .inl (by cases e;omega))
  have HX:Hid (Boxed (W.setCell (dZ (s+2) 0) (iV (k:Int))) (s+2) 3 (iV (k:Int))):=h2.set _;have HD:Hid ((W.setCell (dZ (s+2) 0) (iV (k:Int))).heap[D]?=some (.deferred (some []))):=(KeepsOthers.setCell _ _ _).same D _ hDK rfl;clear hV hB h0 h1 h2 hDK;go_wp2_with fail;have hg:=grownBy_putObj' (W.setCell (dZ (s+2) 0) (iV (k:Int))) D (.deferred none);have hne: ∀k,k<s+3->some k≠some D:=fun k hk e=>by have:=oj e;omega
  have hX:=HX.o.kept hg (hne _ (by omega))
  refine ⟨by simp,.inl ⟨_,_,rfl,run_takeDeferred HD.o,iV (k:Int),?_,?_,⟨σ',?_⟩,?_⟩⟩
  .simp[results,Tryz.results114,go_sem,hX.cell]
  .rw[HR.o]
  .exact HV0.o.low HV.o fun q hq=>hg.block q (by simp;omega) (hne _ (by omega))
  .have:=HB.o.grown (B:=s) hg (by simp;omega) (fun k e=> .inl (by cases e;omega))
   exact Bw.g (by rw[hs];exact this)
 case body=>
  rintro l ci x W ⟨k,σ',e,h0,h1,h2,hV,hB,hz⟩ hpl;have hxl:=x.2;have b0:=h0.cell;have b1:=h1.cell;have b2:=h2.cell;have f1:=h1.frozen;have f2:=h2.frozen;have hcx:1<=od h len x.1:=Nf
  by_cases hk0:k=0
  .subst hk0
   have HX:Hid (S6 w vb m a len cap h n s .ret (ci++ [x]) (W.setCell (dZ (s+2) 0) (iV (-1)))):=by
    refine ⟨rfl,by rw[ia,xm];omega,h2.set _,⟨σ',HV0.o.low hV fun q hq=>(af (W:=W) (s+2) 0 _).block q (by omega) (fun e=>by have:=oj e;omega)⟩,hB.grown (af (W:=W) (s+2) 0 _) (by omega) (fun q e=> .inl (by cases e;omega)),by simp;omega⟩
   clear hV hB h0 h1 h2
   gi_wp2
   exact ⟨(KeepsOthers.setCell _ _ _).from _,HX.o⟩
  have hkb:((k:Int)==0)=false:=bF (by omega)
  have hkn:k<=n:=by omega
  have hw1:IntKind.i64.wrap ((k:Int)-1)=((k-1:Nat):Int):=by simp[IntKind.wrap,IntKind.bits,IntKind.signed];omega
  have HV:Hid (VW W vb m a len cap h σ'):=hV;have HB:Hid (Bw (fun k=>k=m) s w W):=hB
  have H0:Hid (Boxed W s 159 (pZ vb)):=h0;have H1:Hid (Boxed W (s+1) 3 (iV (k:Int))):=h1;have H2:Hid (Boxed W (s+2) 3 (iV 0)):=h2;have HAr:Hid (∀W1,Below W.heap.size W W1->Calls prog 140 #[pZ vb,iV (x.1:Int)] W1 fun e w'=>∃B σ',e=.returned (.func (.func 126) #[] #[pZ B,pZ (B+1)])/\VW w' vb m a len cap h σ'/\w'.heap[B]?=some (.cells #[.slice a len cap] 25)/\w'.heap[B+1]?=some (.cells #[iV (aj h len x.1:Nat)] 3)/\W1.heap.size<=B/\W1.grownBy w' (some m)):=fun W1 hW1=>Nh HG'.o hlb hxl W1 (HV.o.below hW1)
  have HRo:Hid (∀(W1:World) (B:Nat) (σ1:Int->Option Int),VW W1 vb m a len cap h σ1->W1.heap[B]?=some (.cells #[.slice a len cap] 25)->W1.heap[B+1]?=some (.cells #[iV (aj h len x.1:Nat)] 3)->m<B->Calls prog 114 #[pZ vb,iV ((k-1:Nat):Int),.func (.func 126) #[] #[pZ B,pZ (B+1)]] W1 fun e w'=>e=.returned (iV (gg ((k-1:Nat):Int) (gd h len (leads h (aj h len x.1)))))/\(∃σ',VW w' vb m a len cap h σ')/\W1.grownBy w' (some m)):=fun W1 B σ1 hV1 hx0 hx1 hmB=>
   HIH.o (k-1) (by omega) vb m a len cap h σ1 _ _ (leads h (aj h len x.1)) (B+1) W1 HG'.o hlb hV1 (enters_of Tryz.func126 (by kernel_rfl) rfl) (aZ hx1) (by omega) (fun q=>k7 q (HG'.o.end_lt hxl) B (B+1) W1 hV1.row HG'.o.ok (HG'.o.kind _ (HG'.o.end_lt hxl)) hlb hx0 hx1)
  have hsl:=qx HG'.o hxl;have hfol:prog.follows .mixedOrders=true:=by kernel_rfl
  have HK0:Hid (∀W1,W.grownBy W1 (some m)->W1.cell? (dZ s 0)=some (pZ vb)/\W1.cell? (dZ (s+1) 0)=some (iV (k:Int))/\W1.frozen? (dZ (s+1) 0)=false):=fun W1 hg=>⟨(H0.o.kept hg (by intro e;have:=oj e;omega)).cell,(H1.o.kept hg (by intro e;have:=oj e;omega)).cell,(H1.o.kept hg (by intro e;have:=oj e;omega)).frozen⟩
  generalize hrv:gg ((k-1:Nat):Int) (gd h len (leads h (aj h len x.1)))=r at*
  have Hr:Hid ((n<gd h len (bh (ci++ [x]))/\r= -1)\/∃kk:Nat,r=(kk:Int)/\kk+gd h len (bh (ci++ [x]))=n):=by
   rw[Hid,ia,xm]
   by_cases hle:od h len x.1<=k
   .refine .inr ⟨k-od h len x.1,?_,by omega⟩
    rw[<-hrv];exact ug (by omega)
   .refine .inl ⟨by omega,?_⟩
    rw[<-hrv];exact ue (by omega)
  clear hV hB h0 h1 h2 e hsl hrv
  gi_wp2
  have HX1:Hid (∀(w5:World) (r:Int),W.grownBy w5 (some m)->(w5.setCell (dZ (s+1) 0) (iV r)).cell? (dZ s 0)=some (pZ vb)/\(w5.setCell (dZ (s+1) 0) (iV r)).cell? (dZ (s+1) 0)=some (iV r)/\(w5.setCell (dZ (s+1) 0) (iV r)).frozen? (dZ (s+1) 0)=false):=fun w5 r hg=>by
   have y0:=(H0.o.kept hg (by intro e;have:=oj e;omega)).other (B':=s+1) (by omega) (iV r)
   have y1:=(H1.o.kept hg (by intro e;have:=oj e;omega)).set (iV r)
   exact ⟨y0.cell,y1.cell,y1.frozen⟩
  refine lz (fun W1=>W1.cell? (dZ s 0)=some (pZ vb)/\∃v:Int,W1.cell? (dZ (s+1) 0)=some (iV v)/\W1.frozen? (dZ (s+1) 0)=false) hfol (by kernel_rfl) (by rintro ⟨_,_,h⟩;exact h) (⟨(HK0.o _ (G.below ((Below.refl _ W).drew))).1,_,(HK0.o _ (G.below ((Below.refl _ W).drew))).2.1,(HK0.o _ (G.below ((Below.refl _ W).drew))).2.2⟩) (fun hHeld=>?_)
  refine wpAnyH_take (i:=0) (v:=pZ vb) rfl (by kernel_rfl) (by kernel_rfl) (by kernel_rfl) (fun _ _ _ h=>h) (Or.inl ⟨by rfl,fun W1 hS1=>by obtain ⟨e0,v1,e1,e2⟩:=hS1;go_simp⟩) hHeld ?_
  try simp only[Act.put,eZ,fZ,gZ]
  refine wpAnyH_take (i:=3) (v:=pZ vb) rfl (by kernel_rfl) (by kernel_rfl) (by kernel_rfl) (fun _ _ _ h=>h) (Or.inl ⟨by rfl,fun W1 hS1=>by obtain ⟨e0,v1,e1,e2⟩:=hS1;go_simp⟩) hHeld ?_
  try simp only[Act.put,eZ,fZ,gZ]
  refine wpAnyH_take (i:=4) (v:=iV (x.1:Int)) rfl (by kernel_rfl) (by kernel_rfl) (by kernel_rfl) (fun _ _ _ h=>h) (Or.inl ⟨by rfl,fun W1 hS1=>by obtain ⟨e0,v1,e1,e2⟩:=hS1;go_simp⟩) hHeld ?_
  try simp only[Act.put,eZ,fZ,gZ]
  refine wpAnyH_ready (rs:= [1,5]) (by kernel_rfl) (by simp) ?_
  refine AllReadyH.cons rfl (fun K hK=>?_) (AllReadyH.cons rfl (fun K hK=>?_) AllReadyH.nil)
  .go_simp
   refine hK.out _ _ hHeld (fun hHeld=>?_)
   clear hK K
   try simp only[Act.put,eZ,fZ,gZ]
   refine wpAnyH_take (i:=2) (v:=iV ((k-1:Nat):Int)) rfl (by kernel_rfl) (by kernel_rfl) (by kernel_rfl) (fun _ _ _ h=>h) (Or.inl ⟨by rfl,fun W1 hS1=>by obtain ⟨e0,v1,e1,e2⟩:=hS1;go_simp⟩) hHeld ?_
   try simp only[Act.put,eZ,fZ,gZ]
   refine wpAnyH_ready (rs:= [5]) (by kernel_rfl) (by simp) ?_
   refine AllReadyH.cons rfl (fun K hK=>?_) AllReadyH.nil
   go_simp;refine (HAr.o _ (by repeat (first|exact bR|refine Below.drew ?_))).mono ?_
   rintro e w4 ⟨B,σ4,rfl,hV4,hx0,hx1,hB4,hg4⟩;have HV4:Hid (VW w4 vb m a len cap h σ4/\w4.heap[B]?=some (.cells #[.slice a len cap] 25)/\w4.heap[B+1]?=some (.cells #[iV (aj h len x.1:Nat)] 3)/\m<B):=⟨hV4,hx0,hx1,by have:W.heap.size<=B:=hB4;omega⟩
   have HG4:Hid (W.grownBy w4 (some m)):=G.trans (G.below (by repeat (first|exact bR|refine Below.drew ?_))) hg4
   clear hV4 hx0 hx1 hB4 hg4;refine hK.out _ _ ⟨(HK0.o _ HG4.o).1,_,(HK0.o _ HG4.o).2.1,(HK0.o _ HG4.o).2.2⟩ (fun hHeld=>?_)
   clear hK K
   try simp only[Act.put,eZ,fZ,gZ]
   refine wpAnyH_ready (rs:= [6]) (by kernel_rfl) (by simp) ?_
   refine AllReadyH.cons rfl (fun K hK=>?_) AllReadyH.nil
   go_simp;refine (HRo.o _ B σ4 HV4.o.1 HV4.o.2.1 HV4.o.2.2.1 HV4.o.2.2.2).mono ?_;rintro e w5 ⟨rfl,⟨σ5,hV5⟩,hg5⟩;have HV5:Hid (VW w5 vb m a len cap h σ5):=hV5;have HG5:Hid (W.grownBy w5 (some m)):=HG4.o.trans hg5;clear hV5 hg5;refine hK.out _ _ ⟨(HK0.o _ HG5.o).1,_,(HK0.o _ HG5.o).2.1,(HK0.o _ HG5.o).2.2⟩ (fun hHeld=>?_)
   clear hK K
   try simp only[Act.put,eZ,fZ,gZ]
   refine wpAnyH_ready (rs:= [7]) (by kernel_rfl) (by simp) ?_
   refine AllReadyH.cons rfl (fun K hK=>?_) AllReadyH.nil
   obtain ⟨c50,c51,c52⟩:=HK0.o _ HG5.o;go_simp;refine hK.out _ _ ⟨(HX1.o _ _ HG5.o).1,r,(HX1.o _ _ HG5.o).2.1,(HX1.o _ _ HG5.o).2.2⟩ (fun hHeld=>?_)
   clear hK K hHeld
   try simp only[Act.put,eZ,fZ,gZ]
   refine wpAnyH_done (by kernel_rfl) ?_ _
   have HC5:Hid (Bw (fun k=>k=m) s w (w5.setCell (dZ (s+1) 0) (iV r))):=(HB.o.grown HG5.o (by omega) (fun q e=> .inr (oj e).symm)).grown (af (W:=w5) (s+1) 0 _) (by have:=HG5.o.size;omega) (fun q e=> .inl (by cases e;omega))
   have HV6:Hid (VW (w5.setCell (dZ (s+1) 0) (iV r)) vb m a len cap h σ5):=HV0.o.low HV5.o fun q hq=>(af (W:=w5) (s+1) 0 _).block q (by have:=HG5.o.size;omega) (fun e=>by have:=oj e;omega)
   have HY0:Hid (Boxed (w5.setCell (dZ (s+1) 0) (iV r)) s 159 (pZ vb)):=(H0.o.kept HG5.o (by intro e;have:=oj e;omega)).other (by omega) _
   have HY1:Hid (Boxed (w5.setCell (dZ (s+1) 0) (iV r)) (s+1) 3 (iV r)):=(H1.o.kept HG5.o (by intro e;have:=oj e;omega)).set _
   have HY2:Hid (Boxed (w5.setCell (dZ (s+1) 0) (iV r)) (s+2) 3 (iV 0)):=(H2.o.kept HG5.o (by intro e;have:=oj e;omega)).other (by omega) _
   have HKp:Hid (KeepsFrom W0.heap.size W (w5.setCell (dZ (s+1) 0) (iV r))):=(KeepsFrom.of_grownBy HG5.o (fun j e=>by cases e;omega)).trans ((KeepsOthers.setCell _ _ _).from _)
   have HKb:Hid (Kb b W (w5.setCell (dZ (s+1) 0) (iV r))):=⟨by have:=HG5.o.size;simp;omega,((af (W:=w5) (s+1) 0 _).block b (by have:=HG5.o.size;omega) (fun e=>by have:=oj e;omega)).trans (HG5.o.block b (by omega) (fun e=>hbm (oj e)))⟩
   have hz6:s+3<=(w5.setCell (dZ (s+1) 0) (iV r)).heap.size:=by have:=HG5.o.size;simp;omega
   clear HV4 HG4 HV5 HG5 c50 c51 c52;generalize w5.setCell (dZ (s+1) 0) (iV r)=W6 at*;have y1:=HY1.o.cell;have y2:=HY2.o.cell;have g2:=HY2.o.frozen
   rcases Hr.o with ⟨hlt,hre⟩|⟨kk,hre,hkk⟩
   .subst hre
    have HX:Hid (S6 w vb m a len cap h n s .ret (ci++ [x]) (W6.setCell (dZ (s+2) 0) (iV (-1)))):=⟨rfl,hlt,HY2.o.set _,⟨σ5,HV0.o.low HV6.o fun q hq=>(af (W:=W6) (s+2) 0 _).block q (by omega) (fun e=>by have:=oj e;omega)⟩,HC5.o.grown (af (W:=W6) (s+2) 0 _) (by omega) (fun q e=> .inl (by cases e;omega)),by simp;omega⟩
    have HKq:Hid (KeepsFrom W0.heap.size W (W6.setCell (dZ (s+2) 0) (iV (-1)))):=HKp.o.trans ((KeepsOthers.setCell _ _ _).from _)
    gi_wp2
    exact ⟨by rw[<-hs0];exact HKq.o,HX.o⟩
   .subst hre
    have hnn: ¬((kk:Int)<0):=by omega
    have HIn:Hid (S7 w vb m a len cap h n s (ci++ [x]) W6):=⟨kk,σ5,hkk,HY0.o,HY1.o,HY2.o,HV6.o,HC5.o,hz6⟩
    gi_wp2
    exact ⟨by rw[<-hs0];exact HKp.o,HKb.o,HIn.o⟩
  .go_simp
   refine (HAr.o _ (by repeat (first|exact bR|refine Below.drew ?_))).mono ?_
   rintro e w4 ⟨B,σ4,rfl,hV4,hx0,hx1,hB4,hg4⟩;have HV4:Hid (VW w4 vb m a len cap h σ4/\w4.heap[B]?=some (.cells #[.slice a len cap] 25)/\w4.heap[B+1]?=some (.cells #[iV (aj h len x.1:Nat)] 3)/\m<B):=⟨hV4,hx0,hx1,by have:W.heap.size<=B:=hB4;omega⟩
   have HG4:Hid (W.grownBy w4 (some m)):=G.trans (G.below (by repeat (first|exact bR|refine Below.drew ?_))) hg4
   clear hV4 hx0 hx1 hB4 hg4;refine hK.out _ _ ⟨(HK0.o _ HG4.o).1,_,(HK0.o _ HG4.o).2.1,(HK0.o _ HG4.o).2.2⟩ (fun hHeld=>?_)
   clear hK K
   try simp only[Act.put,eZ,fZ,gZ]
   refine wpAnyH_ready (rs:= [1]) (by kernel_rfl) (by simp) ?_
   refine AllReadyH.cons rfl (fun K hK=>?_) AllReadyH.nil
   obtain ⟨c40,c41,c42⟩:=HK0.o _ HG4.o;go_simp;refine hK.out _ _ hHeld (fun hHeld=>?_)
   clear hK K
   try simp only[Act.put,eZ,fZ,gZ]
   refine wpAnyH_take (i:=2) (v:=iV ((k-1:Nat):Int)) rfl (by kernel_rfl) (by kernel_rfl) (by kernel_rfl) (fun _ _ _ h=>h) (Or.inl ⟨by rfl,fun W1 hS1=>by obtain ⟨e0,v1,e1,e2⟩:=hS1;go_simp⟩) hHeld ?_
   try simp only[Act.put,eZ,fZ,gZ]
   refine wpAnyH_ready (rs:= [6]) (by kernel_rfl) (by simp) ?_
   refine AllReadyH.cons rfl (fun K hK=>?_) AllReadyH.nil
   go_simp;refine (HRo.o _ B σ4 HV4.o.1 HV4.o.2.1 HV4.o.2.2.1 HV4.o.2.2.2).mono ?_;rintro e w5 ⟨rfl,⟨σ5,hV5⟩,hg5⟩;have HV5:Hid (VW w5 vb m a len cap h σ5):=hV5;have HG5:Hid (W.grownBy w5 (some m)):=HG4.o.trans hg5;clear hV5 hg5;refine hK.out _ _ ⟨(HK0.o _ HG5.o).1,_,(HK0.o _ HG5.o).2.1,(HK0.o _ HG5.o).2.2⟩ (fun hHeld=>?_)
   clear hK K
   try simp only[Act.put,eZ,fZ,gZ]
   refine wpAnyH_ready (rs:= [7]) (by kernel_rfl) (by simp) ?_
   refine AllReadyH.cons rfl (fun K hK=>?_) AllReadyH.nil
   obtain ⟨c50,c51,c52⟩:=HK0.o _ HG5.o;go_simp;refine hK.out _ _ ⟨(HX1.o _ _ HG5.o).1,r,(HX1.o _ _ HG5.o).2.1,(HX1.o _ _ HG5.o).2.2⟩ (fun hHeld=>?_)
   clear hK K hHeld
   try simp only[Act.put,eZ,fZ,gZ]
   refine wpAnyH_done (by kernel_rfl) ?_ _
   have HC5:Hid (Bw (fun k=>k=m) s w (w5.setCell (dZ (s+1) 0) (iV r))):=(HB.o.grown HG5.o (by omega) (fun q e=> .inr (oj e).symm)).grown (af (W:=w5) (s+1) 0 _) (by have:=HG5.o.size;omega) (fun q e=> .inl (by cases e;omega))
   have HV6:Hid (VW (w5.setCell (dZ (s+1) 0) (iV r)) vb m a len cap h σ5):=HV0.o.low HV5.o fun q hq=>(af (W:=w5) (s+1) 0 _).block q (by have:=HG5.o.size;omega) (fun e=>by have:=oj e;omega)
   have HY0:Hid (Boxed (w5.setCell (dZ (s+1) 0) (iV r)) s 159 (pZ vb)):=(H0.o.kept HG5.o (by intro e;have:=oj e;omega)).other (by omega) _
   have HY1:Hid (Boxed (w5.setCell (dZ (s+1) 0) (iV r)) (s+1) 3 (iV r)):=(H1.o.kept HG5.o (by intro e;have:=oj e;omega)).set _
   have HY2:Hid (Boxed (w5.setCell (dZ (s+1) 0) (iV r)) (s+2) 3 (iV 0)):=(H2.o.kept HG5.o (by intro e;have:=oj e;omega)).other (by omega) _
   have HKp:Hid (KeepsFrom W0.heap.size W (w5.setCell (dZ (s+1) 0) (iV r))):=(KeepsFrom.of_grownBy HG5.o (fun j e=>by cases e;omega)).trans ((KeepsOthers.setCell _ _ _).from _)
   have HKb:Hid (Kb b W (w5.setCell (dZ (s+1) 0) (iV r))):=⟨by have:=HG5.o.size;simp;omega,((af (W:=w5) (s+1) 0 _).block b (by have:=HG5.o.size;omega) (fun e=>by have:=oj e;omega)).trans (HG5.o.block b (by omega) (fun e=>hbm (oj e)))⟩
   have hz6:s+3<=(w5.setCell (dZ (s+1) 0) (iV r)).heap.size:=by have:=HG5.o.size;simp;omega
   clear HV4 HG4 HV5 HG5 c50 c51 c52;generalize w5.setCell (dZ (s+1) 0) (iV r)=W6 at*;have y1:=HY1.o.cell;have y2:=HY2.o.cell;have g2:=HY2.o.frozen
   rcases Hr.o with ⟨hlt,hre⟩|⟨kk,hre,hkk⟩
   .subst hre
    have HX:Hid (S6 w vb m a len cap h n s .ret (ci++ [x]) (W6.setCell (dZ (s+2) 0) (iV (-1)))):=⟨rfl,hlt,HY2.o.set _,⟨σ5,HV0.o.low HV6.o fun q hq=>(af (W:=W6) (s+2) 0 _).block q (by omega) (fun e=>by have:=oj e;omega)⟩,HC5.o.grown (af (W:=W6) (s+2) 0 _) (by omega) (fun q e=> .inl (by cases e;omega)),by simp;omega⟩
    have HKq:Hid (KeepsFrom W0.heap.size W (W6.setCell (dZ (s+2) 0) (iV (-1)))):=HKp.o.trans ((KeepsOthers.setCell _ _ _).from _)
    gi_wp2
    exact ⟨by rw[<-hs0];exact HKq.o,HX.o⟩
   .subst hre
    have hnn: ¬((kk:Int)<0):=by omega
    have HIn:Hid (S7 w vb m a len cap h n s (ci++ [x]) W6):=⟨kk,σ5,hkk,HY0.o,HY1.o,HY2.o,HV6.o,HC5.o,hz6⟩
    gi_wp2
    exact ⟨by rw[<-hs0];exact HKp.o,HKb.o,HIn.o⟩
theorem G2: ∀n,n<=200->S8 n:=by
 intro n
 induction n using Nat.strongRecOn with
 |_ n ih=>intro hn;exact D7 n hn fun k hk=>ih k hk (by omega)
end
end Go.Proofs.YtmggaclaoefdaabGreat
