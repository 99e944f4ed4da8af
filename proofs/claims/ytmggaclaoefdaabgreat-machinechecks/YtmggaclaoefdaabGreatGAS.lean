/- Part of the proof. Part of the proof. -/
import Derived.Test.YtmggaclaoefdaabGreatSq0
import Derived.Test.YtmggaclaoefdaabGreatGAR
import Derived.Test.YtmggaclaoefdaabGreatGAO
import Derived.Test.YtmggaclaoefdaabGreatGAK
namespace Go.Proofs.YtmggaclaoefdaabGreat
open Go.RowKit Go.Shelf
set_option linter.unusedVariables false
set_option linter.unusedSimpArgs false
attribute [local go_sem] Oper.semAt_some
theorem Bw.own {M:Nat→Prop} {s B:Nat} {w W W':World} {row:Option Nat} (h:Bw M s w W) (hs:s≤W.heap.size) (hB:s≤B) (hg:W.grownBy W' row) (hr: ∀r,row=some r→B≤r∧∃o:Obj,W.heap[r]?=some o∧o.isCells=false):Bw M s w W':=
 h.grown hg hs fun k e=> .inl (Nat.le_trans hB (hr k e).1)
theorem box_own {W W':World} {B:Nat} {t:TypeId} {v:Value} {row:Option Nat} {C:Nat} (h:Boxed W B t v) (hg:W.grownBy W' row) (hr: ∀r,row=some r→C≤r∧∃o:Obj,W.heap[r]?=some o∧o.isCells=false):Boxed W' B t v:=
 h.kept hg (ne_of_cells (fun r e=>(hr r e).2) h rfl)
theorem Bw.g {m:Nat} {w W:World} (h:Bw (fun k=>k=m) w.heap.size w W):w.grownBy W (some m):=⟨h.os,h.tape,h.output,h.size,fun k hk hn=>h.block k hk (fun e=>hn (by rw[e]))⟩
theorem Bw.ofG {m:Nat} {w W:World} (h:w.grownBy W (some m)):Bw (fun k=>k=m) w.heap.size w W:=⟨h.os,h.tape,h.output,h.size,fun k hk hn=>h.block k hk (fun e=>hn (Option.some.inj e))⟩
def RmC (n:Nat):Prop:=∀(vb m:Nat) (a:Option Addr) (len cap:Nat) (h:Nat→Cl) (σ:Int→Option Int) (g:Nat) (lb:Array Value) (L:List Nat) (b:Nat) (w:World),HG h len→len≤1000000→VW w vb m a len cap h σ→(∀(args:Array Value) (w:World),(callFunc g args).run Tryz.prog w=.ok (.enter g args) w)→b<w.heap.size→b≠m→SeqL g lb len L b w→
 Calls Tryz.prog 114 #[.pointer (some ⟨vb,0,none⟩),.int .i64 (n:Int),.func (.func g) #[] lb] w fun e w'=>e=.returned (.int .i64 (roomV (n:Int) (sumC h len L)))∧(∃σ',VW w' vb m a len cap h σ')∧w.grownBy w' (some m)
def RmI (w:World) (vb m:Nat) (a:Option Addr) (len cap:Nat) (h:Nat→Cl) (n s:Nat) (pre:List (Cx len)) (W:World):Prop:=∃(k:Nat) (σ':Int→Option Int),k+sumC h len (vals pre)=n∧Boxed W s 159 (.pointer (some ⟨vb,0,none⟩))∧Boxed W (s+1) 3 (.int .i64 (k:Int))∧Boxed W (s+2) 3 (.int .i64 0)∧VW W vb m a len cap h σ'∧Bw (fun k=>k=m) s w W∧s+3≤W.heap.size
def RmX (w:World) (vb m:Nat) (a:Option Addr) (len cap:Nat) (h:Nat→Cl) (n s:Nat) (c:Code) (pre:List (Cx len)) (W:World):Prop:=c=.ret∧n<sumC h len (vals pre)∧Boxed W (s+2) 3 (.int .i64 (-1))∧(∃σ',VW W vb m a len cap h σ')∧Bw (fun k=>k=m) s w W∧s+3≤W.heap.size
theorem roomV_lt {n t:Nat} (h:n<t):roomV (n:Int) t= -1:=by unfold roomV;rw[if_neg (by omega)]
theorem roomV_le {n t k:Nat} (h:k+t=n):roomV (n:Int) t=(k:Int):=by unfold roomV;rw[if_pos (by omega)];omega
set_option maxRecDepth 100000 in
set_option maxHeartbeats 8000000 in
theorem vroom_step (n:Nat) (hn:n≤200) (ih: ∀k,k<n→RmC k):RmC n:=by
 intro vb m a len cap h σ g lb L b w H hlb V hent hb hbm hS
 have HV0:Hid (VW w vb m a len cap h σ):=V
 have HG':Hid (HG h len):=H
 obtain ⟨W0,hW0⟩: ∃W0,((w.alloc (.cells #[.pointer (some ⟨vb,0,none⟩)] 159)).alloc (.cells #[.int .i64 (n:Int)] 3)).alloc (.cells #[.int .i64 0] 3)=W0:=⟨_,rfl⟩
 have hB0:Below w.heap.size w W0:=by rw[←hW0];exact (((Below.refl _ _).alloc (Nat.le_refl _) _).alloc (by simp) _).alloc (by simp;omega) _
 have hs0:W0.heap.size=w.heap.size+3:=by rw[←hW0];simp
 have x0:Boxed W0 w.heap.size 159 (.pointer (some ⟨vb,0,none⟩)):=by rw[←hW0];exact ((Boxed.new w _ _).alloc _).alloc _
 have x1:Boxed W0 (w.heap.size+1) 3 (.int .i64 (n:Int)):=by
  rw[←hW0]
  have:=(Boxed.new (w.alloc (.cells #[.pointer (some ⟨vb,0,none⟩)] 159)) 3 (.int .i64 (n:Int))).alloc (.cells #[.int .i64 0] 3)
  rwa [World.size_alloc]at this
 have x2:Boxed W0 (w.heap.size+2) 3 (.int .i64 0):=by
  rw[←hW0]
  have:=Boxed.new ((w.alloc (.cells #[.pointer (some ⟨vb,0,none⟩)] 159)).alloc (.cells #[.int .i64 (n:Int)] 3)) 3 (.int .i64 0)
  rwa [World.size_alloc,World.size_alloc]at this
 have HS0:Hid (SeqL g lb len L b W0):=hS.below hB0
 have HI0:Hid (RmI w vb m a len cap h n w.heap.size [] W0):=⟨n,σ,rfl,x0,x1,x2,V.below hB0,Bw.ofBelow hB0,by omega⟩
 have HEn:Hid (∀(args:Array Value) (w:World),(callFunc g args).run Tryz.prog w=.ok (.enter g args) w):=hent
 have hml:m<w.heap.size:=V.lt.2
 have HIH:Hid (∀k,k<n→RmC k):=ih
 clear V H hent hS x0 x1 x2 hB0 ih
 refine (callsIn_wide (n:=5)).1 (callsIn_of_wp_marks Tryz.func114 rfl trivial (wpIn_wide.2 ?_) rfl)
 simp only[Tryz.ntmps114,List.size_toArray,List.length_cons,List.length_nil,Nat.reduceAdd,Nat.reduceSub,Array.replicate_succ,Array.replicate_zero,List.push_toArray,List.append_toArray,List.nil_append,List.cons_append]
 go_wp2_with fail
 try rw[hW0]
 generalize hs:w.heap.size=s at*
 refine wpIn_wide.1 (wpIn_rangeFunc_ownG (n:=5) rfl (by omega) (gf:=g) (lb:=lb) rfl trivial HEn.out (HS0.out 4) (fun h k=>Kb.t h k) (Kb.b (by omega)) (Below.refl _ _) (fun _=>rfl)
  (RmI w vb m a len cap h n s) (RmX w vb m a len cap h n s)
  (fun pre X Y row hs' hg hr=>by
    obtain ⟨k,σ',e,h0,h1,h2,hV,hB,hz⟩:=hs'
    exact ⟨k,σ',e,box_own h0 hg hr,box_own h1 hg hr,box_own h2 hg hr,hV.own (by omega) hg hr,hB.own (by omega) (by omega) hg hr,Nat.le_trans hz hg.size⟩)
  (fun c pre X Y row hs' hg hr=>by
    obtain ⟨e,h0,h1,⟨σ',hV⟩,hB,hz⟩:=hs'
    exact ⟨e,h0,box_own h1 hg hr,⟨σ',hV.own (by omega) hg hr⟩,hB.own (by omega) (by omega) hg hr,Nat.le_trans hz hg.size⟩)
  HI0.out
  (fun x=> { tmps:= #[.pointer (some ⟨vb,0,none⟩),.int .i64 (n:Int),.func (.func g) #[] lb,.pointer (some ⟨s,0,none⟩),.pointer (some ⟨s+1,0,none⟩),undef,.pointer (some ⟨s+2,0,none⟩),.int .i64 (x.1:Int),.func (.func g) #[] lb,.int .i64 (x.1:Int),undef,undef,undef,undef,undef,undef,undef,undef,undef,undef,undef,undef,undef],defers:= []}) ?assign ?body ?done ?stop)
 case assign=>
  intro l x W K hK
  gi_wp2
  exact hK
 case stop=>
  rintro D c pre W hD hp ⟨rfl,h0,h1,⟨σ',hV⟩,hB,hz⟩ hDK
  refine wpIn_ret ?_
  have hg:=grownBy_putObj' W D (.deferred none)
  have hne: ∀k,k<s+3→some k≠some D:=fun k hk e=>by have:=Option.some.inj e;omega
  have h1':Boxed (W.putObj D (.deferred none)) (s+2) 3 (.int .i64 (-1)):=h1.kept hg (hne _ (by omega))
  refine ⟨by simp,.inl ⟨_,_,rfl,run_takeDeferred hDK,.int .i64 (-1),?_,?_,⟨σ',?_⟩,?_⟩⟩
  ·simp[results,Tryz.results114,go_sem,h1'.cell]
  ·rw[roomV_lt (Nat.lt_of_lt_of_le h0 (sumC_pre hp))]
  ·exact HV0.out.low hV fun k hk=>hg.block k (by omega) (hne _ (by omega))
  ·have:=hB.grown (B:=s) hg (by omega) (fun k e=> .inl (by cases e;omega))
   exact Bw.g (by rw[hs];exact this)
 case done=>
  rintro D ys W hD hys ⟨k,σ',e,h0,h1,h2,hV,hB,hz⟩ hDK
  have b1:=h1.cell
  have b2:=h2.cell
  have f2:=h2.frozen
  have HR:Hid (roomV (n:Int) (sumC h len L)=(k:Int)):=by rw[Hid,←hys];exact roomV_le e
  have HV:Hid (VW (W.setCell ⟨s+2,0,none⟩ (.int .i64 (k:Int))) vb m a len cap h σ'):=HV0.out.low hV fun q hq=>(grown_set (W:=W) (s+2) 0 _).block q (by omega) (fun e=>by have:=Option.some.inj e;omega)
  have HB:Hid (Bw (fun k=>k=m) s w (W.setCell ⟨s+2,0,none⟩ (.int .i64 (k:Int)))):=hB.grown (grown_set (W:=W) (s+2) 0 _) (by omega) (fun q e=> .inl (by cases e;omega))
  have HX:Hid (Boxed (W.setCell ⟨s+2,0,none⟩ (.int .i64 (k:Int))) (s+2) 3 (.int .i64 (k:Int))):=h2.set _
  have HD:Hid ((W.setCell ⟨s+2,0,none⟩ (.int .i64 (k:Int))).heap[D]?=some (.deferred (some []))):=(KeepsOthers.setCell _ _ _).same D _ hDK rfl
  clear hV hB h0 h1 h2 hDK
  go_wp2_with fail
  have hg:=grownBy_putObj' (W.setCell ⟨s+2,0,none⟩ (.int .i64 (k:Int))) D (.deferred none)
  have hne: ∀k,k<s+3→some k≠some D:=fun k hk e=>by have:=Option.some.inj e;omega
  have hX:=HX.out.kept hg (hne _ (by omega))
  refine ⟨by simp,.inl ⟨_,_,rfl,run_takeDeferred HD.out,.int .i64 (k:Int),?_,?_,⟨σ',?_⟩,?_⟩⟩
  ·simp[results,Tryz.results114,go_sem,hX.cell]
  ·rw[HR.out]
  ·exact HV0.out.low HV.out fun q hq=>hg.block q (by simp;omega) (hne _ (by omega))
  ·have:=HB.out.grown (B:=s) hg (by simp;omega) (fun k e=> .inl (by cases e;omega))
   exact Bw.g (by rw[hs];exact this)
 case body=>
  rintro l pre x W ⟨k,σ',e,h0,h1,h2,hV,hB,hz⟩ hpl
  have hxl:=x.2
  have b0:=h0.cell
  have b1:=h1.cell
  have b2:=h2.cell
  have f1:=h1.frozen
  have f2:=h2.frozen
  have hcx:1≤cntA h len x.1:=cntA_pos
  by_cases hk0:k=0
  ·subst hk0
   have HX:Hid (RmX w vb m a len cap h n s .ret (pre++ [x]) (W.setCell ⟨s+2,0,none⟩ (.int .i64 (-1)))):=by
    refine ⟨rfl,by rw[vals_snoc,sumC_snoc];omega,h2.set _,⟨σ',HV0.out.low hV fun q hq=>(grown_set (W:=W) (s+2) 0 _).block q (by omega) (fun e=>by have:=Option.some.inj e;omega)⟩,hB.grown (grown_set (W:=W) (s+2) 0 _) (by omega) (fun q e=> .inl (by cases e;omega)),by simp;omega⟩
   clear hV hB h0 h1 h2
   gi_wp2
   exact ⟨(KeepsOthers.setCell _ _ _).from _,HX.out⟩
  have hkb:((k:Int)==0)=false:=beq_eq_false_iff_ne.2 (by omega)
  have hkn:k≤n:=by omega
  have hw1:IntKind.i64.wrap ((k:Int)-1)=((k-1:Nat):Int):=by simp[IntKind.wrap,IntKind.bits,IntKind.signed];omega
  have HV:Hid (VW W vb m a len cap h σ'):=hV
  have HB:Hid (Bw (fun k=>k=m) s w W):=hB
  have H0:Hid (Boxed W s 159 (.pointer (some ⟨vb,0,none⟩))):=h0
  have H1:Hid (Boxed W (s+1) 3 (.int .i64 (k:Int))):=h1
  have H2:Hid (Boxed W (s+2) 3 (.int .i64 0)):=h2
  have HAr:Hid (∀W1,Below W.heap.size W W1→Calls Tryz.prog 140 #[.pointer (some ⟨vb,0,none⟩),.int .i64 (x.1:Int)] W1 fun e w'=>∃B σ',e=.returned (.func (.func 126) #[] #[.pointer (some ⟨B,0,none⟩),.pointer (some ⟨B+1,0,none⟩)])∧VW w' vb m a len cap h σ'∧w'.heap[B]?=some (.cells #[.slice a len cap] 25)∧w'.heap[B+1]?=some (.cells #[.int .i64 (endA h len x.1:Nat)] 3)∧W1.heap.size≤B∧W1.grownBy w' (some m)):=fun W1 hW1=>args_any HG'.out hlb hxl W1 (HV.out.below hW1)
  have HRo:Hid (∀(W1:World) (B:Nat) (σ1:Int→Option Int),VW W1 vb m a len cap h σ1→W1.heap[B]?=some (.cells #[.slice a len cap] 25)→W1.heap[B+1]?=some (.cells #[.int .i64 (endA h len x.1:Nat)] 3)→m<B→Calls Tryz.prog 114 #[.pointer (some ⟨vb,0,none⟩),.int .i64 ((k-1:Nat):Int),.func (.func 126) #[] #[.pointer (some ⟨B,0,none⟩),.pointer (some ⟨B+1,0,none⟩)]] W1 fun e w'=>e=.returned (.int .i64 (roomV ((k-1:Nat):Int) (sumC h len (leads h (endA h len x.1)))))∧(∃σ',VW w' vb m a len cap h σ')∧W1.grownBy w' (some m)):=fun W1 B σ1 hV1 hx0 hx1 hmB=>
   HIH.out (k-1) (by omega) vb m a len cap h σ1 _ _ (leads h (endA h len x.1)) (B+1) W1 HG'.out hlb hV1 (enters_of Tryz.func126 (by kernel_rfl) rfl) (Array.getElem?_eq_some_iff.1 hx1).1 (by omega) (fun q=>leads_stops q (HG'.out.end_lt hxl) B (B+1) W1 hV1.row HG'.out.ok (HG'.out.kind _ (HG'.out.end_lt hxl)) hlb hx0 hx1)
  have hsl:=sum_leads HG'.out hxl
  have hfol:Tryz.prog.follows .mixedOrders=true:=by kernel_rfl
  have HK0:Hid (∀W1,W.grownBy W1 (some m)→W1.cell? ⟨s,0,none⟩=some (.pointer (some ⟨vb,0,none⟩))∧W1.cell? ⟨s+1,0,none⟩=some (.int .i64 (k:Int))∧W1.frozen? ⟨s+1,0,none⟩=false):=fun W1 hg=>⟨(H0.out.kept hg (by intro e;have:=Option.some.inj e;omega)).cell,(H1.out.kept hg (by intro e;have:=Option.some.inj e;omega)).cell,(H1.out.kept hg (by intro e;have:=Option.some.inj e;omega)).frozen⟩
  generalize hrv:roomV ((k-1:Nat):Int) (sumC h len (leads h (endA h len x.1)))=r at*
  have Hr:Hid ((n<sumC h len (vals (pre++ [x]))∧r= -1)∨∃kk:Nat,r=(kk:Int)∧kk+sumC h len (vals (pre++ [x]))=n):=by
   rw[Hid,vals_snoc,sumC_snoc]
   by_cases hle:cntA h len x.1≤k
   ·refine .inr ⟨k-cntA h len x.1,?_,by omega⟩
    rw[←hrv]
    exact roomV_le (by omega)
   ·refine .inl ⟨by omega,?_⟩
    rw[←hrv]
    exact roomV_lt (by omega)
  clear hV hB h0 h1 h2 e hsl hrv
  gi_wp2
  have HX1:Hid (∀(w5:World) (r:Int),W.grownBy w5 (some m)→(w5.setCell ⟨s+1,0,none⟩ (.int .i64 r)).cell? ⟨s,0,none⟩=some (.pointer (some ⟨vb,0,none⟩))∧(w5.setCell ⟨s+1,0,none⟩ (.int .i64 r)).cell? ⟨s+1,0,none⟩=some (.int .i64 r)∧(w5.setCell ⟨s+1,0,none⟩ (.int .i64 r)).frozen? ⟨s+1,0,none⟩=false):=fun w5 r hg=>by
   have y0:=(H0.out.kept hg (by intro e;have:=Option.some.inj e;omega)).other (B':=s+1) (by omega) (.int .i64 r)
   have y1:=(H1.out.kept hg (by intro e;have:=Option.some.inj e;omega)).set (.int .i64 r)
   exact ⟨y0.cell,y1.cell,y1.frozen⟩
  refine region_round (fun W1=>W1.cell? ⟨s,0,none⟩=some (.pointer (some ⟨vb,0,none⟩))∧∃v:Int,W1.cell? ⟨s+1,0,none⟩=some (.int .i64 v)∧W1.frozen? ⟨s+1,0,none⟩=false) hfol (by kernel_rfl) (by rintro ⟨_,_,h⟩;exact h) (⟨(HK0.out _ (G.below ((Below.refl _ W).drew))).1,_,(HK0.out _ (G.below ((Below.refl _ W).drew))).2.1,(HK0.out _ (G.below ((Below.refl _ W).drew))).2.2⟩) (fun hHeld=>?_)
  refine wpAnyH_take (i:=0) (v:=.pointer (some ⟨vb,0,none⟩)) rfl (by kernel_rfl) (by kernel_rfl) (by kernel_rfl) (fun _ _ _ h=>h) (Or.inl ⟨by rfl,fun W1 hS1=>by obtain ⟨e0,v1,e1,e2⟩:=hS1;go_simp⟩) hHeld ?_
  try simp only[Act.put,List.setIfInBounds_toArray,List.set_cons_zero,List.set_cons_succ]
  refine wpAnyH_take (i:=3) (v:=.pointer (some ⟨vb,0,none⟩)) rfl (by kernel_rfl) (by kernel_rfl) (by kernel_rfl) (fun _ _ _ h=>h) (Or.inl ⟨by rfl,fun W1 hS1=>by obtain ⟨e0,v1,e1,e2⟩:=hS1;go_simp⟩) hHeld ?_
  try simp only[Act.put,List.setIfInBounds_toArray,List.set_cons_zero,List.set_cons_succ]
  refine wpAnyH_take (i:=4) (v:=.int .i64 (x.1:Int)) rfl (by kernel_rfl) (by kernel_rfl) (by kernel_rfl) (fun _ _ _ h=>h) (Or.inl ⟨by rfl,fun W1 hS1=>by obtain ⟨e0,v1,e1,e2⟩:=hS1;go_simp⟩) hHeld ?_
  try simp only[Act.put,List.setIfInBounds_toArray,List.set_cons_zero,List.set_cons_succ]
  refine wpAnyH_ready (rs:= [1,5]) (by kernel_rfl) (by simp) ?_
  refine AllReadyH.cons rfl (fun K hK=>?_) (AllReadyH.cons rfl (fun K hK=>?_) AllReadyH.nil)
  ·go_simp
   refine hK.out _ _ hHeld (fun hHeld=>?_)
   clear hK K
   try simp only[Act.put,List.setIfInBounds_toArray,List.set_cons_zero,List.set_cons_succ]
   refine wpAnyH_take (i:=2) (v:=.int .i64 ((k-1:Nat):Int)) rfl (by kernel_rfl) (by kernel_rfl) (by kernel_rfl) (fun _ _ _ h=>h) (Or.inl ⟨by rfl,fun W1 hS1=>by obtain ⟨e0,v1,e1,e2⟩:=hS1;go_simp⟩) hHeld ?_
   try simp only[Act.put,List.setIfInBounds_toArray,List.set_cons_zero,List.set_cons_succ]
   refine wpAnyH_ready (rs:= [5]) (by kernel_rfl) (by simp) ?_
   refine AllReadyH.cons rfl (fun K hK=>?_) AllReadyH.nil
   go_simp
   refine (HAr.out _ (by repeat (first|exact Below.refl _ _|refine Below.drew ?_))).mono ?_
   rintro e w4 ⟨B,σ4,rfl,hV4,hx0,hx1,hB4,hg4⟩
   have HV4:Hid (VW w4 vb m a len cap h σ4∧w4.heap[B]?=some (.cells #[.slice a len cap] 25)∧w4.heap[B+1]?=some (.cells #[.int .i64 (endA h len x.1:Nat)] 3)∧m<B):=⟨hV4,hx0,hx1,by have:W.heap.size≤B:=hB4;omega⟩
   have HG4:Hid (W.grownBy w4 (some m)):=G.trans (G.below (by repeat (first|exact Below.refl _ _|refine Below.drew ?_))) hg4
   clear hV4 hx0 hx1 hB4 hg4
   refine hK.out _ _ ⟨(HK0.out _ HG4.out).1,_,(HK0.out _ HG4.out).2.1,(HK0.out _ HG4.out).2.2⟩ (fun hHeld=>?_)
   clear hK K
   try simp only[Act.put,List.setIfInBounds_toArray,List.set_cons_zero,List.set_cons_succ]
   refine wpAnyH_ready (rs:= [6]) (by kernel_rfl) (by simp) ?_
   refine AllReadyH.cons rfl (fun K hK=>?_) AllReadyH.nil
   go_simp
   refine (HRo.out _ B σ4 HV4.out.1 HV4.out.2.1 HV4.out.2.2.1 HV4.out.2.2.2).mono ?_
   rintro e w5 ⟨rfl,⟨σ5,hV5⟩,hg5⟩
   have HV5:Hid (VW w5 vb m a len cap h σ5):=hV5
   have HG5:Hid (W.grownBy w5 (some m)):=HG4.out.trans hg5
   clear hV5 hg5
   refine hK.out _ _ ⟨(HK0.out _ HG5.out).1,_,(HK0.out _ HG5.out).2.1,(HK0.out _ HG5.out).2.2⟩ (fun hHeld=>?_)
   clear hK K
   try simp only[Act.put,List.setIfInBounds_toArray,List.set_cons_zero,List.set_cons_succ]
   refine wpAnyH_ready (rs:= [7]) (by kernel_rfl) (by simp) ?_
   refine AllReadyH.cons rfl (fun K hK=>?_) AllReadyH.nil
   obtain ⟨c50,c51,c52⟩:=HK0.out _ HG5.out
   go_simp
   refine hK.out _ _ ⟨(HX1.out _ _ HG5.out).1,r,(HX1.out _ _ HG5.out).2.1,(HX1.out _ _ HG5.out).2.2⟩ (fun hHeld=>?_)
   clear hK K hHeld
   try simp only[Act.put,List.setIfInBounds_toArray,List.set_cons_zero,List.set_cons_succ]
   refine wpAnyH_done (by kernel_rfl) ?_ _
   have HC5:Hid (Bw (fun k=>k=m) s w (w5.setCell ⟨s+1,0,none⟩ (.int .i64 r))):=(HB.out.grown HG5.out (by omega) (fun q e=> .inr (Option.some.inj e).symm)).grown (grown_set (W:=w5) (s+1) 0 _) (by have:=HG5.out.size;omega) (fun q e=> .inl (by cases e;omega))
   have HV6:Hid (VW (w5.setCell ⟨s+1,0,none⟩ (.int .i64 r)) vb m a len cap h σ5):=HV0.out.low HV5.out fun q hq=>(grown_set (W:=w5) (s+1) 0 _).block q (by have:=HG5.out.size;omega) (fun e=>by have:=Option.some.inj e;omega)
   have HY0:Hid (Boxed (w5.setCell ⟨s+1,0,none⟩ (.int .i64 r)) s 159 (.pointer (some ⟨vb,0,none⟩))):=(H0.out.kept HG5.out (by intro e;have:=Option.some.inj e;omega)).other (by omega) _
   have HY1:Hid (Boxed (w5.setCell ⟨s+1,0,none⟩ (.int .i64 r)) (s+1) 3 (.int .i64 r)):=(H1.out.kept HG5.out (by intro e;have:=Option.some.inj e;omega)).set _
   have HY2:Hid (Boxed (w5.setCell ⟨s+1,0,none⟩ (.int .i64 r)) (s+2) 3 (.int .i64 0)):=(H2.out.kept HG5.out (by intro e;have:=Option.some.inj e;omega)).other (by omega) _
   have HKp:Hid (KeepsFrom W0.heap.size W (w5.setCell ⟨s+1,0,none⟩ (.int .i64 r))):=(KeepsFrom.of_grownBy HG5.out (fun j e=>by cases e;omega)).trans ((KeepsOthers.setCell _ _ _).from _)
   have HKb:Hid (Kb b W (w5.setCell ⟨s+1,0,none⟩ (.int .i64 r))):=⟨by have:=HG5.out.size;simp;omega,((grown_set (W:=w5) (s+1) 0 _).block b (by have:=HG5.out.size;omega) (fun e=>by have:=Option.some.inj e;omega)).trans (HG5.out.block b (by omega) (fun e=>hbm (Option.some.inj e)))⟩
   have hz6:s+3≤(w5.setCell ⟨s+1,0,none⟩ (.int .i64 r)).heap.size:=by have:=HG5.out.size;simp;omega
   clear HV4 HG4 HV5 HG5 c50 c51 c52
   generalize w5.setCell ⟨s+1,0,none⟩ (.int .i64 r)=W6 at*
   have y1:=HY1.out.cell
   have y2:=HY2.out.cell
   have g2:=HY2.out.frozen
   rcases Hr.out with ⟨hlt,hre⟩| ⟨kk,hre,hkk⟩
   ·subst hre
    have HX:Hid (RmX w vb m a len cap h n s .ret (pre++ [x]) (W6.setCell ⟨s+2,0,none⟩ (.int .i64 (-1)))):=⟨rfl,hlt,HY2.out.set _,⟨σ5,HV0.out.low HV6.out fun q hq=>(grown_set (W:=W6) (s+2) 0 _).block q (by omega) (fun e=>by have:=Option.some.inj e;omega)⟩,HC5.out.grown (grown_set (W:=W6) (s+2) 0 _) (by omega) (fun q e=> .inl (by cases e;omega)),by simp;omega⟩
    have HKq:Hid (KeepsFrom W0.heap.size W (W6.setCell ⟨s+2,0,none⟩ (.int .i64 (-1)))):=HKp.out.trans ((KeepsOthers.setCell _ _ _).from _)
    gi_wp2
    exact ⟨by rw[←hs0];exact HKq.out,HX.out⟩
   ·subst hre
    have hnn: ¬((kk:Int)<0):=by omega
    have HIn:Hid (RmI w vb m a len cap h n s (pre++ [x]) W6):=⟨kk,σ5,hkk,HY0.out,HY1.out,HY2.out,HV6.out,HC5.out,hz6⟩
    gi_wp2
    exact ⟨by rw[←hs0];exact HKp.out,HKb.out,HIn.out⟩
  ·go_simp
   refine (HAr.out _ (by repeat (first|exact Below.refl _ _|refine Below.drew ?_))).mono ?_
   rintro e w4 ⟨B,σ4,rfl,hV4,hx0,hx1,hB4,hg4⟩
   have HV4:Hid (VW w4 vb m a len cap h σ4∧w4.heap[B]?=some (.cells #[.slice a len cap] 25)∧w4.heap[B+1]?=some (.cells #[.int .i64 (endA h len x.1:Nat)] 3)∧m<B):=⟨hV4,hx0,hx1,by have:W.heap.size≤B:=hB4;omega⟩
   have HG4:Hid (W.grownBy w4 (some m)):=G.trans (G.below (by repeat (first|exact Below.refl _ _|refine Below.drew ?_))) hg4
   clear hV4 hx0 hx1 hB4 hg4
   refine hK.out _ _ ⟨(HK0.out _ HG4.out).1,_,(HK0.out _ HG4.out).2.1,(HK0.out _ HG4.out).2.2⟩ (fun hHeld=>?_)
   clear hK K
   try simp only[Act.put,List.setIfInBounds_toArray,List.set_cons_zero,List.set_cons_succ]
   refine wpAnyH_ready (rs:= [1]) (by kernel_rfl) (by simp) ?_
   refine AllReadyH.cons rfl (fun K hK=>?_) AllReadyH.nil
   obtain ⟨c40,c41,c42⟩:=HK0.out _ HG4.out
   go_simp
   refine hK.out _ _ hHeld (fun hHeld=>?_)
   clear hK K
   try simp only[Act.put,List.setIfInBounds_toArray,List.set_cons_zero,List.set_cons_succ]
   refine wpAnyH_take (i:=2) (v:=.int .i64 ((k-1:Nat):Int)) rfl (by kernel_rfl) (by kernel_rfl) (by kernel_rfl) (fun _ _ _ h=>h) (Or.inl ⟨by rfl,fun W1 hS1=>by obtain ⟨e0,v1,e1,e2⟩:=hS1;go_simp⟩) hHeld ?_
   try simp only[Act.put,List.setIfInBounds_toArray,List.set_cons_zero,List.set_cons_succ]
   refine wpAnyH_ready (rs:= [6]) (by kernel_rfl) (by simp) ?_
   refine AllReadyH.cons rfl (fun K hK=>?_) AllReadyH.nil
   go_simp
   refine (HRo.out _ B σ4 HV4.out.1 HV4.out.2.1 HV4.out.2.2.1 HV4.out.2.2.2).mono ?_
   rintro e w5 ⟨rfl,⟨σ5,hV5⟩,hg5⟩
   have HV5:Hid (VW w5 vb m a len cap h σ5):=hV5
   have HG5:Hid (W.grownBy w5 (some m)):=HG4.out.trans hg5
   clear hV5 hg5
   refine hK.out _ _ ⟨(HK0.out _ HG5.out).1,_,(HK0.out _ HG5.out).2.1,(HK0.out _ HG5.out).2.2⟩ (fun hHeld=>?_)
   clear hK K
   try simp only[Act.put,List.setIfInBounds_toArray,List.set_cons_zero,List.set_cons_succ]
   refine wpAnyH_ready (rs:= [7]) (by kernel_rfl) (by simp) ?_
   refine AllReadyH.cons rfl (fun K hK=>?_) AllReadyH.nil
   obtain ⟨c50,c51,c52⟩:=HK0.out _ HG5.out
   go_simp
   refine hK.out _ _ ⟨(HX1.out _ _ HG5.out).1,r,(HX1.out _ _ HG5.out).2.1,(HX1.out _ _ HG5.out).2.2⟩ (fun hHeld=>?_)
   clear hK K hHeld
   try simp only[Act.put,List.setIfInBounds_toArray,List.set_cons_zero,List.set_cons_succ]
   refine wpAnyH_done (by kernel_rfl) ?_ _
   have HC5:Hid (Bw (fun k=>k=m) s w (w5.setCell ⟨s+1,0,none⟩ (.int .i64 r))):=(HB.out.grown HG5.out (by omega) (fun q e=> .inr (Option.some.inj e).symm)).grown (grown_set (W:=w5) (s+1) 0 _) (by have:=HG5.out.size;omega) (fun q e=> .inl (by cases e;omega))
   have HV6:Hid (VW (w5.setCell ⟨s+1,0,none⟩ (.int .i64 r)) vb m a len cap h σ5):=HV0.out.low HV5.out fun q hq=>(grown_set (W:=w5) (s+1) 0 _).block q (by have:=HG5.out.size;omega) (fun e=>by have:=Option.some.inj e;omega)
   have HY0:Hid (Boxed (w5.setCell ⟨s+1,0,none⟩ (.int .i64 r)) s 159 (.pointer (some ⟨vb,0,none⟩))):=(H0.out.kept HG5.out (by intro e;have:=Option.some.inj e;omega)).other (by omega) _
   have HY1:Hid (Boxed (w5.setCell ⟨s+1,0,none⟩ (.int .i64 r)) (s+1) 3 (.int .i64 r)):=(H1.out.kept HG5.out (by intro e;have:=Option.some.inj e;omega)).set _
   have HY2:Hid (Boxed (w5.setCell ⟨s+1,0,none⟩ (.int .i64 r)) (s+2) 3 (.int .i64 0)):=(H2.out.kept HG5.out (by intro e;have:=Option.some.inj e;omega)).other (by omega) _
   have HKp:Hid (KeepsFrom W0.heap.size W (w5.setCell ⟨s+1,0,none⟩ (.int .i64 r))):=(KeepsFrom.of_grownBy HG5.out (fun j e=>by cases e;omega)).trans ((KeepsOthers.setCell _ _ _).from _)
   have HKb:Hid (Kb b W (w5.setCell ⟨s+1,0,none⟩ (.int .i64 r))):=⟨by have:=HG5.out.size;simp;omega,((grown_set (W:=w5) (s+1) 0 _).block b (by have:=HG5.out.size;omega) (fun e=>by have:=Option.some.inj e;omega)).trans (HG5.out.block b (by omega) (fun e=>hbm (Option.some.inj e)))⟩
   have hz6:s+3≤(w5.setCell ⟨s+1,0,none⟩ (.int .i64 r)).heap.size:=by have:=HG5.out.size;simp;omega
   clear HV4 HG4 HV5 HG5 c50 c51 c52
   generalize w5.setCell ⟨s+1,0,none⟩ (.int .i64 r)=W6 at*
   have y1:=HY1.out.cell
   have y2:=HY2.out.cell
   have g2:=HY2.out.frozen
   rcases Hr.out with ⟨hlt,hre⟩| ⟨kk,hre,hkk⟩
   ·subst hre
    have HX:Hid (RmX w vb m a len cap h n s .ret (pre++ [x]) (W6.setCell ⟨s+2,0,none⟩ (.int .i64 (-1)))):=⟨rfl,hlt,HY2.out.set _,⟨σ5,HV0.out.low HV6.out fun q hq=>(grown_set (W:=W6) (s+2) 0 _).block q (by omega) (fun e=>by have:=Option.some.inj e;omega)⟩,HC5.out.grown (grown_set (W:=W6) (s+2) 0 _) (by omega) (fun q e=> .inl (by cases e;omega)),by simp;omega⟩
    have HKq:Hid (KeepsFrom W0.heap.size W (W6.setCell ⟨s+2,0,none⟩ (.int .i64 (-1)))):=HKp.out.trans ((KeepsOthers.setCell _ _ _).from _)
    gi_wp2
    exact ⟨by rw[←hs0];exact HKq.out,HX.out⟩
   ·subst hre
    have hnn: ¬((kk:Int)<0):=by omega
    have HIn:Hid (RmI w vb m a len cap h n s (pre++ [x]) W6):=⟨kk,σ5,hkk,HY0.out,HY1.out,HY2.out,HV6.out,HC5.out,hz6⟩
    gi_wp2
    exact ⟨by rw[←hs0];exact HKp.out,HKb.out,HIn.out⟩
theorem vroom_all: ∀n,n≤200→RmC n:=by
 intro n
 induction n using Nat.strongRecOn with
 |_ n ih=>intro hn;exact vroom_step n hn fun k hk=>ih k hk (by omega)
end Go.Proofs.YtmggaclaoefdaabGreat

namespace Go.Proofs.YtmggaclaoefdaabGreat
open Go.RowKit
set_option linter.unusedVariables false
set_option linter.unusedSimpArgs false
def nmS (t:List Int):Int→Option Int:=fun i=>if i+1∈t then some (num t (i+1))else none
structure NMs (w:World) (lo nb nm:Nat) (v:Value) (t:List Int):Prop where
 blk:w.heap[nb]?=some (.cells #[.map (some nm),v] 191)
 mp:IM w nm (nmS t)
 row:w.ownsRow lo 3 1 v t.length (t.map fun x:Int=>iV (x-1))
 nd:t.Nodup∧∀x∈t,1≤x∧x≤1000001
 lo:lo≤nb∧lo≤nm
theorem NMs.few {w:World} {lo nb nm:Nat} {v:Value} {t:List Int} (h:NMs w lo nb nm v t):t.length≤1000002:=by
 have h1:(t.map Int.toNat).Nodup:=by
  rw[List.nodup_iff_pairwise_ne,List.pairwise_map];have h0:=List.nodup_iff_pairwise_ne.1 h.nd.1;exact h0.imp_of_mem (fun ha hb hab e=>hab (by have:=h.nd.2 _ ha;have:=h.nd.2 _ hb;omega))
 have h2:(t.map Int.toNat) ⊆ List.range 1000002:=fun x hx=>by
  obtain ⟨i,hi,rfl⟩:=List.mem_map.1 hx;have:=h.nd.2 i hi;exact List.mem_range.2 (by omega)
 have h3:=List.Nodup.length_le_of_subset h1 h2;rw[List.length_map,List.length_range]at h3;exact h3
def Mn (nb nm:Nat) (v:Value) (k:Nat):Prop:=k=nb∨k=nm∨v.ownBlock=some k
theorem NMs.lt {w:World} {lo nb nm:Nat} {v:Value} {t:List Int} (h:NMs w lo nb nm v t):nb<w.heap.size∧nm<w.heap.size∧∀g,v.ownBlock=some g→lo≤g∧g<w.heap.size:=
 ⟨(Array.getElem?_eq_some_iff.1 h.blk).1,h.mp.lt,fun g hg=>h.row.lt g hg⟩
theorem NMs.keep {w w':World} {lo nb nm:Nat} {v:Value} {t:List Int} (h:NMs w lo nb nm v t) (hk: ∀k,Mn nb nm v k→w'.heap[k]?=w.heap[k]?):NMs w' lo nb nm v t:=
 ⟨(hk _ (.inl rfl)).trans h.blk,h.mp.keep (hk _ (.inr (.inl rfl))),owns_block h.row (fun g hg=>hk _ (.inr (.inr hg))),h.nd,h.lo⟩
theorem NMs.below {w w':World} {lo nb nm:Nat} {v:Value} {t:List Int} (h:NMs w lo nb nm v t) (hb:Below w.heap.size w w'):NMs w' lo nb nm v t:=
 h.keep fun k hk=>hb.block k (by
  have:=h.lt
  rcases hk with e|e|e
  ·omega
  ·omega
  ·exact (this.2.2 k e).2)
set_option maxRecDepth 100000 in
set_option maxHeartbeats 4000000 in
theorem newNames_any (w:World):Calls Tryz.prog 116 #[] w fun e w'=>∃nb nm,e=.returned (.pointer (some ⟨nb,0,none⟩))∧NMs w' w.heap.size nb nm (.slice none 0 0) []∧Below w.heap.size w w':=by
 have HF:Hid (NMs ((w.alloc (.map #[] 0)).alloc (.cells #[.map (some w.heap.size),.slice none 0 0] 191)) w.heap.size (w.heap.size+1) w.heap.size (.slice none 0 0) []∧Below w.heap.size w ((w.alloc (.map #[] 0)).alloc (.cells #[.map (some w.heap.size),.slice none 0 0] 191))):=by
  have hB:Below w.heap.size w ((w.alloc (.map #[] 0)).alloc (.cells #[.map (some w.heap.size),.slice none 0 0] 191)):=((Below.refl _ _).alloc (Nat.le_refl _) _).alloc (by simp) _
  refine ⟨⟨?_,?_,World.ownsRow_nil _ _ _ _,⟨List.nodup_nil,fun x h=>by cases h⟩,by omega,Nat.le_refl _⟩,hB⟩
  ·have:=heap_alloc_new (w.alloc (.map #[] 0)) (.cells #[.map (some w.heap.size),.slice none 0 0] 191)
   rwa [show (w.alloc (.map #[] 0)).heap.size=w.heap.size+1 from by simp]at this
  ·have e:nmS []=fun _=>none:=by funext i;unfold nmS;rw[if_neg (by simp)]
   rw[e];exact (IM.made w).keep (heapOld _ _ (by simp))
 have hmm:= @run_makeMap Tryz.prog
 go_enter Tryz.func116,Tryz.ntmps116
 go_wp2_with fail;go_ret;exact ⟨_,_,rfl,HF.o.1,HF.o.2⟩
theorem nmS_snoc {t:List Int} {x:Int} (hx:x ∉ t):updI (nmS t) (x-1) ((t.length:Int)+1)=nmS (t++ [x]):=by
 funext i
 unfold updI nmS
 by_cases e:i=x-1
 ·subst e
  rw[if_pos rfl,show x-1+1=x from by omega,if_pos (by simp)]
  unfold num;rw[List.idxOf_append,if_neg hx];simp
 ·rw[if_neg e]
  have hne:i+1≠x:=by omega
  by_cases hi:i+1∈t
  ·rw[if_pos hi,if_pos (List.mem_append.2 (.inl hi)),num_pre (List.prefix_append t [x]) hi]
  ·rw[if_neg hi,if_neg (by simp[hi,hne])]
theorem nmS_get {t:List Int} {x:Int}:(nmS t (x-1)).getD 0=if x∈t then num t x else 0:=by
 unfold nmS;rw[show x-1+1=x from by omega]
 by_cases h:x∈t
 ·rw[if_pos h,if_pos h];rfl
 ·rw[if_neg h,if_neg h];rfl
def NbP (w:World) (lo nb nm:Nat) (v:Value) (t:List Int) (x:Int) (e:Ending) (w':World):Prop:=∃v',e=.returned (iV (num (addV t [x]) x))∧NMs w' lo nb nm v' (addV t [x])∧Bw (Mn nb nm v) w.heap.size w w'∧(v'.ownBlock=v.ownBlock∨∃g,v'.ownBlock=some g∧w.heap.size≤g)
set_option maxRecDepth 100000 in
set_option maxHeartbeats 4000000 in
theorem nnum_any {lo nb nm:Nat} {v:Value} {t:List Int} (z:Nat) (hz:z≤1000000) (w:World) (h:NMs w lo nb nm v t) (hlo:lo≤w.heap.size):
 Calls Tryz.prog 118 #[.pointer (some ⟨nb,0,none⟩),iV z] w (NbP w lo nb nm v t ((z:Int)+1)):=by
 have n0:w.cell? ⟨nb,0,none⟩=some (.map (some nm)):=by simp[World.cell?,h.blk]
 have n1:w.cell? ⟨nb,1,none⟩=some v:=by simp[World.cell?,h.blk]
 have nf:w.frozen? ⟨nb,1,none⟩=false:=by simp[World.frozen?,h.blk]
 have hlk:=h.mp.look1 (i:=(z:Int)) (by omega) (by omega)
 have hge:=nmS_get (t:=t) (x:=(z:Int)+1);rw[show (z:Int)+1-1=z from by omega]at hge
 rw[hge]at hlk;have hfw:=h.few;have hlt:=h.lt
 by_cases hm:(z:Int)+1∈t
 ·rw[if_pos hm]at hlk
  have hadd:addV t [(z:Int)+1]=t:=by rw[addV_one,if_pos hm]
  have hnum:1≤num t ((z:Int)+1):=by unfold num;omega
  have hnz:(num t ((z:Int)+1)==0)=false:=beq_eq_false_iff_ne.2 (by omega)
  have HF:=hid h;have HA:Hid (addV t [(z:Int)+1]=t):=hadd;clear h hge hm hadd
  go_enter Tryz.func118,Tryz.ntmps118
  go_wp2_with fail;go_ret;exact ⟨v,by rw[HA.o];rfl,by rw[HA.o];exact HF.o,Bw.refl _ _ _,.inl rfl⟩
 ·rw[if_neg hm]at hlk
  have hadd:addV t [(z:Int)+1]=t++ [(z:Int)+1]:=by rw[addV_one,if_neg hm]
  obtain ⟨i0,hi,hi0,hi1,hi2⟩:=info_parts Tryz.info3;have hBa:Below w.heap.size w (w.alloc (.cells #[iV (z:Int)] 3)):=(Below.refl _ _).alloc (Nat.le_refl _) _;obtain ⟨v6,w6,hrun,ho6,hg6,_,hat6⟩:=run_append_own_at (P:=Tryz.prog) (w.alloc (.cells #[iV (z:Int)] 3)) lo 28 28 3 i0 (iV 0) 1 8 Tryz.underlying28 hi hi0 hi1 hi2 rfl (by decide) v t.length _ (owns_block h.row (fun g hg=>hBa.block g (hlt.2.2 g hg).2)) ⟨w.heap.size,0,none⟩ 1 1 [iV (z:Int)] rfl (cell_one_new _ _ _) (by simp[Value.oneCell']) (by unfold maxLen;omega) (by omega) (by simp;omega)
  obtain ⟨g6,cap6,rfl⟩:=ownsRow_succ ho6
  have hnv:some nb≠v.ownBlock:=fun e=>by
   rcases h.row.2 with ⟨hv,_⟩| ⟨g,cap,cur,hv,_,hg,_⟩
   ·subst hv;cases e
   ·subst hv
    have:nb=g:=Option.some.inj e;subst this;rw[h.blk]at hg;cases hg
  have hmv:some nm≠v.ownBlock:=fun e=>by
   rcases h.row.2 with ⟨hv,_⟩| ⟨g,cap,cur,hv,_,hg,_⟩
   ·subst hv;cases e
   ·subst hv
    have:nm=g:=Option.some.inj e;subst this;exact h.mp.ne_block hg rfl
  have hb6:w6.heap[nb]?=some (.cells #[.map (some nm),v] 191):=(hg6.block nb (by simp;omega) hnv).trans ((hBa.block nb hlt.1).trans h.blk)
  have c60:w6.cell? ⟨nb,0,none⟩=some (.map (some nm)):=by simp[World.cell?,hb6]
  have c61:w6.cell? ⟨nb,1,none⟩=some v:=by simp[World.cell?,hb6]
  have cf6:w6.frozen? ⟨nb,1,none⟩=false:=by simp[World.frozen?,hb6]
  have hg7:=grown_set (W:=w6) nb 1 (.slice (some ⟨g6,0,none⟩) (t.length+1) cap6)
  have hb7:(w6.setCell ⟨nb,1,none⟩ (.slice (some ⟨g6,0,none⟩) (t.length+1) cap6)).heap[nb]?=some (.cells #[.map (some nm),.slice (some ⟨g6,0,none⟩) (t.length+1) cap6] 191):=by
   simp only[World.setCell,Array.getElem?_modify];simp[hb6]
  have hs6:w.heap.size+1≤w6.heap.size:=by have:=hg6.size;simp at this;omega
  have hgn:g6≠nb:=fun e=>by
   rcases ho6.2 with ⟨hv,_⟩| ⟨g,cap,cur,hv,_,hg,_⟩
   ·cases hv
   ·cases hv
    rw[e,hb6]at hg;cases hg
  have hm7:IM (w6.setCell ⟨nb,1,none⟩ (.slice (some ⟨g6,0,none⟩) (t.length+1) cap6)) nm (nmS t):=h.mp.keep ((hg7.block nm (by omega) (fun e=>by have:=Option.some.inj e;exact h.mp.ne_block h.blk this.symm)).trans ((hg6.block nm (by simp;omega) hmv).trans (hBa.block nm hlt.2.1)))
  have hgm:g6≠nm:=fun e=>by
   rcases ho6.2 with ⟨hv,_⟩| ⟨g,cap,cur,hv,_,hg,_⟩
   ·cases hv
   ·cases hv
    have hm6:IM w6 nm (nmS t):=h.mp.keep ((hg6.block nm (by simp;omega) hmv).trans (hBa.block nm hlt.2.1))
    exact hm6.ne_block hg e
  have ho7:(w6.setCell ⟨nb,1,none⟩ (.slice (some ⟨g6,0,none⟩) (t.length+1) cap6)).ownsRow lo 3 1 (.slice (some ⟨g6,0,none⟩) (t.length+1) cap6) (t.length+1) ((t.map fun x:Int=>iV (x-1))++ [iV (z:Int)]):=ho6.kept hg7 (.inr (fun e=>hgn (Option.some.inj e)))
  have c70:(w6.setCell ⟨nb,1,none⟩ (.slice (some ⟨g6,0,none⟩) (t.length+1) cap6)).cell? ⟨nb,0,none⟩=some (.map (some nm)):=by simp[World.cell?,hb7]
  have c71:(w6.setCell ⟨nb,1,none⟩ (.slice (some ⟨g6,0,none⟩) (t.length+1) cap6)).cell? ⟨nb,1,none⟩=some (.slice (some ⟨g6,0,none⟩) (t.length+1) cap6):=by simp[World.cell?,hb7]
  obtain ⟨w8,hrun8,hm8,hg8⟩:=(hm7.keep (w':=(w6.setCell ⟨nb,1,none⟩ (.slice (some ⟨g6,0,none⟩) (t.length+1) cap6)).drew) rfl).store (i:=(z:Int)) (by omega) (by omega) ((t.length:Int)+1)
  have hm8':IM w8 nm (nmS (t++ [(z:Int)+1])):=by
   rw[←nmS_snoc hm,show (z:Int)+1-1=z from by omega]
   exact hm8
  have hb8:w8.heap[nb]?=some (.cells #[.map (some nm),.slice (some ⟨g6,0,none⟩) (t.length+1) cap6] 191):=(hg8.block nb (by simp;omega) (fun e=>by have:=Option.some.inj e;exact h.mp.ne_block h.blk this)).trans hb7
  have c80:w8.cell? ⟨nb,0,none⟩=some (.map (some nm)):=by simp[World.cell?,hb8]
  have hlk8:=hm8'.look1 (i:=(z:Int)) (by omega) (by omega)
  have hge8:=nmS_get (t:=t++ [(z:Int)+1]) (x:=(z:Int)+1);rw[show (z:Int)+1-1=z from by omega,if_pos (by simp)]at hge8
  rw[hge8]at hlk8
  have HN:Hid (NMs w8 lo nb nm (.slice (some ⟨g6,0,none⟩) (t.length+1) cap6) (t++ [(z:Int)+1])):=by
   refine ⟨hb8,hm8',?_,⟨?_,fun x hx=>?_⟩,h.lo⟩
   ·rw[List.length_append,List.map_append]
    refine owns_block ?_ (fun g hg=>hg8.block g (by have:=(ho7.lt g hg).2;exact this) (fun e=>hgm ((Option.some.inj hg).trans (Option.some.inj e))))
    have e:(List.map (fun x:Int=>iV (x-1)) [(z:Int)+1])= [iV (z:Int)]:=by simp
    rw[e];exact ho7
   ·rw[List.nodup_append]
    exact ⟨h.nd.1,by simp,fun a ha c hc=>by rw[List.mem_singleton]at hc;subst hc;exact fun e=>hm (e▸ha)⟩
   ·rcases List.mem_append.1 hx with h'|h'
    ·exact h.nd.2 x h'
    ·rw[List.mem_singleton]at h';subst h';omega
  have HBw:Hid (Bw (Mn nb nm v) w.heap.size w w8):=by
   refine (((Bw.ofBelow hBa).grown hg6 (by simp) (fun k e=> .inr (.inr (.inr e)))).grown hg7 (by omega) (fun k e=> .inr (.inl (Option.some.inj e).symm))).drew.grown hg8 (by simp;omega) (fun k e=> .inr (.inr (.inl (Option.some.inj e).symm)))
  have HAt:Hid ((Value.slice (some ⟨g6,0,none⟩) (t.length+1) cap6).ownBlock=v.ownBlock∨∃g,(Value.slice (some ⟨g6,0,none⟩) (t.length+1) cap6).ownBlock=some g∧w.heap.size≤g):=by
   rcases hat6 with e|e
   ·exact .inl e
   ·exact .inr ⟨_,e,by simp⟩
  have HA:=hid hadd;have Hhr8:=hid hrun8;clear h hge hge8 hm hadd hm7 hm8 hm8' ho6 ho7 hg6 hg7 hg8 hat6 hb7 hb8 hBa hrun8 hb6
  go_enter Tryz.func118,Tryz.ntmps118
  go_wp2_with (at_builtin;refine apPl _ rfl _ _ 28 rfl rfl rfl hrun ?_);have hrun8:=Hhr8.o
  go_region
  all_goals
   go_wp2_with fail;go_ret;exact ⟨_,by rw[HA.o];rfl,by rw[HA.o];exact HN.o,HBw.o,HAt.o⟩
end Go.Proofs.YtmggaclaoefdaabGreat
