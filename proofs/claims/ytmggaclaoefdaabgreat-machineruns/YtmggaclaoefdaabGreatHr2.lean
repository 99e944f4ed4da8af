/- Part of the proof. -/
import Derived.Test.YtmggaclaoefdaabGreatHr1
namespace Go.Proofs.YtmggaclaoefdaabGreat
open Go.RowKit Go.Shelf Go.Proofs.Tryz
set_option linter.unusedVariables false
set_option linter.unusedSimpArgs false
set_option maxRecDepth 100000
set_option maxHeartbeats 8000000
attribute [local go_sem] Oper.semAt_some
def Tf (r:Nat):Deferred:= { target:=.collected r,args:= #[]}
structure mh (lo:Nat) (rs:List Nat) (w:World):Prop where
 nd:rs.Nodup
 at': ∀r∈rs,lo<=r/\w.heap[r]?=some (.deferred (some []))
theorem mh.nil (lo:Nat) (w:World):mh lo [] w:=⟨List.nodup_nil,fun r h=>by cases h⟩
theorem mh.kept {lo:Nat} {rs:List Nat} {w w':World} (h:mh lo rs w) (hk: ∀r∈rs,w'.heap[r]?=w.heap[r]?):mh lo rs w':=⟨h.nd,fun r hr=>⟨(h.at' r hr).1,(hk r hr).trans (h.at' r hr).2⟩⟩
theorem mh.lt {lo:Nat} {rs:List Nat} {w:World} (h:mh lo rs w) {r:Nat} (hr:r∈rs):r<w.heap.size:=(aZ (h.at' r hr).2)
theorem mh.cons {lo D:Nat} {rs:List Nat} {w:World} (h:mh lo rs w) (h0:lo<=D) (hD:w.heap[D]?=some (.deferred (some []))) (hn:D ∉ rs):mh lo (D::rs) w:=
 ⟨List.nodup_cons.2 ⟨hn,h.nd⟩,fun r hr=>by
  rcases List.mem_cons.1 hr with e|e
  .subst e;exact ⟨h0,hD⟩
  .exact h.at' r e⟩
theorem Al {n lo:Nat} {P:Program} {fn:Func} {tmps:Array Value} {R:Ending->World->Prop}: ∀(rs:List Nat) (w:World),mh lo rs w->lo<=w.heap.size->(∀w',Below lo w w'->LeavesInM Fence.wide n P fn tmps R [] .returning w')->LeavesInM Fence.wide n P fn tmps R (rs.map Tf) .returning w:=by
 intro rs
 induction rs with
 |nil=>intro w _ _ h;exact h w bR
 |cons r rs ih=>
  intro w hm hlo h;obtain ⟨h1,h2⟩:=hm.at' r List.mem_cons_self;refine ⟨by simp,.inl ⟨r,_,rfl,run_takeDeferred h2,?_⟩⟩
  have hB:Below lo w (w.putObj r (.deferred none)):=(Below.refl lo w).grown (grownBy_putObj' w r _) hlo (fun k e=>by cases e;exact h1)
  refine ih _ ⟨(List.nodup_cons.1 hm.nd).2,fun x hx=>⟨(hm.at' x (List.mem_cons_of_mem _ hx)).1,(World.putObj_heap_other (fun e=>?_)).trans (hm.at' x (List.mem_cons_of_mem _ hx)).2⟩⟩ (lT hlo hB.size) (fun w' hw'=>h w' (hB.trans hw'))
  exact (List.nodup_cons.1 hm.nd).1 (by first| (rw [<-e];exact hx)| (rw [e];exact hx)| (subst e;exact hx))
structure CI (w:World) (gi B3 len:Nat) (W:World) (c:Nat->Int):Prop where
 box:Boxed W B3 28 (.slice (some ⟨gi,0,none⟩) len len)
 row:W.ownsRow gi 3 1 (.slice (some ⟨gi,0,none⟩) len len) len ((List.range len).map fun i:Nat=>Value.int .i64 (c i))
 below:Below gi w W
 le:gi<=w.heap.size/\gi≠B3/\gi<=B3
theorem CI.lt {w:World} {gi B3 len:Nat} {W:World} {c:Nat->Int} (h:CI w gi B3 len W c):gi<W.heap.size/\B3<W.heap.size:=⟨(h.row.lt gi rfl).2,h.box.lt⟩
theorem CI.kept {w:World} {gi B3 len:Nat} {W W':World} {c:Nat->Int} (h:CI w gi B3 len W c) {row:Option Nat} (hg:W.grownBy W' row) (h1:some gi≠row) (h2:some B3≠row) (h3: ∀k,row=some k->gi<=k):CI w gi B3 len W' c:=
 ⟨h.box.kept hg h2,h.row.kept hg (.inr h1),h.below.grown hg (Nat.le_of_lt h.lt.1) h3,h.le⟩
theorem CI.set {w:World} {gi B3 len:Nat} {W:World} {c:Nat->Int} (h:CI w gi B3 len W c) (x:Nat) (v:Int):CI w gi B3 len (W.setCell ⟨gi,x,none⟩ (.int .i64 v)) (fun y=>if y=x then v else c y):=by
 have hg:=af (W:=W) gi x (.int .i64 v);refine ⟨h.box.kept hg (fun e=>h.le.2.1 (oj e).symm),?_,h.below.grown hg (Nat.le_of_lt h.lt.1) (fun k e=>by cases e;exact lZ),h.le⟩
 have:=H8 h.row x (.int .i64 v);rw[Hp]at this;have e:(fun j:Nat=>if j=x then Value.int .i64 v else Value.int .i64 (c j))=fun j:Nat=>Value.int .i64 (if j=x then v else c j):=by funext j;split <;> rfl
 rw[e]at this;exact this
theorem CI.row_cells {w:World} {gi B3 len:Nat} {W:World} {c:Nat->Int} (h:CI w gi B3 len W c): ∃o:Obj,W.heap[gi]?=some o/\o.isCells=true:=by
 rcases h.row.2 with ⟨hv,_⟩| ⟨g,cap,cur,hv,_,hg,_⟩
 .cases hv
 .cases hv;exact ⟨_,hg,rfl⟩
theorem dd {W:World} {row:Option Nat} {g:Nat} {o:Obj} (hr: ∀r,row=some r->∃o:Obj,W.heap[r]?=some o/\o.isCells=false) (h:W.heap[g]?=some o) (hc:o.isCells=true):some g≠row:=fun e=>by
 obtain ⟨o',h1,h2⟩:=hr g e.symm;rw[h]at h1;cases h1;rw[hc]at h2;cases h2
theorem CI.own {w:World} {gi B3 len B:Nat} {W W':World} {c:Nat->Int} {row:Option Nat} (h:CI w gi B3 len W c) (hB:gi<=B) (hg:W.grownBy W' row) (hr: ∀r,row=some r->B<=r/\∃o:Obj,W.heap[r]?=some o/\o.isCells=false):CI w gi B3 len W' c:=by
 obtain ⟨o,h1,h2⟩:=h.row_cells;exact h.kept hg (dd (fun r e=>(hr r e).2) h1 h2) (dd (fun r e=>(hr r e).2) h.box rfl) (fun k e=>lT hB (hr k e).1)
theorem mh.own {lo B:Nat} {rs:List Nat} {W W':World} {row:Option Nat} (h:mh lo rs W) (hB: ∀r∈rs,r<B) (hg:W.grownBy W' row) (hr: ∀r,row=some r->B<=r/\∃o:Obj,W.heap[r]?=some o/\o.isCells=false):mh lo rs W':=
 h.kept fun r hr'=>hg.block r (h.lt hr') (fun e=>by have:=(hr r e.symm).1;have:=hB r hr';omega)
theorem mh.below {lo:Nat} {rs:List Nat} {W W':World} (h:mh lo rs W) (hb:Below W.heap.size W W'):mh lo rs W':=h.kept fun r hr=>hb.block r (h.lt hr)
theorem mh.set {lo g i:Nat} {rs:List Nat} {W:World} {v:Value} {o:Obj} (h:mh lo rs W) (hg:W.heap[g]?=some o) (hc:o.isCells=true):mh lo rs (W.setCell ⟨g,i,none⟩ v):=
 h.kept fun r hr=>(af (W:=W) g i v).block r (h.lt hr) (fun e=>by
  obtain rfl:=oj e;rw[(h.at' r hr).2]at hg;cases hg;cases hc)
def Un (a:Option Addr) (len cap:Nat) (h:Nat->Cl) (w:World) (gi B3:Nat) (a':Act) (w':World):Prop:=∃(k:Nat) (rs:List Nat) (c:Nat->Int) (v4 v17 v18 v19 v20 v21 v29:Value),k<=len/\(∀y,c y=((vt (dy h len) k y).length:Int))/\CI w gi B3 len w' c/\mh gi rs w'/\a'= { tmps:= #[.slice a len cap,undef,.bool false,.pointer (some ⟨B3,0,none⟩),v4,undef,undef,undef,undef,undef,undef,.slice a len cap,.int .i64 (len:Int),.slice (some ⟨gi,0,none⟩) len len,.slice a len cap,.int .i64 (len:Int),.int .i64 (k:Int),v17,v18,v19,v20,v21,undef,undef,undef,undef,undef,undef,undef,v29,undef,undef,undef,undef,undef,undef,undef,undef,undef,undef,undef,undef,undef,undef,undef,undef,undef,undef,undef,undef,undef,undef,undef,undef,undef,undef,undef,undef,undef,undef,undef,undef,undef,undef,undef,undef,undef,undef,undef,undef,undef,undef,undef,undef,undef,undef,undef,undef,undef,undef],defers:=rs.map Tf}
theorem mh.keeps {lo:Nat} {rs:List Nat} {W W':World} (h:mh lo rs W) (hk:KeepsOthers W W'):mh lo rs W':=h.kept fun r hr=>(hk.same r _ (h.at' r hr).2 rfl).trans (h.at' r hr).2.symm
structure FR (s6 B6:Nat) (W:World) (v:Value) (q:List Nat):Prop where
 box:Boxed W B6 28 v
 row:kh s6 W v q
theorem bc {w w':World} {lo n s:Nat} {e:TypeId} {v:Value} {xs:List Value} (h:w.ownsRow lo e s v n xs) (hb: ∀g,v.ownBlock=some g->w'.heap[g]?=w.heap[g]?):w'.ownsRow lo e s v n xs:=by
 rcases h with ⟨h1,⟨hv,h0⟩| ⟨g,cap,cur,hv,hlo,hg,hr⟩⟩
 .exact ⟨h1,.inl ⟨hv,h0⟩⟩
 .subst hv
  exact ⟨h1,.inr ⟨g,cap,cur,rfl,hlo,(hb g rfl).trans hg,hr⟩⟩
theorem CI.blw {w:World} {gi B3 len s:Nat} {W W':World} {c:Nat->Int} (h:CI w gi B3 len W c) (hb:Below s W W') (h1:gi<s) (h2:B3<s):CI w gi B3 len W' c:=
 ⟨(hb.block _ h2).trans h.box,bc h.row (fun g e=>by cases e;exact hb.block _ h1),h.below.trans (hb.mono (Nat.le_of_lt h1)),h.le⟩
theorem mh.blw {lo s:Nat} {rs:List Nat} {W W':World} (h:mh lo rs W) (hb:Below s W W') (hs: ∀r∈rs,r<s):mh lo rs W':=h.kept fun r hr=>hb.block r (hs r hr)
theorem kh.own {lo:Nat} {W W':World} {v:Value} {q:List Nat} {row:Option Nat} (h:kh lo W v q) (hg:W.grownBy W' row) (hr: ∀r,row=some r->∃o:Obj,W.heap[r]?=some o/\o.isCells=false):kh lo W' v q:=by
 refine h.kept hg ?_
 rcases h.2 with ⟨hv,_⟩| ⟨g,cap,cur,hv,_,hgb,_⟩
 .subst hv;exact .inl rfl
 .subst hv;exact .inr (dd hr hgb rfl)
theorem FR.own {s6 B6:Nat} {W W':World} {v:Value} {q:List Nat} {row:Option Nat} (h:FR s6 B6 W v q) (hg:W.grownBy W' row) (hr: ∀r,row=some r->∃o:Obj,W.heap[r]?=some o/\o.isCells=false):FR s6 B6 W' v q:=
 ⟨h.box.kept hg (dd hr h.box rfl),h.row.own hg hr⟩
theorem FR.below {s6 B6:Nat} {W W':World} {v:Value} {q:List Nat} (h:FR s6 B6 W v q) (hb:Below W.heap.size W W'):FR s6 B6 W' v q:=⟨(hb.block _ h.box.lt).trans h.box,h.row.below hb⟩
theorem FR.set {s6 B6 g i:Nat} {W:World} {v u:Value} {q:List Nat} (h:FR s6 B6 W v q) (hg:g<s6) (hB:s6<=B6):FR s6 B6 (W.setCell ⟨g,i,none⟩ u) v q:=
 ⟨h.box.kept (af g i u) (fun e=>by have:=oj e;omega),h.row.kept (af g i u) (by
  cases hv:v.ownBlock with
  |none=>exact .inl rfl
  |some k=>exact .inr (fun e=>by have:=(World.ownsRow.lt h.row k hv).1;have:=oj e;omega))⟩
theorem T5 {F:Fence} {n:Nat} {P:Program} (w:World) {ops:Array Oper} {rest:List Oper} {o:Oper} {a:Act} {Q:Exit->Act->World->Prop} (hg:o.guard=none) (s x:Operand) (t:TypeId) (hop:o.op=Op.call { callee:=Callee.builtin Builtin.append,args:= #[s,x],argTypes:= #[t,t]})
 {v vx:Value} (hs:a.eval s=v) (hx:a.eval x=vx) {v':Value} {w':World} (hrun:(Builtin.append_ #[t,t] o.type #[v,vx]).run P w=.ok v' w') (hK:wpListIn F n P ops Q rest (a.put o.dst v') w'):wpListIn F n P ops Q (o::rest) a w:=by
 refine wpListIn_plain hg fun K hK'=>?_
 unfold Oper.wpIn;refine ⟨?_,?_⟩
 .simp[Oper.about,hop,resolve,Target.leads,Sem.run_pure]
 .rw[Oper.semAt_plain F _ _ (by rw[hop];intro c hc';cases hc')]
  simp[execOp,hop,resolve,invoke,builtin,hs,hx,hrun,Result.andThen];exact hK' _ _ hK
theorem Rz {P:Program} (w:World) {ops:Array Oper} {rest:List Oper} {o:Oper} {a:Act} {Q:Exit->Act->World->Prop} (hg:o.guard=none) (s x:Operand) (t:TypeId) (hop:o.op=Op.call { callee:=Callee.builtin Builtin.append,args:= #[s,x],argTypes:= #[t,t]})
 {v vx:Value} (hs:a.eval s=v) (hx:a.eval x=vx) {v':Value} {w':World} (hrun:(Builtin.append_ #[t,t] o.type #[v,vx]).run P w=.ok v' w') (hK:wpList P ops Q rest (a.put o.dst v') w'):wpList P ops Q (o::rest) a w:=by
 refine wpList_plain hg fun K hK'=>?_
 unfold Oper.wp;simp[execOp,hop,resolve,invoke,builtin,hs,hx,hrun,Result.andThen];exact hK' _ _ hK
def Um (a:Option Addr) (len cap:Nat) (h:Nat->Cl) (w:World) (gi B3 s6 B6:Nat) (x4 x7 x8 x11 x12 x13 x14 x15 x16 x17 x18 x19 x20 x21 x29 x30 x31 x32 x33 x34 x35 x36 x37 x38 x39 x40 x41 x42 x43 x44 x45 x46:Value) (a':Act) (w':World):Prop:=∃(i:Nat) (rs q:List Nat) (c:Nat->Int) (v v47 v48 v49 v50 v51 v52 v53 v54 v55 v56 v57 v58:Value),i<=q.length/\KI len (vt (dy h len) len) (dy h len) c q i []/\CI w gi B3 len w' c/\FR s6 B6 w' v q/\mh gi rs w'/\a'= { tmps:= #[.slice a len cap,undef,.bool false,.pointer (some ⟨B3,0,none⟩),x4,undef,.pointer (some ⟨B6,0,none⟩),x7,x8,.int .i64 (i:Int),undef,x11,x12,x13,x14,x15,x16,x17,x18,x19,x20,x21,undef,undef,undef,undef,undef,undef,undef,x29,x30,x31,x32,x33,x34,x35,x36,x37,x38,x39,x40,x41,x42,x43,x44,x45,x46,v47,v48,v49,v50,v51,v52,v53,v54,v55,v56,v57,v58,undef,undef,undef,undef,undef,undef,undef,undef,undef,undef,undef,undef,undef,undef,undef,undef,undef,undef,undef,undef,undef],defers:=rs.map Tf}
def Uo (w:World) (gi B3 s6 B6 len:Nat) (h:Nat->Cl) (rs:List Nat) (sr sz i y ql:Nat) (ci:List (Cx len)) (W:World):Prop:=∃(c:Nat->Int) (q:List Nat) (v:Value),CI w gi B3 len W c/\FR s6 B6 W v q/\mh gi rs W/\sz<=W.heap.size/\v.ownBlock≠some (sr+1)/\q.length<=ql+ci.length/\(bh ci <+:leads h y->KI len (vt (dy h len) len) (dy h len) c q i (bh ci)/\q[i]?=some y)
theorem E6 {a:Option Addr} {len cap:Nat} {h:Nat->Cl} (w:World) (hh:HIn w a len h) (hok:HOk h len) (hkd: ∀i,i<len->(h i).k=1\/(h i).k=2):
 Calls prog 101 #[.slice a len cap] w fun e w'=>∃ok:Bool,e=.returned (.bool ok)/\(ok=false↔Dl len (leads h))/\Below w.heap.size w w':=by
 have HH:Hid (∀W,Below w.heap.size w W->HIn W a len h):=fun W hW=>hh.below hW
 have HOK:=hid hok;have hl4:=hok.few;clear hh hok;obtain ⟨i0,hi,hi0,hi1,hi2⟩:=info_parts Tryz.info3;refine (callsIn_wide (n:=5)).1 (callsIn_of_wp_marks Tryz.func101 rfl trivial (wpIn_wide.2 ?_) rfl);simp only[Tryz.ntmps101,List.size_toArray,List.length_cons,List.length_nil,Nat.reduceAdd,Nat.reduceSub,Array.replicate_succ,Array.replicate_zero,List.push_toArray,List.append_toArray,List.nil_append,List.cons_append]
 go_wp2_with (first
  | (at_make;refine wpList_make_full _ rfl _ _ 28 rfl w.heap.size 3 i0 (.int .i64 0) 1 Tryz.underlying28 hi hi0 hi1 _ _ _ _ len rfl rfl rfl rfl (by rw[hi2];omega) (by unfold maxLen;omega) lZ ?_
     intro w1 ho1 hg1;rw[P4 _ rfl]at ho1;have HO1:=hid ho1;have HB1:Hid (Below w.heap.size w w1):=⟨hg1.os,hg1.tape,hg1.output,hg1.size,fun k hk=>hg1.block k hk (by simp)⟩
     clear ho1 hg1))
 have hs1:w.heap.size<w1.heap.size:=(HO1.o.lt _ rfl).2
 have HC0:Hid (CI w w.heap.size w1.heap.size len (w1.alloc (.cells #[sZ w.heap.size len len] 28)) (fun _=>0)):=
  ⟨Boxed.new _ _ _,HO1.o.kept (World.grownBy_alloc _ _ none) (.inr (fun e=>by cases e)),Dc HB1.o bA,lZ,by omega,by omega⟩
 clear HO1 HB1;generalize w1.alloc (.cells #[sZ w.heap.size len len] 28)=W0 at*;have HLd:Hid (∀(i:Nat) W,Calls prog 88 #[.slice a len cap,.int .i64 i] W fun e w'=>e=.returned (.func (.func 126) #[] #[pZ W.heap.size,pZ (W.heap.size+1)])/\w'=(W.alloc (.cells #[.slice a len cap] 25)).alloc (.cells #[.int .i64 i] 3)):=fun i W=>ns a len cap i W
 generalize hB3:w1.heap.size=B3 at*;generalize hgi:w.heap.size=gi at*;clear hB3;refine wp_loop (Un a len cap h w gi B3) (fun a' _=>len-(intOf (a'.tmps.getD 16 undef)).toNat) ⟨0,[],_,_,_,_,_,_,_,_,oZ,fun _=>rfl,HC0.o,mh.nil _ _,rfl⟩ ?_
 rintro _ wr ⟨k,rs,c,v4,v17,v18,v19,v20,v21,v29,hk,hc,hCI,hM,rfl⟩;have HC:=hid hc;have HCI:=hid hCI;have HM:=hid hM;clear hc hCI hM HC0
 by_cases hlt:k<len
 case neg=>
  have hkl:len=k:=by omega
  subst hkl;have hsr:=HCI.o.lt;have hrl: ∀r∈rs,r<wr.heap.size:=fun r hr=>HM.o.lt hr
  have HRl:=hid hrl;clear hrl
  go_wp2_with (first
   | (at_make;refine wpList_make_own _ rfl _ _ 28 rfl wr.heap.size 3 i0 (.int .i64 0) 1 Tryz.underlying28 hi hi0 hi1 _ _ _ len rfl rfl rfl (by rw[hi2];omega) (by unfold maxLen;omega) lZ ?_
      intro w3 ho3 hg3;have HO3:Hid (kh wr.heap.size w3 (sZ wr.heap.size 0 len) []):=ho3;have HB3:Hid (Below wr.heap.size wr w3):=⟨hg3.os,hg3.tape,hg3.output,hg3.size,fun k hk=>hg3.block k hk (by simp)⟩
      have b3:=((HCI.o.blw HB3.o hsr.1 hsr.2).box.alloc (.cells #[sZ wr.heap.size 0 len] 28)).cell;clear ho3 hg3))
  have hs3:wr.heap.size<w3.heap.size:=(World.ownsRow.lt HO3.o _ rfl).2;have HB4:Hid (Below w3.heap.size w3 (w3.alloc (.cells #[sZ wr.heap.size 0 len] 28))):=bA;have HF4:Hid (FR wr.heap.size w3.heap.size (w3.alloc (.cells #[sZ wr.heap.size 0 len] 28)) (sZ wr.heap.size 0 len) []):=⟨Boxed.new _ _ _,HO3.o.below HB4.o⟩;have HC4:=hid ((HCI.o.blw HB3.o hsr.1 hsr.2).blw HB4.o (by omega) (by omega))
  have HM4:=hid ((HM.o.below HB3.o).below HB4.o);have hs4:wr.heap.size<=(w3.alloc (.cells #[sZ wr.heap.size 0 len] 28)).heap.size:=by simp;omega
  clear HO3 HB3 HB4 HCI HM b3;generalize w3.alloc (.cells #[sZ wr.heap.size 0 len] 28)=W4 at*;generalize w3.heap.size=B6 at*;generalize hs6:wr.heap.size=s6 at*;clear hs6
  go_loopw [35] (fun x wr2=>∃(j:Nat) (v:Value),j<=len/\x=.int .i64 (j:Int)/\FR s6 B6 wr2 v ((List.range j).filter fun x=>decide (c x=0))/\Below s6 W4 wr2) (fun x _=>len-(intOf x).toNat)
  case atStart=>exact ⟨0,_,oZ,rfl,HF4.o,bR⟩
  case round=>
   obtain ⟨j,v,hj,rfl,hF,hB⟩:=hrel;have HF:=hid hF;have HB:=hid hB;have HCr:=hid (HC4.o.blw hB hsr.1 hsr.2);have HMr:=hid (HM4.o.blw hB HRl.o);have hsz:=lT hs4 hB.size;clear hF hB HF4
   by_cases hjl:j<len
   case neg=>
    have hkl:len=j:=by omega
    subst hkl;have HK:Hid (KI len (vt (dy h len) len) (dy h len) c ((List.range len).filter fun x=>decide (c x=0)) 0 []):=KI.start (fun x _=>HC.o x)
    have HGr:=hid (Q7 HOK.o.din);have HAc:Hid (Dl len (vt (dy h len) len)↔Dl len (leads h)):=⟨fun e=>(za h len).1 (Gm HGr.o e),fun e=>Gm (Sq HOK.o.din) ((za h len).2 e)⟩
    have HD4:Hid (∀y,(vt (dy h len) len y).length<=1600000):=fun y=>by have:=Fz (dy h len) HOK.o.four y len;omega
    have HBF:Hid (s6<=B6):=by rw[Hid];omega
    go_wp2_with fail;clear HC HC4 HM4 HRl HB;generalize wr=W5 at*;refine wp_loop (Um a len cap h w gi B3 s6 B6 _ _ _ _ _ _ _ _ _ _ _ _ _ _ _ _ _ _ _ _ _ _ _ _ _ _ _ _ _ _ _ _) (fun a' _=>len-(intOf (a'.tmps.getD 9 undef)).toNat) ⟨0,rs,_,c,v,_,_,_,_,_,_,_,_,_,_,_,_,oZ,HK.o,HCr.o,HF.o,HMr.o,rfl⟩ ?_
    clear HK HCr HF HMr;rintro _ wr ⟨i,rs,q,c,v,v47,v48,v49,v50,v51,v52,v53,v54,v55,v56,v57,v58,hiq,hK,hC,hF,hM,rfl⟩;have HK:=hid hK;have HC:Hid (CI w gi B3 len wr c):=hC;have HF:Hid (FR s6 B6 wr v q):=hF;have HM:Hid (mh gi rs wr):=hM;have hql:q.length<=len:=hK.len;have b6:=hF.box.cell;obtain ⟨sa,cp,rfl,hcl⟩:=hF.row.form;clear hK hC hF hM
    by_cases hlt3:i<q.length
    case neg=>
     have hie:i=q.length:=by omega
     have hib:decide ((i:Int)<(q.length:Int))=false:=decide_eq_false (by omega)
     have HR:Hid (decide (q.length<len)=false↔Dl len (leads h)):=by
      rw[Hid,<-HAc.o,<-KI.done HGr.o hie HK.o];simp;omega
     clear hie hcl;go_wp2_with fail;refine Al (lo:=gi) rs _ HM.o (Nat.le_of_lt HC.o.lt.1) fun w' hw'=>?_
     exact ⟨_,results_tmp rfl _ _ _,_,rfl,HR.o,by rw[hgi];exact HC.o.below.trans hw'⟩
    have hib:decide ((i:Int)<(q.length:Int))=true:=decide_eq_true (by omega)
    have hiI:(i:Int)<(q.length:Int):=by omega
    obtain ⟨gq,rfl,hcq⟩:=hcl i hlt3;have hyl:q[i]<len:=HK.o.lt _ (List.getElem_mem hlt3);have Hy:Hid (q[i]?=some q[i]):=gE hlt3;generalize q[i]=y at*;clear hcl;go_wp2_with fail;refine (HLd.o y _).mono ?_;rintro e w2 ⟨rfl,rfl⟩;go_wp2_with fail;have hsr3:gi<wr.heap.size/\B3<wr.heap.size:=HC.o.lt;have hsB6:B6<wr.heap.size:=HF.o.box.lt;have hsW:((wr.alloc (.cells #[.slice a len cap] 25)).alloc (.cells #[.int .i64 (y:Int)] 3)).heap.size=wr.heap.size+2:=by simp
    have hb2:Below wr.heap.size wr ((wr.alloc (.cells #[.slice a len cap] 25)).alloc (.cells #[.int .i64 (y:Int)] 3)):=bA.alloc (by simp) _
    have hx2:=oq wr (.cells #[.slice a len cap] 25) (.cells #[.int .i64 (y:Int)] 3);have hC2:CI w gi B3 len ((wr.alloc (.cells #[.slice a len cap] 25)).alloc (.cells #[.int .i64 (y:Int)] 3)) c:=HC.o.blw hb2 hsr3.1 hsr3.2;have hM2:mh gi rs ((wr.alloc (.cells #[.slice a len cap] 25)).alloc (.cells #[.int .i64 (y:Int)] 3)):=HM.o.below hb2;have hF2:FR s6 B6 ((wr.alloc (.cells #[.slice a len cap] 25)).alloc (.cells #[.int .i64 (y:Int)] 3)) (sZ gq q.length cp) q:=HF.o.below hb2;have hgq:gq<wr.heap.size:=(World.ownsRow.lt HF.o.row gq rfl).2;generalize (wr.alloc (.cells #[.slice a len cap] 25)).alloc (.cells #[.int .i64 (y:Int)] 3)=W2 at*;have hrl: ∀r∈rs,r<wr.heap.size:=fun r hr=>HM.o.lt hr
    have HRl:Hid (∀r∈rs,r<wr.heap.size):=hrl;generalize hsr':wr.heap.size=sr at*;have hll:(leads h y).length<=4:=by have:=HOK.o.four y;unfold dy at this;rw[if_pos hyl]at this;exact this
    have Hlb:Hid (dy h len y=leads h y):=by unfold dy;rw[Hid,if_pos hyl]
    refine wpIn_wide.1 (wpIn_rangeFunc_ownG (n:=5) rfl (by omega) (gf:=126) (lb:= #[pZ sr,pZ (sr+1)]) rfl trivial (enters_of Tryz.func126 (by kernel_rfl) rfl)
     (k7 4 hyl sr (sr+1) W2 (HH.o W2 hC2.below) HOK.o (hkd y hyl) (by omega) hx2.1 hx2.2) (fun h k=>Kb.t h k) (Kb.b (by omega)) bR (fun _=>rfl)
     (Uo w gi B3 s6 B6 len h rs sr W2.heap.size i y q.length) (fun _ _ _=>False)
     (fun s X Y row hs hg hr=>by
       obtain ⟨c',q',v',h1,h2,h3,h4,h5,h6,h7⟩:=hs;exact ⟨c',q',v',h1.own (by omega) hg hr,h2.own hg (fun r e=>(hr r e).2),h3.own (fun r h'=>by have:=hrl r h';omega) hg hr,lT h4 hg.size,h5,h6,h7⟩) (fun _ _ _ _ _ hs _ _=>hs)
     ⟨c,q,_,hC2,hF2,hM2,lZ,fun e=>by have e':some gq=some (sr+1):=e;have:=oj e';omega,by simp,fun _=>⟨HK.o,Hy.o⟩⟩
     (fun x=> { tmps:= #[.slice a len cap,undef,.bool false,pZ B3,v4,undef,pZ B6,u7,u8,.int .i64 (i:Int),.int .i64 (x.1:Int),.slice a len cap,.int .i64 (len:Int),sZ gi len len,.slice a len cap,.int .i64 (len:Int),.int .i64 (len:Int),.bool false,v18,v19,v20,v21,undef,undef,undef,undef,undef,undef,undef,v29,.slice a len cap,.int .i64 (len:Int),sZ s6 0 len,sZ gi len len,.int .i64 (len:Int),.int .i64 (len:Int),.bool false,u37,u38,u39,u40,u41,u42,u43,u44,u45,u46,.int .i64 (i:Int),sZ gq q.length cp,.int .i64 (q.length:Int),.bool true,v51,v52,.slice a len cap,sZ gq q.length cp,.int .i64 (i:Int),.pointer (some ⟨gq,i,none⟩),.int .i64 (y:Int),.func (.func 126) #[] #[pZ sr,pZ (sr+1)],.int .i64 (x.1:Int),undef,undef,undef,undef,undef,undef,undef,undef,undef,undef,undef,undef,undef,undef,undef,undef,undef,undef,undef,undef],defers:= []}) ?assign ?body ?done ?stop)
    case assign=>
     intro l x W K hK
     gi_wp2
     exact hK
    case stop=>exact fun _ _ _ _ _ _ h _=>h.elim
    case done=>
     rintro D ys W hD hys ⟨c',q',v',h1,h2,h3,h4,h5,h6,h7⟩ hDK;obtain ⟨hK7,hy7⟩:=h7 (by rw[hys];exact List.prefix_refl _)
     obtain ⟨hi7,hy7'⟩:=List.getElem?_eq_some_iff.1 hy7;have HKn:Hid (KI len (vt (dy h len) len) (dy h len) c' q' (i+1) []):=KI.next HGr.o hi7 (by rw[hy7',Hlb.o,<-hys];exact hK7)
     have HCn:Hid (CI w gi B3 len W c'):=h1;have HFn:Hid (FR s6 B6 W v' q'):=h2;have HMn:Hid (mh gi (D::rs) W):=h3.cons (by omega) hDK (fun hm=>by have:=hrl D hm;omega)
     have hwr:IntKind.i64.wrap ((i:Int)+1)=(i:Int)+1:=by simp[IntKind.wrap,IntKind.bits,IntKind.signed];omega
     clear h1 h2 h3 hDK hK7 h7;go_wp2_with fail;refine ⟨⟨i+1,D::rs,q',c',v',_,_,_,_,_,_,_,_,_,_,_,_,hi7,HKn.o,HCn.o,HFn.o,HMn.o,by first|rfl| (simp;done)⟩,?_⟩
     simp[intOf];omega
    case body=>
     rintro l ci x W ⟨c',q',v',h1,h2,h3,h4,h5,h6,h7⟩ hpl;have hxl:=x.2;have hxI:((x.1:Nat):Int)<(len:Int):=by omega
     have b0:=h1.box.cell;have s0:=h1.row.cellAt x.1 (by omega)
     rw[nk _ _ _ hxl]at s0;have f0:=nl h1.row x.1;obtain ⟨d,hd⟩: ∃d,IntKind.i64.wrap (c' x.1-1)=d:=⟨_,rfl⟩
     have HV:Hid (bh (ci++ [x]) <+:leads h y->d=c' x.1-1/\q'[i]?=some y/\(c' x.1=1->KI len (vt (dy h len) len) (dy h len) (fun z=>if z=x.1 then c' z-1 else c' z) (q'++ [x.1]) i (bh (ci++ [x])))/\(c' x.1≠1->KI len (vt (dy h len) len) (dy h len) (fun z=>if z=x.1 then c' z-1 else c' z) q' i (bh (ci++ [x])))):=fun hp=>by
      rw[ia]at hp;obtain ⟨hK7,hy7⟩:=h7 ((List.prefix_append _ _).trans hp);obtain ⟨hi7,hy7'⟩:=List.getElem?_eq_some_iff.1 hy7;obtain ⟨tl,htl⟩:=hp;have hr:dy h len q'[i]=bh ci++x.1::tl:=by rw[hy7',Hlb.o,<-htl];simp
      obtain ⟨_,hc1,hs1,hs2⟩:=KI.step HGr.o hi7 hr hK7
      have hc2:c' x.1<=1600000:=by
       rw[hK7.cn x.1 hxl];have h1:Gs (vt (dy h len) len) q' i x.1<=(vt (dy h len) len x.1).length:=List.length_filter_le _ _;have h2:=HD4.o x.1;omega
      rw[ia];exact ⟨by rw[<-hd];simp[IntKind.wrap,IntKind.bits,IntKind.signed];omega,hy7,hs1,hs2⟩
     have HC1:Hid (CI w gi B3 len (W.setCell ⟨gi,x.1,none⟩ (.int .i64 d)) (fun z=>if z=x.1 then d else c' z)):=h1.set x.1 _
     have hb':=HC1.o.box.cell;have s1:=HC1.o.row.cellAt x.1 (by omega)
     rw[nk _ _ _ hxl,if_pos rfl]at s1;obtain ⟨og,hog1,hog2⟩:=h1.row_cells;have HF1:Hid (FR s6 B6 (W.setCell ⟨gi,x.1,none⟩ (.int .i64 d)) v' q'):=h2.set hsr.1 HBF.o;have HM1:Hid (mh gi rs (W.setCell ⟨gi,x.1,none⟩ (.int .i64 d))):=h3.set hog1 hog2;have HK1:Hid (KeepsOthers W (W.setCell ⟨gi,x.1,none⟩ (.int .i64 d))):=KeepsOthers.setCell _ _ _;have HKb:Hid (Kb (sr+1) W (W.setCell ⟨gi,x.1,none⟩ (.int .i64 d))):=⟨by simp,(af (W:=W) gi x.1 _).block _ (by omega) (fun e=>by have:=oj e;omega)⟩
     have hsz1:(W.setCell ⟨gi,x.1,none⟩ (.int .i64 d)).heap.size=W.heap.size:=by simp
     by_cases hz:d=0
     .have hzb:=beq_iff_eq.2 hz
      have HZ:=hid hz
      have HVz:Hid (bh (ci++ [x]) <+:leads h y->KI len (vt (dy h len) len) (dy h len) (fun z=>if z=x.1 then d else c' z) (q'++ [x.1]) i (bh (ci++ [x]))/\(q'++ [x.1])[i]?=some y):=fun hp=>by
       obtain ⟨e1,e2,e3,_⟩:=HV.o hp;have e4:=e3 (by have:=HZ.o;omega)
       refine ⟨?_,?_⟩
       .have:(fun z=>if z=x.1 then d else c' z)=fun z=>if z=x.1 then c' z-1 else c' z:=by
         funext z
         by_cases e:z=x.1
         .rw[if_pos e,if_pos e,e,e1]
         .rw[if_neg e,if_neg e]
        rw[this];exact e4
       .rw[List.getElem?_append_left (List.getElem?_eq_some_iff.1 e2).1];exact e2
      clear HV h1 h2 h3 h7 hz;have b6':=HF1.o.box.cell;have b6a:=(HF1.o.box.alloc (.cells #[.int .i64 ((x.1:Nat):Int)] 3));obtain ⟨v6,w6,hrun,ho6,hg6,_,hat6⟩:=run_append_own_at (P:=prog) ((W.setCell ⟨gi,x.1,none⟩ (.int .i64 d)).alloc (.cells #[.int .i64 ((x.1:Nat):Int)] 3)) s6 28 28 3 i0 (.int .i64 0) 1 8 Tryz.underlying28 hi hi0 hi1 hi2 rfl (by decide) v' q'.length _ (HF1.o.row.below bA) ⟨(W.setCell ⟨gi,x.1,none⟩ (.int .i64 d)).heap.size,0,none⟩ 1 1 [.int .i64 ((x.1:Nat):Int)] rfl (cell_one_new _ _ _) (by simp[Value.oneCell']) (by unfold maxLen;omega) (by omega) (by simp;omega)
      obtain ⟨g6,cap6,rfl⟩:=ownsRow_succ ho6;obtain ⟨hv1,hv2,hr2,hk2,hb2'⟩:=HF1.o.box.appended (by decide) HF1.o.row (by omega) HBF.o ho6 hg6
      have hc1:=hv1.cell;have hf1:=hv1.frozen;have HFn:Hid (FR s6 B6 (w6.setCell ⟨B6,0,none⟩ (sZ g6 (q'.length+1) cap6)) (sZ g6 (q'.length+1) cap6) (q'++ [x.1])):=⟨hv2,by unfold kh;rw[List.length_append,List.map_append];exact hr2⟩
      have HCn:=hid (HC1.o.blw hb2' hsr.1 hsr.2);have HMn:=hid (HM1.o.keeps hk2);have HKn:=hid (HK1.o.trans hk2);have hw6:(W.setCell ⟨gi,x.1,none⟩ (.int .i64 d)).heap.size+1<=w6.heap.size:=by have:=hg6.size;simp at this;omega
      have HKbn:Hid (Kb (sr+1) W (w6.setCell ⟨B6,0,none⟩ (sZ g6 (q'.length+1) cap6))):=HKb.o.t ⟨by simp;omega,by
       refine ((af (W:=w6) B6 0 _).block _ (by omega) (fun e=>by have:=oj e;omega)).trans ((hg6.block _ (by simp;omega) (fun e=>h5 e.symm)).trans (Below.heap_alloc _ _ _ (by omega)))⟩
      have HNn:Hid ((sZ g6 (q'.length+1) cap6).ownBlock≠some (sr+1)):=fun e=>by
       rcases hat6 with e'|e'
       .exact h5 (e'.symm.trans e)
       .rw[e']at e;have:=oj e;simp at this;omega
      clear ho6 hg6 hat6 hv2 hr2 hk2 hb2';have hsw:=hsz1;rw[hsw]at hrun
      gi_wp2_with (gi_at_builtin;refine T5 _ rfl _ _ 28 rfl rfl rfl hrun ?_)
      exact ⟨HKn.o.from _,HKbn.o,_,_,_,HCn.o,HFn.o,HMn.o,by simp;omega,HNn.o,by simp;omega,HVz.o⟩
     .have hzb:=bF hz
      have HVz:Hid (bh (ci++ [x]) <+:leads h y->KI len (vt (dy h len) len) (dy h len) (fun z=>if z=x.1 then d else c' z) q' i (bh (ci++ [x]))/\q'[i]?=some y):=fun hp=>by
       obtain ⟨e1,e2,_,e3⟩:=HV.o hp;have e4:=e3 (fun e=>hz (by rw[e1,e];rfl))
       refine ⟨?_,e2⟩
       have:(fun z=>if z=x.1 then d else c' z)=fun z=>if z=x.1 then c' z-1 else c' z:=by
        funext z
        by_cases e:z=x.1
        .rw[if_pos e,if_pos e,e,e1]
        .rw[if_neg e,if_neg e]
       rw[this];exact e4
      clear HV h1 h2 h3 h7 hz
      gi_wp2
      exact ⟨HK1.o.from _,HKb.o,_,_,_,HC1.o,HF1.o,HM1.o,by omega,h5,by simp;omega,HVz.o⟩
   have hjI:(j:Int)<(len:Int):=by omega
   have s0:=HCr.o.row.cellAt j (by omega)
   rw[nk _ _ _ hjl]at s0
   have hfl:((List.range j).filter fun x=>decide (c x=0)).length<=j:=by
    have:=List.length_filter_le (fun x=>decide (c x=0)) (List.range j)
    rwa [List.length_range]at this
   by_cases hc0:c j=0
   .have hcb:=beq_iff_eq.2 hc0
    have HFi:Hid (((List.range (j+1)).filter fun x=>decide (c x=0))=((List.range j).filter fun x=>decide (c x=0))++ [j]):=by
     rw[Hid,List.range_succ,List.filter_append];simp[hc0]
    have b6:=HF.o.box.cell;generalize ((List.range j).filter fun x=>decide (c x=0))=q at*
    obtain ⟨v6,w6,hrun,ho6,hg6,_,hat6⟩:=run_append_own_at (P:=prog) (wr.alloc (.cells #[.int .i64 (j:Int)] 3)) s6 28 28 3 i0 (.int .i64 0) 1 8 Tryz.underlying28 hi hi0 hi1 hi2 rfl (by decide) v q.length _ (HF.o.row.below bA) ⟨wr.heap.size,0,none⟩ 1 1 [.int .i64 (j:Int)] rfl (cell_one_new _ _ _) (by simp[Value.oneCell']) (by unfold maxLen;omega) (by omega) (by simp;omega)
    obtain ⟨g6,cap6,rfl⟩:=ownsRow_succ ho6;obtain ⟨hv1,hv2,hr2,hk2,hb2'⟩:=HF.o.box.appended (by decide) HF.o.row hsz (by omega) ho6 hg6
    have hc1:=hv1.cell;have hf1:=hv1.frozen;have HFn:Hid (FR s6 B6 (w6.setCell ⟨B6,0,none⟩ (sZ g6 (q.length+1) cap6)) (sZ g6 (q.length+1) cap6) ((List.range (j+1)).filter fun x=>decide (c x=0))):=⟨hv2,by rw[HFi.o];unfold kh;rw[List.length_append,List.map_append];exact hr2⟩
    have HBn:=hid (HB.o.trans hb2');clear hc0 ho6 hg6 hat6 hv2 hr2 hk2 hb2';go_wp2_with (at_builtin;refine Rz _ rfl _ _ 28 rfl rfl rfl hrun ?_);go_roundw
    case rel=>exact ⟨j+1,_,by omega,by go_num,HFn.o,HBn.o⟩
    case measure=>simp[intOf];omega
   .have hcb:=bF hc0
    have HFi:Hid (((List.range (j+1)).filter fun x=>decide (c x=0))=((List.range j).filter fun x=>decide (c x=0))):=by
     rw[Hid,List.range_succ,List.filter_append];simp[hc0]
    clear hc0;go_wp2_with fail;go_roundw
    case rel=>exact ⟨j+1,v,by omega,by go_num,by rw[HFi.o];exact HF.o,HB.o⟩
    case measure=>simp[intOf];omega
 have hltI:(k:Int)<(len:Int):=by omega
 go_wp2_with fail;refine (HLd.o k _).mono ?_;rintro e w2 ⟨rfl,rfl⟩;go_wp2_with fail;have hsr:=HCI.o.lt;have hsW:((wr.alloc (.cells #[.slice a len cap] 25)).alloc (.cells #[.int .i64 (k:Int)] 3)).heap.size=wr.heap.size+2:=by simp
 have hb2:Below wr.heap.size wr ((wr.alloc (.cells #[.slice a len cap] 25)).alloc (.cells #[.int .i64 (k:Int)] 3)):=bA.alloc (by simp) _
 have hx2:=oq wr (.cells #[.slice a len cap] 25) (.cells #[.int .i64 (k:Int)] 3);have hC2:CI w gi B3 len ((wr.alloc (.cells #[.slice a len cap] 25)).alloc (.cells #[.int .i64 (k:Int)] 3)) c:=HCI.o.kept (aq hb2 none) (by simp) (by simp) (fun k e=>by cases e)
 have hM2:=HM.o.below hb2;generalize (wr.alloc (.cells #[.slice a len cap] 25)).alloc (.cells #[.int .i64 (k:Int)] 3)=W2 at*;have hrl: ∀r∈rs,r<wr.heap.size:=fun r hr=>HM.o.lt hr
 generalize hsr':wr.heap.size=sr at*;have hll:(leads h k).length<=4:=by have:=HOK.o.four k;unfold dy at this;rw[if_pos hlt]at this;exact this
 have hcb: ∀y,0<=c y/\c y<=1600000:=fun y=>by have:=Fz (dy h len) HOK.o.four y k;rw[HC.o y];omega
 have HCB:=hid hcb
 refine wpIn_wide.1 (wpIn_rangeFunc_ownG (n:=5) rfl (by omega) (gf:=126) (lb:= #[pZ sr,pZ (sr+1)]) rfl trivial (enters_of Tryz.func126 (by kernel_rfl) rfl)
  (k7 4 hlt sr (sr+1) W2 (HH.o W2 hC2.below) HOK.o (hkd k hlt) (by omega) hx2.1 hx2.2) (fun h k=>Kb.t h k) (Kb.b (by omega)) bR (fun _=>rfl)
  (fun ci W=>CI w gi B3 len W (fun y=>c y+((bh ci).count y:Int))/\mh gi rs W/\W2.heap.size<=W.heap.size) (fun _ _ _=>False)
  (fun s X Y row hs hg hr=>⟨hs.1.own (by omega) hg hr,hs.2.1.own (fun r h'=>by have:=hrl r h';omega) hg hr,lT hs.2.2 hg.size⟩) (fun _ _ _ _ _ hs _ _=>hs)
  ⟨by simpa[Ks]using hC2,hM2,lZ⟩
  (fun x=> { tmps:= #[.slice a len cap,undef,.bool false,pZ B3,.int .i64 (k:Int),.int .i64 (x.1:Int),undef,undef,undef,undef,undef,.slice a len cap,.int .i64 (len:Int),sZ gi len len,.slice a len cap,.int .i64 (len:Int),.int .i64 (k:Int),.bool true,.int .i64 (k:Int),.slice a len cap,.int .i64 (k:Int),.func (.func 126) #[] #[pZ sr,pZ (sr+1)],.int .i64 (x.1:Int),undef,undef,undef,undef,undef,undef,v29,undef,undef,undef,undef,undef,undef,undef,undef,undef,undef,undef,undef,undef,undef,undef,undef,undef,undef,undef,undef,undef,undef,undef,undef,undef,undef,undef,undef,undef,undef,undef,undef,undef,undef,undef,undef,undef,undef,undef,undef,undef,undef,undef,undef,undef,undef,undef,undef,undef,undef],defers:= []}) ?assign ?body ?done ?stop)
 case assign=>
  intro l x W K hK
  gi_wp2
  exact hK
 case body=>
  rintro l ci x W ⟨hC,hM,hsz⟩ hpl;have hxl:=x.2;have hxI:((x.1:Nat):Int)<(len:Int):=by omega
  have hcx:=HCB.o x.1;have hcp:(bh ci).count x.1<=ci.length:=by have:= @List.count_le_length _ _ x.1 (bh ci);unfold bh at this |-;rwa [List.length_map]at this
  have b0:=hC.box.cell;have s0:=hC.row.cellAt x.1 (by omega)
  rw[nk _ _ _ hxl]at s0;have f0:=nl hC.row x.1;have hw1:IntKind.i64.wrap (c x.1+((bh ci).count x.1:Int)+1)=c x.1+((bh ci).count x.1:Int)+1:=by simp[IntKind.wrap,IntKind.bits,IntKind.signed];omega
  have HC':=hid hC;have HM':=hid hM;clear hC hM
  gi_wp2
  obtain ⟨o,ho1,ho2⟩:=HC'.o.row_cells;refine ⟨(KeepsOthers.setCell _ _ _).from _,⟨by simp,(af (W:=W) gi x.1 _).block _ (by omega) (fun e=>by have:=oj e;omega)⟩,?_,HM'.o.set ho1 ho2,by first| (simpa using hsz)| (simp;omega)⟩
  have h1:=HC'.o.set x.1 (c x.1+((bh ci).count x.1:Int)+1)
  have e:(fun y=>if y=x.1 then c x.1+((bh ci).count x.1:Int)+1 else c y+((bh ci).count y:Int))=fun y=>c y+((bh (ci++ [x])).count y:Int):=by
   funext y
   rw[ia,List.count_append,List.count_singleton]
   by_cases e:y=x.1
   .subst e;simp;omega
   .rw[if_neg e,if_neg (by simpa using fun h=>e h.symm)];simp
  rw[e]at h1;exact h1
 case stop=>exact fun _ _ _ _ _ _ h _=>h.elim
 case done=>
  rintro D ys W hD hys ⟨hC,hM,_⟩ hDK
  have HCe:Hid (∀y,(fun y=>c y+((bh ys).count y:Int)) y=((vt (dy h len) (k+1) y).length:Int)):=fun y=>by
   show c y+((bh ys).count y:Int)=_
   rw[uh,List.length_append,List.length_replicate,HC.o y,hys];unfold dy;rw[if_pos hlt];simp
  have HCn:=hid hC;have HMn:Hid (mh gi (D::rs) W):=hM.cons (by omega) hDK (fun hm=>by have:=hrl D hm;omega)
  clear hC hM hDK;go_wp2_with fail;refine ⟨⟨k+1,D::rs,_,_,_,_,_,_,_,_,by omega,HCe.o,HCn.o,HMn.o,by first|rfl| (simp;done)⟩,?_⟩
  simp[intOf];omega
end Go.Proofs.YtmggaclaoefdaabGreat
