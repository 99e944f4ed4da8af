/- Part of the proof. -/
import Derived.Test.YtmggaclaoefdaabGreatGAF
import Derived.RegionTactic
import Derived.ChangeAlike
import Derived.BigRegion
namespace Go.Proofs.YtmggaclaoefdaabGreat
open Go.RowKit Go.Proofs.Tryz
set_option linter.unusedVariables false
set_option linter.unusedSimpArgs false
set_option maxRecDepth 100000
set_option maxHeartbeats 8000000
structure GF (b m:Nat) (tv:Value) (w w':World):Prop where
 os:w'.os=w.os
 tape:w'.tape=w.tape
 output:w'.output=w.output
 size:w.heap.size<=w'.heap.size
 block: ∀k,k<w.heap.size->k≠b->k≠m->(∀g,tv.ownBlock=some g->g≠k)->w'.heap[k]?=w.heap[k]?
theorem GF.ofG {b m:Nat} {tv:Value} {w w':World} (h:G b w w'):GF b m tv w w':=⟨h.os,h.tape,h.output,h.size,fun k hk h1 _ _=>h.block k hk (by simpa using h1)⟩
theorem GF.ofBelow {b m:Nat} {tv:Value} {w w':World} (h:Below w.heap.size w w'):GF b m tv w w':=⟨h.os,h.tape,h.output,h.size,fun k hk _ _ _=>h.block k hk⟩
theorem GF.refl (b m:Nat) (tv:Value) (w:World):GF b m tv w w:=GF.ofBelow bR
def TN (tv tv':Value) (w:World):Prop:=∀g,tv'.ownBlock=some g->tv.ownBlock=some g\/w.heap.size<=g
theorem GF.trans {b m:Nat} {tv tv':Value} {w w1 w2:World} (h:GF b m tv w w1) (hn:TN tv tv' w) (k:GF b m tv' w1 w2):GF b m tv w w2:=
 ⟨k.os.trans h.os,k.tape.trans h.tape,k.output.trans h.output,lT h.size k.size,fun j hj h1 h2 h3=>(k.block j (lL hj h.size) h1 h2 (fun g hg e=>by
  rcases hn g hg with h4|h4
  .exact h3 g h4 e
  .omega)).trans (h.block j hj h1 h2 h3)⟩
theorem TN.refl (tv:Value) (w:World):TN tv tv w:=fun _ h=> .inl h
theorem TN.trans {tv tv' tv'':Value} {w w1:World} (h:TN tv tv' w) (k:TN tv' tv'' w1) (hs:w.heap.size<=w1.heap.size):TN tv tv'' w:=fun g hg=>by
 rcases k g hg with h1|h1
 .exact h g h1
 .exact .inr (by omega)
def wo (w:World) (lo:Nat) (tv:Value) (tr:List Int) (σ:Sg):Prop:=w.ownsRow lo 3 1 tv tr.length (tr.map (Value.int .i64))/\tr.Nodup/\(∀v,(σ v).isSome=true↔v∈tr)/\∀v∈tr,0<=v/\v<=1000000
def TX (lo:Nat) (tv:Value) (σ:Sg) (w:World) (tv':Value) (σ':Sg) (w':World):Prop:=TN tv tv' w/\∀tr,wo w lo tv tr σ->∃new,wo w' lo tv' (tr++new) σ'/\∀v∈tr,σ' v=σ v
theorem TX.trans {lo:Nat} {tv tv' tv'':Value} {σ σ' σ'':Sg} {w w1 w2:World} (h:TX lo tv σ w tv' σ' w1) (k:TX lo tv' σ' w1 tv'' σ'' w2) (hs:w.heap.size<=w1.heap.size):TX lo tv σ w tv'' σ'' w2:=by
 refine ⟨h.1.trans k.1 hs,fun tr ht=>?_⟩
 obtain ⟨n1,h1,h2⟩:=h.2 tr ht;obtain ⟨n2,h3,h4⟩:=k.2 _ h1;exact ⟨n1++n2,by rw[<-List.append_assoc];exact h3,fun v hv=>(h4 v (List.mem_append.2 (.inl hv))).trans (h2 v hv)⟩
theorem TX.of_row {lo:Nat} {tv:Value} {σ:Sg} {w w':World} (h: ∀n xs,w.ownsRow lo 3 1 tv n xs->w'.ownsRow lo 3 1 tv n xs):TX lo tv σ w tv σ w':=
 ⟨TN.refl _ _,fun tr ht=>⟨[],by rw[List.append_nil];exact ⟨h _ _ ht.1,ht.2⟩,fun _ _=>rfl⟩⟩
theorem TX.ofG {b lo:Nat} {tv:Value} {σ:Sg} {w w':World} (hg:G b w w') (hb: ∀g,tv.ownBlock=some g->g≠b):TX lo tv σ w tv σ w':=
 TX.of_row fun n xs h=>h.kept hg (by
  cases hv:tv.ownBlock with
  |none=>exact .inl rfl
  |some g=>exact .inr (by simpa using hb g hv))
theorem TX.ofBelow {lo:Nat} {tv:Value} {σ:Sg} {w w':World} (hg:Below w.heap.size w w'):TX lo tv σ w tv σ w':=
 TX.of_row fun n xs h=>h.kept (aq hg none) (by
  cases hv:tv.ownBlock with
  |none=>exact .inl rfl
  |some g=>exact .inr (by simp))
theorem uj {w:World} {lo s:Nat} {t:TypeId} {v:Value} {n n':Nat} {xs xs':List Value} (h:w.ownsRow lo t s v n xs) (h':w.ownsRow lo t s v n' xs'):n=n'/\xs=xs':=by
 rcases h.2 with ⟨rfl,rfl⟩| ⟨g,cap,cur,rfl,_,hg,_,_,_,htk⟩
 .rcases h'.2 with ⟨_,rfl⟩| ⟨g',cap',cur',e,_⟩
  .have h1:=h.1
   have h2:=h'.1;rw[Nat.zero_mul,List.length_eq_zero_iff]at h1 h2;exact ⟨rfl,by rw[h1,h2]⟩
  .simp at e
 .rcases h'.2 with ⟨e,_⟩| ⟨g',cap',cur',e,_,hg',_,_,_,htk'⟩
  .simp at e
  .simp only[Value.slice.injEq,Option.some.injEq,Addr.mk.injEq,and_true]at e
   obtain ⟨rfl,rfl,rfl⟩:=e;rw[hg]at hg';obtain rfl:cur=cur':=by simpa using hg'
   exact ⟨rfl,by rw[<-htk,<-htk']⟩
theorem B0: ∀{l l':List Int},l.map (Value.int .i64)=l'.map (Value.int .i64)->l=l':=by
 intro l
 induction l with
 |nil=>intro l' h;cases l' with
  |nil=>rfl
  |cons a r=>simp at h
 |cons a r ih=>
  intro l' h
  cases l' with
  |nil=>simp at h
  |cons a' r'=>
   rw[List.map_cons,List.map_cons,List.cons.injEq]at h;have h1:=h.1;rw[Value.int.injEq]at h1;rw[h1.2,ih h.2]
theorem j6 {tv:Value} {k:Nat} (hb: ∀g,tv.ownBlock=some g->g≠k):tv.ownBlock=none\/tv.ownBlock≠some k:=by
 cases hv:tv.ownBlock with
 |none=>exact .inl rfl
 |some g=>exact .inr (by simpa using hb g hv)
theorem Bb {w w':World} {lo n:Nat} {tv:Value} (h: ∃tr:List Int,w.ownsRow lo 3 1 tv tr.length (tr.map (Value.int .i64))/\tr.length<=n) (hk: ∀n xs,w.ownsRow lo 3 1 tv n xs->w'.ownsRow lo 3 1 tv n xs) (tr:List Int) (h':w'.ownsRow lo 3 1 tv tr.length (tr.map (Value.int .i64))):w.ownsRow lo 3 1 tv tr.length (tr.map (Value.int .i64)):=by
 obtain ⟨tr0,h1,_⟩:=h;obtain rfl:tr=tr0:=B0 (uj h' (hk _ _ h1)).2;exact h1
theorem TX.bound {lo:Nat} {tv tv':Value} {σ:Sg} {w w':World} {tr:List Int} {p:Int} {Q:Tm} (hn:TN tv tv' w) (ho:w.ownsRow lo 3 1 tv tr.length (tr.map (Value.int .i64))) (ho':w'.ownsRow lo 3 1 tv' (tr.length+1) (tr.map (Value.int .i64)++ [iV p])) (hp:σ p=none) (hpr:0<=p/\p<=1000000):TX lo tv σ w tv' (upd σ p Q) w':=by
 refine ⟨hn,fun tr2 ht=>?_⟩
 obtain rfl:tr2=tr:=B0 (uj ht.1 ho).2;have hnp:p ∉ tr2:=fun h=>by have:=(ht.2.2.1 p).2 h;rw[hp]at this;simp at this
 refine ⟨[p],⟨by rw[List.length_append,List.map_append];exact ho',?_,fun v=>?_,fun v hv=>?_⟩,fun v hv=>?_⟩
 .rw[List.nodup_append]
  exact ⟨ht.2.1,by simp,fun a ha c hc=>by rw[List.mem_singleton]at hc;subst hc;exact fun e=>hnp (e▸ha)⟩
 .rw[List.mem_append,List.mem_singleton,<-ht.2.2.1 v]
  unfold upd
  by_cases e:v=p
  .rw[if_pos e];simp[e]
  .rw[if_neg e];simp[e]
 .rcases List.mem_append.1 hv with h|h
  .exact ht.2.2.2 v h
  .rw[List.mem_singleton]at h;rw[h];exact hpr
 .unfold upd
  rw[if_neg (fun e:v=p=>hnp (e▸hv))]
theorem Tryz.info3:(prog.info? 3).map (fun i=>(i.zero,i.size,i.bytes))=some (some (iV 0),1,8):=by kernel_rfl
theorem A6 {P:Program} {ops:Array Oper} {o:Oper} {a:Act} {w:World} {K:Act->World->Prop} {Q:Exit->Act->World->Prop} {E:Prop}
 (hg:o.guard=none) (s x:Operand) (t:TypeId) (hop:o.op=Op.call { callee:=Callee.builtin Builtin.append,args:= #[s,x],argTypes:= #[t,t]})
 (v u v':Value) (w':World) (hs:a.eval s=v) (hx:a.eval x=u) (hr:(Builtin.append_ #[t,t] o.type #[v,u]).run P w=.ok v' w') (hK:K (a.put o.dst v') w'):
 if Region.wanted o (yielded ops a.tmps)=true then Oper.wp P o a w K Q else E:=by
 have hw:Region.wanted o (yielded ops a.tmps)=true:=by simp[Region.wanted,hg]
 rw[if_pos hw];unfold Oper.wp;simp[execOp,hop,resolve,invoke,builtin,hs,hx,hr,Result.andThen];exact hK
def put (σ:Sg) (x t:Tm):Sg:=if x.v<t.v then upd σ t.v x else upd σ x.v t
def Good (w:World) (b m:Nat) (tv:Value) (N:Int) (T:Tm):Prop:=ay w T/\d9 N T/\NB b T/\NB m T/\∀g,tv.ownBlock=some g->NB g T
theorem VS.trail_lt {w:World} {b m:Nat} {tv:Value} {N:Int} {lo n:Nat} {σ:Sg} {L:Int} (h:VS w b m tv N lo n σ L) (g:Nat) (hg:tv.ownBlock=some g):g<w.heap.size:=by
 obtain ⟨tr,h1,_⟩:=h.own;exact (h1.lt g hg).2
theorem ay.gf {w w':World} {b m:Nat} {tv:Value} {T:Tm} (h:ay w T) (hg:GF b m tv w w') (h1:NB b T) (h2:NB m T) (h3: ∀g,tv.ownBlock=some g->NB g T):ay w' T:=by
 induction T with
 |nil=>exact h
 |mk v nm a len cap f ih=>
  refine ⟨h.1,h.2.1,fun i hi=>⟨?_,ih i (h.2.2 i hi).2 (h1.2 i hi) (h2.2 i hi) (fun g hg=>(h3 g hg).2 i hi)⟩⟩
  obtain ⟨bb,o,rfl,c0,c1,c2⟩:=(h.2.2 i hi).1
  have hb:w'.heap[bb]?=w.heap[bb]?:=hg.block bb (ag c0) (by
   obtain ⟨b',o',e1,e2⟩:=h1.1 (by omega)
   cases e1;exact e2) (by
   obtain ⟨b',o',e1,e2⟩:=h2.1 (by omega)
   cases e1;exact e2) (fun g hg e=>by
   obtain ⟨b',o',e1,e2⟩:=(h3 g hg).1 (by omega)
   cases e1;exact e2 e.symm)
  exact ⟨bb,o,rfl,(cB hb).trans c0,(cB hb).trans c1,(cB hb).trans c2⟩
theorem Qh {w:World} {b:Nat} {x y z c:Value} {t:TypeId} (h:w.heap[b]?=some (.cells #[x,y,z] t)):(w.setCell ⟨b,1,none⟩ c).heap[b]?=some (.cells #[x,c,z] t):=by
 simp only[World.setCell,Array.getElem?_modify];simp[h]
theorem Ck {w w2 w3 w4 w5:World} {b m:Nat} {tv v':Value} {N:Int} {lo n:Nat} {σ:Sg} {L k:Int} {p:Int} {Q:Tm} {tr:List Int} (hS:VS w b m tv N lo n σ L) (hS2:VS w2 b m tv N lo n σ k) (hG2:GF b m tv w w2) (hM3:gt w3 m (n+1) (upd σ p Q)) (hG3:w2.drew.grownBy w3 (some m)) (hB:Below w3.heap.size w3 w4)
 (hG5:w4.grownBy w5 tv.ownBlock) (hown:w5.ownsRow lo 3 1 v' (tr.length+1) (tr.map (Value.int .i64)++ [iV p])) (htr:tr.length<=n) (hat:v'.ownBlock=tv.ownBlock\/v'.ownBlock=some w4.heap.size) (hQ:Good w b m tv N Q) (hdec:Q.v=0\/(0<Q.v/\Q.v<p)) (hp:σ p=none) (hpr:0<=p/\p<=1000000) (how:w.ownsRow lo 3 1 tv tr.length (tr.map (Value.int .i64))):
 VS (w5.setCell ⟨b,1,none⟩ v') b m v' N lo (n+1) (upd σ p Q) k/\GF b m tv w (w5.setCell ⟨b,1,none⟩ v')/\TX lo tv σ w v' (upd σ p Q) (w5.setCell ⟨b,1,none⟩ v'):=by
 have s2:=hG2.size;have s3:w2.heap.size<=w3.heap.size:=hG3.size;have s4:=hB.size;have s5:=hG5.size;have hb2:=hS2.lt;have hm3:=hM3.lt
 have htn:TN tv v' w:=fun g hg=>by
  rcases hat with e|e
  .exact .inl (e▸hg)
  .rw[e]at hg
   have:=oj hg;exact .inr (by omega)
 have hset:=G.set b w5 1 v'
 have hblk5: ∀j,j<w2.heap.size->j≠m->(∀g,tv.ownBlock=some g->g≠j)->w5.heap[j]?=w2.heap[j]?:=fun j hj h1 h2=>
  (hG5.block j (by omega) (fun e=>h2 j e.symm rfl)).trans ((hB.block j (by omega)).trans (hG3.block j hj (by simpa using h1)))
 have hgf:GF b m tv w (w5.setCell ⟨b,1,none⟩ v'):=
  ⟨hset.os.trans (hG5.os.trans (hB.os.trans (hG3.os.trans hG2.os))),hset.tape.trans (hG5.tape.trans (hB.tape.trans (hG3.tape.trans hG2.tape))),hset.output.trans (hG5.output.trans (hB.output.trans (hG3.output.trans hG2.output))),by have:=hset.size;omega,
   fun j hj h1 h2 h3=>(hset.block j (by omega) (by simpa using h1)).trans ((hblk5 j (by omega) h2 h3).trans (hG2.block j hj h1 h2 h3))⟩
 have hvb: ∀g,v'.ownBlock=some g->g≠b/\g≠m:=fun g hg=>by
  rcases hat with e|e
  .exact hS.tb g (e▸hg)
  .rw[e]at hg
   have:=oj hg;omega
 have hnb: ∀T:Tm,ay w T->(∀g,tv.ownBlock=some g->NB g T)->∀g,v'.ownBlock=some g->NB g T:=fun T h1 h2 g hg=>by
  rcases htn g hg with e|e
  .exact h2 g e
  .exact h1.nb e
 refine ⟨⟨?_,?_,⟨tr++ [p],?_,by simp;omega⟩,hS.ne,hvb,hS.lob,fun v T hv=>?_,fun v T hv=>?_,hS.big⟩,hgf,?_⟩
 .exact Qh ((hblk5 b hb2 hS.ne (fun g hg=>(hS.tb g hg).1)).trans hS2.blk)
 .exact ((hM3.kept (aq hB none) (by simp)).kept hG5 (fun e=>(hS.tb m e.symm).2 rfl)).kept hset (fun e=>hS.ne (oj e).symm)
 .have h1:=hown.kept hset (by
   cases hv:v'.ownBlock with
   |none=>exact .inl rfl
   |some g=>exact .inr (by simpa using (hvb g hv).1))
  rw[List.length_append,List.map_append];exact h1
 .unfold upd at hv
  split at hv
  .obtain rfl:=oj hv
   exact ⟨hQ.1.gf hgf hQ.2.2.1 hQ.2.2.2.1 hQ.2.2.2.2,hQ.2.1,hQ.2.2.1,hQ.2.2.2.1,hnb _ hQ.1 hQ.2.2.2.2⟩
  .obtain ⟨h1,h2,h3,h4,h5⟩:=hS.trm v T hv
   exact ⟨h1.gf hgf h3 h4 h5,h2,h3,h4,hnb _ h1 h5⟩
 .unfold upd at hv
  split at hv
  .rename_i e
   obtain rfl:=oj hv;rw[e];exact hdec
  .exact hS.dec v T hv
 .exact TX.bound htn how (hown.kept hset (by
   cases hv:v'.ownBlock with
   |none=>exact .inl rfl
   |some g=>exact .inr (by simpa using (hvb g hv).1))) hp hpr
theorem Cm {b m:Nat} {tv:Value} {N:Int} {lo n:Nat} {σ:Sg} {L:Nat} (X T:Tm) (w:World) (hS:VS w b m tv N lo n σ L) (hL:L<=4000) (hn:n<=1000000000) (hX:Good w b m tv N X) (hT:Good w b m tv N T) (hx:X.v≠0) (hne:X.v≠T.v) (hx1:σ X.v=none) (hx2:T.v≠0->σ T.v=none):
 Calls prog 166 #[.pointer (some ⟨b,0,none⟩),X.val,T.val] w fun e w'=>
  (e=.returned (.bool true)/\∃(tv':Value) (k:Nat),ba σ X.v L [T]=.free k/\k<L/\VS w' b m tv' N lo (n+1) (put σ X T) k/\GF b m tv w w'/\TX lo tv σ w tv' (put σ X T) w')\/
  (e=.returned (.bool false)/\∃L':Int,VS w' b m tv N lo n σ L'/\(GF b m tv w w'/\TX lo tv σ w tv σ w')/\((L'= -1/\ba σ X.v L [T]=.over)\/∃k:Nat,L'=k/\k<L/\ba σ X.v L [T]=.found k)):=by
 have HS:=hid hS;have HX1n:=hid hx1;have HX2n:=hid hx2;have HX:=hid hX;have HT:=hid hT;have hbl:=hS.lt;have hml:=hS.map.lt;clear hS hX hT hx1 hx2
 show Calls prog 166 #[pZ b,.agg #[iV X.v,.string X.nm,.slice X.a X.len X.cap],.agg #[iV T.v,.string T.nm,.slice T.a T.len T.cap]] w _
 go_enter Tryz.func166,Tryz.ntmps166
 go_wp2_with fail;have HBx:Hid (Below w.heap.size w ((w.alloc (.cells #[iV X.v,.string X.nm,.slice X.a X.len X.cap] 67)).alloc (.cells #[iV T.v,.string T.nm,.slice T.a T.len T.cap] 67))):=bA.alloc (by simp) _
 have HX0:Hid (((w.alloc (.cells #[iV X.v,.string X.nm,.slice X.a X.len X.cap] 67)).alloc (.cells #[iV T.v,.string T.nm,.slice T.a T.len T.cap] 67)).heap[w.heap.size]?=some (.cells #[iV X.v,.string X.nm,.slice X.a X.len X.cap] 67)):=by
  rw[Hid,jZ _ _ (by simp)];exact hZ w _
 have HT0:Hid (((w.alloc (.cells #[iV X.v,.string X.nm,.slice X.a X.len X.cap] 67)).alloc (.cells #[iV T.v,.string T.nm,.slice T.a T.len T.cap] 67)).heap[w.heap.size+1]?=some (.cells #[iV T.v,.string T.nm,.slice T.a T.len T.cap] 67)):=by
  have:=hZ (w.alloc (.cells #[iV X.v,.string X.nm,.slice X.a X.len X.cap] 67)) (.cells #[iV T.v,.string T.nm,.slice T.a T.len T.cap] 67)
  rwa [show (w.alloc (.cells #[iV X.v,.string X.nm,.slice X.a X.len X.cap] 67)).heap.size=w.heap.size+1 from by simp]at this
 generalize (w.alloc (.cells #[iV X.v,.string X.nm,.slice X.a X.len X.cap] 67)).alloc (.cells #[iV T.v,.string T.nm,.slice T.a T.len T.cap] 67)=wa at*;have hsa:w.heap.size+1<wa.heap.size:=(aZ HT0.o)
 have HC:Hid (Calls prog 173 #[pZ b,.agg #[iV T.v,.string T.nm,.slice T.a T.len T.cap],iV X.v] wa fun e w'=>∃(ok:Bool) (L':Int),e=.returned (.bool ok)/\VS w' b m tv N lo n σ L'/\G b wa w'/\LP σ X.v L T ok L'):=
  Il L b m tv N lo n σ T wa X.v (HS.o.below HBx.o) hL HT.o.2.1 (HT.o.1.below HBx.o) HT.o.2.2.1 HT.o.2.2.2.1 HT.o.2.2.2.2
 refine HC.o.mono ?_;rintro e w1 ⟨ok,L',rfl,hS1,hG1,hP1⟩;have HS1:=hid hS1;have HG1:=hid ((G.below HBx.o).trans hG1);have HX1:Hid (w1.heap[w.heap.size]?=some (.cells #[iV X.v,.string X.nm,.slice X.a X.len X.cap] 67)):=(hG1.block _ (by omega) (by simp;omega)).trans HX0.o
 have HT1:Hid (w1.heap[w.heap.size+1]?=some (.cells #[iV T.v,.string T.nm,.slice T.a T.len T.cap] 67)):=(hG1.block _ (by omega) (by simp;omega)).trans HT0.o
 clear hS1 hG1
 rcases hP1 with ⟨rfl,k,rfl,hk,hw⟩| ⟨rfl,rfl,hw⟩| ⟨rfl,k,rfl,hk,hw⟩
 case inr.inl=>
  have HF:=hid (hw []);clear hw;go_wp2_with fail;go_ret;exact .inr ⟨rfl,-1,HS1.o,⟨GF.ofG HG1.o,TX.ofG HG1.o (fun g hg=>(HS.o.tb g hg).1)⟩,.inl ⟨rfl,HF.o⟩⟩
 case inr.inr=>
  have HF:=hid (hw []);clear hw;go_wp2_with fail;go_ret;exact .inr ⟨rfl,k,HS1.o,⟨GF.ofG HG1.o,TX.ofG HG1.o (fun g hg=>(HS.o.tb g hg).1)⟩,.inr ⟨k,rfl,hk,HF.o⟩⟩
 have HF:Hid (ba σ X.v L [T]=.free k):=by rw[Hid,hw [],D3]
 clear hw;obtain ⟨x0,x1,x2,fx0,fx1,fx2⟩:=ae HX1.o;obtain ⟨t0,t1,t2,ft0,ft1,ft2⟩:=ae HT1.o
 by_cases hgt:X.v<T.v
 .have hd:=decide_eq_true hgt
  have HPut:Hid (put σ X T=upd σ T.v X):=by rw[Hid,put,if_pos hgt]
  have hdec:X.v=0\/(0<X.v/\X.v<T.v):=.inr ⟨by have:=HX.o.2.1.top.1;omega,hgt⟩
  have p0:=HT.o.2.1.top.1;have p1:=HT.o.2.1.top.2.1;have HQG:=hid HX.o;go_wp2_with fail;have hgA:w1.grownBy (((w1.setCell ⟨w.heap.size,0,none⟩ (iV T.v)).setCell ⟨w.heap.size,1,none⟩ (.string T.nm)).setCell ⟨w.heap.size,2,none⟩ (.slice T.a T.len T.cap)) (some w.heap.size):=G.trans (G.trans (af _ 0 _) (af _ 1 _)) (af _ 2 _);have hXA:=wl (a:=iV T.v) (b:=.string T.nm) (c:=.slice T.a T.len T.cap) HX1.o;have hTA:=(hgA.block (w.heap.size+1) (ag t0) (by simp)).trans HT1.o
  have hSA:=HS1.o.atK hgA (by omega) (by omega) (fun g hg=>by have:=HS.o.trail_lt g hg;omega) (fun v U hU=>(HS.o.trm v U hU).1.nb lZ)
  generalize ((w1.setCell ⟨w.heap.size,0,none⟩ (iV T.v)).setCell ⟨w.heap.size,1,none⟩ (.string T.nm)).setCell ⟨w.heap.size,2,none⟩ (.slice T.a T.len T.cap)=wA at*;have hgB:wA.grownBy (((wA.setCell ⟨w.heap.size+1,0,none⟩ (iV X.v)).setCell ⟨w.heap.size+1,1,none⟩ (.string X.nm)).setCell ⟨w.heap.size+1,2,none⟩ (.slice X.a X.len X.cap)) (some (w.heap.size+1)):=G.trans (G.trans (af _ 0 _) (af _ 1 _)) (af _ 2 _);have hTB:=wl (a:=iV X.v) (b:=.string X.nm) (c:=.slice X.a X.len X.cap) hTA;have hXB:=(hgB.block w.heap.size (ag (ae hXA).1) (by simp)).trans hXA
  have hSB:=hSA.atK hgB (by omega) (by omega) (fun g hg=>by have:=HS.o.trail_lt g hg;omega) (fun v U hU=>(HS.o.trm v U hU).1.nb (by omega))
  have HG2:Hid (GF b m tv w (((wA.setCell ⟨w.heap.size+1,0,none⟩ (iV X.v)).setCell ⟨w.heap.size+1,1,none⟩ (.string X.nm)).setCell ⟨w.heap.size+1,2,none⟩ (.slice X.a X.len X.cap))):=⟨(hgB.os.trans hgA.os).trans HG1.o.os,(hgB.tape.trans hgA.tape).trans HG1.o.tape,(hgB.output.trans hgA.output).trans HG1.o.output,lT HG1.o.size (lT hgA.size hgB.size),fun j hj h1 h2 h3=>((hgB.block j (by have:=hgA.size;have:=HG1.o.size;omega) (by simp;omega)).trans (hgA.block j (by have:=HG1.o.size;omega) (by simp;omega))).trans (HG1.o.block j hj (by simpa using h1))⟩
  have HRow:Hid (∀tr:List Int,((((wA.setCell ⟨w.heap.size+1,0,none⟩ (iV X.v)).setCell ⟨w.heap.size+1,1,none⟩ (.string X.nm)).setCell ⟨w.heap.size+1,2,none⟩ (.slice X.a X.len X.cap))).ownsRow lo 3 1 tv tr.length (tr.map (Value.int .i64))->w.ownsRow lo 3 1 tv tr.length (tr.map (Value.int .i64))):=Bb HS.o.own (fun _ _ h=>((h.kept HG1.o (j6 (fun g hg=>(HS.o.tb g hg).1))).kept hgA (j6 (fun g hg=>by have:=HS.o.trail_lt g hg;omega))).kept hgB (j6 (fun g hg=>by have:=HS.o.trail_lt g hg;omega)))
  generalize ((wA.setCell ⟨w.heap.size+1,0,none⟩ (iV X.v)).setCell ⟨w.heap.size+1,1,none⟩ (.string X.nm)).setCell ⟨w.heap.size+1,2,none⟩ (.slice X.a X.len X.cap)=w2 at*;have HX2:=hid hXB;have HT2:=hid hTB;have HS2:=hid hSB;clear hgA hXA hTA hSA hgB hXB hTB hSB x0 x1 x2 fx0 fx1 fx2 t0 t1 t2 ft0 ft1 ft2;obtain ⟨v0,v1,v2,kv0,kv1,kv2⟩:=ae HS2.o.blk;obtain ⟨x0,x1,x2,fx0,fx1,fx2⟩:=ae HX2.o;obtain ⟨t0,t1,t2,ft0,ft1,ft2⟩:=ae HT2.o;have HSd:Hid (VS w2.drew b m tv N lo n σ k):=HS2.o.below bR.drew;obtain ⟨w3,hrun,hM3,hg3⟩:=HSd.o.map.store (i:=T.v) p0 (Int.le_trans p1 HS.o.big) (by omega) X
  have HM3:=hid hM3;have HG3:=hid hg3;clear hM3 hg3;have z0:w3.cell? ⟨b,0,none⟩=some (.map (some m)):=HG3.o.cell v0 (by simpa using HS.o.ne)
  have z1:w3.cell? ⟨b,1,none⟩=some tv:=HG3.o.cell v1 (by simpa using HS.o.ne)
  have y0:w3.cell? ⟨w.heap.size,0,none⟩=some (iV T.v):=HG3.o.cell x0 (by simp;omega)
  have u0:w3.cell? ⟨w.heap.size+1,0,none⟩=some (iV X.v):=HG3.o.cell t0 (by simp;omega)
  have u1:w3.cell? ⟨w.heap.size+1,1,none⟩=some (.string X.nm):=HG3.o.cell t1 (by simp;omega)
  have u2:w3.cell? ⟨w.heap.size+1,2,none⟩=some (.slice X.a X.len X.cap):=HG3.o.cell t2 (by simp;omega)
  go_region_held3 (fun w'=>w'.cell? ⟨b,0,none⟩=some (.map (some m))/\w'.cell? ⟨w.heap.size,0,none⟩=some (iV T.v)/\w'.cell? ⟨w.heap.size+1,0,none⟩=some (iV X.v)/\w'.cell? ⟨w.heap.size+1,1,none⟩=some (.string X.nm)/\w'.cell? ⟨w.heap.size+1,2,none⟩=some (.slice X.a X.len X.cap)) (first|exact ⟨v0,x0,t0,t1,t2⟩|exact ⟨z0,y0,u0,u1,u2⟩|exact ⟨by simpa using v0,by simpa using x0,by simpa using t0,by simpa using t1,by simpa using t2⟩) (fail)
  all_goals
   obtain ⟨tr,hown,htr⟩:=HSd.o.own
   have hown3:w3.ownsRow lo 3 1 tv tr.length (tr.map (Value.int .i64)):=hown.kept HG3.o (by
    cases hv:tv.ownBlock with
    |none=>exact .inl rfl
    |some g=>exact .inr (by simpa using (HS.o.tb g hv).2))
   have gz1:w3.frozen? ⟨b,1,none⟩=false:=(World.frozen?_of_block (HG3.o.block b HS2.o.lt (by simpa using HS.o.ne))).trans kv1
   have hbB:=lL HS2.o.lt HG3.o.size;have hxB:=ag y0;have hloB:=lT HS.o.lob.1 (Nat.le_of_lt hbB);clear v0 v1 v2 kv0 kv1 kv2 x0 x1 x2 fx0 fx1 fx2 t0 t1 t2 ft0 ft1 ft2 u0 u1 u2 hrun;obtain ⟨i0,hi,hz0,hz1,hz2⟩:=info_parts Tryz.info3;have HBn:Hid (Below w3.heap.size w3 (w3.alloc (.cells #[iV T.v] 3)).drew):=bA.drew
   obtain ⟨v',w5,hr,hown5,hg5,_,hat⟩:=run_append_own_at (P:=prog) (w3.alloc (.cells #[iV T.v] 3)).drew lo 28 28 3 i0 (iV 0) 1 8 Tryz.underlying28 hi hz0 hz1 hz2 rfl (by decide) tv tr.length (tr.map (Value.int .i64)) (hown3.kept (aq HBn.o none) (by
    cases tv.ownBlock with
    |none=>exact .inl rfl
    |some g=>exact .inr (by simp))) ⟨w3.heap.size,0,none⟩ 1 1 [iV T.v] rfl (cell_one_new w3 _ _) (by intro u hu;simp at hu;subst hu;rfl) (by unfold maxLen;omega) (by omega) (by have:=HBn.o.size;omega)
   have HOwn5:=hid hown5;have HG5:=hid hg5;have HAt:Hid (v'.ownBlock=tv.ownBlock\/v'.ownBlock=some (w3.heap.size+1)):=by rw[Hid];simpa using hat
   have q1:w5.cell? ⟨b,1,none⟩=some tv:=hg5.cell ((HBn.o.cell (p:=⟨b,1,none⟩) hbB).trans z1) (fun e=>(HS.o.tb b e.symm).1 rfl)
   have gq1:w5.frozen? ⟨b,1,none⟩=false:=(World.frozen?_of_block (hg5.block b (lL hbB HBn.o.size) (fun e=>(HS.o.tb b e.symm).1 rfl))).trans ((HBn.o.frozen (p:=⟨b,1,none⟩) hbB).trans gz1)
   have hform: ∃g cap',v'=sZ g (tr.length+1) cap':=by
    rcases hown5.2 with ⟨_,h0⟩| ⟨g,cap',cur,h0,_⟩
    .omega
    .exact ⟨g,cap',h0⟩
   obtain ⟨g,cap',rfl⟩:=hform
   have HFin:Hid (VS (w5.setCell ⟨b,1,none⟩ (sZ g (tr.length+1) cap')) b m (sZ g (tr.length+1) cap') N lo (n+1) (upd σ T.v X) k/\GF b m tv w (w5.setCell ⟨b,1,none⟩ (sZ g (tr.length+1) cap'))/\TX lo tv σ w (sZ g (tr.length+1) cap') (upd σ T.v X) (w5.setCell ⟨b,1,none⟩ (sZ g (tr.length+1) cap'))):=
    Ck HS.o HS2.o HG2.o HM3.o HG3.o HBn.o hg5 hown5 htr hat HQG.o hdec (HX2n.o (by have:=HX.o.2.1.top.1;omega)) ⟨p0,Int.le_trans p1 HS.o.big⟩ (HRow.o tr hown)
   clear hown5 hg5 hat hown3 hown;go_wp2_with fail
   go_region_law (refine A6 rfl (.tmp 31) (.tmp 34) 28 rfl _ _ _ w5 (by simp[Act.eval]) (by simp[Act.eval]) hr ?_)
   all_goals
    go_wp2_with fail;go_ret;exact .inl ⟨rfl,_,k,HF.o,hk,by rw[HPut.o];exact HFin.o.1,HFin.o.2.1,by rw[HPut.o];exact HFin.o.2.2⟩
 .have hd:=decide_eq_false (by omega)
  have HPut:Hid (put σ X T=upd σ X.v T):=by rw[Hid,put,if_neg hgt]
  have hdec:T.v=0\/(0<T.v/\T.v<X.v):=by have:=HT.o.2.1.top.1;omega
  have p0:=HX.o.2.1.top.1;have p1:=HX.o.2.1.top.2.1;have HQG:=hid HT.o;clear x0 x1 x2 fx0 fx1 fx2;obtain ⟨x0,x1,x2,fx0,fx1,fx2⟩:=ae HX1.o;go_wp2_with fail;have HG2:Hid (GF b m tv w w1):=GF.ofG HG1.o;have HRow:Hid (∀tr:List Int,w1.ownsRow lo 3 1 tv tr.length (tr.map (Value.int .i64))->w.ownsRow lo 3 1 tv tr.length (tr.map (Value.int .i64))):=Bb HS.o.own (fun _ _ h=>h.kept HG1.o (j6 (fun g hg=>(HS.o.tb g hg).1)))
  have HX2:=hid HX1.o;have HT2:=hid HT1.o;have HS2:=hid HS1.o;clear x0 x1 x2 fx0 fx1 fx2 t0 t1 t2 ft0 ft1 ft2 HX1 HT1 HS1 HG1;generalize w1=w2 at*;obtain ⟨v0,v1,v2,kv0,kv1,kv2⟩:=ae HS2.o.blk;obtain ⟨x0,x1,x2,fx0,fx1,fx2⟩:=ae HX2.o;obtain ⟨t0,t1,t2,ft0,ft1,ft2⟩:=ae HT2.o;have HSd:Hid (VS w2.drew b m tv N lo n σ k):=HS2.o.below bR.drew;obtain ⟨w3,hrun,hM3,hg3⟩:=HSd.o.map.store (i:=X.v) p0 (Int.le_trans p1 HS.o.big) (by omega) T
  have HM3:=hid hM3;have HG3:=hid hg3;clear hM3 hg3;have z0:w3.cell? ⟨b,0,none⟩=some (.map (some m)):=HG3.o.cell v0 (by simpa using HS.o.ne)
  have z1:w3.cell? ⟨b,1,none⟩=some tv:=HG3.o.cell v1 (by simpa using HS.o.ne)
  have y0:w3.cell? ⟨w.heap.size,0,none⟩=some (iV X.v):=HG3.o.cell x0 (by simp;omega)
  have u0:w3.cell? ⟨w.heap.size+1,0,none⟩=some (iV T.v):=HG3.o.cell t0 (by simp;omega)
  have u1:w3.cell? ⟨w.heap.size+1,1,none⟩=some (.string T.nm):=HG3.o.cell t1 (by simp;omega)
  have u2:w3.cell? ⟨w.heap.size+1,2,none⟩=some (.slice T.a T.len T.cap):=HG3.o.cell t2 (by simp;omega)
  go_region_held3 (fun w'=>w'.cell? ⟨b,0,none⟩=some (.map (some m))/\w'.cell? ⟨w.heap.size,0,none⟩=some (iV X.v)/\w'.cell? ⟨w.heap.size+1,0,none⟩=some (iV T.v)/\w'.cell? ⟨w.heap.size+1,1,none⟩=some (.string T.nm)/\w'.cell? ⟨w.heap.size+1,2,none⟩=some (.slice T.a T.len T.cap)) (first|exact ⟨v0,x0,t0,t1,t2⟩|exact ⟨z0,y0,u0,u1,u2⟩|exact ⟨by simpa using v0,by simpa using x0,by simpa using t0,by simpa using t1,by simpa using t2⟩) (fail)
  all_goals
   obtain ⟨tr,hown,htr⟩:=HSd.o.own
   have hown3:w3.ownsRow lo 3 1 tv tr.length (tr.map (Value.int .i64)):=hown.kept HG3.o (by
    cases hv:tv.ownBlock with
    |none=>exact .inl rfl
    |some g=>exact .inr (by simpa using (HS.o.tb g hv).2))
   have gz1:w3.frozen? ⟨b,1,none⟩=false:=(World.frozen?_of_block (HG3.o.block b HS2.o.lt (by simpa using HS.o.ne))).trans kv1
   have hbB:=lL HS2.o.lt HG3.o.size;have hxB:=ag y0;have hloB:=lT HS.o.lob.1 (Nat.le_of_lt hbB);clear v0 v1 v2 kv0 kv1 kv2 x0 x1 x2 fx0 fx1 fx2 t0 t1 t2 ft0 ft1 ft2 u0 u1 u2 hrun;obtain ⟨i0,hi,hz0,hz1,hz2⟩:=info_parts Tryz.info3;have HBn:Hid (Below w3.heap.size w3 (w3.alloc (.cells #[iV X.v] 3)).drew):=bA.drew
   obtain ⟨v',w5,hr,hown5,hg5,_,hat⟩:=run_append_own_at (P:=prog) (w3.alloc (.cells #[iV X.v] 3)).drew lo 28 28 3 i0 (iV 0) 1 8 Tryz.underlying28 hi hz0 hz1 hz2 rfl (by decide) tv tr.length (tr.map (Value.int .i64)) (hown3.kept (aq HBn.o none) (by
    cases tv.ownBlock with
    |none=>exact .inl rfl
    |some g=>exact .inr (by simp))) ⟨w3.heap.size,0,none⟩ 1 1 [iV X.v] rfl (cell_one_new w3 _ _) (by intro u hu;simp at hu;subst hu;rfl) (by unfold maxLen;omega) (by omega) (by have:=HBn.o.size;omega)
   have HOwn5:=hid hown5;have HG5:=hid hg5;have HAt:Hid (v'.ownBlock=tv.ownBlock\/v'.ownBlock=some (w3.heap.size+1)):=by rw[Hid];simpa using hat
   have q1:w5.cell? ⟨b,1,none⟩=some tv:=hg5.cell ((HBn.o.cell (p:=⟨b,1,none⟩) hbB).trans z1) (fun e=>(HS.o.tb b e.symm).1 rfl)
   have gq1:w5.frozen? ⟨b,1,none⟩=false:=(World.frozen?_of_block (hg5.block b (lL hbB HBn.o.size) (fun e=>(HS.o.tb b e.symm).1 rfl))).trans ((HBn.o.frozen (p:=⟨b,1,none⟩) hbB).trans gz1)
   have hform: ∃g cap',v'=sZ g (tr.length+1) cap':=by
    rcases hown5.2 with ⟨_,h0⟩| ⟨g,cap',cur,h0,_⟩
    .omega
    .exact ⟨g,cap',h0⟩
   obtain ⟨g,cap',rfl⟩:=hform
   have HFin:Hid (VS (w5.setCell ⟨b,1,none⟩ (sZ g (tr.length+1) cap')) b m (sZ g (tr.length+1) cap') N lo (n+1) (upd σ X.v T) k/\GF b m tv w (w5.setCell ⟨b,1,none⟩ (sZ g (tr.length+1) cap'))/\TX lo tv σ w (sZ g (tr.length+1) cap') (upd σ X.v T) (w5.setCell ⟨b,1,none⟩ (sZ g (tr.length+1) cap'))):=
    Ck HS.o HS2.o HG2.o HM3.o HG3.o HBn.o hg5 hown5 htr hat HQG.o hdec HX1n.o ⟨p0,Int.le_trans p1 HS.o.big⟩ (HRow.o tr hown)
   clear hown5 hg5 hat hown3 hown;go_wp2_with fail
   go_region_law (refine A6 rfl (.tmp 31) (.tmp 34) 28 rfl _ _ _ w5 (by simp[Act.eval]) (by simp[Act.eval]) hr ?_)
   all_goals
    go_wp2_with fail;go_ret;exact .inl ⟨rfl,_,k,HF.o,hk,by rw[HPut.o];exact HFin.o.1,HFin.o.2.1,by rw[HPut.o];exact HFin.o.2.2⟩
structure Cl where
 k:Int
 n:Int
 nm:ByteArray
def wv (w:World) (a:Option Addr) (i:Nat) (c:Cl):Prop:=∃b o,a=some ⟨b,o,none⟩/\w.cell? ⟨b,o+i*3,none⟩=some (iV c.k)/\w.cell? ⟨b,o+i*3+1,none⟩=some (iV c.n)/\w.cell? ⟨b,o+i*3+2,none⟩=some (.string c.nm)
structure HIn (w:World) (a:Option Addr) (len:Nat) (h:Nat->Cl):Prop where
 row: ∀i,i<len->wv w a i (h i)
 big:len<=maxLen
 nm: ∀i,i<len->(h i).nm.size<=maxLen
theorem wv.below {w w':World} {a:Option Addr} {i:Nat} {c:Cl} (h:wv w a i c) (hb:Below w.heap.size w w'):wv w' a i c:=by
 obtain ⟨b,o,rfl,h0,h1,h2⟩:=h;have hl:=ag h0;have hx: ∀j,w'.cell? (dZ b j)=w.cell? (dZ b j):=fun j=>hb.cell (p:=(dZ b j)) hl
 exact ⟨b,o,rfl,(hx _).trans h0,(hx _).trans h1,(hx _).trans h2⟩
theorem HIn.below {w w':World} {a:Option Addr} {len:Nat} {h:Nat->Cl} (hh:HIn w a len h) (hb:Below w.heap.size w w'):HIn w' a len h:=
 ⟨fun i hi=>(hh.row i hi).below hb,hh.big,hh.nm⟩
theorem jl {W Wx w1:World} (h:Below W.heap.size W Wx) (h1:Below Wx.heap.size Wx w1):Below W.heap.size W w1:=h.trans (h1.mono h.size)
inductive jd (h:Nat->Cl) (len:Nat):Nat->Nat->Prop
 |root {i:Nat}:i<len->¬((h i).k=1/\(h i).n≠i)->jd h len i i
 |step {i j z:Nat}:i<len->(h i).k=1->(h i).n=(j:Int)->j≠i->jd h len j z->jd h len i z
theorem jd.lt {h:Nat->Cl} {len i z:Nat} (H:jd h len i z):i<len/\z<len:=by
 induction H with
 |root hi _=>exact ⟨hi,hi⟩
 |step hi _ _ _ _ ih=>exact ⟨hi,ih.2⟩
def leads (h:Nat->Cl) (i:Nat):List Nat:=if (h i).k=1 then (if (h i).n=i then []else [(h i).n.toNat])else (List.range (h i).n.toNat).map fun j=>i+1+j
def kh (lo:Nat) (w:World) (v:Value) (l:List Nat):Prop:=w.ownsRow lo 3 1 v l.length (l.map fun x:Nat=>iV (x:Int))
def vT (n:Int):Tm:=.mk n ⟨#[]⟩ none 0 0 (fun _=> .nil)
theorem A0 (w:World) (n:Int):ay w (vT n):=⟨oZ,oZ,fun i hi=>absurd hi (nL i)⟩
theorem Pz {N n:Int} (h0:0<=n) (h1:n<=N):d9 N (vT n):=⟨h0,h1,fun _=>⟨rfl,rfl⟩,oZ,fun i hi=>absurd hi (nL i)⟩
end Go.Proofs.YtmggaclaoefdaabGreat
