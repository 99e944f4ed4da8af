/- Part of the proof. -/
import Derived.Test.YtmggaclaoefdaabGreatGAV
namespace Go.Proofs.YtmggaclaoefdaabGreat
open Go.RowKit Go.Proofs.Tryz
set_option linter.unusedVariables false
set_option linter.unusedSimpArgs false
set_option maxRecDepth 100000
set_option maxHeartbeats 8000000
def kq (gl:List Gl):List Gl:=gl.map fun g=>(a9 g.1,g.2)
theorem E7 (a b:List Gl):kq (a++b)=kq a++kq b:=by unfold kq;rw[List.map_append]
theorem F4 {N last:Int} (h0:0<=last) (h1:last+12<=N) {T:Tm} (h:d9 12 T):d9 N (ap (fh last) T):=by
 induction T with
 |nil=>exact h.elim
 |mk v nm a len cap f ih=>
  obtain ⟨g0,g1,g2,g3,g4⟩:=h;rw[ap]
  split
  .refine ⟨by omega,by omega,fun h=>absurd rfl h,g3,fun i hi=>?_⟩
   show d9 N (if i<len then ap (fh last) (f i)else .nil)
   rw[if_pos hi];exact ih i (g4 i hi)
  .exact Pz (by omega) (by omega)
theorem vf {N:Int} {w:World} {X:Tm} (hX:ay w X) (h:d9 N (a9 X)):d9 N X:=by
 induction X with
 |nil=>exact hX.elim
 |mk v nm a len cap f ih=>
  obtain ⟨g0,g1,g2,g3,g4⟩:=h;refine ⟨g0,g1,g2,g3,fun i hi=>ih i (hX.2.2 i hi).2 ?_⟩
  have:=g4 i hi;simp only[if_pos hi]at this;exact this
theorem GL.ptr {w:World} {M:Nat->Prop} {N:Int} {p:Value} {gl:List Gl} (h:GL w M N p gl): ∃ad,p=.pointer ad:=by
 cases gl with
 |nil=>exact ⟨none,h⟩
 |cons g r=>
  obtain ⟨T,c⟩:=g;obtain ⟨k,q,h1,_⟩:=h;exact ⟨_,h1⟩
theorem Ad {w:World} {lo:Nat} {v:Value} {ch:List Cr} (h:w.ownsRow lo 194 3 v ch.length (fk ch)): ∃a cp,v=.slice a ch.length cp/\ch.length<=cp/\cp<=maxLen/\∀k (hk:k<ch.length),∃g,a=some ⟨g,0,none⟩/\w.cell? ⟨g,k*3,none⟩=some ch[k].p/\w.cell? ⟨g,k*3+1,none⟩=some (iV ch[k].k)/\w.cell? ⟨g,k*3+2,none⟩=some (iV ch[k].mark):=by
 rcases h.2 with ⟨rfl,h0⟩| ⟨g,cap,cur,rfl,hlo,hg,hnc,hcm,hsz,htk⟩
 .exact ⟨none,0,by rw[h0],by omega,by unfold maxLen;omega,fun k hk=>by omega⟩
 .refine ⟨some (dZ g 0),cap,rfl,hnc,hcm,fun k hk=>⟨g,rfl,?_⟩⟩
  have key: ∀(l:List Cr) (k:Nat) (hk:k<l.length),(fk l)[k*3]?=some l[k].p/\(fk l)[k*3+1]?=some (iV l[k].k)/\(fk l)[k*3+2]?=some (iV l[k].mark):=by
   intro l
   induction l with
   |nil=>intro k hk;simp at hk
   |cons c l ih=>
    intro k hk;rw[show fk (c::l)=kl c++fk l from rfl]
    cases k with
    |zero=>exact ⟨rfl,rfl,rfl⟩
    |succ k=>
     have:=ih k (by simpa using hk)
     have hl:(kl c).length=3:=rfl;refine ⟨?_,?_,?_⟩
     .rw[List.getElem?_append_right (by rw[hl];omega),hl,show (k+1)*3-3=k*3 from by omega];exact this.1
     .rw[List.getElem?_append_right (by rw[hl];omega),hl,show (k+1)*3+1-3=k*3+1 from by omega];exact this.2.1
     .rw[List.getElem?_append_right (by rw[hl];omega),hl,show (k+1)*3+2-3=k*3+2 from by omega];exact this.2.2
  obtain ⟨h1,h2,h3⟩:=key ch k hk;exact ⟨(h.cellAt (k*3) (by omega)).trans h1,(h.cellAt (k*3+1) (by omega)).trans h2,(h.cellAt (k*3+2) (by omega)).trans h3⟩
theorem t4 {w:World} {k:Nat} {x0 x1 x2 x3 x4:Value} {t:TypeId} (h:w.heap[k]?=some (.cells #[x0,x1,x2,x3,x4] t)):w.cell? ⟨k,0,none⟩=some x0/\w.cell? ⟨k,1,none⟩=some x1/\w.cell? ⟨k,2,none⟩=some x2/\w.cell? ⟨k,3,none⟩=some x3/\w.cell? ⟨k,4,none⟩=some x4:=by
 refine ⟨?_,?_,?_,?_,?_⟩ <;> simp[World.cell?,h]
theorem I1 {w0:World} {s m:Nat} {r:Sr} {tv:Value} {n:Nat} {σ:Sg} {L:Int} {tr:List Int} {gl:List Gl} {ch:List Cr} {an:List Tm} {o:Nat} {last:Int} {p:Value} {g:Gl} {rest:List Gl} (B:Tm) (w:World) (h:SS w0 w s m r tv n σ L tr gl ch an) (hp:GL w (Mu s r.b m tv r.cv r.av) 1000000 p (g::rest)) (hB:ay w B) (hB6:B.len<=6) (hO: ∀i,i<B.len->d9 12 (B.f i)) (hI:w.heap[o]?=some (.cells #[iV last] 3)) (hl:0<=last/\last+12<=1000000):
 Calls prog 152 #[.pointer (some ⟨s,0,none⟩),p,.slice B.a B.len B.cap,.func (.func 167) #[] #[.pointer (some ⟨o,0,none⟩)]] w fun e w'=>e=.returned (.tuple #[])/\∃(q:Value) (gl':List Gl),SS w0 w' s m { r with first:=q} tv n σ L tr gl' ch an/\kq gl'=((az B).map fun b=>(ap (fh last) b,ch.length))++kq rest/\w.heap.size<=w'.heap.size/\(∀k,w0.heap.size<=k->k<w.heap.size->k≠s->w'.heap[k]?=w.heap[k]?):=by
 have H:=hid h;have HP:=hid hp;obtain ⟨T,cut⟩:=g;obtain ⟨kp,qn,rfl,hpM,hpb,hpT,_,_,hpr⟩:=hp;have HRest:=hid hpr;have HO:=hid hO;have HB:=hid hB;have hlen:B.len<=2 ^ 63-1:=by omega
 have HRow:Hid (∀i,i<B.len->∀W,Below w.heap.size w W->fe W B.a i (B.f i)/\ay W (B.f i)):=fun i hi W hW=>⟨(hB.row hi).below hW,(hB.kid hi).below hW⟩
 have HI:Hid (∀W,Below w.heap.size w W->W.heap[o]?=some (.cells #[iV last] 3)):=fun W hW=>(hW.block o (aZ hI)).trans hI
 have HPb:Hid (∀W,Below w.heap.size w W->W.heap[kp]?=some (.cells #[iV T.v,.string T.nm,.slice T.a T.len T.cap,iV cut,qn] 134)):=fun W hW=>(hW.block kp (aZ hpb)).trans hpb
 obtain ⟨i0,hi,hz0,hz1,hz2⟩:=info_parts Tryz.info67;have hs:=h.blk.lt;clear h hpM hpb hpT hpr hO hB hI;generalize hua:B.a=ua at*
 go_enter Tryz.func152,Tryz.ntmps152
 go_wp2_with fail
 go_loopw [8,13] (fun v x wr=>∃(j:Nat) (ts:List Tm),j<=B.len/\x=iV j/\i6 w.heap.size wr v ts ts/\ts.length=j/\Below w.heap.size w wr/\∀i,i<j->a9 (ts.getD i .nil)=ap (fh last) (B.f i)) (fun _ x _=>B.len-(intOf x).toNat)
 case atStart=>exact ⟨0,[],oZ,rfl,⟨World.ownsRow_nil _ _ _ _,fun c hc=>absurd hc (by simp),rfl,fun i hi=>absurd hi (nL i)⟩,rfl,bR,fun i hi=>absurd hi (nL i)⟩
 case round=>
  obtain ⟨j,ts,hj,rfl,hL,hTL,hBr,hV⟩:=hrel;have HL:=hid hL;have HTL:=hid hTL;have HBr:=hid hBr;have HV:=hid hV;have hts:ts.length<=6:=by omega
  clear hL hTL hBr hV
  by_cases hlt:j<B.len
  case pos=>
   obtain ⟨hr,hTj⟩:=HRow.o j hlt wr HBr.o;have HTj:=hid hTj;obtain ⟨bb,oo,ha,c0,c1,c2⟩:=hr;clear hTj;subst ha;have HBe:Hid (Below wr.heap.size wr (wr.alloc (.cells #[iV (B.f j).v,.string (B.f j).nm,.slice (B.f j).a (B.f j).len (B.f j).cap] 67))):=bA;have HA:Hid ((wr.alloc (.cells #[iV (B.f j).v,.string (B.f j).nm,.slice (B.f j).a (B.f j).len (B.f j).cap] 67)).heap[wr.heap.size]?=some (.cells #[iV (B.f j).v,.string (B.f j).nm,.slice (B.f j).a (B.f j).len (B.f j).cap] 67)):=hZ wr _;go_wp2_with fail;generalize wr.alloc (.cells #[iV (B.f j).v,.string (B.f j).nm,.slice (B.f j).a (B.f j).len (B.f j).cap] 67)=wa at*;have HBa:=hid (HBr.o.trans (HBe.o.mono HBr.o.size));have HC:=hid (Cd wa (HI.o _ HBa.o) (by omega) (HTj.o.below HBe.o) (HO.o j hlt))
   obtain ⟨e0,e1,e2,_,_,_⟩:=ae HA.o;clear c0 c1 c2;go_wp2_with fail;refine HC.o.mono ?_;rintro e w2 ⟨X,rfl,hb2,hX2,hA2,hS2⟩;rw[show X.val=.agg #[iV X.v,.string X.nm,.slice X.a X.len X.cap]from rfl]
   have HB2:=hid (HBe.o.trans (hb2.mono HBe.o.size));have HBx:Hid (Below w2.heap.size w2 (w2.alloc (.cells #[iV X.v,.string X.nm,.slice X.a X.len X.cap] 67))):=bA;have HL3:=hid ((HL.o.keep HB2.o).keep HBx.o);have HX3:Hid (ay (w2.alloc (.cells #[iV X.v,.string X.nm,.slice X.a X.len X.cap] 67)) X/\bl w.heap.size X/\(∀g,u8.ownBlock=some g->NB g X)/\a9 X=ap (fh last) (B.f j)):=⟨hX2.below HBx.o,hA2.mono (lT HBr.o.size HBe.o.size),fun g hg=>hA2.nb (lL (HL.o.own.lt g hg).2 HBe.o.size),hS2⟩
   have HB3:Hid (Below w.heap.size w (w2.alloc (.cells #[iV X.v,.string X.nm,.slice X.a X.len X.cap] 67))):=(HBr.o.trans (HB2.o.mono HBr.o.size)).alloc (lT HBr.o.size HB2.o.size) _;have hsz3:=HB3.o.size;have HN3:=hid (Fi w2 X);clear hb2 hX2 hA2 hS2 e0 e1 e2;go_wp2_with (at_builtin;refine wpList_append_own_at _ rfl (.tmp 17) (.tmp 21) 24 rfl w.heap.size 67 i0 (.agg #[iV 0,.string ByteArray.empty,nZ]) 3 48 Tryz.underlying24 hi hz0 hz1 hz2 rfl (by decide) u8 ts.length (cy ts) rfl HL3.o.own (dZ w2.heap.size 0) 1 1 (cy [X]) rfl rfl HN3.o (mw _) (by unfold maxLen;omega) (by omega) hsz3 ?_;intro v' w6 hown' hgrow hnil hat)
   have HB6:Hid (Below w.heap.size w w6):=HB3.o.grown hgrow hsz3 (fun k hk=>(HL3.o.own.lt k hk).1)
   have HL6:=hid (HL3.o.more HX3.o.1 HX3.o.2.1 HX3.o.2.2.1 (Ff.refl X) hown' hgrow hat)
   have HV6:Hid (∀i,i<j+1->a9 ((ts++ [X]).getD i .nil)=ap (fh last) (B.f i)):=fun i hi=>by
    have hj':=HTL.o
    by_cases h2:i<j
    .have e:(ts++ [X]).getD i .nil=ts.getD i .nil:=by simp[List.getD,List.getElem?_append_left (show i<ts.length by omega)]
     rw[e];exact HV.o i h2
    .obtain rfl:i=j:=by omega
     have e:(ts++ [X]).getD i .nil=X:=by rw[<-hj'];simp[List.getD]
     rw[e];exact HX3.o.2.2.2
   have hlF:(ts++ [X]).length=j+1:=by rw[List.length_append,HTL.o];rfl
   clear hown' hgrow hnil hat;go_roundw
   case rel=>exact ⟨j+1,ts++ [X],by omega,by go_num,HL6.o,hlF,HB6.o,HV6.o⟩
   case measure=>simp[intOf];omega
  have hje:j=B.len:=by omega
  obtain ⟨Q,hvQ,hQ,hQA,hQS⟩:=HL.o.terms;have hQl:Q.len=B.len:=by rw[hQS.1,HTL.o,hje]
  have hQc: ∀i,i<Q.len->a9 (Q.f i)=ap (fh last) (B.f i):=fun i hi=>by rw[sq (hQS.2 i hi)];exact HV.o i (by omega)
  have HQ:Hid (ay wr Q/\bl w.heap.size Q/\Q.len=B.len/\∀i,i<Q.len->a9 (Q.f i)=ap (fh last) (B.f i)):=⟨hQ,hQA,hQl,hQc⟩;subst hvQ;have HSr:=hid (H.o.below HBr.o);have HMl:Hid (∀k,Mu s r.b m tv r.cv r.av k->k<w.heap.size):=fun k hk=>(H.o.mu hk).2
  have HRr:Hid (GL wr (Mu s r.b m tv r.cv r.av) 1000000 qn rest):=HRest.o.next (Bw.ofBelow HBr.o) (fun _ _ e=>e)
  obtain ⟨_,_,_,_,_,_,_,_,_,c9,cf⟩:=HSr.o.blk.get;have cf8:=cf 8;obtain ⟨ca,cp,hcv,hc1,hc2,_⟩:=Ad HSr.o.chr;obtain ⟨_,_,_,_,p4⟩:=t4 (HPb.o wr HBr.o);obtain ⟨qa,hqn⟩:=HRest.o.ptr;have HKp:Hid (∀W,Below wr.heap.size wr W->W.cell? (dZ s 9)=some (.slice ca ch.length cp)/\W.cell? (dZ kp 4)=some qn/\W.frozen? (dZ s 8)=false/\∃x,W.cell? (dZ s 8)=some x):=fun W hW=>⟨by rw[hW.cell (ag c9),c9,hcv],(hW.cell (ag p4)).trans p4,(hW.frozen (p:=(dZ s 8)) HSr.o.blk.lt).trans cf8,r.first,((HSr.o.below hW).blk.get).2.2.2.2.2.2.2.2.1⟩
  have HC:Hid (∀W,Below wr.heap.size wr W->Calls prog 50 #[.slice Q.a Q.len Q.cap,iV ch.length,qn] W fun e w'=>∃q,e=.returned (.pointer q)/\GL w' (Mu s r.b m tv r.cv r.av) 1000000 (.pointer q) (((az Q).map fun t=>(t,ch.length))++rest)/\Below wr.heap.size wr w'):=fun W hW=>
   (yz Q ch.length qn rest W (HQ.o.1.below hW) (HQ.o.2.1.nm (fun k hk=>HMl.o k hk)) (fun i hi=>vf (HQ.o.1.kid hi) (by rw[HQ.o.2.2.2 i hi];exact F4 (by omega) (by omega) (HO.o i (by rw[<-HQ.o.2.2.1];exact hi)))) (HRr.o.next (Bw.ofBelow hW) (fun _ _ e=>e)) (fun k hk=>lL (HMl.o k hk) (lT HBr.o.size hW.size)) ⟨qa,hqn⟩).mono fun e w' ⟨q,h1,⟨ad,h2⟩,h3,h4⟩=>⟨ad,by rw[h1,h2],by rw[<-h2];exact h3,hW.trans (h4.mono hW.size)⟩
  clear hQ hQA hQS hje hQl hQc c9 cf cf8 p4;obtain ⟨k9,k4,_,_⟩:=HKp.o wr bR;subst hqn;have HF8:Hid (∀W,Below wr.heap.size wr W->W.frozen? (dZ s 8)=false):=fun W hW=>(HKp.o W hW).2.2.1
  go_wp2_with fail
  go_region_with (first
   | (go_at_call 50
      refine (HC.o _ (by repeat (first|exact bR|refine Below.drew ?_))).mono ?_
      rintro e w5 ⟨q,rfl,h5,h6⟩;have H5:=hid h5;have HB5:=hid h6;have z8:=HF8.o w5 h6;obtain ⟨z9,z4,_,x8,y8⟩:=HKp.o w5 h6;clear h5 h6))
  all_goals
   go_wp2_with fail
   go_end0
   have hS5:=HSr.o.below HB5.o
   refine ⟨rfl,.pointer q,_,hS5.put 8 (.pointer q) (r':= { r with first:=.pointer q}) rfl rfl rfl rfl H5.o,?_,?_,?_⟩
   .rw[E7]
    congr 1
    unfold kq az;rw[List.map_map,List.map_map,List.map_map,HQ.o.2.2.1]
    apply List.map_congr_left
    intro i hi
    show (a9 (Q.f i),ch.length)=(ap (fh last) (B.f i),ch.length)
    rw[HQ.o.2.2.2 i (by rw[HQ.o.2.2.1];exact List.mem_range.1 hi)]
   .have:=HBr.o.size
    have:=HB5.o.size;simp[World.setCell];omega
   .intro k _ hk hne
    rw[Below.heap_setCell _ _ _ _ hne];exact (HB5.o.block k (lL hk HBr.o.size)).trans (HBr.o.block k hk)
def wi (c:Cr):Fg:=⟨kq c.gl,c.k,cs c.σ⟩
def br (A:Tm):List Tm:=(az A).map a9
def ar (r:Sr) (σ:Sg) (gl:List Gl) (ch:List Cr) (an:List Tm):PS:=⟨kq gl,ch.map wi,cs σ,r.last,an.map br,r.fin.toNat,r.st.toNat⟩
theorem ut (P:qh) (t:Tm) (i:Nat):cj P (a9 t) i=cj P t i:=by unfold cj;rw[ty,lw]
theorem Dx {P:Pg} {t:Tm} {i k:Nat} (h:cj (bm P) t i=some k):i<=k/\k<P.len:=by
 unfold cj at h;rw[List.find?_range_eq_some,iy]at h;have h1:=h.1;simp at h1;exact ⟨h1.1,List.mem_range.1 h.2.1⟩
theorem Dw (σ:Sg) (T:Tm) (c:Nat) (rest:List Gl):Av (cs σ) (kq ((T,c)::rest))=a9 (wha σ T):=by
 show wha (cs σ) (a9 T)=_
 exact qk σ T
theorem Ku {P:Pg} {gs:List Gl} {t:Tm} {f j:Nat} {X:PS} {L:Nat} (h:cj (bm P) t j=none):fd (bm P) gs (a9 t) (f+1) j X L=(X,false):=by
 rw[fd,ut,h]
theorem Kt {P:Pg} {gs:List Gl} {t A:Tm} {f j k:Nat} {X:PS} {L:Nat} {σ:Sg} (hX:X.σ=cs σ) (h:cj (bm P) t j=some k) (hA:a9 A=ap (fh X.last) (P.hd k)):fd (bm P) gs (a9 t) (f+1) j X L=match ao (L+1) σ L [(A,t)]with
 | .over=>({ X with last:=X.last+12,fin:=3},false)
 | .no L'=>fd (bm P) gs (a9 t) f (k+1) { X with last:=X.last+12} L'
 | .yes _ σ'=>({ X with last:=X.last+12,σ:=cs σ',gl:=((az (P.bd k)).map fun b=>(ap (fh X.last) b,X.ch.length))++gs.tail,ch:=match cj (bm P) t (k+1)with
    |none=>X.ch
    |some q=>X.ch++ [⟨gs,q,X.σ⟩]},true):=by
 have hk:=(Dx h).2;rw[fd,ut,h];simp only;rw[pw P hk,ut,hX]
 have e1: [(ap (fh X.last) (a9 (P.hd k)),a9 t)]= [(A,t)].map Dn:=by
  rw[mj,<-hA];rfl
 simp only;rw[e1,Bv]
 cases ao (L+1) σ L [(A,t)]with
 |over=>rfl
 |no L'=>rfl
 |yes k' σ'=>
  have e2:((az (P.bd k)).map a9).map (fun b=>(ap (fh X.last) b,X.ch.length))=(az (P.bd k)).map fun b=>(ap (fh X.last) b,X.ch.length):=by
   rw[List.map_map]
   apply List.map_congr_left
   intro b _
   show (ap (fh X.last) (a9 b),X.ch.length)=_
   rw[mj]
  show ({ X with last:=X.last+12,σ:=cs σ',gl:=((az (P.bd k)).map a9).map (fun b=>(ap (fh X.last) b,X.ch.length))++gs.tail,ch:=_},true)=_
  rw[e2]
  rfl
structure Pt (w0:World) (P:Pg):Prop where
 pin:kg w0 P
 cap:P.len<=P.cap
 few:P.len<=30
 hd: ∀i,i<P.len->d9 12 (P.hd i)
 bd: ∀i,i<P.len->(P.bd i).len<=6/\∀j,j<(P.bd i).len->d9 12 ((P.bd i).f j)
def Qj (w0 w:World) (s m:Nat) (r:Sr) (n:Nat) (σ:Sg) (L:Nat) (gl:List Gl) (ch:List Cr) (an:List Tm) (gs:List Gl) (i:Nat) (e:Ending) (w':World):Prop:=
 ∃(ok:Bool) (r':Sr) (tv':Value) (n':Nat) (σ':Sg) (L':Int) (tr':List Int) (gl':List Gl) (ch':List Cr),e=.returned (.bool ok)/\SS w0 w' s m r' tv' n' σ' L' tr' gl' ch' an/\
  fd (bm r.P) (kq gs) (Av (cs σ) (kq gs)) (r.P.len+1) i (ar r σ gl ch an) L=(ar r' σ' gl' ch' an,ok)/\
  (r'.P=r.P/\r'.limit=r.limit/\r'.asked=r.asked/\r'.st=r.st)/\0<=r'.fin/\n'<=n+130000/\r.last<=r'.last/\r'.last<=r.last+12*(r.P.len-i:Nat)/\ch'.length<=ch.length+1/\w.heap.size<=w'.heap.size
end Go.Proofs.YtmggaclaoefdaabGreat
