/- Part of the proof. -/
import Derived.Test.YtmggaclaoefdaabGreatGBI
namespace Go.Proofs.YtmggaclaoefdaabGreat
open Go.RowKit Go.Proofs.Tryz
set_option linter.unusedVariables false
set_option linter.unusedSimpArgs false
set_option maxRecDepth 100000
set_option maxHeartbeats 8000000
theorem ng {P:qh} {gs:List Gl} {t:Tm}: ∀{f i:Nat} {X Y:PS} {L:Nat},fd P gs t f i X L=(Y,false)->Y.ch=X.ch/\Y.gl=X.gl/\Y.σ=X.σ:=by
 intro f
 induction f with
 |zero=>intro i X Y L h;rw[fd]at h;cases h;exact ⟨rfl,rfl,rfl⟩
 |succ f ih=>
  intro i X Y L h;rw[fd]at h
  split at h
  .cases h;exact ⟨rfl,rfl,rfl⟩
  .split at h
   .cases h;exact ⟨rfl,rfl,rfl⟩
   .have h2:=ih h
    exact ⟨h2.1,h2.2.1,h2.2.2⟩
   .simp at h
theorem uv {P:qh} {f:Nat} {X:PS} (h:X.fin≠0):gx P (f+1) X=X:=by rw[gx,if_pos h]
theorem yx {P:qh} {f:Nat} {X:PS} (h:X.fin=0) (hc:X.ch= []):gx P (f+1) X= { X with fin:=1}:=by
 rw[gx,if_neg (by simpa using h),hc];rfl
theorem yw {P:qh} {f:Nat} {X:PS} {l:List Fg} {c:Fg} (h:X.fin=0) (hc:X.ch=l++ [c]):gx P (f+1) X=match fd P c.gl (Av c.σ c.gl) (P.length+1) c.k { X with ch:=l,σ:=c.σ} 4000 with
 | (Y,true)=>Y
 | (Y,false)=>gx P f Y:=by
 rw[gx,if_neg (by simpa using h)]
 simp only[hc,List.getLast?_append,List.getLast?_singleton,List.dropLast_concat]
 rfl
theorem Ft (g ln cp k:Nat) (h:k<=ln) (hc:ln<=cp) (W:World):(Instr.slice 95 (.slice (some ⟨g,0,none⟩) ln cp) none (some (iV k)) none).run prog W=.ok (.slice (some ⟨g,0,none⟩) k cp) W:=by
 obtain ⟨i0,hi,hz0,hz1,hz2⟩:=info_parts Tryz.info194;have h':(k:Int)<=(cp:Int):=by omega
 simp[Instr.slice,run_underlying Tryz.underlying95,Instr.sliceBounds,run_sliceBound,sizeOf,typeInfo,hi,h',Addr.add]
def Dq (w0 w:World) (s m:Nat) (r:Sr) (X:PS) (an:List Tm) (Lb Nb:Nat) (e:Ending) (w':World):Prop:=
 ∃(r':Sr) (tv':Value) (n':Nat) (σ' σx:Sg) (L':Int) (tr':List Int) (gl':List Gl) (ch':List Cr),e=.returned (.tuple #[])/\SS w0 w' s m r' tv' n' σ' L' tr' gl' ch' an/\
  bk (bm r.P) X=ar r' σx gl' ch' an/\(r'.fin=0->σx=σ')/\(r'.P=r.P/\r'.limit=r.limit/\r'.asked=r.asked/\r'.st=r.st)/\0<=r'.fin/\0<=r'.last/\r'.last+360*ch'.length<=Lb+360/\n'+130000*ch'.length<=Nb+130000/\w.heap.size<=w'.heap.size
theorem ni {w0:World} {s m:Nat} {r:Sr} {tv:Value} {n:Nat} {σ σx:Sg} {L:Int} {tr:List Int} {gl:List Gl} {ch:List Cr} {an:List Tm} (Lb Nb:Nat) (w:World) (hPr:Pt w0 r.P) (h:SS w0 w s m r tv n σ L tr gl ch an) (hW: ∀c∈ch,c.gl≠ []/\c.k<=r.P.len) (hl:0<=r.last/\r.last+360*ch.length<=Lb) (hLb:Lb<=990000) (hn:n+130000*ch.length<=Nb) (hNb:Nb<=900000000) (hf:0<=r.fin) (hc:ch.length<=5000):
 Calls prog 120 #[.pointer (some ⟨s,0,none⟩)] w (Dq w0 w s m r (ar r σx gl ch an) an Lb Nb):=by
 have H:=hid h;have HPr:=hid hPr;have HW:=hid hW;have hfew:=hPr.few;clear h hPr hW
 go_enter Tryz.func120,Tryz.ntmps120
 go_wp2_with fail
 go_loopg [] ch.length (fun fu wr=>∃(r1:Sr) (tv1:Value) (n1:Nat) (σ1 σy:Sg) (L1:Int) (tr1:List Int) (gl1:List Gl) (ch1:List Cr),SS w0 wr s m r1 tv1 n1 σ1 L1 tr1 gl1 ch1 an/\bk (bm r.P) (ar r σx gl ch an)=gx (bm r.P) (fu+1) (ar r1 σy gl1 ch1 an)/\ch1.length<=fu/\(∀c∈ch1,c.gl≠ []/\c.k<=r.P.len)/\(r1.P=r.P/\r1.limit=r.limit/\r1.asked=r.asked/\r1.st=r.st)/\0<=r1.fin/\0<=r1.last/\r1.last+360*ch1.length<=Lb/\n1+130000*ch1.length<=Nb/\w.heap.size<=wr.heap.size/\ch1.length<=5000)
 case atStart=>
  exact ⟨r,tv,n,σ,σx,L,tr,gl,ch,H.o,by unfold bk;rw[show (ar r σx gl ch an).ch.length=ch.length from by simp[ar]],lZ,HW.o,⟨rfl,rfl,rfl,rfl⟩,hf,hl.1,hl.2,hn,lZ,hc⟩
 case round=>
  obtain ⟨r1,tv1,n1,σ1,σy,L1,tr1,gl1,ch1,hS,hE,hle,hW1,hEq,hf1,hl0,hl1,hn1,hsz,hc1⟩:=hrel;have HS:=hid hS;have HE:=hid hE;have HW1:=hid hW1;have HEq:=hid hEq;obtain ⟨_,y1,_,_,_,_,_,y7,_,y9,yf⟩:=hS.blk.get;obtain ⟨ca,cp,hcv,hcp1,hcp2,hcell⟩:=Ad hS.chr;have yf1:=yf 1;have yf9:=yf 9;have hslt:=hS.blk.lt;clear hS hE hW1 hEq yf
  by_cases hfin:r1.fin=0
  case neg=>
   have hfb:=bF hfin
   have HF:Hid (bk (bm r.P) (ar r σx gl ch an)=ar r1 σy gl1 ch1 an):=by
    rw[Hid,HE.o];exact uv (by show r1.fin.toNat≠0;omega)
   have HN:Hid (r1.fin=0->σy=σ1):=fun h=>absurd h hfin
   clear hfin hcell;go_wp2_with fail
   go_end0
   exact ⟨r1,tv1,n1,σ1,σy,L1,tr1,gl1,ch1,rfl,HS.o,HF.o,HN.o,HEq.o,hf1,hl0,by omega,by omega,hsz⟩
  have hfb:=beq_iff_eq.2 hfin;have HFin:=hid hfin;rw[hcv]at y9
  by_cases hch:ch1= []
  case pos=>
   have HF:Hid (bk (bm r.P) (ar r σx gl ch an)=ar { r1 with fin:=1} σy gl1 ch1 an):=by
    rw[Hid,HE.o,yx (by show r1.fin.toNat=0;omega) (by rw[hch];rfl)];rfl
   have hz:ch1.length=0:=by rw[hch];rfl
   rw[hz]at y9;clear hfin hch hcell hcv;go_wp2_with fail
   go_end0
   exact ⟨{ r1 with fin:=1},tv1,n1,σ1,σy,L1,tr1,gl1,ch1,rfl,HS.o.put 1 _ rfl rfl rfl rfl HS.o.gls,HF.o,fun h=>absurd (show (1:Int)=0 from h) (by omega),HEq.o,by show (0:Int)<=1;omega,hl0,by show r1.last+_<=_;omega,by omega,by simpa[World.setCell]using hsz⟩
  obtain ⟨l,c,hlc⟩: ∃l c,ch1=l++ [c]:=by
   rcases List.eq_nil_or_concat ch1 with h| ⟨l,c,h⟩
   .exact absurd h hch
   .exact ⟨l,c,by rw[h,List.concat_eq_append]⟩
  subst hlc;have hln:(l++ [c]).length=l.length+1:=by simp
  have HcW:=HW1.o c (by simp)
  obtain ⟨⟨T0,c0⟩,rest,hgl⟩: ∃g rest,c.gl=g::rest:=by
   cases hg:c.gl with
   |nil=>exact absurd hg HcW.1
   |cons g rest=>exact ⟨g,rest,rfl⟩
  obtain ⟨g,rfl,d0,d1,d2⟩:=hcell l.length (by omega)
  rw[show (l++ [c])[l.length]'(by omega)=c from by simp]at d0 d1 d2
  have HCk:=hid HcW.2;have HCs:Hid (c.mark<=tr1.length/\c.σ=pc σ1 (tr1.take c.mark)):=HS.o.chs c (by simp)
  have HCm:Hid (∀d∈l,d.mark<=c.mark):=fun d hd=>(List.pairwise_append.1 HS.o.chm).2.2 d hd c (by simp)
  have HCg:Hid (GL wr (Mu s r1.b m tv1 r1.cv r1.av) 1000000 c.p ((T0,c0)::rest)):=by rw[Hid,<-hgl];exact HS.o.chg c (by simp)
  obtain ⟨pa,hpa⟩:=HCg.o.ptr;rw[hpa]at d0;replace HCg:=hid (hpa▸HCg.o)
  have HEb:Hid (bk (bm r.P) (ar r σx gl ch an)=match fd (bm r.P) (kq ((T0,c0)::rest)) (Av (cs c.σ) (kq ((T0,c0)::rest))) (r.P.len+1) c.k (ar { r1 with cv:=sZ g l.length cp} c.σ gl1 l an) 4000 with
   | (Y,true)=>Y
   | (Y,false)=>gx (bm r.P) gk Y):=by
   rw[Hid,HE.o,yw (l:=l.map wi) (c:=wi c) (by show r1.fin.toNat=0;omega) (by simp[ar])]
   rw[iy,show (wi c).gl=kq ((T0,c0)::rest)from by rw[<-hgl];rfl]
   rfl
  have HS0:=hid HS.o;have HW1l:Hid (∀d∈l,d.gl≠ []/\d.k<=r.P.len):=fun d hd=>HW1.o d (by simp[hd])
  rw[hln]at hle hl1 hn1 hc1 hcp1 y9;have hcvl:=hcv;have HCv:=hid hcvl;clear hcvl hcv hcell HcW hgl hch hfin HS HE HW1;have hto:=Ft g (l.length+1) cp l.length (by omega) hcp1
  have hkk:((l.length+1:Nat):Int)-1=(l.length:Int):=by omega
  have hd:decide ((l.length:Int)<0)=false:=decide_eq_false (by omega)
  have hKI:(l.length:Int)<((l.length+1:Nat):Int):=by omega
  have HBn:Hid (Below wr.heap.size wr (wr.alloc (.cells #[.pointer pa,iV c.k,iV c.mark] 194))):=bA;have HN0:Hid ((wr.alloc (.cells #[.pointer pa,iV c.k,iV c.mark] 194)).heap[wr.heap.size]?=some (.cells #[.pointer pa,iV c.k,iV c.mark] 194)):=hZ wr _;have z9:=(HBn.o.cell (ag y9)).trans y9;have zf9:(wr.alloc (.cells #[.pointer pa,iV c.k,iV c.mark] 194)).frozen? (dZ s 9)=false:=(HBn.o.frozen (p:=(dZ s 9)) hslt).trans yf9;clear hpa;go_wp2_with fail;have hz9:(wr.setCell (dZ s 9) (sZ g l.length cp)).heap.size=wr.heap.size:=by simp[World.setCell]
  have hbe:Below wr.heap.size (wr.setCell (dZ s 9) (sZ g l.length cp)) ((wr.setCell (dZ s 9) (sZ g l.length cp)).alloc (.cells #[.pointer pa,iV c.k,iV c.mark] 194)):=bR.alloc (by omega) _
  have HSd:Hid (SS w0 ((wr.setCell (dZ s 9) (sZ g l.length cp)).alloc (.cells #[.pointer pa,iV c.k,iV c.mark] 194)) s m { r1 with cv:=sZ g l.length cp} tv1 n1 σ1 L1 tr1 gl1 l an):=by
   have:=HS0.o.cut (k:=l.length) (by simp) HCv.o
   rw[List.take_left]at this;exact this.below bA
  have hob: ∀q,Mu s r1.b m tv1 (sZ g l.length cp) r1.av q->Mu s r1.b m tv1 r1.cv r1.av q:=fun q e=>by
   rw[HCv.o];exact e
  have hbw1:Bw (Mu s r1.b m tv1 r1.cv r1.av) wr.heap.size wr ((wr.setCell (dZ s 9) (sZ g l.length cp)).alloc (.cells #[.pointer pa,iV c.k,iV c.mark] 194)):=((Bw.refl _ _ wr).grown (af s 9 _) lZ (fun k hk=> rZ (.inl (oj hk).symm))).trans (Bw.ofBelow hbe)
  have HGd:Hid (GL ((wr.setCell (dZ s 9) (sZ g l.length cp)).alloc (.cells #[.pointer pa,iV c.k,iV c.mark] 194)) (Mu s r1.b m tv1 (sZ g l.length cp) r1.av) 1000000 (.pointer pa) ((T0,c0)::rest)):=HCg.o.next hbw1 (fun q _ e=>hob q e)
  have HNd:Hid (((wr.setCell (dZ s 9) (sZ g l.length cp)).alloc (.cells #[.pointer pa,iV c.k,iV c.mark] 194)).heap[wr.heap.size]?=some (.cells #[.pointer pa,iV c.k,iV c.mark] 194)):=by
   have:=hZ (wr.setCell (dZ s 9) (sZ g l.length cp)) (.cells #[.pointer pa,iV c.k,iV c.mark] 194)
   rwa [hz9]at this
  clear hz9 hbe;generalize ((wr.setCell (dZ s 9) (sZ g l.length cp)).alloc (.cells #[.pointer pa,iV c.k,iV c.mark] 194))=wd at*;have hszd:wr.heap.size<wd.heap.size:=(aZ HNd.o);have HMd:Hid (¬Mu s r1.b m tv1 (sZ g l.length cp) r1.av wr.heap.size):=fun e=>by have:=(HS0.o.mu (hob _ e)).2;omega
  obtain ⟨_,_,_,_,_,_,_,x7,_,_,_⟩:=HSd.o.blk.get;have x7:wd.cell? (dZ s 7)=some (pZ r1.b):=x7;obtain ⟨e0,e1,e2,_,_,_⟩:=ae HNd.o;have HKp:Hid (∀W,Below wd.heap.size wd W->W.cell? (dZ s 7)=some (pZ r1.b)/\W.cell? (dZ wr.heap.size 2)=some (iV c.mark)):=fun W hW=>⟨(hW.cell (ag x7)).trans x7,(hW.cell (ag e2)).trans e2⟩
  have HBk:Hid (∀W,Below wd.heap.size wd W->Calls prog 145 #[pZ r1.b,iV c.mark] W fun e w'=>e=.returned (.tuple #[])/\(w'.cell? (dZ s 7)=some (pZ r1.b)/\w'.cell? (dZ wr.heap.size 2)=some (iV c.mark))/\w'.heap[wr.heap.size]?=some (.cells #[.pointer pa,iV c.k,iV c.mark] 194)/\∃(tv5:Value) (tr5:List Int),SS w0 w' s m { r1 with cv:=sZ g l.length cp} tv5 n1 c.σ L1 tr5 gl1 l an/\GL w' (Mu s r1.b m tv5 (sZ g l.length cp) r1.av) 1000000 (.pointer pa) ((T0,c0)::rest)/\¬Mu s r1.b m tv5 (sZ g l.length cp) r1.av wr.heap.size/\wr.heap.size<=w'.heap.size):=fun W hW=>by
   have hSW:=HSd.o.below hW;refine (Cp c.mark W hSW.vs hSW.trk HCs.o.1).mono ?_;rintro e w' ⟨h1,tv5,h2,h3,h4,h5⟩;have hu:=hSW.undo HCs.o.1 HCm.o h2 h3 h4 h5;rw[<-HCs.o.2]at hu
   have hmu: ∀q,Mu s r1.b m tv5 (sZ g l.length cp) r1.av q->Mu s r1.b m tv1 (sZ g l.length cp) r1.av q:=fun q e=>by
    rcases e with (e|e|e)|e
    .exact .inl (.inl e)
    .exact .inl (.inr (.inl e))
    .exact .inl (rZ (h2▸e))
    .exact .inr e
   have hbw:Bw (Mu s r1.b m tv1 (sZ g l.length cp) r1.av) W.heap.size W w':=SS.ofGF (r:= { r1 with cv:=sZ g l.length cp}) h5
   have hbx:=(hbw.block _ (lL hszd hW.size) HMd.o).trans ((hW.block _ hszd).trans HNd.o);exact ⟨h1,⟨hu.blk.get.2.2.2.2.2.2.2.1,(ae hbx).2.2.1⟩,hbx,tv5,_,hu,(HGd.o.next (Bw.ofBelow hW) (fun _ _ e=>e)).next hbw (fun q _ e=>hmu q e),fun e=>HMd.o (hmu _ e),lT (Nat.le_of_lt hszd) (lT hW.size hbw.size)⟩
  clear y1 y7 y9 d0 d1 d2 z9 zf9 yf1 yf9 hbw1 x7 e0 e1 e2;go_wp2_with fail
  go_region_held3 (fun w'=>w'.cell? (dZ s 7)=some (pZ r1.b)/\w'.cell? (dZ wr.heap.size 2)=some (iV c.mark)) (first|exact HK5.o| (refine HKp.o _ ?_;repeat (first|exact bR|refine Below.drew ?_))) (first
   | (go_at_call 145
      refine (HBk.o _ (by repeat (first|exact bR|refine Below.drew ?_))).mono ?_
      rintro e w5 ⟨rfl,hk5,hb5,tv5,tr5,hs5,hg5,hm5,hz5⟩;have HK5:=hid hk5;have HN5:=hid hb5;have HS5:=hid hs5;have HG5:=hid hg5;have HM5:=hid hm5;have HZ5:=hid hz5;clear hk5 hb5 hs5 hg5 hm5 hz5))
  all_goals
   have x7:=HK5.o.1;have HRn:=hid (xw w5 HS5.o.vs);clear HK5;go_wp2_with fail;refine HRn.o.mono ?_;rintro e w6 ⟨rfl,hv6,hg6⟩;obtain ⟨tr6,hs6,_,_,_⟩:=HS5.o.vars hv6 (GF.ofG hg6) (TX.ofG hg6 (fun q hq=>(HS5.o.vs.tb q hq).1)) HS5.o.sg
   obtain ⟨L4,hL4⟩: ∃L4:Nat,L4=4000:=⟨_,rfl⟩;have HL4:=hid hL4;have hL5:L4<=4000:=by omega
   have HS6:Hid (SS w0 w6 s m { r1 with cv:=sZ g l.length cp} tv5 n1 c.σ (L4:Nat) tr6 gl1 l an):=by rw[Hid,hL4];exact hs6
   clear hL4
   have HG6:Hid (GL w6 (Mu s r1.b m tv5 (sZ g l.length cp) r1.av) 1000000 (.pointer pa) ((T0,c0)::rest)):=HG5.o.next (SS.ofGF (s:=s) (r:= { r1 with cv:=sZ g l.length cp}) (m:=m) (tv:=tv5) (GF.ofG hg6)) (fun _ _ e=>e)
   have HN6:Hid (w6.heap[wr.heap.size]?=some (.cells #[.pointer pa,iV c.k,iV c.mark] 194)):=(hg6.block _ (aZ HN5.o) (fun e=>HM5.o (.inl (.inl (oj e))))).trans HN5.o
   have hz6:=lT hsz (lT HZ5.o hg6.size);have hn6:n1+130000<=1000000000:=lT (lT (Nat.add_le_add_left (Nat.le_mul_of_pos_right 130000 (Nat.succ_pos l.length)) n1) hn1) (lT hNb (by decide))
   have hl6:0<=r1.last/\r1.last+12*((r.P.len-c.k:Nat):Int)<=999000:=by omega
   have hc6:l.length<=100000:=by omega
   have HTr:Hid (Calls prog 125 #[pZ s,.pointer pa,iV c.k] w6 (Qj w0 w6 s m { r1 with cv:=sZ g l.length cp} n1 c.σ L4 gl1 l an ((T0,c0)::rest) c.k)):=
    Fq (L:=L4) c.k w6 (by show Pt w0 r1.P;rw[HEq.o.1];exact HPr.o) HS6.o HG6.o (by show c.k<=r1.P.len;rw[HEq.o.1];exact HCk.o) hL5 hn6 (by show 0<=r1.last/\r1.last+12*((r1.P.len-c.k:Nat):Int)<=999000;rw[HEq.o.1];exact hl6) HFin.o hc6
   obtain ⟨e0,e1,_,_,_,_⟩:=ae HN6.o;clear hs6 hv6 hg6 x7 HRn;go_wp2_with fail;refine HTr.o.mono ?_;rintro e w7 ⟨ok,r7,tv7,n7,σ7,L7,tr7,gl7,ch7,rfl,hs7,ht7,he7,hf7,hn7,hl7,hl8,hc7,hz7⟩;have he7:=he7;have hl7:=hl7;have hl8:=hl8;rw[HEq.o.1]at hl8
   have ht7':fd (bm r.P) (kq ((T0,c0)::rest)) (Av (cs c.σ) (kq ((T0,c0)::rest))) (r.P.len+1) c.k (ar { r1 with cv:=sZ g l.length cp} c.σ gl1 l an) 4000=(ar r7 σ7 gl7 ch7 an,ok):=by
    have:=ht7;rw[HL4.o]at this;simp only[HEq.o.1]at this;exact this
   have HS7:=hid hs7;have HE7:Hid (r7.P=r.P/\r7.limit=r.limit/\r7.asked=r.asked/\r7.st=r.st):=⟨he7.1.trans HEq.o.1,he7.2.1.trans HEq.o.2.1,he7.2.2.1.trans HEq.o.2.2.1,he7.2.2.2.trans HEq.o.2.2.2⟩;have hzf:=lT hz6 hz7;have hBb:=HEb.o;rw[ht7']at hBb;clear hs7 ht7 he7 e0 e1
   cases ok with
   |true=>
    have HB7:=hid hBb;clear hBb ht7';go_wp2_with fail
    go_end0
    exact ⟨r7,tv7,n7,σ7,σ7,L7,tr7,gl7,ch7,rfl,HS7.o,HB7.o,fun _=>rfl,HE7.o,hf7,by omega,by omega,by omega,hzf⟩
   |false=>
    have hfc:=ng ht7'
    have hlc:ch7.length=l.length:=by
     have:=congrArg List.length hfc.1
     simpa[ar]using this
    have HW7:Hid (∀d∈ch7,d.gl≠ []/\d.k<=r.P.len):=fun d hd=>by
     have h1:ch7.map wi=l.map wi:=hfc.1;have h2:wi d∈l.map wi:=by rw[<-h1];exact List.mem_map.2 ⟨d,hd,rfl⟩
     obtain ⟨d',hd',e⟩:=List.mem_map.1 h2;have hw:=HW1l.o d' hd';have ek:d'.k=d.k:=congrArg Fg.k e;have eg:kq d'.gl=kq d.gl:=congrArg Fg.gl e;refine ⟨fun h0=>hw.1 ?_,by rw[<-ek];exact hw.2⟩
     rw[h0]at eg
     simpa[kq]using eg
    have HB7:Hid (bk (bm r.P) (ar r σx gl ch an)=gx (bm r.P) (gk-1+1) (ar r7 σ7 gl7 ch7 an)):=by rw[Hid,show gk-1+1=gk from by omega];exact hBb
    clear hBb ht7' hfc;go_wp2_with fail
    go_roundg (gk-1)
    case measure=>omega
    case rel=>exact ⟨r7,tv7,n7,σ7,σ7,L7,tr7,gl7,ch7,HS7.o,HB7.o,by omega,HW7.o,HE7.o,hf7,by omega,by omega,by omega,hzf,by omega⟩
structure wj (n:Nat) (qs:List Nat) (σ:Sg) (last:Int) (gl:List Gl) (h:List Cl) (gs:List Gq) (first:Nat) (κ:Int->Nat) (D:Int->Prop):Prop where
 hr:HR σ (ah h) h.length κ D
 dl: ∀u,D u->u<=last
 sl: ∀u,last<u->σ u=none
 l0:0<=last
 ch:Dk (i3 σ (ah h) h.length κ D) gs first gl
 ql:qs.length=n
 qr: ∀(i x:Nat),qs[i]?=some x->i3 σ (ah h) h.length κ D x (vT ((i:Int)+1))
theorem wj.mono {n:Nat} {qs:List Nat} {σ:Sg} {last last':Int} {gl:List Gl} {h:List Cl} {gs:List Gq} {first:Nat} {κ:Int->Nat} {D:Int->Prop} (S:wj n qs σ last gl h gs first κ D) (hl:last<=last'):wj n qs σ last' gl h gs first κ D:=
 ⟨S.hr,fun u hu=>Int.le_trans (S.dl u hu) hl,fun u hu=>S.sl u (Int.lt_of_le_of_lt hl hu),Int.le_trans S.l0 hl,S.ch,S.ql,S.qr⟩
theorem vr {f:Nat->Tm} {c n:Nat} (hO: ∀i,i<n->d9 12 (f i)/\cnt (f i)<=60) (l:List Nat): ∀q:Ax,(∀i∈l,i<n)->(ahP f c l q).1.1.length<=q.1.1.length+119*l.length:=by
 induction l with
 |nil=>intro q _;exact Nat.le_add_right _ _
 |cons i l ih=>
  intro q hl;have hi:=hO i (hl i List.mem_cons_self);have h1:=ih (pe f c q i) (fun k hk=>hl k (List.mem_cons_of_mem _ hk))
  have h2:=(ms hi.1 q.1).2;have h3:(pe f c q i).1.1.length=(bp (f i) q.1).1.1.length:=rfl;have e:ahP f c (i::l) q=ahP f c l (pe f c q i):=rfl;rw[e,List.length_cons];have:=hi.2;omega
section
variable {n:Nat} {qs:List Nat} {σ:Sg} {last off:Int} {S:Tm} {cc:Nat} {rest:List Gl} {X:PM} {i:Nat} {κ:Int->Nat} {D:Int->Prop}
theorem wj.goal (h:wj n qs σ last ((S,cc)::rest) X.h X.gs X.first κ D): ∃i,X.first=i+1/\i<X.gs.length/\X.gs[i]?=some (ai X)/\(ai X).cut=cc/\i3 σ (ah X.h) X.h.length κ D (ai X).at_ S/\Dk (i3 σ (ah X.h) X.h.length κ D) X.gs (ai X).nx rest:=by
 have hc:=h.ch;generalize hfi:X.first=fi at hc
 cases hc with
 |cons h1 h2 h3 h4=>
  rename_i i g;have hi:=(List.getElem?_eq_some_iff.1 h1).1;have hg:=lp hfi hi;rw[h1]at hg;have hg':=oj hg;subst hg';exact ⟨i,rfl,hi,h1,h2,h3,h4⟩
theorem Iz {H B:Tm} {L:Nat} (hSt:wj n qs σ last ((S,cc)::rest) X.h X.gs X.first κ D) (hoff:last<=off) (hH:d9 12 H/\iz H=0/\cnt H<=60) (hBl:B.len<=6) (hB: ∀i,i<B.len->d9 12 (B.f i)/\iz (B.f i)=0/\cnt (B.f i)<=60) (hL:X.left=(L:Int)) (hh:X.h.length+833<=400000) (hg:X.gs.length+6<=5000):
 match ao (L+1) σ L [(ap (fh off) H,wha σ S)]with
 | .over=>(a7 H B (bf X) (ai X).nx X).2=false/\(a7 H B (bf X) (ai X).nx X).1.fin=3
 | .no k=>(a7 H B (bf X) (ai X).nx X).2=false/\(a7 H B (bf X) (ai X).nx X).1.fin=X.fin/\(a7 H B (bf X) (ai X).nx X).1.left=(k:Int)
 | .yes _ σ'=>(a7 H B (bf X) (ai X).nx X).2=true/\(∃κ' D',wj n qs σ' (off+12) ((List.range B.len).map (fun i=>(ap (fh off) (B.f i),X.cs.length))++rest) (a7 H B (bf X) (ai X).nx X).1.h (a7 H B (bf X) (ai X).nx X).1.gs (a7 H B (bf X) (ai X).nx X).1.first κ' D')/\(a7 H B (bf X) (ai X).nx X).1.h.length<=X.h.length+833/\(a7 H B (bf X) (ai X).nx X).1.gs.length<=X.gs.length+6:=by
 obtain ⟨i,hf,hi,hgi,hcut,hrep,hchn⟩:=hSt.goal;have hG:=hSt.hr.hg;have hat:bf X<X.h.length:=hG.end_lt hrep.lt;have hPo:ws X.h.length (X.h,el) H (dk H X):=iw H hH.2.1 (X.h,el) (jt X.h);have hBs:Az σ X.h κ D off el:=⟨hSt.hr,fun v c h=>(by cases h),fun v _ hv=>⟨fun hd=>by have:=hSt.dl _ hd;omega,hSt.sl _ (by omega)⟩,Int.le_trans hSt.l0 hoff⟩
 have hG0:r8 X.h el (X.h,el):=⟨jt X.h,fun _ _=>rfl,fun _ _ h=>h,fun _ _ h=> .inl h,⟨fun u v c h=>(by cases h),fun v c h=>(by cases h)⟩,fun v c h=>(by cases h)⟩
 have hG1:r8 X.h el (dk H X).1:=hG0.put hH.1 hH.2.1;have hl1:(dk H X).1.1.length+1<=X.h.length+2*cnt H:=(ms hH.1 (X.h,el)).2;have hl1':(dk H X).1.1.length<=400000:=by have:=hH.2.2;omega
 have hHR1:=hG1.hr hBs hl1';obtain ⟨t,ht,htl,hbd⟩:=hPo.at_;have rH:i3 σ (ah (dk H X).1.1) (dk H X).1.1.length (κg D κ off (dk H X).1) (Dg D off el (dk H X).1) t (ap (fh off) H):=hG1.term hBs hl1' lZ hbd;have rS:i3 σ (ah X.h) X.h.length κ D (bf X) (wha σ S):=hrep.end_ hSt.hr (m9 hSt.hr.dec hrep.nn) (Dr hSt.hr.dec hrep.nn)
 have hER:dh H (bf X) X=jn (L+1) t (bf X) (L,(dk H X).1.1,[]):=by
  unfold dh;rw[ht,hL,Int.toNat_natCast,Int.toNat_natCast]
 have hSm:=Fu (Dg D off el (dk H X).1) (L+1) t (bf X) L (dk H X).1.1 [] σ (κg D κ off (dk H X).1) (ap (fh off) H) (wha σ S) (Nat.lt_succ_self _) hHR1 rH (hG1.rep hBs rS);rw[<-hER]at hSm
 have hlR:(dh H (bf X) X).l.length=(dk H X).1.1.length:=by
  have hG3:HG (ah (dk H X).1.1) (dk H X).1.1.length:=hHR1.hg;have:(dh H (bf X) X).Good (L,(dk H X).1.1,[]):=by rw[hER];exact gj _ _ _ _ ⟨hG3,hG3.nmZ⟩ htl (by show bf X<(dk H X).1.1.length;have:X.h.length<=(dk H X).1.1.length:=hPo.len;omega)
  exact this.len
 have hf1: ¬dp (dk H X).1.1 X.gs=true:=by
  unfold dp;simp;omega
 unfold a7;rw[if_neg hf1]
 cases hr:dh H (bf X) X with
 |no x l' bs'=>
  rw[hr]at hSm;rw[if_pos (show (MR.no x l' bs').ok=false from rfl)]
  rcases hSm with ⟨hx,hm⟩| ⟨k,hx,hm⟩
  .have:=hm (L+1) [] (Nat.lt_succ_self _)
   rw[List.append_nil]at this;rw[this];subst hx;exact ⟨rfl,rfl⟩
  .have:=hm (L+1) [] (Nat.lt_succ_self _)
   rw[List.append_nil]at this;rw[this];subst hx;refine ⟨rfl,?_,rfl⟩
   show (if (k:Int)<0 then (3:Int)else X.fin)=X.fin
   rw[if_neg (by omega)]
 |yes s=>
  rw[hr]at hSm;obtain ⟨σ',κ2,hHR2,hR2,_,hd2,hm⟩:=hSm;obtain ⟨F',hF',e⟩:=hm (L+1) [] (Nat.lt_succ_self _);rw[List.append_nil]at e;obtain ⟨F,rfl⟩: ∃F,F'=F+1:=⟨F'-1,by omega⟩
  have e':ao (L+1) σ L [(ap (fh off) H,wha σ S)]=.yes s.1 σ':=e;rw[e',if_neg (show¬(MR.yes s).ok=false by simp[MR.ok])]
  have hls:s.2.1.length=(dk H X).1.1.length:=by rw[hr]at hlR;exact hlR
  have hl0:(dh H (bf X) X).l=s.2.1:=by rw[hr];rfl
  have hB2: ∀i,i<B.len->d9 12 (B.f i)/\iz (B.f i)=0:=fun i hi=>⟨(hB i hi).1,(hB i hi).2.1⟩
  have hbl: ∀i∈ke B.len,i<B.len:=fun i hi=>by simpa[ke]using hi
  have hGm:=B2 (at':=bf X) hG hH.2.1 hH.1 hlR;rw[hl0]at hGm;have hAl:(gu H B (bf X) (ai X).nx X)=ahP B.f X.cs.length (ke B.len) ((s.2.1,(dk H X).1.2),X.gs,(ai X).nx):=by unfold gu;rw[hl0]
  have hA:=r8.ahP (c:=X.cs.length) hB2 (ke B.len) ((s.2.1,(dk H X).1.2),X.gs,(ai X).nx) hbl hGm;have hA119:=vr (c:=X.cs.length) (fun i hi=>⟨(hB i hi).1,(hB i hi).2.2⟩) (ke B.len) ((s.2.1,(dk H X).1.2),X.gs,(ai X).nx) hbl
  have hgl:=rl (c:=X.cs.length) hB2 (ke B.len) ((s.2.1,(dk H X).1.2),X.gs,(ai X).nx) hbl hGm.pi (by
   have hgo:(ai X).nx<=X.gs.length:=by
    have hc:=hchn;generalize (ai X).nx=z at hc
    cases hc with
    |nil=>exact oZ
    |cons h1 _ _ _=>exact (List.getElem?_eq_some_iff.1 h1).1
   exact hgo)
  have hCh:=fun(R:Nat->Tm->Prop)=>Gk (R:=R) (θ:=fun i=>ap (fh off) (B.f i)) (c:=X.cs.length) hB2 (ke B.len) ((s.2.1,(dk H X).1.2),X.gs,(ai X).nx) rest hbl hGm
  rw[te]at hA119 hgl;rw[<-hAl]at hA hA119 hgl hCh;have hc60:=hH.2.2;have hA119':(gu H B (bf X) (ai X).nx X).1.1.length<=s.2.1.length+119*B.len:=hA119;have hgl':(gu H B (bf X) (ai X).nx X).2.1.length=X.gs.length+B.len:=hgl.2.2.1
  have hf2: ¬dp (gu H B (bf X) (ai X).nx X).1.1 (gu H B (bf X) (ai X).nx X).2.1=true:=by
   unfold dp;simp;omega
  rw[if_neg hf2];have hl3:(gu H B (bf X) (ai X).nx X).1.1.length<=X.h.length+833:=by omega
  have hD1: ∀u,Dg D off el (dk H X).1 u->u<=off+12:=fun u hu=>by
   rcases hu with h| ⟨v,c,_,h2,rfl⟩
   .have:=hSt.dl u h;omega
   .have:=(hG1.pos v c h2).2;omega
  have hBs2:Az σ' s.2.1 κ2 (Dg D off el (dk H X).1) off (dk H X).1.2:=by
   refine ⟨hHR2,fun v c h=>?_,fun v hv hp=>?_,hBs.off⟩
   .obtain ⟨y,ey,hy,_⟩:=hG1.pi.var v c h
    exact ⟨y,ey,by omega,hR2 _ _ (hG1.var hBs (by rw[h,ey]))⟩
   .have hnd: ¬Dg D off el (dk H X).1 (off+v):=fun hd=>by
     rcases hd with h| ⟨v',c,_,h2,h3⟩
     .exact (hBs.new v rfl hp).1 h
     .have:v=v':=by omega
      subst this;rw[hv]at h2;cases h2
    exact ⟨hnd,(hd2 _ hnd).trans (hBs.new v rfl hp).2⟩
  refine ⟨rfl,⟨κg (Dg D off el (dk H X).1) κ2 off (gu H B (bf X) (ai X).nx X).1,Dg (Dg D off el (dk H X).1) off (dk H X).1.2 (gu H B (bf X) (ai X).nx X).1,hA.1.hr hBs2 (by omega),fun u hu=>?_,fun u hu=>?_,by have:=hBs.off;omega,?_,hSt.ql,fun j x hx=>hA.1.rep hBs2 (hR2 _ _ (hG1.rep hBs (hSt.qr j x hx)))⟩,hl3,by show (gu H B (bf X) (ai X).nx X).2.1.length<=_;omega⟩
  .rcases hu with h| ⟨v,c,_,h2,rfl⟩
   .exact hD1 u h
   .have:=(hA.1.pos v c h2).2;omega
  .have hnd: ¬Dg D off el (dk H X).1 u:=fun h=>by have:=hD1 u h;omega
   rw[hd2 u hnd];exact hSt.sl u (by omega)
  .have:=hCh (i3 σ' (ah (gu H B (bf X) (ai X).nx X).1.1) (gu H B (bf X) (ai X).nx X).1.1.length (κg (Dg D off el (dk H X).1) κ2 off (gu H B (bf X) (ai X).nx X).1) (Dg (Dg D off el (dk H X).1) off (dk H X).1.2 (gu H B (bf X) (ai X).nx X).1)) (fun i hi t lo hb=>hA.1.term hBs2 (by omega) lZ hb) (hchn.imp fun a u r=>hA.1.rep hBs2 (hR2 _ _ (hG1.rep hBs r)))
   have e3:(ke B.len).reverse=List.range B.len:=by unfold ke;rw[List.reverse_reverse]
   rw[e3]at this;exact this
end
end Go.Proofs.YtmggaclaoefdaabGreat
