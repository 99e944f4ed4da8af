/- Part of the proof. -/
import Derived.Test.YtmggaclaoefdaabGreatGBQ
namespace Go.Proofs.YtmggaclaoefdaabGreat
open Go.RowKit Go.Proofs.Tryz
set_option linter.unusedVariables false
set_option linter.unusedSimpArgs false
set_option maxRecDepth 100000
set_option maxHeartbeats 8000000
theorem Fw {P:qh} {n limit:Nat} {X:PS} (h:X.fin≠0) (f:Nat):ic P n limit f X=X:=by
 cases f with
 |zero=>rfl
 |succ f=>rw[ic,if_pos h]
theorem Ob {P:qh} {n limit f:Nat} {X:PS} (h:X.fin=0) (hg:X.gl= []):ic P n limit (f+1) X=ic P n limit f (ej P n X):=by
 rw[ic,if_neg (by simpa using h),hg]
theorem K7 {P:qh} {n limit f:Nat} {X:PS} {g:Gl} {r:List Gl} (h:X.fin=0) (hg:X.gl=g::r) (hl:X.st=limit):ic P n limit (f+1) X= { X with fin:=2}:=by
 rw[ic,if_neg (by simpa using h),hg]
 simp only;rw[if_pos hl]
theorem K6 {P:qh} {n limit f:Nat} {X:PS} {g:Gl} {r:List Gl} (h:X.fin=0) (hg:X.gl=g::r) (hl:X.st≠limit):ic P n limit (f+1) X=ic P n limit f (eh P { X with st:=X.st+1}):=by
 rw[ic,if_neg (by simpa using h),hg]
 simp only;rw[if_neg hl]
theorem la (B:Nat) (w:World) (n:Nat):Below B w (w.drewN n):=by
 induction n with
 |zero=>exact bR
 |succ n ih=>exact ih.drew
structure RI (P:qh) (X:PS) (last:Int) (n:Nat):Prop where
 an:X.ans.length<40
 cw:CW P.length X.ch
 cu:Cu X.gl X.ch.length
 l0:0<=last
 lb:last+360*X.ch.length<=((12+1080*X.st+400*X.ans.length:Nat):Int)
 nb:n+130000*X.ch.length<=400000*X.st+130000*X.ans.length
def mu (limit:Nat) (X:PS):Nat:=if X.fin=0 then 1+(limit-X.st)+(40-X.ans.length)else 0
theorem sx {limit:Nat} {X:PS} (h:X.fin=0):mu limit X=1+(limit-X.st)+(40-X.ans.length):=if_pos h
theorem Dv {limit:Nat} {X:PS} (h:X.fin≠0):mu limit X=0:=if_neg h
def R3 (w0 w:World) (s m:Nat) (r:Sr) (X:PS) (a limit:Nat) (e:Ending) (w':World):Prop:=
 ∃(r':Sr) (tv':Value) (n':Nat) (σ' σx:Sg) (L':Int) (tr':List Int) (gl':List Gl) (ch':List Cr) (an':List Tm),e=.returned (.tuple #[])/\SS w0 w' s m r' tv' n' σ' L' tr' gl' ch' an'/\
  (∀F,442<=F->ic (bm r.P) a limit F X=ar r' σx gl' ch' an')/\0<r'.fin/\0<=r'.st/\an'.length<=40/\w.heap.size<=w'.heap.size
theorem Oc {w0:World} {s m:Nat} {r:Sr} {tv:Value} {n:Nat} {σ:Sg} {L:Int} {tr:List Int} {gl:List Gl} {ch:List Cr} {an:List Tm} (a limit:Nat) (w:World) (hPr:Pt w0 r.P) (h:SS w0 w s m r tv n σ L tr gl ch an) (ha:r.asked=a) (ha12:a<=12) (hli:r.limit=limit) (hl4:limit<=400) (hf:r.fin=0) (hst:r.st=0) (hI:RI (bm r.P) (ar r σ gl ch an) r.last n):
 Calls prog 51 #[.pointer (some ⟨s,0,none⟩)] w (R3 w0 w s m r (ar r σ gl ch an) a limit):=by
 have H:=hid h;have HPr:=hid hPr;have HI:=hid hI;have HE0:Hid (r.asked=a/\r.limit=limit/\r.fin=0/\r.st=0):=⟨ha,hli,hf,hst⟩;clear h hPr hI ha hli hf hst
 go_enter Tryz.func51,Tryz.ntmps51
 go_wp2_with fail
 go_loopg [] 441 (fun fu wr=>∃(r1:Sr) (tv1:Value) (n1:Nat) (σ1 σy:Sg) (L1:Int) (tr1:List Int) (gl1:List Gl) (ch1:List Cr) (an1:List Tm) (st1:Nat),SS w0 wr s m r1 tv1 n1 σ1 L1 tr1 gl1 ch1 an1/\(∀F,442<=F->∃F',fu<F'/\ic (bm r.P) a limit F (ar r σ gl ch an)=ic (bm r.P) a limit F' (ar r1 σy gl1 ch1 an1))/\mu limit (ar r1 σy gl1 ch1 an1)<=fu/\(r1.P=r.P/\r1.limit=limit/\r1.asked=a)/\r1.st=st1/\st1<=limit/\0<=r1.fin/\an1.length<=40/\w.heap.size<=wr.heap.size/\(r1.fin=0->σy=σ1/\RI (bm r.P) (ar r1 σy gl1 ch1 an1) r1.last n1))
 case atStart=>
  refine ⟨r,tv,n,σ,σ,L,tr,gl,ch,an,0,H.o,fun F hF=>⟨F,by omega,rfl⟩,?_,⟨rfl,HE0.o.2.1,HE0.o.1⟩,HE0.o.2.2.2,oZ,by rw[HE0.o.2.2.1];exact Int.le_refl _,?_,lZ,fun _=>⟨rfl,HI.o⟩⟩
  .rw[sx (by show r.fin.toNat=0;rw[HE0.o.2.2.1];rfl)]
   omega
  .have:=HI.o.an
   simp[ar]at this;omega
 case round=>
  obtain ⟨r1,tv1,n1,σ1,σy,L1,tr1,gl1,ch1,an1,st1,hS,hF,hmu,hEq,hst1,hstl,hf0,han,hsz,hgo⟩:=hrel;have HS:=hid hS;have HF:=hid hF;have HMu:=hid hmu;have HEq:=hid hEq;have HSt:=hid hst1;have y1:=hS.blk.get.2.1
  by_cases hfin:r1.fin=0
  case neg=>
   have hfb:=bF hfin
   have HR:Hid (∀F,442<=F->ic (bm r.P) a limit F (ar r σ gl ch an)=ar r1 σy gl1 ch1 an1):=fun F h=>by
    obtain ⟨F',_,e⟩:=HF.o F h;rw[e];exact Fw (by show r1.fin.toNat≠0;omega) F'
   have hpos:0<r1.fin:=by omega
   have h0s:0<=r1.st:=by omega
   clear hfin hgo hS hF hmu hEq hst1;go_wp2_with fail
   go_end0
   exact ⟨r1,tv1,n1,σ1,σy,L1,tr1,gl1,ch1,an1,rfl,HS.o,HR.o,hpos,h0s,han,hsz⟩
  obtain ⟨hσ,hRI⟩:=hgo hfin;subst hσ;have HRI:=hid hRI;have HFin:=hid hfin;have HX0:Hid ((ar r1 σy gl1 ch1 an1).fin=0):=by show r1.fin.toNat=0;rw[hfin];rfl
  have hXl:(ar r1 σy gl1 ch1 an1).ans.length=an1.length:=by simp[ar]
  have hXc:(ar r1 σy gl1 ch1 an1).ch.length=ch1.length:=by simp[ar]
  have hXs:(ar r1 σy gl1 ch1 an1).st=st1:=by show r1.st.toNat=st1;omega
  have HXs:Hid ((ar r1 σy gl1 ch1 an1).st=st1/\(ar r1 σy gl1 ch1 an1).ans.length=an1.length):=⟨hXs,hXl⟩;have han1:an1.length<40:=by have:=hRI.an;omega
  have hlb:=hRI.lb;have hnb:=hRI.nb;have hl0:=hRI.l0;rw[hXc,hXs,hXl]at hlb hnb
  have HMu2:Hid (1+(limit-st1)+(40-an1.length)<=gk):=by
   have:=hmu;rw[sx HX0.o,hXs,hXl]at this;exact this
  have HW:Hid (∀c∈ch1,c.gl≠ []/\c.k<=r1.P.len):=fun c hc=>by
   have:=hRI.cw.1 (wi c) (List.mem_map.2 ⟨c,hc,rfl⟩);rw[iy]at this;refine ⟨fun h0=>this.1 ?_,by rw[hEq.1];exact this.2⟩
   show kq c.gl= []
   rw[h0];rfl
  have HPr1:Hid (Pt w0 r1.P):=by rw[Hid,hEq.1];exact HPr.o
  have y8:=hS.blk.get.2.2.2.2.2.2.2.2.1;have y2:wr.cell? ⟨s,2,none⟩=some (iV (st1:Int)):=by have:=hS.blk.get.2.2.1;rwa [hst1]at this
  have y4:wr.cell? ⟨s,4,none⟩=some (iV (limit:Int)):=by have:=hS.blk.get.2.2.2.2.1;rwa [hEq.2.1]at this
  have hyf:=hS.blk.get.2.2.2.2.2.2.2.2.2.2;have yf1:=hyf 1;have yf2:=hyf 2;have hcl:ch1.length<=4000:=by omega
  have hlb2:12+1080*st1+400*an1.length<=980000:=by omega
  have hnb2:400000*st1+130000*an1.length<=800000000:=by omega
  rw[hfin]at y1;clear hgo hF hmu hEq hRI hXl hXc hXs hyf hfin
  cases hgl:gl1 with
  |nil=>
   subst hgl;have hfst:=HS.o.gls;rw[hfst]at y8;have HAn:=hid (Fb a _ _ wr HPr1.o HS.o HW.o ⟨hl0,hlb⟩ hlb2 hnb hnb2 HFin.o hcl HEq.o.2.2 ha12 han1);clear hfst hS hst1;go_wp2_with fail;refine HAn.o.mono ?_;rintro e w2 ⟨r2,tv2,n2,σ2,σz,L2,tr2,gl2,ch2,an2,rfl,hS2,hE2,hσ2,hQ2,hf2,hl2,hb2,hm2,hz2,ha2,hg2⟩;have HS2:=hid hS2;have hst2:r2.st=st1:=hQ2.2.2.2.trans HSt.o
   have HR2:Hid (∀F,442<=F->∃F',gk-1<F'/\ic (bm r.P) a limit F (ar r σ gl ch an)=ic (bm r.P) a limit F' (ar r2 σz gl2 ch2 an2)):=fun F h=>by
    obtain ⟨F',h1,e⟩:=HF.o F h;obtain ⟨F2,rfl⟩: ∃F2,F'=F2+1:=⟨F'-1,by omega⟩
    have:=HMu2.o;refine ⟨F2,by omega,?_⟩
    rw[e,Ob HX0.o rfl,<-HEq.o.1,hE2]
   have hXs2:(ar r2 σz gl2 ch2 an2).st=st1:=by show r2.st.toNat=st1;omega
   have hXl2:(ar r2 σz gl2 ch2 an2).ans.length=an2.length:=by simp[ar]
   have hXc2:(ar r2 σz gl2 ch2 an2).ch.length=ch2.length:=by simp[ar]
   have HMn:Hid (mu limit (ar r2 σz gl2 ch2 an2)<=gk-1):=by
    have hk:=HMu2.o
    by_cases h0:r2.fin=0
    .have:=(hg2 h0).1
     rw[Hid,sx (by show r2.fin.toNat=0;omega),hXs2,hXl2]
     omega
    .rw[Hid,Dv (by show r2.fin.toNat≠0;omega)];exact oZ
   have HRI2:Hid (r2.fin=0->σz=σ2/\RI (bm r.P) (ar r2 σz gl2 ch2 an2) r2.last n2):=fun h0=>by
    have hcw:=Jf (P:=bm r.P) (n:=a) (X:=ar r1 σy [] ch1 an1) HRI.o.cw (by rw[<-HEq.o.1,hE2];show r2.fin.toNat=0;omega)
    rw[<-HEq.o.1,hE2]at hcw;have h1:=(hg2 h0).1;refine ⟨hσ2 h0,⟨by rw[hXl2];exact (hg2 h0).2,by rw[<-HEq.o.1];exact hcw.1,hcw.2,hl2,?_,?_⟩⟩
    .rw[hXc2,hXs2,hXl2,h1];omega
    .rw[hXc2,hXs2,hXl2,h1]
     exact lT hm2 (by rw[Nat.mul_add 130000,Nat.mul_one,<-Nat.add_assoc];exact lZ)
   have HQ2:Hid (r2.P=r.P/\r2.limit=limit/\r2.asked=a):=⟨hQ2.1.trans HEq.o.1,hQ2.2.1.trans HEq.o.2.1,hQ2.2.2.1.trans HEq.o.2.2⟩;have hgk:gk-1<gk:=by have:=HMu2.o;omega
   have HSt2:=hid hst2;clear hS2 hE2 hσ2 hQ2 hl2 hb2 hm2 hg2 hst2 hXs2 hXl2 hXc2;go_wp2_with fail
   go_roundg (gk-1)
   case measure=>exact hgk
   case rel=>exact ⟨r2,tv2,n2,σ2,σz,L2,tr2,gl2,ch2,an2,st1,HS2.o,HR2.o,HMn.o,HQ2.o,HSt2.o,hstl,hf2,ha2,by omega,HRI2.o⟩
  |cons g0 rest=>
   subst hgl;obtain ⟨T0,c0⟩:=g0;obtain ⟨kp,qn,hfst,_⟩:=HS.o.gls;have HGl:Hid ((ar r1 σy ((T0,c0)::rest) ch1 an1).gl=(a9 T0,c0)::kq rest):=rfl;have HFst:=hid hfst;rw[hfst]at y8;clear hfst hS hst1
   by_cases hsl:st1=limit
   case pos=>
    subst hsl
    have HR2:Hid (∀F,442<=F->∃F',gk-1<F'/\ic (bm r.P) a st1 F (ar r σ gl ch an)=ic (bm r.P) a st1 F' (ar { r1 with fin:=2} σy ((T0,c0)::rest) ch1 an1)):=fun F h=>by
     obtain ⟨F',h1,e⟩:=HF.o F h;obtain ⟨F2,rfl⟩: ∃F2,F'=F2+1:=⟨F'-1,by omega⟩
     have:=HMu2.o;refine ⟨F2,by omega,?_⟩
     rw[e,K7 HX0.o HGl.o HXs.o.1,Fw (by show (2:Int).toNat≠0;decide)]
     rfl
    have hgk:gk-1<gk:=by have:=HMu2.o;omega
    have HSn:Hid (∀W,Below wr.heap.size wr W->SS w0 (W.setCell ⟨s,1,none⟩ (iV 2)) s m { r1 with fin:=2} tv1 n1 σy L1 tr1 ((T0,c0)::rest) ch1 an1/\w.heap.size<=(W.setCell ⟨s,1,none⟩ (iV 2)).heap.size):=fun W hW=>⟨(HS.o.below hW).put 1 _ rfl rfl rfl rfl (HS.o.below hW).gls,by have:=hW.size;simp[World.setCell];omega⟩
    go_wp2_with fail
    go_quiet (fail)
    go_wp2_with fail
    go_roundg (gk-1)
    case measure=>exact hgk
    case rel=>exact ⟨{ r1 with fin:=2},tv1,n1,σy,σy,L1,tr1,(T0,c0)::rest,ch1,an1,st1,(HSn.o _ (la _ _ _)).1,HR2.o,by rw[Dv (by show (2:Int).toNat≠0;decide)];exact oZ,HEq.o,HSt.o,lZ,by show (0:Int)<=2;omega,han,(HSn.o _ (la _ _ _)).2,fun h=>absurd (show (2:Int)=0 from h) (by omega)⟩
   have hsb:=bF (by omega)
   have HSl:=hid hsl
   have HSn:Hid (∀W,Below wr.heap.size wr W->SS w0 (W.setCell ⟨s,2,none⟩ (iV ((st1:Int)+1))) s m { r1 with st:=(st1:Int)+1} tv1 n1 σy L1 tr1 ((T0,c0)::rest) ch1 an1/\w.heap.size<=(W.setCell ⟨s,2,none⟩ (iV ((st1:Int)+1))).heap.size):=fun W hW=>⟨(HS.o.below hW).put 2 _ rfl rfl rfl rfl (HS.o.below hW).gls,by have:=hW.size;simp[World.setCell];omega⟩
   have hc0:c0<=ch1.length:=by
    have:=HRI.o.cu.1 (a9 T0,c0) (by show (a9 T0,c0)∈(a9 T0,c0)::kq rest;simp)
    simpa[ar]using this
   have HStp:Hid (∀W,Below wr.heap.size wr W->Calls prog 86 #[.pointer (some ⟨s,0,none⟩),.pointer (some ⟨kp,0,none⟩)] (W.setCell ⟨s,2,none⟩ (iV ((st1:Int)+1))) (tn w0 (W.setCell ⟨s,2,none⟩ (iV ((st1:Int)+1))) s m { r1 with st:=(st1:Int)+1} (ar { r1 with st:=(st1:Int)+1} σy ((T0,c0)::rest) ch1 an1) an1 (12+1080*st1+400*an1.length) (400000*st1+130000*an1.length))):=fun W hW=>by
    have:=Kz (r:= { r1 with st:=(st1:Int)+1}) (12+1080*st1+400*an1.length) (400000*st1+130000*an1.length) _ HPr1.o (HSn.o W hW).1 HW.o hc0 ⟨hl0,hlb⟩ hlb2 hnb hnb2 HFin.o hcl
    rw[show ({ r1 with st:=(st1:Int)+1}:Sr).first=.pointer (some ⟨kp,0,none⟩)from HFst.o]at this
    exact this
   clear hsl;go_wp2_with fail
   go_quiet (fail)
   go_wp2_with fail;refine (HStp.o _ (la _ _ _)).mono ?_;rintro e w2 ⟨r2,tv2,n2,σ2,σz,L2,tr2,gl2,ch2,rfl,hS2,hE2,hσ2,hQ2,hf2,hl2,hb2,hm2,hz2⟩;have HS2:=hid hS2;have hst2:r2.st=((st1+1:Nat):Int):=hQ2.2.2.2
   have HE2:Hid (eh (bm r.P) { ar r1 σy ((T0,c0)::rest) ch1 an1 with st:=(ar r1 σy ((T0,c0)::rest) ch1 an1).st+1} =ar r2 σz gl2 ch2 an1):=by
    rw[Hid,<-HEq.o.1,<-hE2,HXs.o.1]
    rfl
   have HR2:Hid (∀F,442<=F->∃F',gk-1<F'/\ic (bm r.P) a limit F (ar r σ gl ch an)=ic (bm r.P) a limit F' (ar r2 σz gl2 ch2 an1)):=fun F h=>by
    obtain ⟨F',h1,e⟩:=HF.o F h;obtain ⟨F2,rfl⟩: ∃F2,F'=F2+1:=⟨F'-1,by omega⟩
    have:=HMu2.o;refine ⟨F2,by omega,?_⟩
    rw[e,K6 HX0.o HGl.o (by rw[HXs.o.1];exact HSl.o),HE2.o]
   have hXs2:(ar r2 σz gl2 ch2 an1).st=st1+1:=by show r2.st.toNat=st1+1;omega
   have hXl2:(ar r2 σz gl2 ch2 an1).ans.length=an1.length:=by simp[ar]
   have hXc2:(ar r2 σz gl2 ch2 an1).ch.length=ch2.length:=by simp[ar]
   have HMn:Hid (mu limit (ar r2 σz gl2 ch2 an1)<=gk-1):=by
    have hk:=HMu2.o;have hne:=HSl.o
    by_cases h0:r2.fin=0
    .rw[Hid,sx (by show r2.fin.toNat=0;omega),hXs2,hXl2]
     omega
    .rw[Hid,Dv (by show r2.fin.toNat≠0;omega)];exact oZ
   have HRI2:Hid (r2.fin=0->σz=σ2/\RI (bm r.P) (ar r2 σz gl2 ch2 an1) r2.last n2):=fun h0=>by
    have hcw:=N4 (P:=bm r.P) (X:= { ar r1 σy ((T0,c0)::rest) ch1 an1 with st:=(ar r1 σy ((T0,c0)::rest) ch1 an1).st+1}) (by show (a9 T0,c0)::kq rest≠ [];simp) HRI.o.cw HRI.o.cu (by rw[HE2.o];show r2.fin.toNat=0;omega)
    rw[HE2.o]at hcw;refine ⟨hσ2 h0,⟨by rw[hXl2];exact han1,hcw.1,hcw.2,hl2,?_,?_⟩⟩
    .rw[hXc2,hXs2,hXl2];omega
    .rw[hXc2,hXs2,hXl2]
     exact lT hm2 (by rw[Nat.mul_add 400000,Nat.mul_one,Nat.add_right_comm];exact lZ)
   have HQ2:Hid (r2.P=r.P/\r2.limit=limit/\r2.asked=a):=⟨hQ2.1.trans HEq.o.1,hQ2.2.1.trans HEq.o.2.1,hQ2.2.2.1.trans HEq.o.2.2⟩;have hgk:gk-1<gk:=by have:=HMu2.o;omega
   have HSt2:=hid hst2;have hstl2:st1+1<=limit:=by have:=HSl.o;omega
   have hzf:=lT (HSn.o _ (la _ _ _)).2 hz2;clear hS2 hE2 hσ2 hQ2 hl2 hb2 hm2 hst2 hXs2 hXl2 hXc2;go_wp2_with fail
   go_roundg (gk-1)
   case measure=>exact hgk
   case rel=>exact ⟨r2,tv2,n2,σ2,σz,L2,tr2,gl2,ch2,an1,st1+1,HS2.o,HR2.o,HMn.o,HQ2.o,HSt2.o,hstl2,hf2,han,hzf,HRI2.o⟩
def dj (P:Pg) (Q:Tm) (steps:Int):Int:=if ck P≠0 then ck P else if bo Q≠0 then bo Q else if steps<0\/steps>400 then 3 else 0
theorem rb {Q:Tm} (h:bo Q=0):Q.len<=6/\∀i,i<Q.len->d9 12 (Q.f i):=by
 have h6:Q.len<=6:=by
  by_cases h6:Q.len<=6
  .exact h6
  .rw[bo,if_neg h6]at h;omega
 refine ⟨h6,fun i hi=>?_⟩
 rw[bo,if_pos h6]at h;have h1:oh Q (i+1)=0:=gm _ hi h;have h0:oh Q i=0:=gm _ (Nat.le_of_lt hi) h;unfold oh at h0 h1;rw[fst,if_pos h0]at h1;exact ow _ (o4 h1)
theorem Oq {w:World} {P:Pg} (hP:kg w P) (hc:P.len<=P.cap) (h:ck P=0):Pt w P:=by
 have h30:P.len<=30:=by
  by_cases h30:P.len<=30
  .exact h30
  .rw[ck,if_neg h30]at h;omega
 rw[ck,if_pos h30]at h
 have hcl: ∀i,i<P.len->Aw (P.hd i) (P.bd i)=0:=fun i hi=>by
  have h1:oe P (i+1)=0:=gm _ hi h;have h0:oe P i=0:=gm _ (Nat.le_of_lt hi) h;unfold oe at h0 h1;rw[fst,if_pos h0]at h1;exact h1
 have hh: ∀i,i<P.len->i9 (P.hd i)=0/\bo (P.bd i)=0:=fun i hi=>by
  have h1:=hcl i hi
  by_cases h2:i9 (P.hd i)=0
  .rw[Aw,if_pos h2]at h1;exact ⟨h2,h1⟩
  .rw[Aw,if_neg h2]at h1;exact absurd h1 h2
 refine ⟨hP,hc,h30,fun i hi=>?_,fun i hi=>rb (hh i hi).2⟩
 have h1:=(hh i hi).1
 by_cases h2:ei (P.hd i)=0
 .exact ow _ (o4 h2)
 .rw[i9,if_neg h2]at h1;exact absurd h1 h2
theorem Gc {g:Nat->Int} {N:Int} (h0:0<=N) (k:Nat) (h: ∀i,i<k->g i<=N):me g k<=N:=by
 induction k with
 |zero=>exact h0
 |succ k ih=>
  rw[me];exact Int.max_le.2 ⟨ih (fun i hi=>h i (by omega)),h k (by omega)⟩
theorem Ss {N:Int} (h0:0<=N) (T:Tm):d9 N T->gr T<=N:=by
 induction T with
 |nil=>intro h;exact h.elim
 |mk v nm a len cap f ih=>
  intro h;rw[J2];exact Int.max_le.2 ⟨h.2.1,Gc h0 len (fun i hi=>ih i (h.2.2.2.2 i hi))⟩
theorem Fp {Q:Tm} (h:bo Q=0): ∃a:Nat,gp Q=a/\a<=12:=by
 have h0:0<=gp Q:=by rw[gp,if_pos h];exact C6 _ _
 have h1:gp Q<=12:=by rw[gp,if_pos h];exact Gc (by omega) _ (fun i hi=>Ss (by omega) _ ((rb h).2 i hi))
 exact ⟨(gp Q).toNat,by omega,by omega⟩
def Gp (Q:Tm) (a:Nat):PS:=⟨(az Q).map fun t=>(a9 t,0),[],fun _=>none,a,[],0,0⟩
def ge (P:Pg) (Q:Tm) (limit:Nat):PS:=ic (bm P) (gp Q).toNat limit 442 (Gp Q (gp Q).toNat)
def Qi (P:Pg) (Q:Tm) (steps:Int) (w:World) (e:Ending) (w':World):Prop:=Below w.heap.size w w'/\
 ((dj P Q steps≠0/\e=.returned (.tuple #[tj none 0 0 0 0,iV (dj P Q steps)]))\/
  (dj P Q steps=0/\∃(sa:Option Addr) (ca:Nat) (an:List Tm) (fin st:Int),e=.returned (.tuple #[tj sa an.length ca fin st,iV 0])/\AR w' sa an/\an.length<=ca/\an.length<=40/\0<fin/\0<=st/\(ge P Q steps.toNat).ans=an.map br/\(ge P Q steps.toNat).fin=fin.toNat/\(ge P Q steps.toNat).st=st.toNat))
theorem uw {w:World} {lo:Nat} {av:Value} {an:List Tm} (h:w.ownsRow lo 87 1 av an.length (an.map lh)) (ht: ∀A∈an,ay w A): ∃sa ca,av=.slice sa an.length ca/\an.length<=ca/\AR w sa an:=by
 rcases h.2 with ⟨rfl,h0⟩| ⟨g,cap,cur,rfl,hlo,hg,hnc,hcm,hsz,htk⟩
 .exact ⟨none,0,by rw[h0],by omega,fun k hk=>by omega⟩
 .exact ⟨some (dZ g 0),cap,rfl,hnc,fun k hk=>⟨⟨g,0,rfl,by
   rw[Nat.zero_add,h.cellAt k (by omega)];simp[hk,lh]⟩,ht _ (List.getElem_mem hk)⟩⟩
theorem d9.le {N N':Int} (h:N<=N'): ∀{T:Tm},d9 N T->d9 N' T:=by
 intro T
 induction T with
 |nil=>intro h;exact h
 |mk v nm a len cap f ih=>intro hT;exact ⟨hT.1,Int.le_trans hT.2.1 h,hT.2.2.1,hT.2.2.2.1,fun i hi=>ih i (hT.2.2.2.2 i hi)⟩
theorem Sj {W:World} {r:Nat} {x y z a b c:Value} {t:TypeId} (h:W.heap[r]?=some (.cells #[x,y,z] t)):
 (((W.setCell ⟨r,0,none⟩ a).setCell ⟨r,1,none⟩ b).setCell ⟨r,2,none⟩ c).heap[r]?=some (.cells #[a,b,c] t):=by
 simp only[World.setCell,Array.getElem?_modify];simp[h]
theorem pm {w W:World} {r:Nat} {x y z:Value} {t:TypeId} (hr:w.heap.size<=r) (hX:W.heap[r]?=some (.cells #[x,y,z] t)) (hB:Below w.heap.size w W) (a c d:Value):
 ∃W',((W.setCell ⟨r,0,none⟩ a).setCell ⟨r,1,none⟩ c).setCell ⟨r,2,none⟩ d=W'/\W'.cell? ⟨r,0,none⟩=some a/\W'.cell? ⟨r,1,none⟩=some c/\W'.cell? ⟨r,2,none⟩=some d/\Below w.heap.size w W'/\W.grownBy W' (some r):=by
 have h3:W.grownBy (((W.setCell (dZ r 0) a).setCell (dZ r 1) c).setCell (dZ r 2) d) (some r):=G.trans (G.trans (af r 0 a) (af r 1 c)) (af r 2 d);have hc:=Sj (a:=a) (b:=c) (c:=d) hX;refine ⟨_,rfl,by simp[World.cell?,hc],by simp[World.cell?,hc],by simp[World.cell?,hc],?_,h3⟩
 exact ⟨h3.os.trans hB.os,h3.tape.trans hB.tape,h3.output.trans hB.output,lT hB.size h3.size,fun k hk=>(h3.block k (lL hk hB.size) (by simp;omega)).trans (hB.block k hk)⟩
theorem Kg {w:World} {k:Nat} {a:Option Addr} {n c:Nat} {y z:Int} {t:TypeId} (h:w.heap[k]?=some (.cells #[.slice a n c,iV y,iV z] t)) {T:Tm} (hT:ay w T):NB k T:=by
 induction T with
 |nil=>trivial
 |mk v nm a' len cap f ih=>
  refine ⟨fun h0=>?_,fun i hi=>ih i (hT.2.2 i hi).2⟩
  obtain ⟨b,o,e,_,c1,_⟩:=(hT.2.2 0 h0).1;refine ⟨b,o,e,fun hb=>?_⟩
  subst hb
  have hlen:o+0*3+1<3:=by
   rcases Nat.lt_or_ge (o+0*3+1) 3 with h1|h1
   .exact h1
   .have h3: ¬(o+0*3+1<(#[Value.slice a n c,iV y,iV z]:Array Value).size):=by simp;omega
    rw[cell_of_row _ _ _ _ _ _ h]at c1;rw[Array.getElem?_eq_none (by omega)]at c1
    cases c1
  have h2:o=0\/o=1:=by omega
  rcases h2 with rfl|rfl
  .simp[World.cell?,h]at c1
  .simp[World.cell?,h]at c1
theorem AR.at {w w':World} {sa:Option Addr} {l:List Tm} {k:Nat} (h:AR w sa l) (hg:w.grownBy w' (some k)) (hs: ∀b o,sa=some ⟨b,o,none⟩->b≠k) (hn: ∀A∈l,NB k A):AR w' sa l:=fun i hi=>by
 obtain ⟨⟨b,o,e,hc⟩,hT⟩:=h i hi;exact ⟨⟨b,o,e,hg.cell hc (by simpa using hs b o e)⟩,hT.grown hg (fun q hq=>by obtain rfl:=oj hq;exact hn _ (List.getElem_mem hi))⟩
theorem xq (P:Pg) (Q:Tm) (steps:Int) (w:World) (hP:kg w P) (hc:P.len<=P.cap) (hQ:ay w Q):
 Calls prog 18 #[.slice P.a P.len P.cap,.slice Q.a Q.len Q.cap,iV steps] w (Qi P Q steps w):=by
 have HP:Hid (∀W,Below w.heap.size w W->kg W P/\ay W Q):=fun W hW=>⟨hP.below hW,hQ.below hW⟩
 have hc':P.len<=P.cap:=hc;clear hP hQ;have HZ:Hid ((w.alloc (.cells #[nZ,iV 0,iV 0] 44)).heap[w.heap.size]?=some (.cells #[nZ,iV 0,iV 0] 44)):=hZ w _;have HBz:Hid (Below w.heap.size w (w.alloc (.cells #[nZ,iV 0,iV 0] 44))):=bA
 go_enter Tryz.func18,Tryz.ntmps18
 go_wp2_with fail;generalize w.alloc (.cells #[nZ,iV 0,iV 0] 44)=wz at*;have hzz:w.heap.size<wz.heap.size:=(aZ HZ.o);have HK1:Hid (Calls prog 32 #[.slice P.a P.len P.cap] wz fun e w'=>e=.returned (iV (ck P))/\Below wz.heap.size wz w'):=m7 P wz (HP.o _ HBz.o).1
 refine HK1.o.mono ?_;rintro e w1 ⟨rfl,hb1⟩;have HB1:Hid (Below wz.heap.size wz w1):=hb1;have HBw1:Hid (Below w.heap.size w w1):=HBz.o.trans (hb1.mono HBz.o.size);have HZ1:Hid (w1.heap[w.heap.size]?=some (.cells #[nZ,iV 0,iV 0] 44)):=(hb1.block _ hzz).trans HZ.o;clear hb1 HK1
 by_cases hp:ck P=0
 case neg=>
  have hpb:(ck P !=0)=true:=bne_iff_ne.2 hp
  have HE:Hid (dj P Q steps=ck P/\dj P Q steps≠0):=by
   have:dj P Q steps=ck P:=by unfold dj;rw[if_pos hp]
   exact ⟨this,by rw[this];exact hp⟩
  obtain ⟨z0,z1,z2,zf0,zf1,zf2⟩:=ae HZ1.o;clear hp;go_wp2_with fail;obtain ⟨W',hW',g0,g1,g2,hB',_⟩:=pm (r:=w.heap.size) lZ HZ1.o HBw1.o nZ (iV 0) (iV 0);rw[hW'];refine bodyPost_ret (v:=.tuple #[tj none 0 0 0 0,iV (ck P)]) ?_ rfl ⟨hB',.inl ⟨HE.o.2,by rw[HE.o.1]⟩⟩
  simp[results,Tryz.results18,go_sem,g0,g1,g2,tj]
 have HPr:Hid (ck P=0):=hp;rw[hp];have HK2:Hid (Calls prog 48 #[.slice Q.a Q.len Q.cap] w1 fun e w'=>e=.returned (.tuple #[iV (gp Q),iV (bo Q)])/\Below w1.heap.size w1 w'):=A3 Q w1 (HP.o _ HBw1.o).2
 clear hp;go_wp2_with fail;refine HK2.o.mono ?_;rintro e w2 ⟨rfl,hb2⟩;have HBw2:Hid (Below w.heap.size w w2):=HBw1.o.trans (hb2.mono HBw1.o.size);have hz1:w.heap.size<w1.heap.size:=(aZ HZ1.o);have HZ2:Hid (w2.heap[w.heap.size]?=some (.cells #[nZ,iV 0,iV 0] 44)):=(hb2.block _ hz1).trans HZ1.o;have hz2:w.heap.size<w2.heap.size:=(aZ HZ2.o);clear hb2 HK2
 by_cases hq:bo Q=0
 case neg=>
  have hqb:(bo Q !=0)=true:=bne_iff_ne.2 hq
  have HE:Hid (dj P Q steps=bo Q/\dj P Q steps≠0):=by
   have:dj P Q steps=bo Q:=by unfold dj;rw[if_neg (by simpa using HPr.o),if_pos hq]
   exact ⟨this,by rw[this];exact hq⟩
  obtain ⟨z0,z1,z2,zf0,zf1,zf2⟩:=ae HZ2.o;clear hq;go_wp2_with fail;obtain ⟨W',hW',g0,g1,g2,hB',_⟩:=pm (r:=w.heap.size) lZ HZ2.o HBw2.o nZ (iV 0) (iV 0);rw[hW'];refine bodyPost_ret (v:=.tuple #[tj none 0 0 0 0,iV (bo Q)]) ?_ rfl ⟨hB',.inl ⟨HE.o.2,by rw[HE.o.1]⟩⟩
  simp[results,Tryz.results18,go_sem,g0,g1,g2,tj]
 obtain ⟨a,ha,ha12⟩:=Fp hq;have HQ0:Hid (bo Q=0):=hq;have HA:Hid ((gp Q).toNat=a):=by rw[Hid,ha];rfl
 rw[hq,ha];clear hq ha
 by_cases hsr:steps<0\/steps>400
 case pos=>
  have HE:Hid (dj P Q steps=3):=by
   rw[Hid];unfold dj;rw[if_neg (by simpa using HPr.o),if_neg (by simpa using HQ0.o),if_pos hsr]
  obtain ⟨z0,z1,z2,zf0,zf1,zf2⟩:=ae HZ2.o
  by_cases hs0:steps<0
  .have hs0b:decide (steps<0)=true:=decide_eq_true hs0
   clear hs0 hsr;go_wp2_with fail;obtain ⟨W',hW',g0,g1,g2,hB',_⟩:=pm (r:=w.heap.size) lZ HZ2.o HBw2.o nZ (iV 0) (iV 0);rw[hW'];refine bodyPost_ret (v:=.tuple #[tj none 0 0 0 0,iV 3]) ?_ rfl ⟨hB',.inl ⟨by rw[HE.o];decide,by rw[HE.o]⟩⟩
   simp[results,Tryz.results18,go_sem,g0,g1,g2,tj]
  .have hs0b:decide (steps<0)=false:=decide_eq_false hs0
   have hs4b:decide (steps>400)=true:=decide_eq_true (by omega)
   clear hs0 hsr;go_wp2_with fail;obtain ⟨W',hW',g0,g1,g2,hB',_⟩:=pm (r:=w.heap.size) lZ HZ2.o HBw2.o nZ (iV 0) (iV 0);rw[hW'];refine bodyPost_ret (v:=.tuple #[tj none 0 0 0 0,iV 3]) ?_ rfl ⟨hB',.inl ⟨by rw[HE.o];decide,by rw[HE.o]⟩⟩
   simp[results,Tryz.results18,go_sem,g0,g1,g2,tj]
 have HE:Hid (dj P Q steps=0):=by
  rw[Hid];unfold dj;rw[if_neg (by simpa using HPr.o),if_neg (by simpa using HQ0.o),if_neg hsr]
 have hs0b:decide (steps<0)=false:=decide_eq_false (by omega)
 have hs4b:decide (steps>400)=false:=decide_eq_false (by omega)
 have HSt:Hid (steps=((steps.toNat:Nat):Int)/\steps.toNat<=400):=⟨by omega,by omega⟩
 clear hsr;go_wp2_with fail;refine (Oy w2 1000000 (Int.le_refl _)).mono ?_;rintro e w3 ⟨b,m,rfl,hv3,hb3⟩;have hS4:=SS.start (w0:=w2) (w1:=w3) hv3 hb3 P steps a a;have HS4:Hid (SS w2 (w3.alloc (.cells #[nZ,iV 0,iV 0,.slice P.a P.len P.cap,iV steps,iV a,iV a,pZ b,.pointer none,nZ] 97)) w3.heap.size m (r0 P steps a a b) nZ 0 (fun _=>none) (4000:Nat) [] [] [] []):=hS4
 have HB4:Hid (Below w2.heap.size w2 (w3.alloc (.cells #[nZ,iV 0,iV 0,.slice P.a P.len P.cap,iV steps,iV a,iV a,pZ b,.pointer none,nZ] 97))):=hb3.alloc hb3.size _;clear hv3 hb3 hS4;go_wp2_with fail;generalize w3.alloc (.cells #[nZ,iV 0,iV 0,.slice P.a P.len P.cap,iV steps,iV a,iV a,pZ b,.pointer none,nZ] 97)=w4 at*;generalize w3.heap.size=s at*
 have HAh:Hid (Calls prog 50 #[.slice Q.a Q.len Q.cap,iV 0,.pointer none] w4 fun e w'=>∃q,e=.returned q/\(∃ad,q=.pointer ad)/\GL w' (Mu s b m nZ nZ nZ) 1000000 q (((az Q).map fun t=>(t,0))++ [])/\Below w4.heap.size w4 w'):=
  yz (M:=Mu s b m nZ nZ nZ) (N:=1000000) Q 0 (.pointer none) [] w4 ((HP.o _ HBw2.o).2.below HB4.o) (NM.old (HP.o _ HBw2.o).2 (fun k hk=>(HS4.o.mu hk).1)) (fun i hi=>((rb HQ0.o).2 i hi).le (by omega)) rfl (fun k hk=>(HS4.o.mu hk).2) ⟨none,rfl⟩
 refine HAh.o.mono ?_;rintro e w5 ⟨q,rfl,⟨qa,rfl⟩,hg5,hb5⟩;rw[List.append_nil]at hg5;have HS5:Hid (SS w2 w5 s m (r0 P steps a a b) nZ 0 (fun _=>none) (4000:Nat) [] [] [] []):=HS4.o.below hb5
 have HG5:Hid (GL w5 (Mu s b m nZ nZ nZ) 1000000 (.pointer qa) ((az Q).map fun t=>(t,0))):=hg5
 have x8:w5.cell? (dZ s 8)=some (.pointer none):=HS5.o.blk.get.2.2.2.2.2.2.2.2.1;have xf8:=HS5.o.blk.get.2.2.2.2.2.2.2.2.2.2 8
 have HS6:Hid (SS w2 (w5.setCell (dZ s 8) (.pointer qa)) s m { r0 P steps a a b with first:=.pointer qa} nZ 0 (fun _=>none) (4000:Nat) [] ((az Q).map fun t=>(t,0)) [] []):=HS5.o.put 8 (.pointer qa) (r':= { r0 P steps a a b with first:=.pointer qa}) rfl rfl rfl rfl HG5.o
 have HX6:Hid (ar { r0 P steps a a b with first:=.pointer qa} (fun _=>none) ((az Q).map fun t=>(t,0)) [] []=Gp Q a):=by
  rw[Hid];unfold ar Gp kq;rw[List.map_map]
  rfl
 have HRI:Hid (RI (bm P) (ar { r0 P steps a a b with first:=.pointer qa} (fun _=>none) ((az Q).map fun t=>(t,0)) [] []) a 0):=by
  rw[Hid,HX6.o];refine ⟨by show 0<40;omega,⟨fun c hc=>by simp[Gp]at hc,fun i hi=>absurd hi (nL i)⟩,⟨fun g hg=>?_,?_⟩,by omega,?_,oZ⟩
  .obtain ⟨t,_,rfl⟩:=List.mem_map.1 hg
   exact oZ
  .show ((az Q).map fun t=>(a9 t,0)).Pairwise _
   rw[List.pairwise_map];exact List.pairwise_iff_getElem.2 (fun _ _ _ _ _=>lZ)
  .show (a:Int)+360*((0:Nat):Int)<=((12+1080*0+400*0:Nat):Int)
   omega
 have HRu:Hid (Calls prog 51 #[pZ s] (w5.setCell (dZ s 8) (.pointer qa)) (R3 w2 (w5.setCell (dZ s 8) (.pointer qa)) s m { r0 P steps a a b with first:=.pointer qa} (ar { r0 P steps a a b with first:=.pointer qa} (fun _=>none) ((az Q).map fun t=>(t,0)) [] []) a steps.toNat)):=
  Oc (r:= { r0 P steps a a b with first:=.pointer qa}) a steps.toNat _ (Oq (HP.o _ HBw2.o).1 hc' HPr.o) HS6.o rfl ha12 HSt.o.1 HSt.o.2 rfl rfl HRI.o
 clear hg5 hb5 HAh;go_wp2_with fail;refine HRu.o.mono ?_;rintro e w7 ⟨r',tv',n',σ',σx,L',tr',gl',ch',an',rfl,hS7,hR7,hf7,hs7,ha7,hz7⟩;obtain ⟨sa,ca,hav,hle,hAR⟩:=uw hS7.anr (fun A hA=>(hS7.ant A hA).1)
 have HZ7:Hid (w7.heap[w.heap.size]?=some (.cells #[nZ,iV 0,iV 0] 44)):=(hS7.low.block _ hz2).trans HZ2.o;have HBw7:Hid (Below w.heap.size w w7):=HBw2.o.trans (hS7.low.mono HBw2.o.size)
 have HAR:Hid (AR w7 sa an'/\(∀b o,sa=some (dZ b o)->b≠w.heap.size)/\∀A∈an',NB w.heap.size A):=⟨hAR,fun b o e hb=>by
  have:=hS7.anr.lt b (by rw[hav,e];rfl)
  omega,fun A hA=>Kg HZ7.o (hS7.ant A hA).1⟩
 have HSo:Hid ((ge P Q steps.toNat).ans=an'.map br/\(ge P Q steps.toNat).fin=r'.fin.toNat/\(ge P Q steps.toNat).st=r'.st.toNat):=by
  have h1:=hR7 442 lZ;rw[HX6.o]at h1;have h2:ge P Q steps.toNat=ar r' σx gl' ch' an':=by unfold ge;rw[HA.o];exact h1
  rw[Hid,h2];exact ⟨rfl,rfl,rfl⟩
 obtain ⟨u0,u1,u2,_⟩:=hS7.blk.get;rw[hav]at u0;obtain ⟨z0,z1,z2,zf0,zf1,zf2⟩:=ae HZ7.o;generalize r'.fin=fin at*;generalize r'.st=st at*;clear hS7 hR7 hav hAR;go_wp2_with fail;obtain ⟨W',hW',g0,g1,g2,hB',hG'⟩:=pm (r:=w.heap.size) lZ HZ7.o HBw7.o (.slice sa an'.length ca) (iV fin) (iV st);rw[hW'];refine bodyPost_ret (v:=.tuple #[tj sa an'.length ca fin st,iV 0]) ?_ rfl ⟨hB',.inr ⟨HE.o,sa,ca,an',fin,st,rfl,HAR.o.1.at hG' HAR.o.2.1 HAR.o.2.2,hle,ha7,hf7,hs7,HSo.o⟩⟩;simp[results,Tryz.results18,go_sem,g0,g1,g2,tj]
theorem Q6 (h:Nat->Cl):HG h 0:=⟨⟨fun i hi=>absurd hi (nL i),fun i hi=>absurd hi (nL i),fun i hi=>absurd hi (nL i),oZ⟩,⟨fun _=>0,fun i hi=>absurd hi (nL i)⟩,fun i hi=>absurd hi (nL i),fun i hi=>absurd hi (nL i),fun i hi=>absurd hi (nL i),fun i hi=>absurd hi (nL i)⟩
end Go.Proofs.YtmggaclaoefdaabGreat
