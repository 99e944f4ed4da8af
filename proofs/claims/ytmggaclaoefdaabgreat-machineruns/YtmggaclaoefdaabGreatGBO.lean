/- Part of the proof. -/
import Derived.Test.YtmggaclaoefdaabGreatGBL
namespace Go.Proofs.YtmggaclaoefdaabGreat
open Go.RowKit Go.Proofs.Tryz
set_option linter.unusedVariables false
set_option linter.unusedSimpArgs false
set_option maxRecDepth 100000
set_option maxHeartbeats 8000000
def AR (w:World) (sa:Option Addr) (l:List Tm):Prop:=∀k (hk:k<l.length),(∃b o,sa=some ⟨b,o,none⟩/\w.cell? ⟨b,o+k,none⟩=some (.slice l[k].a l[k].len l[k].cap))/\ay w l[k]
theorem AR.below {w w':World} {sa:Option Addr} {l:List Tm} (h:AR w sa l) (hb:Below w.heap.size w w'):AR w' sa l:=fun k hk=>by
 obtain ⟨⟨b,o,e,hc⟩,hT⟩:=h k hk;exact ⟨⟨b,o,e,(hb.cell (ag hc)).trans hc⟩,hT.below hb⟩
def jr (l m:List Tm):Bool:=((l.length:Int)==(m.length:Int))&&cq (fun i=>fq (l.getD i .nil) (m.getD i .nil)) l.length
theorem Fc {g:Nat->Bool} {k n:Nat} (hk:k<n) (h:g k=false):cq g n=false:=by
 cases hn:cq g n with
 |false=>rfl
 |true=>
  have:=ux (show k+1<=n by omega) hn
  rw[cq,h,Bool.and_false]at this;cases this
theorem rq {sa sb:Option Addr} {ca cb:Nat} (l m:List Tm) (w:World) (hl:AR w sa l) (hm:AR w sb m) (hlb:l.length<=2 ^ 63-1):
 Calls prog 15 #[.slice sa l.length ca,.slice sb m.length cb] w fun e w'=>e=.returned (.bool (jr l m))/\Below w.heap.size w w':=by
 have HL:=hid hl;have HM:=hid hm;clear hl hm
 by_cases hlm:l.length=m.length
 case neg=>
  have hnb:=bne_iff_ne.2 (by omega)
  have HR:Hid (jr l m=false):=by
   rw[Hid];unfold jr;rw[bF (show (l.length:Int)≠(m.length:Int)by omega),Bool.false_and]
  go_enter Tryz.func15,Tryz.ntmps15
  go_wp2_with fail;go_ret;exact ⟨by rw[HR.o];rfl,bR⟩
 have hnb:((l.length:Int) !=(m.length:Int))=false:=by rw[hlm];simp
 have HR:Hid (jr l m=cq (fun i=>fq (l.getD i .nil) (m.getD i .nil)) l.length):=by
  rw[Hid];unfold jr;rw[beq_iff_eq.2 (show (l.length:Int)=(m.length:Int)by omega),Bool.true_and]
 have HLM:=hid hlm;clear hlm
 go_enter Tryz.func15,Tryz.ntmps15
 go_wp2_with fail
 go_loopw [5] (fun x wr=>∃j:Nat,j<=l.length/\x=iV j/\cq (fun i=>fq (l.getD i .nil) (m.getD i .nil)) j=true/\Below w.heap.size w wr) (fun x _=>l.length-(intOf x).toNat)
 case atStart=>exact ⟨0,oZ,rfl,rfl,bR⟩
 case round=>
  obtain ⟨j,hj,rfl,hA,hB⟩:=hrel;have HA:=hid hA;have HB:=hid hB;clear hA hB
  by_cases hlt:j<l.length
  case neg=>
   have hje:j=l.length:=by omega
   have HE:Hid (jr l m=true):=by rw[Hid,HR.o,<-hje];exact HA.o
   clear hje;go_wp2_with fail;go_ret;exact ⟨by rw[HE.o];rfl,HB.o⟩
  have hltm:j<m.length:=by have:=HLM.o;omega
  obtain ⟨⟨b1,o1,rfl,d1⟩,hT1⟩:=HL.o.below HB.o j hlt;obtain ⟨⟨b2,o2,rfl,d2⟩,hT2⟩:=HM.o.below HB.o j hltm;have hg1:l.getD j .nil=l[j]:=by simp[List.getD,hlt]
  have hg2:m.getD j .nil=m[j]:=by simp[List.getD,hltm]
  have HT:Hid (ay wr l[j]/\ay wr m[j]):=⟨hT1,hT2⟩
  have HNx:Hid (∀b,fq l[j] m[j]=b->(b=true->cq (fun i=>fq (l.getD i .nil) (m.getD i .nil)) (j+1)=true)/\(b=false->jr l m=false)):=fun b hb=>by
   refine ⟨fun e=>?_,fun e=>?_⟩
   .rw[cq,HA.o,hg1,hg2,hb,e];rfl
   .rw[HR.o];exact Fc hlt (by rw[hg1,hg2,hb,e])
  clear hT1 hT2 hg1 hg2;generalize l[j]=A at*;generalize m[j]=B at*;have hltI:(j:Int)<(l.length:Int):=by omega
  have hltJ:(j:Int)<(m.length:Int):=by omega
  have HKp:Hid (∀W,Below wr.heap.size wr W->W.cell? (dZ b1 (o1+j))=some (.slice A.a A.len A.cap)/\W.cell? (dZ b2 (o2+j))=some (.slice B.a B.len B.cap)):=fun W hW=>⟨(hW.cell (ag d1)).trans d1,(hW.cell (ag d2)).trans d2⟩
  have HC:Hid (∀W,Below wr.heap.size wr W->Calls prog 45 #[.slice A.a A.len A.cap,.slice B.a B.len B.cap] W fun e w'=>e=.returned (.bool (fq A B))/\Below W.heap.size W w'):=fun W hW=>Kc A B W (HT.o.1.below hW) (HT.o.2.below hW)
  go_wp2_with fail
  go_region_held3 (fun w'=>w'.cell? (dZ b1 (o1+j))=some (.slice A.a A.len A.cap)/\w'.cell? (dZ b2 (o2+j))=some (.slice B.a B.len B.cap)) ((refine HKp.o _ ?_;repeat (first|exact HB5.o|exact bR|refine Below.drew ?_))) (first
   | (go_at_call 45
      refine (HC.o _ (by repeat (first|exact bR|refine Below.drew ?_))).mono ?_
      rintro e w5 ⟨rfl,hb5⟩;have HB5:Hid (Below wr.heap.size wr w5):=Below.trans (by repeat (first|exact bR|refine Below.drew ?_)) (hb5.mono lZ)
      clear hb5))
  all_goals
   have HBf:=hid (HB.o.trans (HB5.o.mono HB.o.size))
   cases hs:fq A B with
   |true=>
    have HN:=(HNx.o true hs).1 rfl;have HN':=hid HN;clear hs HN;go_wp2_with fail;go_roundw
    case rel=>exact ⟨j+1,by omega,by go_num,HN'.o,HBf.o⟩
    case measure=>simp[intOf];omega
   |false=>
    have HN:Hid (jr l m=false):=(HNx.o false hs).2 rfl;clear hs;go_wp2_with fail;go_ret;exact ⟨by rw[HN.o];rfl,HBf.o⟩
def tj (sa:Option Addr) (n ca:Nat) (fin st:Int):Value:=.agg #[.slice sa n ca,iV fin,iV st]
theorem C0 {sa sb:Option Addr} {ca cb:Nat} (l m:List Tm) (f1 s1 f2 s2:Int) (w:World) (hl:AR w sa l) (hm:AR w sb m) (hlb:l.length<=2 ^ 63-1):
 Calls prog 19 #[tj sa l.length ca f1 s1,tj sb m.length cb f2 s2] w fun e w'=>e=.returned (.bool ((f1==f2)&&((s1==s2)&&jr l m)))/\Below w.heap.size w w':=by
 have HL:=hid hl;have HM:=hid hm;have HC:Hid (∀W,Below w.heap.size w W->Calls prog 15 #[.slice sa l.length ca,.slice sb m.length cb] W fun e w'=>e=.returned (.bool (jr l m))/\Below W.heap.size W w'):=fun W hW=>rq l m W (hl.below hW) (hm.below hW) hlb
 clear hl hm
 show Calls prog 19 #[.agg #[.slice sa l.length ca,iV f1,iV s1],.agg #[.slice sb m.length cb,iV f2,iV s2]] w _
 have HBx:Hid (Below w.heap.size w ((w.alloc (.cells #[.slice sa l.length ca,iV f1,iV s1] 44)).alloc (.cells #[.slice sb m.length cb,iV f2,iV s2] 44))):=bA.alloc (by simp) _
 cases h1:(f1==f2)with
 |false=>
  go_enter Tryz.func19,Tryz.ntmps19
  go_wp2_with fail;go_ret;exact ⟨rfl,HBx.o⟩
 |true=>
  cases h2:(s1==s2)with
  |false=>
   go_enter Tryz.func19,Tryz.ntmps19
   go_wp2_with fail;go_ret;exact ⟨rfl,HBx.o⟩
  |true=>
   go_enter Tryz.func19,Tryz.ntmps19
   go_wp2_with fail;refine (HC.o _ HBx.o).mono ?_;rintro e w5 ⟨rfl,hb5⟩;have HB5:=hid (HBx.o.trans (hb5.mono HBx.o.size));clear hb5;go_wp2_with fail;go_ret;exact ⟨by rw[Bool.true_and,Bool.true_and];rfl,HB5.o⟩
def Cu (gl:List Gl) (k:Nat):Prop:=(∀g∈gl,g.2<=k)/\gl.Pairwise fun a b=>b.2<=a.2
theorem Cu.tail {gl:List Gl} {k:Nat} (h:Cu gl k):Cu gl.tail k:=⟨fun g hg=>h.1 g (List.mem_of_mem_tail hg),h.2.sublist (List.tail_sublist gl)⟩
def CW (n:Nat) (ch:List Fg):Prop:=(∀c∈ch,c.gl≠ []/\c.k<=n)/\∀i (h:i<ch.length),Cu ch[i].gl i
theorem CW.push {n:Nat} {ch:List Fg} (h:CW n ch) {c:Fg} (hc:c.gl≠ []/\c.k<=n) (hg:Cu c.gl ch.length):CW n (ch++ [c]):=by
 refine ⟨fun d hd=>?_,fun i hi=>?_⟩
 .rcases List.mem_append.1 hd with hd|hd
  .exact h.1 d hd
  .rw[List.mem_singleton]at hd;subst hd;exact hc
 .by_cases hl:i<ch.length
  .rw[List.getElem_append_left hl];exact h.2 i hl
  .have hi':i=ch.length:=by simp at hi;omega
   subst hi';rw[List.getElem_append_right lZ]
   simpa using hg
theorem CW.take {n:Nat} {ch:List Fg} (h:CW n ch) (k:Nat):CW n (ch.take k):=
 ⟨fun d hd=>h.1 d (List.mem_of_mem_take hd),fun i hi=>by rw[List.getElem_take];exact h.2 i (by rw[List.length_take]at hi;omega)⟩
theorem J7 {P:qh} {gs:List Gl} {t:Tm} (hgs:gs≠ []): ∀{f i:Nat} {X Y:PS} {L:Nat},CW P.length X.ch->Cu gs X.ch.length->fd P gs t f i X L=(Y,true)->CW P.length Y.ch/\Cu Y.gl Y.ch.length:=by
 intro f
 induction f with
 |zero=>intro i X Y L _ _ h;rw[fd]at h;cases h
 |succ f ih=>
  intro i X Y L hC hG h;rw[fd]at h
  split at h
  .cases h
  .split at h
   .cases h
   .exact ih (X:= { X with last:=X.last+12}) hC hG h
   .obtain ⟨rfl,_⟩:=Prod.mk.inj h
    simp only
    have hch: ∀ch',(ch'=X.ch\/∃c,ch'=X.ch++ [c])->X.ch.length<=ch'.length:=fun ch' h=>by
     rcases h with rfl| ⟨c,rfl⟩
     .exact lZ
     .simp
    have hcu: ∀(k:Nat) (b:List Tm) (θ:Int->Tm),X.ch.length<=k->Cu (b.map (fun b=>(ap θ b,X.ch.length))++gs.tail) k:=fun k b θ hk=>by
     have ht:=hG.tail;refine ⟨fun g hg=>?_,?_⟩
     .rcases List.mem_append.1 hg with hg|hg
      .obtain ⟨x,_,rfl⟩:=List.mem_map.1 hg;exact hk
      .exact lT (ht.1 g hg) hk
     .rw[List.pairwise_append]
      refine ⟨?_,ht.2,fun a ha c hc=>?_⟩
      .rw[List.pairwise_map]
       exact List.pairwise_iff_getElem.2 (fun _ _ _ _ _=>lZ)
      .obtain ⟨x,_,rfl⟩:=List.mem_map.1 ha
       exact ht.1 c hc
    split
    .exact ⟨hC,hcu _ _ _ lZ⟩
    .rename_i k hk
     have hkl:k<=P.length:=by
      unfold cj at hk;rw[List.find?_range_eq_some]at hk;exact Nat.le_of_lt (List.mem_range.1 hk.2.1)
     exact ⟨hC.push ⟨hgs,hkl⟩ hG,hcu _ _ _ (by simp)⟩
theorem Pn {P:qh}: ∀{f:Nat} {X:PS},X.ch.length<f->CW P.length X.ch->(gx P f X).fin=0->CW P.length (gx P f X).ch/\Cu (gx P f X).gl (gx P f X).ch.length:=by
 intro f
 induction f with
 |zero=>intro X h;omega
 |succ f ih=>
  intro X hl hC hf
  by_cases h0:X.fin=0
  case neg=>rw[uv h0]at hf;exact absurd hf h0
  rcases List.eq_nil_or_concat X.ch with hc| ⟨l,c,hc⟩
  .rw[yx h0 hc]at hf;simp at hf
  .rw[List.concat_eq_append]at hc
   rw[yw h0 hc]at hf |-;rw[hc]at hC hl;have hCl:CW P.length l:=by have:=hC.take l.length;rwa [List.take_left]at this
   have hcg:c.gl≠ []:=(hC.1 c (by simp)).1
   have hcu:Cu c.gl l.length:=by
    have:=hC.2 l.length (by simp)
    simpa using this
   cases ht:fd P c.gl (Av c.σ c.gl) (P.length+1) c.k { X with ch:=l,σ:=c.σ} 4000 with
   |mk Y ok=>
    rw[ht]at hf
    cases ok with
    |true=>exact J7 hcg (X:= { X with ch:=l,σ:=c.σ}) hCl hcu ht
    |false=>
     have hy:=(ng ht).1;exact ih (X:=Y) (by rw[hy];simp at hl;exact hl) (by rw[hy];exact hCl) hf
theorem Fk {P:qh} {X:PS} (hC:CW P.length X.ch) (hf:(bk P X).fin=0):CW P.length (bk P X).ch/\Cu (bk P X).gl (bk P X).ch.length:=Pn (Nat.lt_succ_self _) hC hf
theorem N4 {P:qh} {X:PS} (hg:X.gl≠ []) (hC:CW P.length X.ch) (hG:Cu X.gl X.ch.length) (hf:(eh P X).fin=0):CW P.length (eh P X).ch/\Cu (eh P X).gl (eh P X).ch.length:=by
 unfold eh at hf |-;simp only at hf |-
 split at hf
 .simp at hf
 .rename_i h1
  rw[if_neg h1]
  split at hf
  .rename_i h2
   rw[if_pos h2]
   cases hgl:X.gl with
   |nil=>exact absurd hgl hg
   |cons g r=>
    rw[hgl]at hG;have hle:g.2<=X.ch.length:=hG.1 g (by simp)
    refine ⟨hC.take _,?_⟩
    show Cu r (X.ch.take g.2).length
    rw[List.length_take,show min g.2 X.ch.length=g.2 from by omega]
    have hp:=List.pairwise_cons.1 hG.2;exact ⟨fun a ha=>hp.1 a ha,hp.2⟩
  .rename_i h2
   rw[if_neg h2]
   split at hf
   .rename_i h3
    rw[if_pos h3];exact ⟨hC,hG.tail⟩
   .rename_i h3
    rw[if_neg h3]
    split at hf
    .rename_i h4
     rw[if_pos h4]
     exact Fk (X:= { X with gl:=X.gl.tail}) hC hf
    .rename_i h4
     rw[if_neg h4]
     split at hf
     .rename_i h5
      rw[if_pos h5]
      split at hf
      .simp at hf
      .exact Fk (X:= { X with gl:=X.gl.tail}) hC hf
      .exact ⟨hC,hG.tail⟩
     .rename_i h5
      rw[if_neg h5]
      cases ht:fd P X.gl (Av X.σ X.gl) (P.length+1) 0 { X with gl:=X.gl.tail} 4000 with
      |mk Z ok=>
       rw[ht]at hf
       cases ok with
       |true=>exact J7 hg (X:= { X with gl:=X.gl.tail}) hC hG ht
       |false=>
        have hz:=(ng ht).1;exact Fk (X:=Z) (by rw[hz];exact hC) hf
theorem Jf {P:qh} {n:Nat} {X:PS} (hC:CW P.length X.ch) (hf:(ej P n X).fin=0):CW P.length (ej P n X).ch/\Cu (ej P n X).gl (ej P n X).ch.length:=by
 unfold ej at hf |-
 split at hf
 .simp at hf
 .split at hf
  .simp at hf
  .rename_i h2
   rw[if_neg h2]
   exact Fk (X:= { X with ans:=X.ans++ [io X.σ n]}) hC hf
def tn (w0 w:World) (s m:Nat) (r:Sr) (X:PS) (an:List Tm) (Lb Nb:Nat) (e:Ending) (w':World):Prop:=
 ∃(r':Sr) (tv':Value) (n':Nat) (σ' σx:Sg) (L':Int) (tr':List Int) (gl':List Gl) (ch':List Cr),e=.returned (.tuple #[])/\SS w0 w' s m r' tv' n' σ' L' tr' gl' ch' an/\
  eh (bm r.P) X=ar r' σx gl' ch' an/\(r'.fin=0->σx=σ')/\(r'.P=r.P/\r'.limit=r.limit/\r'.asked=r.asked/\r'.st=r.st)/\0<=r'.fin/\0<=r'.last/\r'.last+360*ch'.length<=Lb+1080/\n'+130000*ch'.length<=Nb+400000/\w.heap.size<=w'.heap.size
theorem Dq.step {w0 w wx:World} {s m:Nat} {r r1:Sr} {X Y:PS} {an:List Tm} {Lb Nb Lc Nc:Nat} {e:Ending} {w':World} (h:Dq w0 wx s m r1 Y an Lc Nc e w') (hP:r1.P=r.P/\r1.limit=r.limit/\r1.asked=r.asked/\r1.st=r.st) (hX:eh (bm r.P) X=bk (bm r.P) Y) (hL:Lc<=Lb+720) (hN:Nc<=Nb+270000) (hz:w.heap.size<=wx.heap.size):tn w0 w s m r X an Lb Nb e w':=by
 obtain ⟨r',tv',n',σ',σx,L',tr',gl',ch',h1,h2,h3,h4,h5,h6,h7,h8,h9,h10⟩:=h;refine ⟨r',tv',n',σ',σx,L',tr',gl',ch',h1,h2,?_,h4,⟨h5.1.trans hP.1,h5.2.1.trans hP.2.1,h5.2.2.1.trans hP.2.2.1,h5.2.2.2.trans hP.2.2.2⟩,h6,h7,by omega,by omega,lT hz h10⟩
 rw[hX,<-hP.1];exact h3
theorem Kz {w0:World} {s m:Nat} {r:Sr} {tv:Value} {n:Nat} {σ:Sg} {L:Int} {tr:List Int} {T0:Tm} {c0:Nat} {rest:List Gl} {ch:List Cr} {an:List Tm} (Lb Nb:Nat) (w:World) (hPr:Pt w0 r.P) (h:SS w0 w s m r tv n σ L tr ((T0,c0)::rest) ch an) (hW: ∀c∈ch,c.gl≠ []/\c.k<=r.P.len) (hc0:c0<=ch.length) (hl:0<=r.last/\r.last+360*ch.length<=Lb) (hLb:Lb<=980000) (hn:n+130000*ch.length<=Nb) (hNb:Nb<=800000000) (hf:r.fin=0) (hc:ch.length<=4000):
 Calls prog 86 #[.pointer (some ⟨s,0,none⟩),r.first] w (tn w0 w s m r (ar r σ ((T0,c0)::rest) ch an) an Lb Nb):=by
 have H:=hid h;have HPr:=hid hPr;have HW:=hid hW;have hgl:=h.gls;have HP:=hid hgl;obtain ⟨kp,qn,hfst,hpM,hpb,hpT,hpN,hpO,hpr⟩:=hgl;rw[hfst]at HP |-;have HRest:=hid hpr;have HMk:=hid hpM;have HPb:=hid hpb;obtain ⟨_,_,_,_,_,_,_,y7,_,_,_⟩:=h.blk.get;have HRn:=hid (xw w h.vs);obtain ⟨L4,hL4⟩: ∃L4:Nat,L4=4000:=⟨_,rfl⟩;have HL4:=hid hL4;have hL5:L4<=4000:=by omega
 have hs:=h.blk.lt;clear h hPr hW hpM hpb hpT hpN hpO hpr hL4
 go_enter Tryz.func86,Tryz.ntmps86
 go_wp2_with fail;refine HRn.o.mono ?_;rintro e w1 ⟨rfl,hv1,hg1⟩;obtain ⟨tr1,hs1,_,_,_⟩:=H.o.vars hv1 (GF.ofG hg1) (TX.ofG hg1 (fun q hq=>(H.o.vs.tb q hq).1)) H.o.sg
 have hbw1:=SS.ofGF (s:=s) (m:=m) (tv:=tv) (GF.ofG hg1);have HS1:Hid (SS w0 w1 s m r tv n σ (L4:Nat) tr1 ((T0,c0)::rest) ch an):=by rw[Hid,HL4.o];exact hs1
 have HP1:Hid (GL w1 (Mu s r.b m tv r.cv r.av) 1000000 (pZ kp) ((T0,c0)::rest)):=HP.o.next hbw1 (fun _ _ e=>e)
 have HR1:Hid (GL w1 (Mu s r.b m tv r.cv r.av) 1000000 qn rest):=HRest.o.next hbw1 (fun _ _ e=>e)
 have HPb1:Hid (w1.heap[kp]?=some (.cells #[iV T0.v,.string T0.nm,.slice T0.a T0.len T0.cap,iV c0,qn] 134)):=(hbw1.block kp (aZ HPb.o) HMk.o).trans HPb.o;have hz1:=hbw1.size;obtain ⟨qa,rfl⟩:=HRest.o.ptr;obtain ⟨p0,p1,p2,p3,p4⟩:=t4 HPb1.o;obtain ⟨_,_,_,_,_,_,_,x7,x8,_,xf⟩:=HS1.o.blk.get;have xf8:=xf 8;clear hv1 hg1 hs1 hbw1 xf y7;rw[hfst]at x8;go_wp2_with fail
 have HS2:Hid (SS w0 (w1.setCell (dZ s 8) (.pointer qa)) s m { r with first:=.pointer qa} tv n σ (L4:Nat) tr1 rest ch an):=HS1.o.put 8 (.pointer qa) (r':= { r with first:=.pointer qa}) rfl rfl rfl rfl HR1.o
 have hbw2:Bw (Mu s r.b m tv r.cv r.av) w1.heap.size w1 (w1.setCell (dZ s 8) (.pointer qa)):=(Bw.refl _ _ w1).grown (af s 8 _) lZ (fun k hk=> rZ (.inl (oj hk).symm))
 have HP2:Hid (GL (w1.setCell (dZ s 8) (.pointer qa)) (Mu s r.b m tv r.cv r.av) 1000000 (pZ kp) ((T0,c0)::rest)):=HP1.o.next hbw2 (fun _ _ e=>e)
 have HPb2:Hid ((w1.setCell (dZ s 8) (.pointer qa)).heap[kp]?=some (.cells #[iV T0.v,.string T0.nm,.slice T0.a T0.len T0.cap,iV c0,.pointer qa] 134)):=(hbw2.block kp (aZ HPb1.o) HMk.o).trans HPb1.o;have hz2:=lT hz1 hbw2.size;clear hbw2 p0 p1 p2 p3 p4 x7 x8 xf8 HS1 HP1 HR1 HPb1;generalize w1.setCell (dZ s 8) (.pointer qa)=w2 at*;obtain ⟨p0,p1,p2,p3,p4⟩:=t4 HPb2.o;have y7:=HS2.o.blk.get.2.2.2.2.2.2.2.1
 have hT2:ay w2 T0/\d9 1000000 T0/\NM (Mu s r.b m tv r.cv r.av) T0:=by
  obtain ⟨_,_,_,_,_,h1,h2,h3,_⟩:=HP2.o;exact ⟨h1,h3,h2⟩
 have HT2:=hid hT2;clear hT2;have HKp:Hid (∀W,Below w2.heap.size w2 W->W.cell? (dZ s 7)=some (pZ r.b)/\W.cell? (dZ kp 0)=some (iV T0.v)/\W.cell? (dZ kp 1)=some (.string T0.nm)/\W.cell? (dZ kp 2)=some (.slice T0.a T0.len T0.cap)):=fun W hW=>⟨(hW.cell (ag y7)).trans y7,(hW.cell (ag p0)).trans p0,(hW.cell (ag p1)).trans p1,(hW.cell (ag p2)).trans p2⟩
 go_cut [4]from 17 to 25 (fun x wx=>∃kb,x=pZ kb/\w2.heap.size<=kb/\Jo wx kb (wha σ T0)/\Below w2.heap.size w2 wx)
 case first=>
  have HWh:Hid (∀W,Below w2.heap.size w2 W->Calls prog 122 #[pZ r.b,.agg #[iV T0.v,.string T0.nm,.slice T0.a T0.len T0.cap]] W fun e w'=>e=.returned (.agg #[iV (wha σ T0).v,.string (wha σ T0).nm,.slice (wha σ T0).a (wha σ T0).len (wha σ T0).cap])/\Below W.heap.size W w'/\d9 1000000 (wha σ T0)):=fun W hW=>py T0 W (HS2.o.below hW).vs HT2.o.2.1
  go_region_held3 (fun w'=>w'.cell? (dZ s 7)=some (pZ r.b)/\w'.cell? (dZ kp 0)=some (iV T0.v)/\w'.cell? (dZ kp 1)=some (.string T0.nm)/\w'.cell? (dZ kp 2)=some (.slice T0.a T0.len T0.cap)) ((refine HKp.o _ ?_;repeat (first|exact HB1.o|exact bR|refine Below.drew ?_|refine Below.alloc ?_ (by first|exact lZ|exact HB1.o.size|simp) _|refine Below.setCell ?_ (by first|exact lZ|exact HB1.o.size|simp) _))) (first
   | (go_at_call 122
      refine (HWh.o _ (by repeat (first|exact bR|refine Below.drew ?_|refine Below.alloc ?_ (by first|exact lZ|simp) _))).mono ?_
      rintro e w3 ⟨rfl,hb1,hO1⟩;have HB1:Hid (Below w2.heap.size w2 w3):=Below.trans (by repeat (first|exact bR|refine Below.drew ?_|refine Below.alloc ?_ (by first|exact lZ|simp) _)) (hb1.mono (by simp))
      first
       | (have hz:w3.heap[w2.heap.size]?=some (.cells #[iV 0,.string ⟨#[]⟩,nZ] 67):=Ry (W:=w2) ⟨hb1.os,hb1.tape,hb1.output,hb1.size,hb1.block⟩
          have HZ:=hid hz;obtain ⟨z0,z1,z2,zf0,zf1,zf2⟩:=ae hz;clear hz)
       |skip
      clear hb1 hO1))
  all_goals
   generalize wha σ T0=U at*;go_wp2_with fail
   go_meet
   case rel=>
    first
     | (obtain ⟨W',hW',_,_,_,hB',_⟩:=xe (w:=w2) (r:=w2.heap.size) lZ HZ.o HB1.o (iV U.v) (.string U.nm) (.slice U.a U.len U.cap)
        have hx:=wl (a:=iV U.v) (b:=.string U.nm) (c:=.slice U.a U.len U.cap) HZ.o;rw[hW']at hx |-;exact ⟨w2.heap.size,rfl,lZ,hx,hB'⟩)
     |exact ⟨w3.heap.size,rfl,HB1.o.size,hZ w3 _,HB1.o.alloc HB1.o.size _⟩
 case rest=>
  obtain ⟨kb,rfl,hkb,hbx,hB⟩:=hcut
  have HU:Hid (∀W,Below wc.heap.size wc W->ay W (wha σ T0)/\d9 1000000 (wha σ T0)/\NM (Mu s r.b m tv r.cv r.av) (wha σ T0)):=fun W hW=>by
   have:=((HS2.o.below hB).below hW).wha ⟨(HT2.o.1.below hB).below hW,HT2.o.2⟩;exact this
  have HAll:Hid (∀W,Below wc.heap.size wc W->SS w0 W s m { r with first:=.pointer qa} tv n σ (L4:Nat) tr1 rest ch an/\GL W (Mu s r.b m tv r.cv r.av) 1000000 (pZ kp) ((T0,c0)::rest)/\Jo W kb (wha σ T0)/\W.heap[kp]?=some (.cells #[iV T0.v,.string T0.nm,.slice T0.a T0.len T0.cap,iV c0,.pointer qa] 134)/\w.heap.size<=W.heap.size):=fun W hW=>⟨(HS2.o.below hB).below hW,(HP2.o.next (Bw.ofBelow hB) (fun _ _ e=>e)).next (Bw.ofBelow hW) (fun _ _ e=>e),(hW.block kb (aZ hbx)).trans hbx,(hW.block kp (lL (aZ HPb2.o) hB.size)).trans ((hB.block kp (aZ HPb2.o)).trans HPb2.o),lT hz2 (lT hB.size hW.size)⟩
  have HKb:Hid (¬Mu s r.b m tv r.cv r.av kb):=fun e=>by have:=(HS2.o.mu e).2;omega
  have HStep:Hid (eh (bm r.P) (ar r σ ((T0,c0)::rest) ch an)=if (wha σ T0).v≠0 then { ar { r with first:=.pointer qa} σ rest ch an with fin:=4} else if gn (wha σ T0) oc 0 then { ar { r with first:=.pointer qa} σ rest ch an with ch:=(ch.map wi).take c0} else if gn (wha σ T0) ku 0 then ar { r with first:=.pointer qa} σ rest ch an else if gn (wha σ T0) lj 0 then bk (bm r.P) (ar { r with first:=.pointer qa} σ rest ch an)else if gn (wha σ T0) Df 2 then match ao 4001 (cs σ) 4000 [((a9 (wha σ T0)).f 0,(a9 (wha σ T0)).f 1)]with
   | .over=> { ar { r with first:=.pointer qa} σ rest ch an with fin:=3}
   | .no _=>bk (bm r.P) (ar { r with first:=.pointer qa} σ rest ch an)
   | .yes _ σ'=> { ar { r with first:=.pointer qa} σ rest ch an with σ:=σ'}
   else match fd (bm r.P) (kq ((T0,c0)::rest)) (a9 (wha σ T0)) (r.P.len+1) 0 (ar { r with first:=.pointer qa} σ rest ch an) 4000 with
    | (Z,true)=>Z
    | (Z,false)=>bk (bm r.P) Z):=by
   unfold eh;rw[show Av (ar r σ ((T0,c0)::rest) ch an).σ (ar r σ ((T0,c0)::rest) ch an).gl=a9 (wha σ T0)from Dw σ T0 c0 rest]
   simp only[pp,sy,iy]
   rfl
  have hd_:=Dw σ T0 c0 rest;have HHd:=hid hd_;obtain ⟨u0,u1,u2,_,_,_⟩:=ae hbx;clear hB hbx p0 p1 p2 p3 p4 y7 HKp hd_ HS2 HP2 HPb2 HT2 hz2;generalize wha σ T0=U at*;have hrl:=hf
  by_cases hv:U.v≠0
  case pos=>
   have hvb:=bne_iff_ne.2 hv
   have HE:Hid (eh (bm r.P) (ar r σ ((T0,c0)::rest) ch an)=ar { r with first:=.pointer qa,fin:=4} σ rest ch an):=by
    rw[Hid,HStep.o,if_pos hv];rfl
   obtain ⟨hSc,_,_,_,hzc⟩:=HAll.o wc bR;have HSc:=hid hSc;have x1:=hSc.blk.get.2.1;have xf1:=hSc.blk.get.2.2.2.2.2.2.2.2.2.2 1;clear hv hSc;go_wp2_with fail
   go_end0
   exact ⟨{ r with first:=.pointer qa,fin:=4},tv,n,σ,σ,L4,tr1,rest,ch,rfl,HSc.o.put 1 _ rfl rfl rfl rfl HSc.o.gls,HE.o,fun _=>rfl,⟨rfl,rfl,rfl,rfl⟩,by show (0:Int)<=4;omega,hl.1,by show r.last+_<=_;omega,by omega,by simpa[World.setCell]using hzc⟩
  have hvb:(U.v !=0)=false:=by simpa using hv
  have HStep2:=hid ((HStep.o.trans (if_neg hv)));clear hv;have HIs1:=hid (tw U oc 0 wc);go_wp2_with fail;refine HIs1.o.mono ?_;rintro e w3 ⟨rfl,hb1⟩;have HB1:=hid hb1;clear hb1 HIs1 u0 u1 u2;obtain ⟨u0,u1,u2,_,_,_⟩:=ae (HAll.o _ HB1.o).2.2.1
  cases h1:gn U oc 0 with
  |true=>
   have HE:Hid (eh (bm r.P) (ar r σ ((T0,c0)::rest) ch an)= { ar { r with first:=.pointer qa} σ rest ch an with ch:=(ch.map wi).take c0}):=by rw[Hid,HStep2.o,if_pos h1]
   clear h1 HStep2 HStep;obtain ⟨hSc,_,_,hpb,hzc⟩:=HAll.o w3 HB1.o;have HSc:=hid hSc;obtain ⟨_,_,_,q3,_⟩:=t4 hpb;obtain ⟨ca,cp,hcv,hcp1,hcp2,_⟩:=Ad hSc.chr;have hcv:=hcv;have HCv:=hid hcv;have q9:=hSc.blk.get.2.2.2.2.2.2.2.2.2.1;have qf9:=hSc.blk.get.2.2.2.2.2.2.2.2.2.2 9;rw[hcv]at q9;have HSF:=hid (hSc.cut hc0 hcv)
   have hto:(Instr.slice 95 (.slice ca ch.length cp) none (some (iV c0)) none).run prog w3.drew=.ok (.slice ca c0 cp) w3.drew:=by
    cases ca with
    |some ad=>
     have hg: ∃g,ad=(dZ g 0):=by
      rcases HSc.o.chr.2 with ⟨e,_⟩| ⟨g,cap,cur,e,_⟩
      .have e:=e
       rw[HCv.o]at e;simp at e
      .have e:=e
       rw[HCv.o]at e;simp at e;exact ⟨g,e.1⟩
     obtain ⟨g,rfl⟩:=hg;exact Ft g ch.length cp c0 hc0 hcp1 w3.drew
    |none=>
     have hz:ch.length=0/\cp=0:=by
      rcases HSc.o.chr.2 with ⟨e,h0⟩| ⟨g,cap,cur,e,_⟩
      .have e:=e
       rw[HCv.o]at e;simp at e;exact ⟨h0,e.2⟩
      .have e:=e
       rw[HCv.o]at e;simp at e
     obtain ⟨i0,hi,hz0,hz1,hz2⟩:=info_parts Tryz.info194;have hc00:c0=0:=by omega
     rw[hz.1,hz.2,hc00];simp[Instr.slice,run_underlying Tryz.underlying95,Instr.sliceBounds,run_sliceBound,sizeOf,typeInfo,hi,Addr.add]
   have HTk:Hid ((ch.take c0).length<=ch.length):=by rw[Hid,List.length_take];omega
   clear hSc hpb hcv;go_wp2_with fail
   go_region
   all_goals
    go_wp2_with fail
    go_end0
    have htk:=HTk.o
    refine ⟨{ r with first:=.pointer qa,cv:=.slice ca c0 cp},tv,n,σ,σ,L4,tr1,rest,ch.take c0,rfl,HSF.o.below bR.drew,?_,fun _=>rfl,⟨rfl,rfl,rfl,rfl⟩,by show (0:Int)<=r.fin;omega,hl.1,by show r.last+_<=_;omega,by omega,by simpa[World.setCell]using hzc⟩
    rw[HE.o];unfold ar;rw[List.map_take]
  |false=>
  have HStep3:Hid (_=_):=HStep2.o.trans (if_neg (by rw[h1];simp))
  clear h1 HStep2 HStep;have HIs2:=hid (tw U ku 0 w3);go_wp2_with fail;refine HIs2.o.mono ?_;rintro e w4 ⟨rfl,hb2⟩;have HB2:=hid (HB1.o.trans (hb2.mono HB1.o.size));clear hb2 HIs2 u0 u1 u2;obtain ⟨u0,u1,u2,_,_,_⟩:=ae (HAll.o _ HB2.o).2.2.1
  cases h2:gn U ku 0 with
  |true=>
   have HE:Hid (eh (bm r.P) (ar r σ ((T0,c0)::rest) ch an)=ar { r with first:=.pointer qa} σ rest ch an):=by rw[Hid,HStep3.o,if_pos h2]
   obtain ⟨hSc,_,_,_,hzc⟩:=HAll.o w4 HB2.o;have HSc:=hid hSc;clear h2 HStep3 hSc;go_wp2_with fail
   go_end0
   exact ⟨{ r with first:=.pointer qa},tv,n,σ,σ,L4,tr1,rest,ch,rfl,HSc.o,HE.o,fun _=>rfl,⟨rfl,rfl,rfl,rfl⟩,by show (0:Int)<=r.fin;omega,hl.1,by show r.last+_<=_;omega,by omega,hzc⟩
  |false=>
  have HStep4:Hid (_=_):=HStep3.o.trans (if_neg (by rw[h2];simp))
  clear h2 HStep3;have HIs3:=hid (tw U lj 0 w4);go_wp2_with fail;refine HIs3.o.mono ?_;rintro e w5 ⟨rfl,hb3⟩;have HB3:=hid (HB2.o.trans (hb3.mono HB2.o.size));clear hb3 HIs3 u0 u1 u2;obtain ⟨u0,u1,u2,_,_,_⟩:=ae (HAll.o _ HB3.o).2.2.1
  cases h3:gn U lj 0 with
  |true=>
   have HE:Hid (eh (bm r.P) (ar r σ ((T0,c0)::rest) ch an)=bk (bm r.P) (ar { r with first:=.pointer qa} σ rest ch an)):=by rw[Hid,HStep4.o,if_pos h3]
   have hzc:=(HAll.o w5 HB3.o).2.2.2.2
   have HBk:Hid (Calls prog 120 #[pZ s] w5 (Dq w0 w5 s m { r with first:=.pointer qa} (ar { r with first:=.pointer qa} σ rest ch an) an Lb Nb)):=ni (σx:=σ) Lb Nb w5 HPr.o (HAll.o w5 HB3.o).1 HW.o hl (by omega) hn (by omega) (by show (0:Int)<=r.fin;omega) (by omega)
   clear h3 HStep4;go_wp2_with fail;refine HBk.o.mono ?_;intro e w6 h6;have h7:tn w0 w s m r (ar r σ ((T0,c0)::rest) ch an) an Lb Nb e w6:=h6.step ⟨rfl,rfl,rfl,rfl⟩ HE.o (by omega) (by omega) hzc
   have he:e=.returned (.tuple #[]):=by
    obtain ⟨_,_,_,_,_,_,_,_,_,h,_⟩:=h6;exact h
   subst he;have H7:=hid h7;clear h6 h7 HBk;go_wp2_with fail
   go_end0
   exact H7.o
  |false=>
  have HStep5:Hid (_=_):=HStep4.o.trans (if_neg (by rw[h3];simp))
  clear h3 HStep4;have HIs4:=hid (tw U Df 2 w5);go_wp2_with fail;refine HIs4.o.mono ?_;rintro e w6 ⟨rfl,hb4⟩;have HB4:=hid (HB3.o.trans (hb4.mono HB3.o.size));clear hb4 HIs4 u0 u1 u2;obtain ⟨u0,u1,u2,_,_,_⟩:=ae (HAll.o _ HB4.o).2.2.1
  cases h4:gn U Df 2 with
  |true=>
   have hlen:U.len=2:=by
    unfold gn at h4;rw[Bool.and_eq_true]at h4
    simpa using h4.2
   have HE0:Hid (eh (bm r.P) (ar r σ ((T0,c0)::rest) ch an)=match Sz (ao 4001 σ 4000 [(U.f 0,U.f 1)])with
    | .over=> { ar { r with first:=.pointer qa} σ rest ch an with fin:=3}
    | .no _=>bk (bm r.P) (ar { r with first:=.pointer qa} σ rest ch an)
    | .yes _ σ'=> { ar { r with first:=.pointer qa} σ rest ch an with σ:=σ'}):=by
    rw[Hid,HStep5.o,if_pos h4,<-Bv];rw[show [(U.f 0,U.f 1)].map Dn= [((a9 U).f 0,(a9 U).f 1)]from by rw[xh U (by omega),xh U (by omega)];rfl]
   clear h4 HStep5;obtain ⟨hU6,hO6,hN6⟩:=HU.o w6 HB4.o;have HK0:Hid ((ay w6 (U.f 0)/\d9 1000000 (U.f 0)/\NM (Mu s r.b m tv r.cv r.av) (U.f 0))/\(ay w6 (U.f 1)/\d9 1000000 (U.f 1)/\NM (Mu s r.b m tv r.cv r.av) (U.f 1))):=⟨⟨hU6.kid (by omega),hO6.kid (by omega),hN6.kid (by omega)⟩,⟨hU6.kid (by omega),hO6.kid (by omega),hN6.kid (by omega)⟩⟩
   obtain ⟨ub,uo,hua,a0,a1,a2⟩:=hU6.row (i:=0) (by omega)
   obtain ⟨ub',uo',hua',b0,b1,b2⟩:=hU6.row (i:=1) (by omega)
   obtain ⟨ub2,uo2,hua2,hubM⟩:=hN6.root (by omega)
   rw[hua]at hua' hua2;cases hua';cases hua2;rw[Nat.zero_mul,Nat.add_zero]at a0 a1 a2;rw[Nat.one_mul]at b0 b1 b2;have hubl:=ag a0;have HX6:=hid ((HAll.o w6 HB4.o).2.2.1);have hkbl:kb<w6.heap.size:=(aZ HX6.o)
   have HKe:Hid (∀W:World,W.heap[kb]?=w6.heap[kb]?->W.heap[ub]?=w6.heap[ub]?->W.cell? (dZ kb 2)=some (.slice (some (dZ ub uo)) 2 U.cap)/\W.cell? (dZ ub uo)=some (iV (U.f 0).v)/\W.cell? (dZ ub (uo+1))=some (.string (U.f 0).nm)/\W.cell? (dZ ub (uo+2))=some (.slice (U.f 0).a (U.f 0).len (U.f 0).cap)/\W.cell? (dZ ub (uo+3))=some (iV (U.f 1).v)/\W.cell? (dZ ub (uo+4))=some (.string (U.f 1).nm)/\W.cell? (dZ ub (uo+5))=some (.slice (U.f 1).a (U.f 1).len (U.f 1).cap)):=fun W h1 h2=>by
    have hc: ∀o,W.cell? (dZ ub o)=w6.cell? (dZ ub o):=fun o=>cB h2
    have hx:W.cell? (dZ kb 2)=w6.cell? (dZ kb 2):=cB h1;have hk2:=(ae HX6.o).2.2.1;rw[hua,hlen]at hk2;exact ⟨hx.trans hk2,(hc _).trans a0,(hc _).trans a1,(hc _).trans a2,(hc _).trans b0,(hc _).trans b1,(hc _).trans b2⟩
   have HKp:Hid (∀W,Below w6.heap.size w6 W->W.cell? (dZ kb 2)=some (.slice (some (dZ ub uo)) 2 U.cap)/\W.cell? (dZ ub uo)=some (iV (U.f 0).v)/\W.cell? (dZ ub (uo+1))=some (.string (U.f 0).nm)/\W.cell? (dZ ub (uo+2))=some (.slice (U.f 0).a (U.f 0).len (U.f 0).cap)/\W.cell? (dZ ub (uo+3))=some (iV (U.f 1).v)/\W.cell? (dZ ub (uo+4))=some (.string (U.f 1).nm)/\W.cell? (dZ ub (uo+5))=some (.slice (U.f 1).a (U.f 1).len (U.f 1).cap)):=fun W hW=>HKe.o W (hW.block kb hkbl) (hW.block ub hubl)
   have hn6:n+L4<=1000000000:=by
    have h1:n<=Nb:=lT (Nat.le_add_right n (130000*ch.length)) hn;clear hn;omega
   have HSm:Hid (∀W,Below w6.heap.size w6 W->Calls prog 124 #[pZ s,.agg #[iV (U.f 0).v,.string (U.f 0).nm,.slice (U.f 0).a (U.f 0).len (U.f 0).cap],.agg #[iV (U.f 1).v,.string (U.f 1).nm,.slice (U.f 1).a (U.f 1).len (U.f 1).cap]] W (SM w0 w6 s m { r with first:=.pointer qa} tv n σ L4 tr1 rest ch an (U.f 0) (U.f 1))):=fun W hW=>
    (xp (U.f 0) (U.f 1) W ((HAll.o w6 HB4.o).1.below hW) hL5 hn6 ⟨HK0.o.1.1.below hW,HK0.o.1.2⟩ ⟨HK0.o.2.1.below hW,HK0.o.2.2⟩).mono fun e w' h=>h.rebase hW
   have HUm:=hid hubM;have hzc:=(HAll.o w6 HB4.o).2.2.2.2;clear hU6 hO6 hN6 a0 a1 a2 b0 b1 b2 u0 u1 u2 hubM;obtain ⟨v2,_,_,_,_,_,_⟩:=HKp.o w6 bR;go_wp2_with fail
   go_region_held3 (fun w'=>w'.cell? (dZ kb 2)=some (.slice (some (dZ ub uo)) 2 U.cap)/\w'.cell? (dZ ub uo)=some (iV (U.f 0).v)/\w'.cell? (dZ ub (uo+1))=some (.string (U.f 0).nm)/\w'.cell? (dZ ub (uo+2))=some (.slice (U.f 0).a (U.f 0).len (U.f 0).cap)/\w'.cell? (dZ ub (uo+3))=some (iV (U.f 1).v)/\w'.cell? (dZ ub (uo+4))=some (.string (U.f 1).nm)/\w'.cell? (dZ ub (uo+5))=some (.slice (U.f 1).a (U.f 1).len (U.f 1).cap)) (first|exact HK7.o| (refine HKp.o _ ?_;repeat (first|exact bR|refine Below.drew ?_))) (first
    | (go_at_call 124
       refine (HSm.o _ (by repeat (first|exact bR|refine Below.drew ?_))).mono ?_
       rintro e w7 ⟨ok,r5,tv5,n5,σ5,L5,tr5,rfl,h5,h6⟩;have HK7:=hid (HKe.o w7 (h6.2.2.2.1.1.block kb hkbl HKb.o) (h6.2.2.2.1.1.block ub hubl HUm.o));have H5:=hid h5
       have H6:Hid (n5<=n+L4/\w6.heap.size<=w7.heap.size/\((ok=true/\r5= { r with first:=.pointer qa} /\∃k:Nat,k<=L4/\L5=k/\n5+k<=n+L4/\ao (L4+1) σ L4 [(U.f 0,U.f 1)]=.yes k σ5)\/(ok=false/\r5= { r with first:=.pointer qa} /\∃k:Nat,k<=L4/\L5=k/\ao (L4+1) σ L4 [(U.f 0,U.f 1)]=.no k)\/(ok=false/\r5= { r with first:=.pointer qa,fin:=3} /\L5= -1/\ao (L4+1) σ L4 [(U.f 0,U.f 1)]=.over))):=⟨h6.2.2.1,h6.2.2.2.1.1.size,h6.2.2.2.2⟩
       clear h5 h6))
   all_goals
    have hzf:=lT hzc H6.o.2.1;have hE0:=HE0.o;have hL4:=HL4.o;have h6:=H6.o;rw[hL4]at h6;clear HK7 v2
    by_cases hok:ok=true
    case pos=>
     have hy:r5= { r with first:=.pointer qa} /\∃k,ao 4001 σ 4000 [(U.f 0,U.f 1)]=.yes k σ5:=by
      rcases h6.2.2 with ⟨_,e,k,_,_,_,h⟩| ⟨e,_⟩| ⟨e,_⟩
      .exact ⟨e,k,h⟩
      .rw[hok]at e;simp at e
      .rw[hok]at e;simp at e
     obtain ⟨rfl,k,hm⟩:=hy;rw[hm]at hE0;have HE:=hid hE0
     have hnn:n5+130000*ch.length<=Nb+400000:=by
      have:=h6.1;generalize 130000*ch.length=y at*;omega
     subst hok;clear hE0 hm h6 hL4;go_wp2_with fail
     go_end0
     exact ⟨{ r with first:=.pointer qa},tv5,n5,σ5,σ5,L5,tr5,rest,ch,rfl,H5.o,HE.o,fun _=>rfl,⟨rfl,rfl,rfl,rfl⟩,by show (0:Int)<=r.fin;omega,hl.1,by show r.last+_<=_;omega,hnn,hzf⟩
    have hz:ok=false/\(r5.P=r.P/\r5.limit=r.limit/\r5.asked=r.asked/\r5.st=r.st)/\0<=r5.fin/\r5.last=r.last/\eh (bm r.P) (ar r σ ((T0,c0)::rest) ch an)=bk (bm r.P) (ar r5 σ rest ch an):=by
     rcases h6.2.2 with ⟨e,_⟩| ⟨e,e2,k,_,_,hm⟩| ⟨e,e2,_,hm⟩
     .exact absurd e hok
     .rw[hm]at hE0
      subst e2;exact ⟨e,⟨rfl,rfl,rfl,rfl⟩,by show (0:Int)<=r.fin;omega,rfl,hE0⟩
     .rw[hm]at hE0
      subst e2;exact ⟨e,⟨rfl,rfl,rfl,rfl⟩,by show (0:Int)<=3;omega,rfl,hE0.trans (uv (by show (3:Int).toNat≠0;decide)).symm⟩
    obtain ⟨rfl,heq,hf5,hl5,hst⟩:=hz;have HE:=hid hst;have HEq:Hid (r5.P=r.P/\r5.limit=r.limit/\r5.asked=r.asked/\r5.st=r.st):=heq
    have hnn:n5+130000*ch.length<=Nb+130000:=by
     have:=h6.1;generalize 130000*ch.length=y at*;omega
    have HBk:Hid (Calls prog 120 #[pZ s] w7 (Dq w0 w7 s m r5 (ar r5 σ rest ch an) an Lb (Nb+130000))):=ni (σx:=σ) Lb (Nb+130000) w7 (by rw[heq.1];exact HPr.o) H5.o (by rw[heq.1];exact HW.o) (by rw[hl5];exact hl) (by omega) hnn (by omega) hf5 (by omega)
    clear hE0 h6 hL4 hst heq hok hl5;go_wp2_with fail;refine HBk.o.mono ?_;intro e w8 h8;have h9:tn w0 w s m r (ar r σ ((T0,c0)::rest) ch an) an Lb Nb e w8:=h8.step HEq.o HE.o (by omega) (by omega) hzf
    have he:e=.returned (.tuple #[]):=by
     obtain ⟨_,_,_,_,_,_,_,_,_,h,_⟩:=h8;exact h
    subst he;have H9:Hid (tn w0 w s m r (ar r σ ((T0,c0)::rest) ch an) an Lb Nb (.returned (.tuple #[])) w8):=h9;clear h8 h9 HBk;go_wp2_with fail
    go_end0
    exact H9.o
  |false=>
  have HStep6:Hid (_=_):=HStep5.o.trans (if_neg (by rw[h4];simp))
  clear h4 HStep5
  have hn6:n+130000<=1000000000:=by
   have h1:n<=Nb:=lT (Nat.le_add_right n (130000*ch.length)) hn;clear hn;omega
  have hfew:=HPr.o.few;have hl6:0<=r.last/\r.last+12*((r.P.len-0:Nat):Int)<=999000:=by omega
  have HTr:Hid (Calls prog 125 #[pZ s,pZ kp,iV 0] w6 (Qj w0 w6 s m { r with first:=.pointer qa} n σ L4 rest ch an ((T0,c0)::rest) 0)):=
   Fq (L:=L4) 0 w6 HPr.o (HAll.o w6 HB4.o).1 (HAll.o w6 HB4.o).2.1 oZ hL5 hn6 hl6 hf (by omega)
  have hzc:=(HAll.o w6 HB4.o).2.2.2.2;clear u0 u1 u2;go_wp2_with fail;refine HTr.o.mono ?_;rintro e w7 ⟨ok,r7,tv7,n7,σ7,L7,tr7,gl7,ch7,rfl,hs7,ht7,he7,hf7,hn7,hl7,hl8,hc7,hz7⟩;have he7:r7.P=r.P/\r7.limit=r.limit/\r7.asked=r.asked/\r7.st=r.st:=he7;have hl7:r.last<=r7.last:=hl7;have hl8:r7.last<=r.last+12*((r.P.len-0:Nat):Int):=hl8
  have ht7':fd (bm r.P) (kq ((T0,c0)::rest)) (a9 U) (r.P.len+1) 0 (ar { r with first:=.pointer qa} σ rest ch an) 4000=(ar r7 σ7 gl7 ch7 an,ok):=by
   have:=ht7;rw[HL4.o,HHd.o]at this;exact this
  have HS7:Hid (SS w0 w7 s m r7 tv7 n7 σ7 L7 tr7 gl7 ch7 an):=hs7;have HE7:Hid (r7.P=r.P/\r7.limit=r.limit/\r7.asked=r.asked/\r7.st=r.st):=he7;have hzf:w.heap.size<=w7.heap.size:=lT hzc hz7;have hst:=HStep6.o;rw[ht7']at hst;clear hs7 ht7 he7 HStep6
  cases ok with
  |true=>
   have HE:Hid (eh (bm r.P) (ar r σ ((T0,c0)::rest) ch an)=ar r7 σ7 gl7 ch7 an):=hst
   have hnn:n7+130000*ch7.length<=Nb+400000:=by
    have h1:130000*ch7.length<=130000*(ch.length+1):=Nat.mul_le_mul_left _ hc7;rw[Nat.mul_add]at h1;generalize 130000*ch7.length=x at*;generalize 130000*ch.length=y at*;omega
   clear hst ht7';go_wp2_with fail
   go_end0
   exact ⟨r7,tv7,n7,σ7,σ7,L7,tr7,gl7,ch7,rfl,HS7.o,HE.o,fun _=>rfl,HE7.o,hf7,by omega,by omega,hnn,hzf⟩
  |false=>
   have hfc:=ng ht7'
   have hlc:ch7.length=ch.length:=by
    have:=congrArg List.length hfc.1
    simpa[ar]using this
   have HW7:Hid (∀d∈ch7,d.gl≠ []/\d.k<=r7.P.len):=fun d hd=>by
    have h1:ch7.map wi=ch.map wi:=hfc.1;have h2:wi d∈ch.map wi:=by rw[<-h1];exact List.mem_map.2 ⟨d,hd,rfl⟩
    obtain ⟨d',hd',e⟩:=List.mem_map.1 h2;have hw:=HW.o d' hd';have ek:d'.k=d.k:=congrArg Fg.k e;have eg:kq d'.gl=kq d.gl:=congrArg Fg.gl e;rw[HE7.o.1];refine ⟨fun h0=>hw.1 ?_,by rw[<-ek];exact hw.2⟩
    rw[h0]at eg
    simpa[kq]using eg
   have HE:Hid (eh (bm r.P) (ar r σ ((T0,c0)::rest) ch an)=bk (bm r.P) (ar r7 σ7 gl7 ch7 an)):=hst
   have hnn:n7+130000*ch7.length<=Nb+130000:=by
    rw[hlc];generalize 130000*ch.length=y at*;omega
   have HBk:Hid (Calls prog 120 #[pZ s] w7 (Dq w0 w7 s m r7 (ar r7 σ7 gl7 ch7 an) an (Lb+360) (Nb+130000))):=ni (σx:=σ7) (Lb+360) (Nb+130000) w7 (by rw[HE7.o.1];exact HPr.o) HS7.o HW7.o (by rw[hlc];omega) (by omega) hnn (by omega) hf7 (by omega)
   clear hst ht7' hfc;go_wp2_with fail;refine HBk.o.mono ?_;intro e w8 h8;have h9:tn w0 w s m r (ar r σ ((T0,c0)::rest) ch an) an Lb Nb e w8:=h8.step HE7.o HE.o (by omega) (by omega) hzf
   have he:e=.returned (.tuple #[]):=by
    obtain ⟨_,_,_,_,_,_,_,_,_,h,_⟩:=h8;exact h
   subst he;have H9:=hid h9;clear h8 h9 HBk;go_wp2_with fail
   go_end0
   exact H9.o
end Go.Proofs.YtmggaclaoefdaabGreat
