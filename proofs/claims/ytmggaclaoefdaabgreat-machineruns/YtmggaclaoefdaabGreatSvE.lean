/- Part of the proof. -/
import Derived.Test.YtmggaclaoefdaabGreatGAW
namespace Go.Proofs.YtmggaclaoefdaabGreat
open Go.RowKit Go.Proofs.Tryz
set_option linter.unusedVariables false
set_option linter.unusedSimpArgs false
set_option maxRecDepth 100000
set_option maxHeartbeats 8000000
theorem Ry {W w1:World} {o:Obj} (h:Below (W.alloc o).heap.size (W.alloc o) w1):w1.heap[W.heap.size]?=some o:=(h.block _ (by simp)).trans (hZ W o)
theorem Jc {B:Nat} {w0 w3 W:World} (h3:Below B w0 w3) (hW:Below B w0 W) (hs:w3.heap.size<=W.heap.size):Below B w3 W:=⟨hW.os.trans h3.os.symm,hW.tape.trans h3.tape.symm,hW.output.trans h3.output.symm,hs,fun k hk=>(hW.block k hk).trans (h3.block k hk).symm⟩
theorem SM.rebase {w0 w W:World} {s m:Nat} {r:Sr} {tv:Value} {n:Nat} {σ:Sg} {L:Nat} {tr:List Int} {gl:List Gl} {ch:List Cr} {an:List Tm} {A B:Tm} {e:Ending} {w':World} (hW:Below w.heap.size w W) (h:SM w0 W s m r tv n σ L tr gl ch an A B e w'):SM w0 w s m r tv n σ L tr gl ch an A B e w':=by
 obtain ⟨ok,r',tv',n',σ',L',tr',h1,h2,h3,h4,h5,⟨h6,h7⟩,h8⟩:=h;exact ⟨ok,r',tv',n',σ',L',tr',h1,h2,h3,h4,h5,⟨(Bw.ofBelow hW).trans (h6.mono hW.size),fun k hk=>h7 k (lL hk hW.size)⟩,h8⟩
theorem Tryz.info194:(prog.info? 194).map (fun i=>(i.zero,i.size,i.bytes))=some (some (.agg #[.pointer none,iV 0,iV 0]),3,24):=by kernel_rfl
theorem Sn (w:World) (c:Cr): ∀j u,(fk [c])[j]?=some u->(w.alloc (.cells #[c.p,iV c.k,iV c.mark] 194)).cell? ((⟨w.heap.size,0,none⟩:Addr).add j)=some u:=by
 intro j u hj;have hb:=hZ w (.cells #[c.p,iV c.k,iV c.mark] 194);rw[ir,cell_of_row _ _ _ _ _ _ hb]
 simpa[fk,kl]using hj
def Jo (w:World) (k:Nat) (T:Tm):Prop:=w.heap[k]?=some (.cells #[iV T.v,.string T.nm,.slice T.a T.len T.cap] 67)
theorem Fq {w0:World} {s m:Nat} {r:Sr} {tv:Value} {n:Nat} {σ:Sg} {L:Nat} {tr:List Int} {gl:List Gl} {ch:List Cr} {an:List Tm} {p:Value} {T0:Tm} {c0:Nat} {rest:List Gl} (i:Nat) (w:World) (hPr:Pt w0 r.P) (h:SS w0 w s m r tv n σ L tr gl ch an) (hp:GL w (Mu s r.b m tv r.cv r.av) 1000000 p ((T0,c0)::rest)) (hi:i<=r.P.len) (hL:L<=4000) (hn:n+130000<=1000000000) (hl:0<=r.last/\r.last+12*(r.P.len-i:Nat)<=999000) (hf:r.fin=0) (hc:ch.length<=100000):
 Calls prog 125 #[.pointer (some ⟨s,0,none⟩),p,iV i] w (Qj w0 w s m r n σ L gl ch an ((T0,c0)::rest) i):=by
 have H:=hid h;have HPr:=hid hPr;have HP:=hid hp;obtain ⟨kp,qn,rfl,hpM,hpb,hpT,hpN,hpO,hpr⟩:=hp;have HT0:Hid (ay w T0/\d9 1000000 T0/\NM (Mu s r.b m tv r.cv r.av) T0):=⟨hpT,hpO,hpN⟩;obtain ⟨_,_,_,_,_,_,_,y7,_,_,_⟩:=h.blk.get;obtain ⟨p0,p1,p2,_,_⟩:=t4 hpb;have hplen:r.P.len<=2 ^ 63-1:=by have:=hPr.few;omega
 have hfew:=hPr.few;have hs:=h.blk.lt;clear h hPr hpM hpb hpT hpN hpO hpr
 go_enter Tryz.func125,Tryz.ntmps125
 go_wp2_with fail;have HKp:Hid (∀W,Below w.heap.size w W->W.cell? (dZ s 7)=some (pZ r.b)/\W.cell? (dZ kp 0)=some (iV T0.v)/\W.cell? (dZ kp 1)=some (.string T0.nm)/\W.cell? (dZ kp 2)=some (.slice T0.a T0.len T0.cap)):=fun W hW=>⟨(hW.cell (ag y7)).trans y7,(hW.cell (ag p0)).trans p0,(hW.cell (ag p1)).trans p1,(hW.cell (ag p2)).trans p2⟩
 go_cut [7]from 12 to 20 (fun x wx=>∃kb,x=pZ kb/\w.heap.size<=kb/\Jo wx kb (wha σ T0)/\Below w.heap.size w wx)
 case first=>
  have HW:Hid (∀W,Below w.heap.size w W->Calls prog 122 #[pZ r.b,.agg #[iV T0.v,.string T0.nm,.slice T0.a T0.len T0.cap]] W fun e w'=>e=.returned (.agg #[iV (wha σ T0).v,.string (wha σ T0).nm,.slice (wha σ T0).a (wha σ T0).len (wha σ T0).cap])/\Below W.heap.size W w'/\d9 1000000 (wha σ T0)):=fun W hW=>py T0 W (H.o.below hW).vs HT0.o.2.1
  go_region_held3 (fun w'=>w'.cell? (dZ s 7)=some (pZ r.b)/\w'.cell? (dZ kp 0)=some (iV T0.v)/\w'.cell? (dZ kp 1)=some (.string T0.nm)/\w'.cell? (dZ kp 2)=some (.slice T0.a T0.len T0.cap)) ((refine HKp.o _ ?_;repeat (first|exact HB1.o|exact bR|refine Below.drew ?_|refine Below.alloc ?_ (by first|exact lZ|exact HB1.o.size|simp) _|refine Below.setCell ?_ (by first|exact lZ|exact HB1.o.size|simp) _))) (first
   | (go_at_call 122
      refine (HW.o _ (by repeat (first|exact bR|refine Below.drew ?_|refine Below.alloc ?_ (by first|exact lZ|simp) _))).mono ?_
      rintro e w1 ⟨rfl,hb1,hO1⟩;have HB1:Hid (Below w.heap.size w w1):=Below.trans (by repeat (first|exact bR|refine Below.drew ?_|refine Below.alloc ?_ (by first|exact lZ|simp) _)) (hb1.mono (by simp))
      first
       | (have hz:w1.heap[w.heap.size]?=some (.cells #[iV 0,.string ⟨#[]⟩,nZ] 67):=Ry (W:=w) ⟨hb1.os,hb1.tape,hb1.output,hb1.size,hb1.block⟩
          have HZ:=hid hz;obtain ⟨z0,z1,z2,zf0,zf1,zf2⟩:=ae hz;clear hz)
       |skip
      clear hb1 hO1))
  all_goals
   generalize wha σ T0=U at*;go_wp2_with fail
   go_meet
   case rel=>
    first
     | (obtain ⟨W',hW',_,_,_,hB',_⟩:=xe (w:=w) (r:=w.heap.size) lZ HZ.o HB1.o (iV U.v) (.string U.nm) (.slice U.a U.len U.cap)
        have hx:=wl (a:=iV U.v) (b:=.string U.nm) (c:=.slice U.a U.len U.cap) HZ.o;rw[hW']at hx |-;exact ⟨w.heap.size,rfl,lZ,hx,hB'⟩)
     |exact ⟨w1.heap.size,rfl,HB1.o.size,hZ w1 _,HB1.o.alloc HB1.o.size _⟩
 case rest=>
  obtain ⟨kb,rfl,hkb,hbx,hB⟩:=hcut;have HBc:=hid hB;have HSc:=hid (H.o.below hB);have HPc:Hid (GL wc (Mu s r.b m tv r.cv r.av) 1000000 (pZ kp) ((T0,c0)::rest)):=HP.o.next (Bw.ofBelow hB) (fun _ _ e=>e)
  have HUc:=hid ((H.o.below hB).wha ⟨HT0.o.1.below hB,HT0.o.2⟩);have HHd:=hid (Dw σ T0 c0 rest);have HXc:=hid hbx;have hkm: ¬Mu s r.b m tv r.cv r.av kb:=fun e=>by have:=(H.o.mu e).2;omega
  have HPin:Hid (∀W,Below w0.heap.size w0 W->kg W r.P):=fun W hW=>HPr.o.pin.below hW
  obtain ⟨x0,x1,x2,_,_,_⟩:=ae hbx;clear hB hbx p0 p1 p2 y7 HKp;generalize wha σ T0=U at*;have hUl:=HUc.o.1.len;have hUl2:=hUl;have HF0:=hid (Aa U i wc HSc.o.blk (HPin.o _ HSc.o.low) HPr.o.cap hUl hi);go_wp2_with fail;refine HF0.o.mono ?_;rintro e w1 ⟨rfl,hb1⟩
  have hr0:r= { r with last:=r.last,fin:=0}:=by rw[<-hf]
  have HS1:Hid (SS w0 w1 s m { r with last:=r.last,fin:=0} tv n σ L tr gl ch an):=by rw[Hid,<-hr0];exact HSc.o.below hb1
  have HP1:Hid (GL w1 (Mu s r.b m tv r.cv r.av) 1000000 (pZ kp) ((T0,c0)::rest)):=HPc.o.next (Bw.ofBelow hb1) (fun _ _ e=>e)
  have HX1:Hid (Jo w1 kb U):=(hb1.block kb (aZ HXc.o)).trans HXc.o;have HU1:Hid (ay w1 U/\d9 1000000 U/\NM (Mu s r.b m tv r.cv r.av) U):=⟨HUc.o.1.below hb1,HUc.o.2⟩;have hsz1:=lT HBc.o.size hb1.size
  have HX0:Hid (ar r σ gl ch an=ar { r with last:=r.last,fin:=0} σ gl ch an):=congrArg (fun r=>ar r σ gl ch an) hr0
  clear hb1 x0 x1 x2 hr0 HF0;go_wp2_with fail
  go_loopw [8] (fun x wr=>∃(j:Nat) (l1 f1:Int) (tv1:Value) (n1:Nat) (L1:Int),i<=j/\j<=r.P.len/\x=iV (jq (cj (bm r.P) U j))/\SS w0 wr s m { r with last:=l1,fin:=f1} tv1 n1 σ L1 tr gl ch an/\GL wr (Mu s r.b m tv1 r.cv r.av) 1000000 (pZ kp) ((T0,c0)::rest)/\Jo wr kb U/\¬Mu s r.b m tv1 r.cv r.av kb/\(ay wr U/\d9 1000000 U/\NM (Mu s r.b m tv1 r.cv r.av) U)/\n1<=n+4000*(j-i)/\w.heap.size<=wr.heap.size/\r.last<=l1/\l1<=r.last+12*(j-i:Nat)/\((f1=0/\∃f L':Nat,L1=L'/\L'<=L/\r.P.len-j<f/\fd (bm r.P) (kq ((T0,c0)::rest)) (a9 U) (r.P.len+1) i (ar r σ gl ch an) L=fd (bm r.P) (kq ((T0,c0)::rest)) (a9 U) f j (ar { r with last:=l1,fin:=0} σ gl ch an) L')\/(f1=3/\fd (bm r.P) (kq ((T0,c0)::rest)) (a9 U) (r.P.len+1) i (ar r σ gl ch an) L=(ar { r with last:=l1,fin:=3} σ gl ch an,false)))) (fun x _=>if intOf x<0 then 0 else r.P.len+1-(intOf x).toNat)
  case atStart=>exact ⟨i,r.last,0,tv,n,L,lZ,hi,rfl,HS1.o,HP1.o,HX1.o,hkm,HU1.o,by omega,hsz1,Int.le_refl _,by simp,.inl ⟨rfl,r.P.len+1,L,rfl,lZ,by omega,by rw[HX0.o]⟩⟩
  case round=>
   clear HS1 HP1 HX1 HU1;obtain ⟨j,l1,f1,tv1,n1,L1,hij,hjP,rfl,hSr,hPr,hXr,hkr,hUr,hnr,hszr,hl1,hl2,hA⟩:=hrel;have HSr:=hid hSr;have HPw:=hid hPr;have HXr:=hid hXr;have HUr:=hid hUr;have HA:=hid hA;have HKr:=hid hkr;obtain ⟨_,y1,_,_,_,_,_,y7,_,_,_⟩:=hSr.blk.get;have y1:=y1;have y7:=y7;clear hSr hPr hXr hUr hA hkr
   cases hfit:cj (bm r.P) U j with
   |none=>
    have HRes:Hid (fd (bm r.P) (kq ((T0,c0)::rest)) (a9 U) (r.P.len+1) i (ar r σ gl ch an) L=(ar { r with last:=l1,fin:=f1} σ gl ch an,false)/\0<=f1):=by
     rcases HA.o with ⟨rfl,f,L',_,_,hf2,he⟩| ⟨rfl,he⟩
     .obtain ⟨f',rfl⟩: ∃f',f=f'+1:=⟨f-1,by omega⟩
      exact ⟨by rw[he,Ku hfit],Int.le_refl _⟩
     .exact ⟨he,by omega⟩
    rw[show jq none= -1 from rfl]
    clear hfit;go_wp2_with fail;go_ret;exact ⟨false,_,tv1,n1,σ,L1,tr,gl,ch,rfl,HSr.o,by rw[HHd.o];exact HRes.o.1,⟨rfl,rfl,rfl,rfl⟩,HRes.o.2,by omega,hl1,by show l1<=_;omega,by omega,hszr⟩
   |some k=>
    have hjk:=Dx hfit;rw[show jq (some k)=(k:Int)from rfl]
    have hge:=decide_eq_true (by omega)
    rcases HA.o with ⟨rfl,f,L',rfl,hLL,hf2,he⟩| ⟨rfl,he⟩
    case inr=>
     have HE:=hid he;clear he hfit;go_wp2_with fail;go_ret;exact ⟨false,_,tv1,n1,σ,L1,tr,gl,ch,rfl,HSr.o,by rw[HHd.o];exact HE.o,⟨rfl,rfl,rfl,rfl⟩,by show (0:Int)<=3;omega,by omega,hl1,by show l1<=_;omega,by omega,hszr⟩
    obtain ⟨f',rfl⟩: ∃f',f=f'+1:=⟨f-1,by omega⟩
    have HE:Hid (∀A:Tm,a9 A=ap (fh l1) (r.P.hd k)->fd (bm r.P) (kq ((T0,c0)::rest)) (a9 U) (r.P.len+1) i (ar r σ gl ch an) L=match ao (L'+1) σ L' [(A,U)]with
     | .over=>({ ar { r with last:=l1,fin:=0} σ gl ch an with last:=l1+12,fin:=3},false)
     | .no L2=>fd (bm r.P) (kq ((T0,c0)::rest)) (a9 U) f' (k+1) { ar { r with last:=l1,fin:=0} σ gl ch an with last:=l1+12} L2
     | .yes _ σ'=>({ ar { r with last:=l1,fin:=0} σ gl ch an with last:=l1+12,σ:=cs σ',gl:=((az (r.P.bd k)).map fun b=>(ap (fh l1) b,(ch.map wi).length))++(kq ((T0,c0)::rest)).tail,ch:=match cj (bm r.P) U (k+1)with
        |none=>ch.map wi
        |some q=>ch.map wi++ [⟨kq ((T0,c0)::rest),q,cs σ⟩]},true)):=fun A hA=>by
     rw[he];exact Kt (X:=ar { r with last:=l1,fin:=0} σ gl ch an) rfl hfit hA
    have HFit:=hid hfit;clear he hfit;have HMk:=hid (L3 wr HSr.o.vs HSr.o.trk);go_wp2_with fail;refine HMk.o.mono ?_;rintro e w2 ⟨rfl,rfl⟩;have HOw:=hid (Ou w2 HSr.o.blk (by show 0<=l1/\l1<=1000000;omega))
    clear y1 y7 HMk;go_wp2_with fail;refine HOw.o.mono ?_;rintro e w3 ⟨rfl,hw3⟩;have hsr:=HSr.o.blk.lt;have hbn:Below w2.heap.size (w2.setCell (dZ s 6) (iV (l1+12))) w3:=by rw[hw3];exact bR.alloc (by simp[World.setCell]) _
    have hbn':Below (w2.setCell (dZ s 6) (iV (l1+12))).heap.size (w2.setCell (dZ s 6) (iV (l1+12))) w3:=by rw[hw3];exact bA
    have hbw3:Bw (Mu s r.b m tv1 r.cv r.av) w2.heap.size w2 w3:=((Bw.refl _ _ w2).grown (af s 6 _) lZ (fun k hk=> rZ (.inl (oj hk).symm))).trans (Bw.ofBelow hbn)
    have HS3:Hid (SS w0 w3 s m { r with last:=l1+12,fin:=0} tv1 n1 σ L' tr gl ch an):=(HSr.o.put 6 (iV (l1+12)) (r':= { r with last:=l1+12,fin:=0}) rfl rfl rfl rfl HSr.o.gls).below hbn'
    have HP3:Hid (GL w3 (Mu s r.b m tv1 r.cv r.av) 1000000 (pZ kp) ((T0,c0)::rest)):=HPw.o.next hbw3 (fun _ _ e=>e)
    have HX3:Hid (Jo w3 kb U):=(hbw3.block kb (aZ HXr.o) HKr.o).trans HXr.o;have HU3:Hid (ay w3 U/\d9 1000000 U/\NM (Mu s r.b m tv1 r.cv r.av) U):=⟨HUr.o.1.bw hbw3 lZ HUr.o.2.2,HUr.o.2⟩
    have HI3:Hid (w3.heap[w2.heap.size]?=some (.cells #[iV l1] 3)):=by
     have:=hZ (w2.setCell (dZ s 6) (iV (l1+12))) (.cells #[iV l1] 3);rw[show (w2.setCell (dZ s 6) (iV (l1+12))).heap.size=w2.heap.size from by simp[World.setCell]]at this
     rw[Hid,hw3];exact this
    have hsz3:w2.heap.size<w3.heap.size:=(aZ HI3.o);have HSw:Hid (∀{q:Nat},Mu s r.b m tv1 r.cv r.av q->q<w2.heap.size):=fun e=>(HSr.o.mu e).2
    generalize ho:w2.heap.size=o at*;clear hw3 hbn hbn' hbw3 HOw HSr HPw HXr HUr;have hkP:=hjk.2;obtain ⟨⟨cb,co,hca,c0',c1',c2',c3'⟩,hTH,hTB⟩:=(HPin.o w3 HS3.o.low).2 k hkP;have HTH:=hid hTH
    have hcb:cb<w0.heap.size:=by
     obtain ⟨cb',co',hca',d0,_⟩:=(HPr.o.pin.2 k hkP).1;rw[hca]at hca';cases hca';exact ag d0
    obtain ⟨_,_,_,z3,_,_,_,_,_,_,_⟩:=HS3.o.blk.get;have z3:=z3
    have HKq:Hid (∀W,SS w0 W s m { r with last:=l1+12,fin:=0} tv1 n1 σ L' tr gl ch an->True):=fun _ _=>trivial
    obtain ⟨x0,x1,x2,_,_,_⟩:=ae HX3.o;clear hTH hTB;rw[hca]at z3
    have HKp:Hid (∀W,Below w0.heap.size w3 W->W.cell? (dZ s 3)=some (.slice (some (dZ cb co)) r.P.len r.P.cap)->Jo W kb U->W.cell? (dZ s 3)=some (.slice (some (dZ cb co)) r.P.len r.P.cap)/\W.cell? (dZ cb (co+k*4))=some (iV (r.P.hd k).v)/\W.cell? (dZ cb (co+k*4+1))=some (.string (r.P.hd k).nm)/\W.cell? (dZ cb (co+k*4+2))=some (.slice (r.P.hd k).a (r.P.hd k).len (r.P.hd k).cap)/\W.cell? (dZ kb 0)=some (iV U.v)/\W.cell? (dZ kb 1)=some (.string U.nm)/\W.cell? (dZ kb 2)=some (.slice U.a U.len U.cap)):=fun W hW h3 hx=>by
     obtain ⟨q0,q1,q2,_,_,_⟩:=ae hx;exact ⟨h3,(hW.cell (p:=(dZ cb (co+k*4))) hcb).trans c0',(hW.cell (p:=(dZ cb (co+k*4+1))) hcb).trans c1',(hW.cell (p:=(dZ cb (co+k*4+2))) hcb).trans c2',q0,q1,q2⟩
    have HK3:Hid (∀W,Below w3.heap.size w3 W->W.cell? (dZ s 3)=some (.slice (some (dZ cb co)) r.P.len r.P.cap)/\W.cell? (dZ cb (co+k*4))=some (iV (r.P.hd k).v)/\W.cell? (dZ cb (co+k*4+1))=some (.string (r.P.hd k).nm)/\W.cell? (dZ cb (co+k*4+2))=some (.slice (r.P.hd k).a (r.P.hd k).len (r.P.hd k).cap)/\W.cell? (dZ kb 0)=some (iV U.v)/\W.cell? (dZ kb 1)=some (.string U.nm)/\W.cell? (dZ kb 2)=some (.slice U.a U.len U.cap)):=fun W hW=>HKp.o W (hW.mono HS3.o.low.size) ((hW.cell (ag z3)).trans z3) ((hW.block kb (aZ HX3.o)).trans HX3.o)
    have HEa:Hid (∀W,Below w3.heap.size w3 W->Calls prog 151 #[.agg #[iV (r.P.hd k).v,.string (r.P.hd k).nm,.slice (r.P.hd k).a (r.P.hd k).len (r.P.hd k).cap],.func (.func 167) #[] #[pZ o]] W fun e w'=>∃X:Tm,e=.returned X.val/\Below w3.heap.size w3 w'/\(ay w' X/\d9 1000000 X/\NM (Mu s r.b m tv1 r.cv r.av) X)/\a9 X=ap (fh l1) (r.P.hd k)):=fun W hW=>
     (Cd W ((hW.block o hsz3).trans HI3.o) (by omega) (HTH.o.below hW) (HPr.o.hd k hkP)).mono fun e w' ⟨X,h1,h2,h3,h4,h5⟩=>⟨X,h1,hW.trans (h2.mono hW.size),⟨h3,vf h3 (by rw[h5];exact F4 (by omega) (by omega) (HPr.o.hd k hkP)),h4.nm (fun q hq=>lL (HS3.o.mu hq).2 hW.size)⟩,h5⟩
    have hkI:(k:Int)<(r.P.len:Int):=by omega
    clear c0' c1' c2' c3' z3 x0 x1 x2;have tok1:True:=trivial;go_wp2_with fail
    go_region_held3 (fun w'=>w'.cell? (dZ s 3)=some (.slice (some (dZ cb co)) r.P.len r.P.cap)/\w'.cell? (dZ cb (co+k*4))=some (iV (r.P.hd k).v)/\w'.cell? (dZ cb (co+k*4+1))=some (.string (r.P.hd k).nm)/\w'.cell? (dZ cb (co+k*4+2))=some (.slice (r.P.hd k).a (r.P.hd k).len (r.P.hd k).cap)/\w'.cell? (dZ kb 0)=some (iV U.v)/\w'.cell? (dZ kb 1)=some (.string U.nm)/\w'.cell? (dZ kb 2)=some (.slice U.a U.len U.cap)) (first|exact HK5.o| (refine HK3.o _ ?_;repeat (first|exact HB4.o|exact bR|refine Below.drew ?_))) (first
     | (have _t:=tok1
        go_at_call 151
        refine (HEa.o _ (by repeat (first|exact bR|refine Below.drew ?_))).mono ?_
        rintro e w4 ⟨A,rfl,hb4,hA4,hc4⟩;rw[show A.val=.agg #[iV A.v,.string A.nm,.slice A.a A.len A.cap]from rfl]
        have HB4:=hid hb4;have HA4:Hid ((ay w4 A/\d9 1000000 A/\NM (Mu s r.b m tv1 r.cv r.av) A)/\a9 A=ap (fh l1) (r.P.hd k)):=⟨hA4,hc4⟩
        have HSm:Hid (∀W,Below w4.heap.size w4 W->Calls prog 124 #[pZ s,.agg #[iV A.v,.string A.nm,.slice A.a A.len A.cap],.agg #[iV U.v,.string U.nm,.slice U.a U.len U.cap]] W (SM w0 w4 s m { r with last:=l1+12,fin:=0} tv1 n1 σ L' tr gl ch an A U)):=fun W hW=>
         (xp A U W ((HS3.o.below hb4).below hW) (by omega) (by omega) ⟨hA4.1.below hW,hA4.2⟩ ⟨(HU3.o.1.below hb4).below hW,HU3.o.2⟩).mono fun e w' h=>h.rebase hW
        clear tok1 hb4 hA4 hc4)
     | (go_at_call 124
        refine (HSm.o _ (by repeat (first|exact bR|refine Below.drew ?_))).mono ?_
        rintro e w5 ⟨ok,r5,tv5,n5,σ5,L5,tr5,rfl,h5,h6⟩;have H5:=hid h5;have H6:=hid h6
        have hP5:r5.P=r.P:=by rcases h6.2.2.2.2 with ⟨_,e,_⟩| ⟨_,e,_⟩| ⟨_,e,_⟩ <;> rw[e]
        have HX5:Hid (Jo w5 kb U):=(h6.2.2.2.1.1.block kb (lL (aZ HX3.o) HB4.o.size) HKr.o).trans ((HB4.o.block kb (aZ HX3.o)).trans HX3.o);have HK5:Hid (w5.cell? (dZ s 3)=some (.slice (some (dZ cb co)) r.P.len r.P.cap)/\w5.cell? (dZ cb (co+k*4))=some (iV (r.P.hd k).v)/\w5.cell? (dZ cb (co+k*4+1))=some (.string (r.P.hd k).nm)/\w5.cell? (dZ cb (co+k*4+2))=some (.slice (r.P.hd k).a (r.P.hd k).len (r.P.hd k).cap)/\w5.cell? (dZ kb 0)=some (iV U.v)/\w5.cell? (dZ kb 1)=some (.string U.nm)/\w5.cell? (dZ kb 2)=some (.slice U.a U.len U.cap)):=HKp.o w5 (Jc HS3.o.low h5.low (lT HB4.o.size h6.2.2.2.1.1.size)) (by have:=h5.blk.get.2.2.2.1;rw[hP5,hca]at this;exact this) HX5.o
        clear h5 h6 hP5))
    all_goals
     have HP5:Hid (GL w5 (Mu s r.b m tv5 r.cv r.av) 1000000 (pZ kp) ((T0,c0)::rest)):=(HP3.o.next (Bw.ofBelow HB4.o) (fun _ _ e=>e)).next H6.o.2.2.2.1.1 H6.o.2.2.2.1.2
     have HU5:Hid (ay w5 U/\d9 1000000 U/\NM (Mu s r.b m tv5 r.cv r.av) U):=⟨(HU3.o.1.below HB4.o).bw H6.o.2.2.2.1.1 lZ HU3.o.2.2,HU3.o.2.1,HU3.o.2.2.anti (HU3.o.1.below HB4.o) H6.o.2.2.2.1.2⟩;have HK5b:Hid (¬Mu s r.b m tv5 r.cv r.av kb):=fun e=>HKr.o (H6.o.2.2.2.1.2 kb (lL (aZ HX3.o) HB4.o.size) e)
     have HI5:Hid (w5.heap[o]?=some (.cells #[iV l1] 3)):=(H6.o.2.2.2.1.1.block o (lL hsz3 HB4.o.size) (fun e=>by have:=(HSw.o e);omega)).trans ((HB4.o.block o hsz3).trans HI3.o)
     have hsz5:w.heap.size<=w5.heap.size:=lT (by omega) (lT HB4.o.size H6.o.2.2.2.1.1.size)
     have hEA:=HE.o A HA4.o.2;clear HK5
     by_cases hok:ok=true
     case pos=>
      have hyes:r5= { r with last:=l1+12,fin:=0} /\∃k2:Nat,k2<=L'/\L5=k2/\ao (L'+1) σ L' [(A,U)]=.yes k2 σ5:=by
       rcases H6.o.2.2.2.2 with ⟨_,e,k2,h1,h2,_,h3⟩| ⟨e,_⟩| ⟨e,_⟩
       .exact ⟨e,k2,h1,h2,h3⟩
       .rw[hok]at e;simp at e
       .rw[hok]at e;simp at e
      subst hok;obtain ⟨rfl,k2,hk2,rfl,hm2⟩:=hyes;rw[hm2]at hEA
      have HEy:Hid (fd (bm r.P) (kq ((T0,c0)::rest)) (a9 U) (r.P.len+1) i (ar r σ gl ch an) L=({ ar { r with last:=l1,fin:=0} σ gl ch an with last:=l1+12,σ:=cs σ5,gl:=((az (r.P.bd k)).map fun b=>(ap (fh l1) b,(ch.map wi).length))++(kq ((T0,c0)::rest)).tail,ch:=match cj (bm r.P) U (k+1)with
       |none=>ch.map wi
       |some q=>ch.map wi++ [⟨kq ((T0,c0)::rest),q,cs σ⟩]},true)):=hEA
      clear hEA hm2;obtain ⟨⟨cb',co',hca',_,_,_,d3⟩,_,hTB⟩:=(HPin.o w5 H5.o.low).2 k hkP;have y3:=H5.o.blk.get.2.2.2.1;rw[hca]at hca' y3;cases hca';have HEn:=hid (I1 (r.P.bd k) w5 H5.o HP5.o hTB (HPr.o.bd k hkP).1 (HPr.o.bd k hkP).2 HI5.o (by omega))
      clear hTB;go_wp2_with fail;refine HEn.o.mono ?_;rintro e w6 ⟨rfl,q,gl',h6s,h6g,h6z,h6f⟩
      have hbw6:Bw (Mu s r.b m tv5 r.cv r.av) w5.heap.size w5 w6:=⟨h6s.low.os.trans H5.o.low.os.symm,h6s.low.tape.trans H5.o.low.tape.symm,h6s.low.output.trans H5.o.low.output.symm,h6z,fun x hx hm=>by
       by_cases hlo:x<w0.heap.size
       .exact (h6s.low.block x hlo).trans (H5.o.low.block x hlo).symm
       .exact h6f x (by omega) hx (fun e=>hm (.inr (.inl e)))⟩
      have HS6:=hid h6s;have HG6:=hid h6g;have HP6:Hid (GL w6 (Mu s r.b m tv5 r.cv r.av) 1000000 (pZ kp) ((T0,c0)::rest)):=HP5.o.next hbw6 (fun _ _ e=>e)
      have HX6:Hid (Jo w6 kb U):=(hbw6.block kb (aZ HX5.o) HK5b.o).trans HX5.o;have hsz6:=lT hsz5 h6z;clear h6s h6g h6z h6f hbw6 HEn y3 d3
      have HFt:Hid (Calls prog 148 #[pZ s,.agg #[iV U.v,.string U.nm,.slice U.a U.len U.cap],iV ((k:Int)+1)] w6 fun e w'=>e=.returned (iV (jq (cj (bm r.P) U (k+1))))/\Below w6.heap.size w6 w'):=by
       have h:=Aa U (k+1) w6 HS6.o.blk (HPin.o _ HS6.o.low) HPr.o.cap hUl (show k+1<=r.P.len by omega)
       rw[Int.natCast_add]at h;exact h
      obtain ⟨v0,v1,v2,_,_,_⟩:=ae HX6.o;go_wp2_with fail;refine HFt.o.mono ?_;rintro e w7 ⟨rfl,hb7⟩;have HS7:=hid (HS6.o.below hb7);have HP7:Hid (GL w7 (Mu s r.b m tv5 r.cv r.av) 1000000 (pZ kp) ((T0,c0)::rest)):=HP6.o.next (Bw.ofBelow hb7) (fun _ _ e=>e)
      have hsz7:=lT hsz6 hb7.size;have hn5:n5<=n+130000:=by have:=H6.o.2.2.1;omega
      clear hb7 v0 v1 v2 HFt
      cases hf7:cj (bm r.P) U (k+1)with
      |none=>
       have HRe:Hid (fd (bm r.P) (kq ((T0,c0)::rest)) (a9 U) (r.P.len+1) i (ar r σ gl ch an) L=(ar { r with last:=l1+12,fin:=0,first:=q} σ5 gl' ch an,true)):=by
        rw[Hid,HEy.o,hf7];unfold ar;rw[HG6.o,List.length_map]
        rfl
       rw[show jq none= -1 from rfl]
       clear hf7;go_wp2_with fail;go_ret;exact ⟨true,_,tv5,n5,σ5,k2,tr5,gl',ch,rfl,HS7.o,by rw[HHd.o];exact HRe.o,⟨rfl,rfl,rfl,rfl⟩,Int.le_refl _,hn5,by show r.last<=l1+12;omega,by show l1+12<=_;omega,by omega,hsz7⟩
      |some q2=>
       have HRe:Hid (∀cv',fd (bm r.P) (kq ((T0,c0)::rest)) (a9 U) (r.P.len+1) i (ar r σ gl ch an) L=(ar { r with last:=l1+12,fin:=0,first:=q,cv:=cv'} σ5 gl' (ch++ [⟨pZ kp,(T0,c0)::rest,q2,tr.length,σ⟩]) an,true)):=fun cv'=>by
        rw[HEy.o,hf7];unfold ar;rw[HG6.o,List.length_map,List.map_append]
        rfl
       rw[show jq (some q2)=(q2:Int)from rfl]
       have hge2:decide ((q2:Int)>=0)=true:=decide_eq_true (by omega)
       clear hf7;have HBn:Hid (Below w7.heap.size w7 (w7.alloc (.cells #[pZ kp,iV q2,iV tr.length] 194))):=bA;have HS8:=hid (HS7.o.below HBn.o);have HP8:Hid (GL (w7.alloc (.cells #[pZ kp,iV q2,iV tr.length] 194)) (Mu s r.b m tv5 r.cv r.av) 1000000 (pZ kp) ((T0,c0)::rest)):=HP7.o.next (Bw.ofBelow HBn.o) (fun _ _ e=>e)
       have hNw:=Sn w7 ⟨pZ kp,(T0,c0)::rest,q2,tr.length,σ⟩;have HNw:=hid hNw;clear hNw;obtain ⟨i0,hi0,hz0,hz1,hz2⟩:=info_parts Tryz.info194;have hlo8:=HS8.o.low.size;obtain ⟨_,_,_,_,_,_,_,_,_,y9,yf⟩:=HS7.o.blk.get;have y9:=y9;obtain ⟨_,_,_,_,_,_,_,_,_,z9,zf⟩:=HS8.o.blk.get;have z9:=z9;have zf9:=zf 9;have hsl8:=HS8.o.blk.lt;clear yf zf;generalize hcvv:r.cv=cvv at*
       go_wp2_with (at_builtin;refine wpList_append_own_at _ rfl (.tmp 83) (.tmp 88) 95 rfl w0.heap.size 194 i0 (.agg #[.pointer none,iV 0,iV 0]) 3 24 Tryz.underlying95 hi0 hz0 hz1 hz2 rfl (by decide) cvv ch.length (fk ch) rfl (hcvv▸HS8.o.chr) (dZ w7.heap.size 0) 1 1 (fk [⟨pZ kp,(T0,c0)::rest,q2,tr.length,σ⟩]) rfl rfl HNw.o (by intro u hu;simp[fk,kl]at hu;rcases hu with rfl|rfl|rfl <;> rfl) (by unfold maxLen;omega) (by omega) hlo8 ?_;intro v' w8 hown' hgrow hnil hat;have hv': ∃g' cap',v'=sZ g' (ch.length+1) cap':=(by rcases hown'.2 with ⟨_,h0⟩| ⟨g',cap',_,h,_⟩;(·omega);(·exact ⟨g',cap',h⟩));obtain ⟨g',cap',rfl⟩:=hv';have hst:w8.heap[s]?=(w7.alloc (.cells #[pZ kp,iV q2,iV tr.length] 194)).heap[s]?:=hgrow.block s hsl8 (fun e=>(HS8.o.dcv s (hcvv▸e.symm)).1 rfl);have q9:w8.cell? (dZ s 9)=some cvv:=(cB hst).trans z9;have qf9:w8.frozen? (dZ s 9)=false:=(World.frozen?_of_block hst).trans zf9)
       subst hcvv
       have HSF:Hid (SS w0 (w8.setCell (dZ s 9) (sZ g' (ch.length+1) cap')) s m { r with last:=l1+12,fin:=0,first:=q,cv:=sZ g' (ch.length+1) cap'} tv5 n5 σ5 k2 tr5 gl' (ch++ [⟨pZ kp,(T0,c0)::rest,q2,tr.length,σ⟩]) an):=HS8.o.push hown' hgrow hat HP8.o ⟨H6.o.1.1,H6.o.2.1.symm⟩ (fun d hd=>(HS3.o.chs d hd).1)
       have hszF:w.heap.size<=(w8.setCell (dZ s 9) (sZ g' (ch.length+1) cap')).heap.size:=by have:=hgrow.size;simp[World.setCell]at*;omega
       clear hown' hgrow hnil hat hst q9 qf9;go_wp2_with fail;go_ret;exact ⟨true,_,tv5,n5,σ5,k2,tr5,gl',_,rfl,HSF.o,by rw[HHd.o];exact HRe.o _,⟨rfl,rfl,rfl,rfl⟩,Int.le_refl _,hn5,by show r.last<=l1+12;omega,by show l1+12<=_;omega,by simp,hszF⟩
     have hfl:ok=false/\∃f5:Int,r5= { r with last:=l1+12,fin:=f5} /\((f5=0/\∃f L2:Nat,L5=L2/\L2<=L/\r.P.len-(k+1)<f/\fd (bm r.P) (kq ((T0,c0)::rest)) (a9 U) (r.P.len+1) i (ar r σ gl ch an) L=fd (bm r.P) (kq ((T0,c0)::rest)) (a9 U) f (k+1) (ar { r with last:=l1+12,fin:=0} σ gl ch an) L2)\/(f5=3/\fd (bm r.P) (kq ((T0,c0)::rest)) (a9 U) (r.P.len+1) i (ar r σ gl ch an) L=(ar { r with last:=l1+12,fin:=3} σ gl ch an,false))):=by
      rcases H6.o.2.2.2.2 with ⟨e,_⟩| ⟨e,e2,k2,hk2,e3,e4⟩| ⟨e,e2,e3,e4⟩
      .exact absurd e hok
      .rw[e4]at hEA
       exact ⟨e,0,e2,.inl ⟨rfl,f',k2,e3,by omega,by omega,hEA⟩⟩
      .rw[e4]at hEA
       exact ⟨e,3,e2,.inr ⟨rfl,hEA⟩⟩
     obtain ⟨rfl,f5,rfl,hres⟩:=hfl;have HRes:=hid hres;clear hres hEA hok;have y7:=H5.o.blk.get.2.2.2.2.2.2.2.1
     have HBk:Hid (Calls prog 145 #[pZ r.b,iV tr.length] w5 fun e w'=>e=.returned (.tuple #[])/\∃tv6:Value,SS w0 w' s m { r with last:=l1+12,fin:=f5} tv6 n5 σ L5 tr gl ch an/\tv6.ownBlock=tv5.ownBlock/\GF r.b m tv5 w5 w'):=(Cp tr.length w5 H5.o.vs H5.o.trk H6.o.1.1).mono fun e w' ⟨h1,tv6,h2,h3,h4,h5⟩=>by
      have hu:=H5.o.undo H6.o.1.1 (fun c hc=>(HS3.o.chs c hc).1) h2 h3 h4 h5
      rw[H6.o.1.2]at hu;have h7:=H6.o.2.1;rw[H6.o.1.2]at h7;rw[h7]at hu;exact ⟨h1,tv6,hu,h2,h5⟩
     go_wp2_with fail;refine HBk.o.mono ?_;rintro e w6 ⟨rfl,tv6,h6s,h6t,h6g⟩
     have hmu6: ∀k,Mu s r.b m tv6 r.cv r.av k->Mu s r.b m tv5 r.cv r.av k:=fun k e=>by
      rcases e with (e|e|e)|e
      .exact .inl (.inl e)
      .exact .inl (.inr (.inl e))
      .exact .inl (rZ (h6t▸e))
      .exact .inr e
     have hbw6:Bw (Mu s r.b m tv5 r.cv r.av) w5.heap.size w5 w6:=SS.ofGF h6g;have HS6:=hid h6s;have HP6:Hid (GL w6 (Mu s r.b m tv6 r.cv r.av) 1000000 (pZ kp) ((T0,c0)::rest)):=HP5.o.next hbw6 (fun k _ e=>hmu6 k e)
     have HU6:Hid (ay w6 U/\d9 1000000 U/\NM (Mu s r.b m tv6 r.cv r.av) U):=⟨HU5.o.1.bw hbw6 lZ HU5.o.2.2,HU5.o.2.1,HU5.o.2.2.anti HU5.o.1 (fun k _ e=>hmu6 k e)⟩
     have HX6:Hid (Jo w6 kb U):=(hbw6.block kb (aZ HX5.o) HK5b.o).trans HX5.o;have HK6b:Hid (¬Mu s r.b m tv6 r.cv r.av kb):=fun e=>HK5b.o (hmu6 kb e)
     have hsz6:=lT hsz5 h6g.size;clear h6s h6t h6g hmu6 hbw6 HBk y7
     have HFt:Hid (Calls prog 148 #[pZ s,.agg #[iV U.v,.string U.nm,.slice U.a U.len U.cap],iV ((k:Int)+1)] w6 fun e w'=>e=.returned (iV (jq (cj (bm r.P) U (k+1))))/\Below w6.heap.size w6 w'):=by
      have h:=Aa U (k+1) w6 HS6.o.blk (HPin.o _ HS6.o.low) HPr.o.cap hUl (show k+1<=r.P.len by omega)
      rw[Int.natCast_add]at h;exact h
     obtain ⟨v0,v1,v2,_,_,_⟩:=ae HX6.o;go_wp2_with fail;refine HFt.o.mono ?_;rintro e w7 ⟨rfl,hb7⟩;have HS7:=hid (HS6.o.below hb7);have HP7:Hid (GL w7 (Mu s r.b m tv6 r.cv r.av) 1000000 (pZ kp) ((T0,c0)::rest)):=HP6.o.next (Bw.ofBelow hb7) (fun _ _ e=>e)
     have HX7:Hid (Jo w7 kb U):=(hb7.block kb (aZ HX6.o)).trans HX6.o;have HU7:Hid (ay w7 U/\d9 1000000 U/\NM (Mu s r.b m tv6 r.cv r.av) U):=⟨HU6.o.1.below hb7,HU6.o.2⟩;have hsz7:=lT hsz6 hb7.size;clear hb7 v0 v1 v2 HFt;have hn5:n5<=n+4000*(k+1-i):=by have:=H6.o.2.2.1;omega
     have HMs:Hid ((if intOf (iV (jq (cj (bm r.P) U (k+1))))<0 then 0 else r.P.len+1-(intOf (iV (jq (cj (bm r.P) U (k+1))))).toNat)<(if intOf (iV (k:Int))<0 then 0 else r.P.len+1-(intOf (iV (k:Int))).toNat)):=by
      have hk0: ¬(intOf (iV (k:Int))<0):=by simp[intOf]
      have hk1:(intOf (iV (k:Int))).toNat=k:=by simp[intOf]
      rw[Hid,if_neg hk0,hk1]
      cases hf:cj (bm r.P) U (k+1)with
      |none=>
       have h0:intOf (iV (jq none))<0:=by simp[jq,intOf]
       rw[if_pos h0];omega
      |some q=>
       have h0: ¬(intOf (iV (jq (some q)))<0):=by simp[jq,intOf]
       have h1:(intOf (iV (jq (some q)))).toNat=q:=by simp[jq,intOf]
       have:=Dx hf;rw[if_neg h0,h1];omega
     go_wp2_with fail;go_roundw
     case rel=>exact ⟨k+1,l1+12,f5,tv6,n5,L5,by omega,by omega,rfl,HS7.o,HP7.o,HX7.o,HK6b.o,HU7.o,hn5,hsz7,by omega,by omega,HRes.o⟩
     case measure=>exact HMs.o
end Go.Proofs.YtmggaclaoefdaabGreat
