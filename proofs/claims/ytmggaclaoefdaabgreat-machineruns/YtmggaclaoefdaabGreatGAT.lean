/- Part of the proof. -/
import Derived.Test.YtmggaclaoefdaabGreatHm7
namespace Go.Proofs.YtmggaclaoefdaabGreat
open Go.RowKit Go.Proofs.Tryz
set_option linter.unusedVariables false
set_option linter.unusedSimpArgs false
set_option maxRecDepth 100000
set_option maxHeartbeats 8000000
section
attribute [local go_sem] Oper.semAt_some
theorem vy.left_ge (r:vy): -1<=r.left:=by
 cases r with
 |ok n=>show (-1:Int)<=(n:Int);omega
 |hit n=>show (-1:Int)<=(n:Int);omega
 |over=>exact Int.le_refl _
theorem Cn (v t:Nat) (s:MS): -1<=(r6 v t s).left:=by
 unfold r6
 cases ja (ah s.2.1) s.2.1.length v s.1 [t]with
 |ok k=>show (-1:Int)<=(k:Int);omega
 |hit n=>exact (vy.hit n).left_ge
 |over=>exact vy.over.left_ge
theorem K3 {F:Nat->Nat->MS->MR} (hF: ∀a b s,-1<=(F a b s).left) (a b:Nat) (s:MS): ∀k,-1<=(m8 F a b k s).left:=by
 intro k
 induction k with
 |zero=>show (-1:Int)<=(s.1:Int);omega
 |succ k ih=>
  unfold m8
  cases hq:m8 F a b k s with
  |yes s'=>exact hF _ _ _
  |no x l bs=>rw[hq]at ih;exact ih
theorem A9: ∀(f a b:Nat) (s:MS),-1<=(jn f a b s).left:=by
 intro f
 induction f with
 |zero=>intro a b s;exact Int.le_refl _
 |succ f ih=>
  intro a b s;obtain ⟨n,l,bs⟩:=s;rw[Fv]
  cases n with
  |zero=>exact Int.le_refl _
  |succ n=>
   show -1<=(xc (jn f) _ _ (n,l,bs)).left
   unfold xc
   split
   .show (-1:Int)<=(n:Int);omega
   split
   .exact Cn _ _ _
   split
   .exact Cn _ _ _
   split
   .show (-1:Int)<=(n:Int);omega
   .exact K3 ih _ _ _ _
theorem Aj {w:World} {lo B n s:Nat} {t:TypeId} {v:Value} {xs:List Value} (h:w.ownsRow lo t s v n xs) (hb: ∀q,v.ownBlock=some q->B<=q):w.ownsRow B t s v n xs:=by
 rcases h with ⟨h1,⟨hv,h0⟩| ⟨g,cap,cur,hv,hlo,hr⟩⟩
 .exact ⟨h1,.inl ⟨hv,h0⟩⟩
 .exact ⟨h1,.inr ⟨g,cap,cur,hv,hb g (by rw[hv];rfl),hr⟩⟩
def Ub (w:World) (lo g cap:Nat) (l:List Cl) (k:Nat) (r:MR) (e:Ending) (w':World):Prop:=∃bv,e=.returned (.tuple #[bv,.bool r.ok,iV ((k:Int)-r.left)])/\j3 lo w' (.slice (some ⟨g,0,none⟩) l.length cap) r.l/\w'.ownsRow w.heap.size 3 1 bv r.bs.length (r.bs.map fun x:Nat=>iV (x:Int))/\Bw (fun q=>q=g) w.heap.size w w'
theorem I3 {lo g cap:Nat} {l:List Cl} {a b k:Nat} (w:World) (hR:j3 lo w (.slice (some ⟨g,0,none⟩) l.length cap) l) (hlo:lo<=w.heap.size) (H:HG (ah l) l.length) (hm: ∀c∈l,c.nm.size<=maxLen) (ha:a<l.length) (hb:b<l.length) (hk:k<=1000000):
 Calls prog 137 #[.slice (some ⟨g,0,none⟩) l.length cap,iV (a:Int),iV (b:Int),iV (k:Int)] w (Ub w lo g cap l k (jn (k+1) a b (k,l,[]))):=by
 have hh:HIn w (some (dZ g 0)) l.length (ah l):=j3.hin hR rfl hm;have HOn:Hid (Calls prog 107 #[sZ g l.length cap] w fun e w'=>∃vb m,e=.returned (pZ vb)/\VW w' vb m (some (dZ g 0)) l.length cap (ah l) (fun _=>none)/\w.heap.size<=vb/\w.heap.size<=m/\Below w.heap.size w w'):=zo w hh
 have HR:=hid hR;have HG':Hid (MG (k,l,([]:List Nat))):=⟨H,hm⟩;have hgl:=(hR.lt g rfl).2;have hrl: -1<=(jn (k+1) a b (k,l,[])).left:=A9 _ _ _ _;have hgood:=gj (k+1) a b (k,l,[]) ⟨H,hm⟩ ha hb;have hrl2:=hgood.le;have hlen:=hgood.len;have HSa:Hid (∀(vb m mb:Nat) (w2:World),MW lo w2 mb vb m nZ (k:Int) g cap l (fun _=>none) []->Calls prog 160 #[pZ mb,iV (a:Int),iV (b:Int)] w2 (S4 w2 lo mb vb m nZ g cap (jn (k+1) a b (k,l,[])))):=fun vb m mb w2 M=>Ii (k+1) lo mb vb m nZ g cap (k,l,[]) (fun _=>none) a b w2 (by show k<k+1;omega) hk (by show 0+k<=1000000;omega) ⟨H,hm⟩ M ha hb
 generalize jn (k+1) a b (k,l,[])=r at*;clear hh hR H hm hgood;have hwk:IntKind.i64.wrap ((k:Int)-r.left)=(k:Int)-r.left:=by simp[IntKind.wrap,IntKind.bits,IntKind.signed];omega
 go_enter Tryz.func137,Tryz.ntmps137
 go_wp2_with fail;refine HOn.o.mono ?_;rintro e w1 ⟨vb,m,rfl,hV1,hvb,hmm,hb1⟩;have hs1:=hb1.size;have hB2:Below w1.heap.size w1 (w1.alloc (.cells #[pZ vb,nZ,iV (k:Int)] 212)):=bA;have HM2:Hid (MW lo (w1.alloc (.cells #[pZ vb,nZ,iV (k:Int)] 212)) w1.heap.size vb m nZ (k:Int) g cap l (fun _=>none) []):=⟨⟨hZ _ _,hV1.below hB2⟩,World.ownsRow.kept (World.ownsRow.kept HR.o (aq hb1 none) (.inr (by simp[Value.ownBlock]))) (aq hB2 none) (.inr (by simp[Value.ownBlock])),World.ownsRow_nil _ _ _ _,by simp;omega⟩
 have HB2:=hid (jl hb1 hB2);have hs2:(w1.alloc (.cells #[pZ vb,nZ,iV (k:Int)] 212)).heap.size=w1.heap.size+1:=by simp
 clear hV1 hb1 hB2;go_wp2_with fail;generalize w1.alloc (.cells #[pZ vb,nZ,iV (k:Int)] 212)=w2 at*;refine (HSa.o vb m w1.heap.size w2 HM2.o).mono ?_;rintro e w3 ⟨rfl,bv',σ',hM3,hB3,hat⟩;have HM3:=hid hM3;have m1:=hM3.mkg.cells.2.1;have m2:=hM3.mkg.cells.2.2.1
 have HO3:Hid (w3.ownsRow w.heap.size 3 1 bv' r.bs.length (r.bs.map fun x:Nat=>iV (x:Int))):=Aj hM3.bnd fun q hq=>by
  rcases hat with e| ⟨p,e,hp⟩
  .rw[e]at hq;cases hq
  .rw[e]at hq;have:=oj hq;omega
 have HR3:Hid (j3 lo w3 (sZ g l.length cap) r.l):=by have h9:=hM3.row;rw[hlen]at h9;exact h9
 have HB3:Hid (Bw (fun q=>q=g) w.heap.size w w3):=(Bw.ofBelow HB2.o).trans ((hB3.mono (by have:=HB2.o.size;omega)).wide fun q hq hm=>by
  rcases hm with e|e|e|e
  .omega
  .omega
  .exact e
  .cases e)
 clear hM3 hB3 hat;go_wp2_with fail
 go_region_held3 (fun W=>W.cell? (dZ w1.heap.size 1)=some bv'/\W.cell? (dZ w1.heap.size 2)=some (iV r.left)) (exact ⟨m1,m2⟩) (fail)
 all_goals
  go_wp2_with fail;refine bodyPost_ret (v:=.tuple #[bv',.bool r.ok,iV ((k:Int)-r.left)]) (by simp[results,Tryz.results137,go_sem]) rfl ?_
  exact ⟨bv',rfl,HR3.o,HO3.o,by first|exact HB3.o.drew|exact HB3.o⟩
end
abbrev HSt:=List Cl × (Int->Option Int)
def kt (n:Int) (p:HSt):HSt × Int:=match p.2 n with
 |some at'=>(p,at')
 |none=>((p.1++ [fa p.1.length],lv p.2 n p.1.length),p.1.length)
def i5 (g:Nat->HSt->HSt × Int) (at':Nat):Nat->HSt->HSt
 |0,p=>p
 |k+1,p=>(((g k (i5 g at' k p)).1.1.set (at'+1+k) (setN (ah (g k (i5 g at' k p)).1.1 (at'+1+k)) (g k (i5 g at' k p)).2)),(g k (i5 g at' k p)).1.2)
def j4 (at':Nat) (k:Nat):List Cl:=(List.range k).map fun i:Nat=>fa (at'+1+i:Nat)
def bp:Tm->HSt->HSt × Int
 | .nil,p=>(p,0)
 | .mk v nm a len cap f,p=>if v≠0 then kt v p else (i5 (fun i=>bp (f i)) p.1.length len (p.1++(⟨2,len,nm⟩::j4 p.1.length len),p.2),p.1.length)
theorem Lk (n:Int) (p:HSt):p.1.length<=(kt n p).1.1.length/\(kt n p).1.1.length<=p.1.length+1:=by
 unfold kt
 split
 .exact ⟨lZ,Nat.le_succ _⟩
 .simp
theorem Bk {g:Nat->HSt->HSt × Int} {c:Nat->Nat} {len:Nat} (hg: ∀k,k<len->∀p:HSt,p.1.length<=(g k p).1.1.length/\(g k p).1.1.length+1<=p.1.length+2*c k) (at':Nat) (p:HSt): ∀k,k<=len->p.1.length<=(i5 g at' k p).1.length/\(i5 g at' k p).1.length+k<=p.1.length+2*bj c k:=by
 intro k
 induction k with
 |zero=>intro _;exact ⟨lZ,by simp[i5,bj]⟩
 |succ k ih=>
  intro hk;obtain ⟨h1,h2⟩:=ih (by omega)
  obtain ⟨h3,h4⟩:=hg k (by omega) (i5 g at' k p)
  have e:(i5 g at' (k+1) p).1.length=(g k (i5 g at' k p)).1.1.length:=by simp[i5]
  rw[e];refine ⟨by omega,?_⟩
  show _<=_+2*(bj c k+c k)
  omega
theorem ms {N:Int} {T:Tm} (hT:d9 N T): ∀p:HSt,p.1.length<=(bp T p).1.1.length/\(bp T p).1.1.length+1<=p.1.length+2*cnt T:=by
 induction T with
 |nil=>exact hT.elim
 |mk v nm a len cap f ih=>
  intro p;have hc:cnt (.mk v nm a len cap f)=1+bj (fun i=>cnt (f i)) len:=rfl
  unfold bp
  by_cases hv:v=0
  .rw[if_neg (by simp[hv])]
   have:=Bk (g:=fun i=>bp (f i)) (c:=fun i=>cnt (f i)) (fun k hk=>ih k (hT.2.2.2.2 k hk)) p.1.length (p.1++(⟨2,len,nm⟩::j4 p.1.length len),p.2) len lZ
   have hL:(p.1++((⟨2,len,nm⟩:Cl)::j4 p.1.length len),p.2).1.length=p.1.length+(len+1):=by simp[j4]
   rw[hL]at this;rw[hc];generalize (i5 (fun i=>bp (f i)) p.1.length len (p.1++(⟨2,len,nm⟩::j4 p.1.length len),p.2))=r at*
   show _<=r.1.length/\r.1.length+1<=_
   omega
  .rw[if_pos hv,hc]
   have:=Lk v p;omega
theorem Du (w:World) (c:Cl): ∀j u,(ce [c])[j]?=some u->(w.alloc (.cells #[iV c.k,iV c.n,.string c.nm] 81)).cell? ((⟨w.heap.size,0,none⟩:Addr).add j)=some u:=by
 intro j u hj;have hb:=hZ w (.cells #[iV c.k,iV c.n,.string c.nm] 81);rw[ir,cell_of_row _ _ _ _ _ _ hb]
 simpa[ce,dg]using hj
def Rm (w:World) (lo m:Nat) (v:Value) (q:HSt × Int) (e:Ending) (w':World):Prop:=∃v',e=.returned (.tuple #[v',iV q.2])/\j3 lo w' v' q.1.1/\IM w' m q.1.2/\Bw (fun k=>k=m\/v.ownBlock=some k) w.heap.size w w'/\(v'.ownBlock=v.ownBlock\/∃g,v'.ownBlock=some g/\w.heap.size<=g)
theorem j3.kept {lo:Nat} {w w':World} {v:Value} {l:List Cl} {row:Option Nat} (h:j3 lo w v l) (hg:w.grownBy w' row) (hne:v.ownBlock=none\/v.ownBlock≠row):j3 lo w' v l:=World.ownsRow.kept h hg hne
theorem j3.lt {lo:Nat} {w:World} {v:Value} {l:List Cl} (h:j3 lo w v l): ∀g,v.ownBlock=some g->lo<=g/\g<w.heap.size:=World.ownsRow.lt h
theorem O3 (v:Value):v.ownBlock=none\/v.ownBlock≠none:=by
 cases v.ownBlock with
 |none=>exact .inl rfl
 |some g=>exact .inr (by simp)
theorem j3.below {lo:Nat} {w w':World} {v:Value} {l:List Cl} (h:j3 lo w v l) (hb:Below w.heap.size w w'):j3 lo w' v l:=h.kept (aq hb none) (O3 _)
theorem IM.ne_row {lo:Nat} {w:World} {m:Nat} {σ:Int->Option Int} {v:Value} {l:List Cl} (h:IM w m σ) (hC:j3 lo w v l):some m≠v.ownBlock:=fun e=>by
 rcases hC.2 with ⟨hv,_⟩| ⟨g,cap,cur,hv,_,hg,_⟩
 .subst hv;cases e
 .subst hv
  have:m=g:=oj e;subst this;exact h.ne_block hg rfl
theorem Eh {lo m:Nat} {v:Value} {p:HSt} {n:Int} (hn:0<n/\n<=12) (w:World) (hC:j3 lo w v p.1) (hM:IM w m p.2) (hlo:lo<=w.heap.size) (hl:p.1.length<=2000000):
 Calls prog 127 #[v,iV n,.map (some m)] w (Rm w lo m v (kt n p)):=by
 obtain ⟨l,σ⟩:=p;have hlk:=hM.look2 (i:=n) (by omega) (by omega)
 obtain ⟨sa,cp,rfl,hcp,_⟩:=hC.form;have HC:=hid hC;have HM:=hid hM;have HNe:=hid (hM.ne_row hC);have hl':=hl
 cases hσ:σ n with
 |some x=>
  have HP:Hid (kt n (l,σ)=((l,σ),x)):=by rw[Hid];unfold kt;simp only[hσ]
  have hlk':(Instr.lookup 103 (.map (some m)) (iV n) true).run prog w=.ok (.tuple #[iV x,.bool true]) w:=by
   have h9:=hlk;simp only[hσ]at h9;exact h9
  clear hlk hC hM hl hσ
  go_enter Tryz.func127,Tryz.ntmps127
  go_wp2_with fail;refine bodyPost_ret (v:=.tuple #[.slice sa l.length cp,iV x]) ?_ rfl (by rw[HP.o];exact ⟨_,rfl,HC.o,HM.o,Bw.refl _ _ _,.inl rfl⟩)
  simp[results,Tryz.results127,go_sem]
 |none=>
  have HP:Hid (kt n (l,σ)=((l++ [fa l.length],lv σ n l.length),(l.length:Int))):=by rw[Hid];unfold kt;simp only[hσ]
  have hlk':(Instr.lookup 103 (.map (some m)) (iV n) true).run prog w=.ok (.tuple #[iV 0,.bool false]) w:=by
   have h9:=hlk;simp only[hσ]at h9;exact h9
  obtain ⟨w1,hrun,hm1,hg1⟩:=hM.store (i:=n) (by omega) (by omega) (l.length:Int)
  have HC1:Hid (j3 lo w1 (.slice sa l.length cp) l):=hC.kept hg1 (.inr fun e=>HNe.o e.symm)
  have HM1:=hid hm1;have HB1:Hid (Bw (fun k=>k=m\/(Value.slice sa l.length cp).ownBlock=some k) w.heap.size w w1):=⟨hg1.os,hg1.tape,hg1.output,hg1.size,fun k hk hn=>hg1.block k hk (fun e=>hn (.inl (oj e)))⟩
  have HF:Hid (∀W:World,Calls prog 109 #[iV (l.length:Int)] W fun e w'=>e=.returned (zg (fa l.length))/\Below W.heap.size W w'):=fun W=>qd _ W
  have hs1:=hg1.size;obtain ⟨i0,hi,hi0,hi1,hi2⟩:=info_parts P5;clear hlk hC hM hl hσ hm1 hg1
  go_enter Tryz.func127,Tryz.ntmps127
  go_wp2_with fail;refine (HF.o _).mono ?_;rintro e w2 ⟨rfl,hb2⟩;rw[show zg (fa (l.length:Int))=.agg #[iV 1,iV (l.length:Int),.string ⟨#[]⟩]from rfl]
  have HB3:Hid (Below w1.heap.size w1 (w2.alloc (.cells #[iV 1,iV (l.length:Int),.string ⟨#[]⟩] 81))):=rz hb2 _;have HC3:=hid (HC1.o.below HB3.o);have HN3:=hid (Du w2 (fa (l.length:Int)));have hs3:w.heap.size<=(w2.alloc (.cells #[iV 1,iV (l.length:Int),.string ⟨#[]⟩] 81)).heap.size:=by have:=HB3.o.size;omega
  have hlo3:lo<=(w2.alloc (.cells #[iV 1,iV (l.length:Int),.string ⟨#[]⟩] 81)).heap.size:=by omega
  have HM3:Hid (IM (w2.alloc (.cells #[iV 1,iV (l.length:Int),.string ⟨#[]⟩] 81)) m (lv σ n l.length)):=HM1.o.kept (aq HB3.o none) (by simp)
  have HW3:=hid (HB1.o.trans (Bw.ofBelow (HB3.o.mono hs1)));clear hb2;go_wp2_with (at_builtin;refine wpList_append_own_at _ rfl (.tmp 24) (.tmp 27) 25 rfl lo 81 i0 (.agg #[iV 0,iV 0,.string ByteArray.empty]) 3 32 Tryz.underlying25 hi hi0 hi1 hi2 rfl (by decide) (.slice sa l.length cp) l.length (ce l) rfl HC3.o (dZ w2.heap.size 0) 1 1 (ce [fa (l.length:Int)]) rfl rfl HN3.o (nt _) (by unfold maxLen;omega) (by omega) hlo3 ?_;intro v' w6 hown' hgrow hnil hat)
  refine bodyPost_ret (v:=.tuple #[v',iV (l.length:Int)]) (by simp[results,Tryz.results127,go_sem]) rfl ?_
  rw[HP.o];refine ⟨v',rfl,?_,HM3.o.kept hgrow HNe.o,HW3.o.grown hgrow hs3 (fun k hk=> rZ hk),?_⟩
  .unfold j3
   rw[l6,List.length_append];exact hown'
  .rcases hat with h|h
   .exact .inl h
   .exact .inr ⟨_,h,hs3⟩
def Pu (m:Nat) (v:Value) (k:Nat):Prop:=k=m\/v.ownBlock=some k
def Up (w:World) (v v':Value):Prop:=∀g,v'.ownBlock=some g->v.ownBlock=some g\/w.heap.size<=g
structure pg (lo m:Nat) (w0:World) (v0:Value) (w:World) (v:Value) (p:HSt):Prop where
 row:j3 lo w v p.1
 map:IM w m p.2
 bw:Bw (Pu m v0) w0.heap.size w0 w
 fr:Up w0 v0 v
theorem pg.mp {lo m:Nat} {w0:World} {v0:Value} {w:World} {v:Value} {p:HSt} (h:pg lo m w0 v0 w v p): ∀k,k<w0.heap.size->Pu m v k->Pu m v0 k:=fun k hk hm=>by
 rcases hm with e|e
 .exact .inl e
 .rcases h.fr k e with e|e
  .exact .inr e
  .omega
theorem pg.nm {lo m:Nat} {w0:World} {v0:Value} {w:World} {v:Value} {p:HSt} {T:Tm} (h:pg lo m w0 v0 w v p) (hT:ay w0 T) (hn:NM (Pu m v0) T):NM (Pu m v) T:=hn.anti hT h.mp
theorem pg.tin {lo m:Nat} {w0:World} {v0:Value} {w:World} {v:Value} {p:HSt} {T:Tm} (h:pg lo m w0 v0 w v p) (hT:ay w0 T) (hn:NM (Pu m v0) T):ay w T:=hT.bw h.bw lZ hn
theorem pg.below {lo m:Nat} {w0:World} {v0:Value} {w w':World} {v:Value} {p:HSt} (h:pg lo m w0 v0 w v p) (hb:Below w.heap.size w w'):pg lo m w0 v0 w' v p:=
 ⟨h.row.below hb,h.map.kept (aq hb none) (by simp),h.bw.trans (Bw.ofBelow (hb.mono h.bw.size)),h.fr⟩
theorem pg.grown {lo m:Nat} {w0:World} {v0:Value} {w w':World} {v v':Value} {p:HSt} {l:List Cl} (h:pg lo m w0 v0 w v p) (hr:j3 lo w' v' l) (hg:w.grownBy w' v.ownBlock) (hat:v'.ownBlock=v.ownBlock\/v'.ownBlock=some w.heap.size):pg lo m w0 v0 w' v' (l,p.2):=by
 refine ⟨hr,h.map.kept hg (h.map.ne_row h.row),h.bw.grown hg h.bw.size (fun k hk=>?_),fun g hg'=>?_⟩
 .rcases h.fr k hk with e|e
  .exact rZ e
  .exact .inl e
 .rcases hat with e|e
  .rw[e]at hg';exact h.fr g hg'
  .rw[e]at hg';have:w.heap.size=g:=oj hg'
   exact .inr (by rw[<-this];exact h.bw.size)
theorem pg.put {lo m:Nat} {w0:World} {v0:Value} {w w':World} {v:Value} {p:HSt} {q:HSt × Int} {e:Ending} (h:pg lo m w0 v0 w v p) (hr:Rm w lo m v q e w'): ∃v',e=.returned (.tuple #[v',iV q.2])/\pg lo m w0 v0 w' v' q.1:=by
 obtain ⟨v',rfl,h1,h2,h3,h4⟩:=hr;refine ⟨v',rfl,h1,h2,h.bw.trans ((h3.mono h.bw.size).wide h.mp),fun g hg=>?_⟩
 rcases h4 with e| ⟨g',e,hg'⟩
 .rw[e]at hg;exact h.fr g hg
 .rw[e]at hg;have:g'=g:=oj hg
  have:=h.bw.size;exact .inr (by omega)
theorem pg.o {lo m:Nat} {w0 wa:World} {v0:Value} {w:World} {v:Value} {q:HSt × Int} (hb:Below w0.heap.size w0 wa) (h:pg lo m wa v0 w v q.1) (hf:v.ownBlock=v0.ownBlock\/∃g,v.ownBlock=some g/\w0.heap.size<=g):Rm w0 lo m v0 q (.returned (.tuple #[v,iV q.2])) w:=
 ⟨v,rfl,h.row,h.map,(Bw.ofBelow hb).trans (h.bw.mono hb.size),hf⟩
theorem pg.last {lo m:Nat} {w0 wa:World} {v0:Value} {w:World} {v:Value} {p:HSt} (hb:Below w0.heap.size w0 wa) (h:pg lo m wa v0 w v p) (hl:0<p.1.length):v.ownBlock=v0.ownBlock\/∃g,v.ownBlock=some g/\w0.heap.size<=g:=by
 rcases h.row.2 with ⟨_,h0⟩| ⟨g,cap,cur,hv,_⟩
 .omega
 .subst hv
  rcases h.fr g rfl with e|e
  .exact .inl e.symm
  .exact .inr ⟨g,rfl,lT hb.size e⟩
theorem Mo (at' k:Nat):j4 at' (k+1)=j4 at' k++ [fa ((at':Int)+1+(k:Int))]:=by
 unfold j4;rw[List.range_succ,List.map_append];simp
def Ta (T:Tm):Prop:=∀(lo m:Nat) (v:Value) (p:HSt) (w:World),ay w T->d9 12 T->NM (Pu m v) T->j3 lo w v p.1->IM w m p.2->lo<=w.heap.size->p.1.length+5*cnt T<=2000000->Calls prog 94 #[v,T.val,.map (some m)] w (Rm w lo m v (bp T p))
theorem Ol {T:Tm} (hv:T.v≠0):Ta T:=by
 intro lo m v p w hT hO hN hC hM hlo hl
 cases T with
 |nil=>exact hO.elim
 |mk z nm a len cap f=>
 have hz:z≠0:=hv;have hb:=bne_iff_ne.2 hz;have HBa:Hid (Below w.heap.size w (w.alloc (.cells #[iV z,.string nm,.slice a len cap] 67))):=bA;have HP:Hid (pg lo m (w.alloc (.cells #[iV z,.string nm,.slice a len cap] 67)) v (w.alloc (.cells #[iV z,.string nm,.slice a len cap] 67)) v p):=⟨hC.below HBa.o,hM.kept (aq HBa.o none) (by simp),Bw.refl _ _ _,fun g hg=> .inl hg⟩
 have HC:Hid (Calls prog 127 #[v,iV z,.map (some m)] (w.alloc (.cells #[iV z,.string nm,.slice a len cap] 67)) (Rm (w.alloc (.cells #[iV z,.string nm,.slice a len cap] 67)) lo m v (kt z p))):=Eh ⟨by have:=hO.1;omega,hO.2.1⟩ _ HP.o.row HP.o.map (lT hlo HBa.o.size) (by omega)
 have HE:Hid (bp (.mk z nm a len cap f) p=kt z p):=by rw[Hid];unfold bp;rw[if_pos hz]
 clear hT hO hN hC hM hlo hl hz hv
 show Calls prog 94 #[v,.agg #[iV z,.string nm,.slice a len cap],.map (some m)] w _
 go_enter Tryz.func94,Tryz.ntmps94
 go_wp2_with fail;refine HC.o.mono ?_;rintro e w1 ⟨v',rfl,h1,h2,h3,h4⟩;go_wp2_with fail;refine bodyPost_ret (v:=.tuple #[v',iV (kt z p).2]) (by simp[results,Tryz.results94,go_sem]) rfl ?_
 rw[HE.o];refine ⟨v',rfl,h1,h2,(Bw.ofBelow HBa.o).trans (h3.mono HBa.o.size),?_⟩
 rcases h4 with e| ⟨g,e,hg⟩
 .exact .inl e
 .exact .inr ⟨g,e,lT HBa.o.size hg⟩
theorem Qu {nm:ByteArray} {a:Option Addr} {len cap:Nat} {f:Nat->Tm} (ih: ∀i,i<len->Ta (f i)):Ta (.mk 0 nm a len cap f):=by
 intro lo m v p w hT hO hN hC hM hlo hl;obtain ⟨l,σ⟩:=p;have hcn:cnt (.mk 0 nm a len cap f)=1+bj (fun i=>cnt (f i)) len:=rfl
 have HIH:=hid ih;have HOk:=hid hO.2.2.2.2;have hl4:len<=4:=hO.2.2.2.1;obtain ⟨sa,cp,rfl,hcp,_⟩:=hC.form;have HBa:Hid (Below w.heap.size w (w.alloc (.cells #[iV 0,.string nm,.slice a len cap] 67))):=bA;have HTa:=hid (hT.below HBa.o);have HXa:Hid ((w.alloc (.cells #[iV 0,.string nm,.slice a len cap] 67)).heap[w.heap.size]?=some (.cells #[iV 0,.string nm,.slice a len cap] 67)):=hZ _ _;have HPa:Hid (pg lo m (w.alloc (.cells #[iV 0,.string nm,.slice a len cap] 67)) (.slice sa l.length cp) (w.alloc (.cells #[iV 0,.string nm,.slice a len cap] 67)) (.slice sa l.length cp) (l,σ)):=⟨hC.below HBa.o,hM.kept (aq HBa.o none) (by simp),Bw.refl _ _ _,fun g hg=> .inl hg⟩
 have hsa:(w.alloc (.cells #[iV 0,.string nm,.slice a len cap] 67)).heap.size=w.heap.size+1:=by simp
 have HNe:Hid (¬Pu m (.slice sa l.length cp) w.heap.size):=by
  rintro (e|e)
  .have:=hM.lt;omega
  .have:=(hC.lt _ e).2;omega
 have HNM:=hid hN;have hlo':=hlo;have hll:l.length+5*(1+bj (fun i=>cnt (f i)) len)<=2000000:=by have h9:=hl;rw[hcn]at h9;exact h9
 have HE:Hid (bp (.mk 0 nm a len cap f) (l,σ)=(i5 (fun i=>bp (f i)) l.length len (l++(⟨2,len,nm⟩::j4 l.length len),σ),(l.length:Int))):=by rw[Hid];unfold bp;rw[if_neg (by simp)]
 obtain ⟨i0,hi,hi0,hi1,hi2⟩:=info_parts P5;clear hT hO hN hC hM hlo hl ih hcn
 show Calls prog 94 #[.slice sa l.length cp,.agg #[iV 0,.string nm,.slice a len cap],.map (some m)] w _
 go_enter Tryz.func94,Tryz.ntmps94
 have HPb:Hid (pg lo m (w.alloc (.cells #[iV 0,.string nm,.slice a len cap] 67)) (.slice sa l.length cp) ((w.alloc (.cells #[iV 0,.string nm,.slice a len cap] 67)).alloc (.cells #[iV 2,iV (len:Int),.string nm] 81)) (.slice sa l.length cp) (l,σ)):=HPa.o.below bA
 have HNb:Hid (∀j u,(ce [(⟨2,len,nm⟩:Cl)])[j]?=some u->((w.alloc (.cells #[iV 0,.string nm,.slice a len cap] 67)).alloc (.cells #[iV 2,iV (len:Int),.string nm] 81)).cell? ((dZ (w.heap.size+1) 0).add j)=some u):=by
  have h9:=Du (w.alloc (.cells #[iV 0,.string nm,.slice a len cap] 67)) (⟨2,len,nm⟩:Cl);rw[hsa]at h9;exact h9
 have hlb:lo<=((w.alloc (.cells #[iV 0,.string nm,.slice a len cap] 67)).alloc (.cells #[iV 2,iV (len:Int),.string nm] 81)).heap.size:=by simp;omega
 go_wp2_with (at_builtin;refine wpList_append_own_at _ rfl (.tmp 25) (.tmp 32) 25 rfl lo 81 i0 (.agg #[iV 0,iV 0,.string ByteArray.empty]) 3 32 Tryz.underlying25 hi hi0 hi1 hi2 rfl (by decide) (.slice sa l.length cp) l.length (ce l) rfl HPb.o.row (dZ (w.heap.size+1) 0) 1 1 (ce [(⟨2,len,nm⟩:Cl)]) rfl rfl HNb.o (nt _) (by unfold maxLen;omega) (by omega) hlb ?_;intro v' w6 hown' hgrow hnil hat;have HP6:Hid (pg lo m (w.alloc (.cells #[iV 0,.string nm,.slice a len cap] 67)) (.slice sa l.length cp) w6 v' (l++ [(⟨2,len,nm⟩:Cl)],σ)):=HPb.o.grown (by unfold j3;rw[l6,List.length_append];exact hown') hgrow hat;have HX6:Hid (w6.heap[w.heap.size]?=some (.cells #[iV 0,.string nm,.slice a len cap] 67)):=(HP6.o.bw.block _ (by omega) HNe.o).trans HXa.o;obtain ⟨x0,x1,x2,_⟩:=ae HX6.o;clear hown' hgrow hnil hat)
 generalize hwa:w.alloc (.cells #[iV 0,.string nm,.slice a len cap] 67)=wa at*;clear HPb HNb hlb x0 x1 x2
 go_loopw [0,37] (fun hv iv wq=>∃k:Nat,k<=len/\iv=iV k/\pg lo m wa (.slice sa l.length cp) wq hv (l++(⟨2,len,nm⟩::j4 l.length k),σ)) (fun _ v _=>len-(intOf v).toNat)
 case atStart=>exact ⟨0,oZ,rfl,HP6.o⟩
 case round=>
  obtain ⟨k,hk,rfl,hP⟩:=hrel;have HP:=hid hP;have hLk:(l++((⟨2,len,nm⟩:Cl)::j4 l.length k)).length=l.length+1+k:=by simp[j4];omega
  obtain ⟨sb,cb,rfl,hcb,_⟩:=hP.row.form;simp only[hLk]at HP hP hcb |-;have hsr:=hP.bw.size;clear hP HP6 HX6
  by_cases hlt:k<len
  case pos=>
   have hkI:(k:Int)<(len:Int):=by omega
   have HF:Hid (Calls prog 109 #[iV ((l.length:Int)+1+(k:Int))] wr fun e w'=>e=.returned (zg (fa ((l.length:Int)+1+(k:Int))))/\Below wr.heap.size wr w'):=qd _ wr
   have hw1:IntKind.i64.wrap ((l.length:Int)+1)=(l.length:Int)+1:=by simp[IntKind.wrap,IntKind.bits,IntKind.signed];omega
   have hw2:IntKind.i64.wrap ((l.length:Int)+1+(k:Int))=(l.length:Int)+1+(k:Int):=by simp[IntKind.wrap,IntKind.bits,IntKind.signed];omega
   go_wp2_with fail;refine HF.o.mono ?_;rintro e w7 ⟨rfl,hb7⟩;rw[show zg (fa ((l.length:Int)+1+(k:Int)))=.agg #[iV 1,iV ((l.length:Int)+1+(k:Int)),.string ⟨#[]⟩]from rfl]
   have HP8:Hid (pg lo m wa (.slice sa l.length cp) (w7.alloc (.cells #[iV 1,iV ((l.length:Int)+1+(k:Int)),.string ⟨#[]⟩] 81)) (.slice sb (l.length+1+k) cb) (l++(⟨2,len,nm⟩::j4 l.length k),σ)):=HP.o.below (rz hb7 _)
   have HR8:Hid ((w7.alloc (.cells #[iV 1,iV ((l.length:Int)+1+(k:Int)),.string ⟨#[]⟩] 81)).ownsRow lo 81 3 (.slice sb (l.length+1+k) cb) (l.length+1+k) (ce (l++(⟨2,len,nm⟩::j4 l.length k)))):=by
    have h9:=HP8.o.row;unfold j3 at h9;rw[hLk]at h9;exact h9
   have HN8:=hid (Du w7 (fa ((l.length:Int)+1+(k:Int))));have hl8:lo<=(w7.alloc (.cells #[iV 1,iV ((l.length:Int)+1+(k:Int)),.string ⟨#[]⟩] 81)).heap.size:=by have:=hb7.size;simp;omega
   clear hb7;go_wp2_with (at_builtin;refine wpList_append_own_at _ rfl (.tmp 40) (.tmp 46) 25 rfl lo 81 i0 (.agg #[iV 0,iV 0,.string ByteArray.empty]) 3 32 Tryz.underlying25 hi hi0 hi1 hi2 rfl (by decide) (.slice sb (l.length+1+k) cb) (l.length+1+k) (ce (l++(⟨2,len,nm⟩::j4 l.length k))) rfl HR8.o (dZ w7.heap.size 0) 1 1 (ce [fa ((l.length:Int)+1+(k:Int))]) rfl rfl HN8.o (nt _) (by unfold maxLen;omega) (by omega) hl8 ?_;intro v9 w9 hown' hgrow hnil hat;have HP9:Hid (pg lo m wa (.slice sa l.length cp) w9 v9 (l++(⟨2,len,nm⟩::j4 l.length (k+1)),σ)):=HP8.o.grown (by unfold j3;rw[Mo,<-List.cons_append,<-List.append_assoc,l6,List.length_append,hLk];exact hown') hgrow hat;clear hown' hgrow hnil hat)
   go_roundw
   case rel=>exact ⟨k+1,by omega,by go_num,HP9.o⟩
   case measure=>simp[intOf];omega
  have hkI: ¬((k:Int)<(len:Int)):=by omega
  obtain rfl:k=len:=by omega
  have HXr:=hid ((HP.o.bw.block _ (by omega) HNe.o).trans HXa.o)
  obtain ⟨x0,x1,x2,_⟩:=ae HXr.o
  have HKL:Hid (∀j,j<=k->l.length+1+k<=(i5 (fun i=>bp (f i)) l.length j (l++(⟨2,k,nm⟩::j4 l.length k),σ)).1.length/\(i5 (fun i=>bp (f i)) l.length j (l++(⟨2,k,nm⟩::j4 l.length k),σ)).1.length+j<=l.length+1+k+2*bj (fun i=>cnt (f i)) j):=fun j hj=>by
   have h9:=Bk (g:=fun i=>bp (f i)) (c:=fun i=>cnt (f i)) (fun i hi'=>ms (HOk.o i hi')) l.length (l++(⟨2,k,nm⟩::j4 l.length k),σ) j hj
   rw[show ((l++((⟨2,k,nm⟩:Cl)::j4 l.length k)),σ).1.length=l.length+1+k from hLk]at h9
   exact h9
  generalize hwr:wr=W1 at*;go_wp2_with fail;clear x0 x1 x2 HXr
  go_loopw [0,52] (fun hv iv wq=>∃j:Nat,j<=k/\iv=iV j/\pg lo m wa (.slice sa l.length cp) wq hv (i5 (fun i=>bp (f i)) l.length j (l++(⟨2,k,nm⟩::j4 l.length k),σ))) (fun _ v _=>k-(intOf v).toNat)
  case atStart=>exact ⟨0,oZ,rfl,HP.o⟩
  case round=>
   obtain ⟨j,hj,rfl,hP⟩:=hrel;obtain ⟨hL1,hL2⟩:=HKL.o j hj;have hsr:=hP.bw.size;have hSm:bj (fun i=>cnt (f i)) j<=bj (fun i=>cnt (f i)) k:=ml _ hj
   by_cases hlt:j<k
   case pos=>
    have HKS:Hid (i5 (fun i=>bp (f i)) l.length (j+1) (l++(⟨2,k,nm⟩::j4 l.length k),σ)=(((bp (f j) (i5 (fun i=>bp (f i)) l.length j (l++(⟨2,k,nm⟩::j4 l.length k),σ))).1.1.set (l.length+1+j) (setN (ah (bp (f j) (i5 (fun i=>bp (f i)) l.length j (l++(⟨2,k,nm⟩::j4 l.length k),σ))).1.1 (l.length+1+j)) (bp (f j) (i5 (fun i=>bp (f i)) l.length j (l++(⟨2,k,nm⟩::j4 l.length k),σ))).2)),(bp (f j) (i5 (fun i=>bp (f i)) l.length j (l++(⟨2,k,nm⟩::j4 l.length k),σ))).1.2)):=rfl
    generalize i5 (fun i=>bp (f i)) l.length j (l++(⟨2,k,nm⟩::j4 l.length k),σ)=q at*
    have hSm1:bj (fun i=>cnt (f i)) j+cnt (f j)<=bj (fun i=>cnt (f i)) k:=ml (fun i=>cnt (f i)) (show j+1<=k from hlt)
    have HP:=hid hP;obtain ⟨sc,cc,rfl,hcc,_⟩:=hP.row.form;have hjI:(j:Int)<(k:Int):=by omega
    have hT:=hP.tin HTa.o HNM.o;have hK:=ay.kid (T:=.mk 0 nm a k cap f) hT hlt;obtain ⟨b,o,ha,c0,c1,c2⟩:=ay.row (T:=.mk 0 nm a k cap f) hT hlt;have ha':=ha;subst ha';have c0':=c0;have c1':=c1;have c2':=c2;have HNj:=hid (NM.kid (T:=.mk 0 nm (some (dZ b o)) k cap f) (hP.nm HTa.o HNM.o) hlt);have HBb:Hid (Below wr.heap.size wr (wr.alloc (.cells #[iV (f j).v,.string (f j).nm,.slice (f j).a (f j).len (f j).cap] 67))):=bA;have HPb:=hid (hP.below HBb.o);have hsb:=HBb.o.size;have HCl:=hid (HIH.o j hlt lo m (.slice sc q.1.length cc) q _ (hK.below HBb.o) (HOk.o j hlt) HNj.o HPb.o.row HPb.o.map (by omega) (by omega))
    have HTl:=hid ((ms (HOk.o j hlt) q).1);have hw1:IntKind.i64.wrap ((l.length:Int)+1)=(l.length:Int)+1:=by simp[IntKind.wrap,IntKind.bits,IntKind.signed];omega
    have hw2:IntKind.i64.wrap ((l.length:Int)+1+(j:Int))=((l.length+1+j:Nat):Int):=by simp[IntKind.wrap,IntKind.bits,IntKind.signed];omega
    clear hP hT hK c0 c1 c2 ha hcc;go_wp2_with fail;refine HCl.o.mono ?_;intro e w8 hR;obtain ⟨v',rfl,hP8⟩:=HPb.o.put hR;generalize hrr:bp (f j) q=r at*;have hl8:l.length+1+j<r.1.1.length:=by have:=HTl.o;omega
    obtain ⟨g,cg,rfl⟩: ∃g cg,v'=sZ g r.1.1.length cg:=by
     rcases hP8.row.2 with ⟨_,h0⟩| ⟨g,cg,cur,hv,_⟩
     .omega
     .exact ⟨g,cg,hv⟩
    have hl8I:(((l.length+1+j:Nat):Int))<(r.1.1.length:Int):=by omega
    have y1: ∃y,w8.cell? (dZ g ((l.length+1+j)*3+1))=some y:=by
     have h9:=World.ownsRow.cellAt hP8.row ((l.length+1+j)*3+1) (by omega)
     rw[(yo r.1.1 (l.length+1+j) hl8).2.1]at h9;exact ⟨_,h9⟩
    obtain ⟨y,y1⟩:=y1
    have yf:w8.frozen? (dZ g ((l.length+1+j)*3+1))=false:=by
     rcases hP8.row.2 with ⟨h',_⟩| ⟨g',cap',cur,h',_,hg',_⟩
     .cases h'
     .cases h'
      simp[World.frozen?,hg']
    have HP9:Hid (pg lo m wa (.slice sa l.length cp) (w8.setCell (dZ g ((l.length+1+j)*3+1)) (iV r.2)) (sZ g r.1.1.length cg) (i5 (fun i=>bp (f i)) l.length (j+1) (l++(⟨2,k,nm⟩::j4 l.length k),σ))):=by
     rw[Hid,HKS.o,jg hl8];have hg9:=af (W:=w8) g ((l.length+1+j)*3+1) (iV r.2);exact hP8.grown (hP8.row.setN rfl hl8 r.2) hg9 (.inl rfl)
    clear hR hP8 HKS;go_wp2_with fail;go_roundw
    case rel=>exact ⟨j+1,by omega,by go_num,HP9.o⟩
    case measure=>simp[intOf];omega
   have hjI: ¬((j:Int)<(k:Int)):=by omega
   obtain rfl:j=k:=by omega
   have HP:=hid hP;have hlast:=hP.last (w0:=w) HBa.o (by omega)
   clear hP;go_wp2_with fail;refine bodyPost_ret (v:=.tuple #[u0,iV (l.length:Int)]) (by simp[results,Tryz.results94,go_sem]) rfl ?_
   rw[HE.o];exact pg.o (q:=(i5 (fun i=>bp (f i)) l.length j (l++(⟨2,j,nm⟩::j4 l.length j),σ),(l.length:Int))) HBa.o HP.o hlast
theorem Om (T:Tm):Ta T:=by
 induction T with
 |nil=>intro lo m v p w hT hO;exact hO.elim
 |mk v nm a len cap f ih=>
  by_cases hv:v=0
  .subst hv;exact Qu (fun i _=>ih i)
  .exact Ol hv
end Go.Proofs.YtmggaclaoefdaabGreat
