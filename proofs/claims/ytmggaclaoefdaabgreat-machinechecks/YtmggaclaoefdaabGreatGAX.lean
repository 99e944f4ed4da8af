/- Part of the proof. Part of the proof. Part of the proof. Part of the proof. Part of the proof. Part of the proof. Part of the proof. Part of the proof. -/
import Derived.Test.YtmggaclaoefdaabGreatSq0
import Derived.Deep.RegionHeld3
import Derived.Test.YtmggaclaoefdaabGreatHm7
import Derived.Test.YtmggaclaoefdaabGreatGAU
import Derived.Test.YtmggaclaoefdaabGreatGAG
import Derived.Test.YtmggaclaoefdaabGreatGAO
namespace Go.Proofs.YtmggaclaoefdaabGreat
open Go.RowKit
set_option linter.unusedVariables false
set_option linter.unusedSimpArgs false
attribute [local go_sem] Oper.semAt_some
theorem LkR.left_ge (r:LkR): -1≤r.left:=by
 cases r with
 |ok n=>show (-1:Int)≤(n:Int);omega
 |hit n=>show (-1:Int)≤(n:Int);omega
 |over=>exact Int.le_refl _
theorem bdH_left (v t:Nat) (s:MS): -1≤(bdH v t s).left:=by
 unfold bdH
 cases lkL (hOf s.2.1) s.2.1.length v s.1 [t]with
 |ok k=>show (-1:Int)≤(k:Int);omega
 |hit n=>exact (LkR.hit n).left_ge
 |over=>exact LkR.over.left_ge
theorem smK_left {F:Nat→Nat→MS→MR} (hF: ∀a b s,-1≤(F a b s).left) (a b:Nat) (s:MS): ∀k,-1≤(smK F a b k s).left:=by
 intro k
 induction k with
 |zero=>show (-1:Int)≤(s.1:Int);omega
 |succ k ih=>
  unfold smK
  cases hq:smK F a b k s with
  |yes s'=>exact hF _ _ _
  |no x l bs=>rw[hq]at ih;exact ih
theorem smH_left: ∀(f a b:Nat) (s:MS),-1≤(smH f a b s).left:=by
 intro f
 induction f with
 |zero=>intro a b s;exact Int.le_refl _
 |succ f ih=>
  intro a b s;obtain ⟨n,l,bs⟩:=s;rw[smH_one]
  cases n with
  |zero=>exact Int.le_refl _
  |succ n=>
   show -1≤(smE (smH f) _ _ (n,l,bs)).left
   unfold smE
   split
   ·show (-1:Int)≤(n:Int);omega
   split
   ·exact bdH_left _ _ _
   split
   ·exact bdH_left _ _ _
   split
   ·show (-1:Int)≤(n:Int);omega
   ·exact smK_left ih _ _ _ _
theorem ownsRow_base {w:World} {lo B n s:Nat} {t:TypeId} {v:Value} {xs:List Value} (h:w.ownsRow lo t s v n xs) (hb: ∀q,v.ownBlock=some q→B≤q):w.ownsRow B t s v n xs:=by
 rcases h with ⟨h1,⟨hv,h0⟩| ⟨g,cap,cur,hv,hlo,hr⟩⟩
 ·exact ⟨h1,.inl ⟨hv,h0⟩⟩
 ·exact ⟨h1,.inr ⟨g,cap,cur,hv,hb g (by rw[hv];rfl),hr⟩⟩
def SaR (w:World) (lo g cap:Nat) (l:List Cl) (k:Nat) (r:MR) (e:Ending) (w':World):Prop:=∃bv,e=.returned (.tuple #[bv,.bool r.ok,iV ((k:Int)-r.left)])∧CRw lo w' (.slice (some ⟨g,0,none⟩) l.length cap) r.l∧w'.ownsRow w.heap.size 3 1 bv r.bs.length (r.bs.map fun x:Nat=>iV (x:Int))∧Bw (fun q=>q=g) w.heap.size w w'
set_option maxRecDepth 100000 in
set_option maxHeartbeats 4000000 in
theorem csame_any {lo g cap:Nat} {l:List Cl} {a b k:Nat} (w:World) (hR:CRw lo w (.slice (some ⟨g,0,none⟩) l.length cap) l) (hlo:lo≤w.heap.size) (H:HG (hOf l) l.length) (hm: ∀c∈l,c.nm.size≤maxLen) (ha:a<l.length) (hb:b<l.length) (hk:k≤1000000):
 Calls Tryz.prog 137 #[.slice (some ⟨g,0,none⟩) l.length cap,iV (a:Int),iV (b:Int),iV (k:Int)] w (SaR w lo g cap l k (smH (k+1) a b (k,l,[]))):=by
 have hh:HIn w (some ⟨g,0,none⟩) l.length (hOf l):=CRw.hin hR rfl hm;have HOn:Hid (Calls Tryz.prog 107 #[.slice (some ⟨g,0,none⟩) l.length cap] w fun e w'=>∃vb m,e=.returned (.pointer (some ⟨vb,0,none⟩))∧VW w' vb m (some ⟨g,0,none⟩) l.length cap (hOf l) (fun _=>none)∧w.heap.size≤vb∧w.heap.size≤m∧Below w.heap.size w w'):=on_any w hh
 have HR:=hid hR;have HG':Hid (MG (k,l,([]:List Nat))):=⟨H,hm⟩;have hgl:=(hR.lt g rfl).2;have hrl: -1≤(smH (k+1) a b (k,l,[])).left:=smH_left _ _ _ _;have hgood:=smH_good (k+1) a b (k,l,[]) ⟨H,hm⟩ ha hb;have hrl2:=hgood.le;have hlen:=hgood.len;have HSa:Hid (∀(vb m mb:Nat) (w2:World),MW lo w2 mb vb m (.slice none 0 0) (k:Int) g cap l (fun _=>none) []→Calls Tryz.prog 160 #[.pointer (some ⟨mb,0,none⟩),iV (a:Int),iV (b:Int)] w2 (SmP w2 lo mb vb m (.slice none 0 0) g cap (smH (k+1) a b (k,l,[])))):=fun vb m mb w2 M=>msame_all (k+1) lo mb vb m (.slice none 0 0) g cap (k,l,[]) (fun _=>none) a b w2 (by show k<k+1;omega) hk (by show 0+k≤1000000;omega) ⟨H,hm⟩ M ha hb
 generalize smH (k+1) a b (k,l,[])=r at*;clear hh hR H hm hgood;have hwk:IntKind.i64.wrap ((k:Int)-r.left)=(k:Int)-r.left:=by simp[IntKind.wrap,IntKind.bits,IntKind.signed];omega
 go_enter Tryz.func137,Tryz.ntmps137
 go_wp2_with fail;refine HOn.o.mono ?_;rintro e w1 ⟨vb,m,rfl,hV1,hvb,hmm,hb1⟩;have hs1:=hb1.size;have hB2:Below w1.heap.size w1 (w1.alloc (.cells #[.pointer (some ⟨vb,0,none⟩),.slice none 0 0,iV (k:Int)] 212)):=(Below.refl _ _).alloc (Nat.le_refl _) _;have HM2:Hid (MW lo (w1.alloc (.cells #[.pointer (some ⟨vb,0,none⟩),.slice none 0 0,iV (k:Int)] 212)) w1.heap.size vb m (.slice none 0 0) (k:Int) g cap l (fun _=>none) []):=⟨⟨heap_alloc_new _ _,hV1.below hB2⟩,World.ownsRow.kept (World.ownsRow.kept HR.o (grown_of_below hb1 none) (.inr (by simp[Value.ownBlock]))) (grown_of_below hB2 none) (.inr (by simp[Value.ownBlock])),World.ownsRow_nil _ _ _ _,by simp;omega⟩
 have HB2:=hid (below_after2 hb1 hB2);have hs2:(w1.alloc (.cells #[.pointer (some ⟨vb,0,none⟩),.slice none 0 0,iV (k:Int)] 212)).heap.size=w1.heap.size+1:=by simp
 clear hV1 hb1 hB2;go_wp2_with fail;generalize w1.alloc (.cells #[.pointer (some ⟨vb,0,none⟩),.slice none 0 0,iV (k:Int)] 212)=w2 at*;refine (HSa.o vb m w1.heap.size w2 HM2.o).mono ?_;rintro e w3 ⟨rfl,bv',σ',hM3,hB3,hat⟩;have HM3:=hid hM3;have m1:=hM3.mkg.cells.2.1;have m2:=hM3.mkg.cells.2.2.1
 have HO3:Hid (w3.ownsRow w.heap.size 3 1 bv' r.bs.length (r.bs.map fun x:Nat=>iV (x:Int))):=ownsRow_base hM3.bnd fun q hq=>by
  rcases hat with e| ⟨p,e,hp⟩
  ·rw[e]at hq;cases hq
  ·rw[e]at hq;have:=Option.some.inj hq;omega
 have HR3:Hid (CRw lo w3 (.slice (some ⟨g,0,none⟩) l.length cap) r.l):=by have h9:=hM3.row;rw[hlen]at h9;exact h9
 have HB3:Hid (Bw (fun q=>q=g) w.heap.size w w3):=(Bw.ofBelow HB2.o).trans ((hB3.mono (by have:=HB2.o.size;omega)).wide fun q hq hm=>by
  rcases hm with e|e|e|e
  ·omega
  ·omega
  ·exact e
  ·cases e)
 clear hM3 hB3 hat;go_wp2_with fail
 go_region_held3 (fun W=>W.cell? ⟨w1.heap.size,1,none⟩=some bv'∧W.cell? ⟨w1.heap.size,2,none⟩=some (iV r.left)) (exact ⟨m1,m2⟩) (fail)
 all_goals
  go_wp2_with fail;refine bodyPost_ret (v:=.tuple #[bv',.bool r.ok,iV ((k:Int)-r.left)]) (by simp[results,Tryz.results137,go_sem]) rfl ?_
  exact ⟨bv',rfl,HR3.o,HO3.o,by first|exact HB3.o.drew|exact HB3.o⟩
end Go.Proofs.YtmggaclaoefdaabGreat

namespace Go.Proofs.YtmggaclaoefdaabGreat
open Go.RowKit
set_option linter.unusedVariables false
set_option linter.unusedSimpArgs false
abbrev HSt:=List Cl × (Int→Option Int)
def putV (n:Int) (p:HSt):HSt × Int:=match p.2 n with
 |some at'=>(p,at')
 |none=>((p.1++ [frC p.1.length],updI p.2 n p.1.length),p.1.length)
def putK (g:Nat→HSt→HSt × Int) (at':Nat):Nat→HSt→HSt
 |0,p=>p
 |k+1,p=>(((g k (putK g at' k p)).1.1.set (at'+1+k) (setN (hOf (g k (putK g at' k p)).1.1 (at'+1+k)) (g k (putK g at' k p)).2)),(g k (putK g at' k p)).1.2)
def frs (at':Nat) (k:Nat):List Cl:=(List.range k).map fun i:Nat=>frC (at'+1+i:Nat)
def putT:Tm→HSt→HSt × Int
 | .nil,p=>(p,0)
 | .mk v nm a len cap f,p=>if v≠0 then putV v p else (putK (fun i=>putT (f i)) p.1.length len (p.1++(⟨2,len,nm⟩::frs p.1.length len),p.2),p.1.length)
theorem putV_len (n:Int) (p:HSt):p.1.length≤(putV n p).1.1.length∧(putV n p).1.1.length≤p.1.length+1:=by
 unfold putV
 split
 ·exact ⟨Nat.le_refl _,Nat.le_succ _⟩
 ·simp
theorem putK_len {g:Nat→HSt→HSt × Int} {c:Nat→Nat} {len:Nat} (hg: ∀k,k<len→∀p:HSt,p.1.length≤(g k p).1.1.length∧(g k p).1.1.length+1≤p.1.length+2*c k) (at':Nat) (p:HSt): ∀k,k≤len→p.1.length≤(putK g at' k p).1.length∧(putK g at' k p).1.length+k≤p.1.length+2*sumTo c k:=by
 intro k
 induction k with
 |zero=>intro _;exact ⟨Nat.le_refl _,by simp[putK,sumTo]⟩
 |succ k ih=>
  intro hk;obtain ⟨h1,h2⟩:=ih (by omega)
  obtain ⟨h3,h4⟩:=hg k (by omega) (putK g at' k p)
  have e:(putK g at' (k+1) p).1.length=(g k (putK g at' k p)).1.1.length:=by simp[putK]
  rw[e];refine ⟨by omega,?_⟩
  show _≤_+2*(sumTo c k+c k)
  omega
theorem putT_len {N:Int} {T:Tm} (hT:Okv N T): ∀p:HSt,p.1.length≤(putT T p).1.1.length∧(putT T p).1.1.length+1≤p.1.length+2*cnt T:=by
 induction T with
 |nil=>exact hT.elim
 |mk v nm a len cap f ih=>
  intro p;have hc:cnt (.mk v nm a len cap f)=1+sumTo (fun i=>cnt (f i)) len:=rfl
  unfold putT
  by_cases hv:v=0
  ·rw[if_neg (by simp[hv])]
   have:=putK_len (g:=fun i=>putT (f i)) (c:=fun i=>cnt (f i)) (fun k hk=>ih k (hT.2.2.2.2 k hk)) p.1.length (p.1++(⟨2,len,nm⟩::frs p.1.length len),p.2) len (Nat.le_refl _)
   have hL:(p.1++((⟨2,len,nm⟩:Cl)::frs p.1.length len),p.2).1.length=p.1.length+(len+1):=by simp[frs]
   rw[hL]at this;rw[hc];generalize (putK (fun i=>putT (f i)) p.1.length len (p.1++(⟨2,len,nm⟩::frs p.1.length len),p.2))=r at*
   show _≤r.1.length∧r.1.length+1≤_
   omega
  ·rw[if_pos hv,hc]
   have:=putV_len v p;omega
theorem newsC1 (w:World) (c:Cl): ∀j u,(flatC [c])[j]?=some u→(w.alloc (.cells #[iV c.k,iV c.n,.string c.nm] 81)).cell? ((⟨w.heap.size,0,none⟩:Addr).add j)=some u:=by
 intro j u hj;have hb:=heap_alloc_new w (.cells #[iV c.k,iV c.n,.string c.nm] 81);rw[addr_add,cell_of_row _ _ _ _ _ _ hb]
 simpa[flatC,cellsC]using hj
def PtR (w:World) (lo m:Nat) (v:Value) (q:HSt × Int) (e:Ending) (w':World):Prop:=∃v',e=.returned (.tuple #[v',iV q.2])∧CRw lo w' v' q.1.1∧IM w' m q.1.2∧Bw (fun k=>k=m∨v.ownBlock=some k) w.heap.size w w'∧(v'.ownBlock=v.ownBlock∨∃g,v'.ownBlock=some g∧w.heap.size≤g)
theorem CRw.kept {lo:Nat} {w w':World} {v:Value} {l:List Cl} {row:Option Nat} (h:CRw lo w v l) (hg:w.grownBy w' row) (hne:v.ownBlock=none∨v.ownBlock≠row):CRw lo w' v l:=World.ownsRow.kept h hg hne
theorem CRw.lt {lo:Nat} {w:World} {v:Value} {l:List Cl} (h:CRw lo w v l): ∀g,v.ownBlock=some g→lo≤g∧g<w.heap.size:=World.ownsRow.lt h
theorem kept_nn (v:Value):v.ownBlock=none∨v.ownBlock≠none:=by
 cases v.ownBlock with
 |none=>exact .inl rfl
 |some g=>exact .inr (by simp)
theorem CRw.below {lo:Nat} {w w':World} {v:Value} {l:List Cl} (h:CRw lo w v l) (hb:Below w.heap.size w w'):CRw lo w' v l:=h.kept (grown_of_below hb none) (kept_nn _)
theorem IM.ne_row {lo:Nat} {w:World} {m:Nat} {σ:Int→Option Int} {v:Value} {l:List Cl} (h:IM w m σ) (hC:CRw lo w v l):some m≠v.ownBlock:=fun e=>by
 rcases hC.2 with ⟨hv,_⟩| ⟨g,cap,cur,hv,_,hg,_⟩
 ·subst hv;cases e
 ·subst hv
  have:m=g:=Option.some.inj e;subst this;exact h.ne_block hg rfl
set_option maxRecDepth 100000 in
set_option maxHeartbeats 2000000 in
theorem putVar_any {lo m:Nat} {v:Value} {p:HSt} {n:Int} (hn:0<n∧n≤12) (w:World) (hC:CRw lo w v p.1) (hM:IM w m p.2) (hlo:lo≤w.heap.size) (hl:p.1.length≤2000000):
 Calls Tryz.prog 127 #[v,iV n,.map (some m)] w (PtR w lo m v (putV n p)):=by
 obtain ⟨l,σ⟩:=p;have hlk:=hM.look2 (i:=n) (by omega) (by omega)
 obtain ⟨sa,cp,rfl,hcp,_⟩:=hC.form;have HC:=hid hC;have HM:=hid hM;have HNe:=hid (hM.ne_row hC);have hl':=hl
 cases hσ:σ n with
 |some x=>
  have HP:Hid (putV n (l,σ)=((l,σ),x)):=by rw[Hid];unfold putV;simp only[hσ]
  have hlk':(Instr.lookup 103 (.map (some m)) (iV n) true).run Tryz.prog w=.ok (.tuple #[iV x,.bool true]) w:=by
   have h9:=hlk;simp only[hσ]at h9;exact h9
  clear hlk hC hM hl hσ
  go_enter Tryz.func127,Tryz.ntmps127
  go_wp2_with fail;refine bodyPost_ret (v:=.tuple #[.slice sa l.length cp,iV x]) ?_ rfl (by rw[HP.o];exact ⟨_,rfl,HC.o,HM.o,Bw.refl _ _ _,.inl rfl⟩)
  simp[results,Tryz.results127,go_sem]
 |none=>
  have HP:Hid (putV n (l,σ)=((l++ [frC l.length],updI σ n l.length),(l.length:Int))):=by rw[Hid];unfold putV;simp only[hσ]
  have hlk':(Instr.lookup 103 (.map (some m)) (iV n) true).run Tryz.prog w=.ok (.tuple #[iV 0,.bool false]) w:=by
   have h9:=hlk;simp only[hσ]at h9;exact h9
  obtain ⟨w1,hrun,hm1,hg1⟩:=hM.store (i:=n) (by omega) (by omega) (l.length:Int)
  have HC1:Hid (CRw lo w1 (.slice sa l.length cp) l):=hC.kept hg1 (.inr fun e=>HNe.o e.symm)
  have HM1:=hid hm1;have HB1:Hid (Bw (fun k=>k=m∨(Value.slice sa l.length cp).ownBlock=some k) w.heap.size w w1):=⟨hg1.os,hg1.tape,hg1.output,hg1.size,fun k hk hn=>hg1.block k hk (fun e=>hn (.inl (Option.some.inj e)))⟩
  have HF:Hid (∀W:World,Calls Tryz.prog 109 #[iV (l.length:Int)] W fun e w'=>e=.returned (celV (frC l.length))∧Below W.heap.size W w'):=fun W=>free_any _ W
  have hs1:=hg1.size;obtain ⟨i0,hi,hi0,hi1,hi2⟩:=info_parts infoC;clear hlk hC hM hl hσ hm1 hg1
  go_enter Tryz.func127,Tryz.ntmps127
  go_wp2_with fail;refine (HF.o _).mono ?_;rintro e w2 ⟨rfl,hb2⟩;rw[show celV (frC (l.length:Int))=.agg #[iV 1,iV (l.length:Int),.string ⟨#[]⟩]from rfl]
  have HB3:Hid (Below w1.heap.size w1 (w2.alloc (.cells #[iV 1,iV (l.length:Int),.string ⟨#[]⟩] 81))):=below_alloc hb2 _;have HC3:=hid (HC1.o.below HB3.o);have HN3:=hid (newsC1 w2 (frC (l.length:Int)));have hs3:w.heap.size≤(w2.alloc (.cells #[iV 1,iV (l.length:Int),.string ⟨#[]⟩] 81)).heap.size:=by have:=HB3.o.size;omega
  have hlo3:lo≤(w2.alloc (.cells #[iV 1,iV (l.length:Int),.string ⟨#[]⟩] 81)).heap.size:=by omega
  have HM3:Hid (IM (w2.alloc (.cells #[iV 1,iV (l.length:Int),.string ⟨#[]⟩] 81)) m (updI σ n l.length)):=HM1.o.kept (grown_of_below HB3.o none) (by simp)
  have HW3:=hid (HB1.o.trans (Bw.ofBelow (HB3.o.mono hs1)));clear hb2;go_wp2_with (at_builtin;refine wpList_append_own_at _ rfl (.tmp 24) (.tmp 27) 25 rfl lo 81 i0 (.agg #[iV 0,iV 0,.string ByteArray.empty]) 3 32 Tryz.underlying25 hi hi0 hi1 hi2 rfl (by decide) (.slice sa l.length cp) l.length (flatC l) rfl HC3.o ⟨w2.heap.size,0,none⟩ 1 1 (flatC [frC (l.length:Int)]) rfl rfl HN3.o (flatC_one _) (by unfold maxLen;omega) (by omega) hlo3 ?_;intro v' w6 hown' hgrow hnil hat)
  refine bodyPost_ret (v:=.tuple #[v',iV (l.length:Int)]) (by simp[results,Tryz.results127,go_sem]) rfl ?_
  rw[HP.o];refine ⟨v',rfl,?_,HM3.o.kept hgrow HNe.o,HW3.o.grown hgrow hs3 (fun k hk=> .inr (.inr hk)),?_⟩
  ·unfold CRw
   rw[flatC_append,List.length_append];exact hown'
  ·rcases hat with h|h
   ·exact .inl h
   ·exact .inr ⟨_,h,hs3⟩
end Go.Proofs.YtmggaclaoefdaabGreat

namespace Go.Proofs.YtmggaclaoefdaabGreat
open Go.RowKit
set_option linter.unusedVariables false
set_option linter.unusedSimpArgs false
def MpH (m:Nat) (v:Value) (k:Nat):Prop:=k=m∨v.ownBlock=some k
def FrH (w:World) (v v':Value):Prop:=∀g,v'.ownBlock=some g→v.ownBlock=some g∨w.heap.size≤g
structure PtW (lo m:Nat) (w0:World) (v0:Value) (w:World) (v:Value) (p:HSt):Prop where
 row:CRw lo w v p.1
 map:IM w m p.2
 bw:Bw (MpH m v0) w0.heap.size w0 w
 fr:FrH w0 v0 v
theorem PtW.mp {lo m:Nat} {w0:World} {v0:Value} {w:World} {v:Value} {p:HSt} (h:PtW lo m w0 v0 w v p): ∀k,k<w0.heap.size→MpH m v k→MpH m v0 k:=fun k hk hm=>by
 rcases hm with e|e
 ·exact .inl e
 ·rcases h.fr k e with e|e
  ·exact .inr e
  ·omega
theorem PtW.nm {lo m:Nat} {w0:World} {v0:Value} {w:World} {v:Value} {p:HSt} {T:Tm} (h:PtW lo m w0 v0 w v p) (hT:TIn w0 T) (hn:NM (MpH m v0) T):NM (MpH m v) T:=hn.anti hT h.mp
theorem PtW.tin {lo m:Nat} {w0:World} {v0:Value} {w:World} {v:Value} {p:HSt} {T:Tm} (h:PtW lo m w0 v0 w v p) (hT:TIn w0 T) (hn:NM (MpH m v0) T):TIn w T:=hT.bw h.bw (Nat.le_refl _) hn
theorem PtW.below {lo m:Nat} {w0:World} {v0:Value} {w w':World} {v:Value} {p:HSt} (h:PtW lo m w0 v0 w v p) (hb:Below w.heap.size w w'):PtW lo m w0 v0 w' v p:=
 ⟨h.row.below hb,h.map.kept (grown_of_below hb none) (by simp),h.bw.trans (Bw.ofBelow (hb.mono h.bw.size)),h.fr⟩
theorem PtW.grown {lo m:Nat} {w0:World} {v0:Value} {w w':World} {v v':Value} {p:HSt} {l:List Cl} (h:PtW lo m w0 v0 w v p) (hr:CRw lo w' v' l) (hg:w.grownBy w' v.ownBlock) (hat:v'.ownBlock=v.ownBlock∨v'.ownBlock=some w.heap.size):PtW lo m w0 v0 w' v' (l,p.2):=by
 refine ⟨hr,h.map.kept hg (h.map.ne_row h.row),h.bw.grown hg h.bw.size (fun k hk=>?_),fun g hg'=>?_⟩
 ·rcases h.fr k hk with e|e
  ·exact .inr (.inr e)
  ·exact .inl e
 ·rcases hat with e|e
  ·rw[e]at hg';exact h.fr g hg'
  ·rw[e]at hg';have:w.heap.size=g:=Option.some.inj hg'
   exact .inr (by rw[←this];exact h.bw.size)
theorem PtW.put {lo m:Nat} {w0:World} {v0:Value} {w w':World} {v:Value} {p:HSt} {q:HSt × Int} {e:Ending} (h:PtW lo m w0 v0 w v p) (hr:PtR w lo m v q e w'): ∃v',e=.returned (.tuple #[v',iV q.2])∧PtW lo m w0 v0 w' v' q.1:=by
 obtain ⟨v',rfl,h1,h2,h3,h4⟩:=hr;refine ⟨v',rfl,h1,h2,h.bw.trans ((h3.mono h.bw.size).wide h.mp),fun g hg=>?_⟩
 rcases h4 with e| ⟨g',e,hg'⟩
 ·rw[e]at hg;exact h.fr g hg
 ·rw[e]at hg;have:g'=g:=Option.some.inj hg
  have:=h.bw.size;exact .inr (by omega)
theorem PtW.o {lo m:Nat} {w0 wa:World} {v0:Value} {w:World} {v:Value} {q:HSt × Int} (hb:Below w0.heap.size w0 wa) (h:PtW lo m wa v0 w v q.1) (hf:v.ownBlock=v0.ownBlock∨∃g,v.ownBlock=some g∧w0.heap.size≤g):PtR w0 lo m v0 q (.returned (.tuple #[v,iV q.2])) w:=
 ⟨v,rfl,h.row,h.map,(Bw.ofBelow hb).trans (h.bw.mono hb.size),hf⟩
theorem PtW.last {lo m:Nat} {w0 wa:World} {v0:Value} {w:World} {v:Value} {p:HSt} (hb:Below w0.heap.size w0 wa) (h:PtW lo m wa v0 w v p) (hl:0<p.1.length):v.ownBlock=v0.ownBlock∨∃g,v.ownBlock=some g∧w0.heap.size≤g:=by
 rcases h.row.2 with ⟨_,h0⟩| ⟨g,cap,cur,hv,_⟩
 ·omega
 ·subst hv
  rcases h.fr g rfl with e|e
  ·exact .inl e.symm
  ·exact .inr ⟨g,rfl,Nat.le_trans hb.size e⟩
theorem frs_succ (at' k:Nat):frs at' (k+1)=frs at' k++ [frC ((at':Int)+1+(k:Int))]:=by
 unfold frs;rw[List.range_succ,List.map_append];simp
def PtC (T:Tm):Prop:=∀(lo m:Nat) (v:Value) (p:HSt) (w:World),TIn w T→Okv 12 T→NM (MpH m v) T→CRw lo w v p.1→IM w m p.2→lo≤w.heap.size→p.1.length+5*cnt T≤2000000→Calls Tryz.prog 94 #[v,T.val,.map (some m)] w (PtR w lo m v (putT T p))
set_option maxRecDepth 100000 in
set_option maxHeartbeats 4000000 in
theorem put_var {T:Tm} (hv:T.v≠0):PtC T:=by
 intro lo m v p w hT hO hN hC hM hlo hl
 cases T with
 |nil=>exact hO.elim
 |mk z nm a len cap f=>
 have hz:z≠0:=hv;have hb:=bne_iff_ne.2 hz;have HBa:Hid (Below w.heap.size w (w.alloc (.cells #[iV z,.string nm,.slice a len cap] 67))):=(Below.refl _ _).alloc (Nat.le_refl _) _;have HP:Hid (PtW lo m (w.alloc (.cells #[iV z,.string nm,.slice a len cap] 67)) v (w.alloc (.cells #[iV z,.string nm,.slice a len cap] 67)) v p):=⟨hC.below HBa.o,hM.kept (grown_of_below HBa.o none) (by simp),Bw.refl _ _ _,fun g hg=> .inl hg⟩
 have HC:Hid (Calls Tryz.prog 127 #[v,iV z,.map (some m)] (w.alloc (.cells #[iV z,.string nm,.slice a len cap] 67)) (PtR (w.alloc (.cells #[iV z,.string nm,.slice a len cap] 67)) lo m v (putV z p))):=putVar_any ⟨by have:=hO.1;omega,hO.2.1⟩ _ HP.o.row HP.o.map (Nat.le_trans hlo HBa.o.size) (by omega)
 have HE:Hid (putT (.mk z nm a len cap f) p=putV z p):=by rw[Hid];unfold putT;rw[if_pos hz]
 clear hT hO hN hC hM hlo hl hz hv
 show Calls Tryz.prog 94 #[v,.agg #[iV z,.string nm,.slice a len cap],.map (some m)] w _
 go_enter Tryz.func94,Tryz.ntmps94
 go_wp2_with fail;refine HC.o.mono ?_;rintro e w1 ⟨v',rfl,h1,h2,h3,h4⟩;go_wp2_with fail;refine bodyPost_ret (v:=.tuple #[v',iV (putV z p).2]) (by simp[results,Tryz.results94,go_sem]) rfl ?_
 rw[HE.o];refine ⟨v',rfl,h1,h2,(Bw.ofBelow HBa.o).trans (h3.mono HBa.o.size),?_⟩
 rcases h4 with e| ⟨g,e,hg⟩
 ·exact .inl e
 ·exact .inr ⟨g,e,Nat.le_trans HBa.o.size hg⟩
set_option maxRecDepth 100000 in
set_option maxHeartbeats 8000000 in
theorem put_fn {nm:ByteArray} {a:Option Addr} {len cap:Nat} {f:Nat→Tm} (ih: ∀i,i<len→PtC (f i)):PtC (.mk 0 nm a len cap f):=by
 intro lo m v p w hT hO hN hC hM hlo hl;obtain ⟨l,σ⟩:=p;have hcn:cnt (.mk 0 nm a len cap f)=1+sumTo (fun i=>cnt (f i)) len:=rfl
 have HIH:=hid ih;have HOk:=hid hO.2.2.2.2;have hl4:len≤4:=hO.2.2.2.1;obtain ⟨sa,cp,rfl,hcp,_⟩:=hC.form;have HBa:Hid (Below w.heap.size w (w.alloc (.cells #[iV 0,.string nm,.slice a len cap] 67))):=(Below.refl _ _).alloc (Nat.le_refl _) _;have HTa:=hid (hT.below HBa.o);have HXa:Hid ((w.alloc (.cells #[iV 0,.string nm,.slice a len cap] 67)).heap[w.heap.size]?=some (.cells #[iV 0,.string nm,.slice a len cap] 67)):=heap_alloc_new _ _;have HPa:Hid (PtW lo m (w.alloc (.cells #[iV 0,.string nm,.slice a len cap] 67)) (.slice sa l.length cp) (w.alloc (.cells #[iV 0,.string nm,.slice a len cap] 67)) (.slice sa l.length cp) (l,σ)):=⟨hC.below HBa.o,hM.kept (grown_of_below HBa.o none) (by simp),Bw.refl _ _ _,fun g hg=> .inl hg⟩
 have hsa:(w.alloc (.cells #[iV 0,.string nm,.slice a len cap] 67)).heap.size=w.heap.size+1:=by simp
 have HNe:Hid (¬MpH m (.slice sa l.length cp) w.heap.size):=by
  rintro (e|e)
  ·have:=hM.lt;omega
  ·have:=(hC.lt _ e).2;omega
 have HNM:=hid hN;have hlo':=hlo;have hll:l.length+5*(1+sumTo (fun i=>cnt (f i)) len)≤2000000:=by have h9:=hl;rw[hcn]at h9;exact h9
 have HE:Hid (putT (.mk 0 nm a len cap f) (l,σ)=(putK (fun i=>putT (f i)) l.length len (l++(⟨2,len,nm⟩::frs l.length len),σ),(l.length:Int))):=by rw[Hid];unfold putT;rw[if_neg (by simp)]
 obtain ⟨i0,hi,hi0,hi1,hi2⟩:=info_parts infoC;clear hT hO hN hC hM hlo hl ih hcn
 show Calls Tryz.prog 94 #[.slice sa l.length cp,.agg #[iV 0,.string nm,.slice a len cap],.map (some m)] w _
 go_enter Tryz.func94,Tryz.ntmps94
 have HPb:Hid (PtW lo m (w.alloc (.cells #[iV 0,.string nm,.slice a len cap] 67)) (.slice sa l.length cp) ((w.alloc (.cells #[iV 0,.string nm,.slice a len cap] 67)).alloc (.cells #[iV 2,iV (len:Int),.string nm] 81)) (.slice sa l.length cp) (l,σ)):=HPa.o.below ((Below.refl _ _).alloc (Nat.le_refl _) _)
 have HNb:Hid (∀j u,(flatC [(⟨2,len,nm⟩:Cl)])[j]?=some u→((w.alloc (.cells #[iV 0,.string nm,.slice a len cap] 67)).alloc (.cells #[iV 2,iV (len:Int),.string nm] 81)).cell? ((⟨w.heap.size+1,0,none⟩:Addr).add j)=some u):=by
  have h9:=newsC1 (w.alloc (.cells #[iV 0,.string nm,.slice a len cap] 67)) (⟨2,len,nm⟩:Cl);rw[hsa]at h9;exact h9
 have hlb:lo≤((w.alloc (.cells #[iV 0,.string nm,.slice a len cap] 67)).alloc (.cells #[iV 2,iV (len:Int),.string nm] 81)).heap.size:=by simp;omega
 go_wp2_with (at_builtin;refine wpList_append_own_at _ rfl (.tmp 25) (.tmp 32) 25 rfl lo 81 i0 (.agg #[iV 0,iV 0,.string ByteArray.empty]) 3 32 Tryz.underlying25 hi hi0 hi1 hi2 rfl (by decide) (.slice sa l.length cp) l.length (flatC l) rfl HPb.o.row ⟨w.heap.size+1,0,none⟩ 1 1 (flatC [(⟨2,len,nm⟩:Cl)]) rfl rfl HNb.o (flatC_one _) (by unfold maxLen;omega) (by omega) hlb ?_;intro v' w6 hown' hgrow hnil hat;have HP6:Hid (PtW lo m (w.alloc (.cells #[iV 0,.string nm,.slice a len cap] 67)) (.slice sa l.length cp) w6 v' (l++ [(⟨2,len,nm⟩:Cl)],σ)):=HPb.o.grown (by unfold CRw;rw[flatC_append,List.length_append];exact hown') hgrow hat;have HX6:Hid (w6.heap[w.heap.size]?=some (.cells #[iV 0,.string nm,.slice a len cap] 67)):=(HP6.o.bw.block _ (by omega) HNe.o).trans HXa.o;obtain ⟨x0,x1,x2,_⟩:=block_cells HX6.o;clear hown' hgrow hnil hat)
 generalize hwa:w.alloc (.cells #[iV 0,.string nm,.slice a len cap] 67)=wa at*;clear HPb HNb hlb x0 x1 x2
 go_loopw [0,37] (fun hv iv wq=>∃k:Nat,k≤len∧iv=iV k∧PtW lo m wa (.slice sa l.length cp) wq hv (l++(⟨2,len,nm⟩::frs l.length k),σ)) (fun _ v _=>len-(intOf v).toNat)
 case atStart=>exact ⟨0,Nat.zero_le _,rfl,HP6.o⟩
 case round=>
  obtain ⟨k,hk,rfl,hP⟩:=hrel;have HP:=hid hP;have hLk:(l++((⟨2,len,nm⟩:Cl)::frs l.length k)).length=l.length+1+k:=by simp[frs];omega
  obtain ⟨sb,cb,rfl,hcb,_⟩:=hP.row.form;simp only[hLk]at HP hP hcb ⊢;have hsr:=hP.bw.size;clear hP HP6 HX6
  by_cases hlt:k<len
  case pos=>
   have hkI:(k:Int)<(len:Int):=by omega
   have HF:Hid (Calls Tryz.prog 109 #[iV ((l.length:Int)+1+(k:Int))] wr fun e w'=>e=.returned (celV (frC ((l.length:Int)+1+(k:Int))))∧Below wr.heap.size wr w'):=free_any _ wr
   have hw1:IntKind.i64.wrap ((l.length:Int)+1)=(l.length:Int)+1:=by simp[IntKind.wrap,IntKind.bits,IntKind.signed];omega
   have hw2:IntKind.i64.wrap ((l.length:Int)+1+(k:Int))=(l.length:Int)+1+(k:Int):=by simp[IntKind.wrap,IntKind.bits,IntKind.signed];omega
   go_wp2_with fail;refine HF.o.mono ?_;rintro e w7 ⟨rfl,hb7⟩;rw[show celV (frC ((l.length:Int)+1+(k:Int)))=.agg #[iV 1,iV ((l.length:Int)+1+(k:Int)),.string ⟨#[]⟩]from rfl]
   have HP8:Hid (PtW lo m wa (.slice sa l.length cp) (w7.alloc (.cells #[iV 1,iV ((l.length:Int)+1+(k:Int)),.string ⟨#[]⟩] 81)) (.slice sb (l.length+1+k) cb) (l++(⟨2,len,nm⟩::frs l.length k),σ)):=HP.o.below (below_alloc hb7 _)
   have HR8:Hid ((w7.alloc (.cells #[iV 1,iV ((l.length:Int)+1+(k:Int)),.string ⟨#[]⟩] 81)).ownsRow lo 81 3 (.slice sb (l.length+1+k) cb) (l.length+1+k) (flatC (l++(⟨2,len,nm⟩::frs l.length k)))):=by
    have h9:=HP8.o.row;unfold CRw at h9;rw[hLk]at h9;exact h9
   have HN8:=hid (newsC1 w7 (frC ((l.length:Int)+1+(k:Int))));have hl8:lo≤(w7.alloc (.cells #[iV 1,iV ((l.length:Int)+1+(k:Int)),.string ⟨#[]⟩] 81)).heap.size:=by have:=hb7.size;simp;omega
   clear hb7;go_wp2_with (at_builtin;refine wpList_append_own_at _ rfl (.tmp 40) (.tmp 46) 25 rfl lo 81 i0 (.agg #[iV 0,iV 0,.string ByteArray.empty]) 3 32 Tryz.underlying25 hi hi0 hi1 hi2 rfl (by decide) (.slice sb (l.length+1+k) cb) (l.length+1+k) (flatC (l++(⟨2,len,nm⟩::frs l.length k))) rfl HR8.o ⟨w7.heap.size,0,none⟩ 1 1 (flatC [frC ((l.length:Int)+1+(k:Int))]) rfl rfl HN8.o (flatC_one _) (by unfold maxLen;omega) (by omega) hl8 ?_;intro v9 w9 hown' hgrow hnil hat;have HP9:Hid (PtW lo m wa (.slice sa l.length cp) w9 v9 (l++(⟨2,len,nm⟩::frs l.length (k+1)),σ)):=HP8.o.grown (by unfold CRw;rw[frs_succ,←List.cons_append,←List.append_assoc,flatC_append,List.length_append,hLk];exact hown') hgrow hat;clear hown' hgrow hnil hat)
   go_roundw
   case rel=>exact ⟨k+1,by omega,by go_num,HP9.o⟩
   case measure=>simp[intOf];omega
  have hkI: ¬((k:Int)<(len:Int)):=by omega
  obtain rfl:k=len:=by omega
  have HXr:=hid ((HP.o.bw.block _ (by omega) HNe.o).trans HXa.o)
  obtain ⟨x0,x1,x2,_⟩:=block_cells HXr.o
  have HKL:Hid (∀j,j≤k→l.length+1+k≤(putK (fun i=>putT (f i)) l.length j (l++(⟨2,k,nm⟩::frs l.length k),σ)).1.length∧(putK (fun i=>putT (f i)) l.length j (l++(⟨2,k,nm⟩::frs l.length k),σ)).1.length+j≤l.length+1+k+2*sumTo (fun i=>cnt (f i)) j):=fun j hj=>by
   have h9:=putK_len (g:=fun i=>putT (f i)) (c:=fun i=>cnt (f i)) (fun i hi'=>putT_len (HOk.o i hi')) l.length (l++(⟨2,k,nm⟩::frs l.length k),σ) j hj
   rw[show ((l++((⟨2,k,nm⟩:Cl)::frs l.length k)),σ).1.length=l.length+1+k from hLk]at h9
   exact h9
  generalize hwr:wr=W1 at*;go_wp2_with fail;clear x0 x1 x2 HXr
  go_loopw [0,52] (fun hv iv wq=>∃j:Nat,j≤k∧iv=iV j∧PtW lo m wa (.slice sa l.length cp) wq hv (putK (fun i=>putT (f i)) l.length j (l++(⟨2,k,nm⟩::frs l.length k),σ))) (fun _ v _=>k-(intOf v).toNat)
  case atStart=>exact ⟨0,Nat.zero_le _,rfl,HP.o⟩
  case round=>
   obtain ⟨j,hj,rfl,hP⟩:=hrel;obtain ⟨hL1,hL2⟩:=HKL.o j hj;have hsr:=hP.bw.size;have hSm:sumTo (fun i=>cnt (f i)) j≤sumTo (fun i=>cnt (f i)) k:=sumTo_le _ hj
   by_cases hlt:j<k
   case pos=>
    have HKS:Hid (putK (fun i=>putT (f i)) l.length (j+1) (l++(⟨2,k,nm⟩::frs l.length k),σ)=(((putT (f j) (putK (fun i=>putT (f i)) l.length j (l++(⟨2,k,nm⟩::frs l.length k),σ))).1.1.set (l.length+1+j) (setN (hOf (putT (f j) (putK (fun i=>putT (f i)) l.length j (l++(⟨2,k,nm⟩::frs l.length k),σ))).1.1 (l.length+1+j)) (putT (f j) (putK (fun i=>putT (f i)) l.length j (l++(⟨2,k,nm⟩::frs l.length k),σ))).2)),(putT (f j) (putK (fun i=>putT (f i)) l.length j (l++(⟨2,k,nm⟩::frs l.length k),σ))).1.2)):=rfl
    generalize putK (fun i=>putT (f i)) l.length j (l++(⟨2,k,nm⟩::frs l.length k),σ)=q at*
    have hSm1:sumTo (fun i=>cnt (f i)) j+cnt (f j)≤sumTo (fun i=>cnt (f i)) k:=sumTo_le (fun i=>cnt (f i)) (show j+1≤k from hlt)
    have HP:=hid hP;obtain ⟨sc,cc,rfl,hcc,_⟩:=hP.row.form;have hjI:(j:Int)<(k:Int):=by omega
    have hT:=hP.tin HTa.o HNM.o;have hK:=TIn.kid (T:=.mk 0 nm a k cap f) hT hlt;obtain ⟨b,o,ha,c0,c1,c2⟩:=TIn.row (T:=.mk 0 nm a k cap f) hT hlt;have ha':=ha;subst ha';have c0':=c0;have c1':=c1;have c2':=c2;have HNj:=hid (NM.kid (T:=.mk 0 nm (some ⟨b,o,none⟩) k cap f) (hP.nm HTa.o HNM.o) hlt);have HBb:Hid (Below wr.heap.size wr (wr.alloc (.cells #[iV (f j).v,.string (f j).nm,.slice (f j).a (f j).len (f j).cap] 67))):=(Below.refl _ _).alloc (Nat.le_refl _) _;have HPb:=hid (hP.below HBb.o);have hsb:=HBb.o.size;have HCl:=hid (HIH.o j hlt lo m (.slice sc q.1.length cc) q _ (hK.below HBb.o) (HOk.o j hlt) HNj.o HPb.o.row HPb.o.map (by omega) (by omega))
    have HTl:=hid ((putT_len (HOk.o j hlt) q).1);have hw1:IntKind.i64.wrap ((l.length:Int)+1)=(l.length:Int)+1:=by simp[IntKind.wrap,IntKind.bits,IntKind.signed];omega
    have hw2:IntKind.i64.wrap ((l.length:Int)+1+(j:Int))=((l.length+1+j:Nat):Int):=by simp[IntKind.wrap,IntKind.bits,IntKind.signed];omega
    clear hP hT hK c0 c1 c2 ha hcc;go_wp2_with fail;refine HCl.o.mono ?_;intro e w8 hR;obtain ⟨v',rfl,hP8⟩:=HPb.o.put hR;generalize hrr:putT (f j) q=r at*;have hl8:l.length+1+j<r.1.1.length:=by have:=HTl.o;omega
    obtain ⟨g,cg,rfl⟩: ∃g cg,v'=.slice (some ⟨g,0,none⟩) r.1.1.length cg:=by
     rcases hP8.row.2 with ⟨_,h0⟩| ⟨g,cg,cur,hv,_⟩
     ·omega
     ·exact ⟨g,cg,hv⟩
    have hl8I:(((l.length+1+j:Nat):Int))<(r.1.1.length:Int):=by omega
    have y1: ∃y,w8.cell? ⟨g,(l.length+1+j)*3+1,none⟩=some y:=by
     have h9:=World.ownsRow.cellAt hP8.row ((l.length+1+j)*3+1) (by omega)
     rw[(flatC_get r.1.1 (l.length+1+j) hl8).2.1]at h9;exact ⟨_,h9⟩
    obtain ⟨y,y1⟩:=y1
    have yf:w8.frozen? ⟨g,(l.length+1+j)*3+1,none⟩=false:=by
     rcases hP8.row.2 with ⟨h',_⟩| ⟨g',cap',cur,h',_,hg',_⟩
     ·cases h'
     ·cases h'
      simp[World.frozen?,hg']
    have HP9:Hid (PtW lo m wa (.slice sa l.length cp) (w8.setCell ⟨g,(l.length+1+j)*3+1,none⟩ (iV r.2)) (.slice (some ⟨g,0,none⟩) r.1.1.length cg) (putK (fun i=>putT (f i)) l.length (j+1) (l++(⟨2,k,nm⟩::frs l.length k),σ))):=by
     rw[Hid,HKS.o,hOf_get hl8];have hg9:=grown_set (W:=w8) g ((l.length+1+j)*3+1) (iV r.2);exact hP8.grown (hP8.row.setN rfl hl8 r.2) hg9 (.inl rfl)
    clear hR hP8 HKS;go_wp2_with fail;go_roundw
    case rel=>exact ⟨j+1,by omega,by go_num,HP9.o⟩
    case measure=>simp[intOf];omega
   have hjI: ¬((j:Int)<(k:Int)):=by omega
   obtain rfl:j=k:=by omega
   have HP:=hid hP;have hlast:=hP.last (w0:=w) HBa.o (by omega)
   clear hP;go_wp2_with fail;refine bodyPost_ret (v:=.tuple #[u0,iV (l.length:Int)]) (by simp[results,Tryz.results94,go_sem]) rfl ?_
   rw[HE.o];exact PtW.o (q:=(putK (fun i=>putT (f i)) l.length j (l++(⟨2,j,nm⟩::frs l.length j),σ),(l.length:Int))) HBa.o HP.o hlast
theorem put_all (T:Tm):PtC T:=by
 induction T with
 |nil=>intro lo m v p w hT hO;exact hO.elim
 |mk v nm a len cap f ih=>
  by_cases hv:v=0
  ·subst hv;exact put_fn (fun i _=>ih i)
  ·exact put_var hv
end Go.Proofs.YtmggaclaoefdaabGreat

namespace Go.Proofs.YtmggaclaoefdaabGreat
open Go.RowKit
def dl (σ:Sg) (l:List Int):Sg:=fun v=>if v∈l then none else σ v
theorem from_run (g ln cp k:Nat) (h:k≤ln) (hc:ln≤cp): ∃o,(∀W:World,(Instr.slice 28 (.slice (some ⟨g,0,none⟩) ln cp) (some (iV k)) none none).run Tryz.prog W=.ok (.slice (some ⟨g,o,none⟩) (ln-k) (cp-k)) W)∧(k<ln→o=k):=by
 obtain ⟨i0,hi,hz0,hz1,hz2⟩:=info_parts Tryz.info3;have h':(k:Int)≤(ln:Int):=by omega
 refine ⟨if cp=k then 0 else k,fun W=>?_,fun h1=>by rw[if_neg (by omega)]⟩
 simp[Instr.slice,run_underlying Tryz.underlying28,Instr.sliceBounds,run_sliceBound,sizeOf,typeInfo,hi,hz1,h',Addr.add]
 by_cases h1:cp=k
 ·rw[if_pos h1,if_pos h1]
 ·rw[if_neg h1,if_neg h1]
  by_cases h2:k=0
  ·rw[if_pos h2,h2]
  ·rw[if_neg h2]
theorem to_run (g ln cp k:Nat) (h:k≤ln) (hc:ln≤cp) (W:World):(Instr.slice 28 (.slice (some ⟨g,0,none⟩) ln cp) none (some (iV k)) none).run Tryz.prog W=.ok (.slice (some ⟨g,0,none⟩) k cp) W:=by
 obtain ⟨i0,hi,hz0,hz1,hz2⟩:=info_parts Tryz.info3;have h':(k:Int)≤(cp:Int):=by omega
 simp[Instr.slice,run_underlying Tryz.underlying28,Instr.sliceBounds,run_sliceBound,sizeOf,typeInfo,hi,h',Addr.add]
theorem from_nil (W:World):(Instr.slice 28 (.slice none 0 0) (some (iV 0)) none none).run Tryz.prog W=.ok (.slice none 0 0) W:=by
 obtain ⟨i0,hi,hz0,hz1,hz2⟩:=info_parts Tryz.info3;simp[Instr.slice,run_underlying Tryz.underlying28,Instr.sliceBounds,run_sliceBound,sizeOf,typeInfo,hi,Addr.add]
theorem to_nil (W:World):(Instr.slice 28 (.slice none 0 0) none (some (iV 0)) none).run Tryz.prog W=.ok (.slice none 0 0) W:=by
 obtain ⟨i0,hi,hz0,hz1,hz2⟩:=info_parts Tryz.info3;simp[Instr.slice,run_underlying Tryz.underlying28,Instr.sliceBounds,run_sliceBound,sizeOf,typeInfo,hi,Addr.add]
end Go.Proofs.YtmggaclaoefdaabGreat

namespace Go.Proofs.YtmggaclaoefdaabGreat
open Go.RowKit
structure Sr where
 av:Value
 fin:Int
 st:Int
 P:Pg
 limit:Int
 asked:Int
 last:Int
 b:Nat
 first:Value
 cv:Value
theorem can_vT (n:Int):can (vT n)=vT n:=by
 unfold vT;rw[can_eq]
 show Tm.mk n ⟨#[]⟩ none 0 0 _=_
 congr 1
end Go.Proofs.YtmggaclaoefdaabGreat

namespace Go.Proofs.YtmggaclaoefdaabGreat
open Go.RowKit
def cls (P:Pg):Cls:=(List.range P.len).map fun i=>(can (P.hd i),(kidsL (P.bd i)).map can)
theorem cls_len (P:Pg):(cls P).length=P.len:=by simp[cls]
theorem cls_get (P:Pg) {i:Nat} (h:i<P.len):(cls P).getD i (.nil,[])=(can (P.hd i),(kidsL (P.bd i)).map can):=by
 simp[cls,List.getD,h]
theorem isT_can (T:Tm) (nm:ByteArray) (n:Nat):isT (can T) nm n=isT T nm n:=by unfold isT;rw[can_nm,can_len]
def fitI:Option Nat→Int
 |none=> -1
 |some j=>j
theorem fit_none {P:Pg} {t:Tm} {i:Nat} (h: ∀k,i≤k→k<P.len→isT (P.hd k) t.nm t.len=false):fitP (cls P) t i=none:=by
 unfold fitP;rw[List.find?_eq_none];intro k hk;rw[cls_len]at hk;have hk:=List.mem_range.1 hk;rw[cls_get P hk,isT_can]
 by_cases hi:i≤k
 ·rw[h k hi hk];simp
 ·simp[hi]
theorem fit_some {P:Pg} {t:Tm} {i j:Nat} (hi:i≤j) (hj:j<P.len) (hm:isT (P.hd j) t.nm t.len=true) (h: ∀k,i≤k→k<j→isT (P.hd k) t.nm t.len=false):fitP (cls P) t i=some j:=by
 unfold fitP;rw[List.find?_range_eq_some,cls_len,cls_get P hj,isT_can];refine ⟨by simp[hi,hm],List.mem_range.2 hj,fun k hk=>?_⟩
 rw[cls_get P (by omega),isT_can]
 by_cases hik:i≤k
 ·rw[h k hik hk];simp
 ·simp[hik]
theorem Tryz.info107:(Tryz.prog.info? 107).map (fun i=>(i.zero,i.size,i.bytes))=some (some (.agg #[iV 0,.string ⟨#[]⟩,.slice none 0 0,.slice none 0 0]),4,72):=by kernel_rfl
theorem pfrom (a:Option Addr) (ln cp k:Nat) (h:k≤ln) (hc:ln≤cp): ∃a',(∀W:World,(Instr.slice 23 (.slice a ln cp) (some (iV k)) none none).run Tryz.prog W=.ok (.slice a' (ln-k) (cp-k)) W)∧∀b o,a=some ⟨b,o,none⟩→k<ln→a'=some ⟨b,o+k*4,none⟩:=by
 obtain ⟨i0,hi,hz0,hz1,hz2⟩:=info_parts Tryz.info107;have h':(k:Int)≤(ln:Int):=by omega
 refine ⟨if cp=k then a else a.map fun ad=>ad.add (k*4),fun W=>?_,fun b o ha h1=>?_⟩
 ·simp[Instr.slice,run_underlying Tryz.underlying23,Instr.sliceBounds,run_sliceBound,sizeOf,typeInfo,hi,hz1,h']
 ·rw[if_neg (by omega),ha]
  simp[Addr.add]
end Go.Proofs.YtmggaclaoefdaabGreat

namespace Go.Proofs.YtmggaclaoefdaabGreat
open Go.RowKit

def slA (A : Tm) : Value := .slice A.a A.len A.cap
end Go.Proofs.YtmggaclaoefdaabGreat

namespace Go.Proofs.YtmggaclaoefdaabGreat
open Go.RowKit
def ansC (A:Tm):List Tm:=(kidsL A).map can
end Go.Proofs.YtmggaclaoefdaabGreat
