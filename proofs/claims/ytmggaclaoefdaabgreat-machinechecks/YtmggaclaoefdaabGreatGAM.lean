/- Part of the proof. Part of the proof. -/
import Derived.Test.YtmggaclaoefdaabGreatSq0
import Derived.Test.YtmggaclaoefdaabGreatRfD
import Derived.Test.YtmggaclaoefdaabGreatGAK
namespace Go.Proofs.YtmggaclaoefdaabGreat
open Go.RowKit
theorem owns_set1 {w:World} {lo g cap n:Nat} {t:TypeId} {xs:List Value} (h:w.ownsRow lo t 1 (.slice (some ⟨g,0,none⟩) n cap) n xs) (i:Nat) (x:Value):
 (w.setCell ⟨g,i,none⟩ x).ownsRow lo t 1 (.slice (some ⟨g,0,none⟩) n cap) n (xs.set i x):=by
 obtain ⟨h1,h2⟩:=h
 rcases h2 with ⟨h2,_⟩| ⟨g',cap',cur,hv,hlo,hg,hnc,hcm,hsz,htk⟩
 ·cases h2
 cases hv;refine ⟨by simp[h1],.inr ⟨g,cap,cur.setIfInBounds i x,rfl,hlo,?_,hnc,hcm,by simp[hsz],?_⟩⟩
 ·simp only[World.setCell,Array.getElem?_modify]
  simp[hg]
 ·rw[←htk]
  simp[List.take_set]
end Go.Proofs.YtmggaclaoefdaabGreat

namespace Go.Proofs.YtmggaclaoefdaabGreat
open Go.RowKit
def rd1 (lead:Nat→List Nat) (i k y:Nat):List Nat:=rd0 lead i y++List.replicate (((lead i).take k).count y) i
theorem rd1_zero (lead:Nat→List Nat) (i:Nat):rd1 lead i 0=rd0 lead i:=by funext y;simp[rd1]
theorem rd1_end (lead:Nat→List Nat) (i:Nat):rd1 lead i (lead i).length=rd0 lead (i+1):=by
 funext y
 rw[rd0_succ,rd1,List.take_length]
theorem rd1_succ (lead:Nat→List Nat) (i k:Nat) (h:k<(lead i).length) (y:Nat):rd1 lead i (k+1) y=if y=(lead i)[k]then rd1 lead i k y++ [i]else rd1 lead i k y:=by
 unfold rd1;rw[List.take_succ_eq_append_getElem h,List.count_append,List.count_singleton]
 by_cases e:y=(lead i)[k]
 ·rw[if_pos (by simpa using e.symm),if_pos e,List.replicate_succ',List.append_assoc]
 ·rw[if_neg (by simpa using fun h=>e h.symm),if_neg e,Nat.add_zero]
theorem rd0_len (lead:Nat→List Nat) (h4: ∀x,(lead x).length≤4) (y:Nat): ∀i,(rd0 lead i y).length≤4*i:=by
 intro i
 induction i with
 |zero=>exact Nat.le_refl _
 |succ i ih=>
  rw[rd0_succ,List.length_append,List.length_replicate];have:= @List.count_le_length _ _ y (lead i);have:=h4 i;omega
theorem rd1_len (lead:Nat→List Nat) (h4: ∀x,(lead x).length≤4) (i k y:Nat):(rd1 lead i k y).length≤4*i+4:=by
 unfold rd1;rw[List.length_append,List.length_replicate];have h1:=rd0_len lead h4 y i;have h2:= @List.count_le_length _ _ y ((lead i).take k);have h3:=h4 i;have h5:((lead i).take k).length≤(lead i).length:=by rw[List.length_take];omega
 omega
structure StM (w:World) (lo gl gf n:Nat) (c:Nat→Int) (fv:Nat→Value) (rd:Nat→List Nat):Prop where
 left:w.ownsRow lo 3 1 (.slice (some ⟨gl,0,none⟩) n n) n ((List.range n).map fun i:Nat=>iV (c i))
 frm:w.ownsRow lo 28 1 (.slice (some ⟨gf,0,none⟩) n n) n ((List.range n).map fv)
 lst: ∀y,y<n→IntsR lo w (fv y) (rd y)
 dis: ∀y,y<n→∀g,(fv y).ownBlock=some g→g≠gl∧g≠gf∧∀y',y'<n→y'≠y→(fv y').ownBlock≠some g
 ne:gl≠gf
theorem IntsR.kept {lo:Nat} {w w':World} {v:Value} {l:List Nat} {row:Option Nat} (h:IntsR lo w v l) (hg:w.grownBy w' row) (hn:v.ownBlock=none∨v.ownBlock≠row):IntsR lo w' v l:=by
 refine World.ownsRow.kept h hg ?_
 rcases hn with e|e
 ·exact .inl e
 ·exact .inr e
theorem IntsR.below {lo:Nat} {w w':World} {v:Value} {l:List Nat} (h:IntsR lo w v l) (hb:Below w.heap.size w w'):IntsR lo w' v l:=by
 refine h.kept (grown_of_below hb none) ?_
 cases v.ownBlock with
 |none=>exact .inl rfl
 |some g=>exact .inr (by simp)
theorem StM.below {w w':World} {lo gl gf n:Nat} {c:Nat→Int} {fv:Nat→Value} {rd:Nat→List Nat} (h:StM w lo gl gf n c fv rd) (hb:Below w.heap.size w w'):StM w' lo gl gf n c fv rd:=
 ⟨h.left.kept (grown_of_below hb none) (.inr (fun e=>by cases e)),h.frm.kept (grown_of_below hb none) (.inr (fun e=>by cases e)),fun y hy=>(h.lst y hy).below hb,h.dis,h.ne⟩
theorem StM.lt {w:World} {lo gl gf n:Nat} {c:Nat→Int} {fv:Nat→Value} {rd:Nat→List Nat} (h:StM w lo gl gf n c fv rd):gl<w.heap.size∧gf<w.heap.size∧lo≤gl∧lo≤gf∧∀y,y<n→∀g,(fv y).ownBlock=some g→lo≤g∧g<w.heap.size:=
 ⟨(h.left.lt gl rfl).2,(h.frm.lt gf rfl).2,(h.left.lt gl rfl).1,(h.frm.lt gf rfl).1,fun y hy g hg=>World.ownsRow.lt (h.lst y hy) g hg⟩
theorem range_set {α:Type} (f:Nat→α) (n i:Nat) (x:α):((List.range n).map f).set i x=(List.range n).map fun j=>if j=i then x else f j:=by
 refine List.ext_getElem (by simp) fun j h1 h2=>?_
 rw[List.getElem_set];simp only[List.getElem_map,List.getElem_range]
 by_cases e:i=j
 ·rw[if_pos e,if_pos e.symm]
 ·rw[if_neg e,if_neg (fun h=>e h.symm)]
theorem StM.setL {w:World} {lo gl gf n:Nat} {c:Nat→Int} {fv:Nat→Value} {rd:Nat→List Nat} (h:StM w lo gl gf n c fv rd) (i:Nat) (x:Int):StM (w.setCell ⟨gl,i,none⟩ (iV x)) lo gl gf n (fun j=>if j=i then x else c j) fv rd:=by
 have hg:=grown_set (W:=w) gl i (iV x);refine ⟨?_,h.frm.kept hg (.inr (fun e=>h.ne (Option.some.inj e).symm)),fun y hy=>(h.lst y hy).kept hg ?_,h.dis,h.ne⟩
 ·have:=owns_set1 h.left i (iV x)
  rw[range_set]at this;have e:(fun j:Nat=>if j=i then iV x else iV (c j))=fun j:Nat=>iV (if j=i then x else c j):=by funext j;split <;> rfl
  rw[e]at this;exact this
 ·cases hv:(fv y).ownBlock with
  |none=>exact .inl rfl
  |some g=>exact .inr (fun e=>(h.dis y hy g hv).1 (Option.some.inj e))
theorem StM.add {w w1:World} {lo gl gf n:Nat} {c:Nat→Int} {fv:Nat→Value} {rd:Nat→List Nat} (h:StM w lo gl gf n c fv rd) {y i:Nat} (hy:y<n) {v':Value} (ho:w1.ownsRow lo 3 1 v' ((rd y).length+1) (((rd y).map fun x:Nat=>iV (x:Int))++ [iV (i:Int)])) (hg:w.grownBy w1 (fv y).ownBlock) (hat:v'.ownBlock=(fv y).ownBlock∨v'.ownBlock=some w.heap.size):
 StM (w1.setCell ⟨gf,y,none⟩ v') lo gl gf n c (fun j=>if j=y then v' else fv j) (fun j=>if j=y then rd j++ [i]else rd j):=by
 have hlt:=h.lt;have hgs:=grown_set (W:=w1) gf y v'
 have hnew: ∀g,v'.ownBlock=some g→g≠gl∧g≠gf∧∀y',y'<n→y'≠y→(fv y').ownBlock≠some g:=fun g hvg=>by
  rcases hat with e|e
  ·exact h.dis y hy g (by rw[←e];exact hvg)
  ·have hgw:g=w.heap.size:=by rw[e]at hvg;exact (Option.some.inj hvg).symm
   refine ⟨by omega,by omega,fun y' hy' _ e'=>?_⟩
   have:=(hlt.2.2.2.2 y' hy' g e').2;omega
 have hfl: ∀k,some k=(fv y).ownBlock→k≠gl∧k≠gf∧∀y',y'<n→y'≠y→(fv y').ownBlock≠some k:=fun k e=>h.dis y hy k e.symm
 refine ⟨?_,?_,fun j hj=>?_,fun j hj g hjg=>?_,h.ne⟩
 ·have h1:=h.left.kept hg (.inr (fun e=>(hfl gl e).1 rfl))
  exact h1.kept hgs (.inr (fun e=>h.ne (Option.some.inj e)))
 ·have h1:=h.frm.kept hg (.inr (fun e=>(hfl gf e).2.1 rfl))
  have h2:=owns_set1 h1 y v';rw[range_set]at h2;exact h2
 ·show IntsR lo _ (if j=y then v' else fv j) (if j=y then rd j++ [i]else rd j)
  by_cases e:j=y
  ·subst e
   rw[if_pos rfl,if_pos rfl]
   have h1:IntsR lo w1 v' (rd j++ [i]):=by
    unfold IntsR;rw[List.length_append,List.map_append];exact ho
   refine h1.kept hgs ?_
   cases hv:v'.ownBlock with
   |none=>exact .inl rfl
   |some g=>exact .inr (fun e=>(hnew g hv).2.1 (Option.some.inj e))
  ·rw[if_neg e,if_neg e]
   have h1:IntsR lo w1 (fv j) (rd j):=(h.lst j hj).kept hg (by
    cases hv:(fv j).ownBlock with
    |none=>exact .inl rfl
    |some g=>exact .inr (fun e'=>(hfl g e').2.2 j hj e hv))
   refine h1.kept hgs ?_
   cases hv:(fv j).ownBlock with
   |none=>exact .inl rfl
   |some g=>exact .inr (fun e'=>(h.dis j hj g hv).2.1 (Option.some.inj e'))
 ·have hjg':(if j=y then v' else fv j).ownBlock=some g:=hjg
  show g≠gl∧g≠gf∧∀y',y'<n→y'≠j→(if y'=y then v' else fv y').ownBlock≠some g
  by_cases e:j=y
  ·subst e
   rw[if_pos rfl]at hjg';obtain ⟨h1,h2,h3⟩:=hnew g hjg';refine ⟨h1,h2,fun y' hy' hne=>?_⟩
   rw[if_neg hne];exact h3 y' hy' hne
  ·rw[if_neg e]at hjg'
   obtain ⟨h1,h2,h3⟩:=h.dis j hj g hjg';refine ⟨h1,h2,fun y' hy' hne=>?_⟩
   by_cases e':y'=y
   ·rw[if_pos e']
    intro hv;exact (hnew g hv).2.2 j hj e hjg'
   ·rw[if_neg e'];exact h3 y' hy' hne
end Go.Proofs.YtmggaclaoefdaabGreat
