/- Part of the proof. -/
import Derived.Test.YtmggaclaoefdaabGreatSq0
import Derived.Test.YtmggaclaoefdaabGreatGAI
namespace Go.Proofs.YtmggaclaoefdaabGreat
open Go.RowKit
theorem dec_upd {σ:Sg} (hd:Dec σ) {i:Int} {U:Tm} (hU:U.v=0∨(0<U.v∧U.v<i)):Dec (upd σ i U):=by
 intro v V h;unfold upd at h
 by_cases e:v=i
 ·rw[if_pos e]at h
  obtain rfl:=Option.some.inj h;rw[e];exact hU
 ·rw[if_neg e]at h
  exact hd v V h
theorem wha_upd {σ:Sg} (hd:Dec σ) {i:Int} {U:Tm} (hi:0<i) (hn:σ i=none) (hU:U.v=0∨(0<U.v∧U.v<i)) (hUn:U.v≠0→σ U.v=none):
 ∀(k:Nat) (T:Tm),T.v.toNat=k→0≤T.v→wha (upd σ i U) T=if (wha σ T).v=i then U else wha σ T:=by
 have hd':=dec_upd hd hU;intro k
 induction k using Nat.strongRecOn with
 |_ k ih=>
  intro T hk h0
  by_cases hv:T.v=0
  ·rw[wha_fn hv,wha_fn hv,if_neg (by omega)]
  by_cases hTi:T.v=i
  ·have e1:upd σ i U T.v=some U:=by unfold upd;rw[if_pos hTi]
   rw[wha_some hd' h0 hv e1,wha_none (T:=T) (by rw[hTi];exact hn),if_pos hTi]
   by_cases hu:U.v=0
   ·exact wha_fn hu
   ·refine wha_none ?_
    unfold upd;rw[if_neg (by omega)]
    exact hUn hu
  ·have e1:upd σ i U T.v=σ T.v:=by unfold upd;rw[if_neg hTi]
   cases hs:σ T.v with
   |none=>rw[wha_none (by rw[e1];exact hs),wha_none hs,if_neg hTi]
   |some V=>
    rw[wha_some hd' h0 hv (by rw[e1];exact hs),wha_some hd h0 hv hs]
    rcases hd _ _ hs with h| ⟨h1,h2⟩
    ·exact ih V.v.toNat (by omega) V rfl (by omega)
    ·exact ih V.v.toNat (by omega) V rfl (by omega)
end Go.Proofs.YtmggaclaoefdaabGreat
