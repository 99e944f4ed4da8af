/- Part of the proof. -/
import Derived.Test.YtmggaclaoefdaabGreatSq0
import Derived.Test.YtmggaclaoefdaabGreatGAG
import Derived.Deep.RegionWith
import Derived.Deep.Cut
import Derived.Deep.CutRange
namespace Go.Proofs.YtmggaclaoefdaabGreat
open Go.RowKit
inductive MO where
 |over
 |no (L:Nat)
 |yes (L:Nat) (σ:Sg)
def zipK (S T:Tm):List (Tm × Tm):=(List.range S.len).map fun i=>(S.f i,T.f i)
def meetF:Nat→Sg→Nat→List (Tm × Tm)→MO
 |0,_,_,_=> .over
 |_+1,σ,L,[]=> .yes L σ
 |_+1,_,0,_::_=> .over
 |F+1,σ,L+1,(x,y)::ps=>
  if (wha σ x).v≠0 then
   if (wha σ x).v=(wha σ y).v then meetF F σ L ps
   else match within σ (wha σ x).v L [wha σ y]with
    | .over=> .over
    | .found k=> .no k
    | .free k=>meetF F (put σ (wha σ x) (wha σ y)) k ps
  else if (wha σ y).v≠0 then
   match within σ (wha σ y).v L [wha σ x]with
    | .over=> .over
    | .found k=> .no k
    | .free k=>meetF F (put σ (wha σ y) (wha σ x)) k ps
  else if (wha σ x).nm.toList=(wha σ y).nm.toList∧(wha σ x).len=(wha σ y).len then meetF F σ L (zipK (wha σ x) (wha σ y)++ps)
  else .no L
theorem meet_var {F:Nat} {σ:Sg} {L:Nat} {S T:Tm} {ps:List (Tm × Tm)} (h:(wha σ S).v≠0) (he:(wha σ S).v=(wha σ T).v):meetF (F+1) σ (L+1) ((S,T)::ps)=meetF F σ L ps:=by
 rw[meetF,if_pos h,if_pos he]
theorem meet_left {F:Nat} {σ:Sg} {L:Nat} {S T:Tm} {ps:List (Tm × Tm)} (h:(wha σ S).v≠0) (he:(wha σ S).v≠(wha σ T).v):meetF (F+1) σ (L+1) ((S,T)::ps)=match within σ (wha σ S).v L [wha σ T]with
        | .over=> .over
        | .found k=> .no k
        | .free k=>meetF F (put σ (wha σ S) (wha σ T)) k ps:=by
 rw[meetF,if_pos h,if_neg he]
theorem meet_right {F:Nat} {σ:Sg} {L:Nat} {S T:Tm} {ps:List (Tm × Tm)} (h:(wha σ S).v=0) (he:(wha σ T).v≠0):meetF (F+1) σ (L+1) ((S,T)::ps)=match within σ (wha σ T).v L [wha σ S]with
        | .over=> .over
        | .found k=> .no k
        | .free k=>meetF F (put σ (wha σ T) (wha σ S)) k ps:=by
 rw[meetF,if_neg (by simpa using h),if_pos he]
theorem meet_on {F:Nat} {σ:Sg} {L:Nat} {S T:Tm} {ps:List (Tm × Tm)} (h:(wha σ S).v=0) (he:(wha σ T).v=0) (hn:(wha σ S).nm.toList=(wha σ T).nm.toList) (hl:(wha σ S).len=(wha σ T).len):meetF (F+1) σ (L+1) ((S,T)::ps)=meetF F σ L (zipK (wha σ S) (wha σ T)++ps):=by
 rw[meetF,if_neg (by simpa using h),if_neg (by simpa using he),if_pos ⟨hn,hl⟩]
theorem meet_off {F:Nat} {σ:Sg} {L:Nat} {S T:Tm} {ps:List (Tm × Tm)} (h:(wha σ S).v=0) (he:(wha σ T).v=0) (hn: ¬((wha σ S).nm.toList=(wha σ T).nm.toList∧(wha σ S).len=(wha σ T).len)):meetF (F+1) σ (L+1) ((S,T)::ps)=.no L:=by
 rw[meetF,if_neg (by simpa using h),if_neg (by simpa using he),if_neg hn]
end Go.Proofs.YtmggaclaoefdaabGreat
