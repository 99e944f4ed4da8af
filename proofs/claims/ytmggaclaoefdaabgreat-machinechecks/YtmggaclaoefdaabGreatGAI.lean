/- Part of the proof. Part of the proof. Part of the proof. -/
import Derived.Test.YtmggaclaoefdaabGreatSq0
import Derived.Test.YtmggaclaoefdaabGreatGAG
import Derived.Test.YtmggaclaoefdaabGreatBnd5
namespace Go.Proofs.YtmggaclaoefdaabGreat
open Go.RowKit
theorem okv_of_err (T:Tm):err T=0→Okv 12 T:=by
 induction T with
 |nil=>intro h;exact absurd h (by decide+kernel)
 |mk v nm a len cap f ih=>
  intro h
  have hp:partE v nm len=0:=by
   by_cases hp:partE v nm len=0
   ·exact hp
   ·rw[err,if_neg hp]at h;exact h
  rw[err,if_pos hp]at h
  have hk: ∀i,i<len→err (f i)=0:=by
   intro i hi;have h0:=fst_zero (fun i=>err (f i)) (Nat.le_of_lt hi) h
   have h1:=fst_zero (fun i=>err (f i)) (show i+1≤len from hi) h
   rw[fst,if_pos h0]at h1;exact h1
  by_cases hv:v=0
  ·rw[partE,if_neg (by simpa using hv)]at hp
   split at hp
   ·omega
   ·split at hp
    ·omega
    ·exact ⟨by omega,by omega,fun h=>absurd hv h,by omega,fun i hi=>ih i (hk i hi)⟩
  ·rw[partE,if_pos hv,varE]at hp
   split at hp
   ·omega
   ·split at hp
    ·omega
    ·split at hp
     ·rename_i hn
      split at hp
      ·omega
      ·refine ⟨by omega,by omega,fun _=>⟨?_,by omega⟩,by omega,fun i hi=>ih i (hk i hi)⟩
       rw[ByteArray.toList_eq]at hn;cases nm;simp at hn;simp[hn]
     ·omega
theorem checkV_err {T:Tm} (h:checkV T=0):err T=0:=by
 by_cases hc:cnt T≤60
 ·rw[checkV,if_pos hc]at h;exact h
 ·rw[checkV,if_neg hc]at h;omega
end Go.Proofs.YtmggaclaoefdaabGreat

namespace Go.Proofs.YtmggaclaoefdaabGreat
open Go.RowKit
def can:Tm→Tm
 | .nil=> .mk 0 ⟨#[]⟩ none 0 0 (fun _=> .nil)
 | .mk v nm _ len _ f=> .mk v nm none len 0 (fun i=>if i<len then can (f i)else .nil)
theorem can_eq (T:Tm):can T=.mk T.v T.nm none T.len 0 (fun i=>if i<T.len then can (T.f i)else .nil):=by
 cases T with
 |nil=>
  show Tm.mk 0 ⟨#[]⟩ none 0 0 (fun _=> .nil)=Tm.mk 0 ⟨#[]⟩ none 0 0 _
  congr 1
 |mk=>rfl
theorem can_ext {T U:Tm} (h1:T.v=U.v) (h2:T.nm=U.nm) (h3:T.len=U.len) (h4: ∀i,i<T.len→can (T.f i)=can (U.f i)):can T=can U:=by
 rw[can_eq T,can_eq U,h1,h2,h3]
 congr 1
 funext i
 by_cases hi:i<U.len
 ·rw[if_pos hi,if_pos hi];exact h4 i (by omega)
 ·rw[if_neg hi,if_neg hi]
theorem can_can (T:Tm):can (can T)=can T:=by
 induction T with
 |nil=>rfl
 |mk v nm a len cap f ih=>
  refine can_ext rfl rfl rfl (fun i hi=>?_)
  have hi':i<len:=hi
  show can (if i<len then can (f i)else .nil)=can (f i)
  rw[if_pos hi'];exact ih i
def ap (θ:Int→Tm):Tm→Tm
 | .nil=> .mk 0 ⟨#[]⟩ none 0 0 (fun _=> .nil)
 | .mk v nm _ len _ f=>if v=0 then .mk 0 nm none len 0 (fun i=>if i<len then ap θ (f i)else .nil)else θ v
theorem ap_var (θ:Int→Tm) {T:Tm} (h:T.v≠0):ap θ T=θ T.v:=by
 cases T with
 |nil=>exact absurd rfl h
 |mk v nm a len cap f=>
  have h: ¬v=0:=h;rw[ap,if_neg h];rfl
theorem ap_fn (θ:Int→Tm) {T:Tm} (h:T.v=0):ap θ T=.mk 0 T.nm none T.len 0 (fun i=>if i<T.len then ap θ (T.f i)else .nil):=by
 cases T with
 |nil=>
  show Tm.mk 0 ⟨#[]⟩ none 0 0 (fun _=> .nil)=Tm.mk 0 ⟨#[]⟩ none 0 0 _
  congr 1
 |mk v nm a len cap f=>
  have h:v=0:=h;rw[ap,if_pos h];rfl
theorem ap_can (θ:Int→Tm) (T:Tm):ap θ (can T)=ap θ T:=by
 induction T with
 |nil=>
  show (if (0:Int)=0 then Tm.mk 0 ⟨#[]⟩ none 0 0 (fun i=>if i<0 then ap θ .nil else .nil)else θ 0)=Tm.mk 0 ⟨#[]⟩ none 0 0 (fun _=> .nil)
  rw[if_pos rfl]
  congr 1
 |mk v nm a len cap f ih=>
  show ap θ (.mk v nm none len 0 _)=_
  rw[ap,ap]
  split
  ·congr 1
   funext i
   by_cases hi:i<len
   ·rw[if_pos hi,if_pos hi,if_pos hi];exact ih i
   ·rw[if_neg hi,if_neg hi]
  ·rfl
end Go.Proofs.YtmggaclaoefdaabGreat

namespace Go.Proofs.YtmggaclaoefdaabGreat
open Go.RowKit
def ans (σ:Sg):Int→Tm:=fun v=>can (ex σ 200 (vT v))
end Go.Proofs.YtmggaclaoefdaabGreat
