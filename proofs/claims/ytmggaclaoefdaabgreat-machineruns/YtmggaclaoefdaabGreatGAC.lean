/- Part of the proof. -/
import Derived.Test.YtmggaclaoefdaabGreatSq0
import Derived.Test.YtmggaclaoefdaabGreatProg
import Derived.WalkKit
import Derived.WalkSpells
import Derived.WalkLawsBesides
namespace Go.Proofs.YtmggaclaoefdaabGreat
open Go.RowKit Go.Proofs.Tryz
set_option linter.unusedVariables false
set_option linter.unusedSimpArgs false
set_option maxRecDepth 100000
set_option maxHeartbeats 8000000
def nz (n l m:Int):Bool:=decide (l<=n)&&decide (n<=m)
theorem P8 (n l m:Int) (w:World):
 Calls prog 28 #[iV n,iV l,iV m] w fun e w'=>e=.returned (.bool (nz n l m))/\w'=w:=by
 by_cases h1:l<=n <;> by_cases h2:n<=m
 all_goals
  have H:Hid (nz n l m=(decide (l<=n)&&decide (n<=m))):=rfl
  go_enter Tryz.func28,Tryz.ntmps28
  go_wp2
  go_ret;exact ⟨by rw[H.o];simp[*],rfl⟩
theorem i8 (n:Int) (w:World):
 Calls prog 174 #[.int .u8 n] w fun e w'=>e=.returned (.bool (nz n 97 122))/\w'=w:=by
 by_cases h1:97<=n <;> by_cases h2:n<=122
 all_goals
  have H:Hid (nz n 97 122=(decide (97<=n)&&decide (n<=122))):=rfl
  go_enter Tryz.func174,Tryz.ntmps174
  go_wp2
  go_ret;exact ⟨by rw[H.o];simp[*],rfl⟩
def ki (c:Int):Bool:=nz c 97 122 ||nz c 48 57 ||(c==95)
def rp (l:List UInt8):Bool:=l.all fun c=>ki (c.toNat:Int)
def Ge (l:List UInt8):Bool:=match l with| []=>false|c::_=>nz (c.toNat:Int) 97 122
def ju (s:ByteArray):Bool:=decide (1<=s.size)&&decide (s.size<=8)&&Ge s.data.toList&&rp s.data.toList
def fw (s:ByteArray):Bool:=(s.toList== [33]) ||ju s
theorem xl (s:ByteArray) (k:Nat) (h:k<s.size):s.data.toList.take (k+1)=s.data.toList.take k++ [s[k]]:=by
 rw[List.take_succ_eq_append_getElem (by simpa using h)];rfl
theorem Fd (s:ByteArray) (k:Nat) (h:k<s.size):rp (s.data.toList.take (k+1))=(rp (s.data.toList.take k)&&ki (s[k].toNat:Int)):=by
 rw[xl s k h];simp[rp]
theorem Nl (s:ByteArray) (k:Nat) (h:k<s.size) (hi:ki (s[k].toNat:Int)=false):ju s=false:=by
 have h1:rp s.data.toList=false:=by
  rw[<-List.take_append_drop (k+1) s.data.toList,xl s k h];simp[rp,hi]
 simp[ju,h1]
theorem vp (s:ByteArray) (h:0<s.size):Ge s.data.toList=nz (s[0].toNat:Int) 97 122:=by
 have:s.data.toList=s[0]::s.data.toList.drop 1:=by
  rw[<-List.drop_zero (l:=s.data.toList),List.drop_eq_getElem_cons (by simpa using h)];rfl
 rw[this];rfl
theorem Gx (s:ByteArray) (h1:1<=s.size) (h8:s.size<=8) (h:0<s.size) (hf:nz (s[0].toNat:Int) 97 122=true) (ha:rp (s.data.toList.take s.size)=true):ju s=true:=by
 have e:s.data.toList.take s.size=s.data.toList:=List.take_of_length_le (by simp)
 rw[e]at ha;simp[ju,h1,h8,vp s h,hf,ha]
theorem Cv (s:ByteArray) (h: ¬1<=s.size):ju s=false:=by simp[ju,h]
theorem D2 (s:ByteArray) (h: ¬s.size<=8):ju s=false:=by simp[ju,h]
theorem Cw (s:ByteArray) (h:0<s.size) (hf:nz (s[0].toNat:Int) 97 122=false):ju s=false:=by simp[ju,vp s h,hf]
theorem Lf {a b:Bool} (h:a=b):Ending.returned (.bool a)=.returned (.bool b):=by rw[h]
theorem A1 (s:ByteArray) (w:World) (hs:s.size<=maxLen):
 Calls prog 169 #[.string s] w fun e w'=>e=.returned (.bool (ju s))/\w'=w:=by
 unfold maxLen at hs
 by_cases h1:1<=s.size
 case neg=>
  have H:=hid (Cv s h1)
  go_enter Tryz.func169,Tryz.ntmps169
  go_wp2_with fail;go_ret;exact ⟨by rw[H.o];rfl,rfl⟩
 by_cases h8:s.size<=8
 case neg=>
  have H:=hid (D2 s h8)
  go_enter Tryz.func169,Tryz.ntmps169
  go_wp2_with fail;go_ret;exact ⟨by rw[H.o];rfl,rfl⟩
 have h0:0<s.size:=by omega
 have hf0:nz (s[0].toNat:Int) 97 122=true\/nz (s[0].toNat:Int) 97 122=false:=by cases nz (s[0].toNat:Int) 97 122 <;> simp
 rcases hf0 with hf|hf
 case inr=>
  have H:=hid (Cw s h0 hf)
  go_enter Tryz.func169,Tryz.ntmps169
  go_wp2_with (go_at_call 174;refine (i8 _ _).mono ?_;rintro e w' ⟨rfl,rfl⟩);go_ret;exact ⟨by rw[H.o];rfl,rfl⟩
 have HF:=hid hf
 go_enter Tryz.func169,Tryz.ntmps169
 go_wp2_with (go_at_call 174;refine (i8 _ _).mono ?_;rintro e w' ⟨rfl,rfl⟩)
 go_loop [20] (fun i=>∃k:Nat,k<=s.size/\i=iV k/\rp (s.data.toList.take k)=true) (fun i=>s.size-(intOf i).toNat)
 case atStart=>exact ⟨0,oZ,rfl,rfl⟩
 case round=>
  obtain ⟨k,hk,rfl,hal⟩:=hrel;have HA:=hid hal;clear hal hf
  by_cases hlt:k<s.size
  .have hsn:=Fd s k hlt
   rw[HA.o,Bool.true_and]at hsn;have HS:=hid hsn;have hno:=Nl s k hlt;have HN:=hid hno;clear hsn hno;cases hL:nz (s[k].toNat:Int) 97 122
   .by_cases hd1:(s[k].toNat:Int)<48
    .by_cases hu:(s[k].toNat:Int)=95
     .omega
     .have hub:=bF hu
      have HI:Hid (ju s=false):=HN.o (by simp[ki,hub,nz];omega)
      go_wp2_with (go_at_call 174;refine (i8 _ _).mono ?_;rintro e w' ⟨rfl,rfl⟩);go_ret;exact ⟨by rw[HI.o];rfl,rfl⟩
    .by_cases hd2:(s[k].toNat:Int)>57
     .by_cases hu:(s[k].toNat:Int)=95
      .have hub:=beq_iff_eq.2 hu
       have HI:Hid (ki (s[k].toNat:Int)=true):=by simp[Hid,ki,hub]
       clear hu;go_wp2_with (go_at_call 174;refine (i8 _ _).mono ?_;rintro e w' ⟨rfl,rfl⟩)
       go_round
       case rel=>exact ⟨k+1,by omega,by go_num,by rw[HS.o,HI.o]⟩
       case measure=>simp[intOf];omega
      .have hub:=bF hu
       have HI:Hid (ju s=false):=HN.o (by rw[ki,hL,hub];simp[nz];omega)
       go_wp2_with (go_at_call 174;refine (i8 _ _).mono ?_;rintro e w' ⟨rfl,rfl⟩);go_ret;exact ⟨by rw[HI.o];rfl,rfl⟩
     .have HI:Hid (ki (s[k].toNat:Int)=true):=by simp[Hid,ki,nz];omega
      go_wp2_with (go_at_call 174;refine (i8 _ _).mono ?_;rintro e w' ⟨rfl,rfl⟩)
      go_round
      case rel=>exact ⟨k+1,by omega,by go_num,by rw[HS.o,HI.o]⟩
      case measure=>simp[intOf];omega
   .have HI:Hid (ki (s[k].toNat:Int)=true):=by simp[Hid,ki,hL]
    go_wp2_with (go_at_call 174;refine (i8 _ _).mono ?_;rintro e w' ⟨rfl,rfl⟩)
    go_round
    case rel=>exact ⟨k+1,by omega,by go_num,by rw[HS.o,HI.o]⟩
    case measure=>simp[intOf];omega
  .have hke:k=s.size:=by omega
   have HY:Hid (ju s=true):=Gx s h1 h8 h0 HF.o (by rw[<-hke];exact HA.o)
   clear hke;go_wp2_with fail;go_ret;exact ⟨by rw[HY.o];rfl,rfl⟩
theorem zy {k:IntKind} {a b:Int} (h:a=b):Ending.returned (.int k a)=.returned (.int k b):=by rw[h]
def Jr (v:Int) (nm:ByteArray) (len:Nat):Int:=if v<1 then 3 else if 12<v then 3 else if nm.toList= []then (if 0<len then 1 else 0)else 1
def e9 (v:Int) (nm:ByteArray) (len:Nat):Int:=if¬v=0 then Jr v nm len else if fw nm=false then 1 else if 4<len then 2 else if nm.toList= [33]/\0<len then 1 else 0
theorem Ah (v:Int) (nm:ByteArray) (a:Option Addr) (len cap:Nat) (w:World):
 Calls prog 168 #[.agg #[iV v,.string nm,.slice a len cap]] w fun e w'=>e=.returned (iV (Jr v nm len))/\Below w.heap.size w w':=by
 go_enter Tryz.func168,Tryz.ntmps168
 go_wp2
 all_goals
  go_ret;refine ⟨zy ?_,bA⟩;rw[Jr]
  repeat (first|rw[if_pos (by first|assumption|omega)]|rw[if_neg (by first|assumption|omega)])
theorem Lm (v:Int) (nm:ByteArray) (a:Option Addr) (len cap:Nat) (w:World) (hs:nm.size<=maxLen):
 Calls prog 153 #[.agg #[iV v,.string nm,.slice a len cap]] w fun e w'=>e=.returned (iV (e9 v nm len))/\Below w.heap.size w w':=by
 by_cases hv:v=0
 case neg=>
  have hvb:=bF hv;have H:Hid (e9 v nm len=Jr v nm len):=by rw[Hid,e9,if_pos hv]
  clear hv
  go_enter Tryz.func153,Tryz.ntmps153
  go_wp2_with (go_at_call 168;refine (Ah _ _ _ _ _ _).mono ?_;rintro e w' ⟨rfl,hb⟩);go_ret;exact ⟨by rw[H.o];rfl,bA.trans (hb.mono (by simp))⟩
 subst hv;cases hc:(nm.toList== [33])
 case true=>
  have hc':=beq_iff_eq.1 hc;have HN:Hid (fw nm=true):=by rw[Hid,fw,hc,Bool.true_or]
  have HC:=hid hc';clear hc'
  go_enter Tryz.func153,Tryz.ntmps153
  go_wp2_with fail
  all_goals
   go_ret;refine ⟨zy ?_,bA⟩;rw[e9,if_neg (by simp),if_neg (by rw[HN.o];simp)]
   repeat (first|rw[if_pos (by first|omega|exact ⟨HC.o,by omega⟩)]|rw[if_neg (by first|omega| (intro h;omega))])
 case false=>
  have hc':=beq_eq_false_iff_ne.1 hc;have HC:=hid hc';clear hc';cases hw:ju nm
  .have H:Hid (e9 0 nm len=1):=by rw[Hid,e9,if_neg (by simp),if_pos (by rw[fw,hc,hw];rfl)]
   go_enter Tryz.func153,Tryz.ntmps153
   go_wp2_with (go_at_call 169;refine (A1 _ _ hs).mono ?_;rintro e w' ⟨rfl,rfl⟩);go_ret;exact ⟨by rw[H.o];rfl,bA⟩
  .have HN:Hid (fw nm=true):=by rw[Hid,fw,hw,Bool.or_true]
   go_enter Tryz.func153,Tryz.ntmps153
   go_wp2_with (go_at_call 169;refine (A1 _ _ hs).mono ?_;rintro e w' ⟨rfl,rfl⟩)
   all_goals
    go_ret;refine ⟨zy ?_,bA⟩;rw[e9,if_neg (by simp),if_neg (by rw[HN.o];simp)]
    repeat (first|rw[if_pos (by omega)]|rw[if_neg (by first|omega|exact fun h=>HC.o h.1)])
def zq (nm:ByteArray) (len:Nat):Bool:=(decide (len=0)&&(nm.toList== [33] ||nm.toList== [116,114,117,101] ||nm.toList== [102,97,105,108])) ||(decide (len=2)&&nm.toList== [101,113])
theorem T1 (l:List UInt8):
 ((l== [33])=true/\(l== [116,114,117,101])=false/\(l== [102,97,105,108])=false/\(l== [101,113])=false)\/
 ((l== [33])=false/\(l== [116,114,117,101])=true/\(l== [102,97,105,108])=false/\(l== [101,113])=false)\/
 ((l== [33])=false/\(l== [116,114,117,101])=false/\(l== [102,97,105,108])=true/\(l== [101,113])=false)\/
 ((l== [33])=false/\(l== [116,114,117,101])=false/\(l== [102,97,105,108])=false/\(l== [101,113])=true)\/
 ((l== [33])=false/\(l== [116,114,117,101])=false/\(l== [102,97,105,108])=false/\(l== [101,113])=false):=by
 by_cases h1:l= [33]
 .subst h1;decide
 by_cases h2:l= [116,114,117,101]
 .subst h2;decide
 by_cases h3:l= [102,97,105,108]
 .subst h3;decide
 by_cases h4:l= [101,113]
 .subst h4;decide
 simp[h1,h2,h3,h4]
theorem R9 (n:Nat):(((n:Int)==0)=true/\((n:Int)==2)=false/\Hid (n=0))\/(((n:Int)==0)=false/\((n:Int)==2)=true/\Hid (n=2))\/(((n:Int)==0)=false/\((n:Int)==2)=false/\Hid (n≠0/\n≠2)):=by
 by_cases h0:n=0
 .subst h0;exact Or.inl ⟨rfl,rfl,rfl⟩
 by_cases h2:n=2
 .subst h2;exact Or.inr (Or.inl ⟨rfl,rfl,rfl⟩)
 .exact Or.inr (Or.inr ⟨bF (by omega),bF (by omega),⟨h0,h2⟩⟩)
theorem yb (v:Int) (nm:ByteArray) (a:Option Addr) (len cap:Nat) (w:World):
 Calls prog 99 #[.agg #[iV v,.string nm,.slice a len cap]] w fun e w'=>e=.returned (.bool (zq nm len))/\Below w.heap.size w w':=by
 rcases T1 nm.toList with ⟨h1,h2,h3,h4⟩| ⟨h1,h2,h3,h4⟩| ⟨h1,h2,h3,h4⟩| ⟨h1,h2,h3,h4⟩| ⟨h1,h2,h3,h4⟩ <;>
 rcases R9 len with ⟨g1,g2,G⟩| ⟨g1,g2,G⟩| ⟨g1,g2,G⟩
 all_goals
  go_enter Tryz.func99,Tryz.ntmps99
  go_wp2
  go_ret;refine ⟨Lf ?_,bA⟩;simp[zq,h1,h2,h3,h4,Hid.o G]
inductive Tm where
 |nil
 |mk (v:Int) (nm:ByteArray) (a:Option Addr) (len cap:Nat) (f:Nat->Tm)
namespace Tm
def v:Tm->Int| .nil=>0| .mk v _ _ _ _ _=>v
def nm:Tm->ByteArray| .nil=>⟨#[]⟩| .mk _ nm _ _ _ _=>nm
def a:Tm->Option Addr| .nil=>none| .mk _ _ a _ _ _=>a
def len:Tm->Nat| .nil=>0| .mk _ _ _ len _ _=>len
def cap:Tm->Nat| .nil=>0| .mk _ _ _ _ cap _=>cap
def f:Tm->Nat->Tm| .nil=>fun _=> .nil| .mk _ _ _ _ _ f=>f
def val (T:Tm):Value:=.agg #[iV T.v,.string T.nm,.slice T.a T.len T.cap]
end Tm
def fe (w:World) (a:Option Addr) (i:Nat) (T:Tm):Prop:=
 ∃b o,a=some ⟨b,o,none⟩/\w.cell? ⟨b,o+i*3,none⟩=some (iV T.v)/\w.cell? ⟨b,o+i*3+1,none⟩=some (.string T.nm)/\w.cell? ⟨b,o+i*3+2,none⟩=some (.slice T.a T.len T.cap)
def ay (w:World):Tm->Prop
 | .nil=>False
 | .mk _ nm a len _ f=>nm.size<=maxLen/\len<=maxLen/\∀i,i<len->fe w a i (f i)/\ay w (f i)
theorem ay.name {w:World} {T:Tm} (h:ay w T):T.nm.size<=maxLen:=by
 cases T with
 |nil=>exact False.elim h
 |mk=>exact h.1
theorem ay.len {w:World} {T:Tm} (h:ay w T):T.len<=maxLen:=by
 cases T with
 |nil=>exact False.elim h
 |mk=>exact h.2.1
theorem ay.row {w:World} {T:Tm} (h:ay w T) {i:Nat} (hi:i<T.len):fe w T.a i (T.f i):=by
 cases T with
 |nil=>exact False.elim h
 |mk=>exact (h.2.2 i hi).1
theorem ay.kid {w:World} {T:Tm} (h:ay w T) {i:Nat} (hi:i<T.len):ay w (T.f i):=by
 cases T with
 |nil=>exact False.elim h
 |mk=>exact (h.2.2 i hi).2
theorem ag {w:World} {p:Addr} {x:Value} (h:w.cell? p=some x):p.block<w.heap.size:=by
 unfold World.cell? at h
 cases hb:w.heap[p.block]? with
 |none=>rw[hb]at h;simp at h
 |some o=>exact (aZ hb)
theorem fe.below {w w':World} {a:Option Addr} {i:Nat} {T:Tm} (h:fe w a i T) (hb:Below w.heap.size w w'):fe w' a i T:=by
 obtain ⟨b,o,rfl,h0,h1,h2⟩:=h;exact ⟨b,o,rfl,(hb.cell (ag h0)).trans h0,(hb.cell (ag h1)).trans h1,(hb.cell (ag h2)).trans h2⟩
theorem ay.below {w w':World} {T:Tm} (h:ay w T) (hb:Below w.heap.size w w'):ay w' T:=by
 induction T with
 |nil=>exact False.elim h
 |mk v nm a len cap f ih=>exact ⟨h.1,h.2.1,fun i hi=>⟨(h.2.2 i hi).1.below hb,ih i (h.2.2 i hi).2⟩⟩
def bj (g:Nat->Nat):Nat->Nat
 |0=>0
 |k+1=>bj g k+g k
theorem ml (g:Nat->Nat) {j k:Nat} (h:j<=k):bj g j<=bj g k:=by
 induction k with
 |zero=>rw[Nat.le_zero.1 h];exact lZ
 |succ k ih=>
  by_cases hj:j=k+1
  .rw[hj];exact lZ
  .have:=ih (by omega);show _<=bj g k+g k;omega
def cnt:Tm->Nat
 | .nil=>1
 | .mk _ _ _ len _ f=>1+bj (fun i=>cnt (f i)) len
def kids (T:Tm):Nat:=bj (fun i=>cnt (T.f i)) T.len
theorem om (T:Tm):cnt T=1+kids T:=by cases T <;> rfl
def gg (n:Int) (t:Nat):Int:=if (t:Int)<=n then n-t else -1
theorem Be (T:Tm): ∀(n:Int) (w:World),ay w T->0<=n->n<=60->
 Calls prog 129 #[iV n,.slice T.a T.len T.cap] w fun e w'=>e=.returned (iV (gg n (kids T)))/\Below w.heap.size w w':=by
 induction T with
 |nil=>intro n w hin;exact False.elim hin
 |mk v nm a len cap f ih=>
  intro n w hin hn0 hn60;have IH:Hid (∀i (n:Int) (w:World),ay w (f i)->0<=n->n<=60->Calls prog 129 #[iV n,.slice (f i).a (f i).len (f i).cap] w fun e w'=>e=.returned (iV (gg n (kids (f i))))/\Below w.heap.size w w'):=ih
  have HIn:Hid (ay w (.mk v nm a len cap f)):=hin;have hlen:len<=2 ^ 63-1:=ay.len (T:=.mk v nm a len cap f) hin;clear ih hin
  show Calls prog 129 #[iV n,.slice a len cap] w _
  go_enter Tryz.func129,Tryz.ntmps129
  go_wp2_with fail
  go_loopw [0,9] (fun n' i wr=>∃k:Nat,k<=len/\i=iV k/\(bj (fun i=>cnt (f i)) k:Int)<=n/\n'=iV (n-(bj (fun i=>cnt (f i)) k:Nat))/\Below w.heap.size w wr) (fun _ i _=>len-(intOf i).toNat)
  case atStart=>exact ⟨0,oZ,rfl,by simp[bj];omega,by simp[bj],bR⟩
  case round=>
   obtain ⟨k,hk,rfl,hs,rfl,hb⟩:=hrel;have HS:Hid (kids (.mk v nm a len cap f)=bj (fun i=>cnt (f i)) len):=rfl
   generalize hsk:bj (fun i=>cnt (f i)) k=sk at*
   have HK:Hid (bj (fun i=>cnt (f i)) k=sk):=hsk
   clear hsk
   by_cases hlt:k<len
   .have hr:fe wr a k (f k):=(ay.row (T:=.mk v nm a len cap f) HIn.o hlt).below hb
    obtain ⟨b,o,ha,c0,c1,c2⟩:=hr;have HT:Hid (ay wr (f k)):=(ay.kid (T:=.mk v nm a len cap f) HIn.o hlt).below hb;have HM:Hid (bj (fun i=>cnt (f i)) (k+1)<=bj (fun i=>cnt (f i)) len):=ml _ hlt
    have HE:Hid (bj (fun i=>cnt (f i)) (k+1)=sk+(1+kids (f k))):=by rw[Hid,bj,HK.o,om]
    subst ha
    by_cases hz:n-(sk:Int)=0
    .have hzb:(n-(sk:Int)==0)=true:=beq_iff_eq.2 hz
     have HR:Hid (gg n (kids (.mk v nm (some (dZ b o)) len cap f))= -1):=by
      rw[Hid,gg,if_neg];rw[HS.o];have:=HM.o;have:=HE.o;omega
     clear hz;go_wp2_with fail;go_ret;exact ⟨by rw[HR.o];rfl,hb.trans (bA.mono hb.size)⟩
    .have hzb:(n-(sk:Int)==0)=false:=bF hz
     have hpos:sk+1<=n:=by omega
     clear hz;generalize hkk:kids (f k)=kk at*;have hsz:=hb.size
     by_cases hle:(kk:Int)<=n-sk-1
     .have HV:Hid (gg (n-sk-1) kk=n-sk-1-kk):=by rw[Hid,gg,if_pos hle]
      go_wp2_with fail;refine (IH.o k (n-sk-1) _ (HT.o.below bA) (by omega) (by omega)).mono ?_
      rintro e w1 ⟨rfl,hb1⟩;rw[hkk,HV.o];clear hkk;go_wp2_with fail;go_roundw
      case rel=>exact ⟨k+1,by omega,by go_num,by rw[HE.o];omega,by rw[HE.o];go_num,(hb.trans (bA.mono hsz)).trans (hb1.mono (by simp;omega))⟩
      case measure=>simp[intOf];omega
     .have HV:Hid (gg (n-sk-1) kk= -1):=by rw[Hid,gg,if_neg hle]
      have HR:Hid (gg n (kids (.mk v nm (some (dZ b o)) len cap f))= -1):=by
       rw[Hid,gg,if_neg];rw[HS.o];have:=HM.o;have:=HE.o;omega
      go_wp2_with fail;refine (IH.o k (n-sk-1) _ (HT.o.below bA) (by omega) (by omega)).mono ?_
      rintro e w1 ⟨rfl,hb1⟩;rw[hkk,HV.o];clear hkk;go_wp2_with fail;go_ret;exact ⟨by rw[HR.o];rfl,(hb.trans (bA.mono hsz)).trans (hb1.mono (by simp;omega))⟩
   .have hke:k=len:=by omega
    have HR:Hid (gg n (kids (.mk v nm a len cap f))=n-sk):=by
     rw[Hid,HS.o,<-hke,HK.o,gg,if_pos hs]
    clear hke;go_wp2_with fail;go_ret;exact ⟨by rw[HR.o];rfl,hb⟩
def fst (g:Nat->Int):Nat->Int
 |0=>0
 |k+1=>if fst g k=0 then g k else fst g k
theorem gm (g:Nat->Int) {j k:Nat} (h:j<=k) (hk:fst g k=0):fst g j=0:=by
 induction k with
 |zero=>rw[Nat.le_zero.1 h];rfl
 |succ k ih=>
  by_cases hj:j=k+1
  .rw[hj];exact hk
  .have:fst g k=0:=by
    by_cases h0:fst g k=0
    .exact h0
    .rw[fst,if_neg h0]at hk;exact absurd hk h0
   exact ih (by omega) this
theorem um (g:Nat->Int) {j k:Nat} (h:j<k) (h0:fst g j=0) (hg:g j≠0):fst g k=g j:=by
 induction k with
 |zero=>omega
 |succ k ih=>
  by_cases hj:j=k
  .subst hj;rw[fst,if_pos h0]
  .have e:=ih (by omega)
   rw[fst,if_neg (by rw[e];exact hg),e]
def iz:Tm->Int
 | .nil=>if e9 0 ⟨#[]⟩ 0=0 then 0 else e9 0 ⟨#[]⟩ 0
 | .mk v nm _ len _ f=>if e9 v nm len=0 then fst (fun i=>iz (f i)) len else e9 v nm len
def pl (T:Tm):Int:=fst (fun i=>iz (T.f i)) T.len
theorem Q9 (T:Tm):iz T=if e9 T.v T.nm T.len=0 then pl T else e9 T.v T.nm T.len:=by cases T <;> rfl
theorem Hu (T:Tm): ∀(w:World),ay w T->
 Calls prog 130 #[.slice T.a T.len T.cap] w fun e w'=>e=.returned (iV (pl T))/\Below w.heap.size w w':=by
 induction T with
 |nil=>intro w hin;exact False.elim hin
 |mk v nm a len cap f ih=>
  intro w hin;have IH:Hid (∀i (w:World),ay w (f i)->Calls prog 130 #[.slice (f i).a (f i).len (f i).cap] w fun e w'=>e=.returned (iV (pl (f i)))/\Below w.heap.size w w'):=ih
  have HIn:Hid (ay w (.mk v nm a len cap f)):=hin;have hlen:len<=2 ^ 63-1:=ay.len (T:=.mk v nm a len cap f) hin;have HS:Hid (pl (.mk v nm a len cap f)=fst (fun i=>iz (f i)) len):=rfl
  clear ih hin
  show Calls prog 130 #[.slice a len cap] w _
  go_enter Tryz.func130,Tryz.ntmps130
  go_wp2_with fail
  go_loopw [9] (fun i wr=>∃k:Nat,k<=len/\i=iV k/\fst (fun i=>iz (f i)) k=0/\Below w.heap.size w wr) (fun i _=>len-(intOf i).toNat)
  case atStart=>exact ⟨0,oZ,rfl,rfl,bR⟩
  case round=>
   obtain ⟨k,hk,rfl,hs,hb⟩:=hrel;have HK:Hid (fst (fun i=>iz (f i)) k=0):=hs
   have HB:Hid (Below w.heap.size w wr):=hb;have hsz:=hb.size;clear hs hb
   by_cases hlt:k<len
   .have hr:fe wr a k (f k):=(ay.row (T:=.mk v nm a len cap f) HIn.o hlt).below HB.o
    obtain ⟨b,o,ha,c0,c1,c2⟩:=hr;have HT:Hid (ay wr (f k)):=(ay.kid (T:=.mk v nm a len cap f) HIn.o hlt).below HB.o;have HE:=Q9 (f k);have HN:Hid (iz (f k)≠0->pl (.mk v nm a len cap f)=iz (f k)):=fun h=>by rw[HS.o];exact um _ hlt HK.o h
    have HZ:Hid (iz (f k)=0->fst (fun i=>iz (f i)) (k+1)=0):=fun h=>by rw[fst,if_pos HK.o];exact h
    have HE':Hid (iz (f k)=if e9 (f k).v (f k).nm (f k).len=0 then pl (f k)else e9 (f k).v (f k).nm (f k).len):=HE
    clear HE;subst ha;go_wp2_with fail;refine (Lm _ _ _ _ _ _ HT.o.name).mono ?_;rintro e w1 ⟨rfl,hb1⟩
    have HB1:Hid (Below (wr.heap.size+1) (wr.alloc (.cells #[iV (f k).v,.string (f k).nm,.slice (f k).a (f k).len (f k).cap] 67)) w1):=by
     have:=hb1;rw[Hid];simpa using this
    clear hb1;have hsz1:wr.heap.size+1<=w1.heap.size:=by have:=HB1.o.size;simpa using this
    have HW1:Hid (Below wr.heap.size wr w1):=bA.trans (HB1.o.mono (by omega))
    have hbox:w1.cell? (dZ wr.heap.size 2)=some (.slice (f k).a (f k).len (f k).cap):=(HB1.o.cell (p:=(dZ wr.heap.size 2)) (by simp)).trans (by go_simp)
    by_cases hp:e9 (f k).v (f k).nm (f k).len=0
    .have HE2:Hid (iz (f k)=pl (f k)):=by rw[Hid,HE'.o,if_pos hp]
     rw[hp];clear hp;go_wp2_with fail;refine (IH.o k _ (HT.o.below HW1.o)).mono ?_;rintro e w2 ⟨rfl,hb2⟩;have HW2:Hid (Below w.heap.size w w2):=(HB.o.trans (HW1.o.mono (by omega))).trans (hb2.mono (by omega))
     clear hb2
     by_cases hq:pl (f k)=0
     .have HZ2:=HZ.o (HE2.o.trans hq)
      have HZ3:Hid (fst (fun i=>iz (f i)) (k+1)=0):=HZ2
      rw[hq];clear hq HZ2;go_wp2_with fail;go_roundw
      case rel=>exact ⟨k+1,by omega,by go_num,HZ3.o,HW2.o⟩
      case measure=>simp[intOf];omega
     .have hqb:(pl (f k)==0)=false:=bF hq
      have HR:Hid (pl (.mk v nm (some (dZ b o)) len cap f)=pl (f k)):=(HN.o (by rw[HE2.o];exact hq)).trans HE2.o
      clear hq;go_wp2_with fail;go_ret;exact ⟨by rw[HR.o];rfl,HW2.o⟩
    .have hpb:(e9 (f k).v (f k).nm (f k).len==0)=false:=bF hp
     have HE2:Hid (iz (f k)=e9 (f k).v (f k).nm (f k).len):=by rw[Hid,HE'.o,if_neg hp]
     have HR:Hid (pl (.mk v nm (some (dZ b o)) len cap f)=e9 (f k).v (f k).nm (f k).len):=(HN.o (by rw[HE2.o];exact hp)).trans HE2.o
     clear hp;go_wp2_with fail;go_ret;exact ⟨by rw[HR.o];rfl,HB.o.trans (HW1.o.mono (by omega))⟩
   .have hke:k=len:=by omega
    have HR:Hid (pl (.mk v nm a len cap f)=0):=by rw[Hid,HS.o,<-hke,HK.o]
    clear hke;go_wp2_with fail;go_ret;exact ⟨by rw[HR.o];rfl,HB.o⟩
def ei (T:Tm):Int:=if cnt T<=60 then iz T else 2
def one (b:Nat) (T:Tm):Tm:=.mk 0 ByteArray.empty (some ⟨b,0,none⟩) 1 1 (fun _=>T)
theorem Bz (b:Nat) (T:Tm):kids (one b T)=cnt T:=by show 0+cnt T=_;omega
theorem My (b:Nat) (T:Tm):pl (one b T)=iz T:=rfl
theorem qo {w:World} {T:Tm} {b:Nat} (hb:b=w.heap.size) (h:ay w T):ay (w.alloc (.cells #[iV T.v,.string T.nm,.slice T.a T.len T.cap] 67)) (one b T):=by
 subst hb;refine ⟨oZ,by unfold maxLen;omega,fun i hi=>?_⟩
 have hi0:i=0:=by omega
 subst hi0;exact ⟨⟨w.heap.size,0,rfl,by go_simp,by go_simp,by go_simp⟩,h.below bA⟩
theorem rk (T:Tm) (w:World) (hin:ay w T):
 Calls prog 98 #[T.val] w fun e w'=>e=.returned (iV (ei T))/\Below w.heap.size w w':=by
 have HIn:=hid hin;clear hin
 show Calls prog 98 #[.agg #[iV T.v,.string T.nm,.slice T.a T.len T.cap]] w _
 have H1:Hid (ay (w.alloc (.cells #[iV T.v,.string T.nm,.slice T.a T.len T.cap] 67)) T):=HIn.o.below bA;have H2:Hid (ay ((w.alloc (.cells #[iV T.v,.string T.nm,.slice T.a T.len T.cap] 67)).alloc (.cells #[iV T.v,.string T.nm,.slice T.a T.len T.cap] 67)) (one (w.heap.size+1) T)):=qo (by simp) H1.o
 by_cases hc:cnt T<=60
 .have HR:Hid (ei T=iz T):=by rw[Hid,ei,if_pos hc]
  have HV:Hid (gg 60 (kids (one (w.heap.size+1) T))=60-cnt T):=by rw[Hid,Bz,gg,if_pos (by omega)]
  go_enter Tryz.func98,Tryz.ntmps98
  go_wp2_with fail;refine (Be (one (w.heap.size+1) T) 60 _ H2.o (by omega) (by omega)).mono ?_
  rintro e w1 ⟨rfl,hb1⟩;rw[HV.o]
  have HB1:Hid (Below (w.heap.size+2) ((w.alloc (.cells #[iV T.v,.string T.nm,.slice T.a T.len T.cap] 67)).alloc (.cells #[iV T.v,.string T.nm,.slice T.a T.len T.cap] 67)) w1):=by
   have:=hb1;rw[Hid];simpa using this
  clear hb1;have hsz1:w.heap.size+2<=w1.heap.size:=by have:=HB1.o.size;simpa using this
  have hc0:w1.cell? (dZ w.heap.size 0)=some (iV T.v):=(HB1.o.cell (p:=(dZ w.heap.size 0)) (by simp)).trans (by go_simp)
  have hc1:w1.cell? (dZ w.heap.size 1)=some (.string T.nm):=(HB1.o.cell (p:=(dZ w.heap.size 1)) (by simp)).trans (by go_simp)
  have hc2:w1.cell? (dZ w.heap.size 2)=some (.slice T.a T.len T.cap):=(HB1.o.cell (p:=(dZ w.heap.size 2)) (by simp)).trans (by go_simp)
  have HW1:Hid (Below w.heap.size w w1):=(bA.alloc (by simp) _).trans (HB1.o.mono (by omega))
  have H3:Hid (ay (w1.alloc (.cells #[iV T.v,.string T.nm,.slice T.a T.len T.cap] 67)) (one w1.heap.size T)):=qo rfl (HIn.o.below HW1.o);go_wp2_with fail;refine (Hu (one w1.heap.size T) _ H3.o).mono ?_;rintro e w2 ⟨rfl,hb2⟩;rw[My];go_wp2_with fail;go_ret;exact ⟨by rw[HR.o];rfl,(HW1.o.trans (bA.mono (by omega))).trans (hb2.mono (by simp;omega))⟩
 .have HR:Hid (ei T=2):=by rw[Hid,ei,if_neg hc]
  have HV:Hid (gg 60 (kids (one (w.heap.size+1) T))= -1):=by rw[Hid,Bz,gg,if_neg (by omega)]
  go_enter Tryz.func98,Tryz.ntmps98
  go_wp2_with fail;refine (Be (one (w.heap.size+1) T) 60 _ H2.o (by omega) (by omega)).mono ?_
  rintro e w1 ⟨rfl,hb1⟩;rw[HV.o]
  have HB1:Hid (Below (w.heap.size+2) ((w.alloc (.cells #[iV T.v,.string T.nm,.slice T.a T.len T.cap] 67)).alloc (.cells #[iV T.v,.string T.nm,.slice T.a T.len T.cap] 67)) w1):=by
   have:=hb1;rw[Hid];simpa using this
  clear hb1;go_wp2_with fail;go_ret;exact ⟨by rw[HR.o];rfl,(bA.alloc (by simp) _).trans (HB1.o.mono (by omega))⟩
theorem Tryz.info67:(prog.info? 67).map (fun i=>(i.zero,i.size,i.bytes))=some (some (.agg #[iV 0,.string ByteArray.empty,.slice none 0 0]),3,48):=by kernel_rfl
def cells3 (T:Tm):List Value:= [iV T.v,.string T.nm,.slice T.a T.len T.cap]
def cy (l:List Tm):List Value:=l.flatMap cells3
def P2 (g:Nat->List Tm):Nat->List Tm
 |0=> []
 |k+1=>P2 g k++g k
def ci:Tm->List Tm
 | .nil=> [.nil]
 | .mk v nm a len cap f=> .mk v nm a len cap f::P2 (fun i=>ci (f i)) len
theorem ru (l:List Tm):(cy l).length=l.length*3:=by
 induction l with
 |nil=>rfl
 |cons x r ih=>
  have:(cy (x::r)).length=3+(cy r).length:=by simp[cy,cells3];omega
  rw[this,ih,List.length_cons];omega
theorem rv (l r:List Tm):cy (l++r)=cy l++cy r:=by simp[cy]
theorem mw (l:List Tm): ∀u∈cy l,u.oneCell'=true:=by
 intro u hu;obtain ⟨T,_,hT⟩:=List.mem_flatMap.1 hu;simp only[cells3,List.mem_cons,List.not_mem_nil,or_false]at hT
 rcases hT with rfl|rfl|rfl <;> rfl
theorem aq {w w':World} (h:Below w.heap.size w w') (row:Option Nat):w.grownBy w' row:=⟨h.os,h.tape,h.output,h.size,fun k hk _=>h.block k hk⟩
theorem bi {w:World} {base base':Nat} {e:TypeId} {size:Nat} {v:Value} {n:Nat} {xs:List Value} (h:w.ownsRow base e size v n xs) (hb:base'<=base):w.ownsRow base' e size v n xs:=by
 refine ⟨h.1,?_⟩
 rcases h.2 with h0| ⟨g,cap,cur,rfl,hg,r⟩
 .exact .inl h0
 .exact .inr ⟨g,cap,cur,rfl,lT hb hg,r⟩
theorem km (l:List Tm): ∀(k:Nat) (h:k<l.length),(cy l)[k*3]?=some (iV l[k].v)/\(cy l)[k*3+1]?=some (.string l[k].nm)/\(cy l)[k*3+2]?=some (.slice l[k].a l[k].len l[k].cap):=by
 induction l with
 |nil=>intro k h;simp at h
 |cons x r ih=>
  have e:cy (x::r)=cells3 x++cy r:=by simp[cy]
  intro k h
  cases k with
  |zero=>rw[e];exact ⟨rfl,rfl,rfl⟩
  |succ k=>
   have hk:k<r.length:=by simpa using h
   obtain ⟨h0,h1,h2⟩:=ih k hk;have hl:(cells3 x).length=3:=rfl;rw[e];refine ⟨?_,?_,?_⟩
   .rw[List.getElem?_append_right (by rw[hl];omega),hl,show (k+1)*3-3=k*3 by omega];exact h0
   .rw[List.getElem?_append_right (by rw[hl];omega),hl,show (k+1)*3+1-3=k*3+1 by omega];exact h1
   .rw[List.getElem?_append_right (by rw[hl];omega),hl,show (k+1)*3+2-3=k*3+2 by omega];exact h2
def oh (T:Tm) (k:Nat):Int:=fst (fun i=>ei (T.f i)) k
def bo (T:Tm):Int:=if T.len<=6 then oh T T.len else 2
theorem Ja (T:Tm) {k:Nat} (h:oh T k=0) (h0:ei (T.f k)=0):oh T (k+1)=0:=by
 unfold oh at h |-;rw[fst,if_pos h];exact h0
theorem I9 (T:Tm) {k:Nat} (hk:k<T.len) (h:oh T k=0) (h0:ei (T.f k)≠0):oh T T.len=ei (T.f k):=um _ hk h h0
theorem xy (T:Tm) (w:World) (hin:ay w T):
 Calls prog 61 #[.slice T.a T.len T.cap] w fun e w'=>e=.returned (iV (bo T))/\Below w.heap.size w w':=by
 have HIn:=hid hin;have hlen:=hin.len;clear hin
 by_cases h6:T.len<=6
 case neg=>
  have HR:Hid (bo T=2):=by rw[Hid,bo,if_neg h6]
  go_enter Tryz.func61,Tryz.ntmps61
  go_wp2_with fail;go_ret;exact ⟨by rw[HR.o];rfl,bR⟩
 have HR:Hid (bo T=oh T T.len):=by rw[Hid,bo,if_pos h6]
 have HStop:Hid (∀k,k<T.len->oh T k=0->ei (T.f k)≠0->bo T=ei (T.f k)):=fun k hk h h0=>HR.o.trans (I9 T hk h h0)
 have HRow:Hid (∀k,k<T.len->∀wr,Below w.heap.size w wr->fe wr T.a k (T.f k)/\ay wr (T.f k)):=fun k hk wr hb=>⟨(HIn.o.row hk).below hb,(HIn.o.kid hk).below hb⟩
 have HNext:Hid (∀k,oh T k=0->ei (T.f k)=0->oh T (k+1)=0):=fun k h h0=>Ja T h h0
 generalize T.f=f at*;generalize T.cap=cap at*;generalize T.a=a at*;generalize hl:T.len=len at*;clear hl
 go_enter Tryz.func61,Tryz.ntmps61
 go_wp2_with fail
 go_loopw [11] (fun i wr=>∃k:Nat,k<=len/\i=iV k/\oh T k=0/\Below w.heap.size w wr) (fun i _=>len-(intOf i).toNat)
 case atStart=>exact ⟨0,oZ,rfl,rfl,bR⟩
 case round=>
  obtain ⟨k,hk,rfl,hf,hb⟩:=hrel;have HF:=hid hf;have HB:=hid hb;have hsz:=hb.size;clear hf hb
  by_cases hlt:k<len
  .obtain ⟨⟨b,o,ha,c0,c1,c2⟩,hT⟩:=HRow.o k hlt wr HB.o
   have HT:=hid hT;have HS:=HStop.o k hlt HF.o;have HS':=hid HS;have HN':=hid (HNext.o k HF.o);clear hT HS;subst ha;go_wp2_with fail;refine (rk (f k) _ (HT.o.below bA)).mono ?_;rintro e w1 ⟨rfl,hb1⟩;have HW1:Hid (Below w.heap.size w w1):=(HB.o.trans (bA.mono hsz)).trans (hb1.mono (by simp;omega))
   clear hb1
   by_cases hz:ei (f k)=0
   .have HX:=hid (HN'.o hz)
    rw[hz];clear hz;go_wp2_with fail;go_roundw
    case rel=>exact ⟨k+1,by omega,by go_num,HX.o,HW1.o⟩
    case measure=>simp[intOf];omega
   .have HX:=hid (HS'.o hz)
    have hzb:=bF hz;clear hz;go_wp2_with fail;go_ret;exact ⟨by rw[HX.o];rfl,HW1.o⟩
  .have hke:k=len:=by omega
   have HX:Hid (bo T=0):=by rw[Hid,HR.o,<-hke,HF.o]
   clear hke;go_wp2_with fail;go_ret;exact ⟨by rw[HX.o];rfl,HB.o⟩
end Go.Proofs.YtmggaclaoefdaabGreat
