/- Part of the proof. -/
import Derived.RangeFuncNested
import Derived.RangeFuncBound
import Derived.RangeFuncCalls
import Derived.RangeFuncLeaves
import Derived.Shelf.Abstract
import Derived.Shelf.RegionOpen
import Derived.OwnWalkIn
import Derived.TacticsInMore
import Derived.LoopNIn
import Derived.LoopIn
import Derived.Test.YtmggaclaoefdaabGreatGAJ
namespace Go.Proofs.YtmggaclaoefdaabGreat
open Go.RowKit Go.Shelf Go.Proofs.Tryz
set_option linter.unusedVariables false
set_option linter.unusedSimpArgs false
set_option maxRecDepth 100000
set_option maxHeartbeats 8000000
attribute [local go_sem] Oper.semAt_some
abbrev Cq (p:Nat->Prop):= { x:Nat // p x}
abbrev Cx (len:Nat):=Cq fun x=>x<len
def bh {p:Nat->Prop} (l:List (Cq p)):List Nat:=l.map fun x=>x.1
theorem Ks {p:Nat->Prop}:bh ([]:List (Cq p))= []:=rfl
theorem ia {p:Nat->Prop} (l:List (Cq p)) (x:Cq p):bh (l++ [x])=bh l++ [x.1]:=by simp[bh]
theorem sn {p:Nat->Prop}: ∀l:List Nat,(∀x∈l,p x)->∃xs:List (Cq p),bh xs=l:=by
 intro l
 induction l with
 |nil=>intro _;exact ⟨[],rfl⟩
 |cons x l ih=>
  intro h;obtain ⟨xs,hxs⟩:=ih fun y hy=>h y (List.mem_cons_of_mem _ hy)
  exact ⟨⟨x,h x List.mem_cons_self⟩::xs,by unfold bh at*;rw[List.map_cons,hxs]⟩
def Kb (b:Nat) (W W':World):Prop:=W.heap.size<=W'.heap.size/\W'.heap[b]?=W.heap[b]?
theorem Kb.t {b:Nat} {A B C:World} (h:Kb b A B) (k:Kb b B C):Kb b A C:=⟨lT h.1 k.1,k.2.trans h.2⟩
theorem Kb.b {b:Nat} {w:World} (hb:b<w.heap.size) (W:World) (l:Nat) (o o':Obj) (hl:w.heap.size<=l) (_:W.heap[l]?=some o) (_:o.isCells=false) (_:o.isWalk=false):Kb b W (W.putObj l o'):=
 ⟨by simp[World.putObj],World.putObj_heap_other (by omega)⟩
theorem fv {W:World} {B:Nat} {v:Value} {t:TypeId} (h:W.heap[B]?=some (.cells #[v] t)):W.cell? ⟨B,0,none⟩=some v:=by simp[World.cell?,h]
theorem yh {a:Option Addr} {len cap:Nat} {h:Nat->Cl} {i:Nat} {p:Nat->Prop} (n:Nat) (hi:i<len) (l Bh Bt:Nat) (J Jx:List (Cq p)->World->Prop)
 (W:World) (hh:HIn W a len h) (h0:0<=(h i).n) (h4:(h i).k≠1->(h i).n<=4) (hk:(h i).k=1\/(h i).k=2) (hlb:len<=1000000)
 (xs:List (Cq p)) (hxs:bh xs=leads h i)
 (hJ:AbidesFrom W.heap.size J)
 (hY: ∀ci x W,J ci W->ci.length<(leads h i).length->YieldAt Fence.wide (n-1) prog l #[iV (x.1:Int)] W fun e W'=>
   (e=.returned (.bool true)/\J (ci++ [x]) W'/\Kb Bt W W')\/(e=.returned (.bool false)/\Jx (ci++ [x]) W'))
 (hBh:W.heap[Bh]?=some (.cells #[.slice a len cap] 25)) (hBt:W.heap[Bt]?=some (.cells #[iV (i:Int)] 3)) (hJ0:J [] W):
 CallsIn Fence.wide n prog 126 #[.func (.yield l) #[] #[],.pointer (some ⟨Bh,0,none⟩),.pointer (some ⟨Bt,0,none⟩)] W fun e W'=>(∃v,e=.returned v)/\
  ((∃ys,bh ys=leads h i/\J ys W')\/(∃ci,bh ci <+:leads h i/\Jx ci W')):=by
 obtain ⟨b,o,rfl,c0,c1,c2⟩:=hh.row i hi;have hiI:(i:Int)<(len:Int):=by omega
 have hb0:=fv hBh;have ht0:=fv hBt;obtain ⟨m,hm⟩: ∃m:Nat,(h i).n=m:=⟨(h i).n.toNat,by omega⟩
 rw[hm]at c1;have HJa:Hid (J [] (W.alloc (.cells #[iV (h i).k,iV m,.string (h i).nm] 81))):=hJ [] _ _ none hJ0 (World.grownBy_alloc _ _ _) (fun r e=>by cases e)
 have HBa:Hid ((W.alloc (.cells #[iV (h i).k,iV m,.string (h i).nm] 81)).heap[Bt]?=some (.cells #[iV (i:Int)] 3)):=(Below.heap_alloc _ _ _ (aZ hBt)).trans hBt;have ht1:=fv HBa.o
 rcases hk with hk|hk
 .have hkb:((h i).k==2)=false:=by rw[hk];rfl
  by_cases hni:m=i
  .have hnb:((m:Int) !=(i:Int))=false:=by rw[Bool.eq_false_iff];intro e;exact bne_iff_ne.1 e (by omega)
   have HL:Hid (leads h i= []):=by unfold leads;rw[Hid,if_pos hk,if_pos (by omega)]
   clear hh h0 h4 hY hk hni hxs;refine callsIn_of_wp Tryz.func126 rfl trivial ?_ rfl;simp only[Tryz.ntmps126,List.size_toArray,List.length_cons,List.length_nil,Nat.reduceAdd,Nat.reduceSub,Array.replicate_succ,Array.replicate_zero,List.push_toArray,List.append_toArray,List.nil_append,List.cons_append]
   gi_wp2
   go_end0
   exact ⟨⟨_,rfl⟩,.inl ⟨[],by rw[HL.o];rfl,HJa.o⟩⟩
  .have hnb:=bne_iff_ne.2 (by omega)
   have HL:Hid (leads h i= [m]):=by unfold leads;rw[Hid,if_pos hk,if_neg (by omega),hm];rfl
   obtain ⟨x,hx⟩: ∃x:Cq p,xs= [x]/\x.1=m:=by
    rw[HL.o]at hxs
    match xs,hxs with
    | [],e=>cases e
    | [x],e=>exact ⟨x,rfl,by simpa[bh]using e⟩
    |x::y::zs,e=>simp[bh]at e
   obtain ⟨fn,tmps,assign,body,hy,hR⟩:=hY [] x _ HJa.o (by rw[HL.o];exact Nat.one_pos)
   rw[hx.2]at hy;clear hh h0 h4 hY hk hni hxs;refine callsIn_of_wp Tryz.func126 rfl trivial ?_ rfl;simp only[Tryz.ntmps126,List.size_toArray,List.length_cons,List.length_nil,Nat.reduceAdd,Nat.reduceSub,Array.replicate_succ,Array.replicate_zero,List.push_toArray,List.append_toArray,List.nil_append,List.cons_append]
   gi_wp2
   refine ⟨fun h=>(by cases h),?_⟩
   refine hR.mono ?_;rintro e W3 (⟨rfl,hJ3,hk3⟩| ⟨rfl,hJx3⟩)
   .gi_wp2
    go_end0
    exact ⟨⟨_,rfl⟩,.inl ⟨[x],by rw[HL.o];simp[bh,hx.2],hJ3⟩⟩
   .gi_wp2
    go_end0
    exact ⟨⟨_,rfl⟩,.inr ⟨[x],by rw[HL.o];simp[bh,hx.2],hJx3⟩⟩
 .have hkb:((h i).k==2)=true:=by rw[hk];rfl
  have HL:Hid (leads h i=(List.range m).map fun j=>i+1+j):=by unfold leads;rw[Hid,if_neg (by omega),hm];rfl
  have hm4:m<=4:=by have:=h4 (by omega);omega
  have hll:(leads h i).length=m:=by rw[HL.o];simp
  have hxl:xs.length=m:=by rw[<-hll,<-hxs];simp[bh]
  have hxg: ∀k (hk:k<xs.length),(xs[k].1:Int)=(i:Int)+1+(k:Int):=fun k hk'=>by
   have e:(bh xs)[k]?=some xs[k].1:=by unfold bh;rw[List.getElem?_map,gE hk'];rfl
   rw[hxs,HL.o,List.getElem?_map,List.getElem?_range (by omega)]at e
   simp at e;omega
  have HY:Hid (∀ci x W,J ci W->ci.length<m->YieldAt Fence.wide (n-1) prog l #[iV (x.1:Int)] W fun e W'=>
   (e=.returned (.bool true)/\J (ci++ [x]) W'/\Kb Bt W W')\/(e=.returned (.bool false)/\Jx (ci++ [x]) W')):=fun ci x W hj hl=>hY ci x W hj (by omega)
  have HXs:=hid hxs;have HXg:=hid hxg;have hw1:IntKind.i64.wrap ((i:Int)+1)=(i:Int)+1:=by simp[IntKind.wrap,IntKind.bits,IntKind.signed];omega
  clear hh h0 h4 hY hk hxs hxg hll;refine callsIn_of_wp Tryz.func126 rfl trivial ?_ rfl;simp only[Tryz.ntmps126,List.size_toArray,List.length_cons,List.length_nil,Nat.reduceAdd,Nat.reduceSub,Array.replicate_succ,Array.replicate_zero,List.push_toArray,List.append_toArray,List.nil_append,List.cons_append]
  gi_wp2
  gi_loopw [15] (fun p wr=>∃k:Nat,k<=m/\p=iV (k:Int)/\J (xs.take k) wr/\wr.heap[Bt]?=some (.cells #[iV (i:Int)] 3)) (fun p _=>m-(intOf p).toNat)
  case atStart=>exact ⟨0,oZ,rfl,HJa.o,HBa.o⟩
  case round=>
   obtain ⟨k,hkm,rfl,hJk,hBk⟩:=hrel;have hc:=fv hBk
   by_cases hlt:k<m
   case neg=>
    obtain rfl:k=m:=by omega
    gi_wp2
    go_end0
    exact ⟨⟨_,rfl⟩,.inl ⟨xs,HXs.o,by rw[List.take_of_length_le (by omega)]at hJk;exact hJk⟩⟩
   .have hxk:k<xs.length:=by omega
    obtain ⟨fn,tmps,assign,body,hy,hR⟩:=HY.o (xs.take k) xs[k] wr hJk (by rw[List.length_take];omega)
    rw[HXg.o k hxk]at hy;have hkI:(k:Int)<(m:Int):=by omega
    have hw2:IntKind.i64.wrap ((i:Int)+1+(k:Int))=(i:Int)+1+(k:Int):=by simp[IntKind.wrap,IntKind.bits,IntKind.signed];omega
    gi_wp2
    refine ⟨fun h=>(by cases h),?_⟩
    refine hR.mono ?_;rintro e W3 (⟨rfl,hJ3,hk3⟩| ⟨rfl,hJx3⟩)
    .gi_wp2
     go_roundw
     case rel=>exact ⟨k+1,by omega,by go_num,by rw[List.take_succ_eq_append_getElem hxk];exact hJ3,hk3.2.trans hBk⟩
     case measure=>simp[intOf];omega
    .gi_wp2
     refine bodyPost_ret (results_none rfl _ _ _) rfl ?_;refine ⟨⟨_,rfl⟩,.inr ⟨xs.take k++ [xs[k]],?_,hJx3⟩⟩;rw[<-HXs.o,<-List.take_succ_eq_append_getElem hxk];unfold bh;rw[List.map_take];exact List.take_prefix _ _
theorem k7 {a:Option Addr} {len cap:Nat} {h:Nat->Cl} {i:Nat} (n:Nat) (hi:i<len) (Bh Bt:Nat) (w:World) (hh:HIn w a len h) (hok:HOk h len) (hk:(h i).k=1\/(h i).k=2) (hlb:len<=1000000)
 (hBh:w.heap[Bh]?=some (.cells #[.slice a len cap] 25)) (hBt:w.heap[Bt]?=some (.cells #[iV (i:Int)] 3)):
 SeqStopsK Fence.wide n prog 126 #[.pointer (some ⟨Bh,0,none⟩),.pointer (some ⟨Bt,0,none⟩)] (fun x:Cx len=> #[iV (x.1:Int)]) (Kb Bt) (fun ys=>bh ys=leads h i) (fun ci=>bh ci <+:leads h i) (leads h i).length w:=fun l J Jx W hW hJ hJx hY h0=>by
 obtain ⟨xs,hxs⟩:=sn (p:=fun x=>x<len) (leads h i) (hok.inn i hi)
 exact yh n hi l Bh Bt J Jx W (hh.below hW) (hok.n0 i hi) (hok.n4 i hi) hk hlb xs hxs hJ hY ((hW.block _ (aZ hBh)).trans hBh) ((hW.block _ (aZ hBt)).trans hBt) h0
theorem Am {a:Option Addr} {len cap:Nat} {h:Nat->Cl} {i:Nat} {p:Nat->Prop} (n:Nat) (hi:i<len) (hp: ∀x∈leads h i,p x) (Bh Bt:Nat) (w:World) (hh:HIn w a len h) (hok:HOk h len) (hk:(h i).k=1\/(h i).k=2) (hlb:len<=1000000)
 (hBh:w.heap[Bh]?=some (.cells #[.slice a len cap] 25)) (hBt:w.heap[Bt]?=some (.cells #[iV (i:Int)] 3)):
 SeqStopsK Fence.wide n prog 126 #[.pointer (some ⟨Bh,0,none⟩),.pointer (some ⟨Bt,0,none⟩)] (fun x:Cq p=> #[iV (x.1:Int)]) (Kb Bt) (fun ys=>bh ys=leads h i) (fun ci=>bh ci <+:leads h i) (leads h i).length w:=fun l J Jx W hW hJ hJx hY h0=>by
 obtain ⟨xs,hxs⟩:=sn (p:=p) (leads h i) hp;exact yh n hi l Bh Bt J Jx W (hh.below hW) (hok.n0 i hi) (hok.n4 i hi) hk hlb xs hxs hJ hY ((hW.block _ (aZ hBh)).trans hBh) ((hW.block _ (aZ hBt)).trans hBt) h0
theorem ns (a:Option Addr) (len cap i:Nat) (w:World):
 Calls prog 88 #[.slice a len cap,iV i] w fun e w'=>e=.returned (.func (.func 126) #[] #[.pointer (some ⟨w.heap.size,0,none⟩),.pointer (some ⟨w.heap.size+1,0,none⟩)])/\w'=(w.alloc (.cells #[.slice a len cap] 25)).alloc (.cells #[iV i] 3):=by
 go_enter Tryz.func88,Tryz.ntmps88
 go_wp2_with fail;go_ret;exact ⟨rfl,rfl⟩
end Go.Proofs.YtmggaclaoefdaabGreat
