/- Steps of a region that draws its order, in short: an operation is taken first, what is passed over, what may come up next. No condition but those named. -/
import Derived.Deep.RegionHeld
import Derived.KernelRfl
import Derived.Handy
import Derived.Lib.Hide
set_option linter.unusedSimpArgs false
set_option linter.unusedVariables false
set_option maxRecDepth 100000
set_option maxHeartbeats 25600000
namespace Go.Proofs.YtieoeendnccafaaGreat
section
open Go.RowKit
theorem zH{p:Prop}(h:p):RowKit.Hid p:=Lib.hid h
theorem lnA{α:Type}(l:List α):[]++l=l:=rfl
theorem lcA{α:Type}(a:α)(l m:List α):a::l++m=a::(l++m):=rfl
section
variable {P:Program}{ops:Array Oper}{Q:Exit→Act→World→Prop}{md:Region.Mode}{S:World→Prop}{fuel:Nat}{listed:Array Bool}{a a':Act}{w:World}
theorem ap1(a:Act)(d:Tmp)(v:Value):a.put (some d) v = { a with tmps:=a.tmps.setIfInBounds d v }:=rfl
theorem ap2(a:Act)(v:Value):a.put none v=a:=rfl
theorem ap3(l:List Value)(i:Nat)(v:Value):l.toArray.setIfInBounds i v=(l.set i v).toArray:=by simp
theorem ap4(x:Value)(l:List Value)(v:Value):(x::l).set 0 v=v::l:=rfl
theorem ap5(x:Value)(l:List Value)(n:Nat)(v:Value):(x::l).set (n+1) v=x::l.set n v:=rfl
section
variable {op:Op}{ty:TypeId}{ps:String}{af:Array Edge}{gd:Option (Nat×Bool)}{v:Value}
theorem stk(i d:Nat)(hi:ops[i]?=some ⟨some d,op,ty,ps,af,gd⟩)
  (h:wpAnyH P md ops Q S fuel (listed.setIfInBounds i true) a' w)
  (hv:∀w,S w→(execOp a.eval ⟨some d,op,ty,ps,af,gd⟩).run P w=.ok (.value v) w:=by(intro w hSw;(try dsimp only at hSw);go_simp;try with_reducible rfl))
  (ha:a.put (some d) v=a':=by((try simp only[Act.put,List.setIfInBounds_toArray,List.set_cons_zero,List.set_cons_succ]);exact rfl))
  (hs:Region.noSelect ops=true:=by kernel_rfl) (hf:Region.free md ops listed i=true:=by kernel_rfl) (hr:(Region.ready md ops listed).contains i=true:=by kernel_rfl)
  (hw:Region.wanted ⟨some d,op,ty,ps,af,gd⟩ (yielded ops a.tmps)=true:=by rfl) (hS:S w:=by assumption)
  (hQ:∀c a w,Q (.panic c) (a.put (some d) v) w→Q (.panic c) a w:=by exact fun _ _ _ h=>h):wpAnyH P md ops Q S (fuel+1) listed a w:=
 wpAnyH_take hi hs hf hr hQ (Or.inl ⟨hw,hv⟩) hS (ha.symm▸h)
theorem stu(i d:Nat)(hi:ops[i]?=some ⟨some d,op,ty,ps,af,gd⟩)
  (h:wpAnyH P md ops Q S fuel (listed.setIfInBounds i true) a' w)
  (ha:a.put (some d) undef=a':=by((try simp only[Act.put,List.setIfInBounds_toArray,List.set_cons_zero,List.set_cons_succ]);exact rfl))
  (hs:Region.noSelect ops=true:=by kernel_rfl) (hf:Region.free md ops listed i=true:=by kernel_rfl) (hr:(Region.ready md ops listed).contains i=true:=by kernel_rfl)
  (hw:Region.wanted ⟨some d,op,ty,ps,af,gd⟩ (yielded ops a.tmps)=false:=by rfl) (hS:S w:=by assumption)
  (hQ:∀c a w,Q (.panic c) (a.put (some d) undef) w→Q (.panic c) a w:=by exact fun _ _ _ h=>h):wpAnyH P md ops Q S (fuel+1) listed a w:=
 wpAnyH_take hi hs hf hr hQ (Or.inr ⟨hw,rfl⟩) hS (ha.symm▸h)
end
variable {op:Op}{ty:TypeId}{ps:String}{af:Array Edge}{gd:Option (Nat×Bool)}{op2:Op}{ty2:TypeId}{ps2:String}{af2:Array Edge}{gd2:Option (Nat×Bool)}{op3:Op}{ty3:TypeId}{ps3:String}{af3:Array Edge}{gd3:Option (Nat×Bool)}
theorem srd1(i:Nat)(d:Option Nat)(hi:ops[i]?=some ⟨d,op,ty,ps,af,gd⟩)
  (h:∀K':Act→World→Prop,Shut (∀a w,S w→(S w→wpAnyH P md ops Q S fuel (listed.setIfInBounds i true) a w)→K' a w)→if Region.wanted ⟨d,op,ty,ps,af,gd⟩ (yielded ops a.tmps)=true then Oper.wp P ⟨d,op,ty,ps,af,gd⟩ a w K' Q else K' (a.put d undef) w)
  (hr:Region.ready md ops listed=[i]:=by kernel_rfl):wpAnyH P md ops Q S (fuel+1) listed a w:=
 wpAnyH_ready hr (by simp) (AllReadyH.cons hi h AllReadyH.nil)
theorem srd2(i:Nat)(d:Option Nat)(j:Nat)(e:Option Nat)(hi:ops[i]?=some ⟨d,op,ty,ps,af,gd⟩)(hj:ops[j]?=some ⟨e,op2,ty2,ps2,af2,gd2⟩)
  (h:∀K':Act→World→Prop,Shut (∀a w,S w→(S w→wpAnyH P md ops Q S fuel (listed.setIfInBounds i true) a w)→K' a w)→if Region.wanted ⟨d,op,ty,ps,af,gd⟩ (yielded ops a.tmps)=true then Oper.wp P ⟨d,op,ty,ps,af,gd⟩ a w K' Q else K' (a.put d undef) w)
  (h2:∀K':Act→World→Prop,Shut (∀a w,S w→(S w→wpAnyH P md ops Q S fuel (listed.setIfInBounds j true) a w)→K' a w)→if Region.wanted ⟨e,op2,ty2,ps2,af2,gd2⟩ (yielded ops a.tmps)=true then Oper.wp P ⟨e,op2,ty2,ps2,af2,gd2⟩ a w K' Q else K' (a.put e undef) w)
  (hr:Region.ready md ops listed=[i,j]:=by kernel_rfl):wpAnyH P md ops Q S (fuel+1) listed a w:=
 wpAnyH_ready hr (by simp) (AllReadyH.cons hi h (AllReadyH.cons hj h2 AllReadyH.nil))
end
end
end Go.Proofs.YtieoeendnccafaaGreat
