/- What the document's Same returns: whether objects are the same. No condition but those named. -/
import Derived.Test.YtieoeendnccafaaNTK
import Derived.Test.YtieoeendnccafaaNAJ
import Derived.Test.YtieoeendnccafaaNBH
import Derived.Deep.CutBlock
import Derived.Deep.DeepCutAuto
set_option linter.unusedSimpArgs false
set_option linter.unusedVariables false
set_option maxRecDepth 100000
set_option maxHeartbeats 25600000
namespace Go.Proofs.Ytieoeendnccafaa
section
open Go.RowKit
theorem Kn.two2{b0:Nat}{w0 w:World}{R:List RowE}{a b:Nat×TypeId×Array Value}(h:Kn b0 w0 w [a,b] R):Kn b0 w0 w [b,a] R:=by
 refine h.pick (fun i=>1-i) id (fun i j hi hj h=>?_) (fun i j _ _ h=>h) (fun i x hx=>?_) (fun i x hx=>hx)
 ·simp at hi hj;omega
 ·match i,hx with
  | 0,hx=>exact hx
  | 1,hx=>exact hx
theorem step_aob{b0:Nat}{w0 w:World}{L:List (Nat×TypeId×Array Value)}{R:List RowE}{ops:Array Oper}{o:Oper}{a:Act}{Q:Exit→Act→World→Prop}{K:Act→World→Prop}{E:Prop}(HK:Hid (Kn b0 w0 w L R))(hgd:o.guard=none)(ho:o.op=.alloc 69)
  (h:∀w' g,Hid (Kn b0 w0 w' (L++[(g,69,obA ohZ)]) R)→Hid (Below w.heap.size w w')→K (a.put o.dst (.pointer (some ⟨g,0,none⟩))) w'):if Region.wanted o (yielded ops a.tmps)=true then Oper.wp Try.prog o a w K Q else E:=by
 rw[if_pos (by simp[Region.wanted,hgd])]
 have h4:=h _ w.heap.size (zH (HK.out.alloc 69 (obA ohZ))) (zH ((Below.refl _ w).alloc (Nat.le_refl _) _))
 have hr:(Instr.alloc 69 true (.tuple #[])).run Try.prog w=.ok (.pointer (some ⟨w.heap.size,0,none⟩)) (w.alloc (.cells (obA ohZ) 69)):=obLay.run_alloc w
 unfold Oper.wp execOp
 simp only[ho,Sem.run_bind,Sem.run_pure,hr,Result.andThen_ok]
 exact h4
theorem step_sob{b0:Nat}{w0 w:World}{L:List (Nat×TypeId×Array Value)}{R:List RowE}{ops:Array Oper}{o:Oper}{a:Act}{Q:Exit→Act→World→Prop}{K:Act→World→Prop}{E:Prop}{g:Nat}{x y:Oh}(HK:Hid (Kn b0 w0 w L R))(i:Nat)(hgd:o.guard=none)(p q:Operand)(ho:o.op=.store 69 p q)(hL:L[i]?=some (g,69,obA x))(hx:a.eval p=.pointer (some ⟨g,0,none⟩))(hy:a.eval q=.agg (obA y))
  (h:∀w',Hid (Kn b0 w0 w' (L.set i (g,69,obA y)) R)→K (a.put o.dst undef) w'):if Region.wanted o (yielded ops a.tmps)=true then Oper.wp Try.prog o a w K Q else E:=
 step_st obLay (p2:=y) HK i hgd p q ho hL rfl hx hy h
theorem osame_any(A B:Option Addr)(c n d m:Nat)(a b:List Oh)(w:World)(hs:Obs w A n c a)(ht:Obs w B m d b):
  Calls Try.prog 11 #[.slice A n c,.slice B m d] w (IsB (decide (vs a=vs b)) w):=by
 have HK:=zH (Kn.start w)
 unfold IsB
 by_cases hnm:n=m
 case neg=>
  have hd:decide (vs a=vs b)=false:=decide_eq_false fun h=>hnm (by rw[← hs.len,← ht.len,← vs_len a,← vs_len b,h])
  rw[hd]
  have hnm2:((n:Int) != (m:Int))=true:=by simp;omega
  clear hs ht hd
  go_enter Try.func11,Try.ntmps11
  go_wp2_with fail
  go_ret
  exact⟨rfl,HK.out.b⟩
 case pos=>
 subst hnm
 obtain⟨hno,hyes⟩:=same_at (a:=vs a) (b:=vs b) (n:=n) (by rw[vs_len];exact hs.len) (by rw[vs_len];exact ht.len)
 have HNo:=zH hno
 have HYes:=zH hyes
 have HS:=zH hs
 have HT:=zH ht
 have hbig:n*144≤140737488355328:=hs.s.big
 have hn63:n<9223372036854775807:=by omega
 have HP:=zH same_any
 have HV:=zH qsame_any
 have HR:=zH lsame_any
 unfold IsB at HP HV HR
 clear hs ht hno hyes hbig
 generalize decide (vs a=vs b)=r at *
 have hnm2:((n:Int) != (n:Int))=false:=by simp
 go_enter Try.func11,Try.ntmps11
 go_wp2_with fail
 go_loopw [5] (fun vi wr=>∃k:Nat,k≤n∧vi=.int .i64 k∧Hid (∀i,i<k→(vs a)[i]?=(vs b)[i]?)∧Hid (Kn w.heap.size w wr [] [])) (fun vi _=>n-(intOf vi).toNat)
 case atStart=>exact⟨0,Nat.zero_le _,rfl,zH (fun i hi=>by omega),HK⟩
 case round=>
  clear HK
  obtain⟨k,hk,rfl,HE,HK⟩:=hrel
  have hk1:(0:Int)≤(k:Int):=by omega
  by_cases hlt:k<n
  case neg=>
   obtain rfl:k=n:=by omega
   have HRr:Hid (r=true):=zH (HYes.out HE.out)
   go_wp2_with fail
   go_ret
   exact⟨by rw[HRr.out]<;>rfl,HK.out.b⟩
  case pos=>
  have hk2:(k:Int)<(n:Int):=by omega
  have hk3:k<9223372036854775807:=by omega
  obtain⟨x,hx,hix⟩:=HS.out.get hlt
  obtain⟨y,hy,hiy⟩:=HT.out.get hlt
  obtain⟨b1,o1,rfl,hat1⟩:=HS.out.s.at (Nat.lt_of_le_of_lt (Nat.zero_le _) hlt)
  obtain⟨b2,o2,rfl,hat2⟩:=HT.out.s.at (Nat.lt_of_le_of_lt (Nat.zero_le _) hlt)
  have HX:Hid (∀W,Below w.heap.size w W→∀j v,(obL x)[j]?=some v→W.cell? ⟨b1,o1+k*11+j,none⟩=some v):=zH (fun W hW=>hat1 W hW k x hx)
  have HY:Hid (∀W,Below w.heap.size w W→∀j v,(obL y)[j]?=some v→W.cell? ⟨b2,o2+k*11+j,none⟩=some v):=zH (fun W hW=>hat2 W hW k y hy)
  have HNx:=zH (HNo.out k x.v y.v hlt (vs_get hx) (vs_get hy))
  have HEx:Hid (x.v=y.v→(vs a)[k]?=(vs b)[k]?):=zH fun h=>by rw[vs_get hx,vs_get hy,h]
  have HIx:=zH hix
  have HIy:=zH hiy
  clear hat1 hat2 hx hy HNo HYes hix hiy HS HT
  go_wp2_with fail
  go_cut [6,7] (fun s6 s7 wx=>∃(gx gy:Nat),s6=.pointer (some ⟨gx,0,none⟩)∧s7=.pointer (some ⟨gy,0,none⟩)∧Hid (Kn w.heap.size w wx [(gx,69,obA x),(gy,69,obA y)] []))
  case first=>
   replace HK:=zH HK.out.drew
   have HH:=HK
   refine wp_region_held_drew (S:=(fun W=>Hid (Kn w.heap.size w W [] []))) (by kernel_rfl) ?_ (fun hHeld=>?_)
   ·(try dsimp only);exact HH
   refine wpAnyH_take (i:=0) (oi:=⟨some 19,_,_,_,_,_⟩) (v:=?_) rfl (by kernel_rfl) (by kernel_rfl) (by kernel_rfl) (fun _ _ _ h=>h) (Or.inl ⟨by rfl,?_⟩) (by assumption) ?_
   rotate_left
   ·(intro w hSw;(try dsimp only at hSw);go_simp;try with_reducible rfl)
   try simp only[Act.put,List.setIfInBounds_toArray,List.set_cons_zero,List.set_cons_succ]
   refine wpAnyH_take (i:=1) (oi:=⟨some 20,_,_,_,_,_⟩) (v:=?_) rfl (by kernel_rfl) (by kernel_rfl) (by kernel_rfl) (fun _ _ _ h=>h) (Or.inl ⟨by rfl,?_⟩) (by assumption) ?_
   rotate_left
   ·(intro w hSw;(try dsimp only at hSw);go_simp;try with_reducible rfl)
   try simp only[Act.put,List.setIfInBounds_toArray,List.set_cons_zero,List.set_cons_succ]
   refine wpAnyH_take (i:=2) (oi:=⟨some 21,_,_,_,_,_⟩) (v:=?_) rfl (by kernel_rfl) (by kernel_rfl) (by kernel_rfl) (fun _ _ _ h=>h) (Or.inl ⟨by rfl,?_⟩) (by assumption) ?_
   rotate_left
   ·(intro w hSw;refine Eq.trans (exec_ixo (i:=k) _ _ (by rfl) (by rfl) (by rfl) hlt) ?_;with_reducible rfl)
   try simp only[Act.put,List.setIfInBounds_toArray,List.set_cons_zero,List.set_cons_succ]
   refine wpAnyH_take (i:=3) (oi:=⟨some 22,_,_,_,_,_⟩) (v:=?_) rfl (by kernel_rfl) (by kernel_rfl) (by kernel_rfl) (fun _ _ _ h=>h) (Or.inl ⟨by rfl,?_⟩) (by assumption) ?_
   rotate_left
   ·(intro w hSw;refine Eq.trans (exec_obx (off:=o1+k*11) _ (by rfl) (by rfl) (HX.out _ hSw.out.b)) ?_;with_reducible rfl)
   try simp only[Act.put,List.setIfInBounds_toArray,List.set_cons_zero,List.set_cons_succ]
   refine wpAnyH_take (i:=4) (oi:=⟨some 23,_,_,_,_,_⟩) (v:=?_) rfl (by kernel_rfl) (by kernel_rfl) (by kernel_rfl) (fun _ _ _ h=>h) (Or.inl ⟨by rfl,?_⟩) (by assumption) ?_
   rotate_left
   ·(intro w hSw;(try dsimp only at hSw);go_simp;try with_reducible rfl)
   try simp only[Act.put,List.setIfInBounds_toArray,List.set_cons_zero,List.set_cons_succ]
   refine wpAnyH_take (i:=5) (oi:=⟨some 24,_,_,_,_,_⟩) (v:=?_) rfl (by kernel_rfl) (by kernel_rfl) (by kernel_rfl) (fun _ _ _ h=>h) (Or.inl ⟨by rfl,?_⟩) (by assumption) ?_
   rotate_left
   ·(intro w hSw;(try dsimp only at hSw);go_simp;try with_reducible rfl)
   try simp only[Act.put,List.setIfInBounds_toArray,List.set_cons_zero,List.set_cons_succ]
   refine wpAnyH_take (i:=6) (oi:=⟨some 25,_,_,_,_,_⟩) (v:=?_) rfl (by kernel_rfl) (by kernel_rfl) (by kernel_rfl) (fun _ _ _ h=>h) (Or.inl ⟨by rfl,?_⟩) (by assumption) ?_
   rotate_left
   ·(intro w hSw;refine Eq.trans (exec_ixo (i:=k) _ _ (by rfl) (by rfl) (by rfl) hlt) ?_;with_reducible rfl)
   try simp only[Act.put,List.setIfInBounds_toArray,List.set_cons_zero,List.set_cons_succ]
   refine wpAnyH_take (i:=7) (oi:=⟨some 26,_,_,_,_,_⟩) (v:=?_) rfl (by kernel_rfl) (by kernel_rfl) (by kernel_rfl) (fun _ _ _ h=>h) (Or.inl ⟨by rfl,?_⟩) (by assumption) ?_
   rotate_left
   ·(intro w hSw;refine Eq.trans (exec_obx (off:=o2+k*11) _ (by rfl) (by rfl) (HY.out _ hSw.out.b)) ?_;with_reducible rfl)
   try simp only[Act.put,List.setIfInBounds_toArray,List.set_cons_zero,List.set_cons_succ]
   refine wpAnyH_ready (rs:=[8,9]) (by kernel_rfl) (by simp) ?_
   refine AllReadyH.cons (o:=⟨some 6,_,_,_,_,_⟩) rfl (fun K hK=>?_) (AllReadyH.cons (o:=⟨some 7,_,_,_,_,_⟩) rfl (fun K hK=>?_) AllReadyH.nil)
   refine step_aob HK (by rfl) (by rfl) ?_;intro wA gx HK' _;simp only[lcA,lnA] at HK';replace HK:=HK';clear HK';have hs:=zH (HK.out.takeL 0)
   refine hK.out _ _ hs (fun hHeld=>?_)
   clear hK K
   try simp only[ap1,ap2,ap3,ap4,ap5]
   refine wpAnyH_ready (rs:=[9]) (by kernel_rfl) (by simp) ?_
   refine AllReadyH.cons (o:=⟨some 7,_,_,_,_,_⟩) rfl (fun K hK=>?_) AllReadyH.nil
   refine step_aob HK (by rfl) (by rfl) ?_;intro wA gy HK' _;simp only[lcA,lnA] at HK';replace HK:=HK';clear HK';have hs:=zH (HK.out.takeL 0)
   refine hK.out _ _ hs (fun hHeld=>?_)
   clear hK K
   try simp only[ap1,ap2,ap3,ap4,ap5]
   refine wpAnyH_ready (rs:=[10]) (by kernel_rfl) (by simp) ?_
   refine AllReadyH.cons (o:=⟨none,_,_,_,_,_⟩) rfl (fun K hK=>?_) AllReadyH.nil
   first|(refine step_sob HK 0 (by rfl) _ _ (by rfl) (by rfl) (by rfl) (by rfl) ?_;intro _ HK';simp only[List.set] at HK';replace HK:=HK';clear HK';have hs:=zH (HK.out.takeL 0))|(refine step_sob HK 1 (by rfl) _ _ (by rfl) (by rfl) (by rfl) (by rfl) ?_;intro _ HK';simp only[List.set] at HK';replace HK:=HK';clear HK';have hs:=zH (HK.out.takeL 0))
   refine hK.out _ _ hs (fun hHeld=>?_)
   clear hK K
   try simp only[ap1,ap2,ap3,ap4,ap5]
   refine wpAnyH_ready (rs:=[11]) (by kernel_rfl) (by simp) ?_
   refine AllReadyH.cons (o:=⟨none,_,_,_,_,_⟩) rfl (fun K hK=>?_) AllReadyH.nil
   first|(refine step_sob HK 0 (by rfl) _ _ (by rfl) (by rfl) (by rfl) (by rfl) ?_;intro _ HK';simp only[List.set] at HK';replace HK:=HK';clear HK';have hs:=zH (HK.out.takeL 0))|(refine step_sob HK 1 (by rfl) _ _ (by rfl) (by rfl) (by rfl) (by rfl) ?_;intro _ HK';simp only[List.set] at HK';replace HK:=HK';clear HK';have hs:=zH (HK.out.takeL 0))
   refine hK.out _ _ hs (fun hHeld=>?_)
   clear hK K
   try simp only[ap1,ap2,ap3,ap4,ap5]
   refine wpAnyH_done (by kernel_rfl) ?_ _
   rotate_left
   refine step_aob HK (by rfl) (by rfl) ?_;intro wA gy HK' _;simp only[lcA,lnA] at HK';replace HK:=HK';clear HK';have hs:=zH (HK.out.takeL 0)
   refine hK.out _ _ hs (fun hHeld=>?_)
   clear hK K
   try simp only[ap1,ap2,ap3,ap4,ap5]
   refine wpAnyH_ready (rs:=[8]) (by kernel_rfl) (by simp) ?_
   refine AllReadyH.cons (o:=⟨some 6,_,_,_,_,_⟩) rfl (fun K hK=>?_) AllReadyH.nil
   refine step_aob HK (by rfl) (by rfl) ?_;intro wA gx HK' _;simp only[lcA,lnA] at HK';replace HK:=HK';clear HK';have hs:=zH (HK.out.takeL 0)
   refine hK.out _ _ hs (fun hHeld=>?_)
   clear hK K
   try simp only[ap1,ap2,ap3,ap4,ap5]
   refine wpAnyH_ready (rs:=[10]) (by kernel_rfl) (by simp) ?_
   refine AllReadyH.cons (o:=⟨none,_,_,_,_,_⟩) rfl (fun K hK=>?_) AllReadyH.nil
   first|(refine step_sob HK 0 (by rfl) _ _ (by rfl) (by rfl) (by rfl) (by rfl) ?_;intro _ HK';simp only[List.set] at HK';replace HK:=HK';clear HK';have hs:=zH (HK.out.takeL 0))|(refine step_sob HK 1 (by rfl) _ _ (by rfl) (by rfl) (by rfl) (by rfl) ?_;intro _ HK';simp only[List.set] at HK';replace HK:=HK';clear HK';have hs:=zH (HK.out.takeL 0))
   refine hK.out _ _ hs (fun hHeld=>?_)
   clear hK K
   try simp only[ap1,ap2,ap3,ap4,ap5]
   refine wpAnyH_ready (rs:=[11]) (by kernel_rfl) (by simp) ?_
   refine AllReadyH.cons (o:=⟨none,_,_,_,_,_⟩) rfl (fun K hK=>?_) AllReadyH.nil
   first|(refine step_sob HK 0 (by rfl) _ _ (by rfl) (by rfl) (by rfl) (by rfl) ?_;intro _ HK';simp only[List.set] at HK';replace HK:=HK';clear HK';have hs:=zH (HK.out.takeL 0))|(refine step_sob HK 1 (by rfl) _ _ (by rfl) (by rfl) (by rfl) (by rfl) ?_;intro _ HK';simp only[List.set] at HK';replace HK:=HK';clear HK';have hs:=zH (HK.out.takeL 0))
   refine hK.out _ _ hs (fun hHeld=>?_)
   clear hK K
   try simp only[ap1,ap2,ap3,ap4,ap5]
   refine wpAnyH_done (by kernel_rfl) ?_ _
   rotate_left
   all_goals
    go_wp2_with fail
    go_meet
    first
     | exact⟨gx,gy,rfl,rfl,HK⟩
     | exact⟨gx,gy,rfl,rfl,zH (Kn.two2 HK.out)⟩
  case rest=>
  clear HK HX HY
  obtain⟨gx,gy,rfl,rfl,HK⟩:=hcut
  obtain⟨⟨name,kind,cap,prs,vals,refs,round,⟨mn,ms,ml,mm⟩⟩,pA,pn,pc,vA,vn,vc,rA,rn,rc⟩:=x
  obtain⟨⟨name',kind',cap',prs',vals',refs',round',⟨mn',ms',ml',mm'⟩⟩,pA',pn',pc',vA',vn',vc',rA',rn',rc'⟩:=y
  unfold obA at HK
  simp only at HK HNx HEx
  by_cases hname:name=name'
  case neg=>
   have HRr:Hid (r=false):=zH (HNx.out fun h=>hname (congrArg Sto.Ob.name h))
   have g:¬name.toList=name'.toList:=fun h=>hname (Dct.toList_inj h)
   have c0:=HK.out.cell 0 rfl 0 (v:=.string name) rfl
   have d0:=HK.out.cell 1 rfl 0 (v:=.string name') rfl
   clear HP HV HR HE HEx HNx hname
   go_wp2_with fail
   go_ret
   exact⟨by rw[HRr.out]<;>rfl,HK.out.b⟩
  case pos=>
  subst hname
  by_cases hkind:kind=kind'
  case neg=>
   have HRr:Hid (r=false):=zH (HNx.out fun h=>hkind (congrArg Sto.Ob.kind h))
   have g:(kind != kind')=true:=by simpa using hkind
   have c0:=HK.out.cell 0 rfl 0 (v:=.string name) rfl
   have d0:=HK.out.cell 1 rfl 0 (v:=.string name) rfl
   have c1:=HK.out.cell 0 rfl 1 (v:=.int .i64 kind) rfl
   have d1:=HK.out.cell 1 rfl 1 (v:=.int .i64 kind') rfl
   clear HP HV HR HE HEx HNx hkind
   go_wp2_with fail
   go_ret
   exact⟨by rw[HRr.out]<;>rfl,HK.out.b⟩
  case pos=>
  subst hkind
  by_cases hcap:cap=cap'
  case neg=>
   have HRr:Hid (r=false):=zH (HNx.out fun h=>hcap (congrArg Sto.Ob.cap h))
   have g:(cap != cap')=true:=by simpa using hcap
   have c0:=HK.out.cell 0 rfl 0 (v:=.string name) rfl
   have d0:=HK.out.cell 1 rfl 0 (v:=.string name) rfl
   have c1:=HK.out.cell 0 rfl 1 (v:=.int .i64 kind) rfl
   have d1:=HK.out.cell 1 rfl 1 (v:=.int .i64 kind) rfl
   have c2:=HK.out.cell 0 rfl 2 (v:=.int .i64 cap) rfl
   have d2:=HK.out.cell 1 rfl 2 (v:=.int .i64 cap') rfl
   clear HP HV HR HE HEx HNx hcap
   go_wp2_with fail
   go_ret
   exact⟨by rw[HRr.out]<;>rfl,HK.out.b⟩
  case pos=>
  subst hcap
  by_cases hround:round=round'
  case neg=>
   have HRr:Hid (r=false):=zH (HNx.out fun h=>hround (congrArg Sto.Ob.round h))
   have g:(round != round')=true:=by simpa using hround
   have c0:=HK.out.cell 0 rfl 0 (v:=.string name) rfl
   have d0:=HK.out.cell 1 rfl 0 (v:=.string name) rfl
   have c1:=HK.out.cell 0 rfl 1 (v:=.int .i64 kind) rfl
   have d1:=HK.out.cell 1 rfl 1 (v:=.int .i64 kind) rfl
   have c2:=HK.out.cell 0 rfl 2 (v:=.int .i64 cap) rfl
   have d2:=HK.out.cell 1 rfl 2 (v:=.int .i64 cap) rfl
   have c6:=HK.out.cell 0 rfl 6 (v:=.int .i64 round) rfl
   have d6:=HK.out.cell 1 rfl 6 (v:=.int .i64 round') rfl
   clear HP HV HR HE HEx HNx hround
   go_wp2_with fail
   go_ret
   exact⟨by rw[HRr.out]<;>rfl,HK.out.b⟩
  case pos=>
  subst hround
  by_cases hmn:mn=mn'
  case neg=>
   have HRr:Hid (r=false):=zH (HNx.out fun h=>hmn (congrArg (fun o:Sto.Ob=>o.mt.n) h))
   have c0:=HK.out.cell 0 rfl 0 (v:=.string name) rfl
   have d0:=HK.out.cell 1 rfl 0 (v:=.string name) rfl
   have c1:=HK.out.cell 0 rfl 1 (v:=.int .i64 kind) rfl
   have d1:=HK.out.cell 1 rfl 1 (v:=.int .i64 kind) rfl
   have c2:=HK.out.cell 0 rfl 2 (v:=.int .i64 cap) rfl
   have d2:=HK.out.cell 1 rfl 2 (v:=.int .i64 cap) rfl
   have c6:=HK.out.cell 0 rfl 6 (v:=.int .i64 round) rfl
   have d6:=HK.out.cell 1 rfl 6 (v:=.int .i64 round) rfl
   have c7:=HK.out.cell 0 rfl 7 (v:=.int .i64 mn) rfl
   have d7:=HK.out.cell 1 rfl 7 (v:=.int .i64 mn') rfl
   have c8:=HK.out.cell 0 rfl 8 (v:=.int .u64 (ms:Int)) rfl
   have d8:=HK.out.cell 1 rfl 8 (v:=.int .u64 (ms':Int)) rfl
   have c9:=HK.out.cell 0 rfl 9 (v:=.int .u64 (ml:Int)) rfl
   have d9:=HK.out.cell 1 rfl 9 (v:=.int .u64 (ml':Int)) rfl
   have c10:=HK.out.cell 0 rfl 10 (v:=.int .u64 (mm:Int)) rfl
   have d10:=HK.out.cell 1 rfl 10 (v:=.int .u64 (mm':Int)) rfl
   clear HP HV HR HE HEx HNx
   go_wp2_with fail
   go_ret
   exact⟨by rw[HRr.out]<;>rfl,HK.out.b⟩
  case pos=>
  subst hmn
  by_cases hms:ms=ms'
  case neg=>
   have HRr:Hid (r=false):=zH (HNx.out fun h=>hms (congrArg (fun o:Sto.Ob=>o.mt.s) h))
   have g:¬(ms:Int)=(ms':Int):=by omega
   have c0:=HK.out.cell 0 rfl 0 (v:=.string name) rfl
   have d0:=HK.out.cell 1 rfl 0 (v:=.string name) rfl
   have c1:=HK.out.cell 0 rfl 1 (v:=.int .i64 kind) rfl
   have d1:=HK.out.cell 1 rfl 1 (v:=.int .i64 kind) rfl
   have c2:=HK.out.cell 0 rfl 2 (v:=.int .i64 cap) rfl
   have d2:=HK.out.cell 1 rfl 2 (v:=.int .i64 cap) rfl
   have c6:=HK.out.cell 0 rfl 6 (v:=.int .i64 round) rfl
   have d6:=HK.out.cell 1 rfl 6 (v:=.int .i64 round) rfl
   have c7:=HK.out.cell 0 rfl 7 (v:=.int .i64 mn) rfl
   have d7:=HK.out.cell 1 rfl 7 (v:=.int .i64 mn) rfl
   have c8:=HK.out.cell 0 rfl 8 (v:=.int .u64 (ms:Int)) rfl
   have d8:=HK.out.cell 1 rfl 8 (v:=.int .u64 (ms':Int)) rfl
   have c9:=HK.out.cell 0 rfl 9 (v:=.int .u64 (ml:Int)) rfl
   have d9:=HK.out.cell 1 rfl 9 (v:=.int .u64 (ml':Int)) rfl
   have c10:=HK.out.cell 0 rfl 10 (v:=.int .u64 (mm:Int)) rfl
   have d10:=HK.out.cell 1 rfl 10 (v:=.int .u64 (mm':Int)) rfl
   clear HP HV HR HE HEx HNx
   go_wp2_with fail
   go_ret
   exact⟨by rw[HRr.out]<;>rfl,HK.out.b⟩
  case pos=>
  subst hms
  by_cases hml:ml=ml'
  case neg=>
   have HRr:Hid (r=false):=zH (HNx.out fun h=>hml (congrArg (fun o:Sto.Ob=>o.mt.l) h))
   have g:¬(ml:Int)=(ml':Int):=by omega
   have c0:=HK.out.cell 0 rfl 0 (v:=.string name) rfl
   have d0:=HK.out.cell 1 rfl 0 (v:=.string name) rfl
   have c1:=HK.out.cell 0 rfl 1 (v:=.int .i64 kind) rfl
   have d1:=HK.out.cell 1 rfl 1 (v:=.int .i64 kind) rfl
   have c2:=HK.out.cell 0 rfl 2 (v:=.int .i64 cap) rfl
   have d2:=HK.out.cell 1 rfl 2 (v:=.int .i64 cap) rfl
   have c6:=HK.out.cell 0 rfl 6 (v:=.int .i64 round) rfl
   have d6:=HK.out.cell 1 rfl 6 (v:=.int .i64 round) rfl
   have c7:=HK.out.cell 0 rfl 7 (v:=.int .i64 mn) rfl
   have d7:=HK.out.cell 1 rfl 7 (v:=.int .i64 mn) rfl
   have c8:=HK.out.cell 0 rfl 8 (v:=.int .u64 (ms:Int)) rfl
   have d8:=HK.out.cell 1 rfl 8 (v:=.int .u64 (ms:Int)) rfl
   have c9:=HK.out.cell 0 rfl 9 (v:=.int .u64 (ml:Int)) rfl
   have d9:=HK.out.cell 1 rfl 9 (v:=.int .u64 (ml':Int)) rfl
   have c10:=HK.out.cell 0 rfl 10 (v:=.int .u64 (mm:Int)) rfl
   have d10:=HK.out.cell 1 rfl 10 (v:=.int .u64 (mm':Int)) rfl
   clear HP HV HR HE HEx HNx
   go_wp2_with fail
   go_ret
   exact⟨by rw[HRr.out]<;>rfl,HK.out.b⟩
  case pos=>
  subst hml
  by_cases hmm:mm=mm'
  case neg=>
   have HRr:Hid (r=false):=zH (HNx.out fun h=>hmm (congrArg (fun o:Sto.Ob=>o.mt.m) h))
   have g:¬(mm:Int)=(mm':Int):=by omega
   have c0:=HK.out.cell 0 rfl 0 (v:=.string name) rfl
   have d0:=HK.out.cell 1 rfl 0 (v:=.string name) rfl
   have c1:=HK.out.cell 0 rfl 1 (v:=.int .i64 kind) rfl
   have d1:=HK.out.cell 1 rfl 1 (v:=.int .i64 kind) rfl
   have c2:=HK.out.cell 0 rfl 2 (v:=.int .i64 cap) rfl
   have d2:=HK.out.cell 1 rfl 2 (v:=.int .i64 cap) rfl
   have c6:=HK.out.cell 0 rfl 6 (v:=.int .i64 round) rfl
   have d6:=HK.out.cell 1 rfl 6 (v:=.int .i64 round) rfl
   have c7:=HK.out.cell 0 rfl 7 (v:=.int .i64 mn) rfl
   have d7:=HK.out.cell 1 rfl 7 (v:=.int .i64 mn) rfl
   have c8:=HK.out.cell 0 rfl 8 (v:=.int .u64 (ms:Int)) rfl
   have d8:=HK.out.cell 1 rfl 8 (v:=.int .u64 (ms:Int)) rfl
   have c9:=HK.out.cell 0 rfl 9 (v:=.int .u64 (ml:Int)) rfl
   have d9:=HK.out.cell 1 rfl 9 (v:=.int .u64 (ml:Int)) rfl
   have c10:=HK.out.cell 0 rfl 10 (v:=.int .u64 (mm:Int)) rfl
   have d10:=HK.out.cell 1 rfl 10 (v:=.int .u64 (mm':Int)) rfl
   clear HP HV HR HE HEx HNx
   go_wp2_with fail
   go_ret
   exact⟨by rw[HRr.out]<;>rfl,HK.out.b⟩
  case pos=>
  subst hmm
  have c0:=HK.out.cell 0 rfl 0 (v:=.string name) rfl
  have d0:=HK.out.cell 1 rfl 0 (v:=.string name) rfl
  have c1:=HK.out.cell 0 rfl 1 (v:=.int .i64 kind) rfl
  have d1:=HK.out.cell 1 rfl 1 (v:=.int .i64 kind) rfl
  have c2:=HK.out.cell 0 rfl 2 (v:=.int .i64 cap) rfl
  have d2:=HK.out.cell 1 rfl 2 (v:=.int .i64 cap) rfl
  have c6:=HK.out.cell 0 rfl 6 (v:=.int .i64 round) rfl
  have d6:=HK.out.cell 1 rfl 6 (v:=.int .i64 round) rfl
  have c7:=HK.out.cell 0 rfl 7 (v:=.int .i64 mn) rfl
  have d7:=HK.out.cell 1 rfl 7 (v:=.int .i64 mn) rfl
  have c8:=HK.out.cell 0 rfl 8 (v:=.int .u64 (ms:Int)) rfl
  have d8:=HK.out.cell 1 rfl 8 (v:=.int .u64 (ms:Int)) rfl
  have c9:=HK.out.cell 0 rfl 9 (v:=.int .u64 (ml:Int)) rfl
  have d9:=HK.out.cell 1 rfl 9 (v:=.int .u64 (ml:Int)) rfl
  have c10:=HK.out.cell 0 rfl 10 (v:=.int .u64 (mm:Int)) rfl
  have d10:=HK.out.cell 1 rfl 10 (v:=.int .u64 (mm:Int)) rfl
  have c3:=HK.out.cell 0 rfl 3 (v:=.slice pA pn pc) rfl
  have d3:=HK.out.cell 1 rfl 3 (v:=.slice pA' pn' pc') rfl
  go_wp2_with fail
  refine(HP.out _ _ _ _ _ _ _ _ _ (HIx.out.p.later HK.out.b) (HIy.out.p.later HK.out.b)).mono ?_;rintro e w1 ⟨rfl,b1⟩
  clear c0 d0 c1 d1 c2 d2 c6 d6 c7 d7 c8 d8 c9 d9 c10 d10 c3 d3
  replace HK:=hkC HK b1;clear b1
  by_cases hprs:prs=prs'
  case neg=>
   have HRr:Hid (r=false):=zH (HNx.out fun h=>hprs (congrArg Sto.Ob.prs h))
   rw[decide_eq_false hprs]
   go_wp2_with fail
   go_ret
   exact⟨by rw[HRr.out]<;>rfl,HK.out.b⟩
  case pos=>
  rw[decide_eq_true hprs]
  have c4:=HK.out.cell 0 rfl 4 (v:=.slice vA vn vc) rfl
  have d4:=HK.out.cell 1 rfl 4 (v:=.slice vA' vn' vc') rfl
  go_wp2_with fail
  refine(HV.out _ _ _ _ _ _ _ _ _ (HIx.out.v.later HK.out.b) (HIy.out.v.later HK.out.b)).mono ?_;rintro e w1 ⟨rfl,b1⟩
  clear c4 d4
  replace HK:=hkC HK b1;clear b1
  by_cases hvals:vals=vals'
  case neg=>
   have HRr:Hid (r=false):=zH (HNx.out fun h=>hvals (congrArg Sto.Ob.vals h))
   rw[decide_eq_false hvals]
   go_wp2_with fail
   go_ret
   exact⟨by rw[HRr.out]<;>rfl,HK.out.b⟩
  case pos=>
  rw[decide_eq_true hvals]
  have c5:=HK.out.cell 0 rfl 5 (v:=.slice rA rn rc) rfl
  have d5:=HK.out.cell 1 rfl 5 (v:=.slice rA' rn' rc') rfl
  go_wp2_with fail
  refine(HR.out _ _ _ _ _ _ _ _ _ (HIx.out.r.later HK.out.b) (HIy.out.r.later HK.out.b)).mono ?_;rintro e w1 ⟨rfl,b1⟩
  clear c5 d5
  replace HK:=hkC HK b1;clear b1
  by_cases hrefs:refs=refs'
  case neg=>
   have HRr:Hid (r=false):=zH (HNx.out fun h=>hrefs (congrArg Sto.Ob.refs h))
   rw[decide_eq_false hrefs]
   go_wp2_with fail
   go_ret
   exact⟨by rw[HRr.out]<;>rfl,HK.out.b⟩
  case pos=>
  rw[decide_eq_true hrefs]
  have HEk:=zH (HEx.out (by rw[hprs,hvals,hrefs]))
  go_wp2_with (first|refine wpList_exe (exec_add1 (j:=k) _ (by rfl) (by rfl) hk3) (by rfl) ?_)
  exact⟨⟨k+1,by omega,by go_num,zH (fun i hi=>by
   by_cases hik:i=k
   ·rw[hik];exact HEk.out
   ·exact HE.out i (by omega)),zH (HK.out.takeL 0)⟩,by simp[intOf];omega⟩
end
end Go.Proofs.Ytieoeendnccafaa
