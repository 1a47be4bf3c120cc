/- What phalanxref03.Next and Decode return: the item at a place, the items that bytes are. No condition but those named. -/
import Derived.Test.YtieoeendnccafaaGreatMTK
import Derived.Test.YtieoeendnccafaaGreatWireDecode
set_option linter.unusedSimpArgs false
set_option linter.unusedVariables false
set_option maxRecDepth 100000
set_option maxHeartbeats 25600000
namespace Go.Proofs.YtieoeendnccafaaGreat
section
open Go.RowKit
theorem index_at(s:ByteArray)(i:Nat)(z:Int)(hz:z=(i:Int))(c:UInt8)(h:s.data.toList[i]?=some c)(W:World):
  (Instr.index 9 (.string s) (.int .i64 z)).run Tryz.prog W=.ok (.int .u8 (c.toNat:Int)) W:=by
 subst hz
 have hl:i<s.data.toList.length:=(List.getElem?_eq_some_iff.1 h).1
 have hl':i<s.size:=by rw[Array.length_toList] at hl;exact hl
 rw[run_index_string W 9 s .i64 _ Tryz.underlying9,dif_pos ⟨by omega,by omega⟩]
 have e:((i:Int)).toNat=i:=by omega
 simp only[e]
 have h2:s.data[i]?=some c:=by rw[← Array.getElem?_toList];exact h
 have h3:(s[i]'hl')=c:=by
  have:s.data[i]?=some (s.data[i]'hl'):=Array.getElem?_eq_getElem hl'
  rw[this] at h2
  exact Option.some.inj h2
 rw[h3]
def IsNext(w:World)(x:Wire.It)(at':Int)(b:Bool)(e:Ending)(w':World):Prop:=e=.returned (.tuple #[.agg #[.int .i64 x.k,.int .i64 x.n,.string x.s],.int .i64 at',.bool b])∧Below w.heap.size w w'
def noItem:Wire.It:=⟨0,0,⟨#[]⟩⟩
theorem V_at(R:List UInt8)(i:Nat)(e:UInt8)(h:R[i]?=some e):Wire.V (R.take (i+1))=256*Wire.V (R.take i)+e.toNat:=V_next R i e h
theorem xor_unfold(u:Nat)(h:u<18446744073709551616):bits .xor .i64 ((u / 2:Nat):Int) (-((u%2:Nat):Int))=Wire.unfold u:=by
 unfold Wire.unfold
 by_cases h1:u%2=1
 ·rw[if_pos h1,h1]
  have h3:=congrArg BitVec.toNat (BitVec.allOnes_xor (x:=BitVec.ofNat 64 (u / 2)))
  rw[BitVec.toNat_xor,BitVec.toNat_not,BitVec.toNat_ofNat,Nat.mod_eq_of_lt (by omega),BitVec.toNat_allOnes] at h3
  show IntKind.i64.wrap ((BitVec.ofInt 64 ((u / 2:Nat):Int) ^^^ BitVec.ofInt 64 (-((1:Nat):Int))).toNat:Int)=_
  have e1:BitVec.ofInt 64 (-((1:Nat):Int))=BitVec.allOnes 64:=by decide
  rw[e1,BitVec.ofInt_natCast,BitVec.toNat_xor,BitVec.toNat_ofNat,Nat.mod_eq_of_lt (by omega),BitVec.toNat_allOnes,Nat.xor_comm,h3,IntKind.wrap_i64]
  omega
 ·have h0:u%2=0:=by omega
  rw[if_neg h1,h0]
  show IntKind.i64.wrap ((BitVec.ofInt 64 ((u / 2:Nat):Int) ^^^ BitVec.ofInt 64 (-((0:Nat):Int))).toNat:Int)=_
  have e1:BitVec.ofInt 64 (-((0:Nat):Int))=BitVec.ofNat 64 0:=by decide
  rw[e1,BitVec.ofInt_natCast,BitVec.toNat_xor,BitVec.toNat_ofNat,BitVec.toNat_ofNat,Nat.mod_eq_of_lt (by omega),IntKind.wrap_i64]
  simp
  omega
theorem place{s:ByteArray}{p:Nat}{c:UInt8}{r:List UInt8}(hp:s.data.toList.drop p=c::r):p+1+r.length=s.size∧∀j d,(c::r)[j]?=some d→s.data.toList[p+j]?=some d:=by
 refine⟨?_,fun j d h=>by rw[← hp,List.getElem?_drop] at h;exact h⟩
 have:=congrArg List.length hp
 rw[List.length_drop,Array.length_toList,List.length_cons] at this
 show _=s.data.size
 omega
theorem least_guard{s:ByteArray}{p k u:Nat}{c:UInt8}{r t:List UInt8}(hget:∀j d,(c::r)[j]?=some d→s.data.toList[p+j]?=some d)(ht:Wire.takeLeast k r=some (u,t)):
  k=0∨(0<k∧∃d:UInt8,((d.toNat:Int)==0)=false∧∀W:World,(Instr.index 9 (.string s) (.int .i64 ((p:Int)+1))).run Tryz.prog W=.ok (.int .u8 (d.toNat:Int)) W):=by
 rcases Nat.eq_zero_or_pos k with h|h
 ·exact .inl h
 ·refine .inr ⟨h,?_⟩
  unfold Wire.takeLeast at ht
  split at ht
  ·cases ht
  ·rename_i hk
   split at ht
   ·cases ht
   ·rename_i h2
    match r,hk with
    | [],hk=>simp at hk;omega
    | d::r',_=>
     refine⟨d,?_,index_at s (p+1) ((p:Int)+1) (by omega) d (hget 1 d rfl)⟩
     rw[beq_eq_false_iff_ne]
     intro e
     exact h2 ⟨h,UInt8.toNat_inj.1 (by simp;omega)⟩
theorem next_int(s:ByteArray)(p:Nat)(c:UInt8)(r t:List UInt8)(u:Nat)(w:World)(hs:s.size≤16384)(hp:s.data.toList.drop p=c::r)(hc:c.toNat≤8)(ht:Wire.takeLeast c.toNat r=some (u,t)):
  Calls Tryz.prog 105 #[.string s,.int .i64 p] w (IsNext w ⟨0,Wire.unfold u,⟨#[]⟩⟩ ((p+1+c.toNat:Nat):Int) true):=by
 obtain⟨hpl,hget⟩:=place hp
 have hix:=index_at s p p rfl c (hget 0 c rfl)
 have hg:=least_guard hget ht
 have hr:=Wire.takeLeast_some ht
 have hu:u<18446744073709551616:=Nat.lt_of_lt_of_le hr.2.2.1 (Nat.pow_le_pow_right (n:=256) (by decide) hc)
 have hkl:c.toNat≤r.length:=by omega
 have huV:u=Wire.V (r.take c.toNat):=by
  unfold Wire.takeLeast at ht
  split at ht
  ·cases ht
  ·split at ht
   ·cases ht
   ·cases ht;rfl
 have HUV:=zH huV
 have HG:Hid (∀i e,r[i]?=some e→s.data.toList[p+1+i]?=some e):=zH (fun i e h=>by
  have:=hget (i+1) e (by rw[List.getElem?_cons_succ];exact h)
  rwa [show p+(i+1)=p+1+i from by omega] at this)
 have HX:=zH (xor_unfold u hu)
 have HA:=zH (and_one u hu)
 have q1:decide (8<((c.toNat:Nat):Int))=false:=by rw[decide_eq_false_iff_not];omega
 have q2:decide ((p:Int)<0)=false:=by rw[decide_eq_false_iff_not];omega
 have q3:decide (16384<(s.size:Int))=false:=by rw[decide_eq_false_iff_not];omega
 clear hr ht huV hget hp
 generalize c.toNat=f at *
 have hg':¬0<f∨(0<f∧∃d:UInt8,((d.toNat:Int)==0)=false∧∀W:World,(Instr.index 9 (.string s) (.int .i64 ((p:Int)+1))).run Tryz.prog W=.ok (.int .u8 (d.toNat:Int)) W):=by
  rcases hg with h|h
  ·exact .inl (by omega)
  ·exact .inr h
 clear hg
 rcases hg' with hf0|⟨hf0,d,hd0,hix1⟩
 all_goals
  go_enter Tryz.func105,Tryz.ntmps105
  go_wp2_with fail
  go_loop [9,10] (fun vu vi=>∃i:Nat,i≤f∧vi=.int .i64 i∧vu=.int .u64 (Wire.V (r.take i):Nat)) (fun _ vi=>f-(intOf vi).toNat)
  case atStart=>exact⟨0,Nat.zero_le _,rfl,rfl⟩
  case round=>
   obtain⟨i,hi,rfl,rfl⟩:=hrel
   by_cases hlt:i<f
   ·obtain⟨e,he⟩:∃e,r[i]?=some e:=⟨_,List.getElem?_eq_getElem (by omega)⟩
    have hixi:=index_at s (p+1+i) ((p:Int)+1+(i:Int)) (by omega) e (HG.out i e he)
    have HV:=zH (V_at r i e he)
    have hx:=V_take_lt r i (by omega)
    have hel:=e.toNat_lt
    clear he
    generalize Wire.V (r.take i)=x at *
    generalize e.toNat=en at *
    go_wp2_with fail
    refine⟨⟨i+1,by omega,by go_num,?_⟩,by simp[intOf];omega⟩
    rw[HV.out]
    go_num
   ·obtain rfl:i=f:=by omega
    rw[← HUV.out]
    go_wp2_with fail
    have hX:bits BinOp.xor IntKind.i64 ((u:Int) / 2) (wrap64 (-wrap64 (bits BinOp.and IntKind.u64 (u:Int) 1)))=Wire.unfold u:=by
     rw[HA.out,← HX.out]
     congr 1
     unfold wrap64
     omega
    rw[hX]
    exact bodyPost_ret (v:=.tuple #[.agg #[.int .i64 0,.int .i64 (Wire.unfold u),.string ⟨#[]⟩],.int .i64 ((p:Int)+1+(i:Int)),.bool true]) (by simp[results,Tryz.results105,go_sem]) rfl ⟨rfl,by go_grown⟩
theorem extract_txt(s:ByteArray)(a u:Nat):s.extract a (a+u)=txt ((s.data.toList.drop a).take u):=by
 apply ByteArray.ext
 simp only[txt,ByteArray.data_extract]
 apply Array.ext'
 rw[Array.toList_extract,List.extract_eq_take_drop,show a+u-a=u from by omega]
theorem next_text(s:ByteArray)(p:Nat)(c:UInt8)(r t:List UInt8)(u:Nat)(w:World)(hs:s.size≤16384)(hp:s.data.toList.drop p=c::r)(hc:16≤c.toNat)(hc2:c.toNat≤18)(ht:Wire.takeLeast (c.toNat-16) r=some (u,t))(hut:u≤t.length):
  Calls Tryz.prog 105 #[.string s,.int .i64 p] w (IsNext w ⟨1,0,txt (t.take u)⟩ ((p+1+(c.toNat-16)+u:Nat):Int) true):=by
 obtain⟨hpl,hget⟩:=place hp
 have hix:=index_at s p p rfl c (hget 0 c rfl)
 have hg:=least_guard hget ht
 have hr:=Wire.takeLeast_some ht
 have hkl:c.toNat-16≤r.length:=by omega
 have hue:u+(p+1+(c.toNat-16))≤s.size:=by have:=hr.2.2.2;omega
 have huV:u=Wire.V (r.take (c.toNat-16))∧t=r.drop (c.toNat-16):=by
  unfold Wire.takeLeast at ht
  split at ht
  ·cases ht
  ·split at ht
   ·cases ht
   ·cases ht;exact⟨rfl,rfl⟩
 have HE:Hid (s.extract (p+1+(c.toNat-16)) (p+1+(c.toNat-16)+u)=txt (t.take u)):=zH (by
  rw[extract_txt,huV.2]
  congr 2
  rw[← List.drop_drop,← List.drop_drop,hp];rfl)
 have HUV:=zH huV.1
 have HG:Hid (∀i e,r[i]?=some e→s.data.toList[p+1+i]?=some e):=zH (fun i e h=>by
  have:=hget (i+1) e (by rw[List.getElem?_cons_succ];exact h)
  rwa [show p+(i+1)=p+1+i from by omega] at this)
 have hsub:((c.toNat:Nat):Int)-16=((c.toNat-16:Nat):Int):=by omega
 have hc3:c.toNat-16≤2:=by omega
 have q1:decide (8<((c.toNat-16:Nat):Int))=false:=by rw[decide_eq_false_iff_not];omega
 have q2:decide ((p:Int)<0)=false:=by rw[decide_eq_false_iff_not];omega
 have q3:decide (16384<(s.size:Int))=false:=by rw[decide_eq_false_iff_not];omega
 clear hr ht huV hget hp hut
 generalize txt (t.take u)=tt at *
 generalize c.toNat-16=f at *
 generalize c.toNat=g at *
 have hg':¬0<f∨(0<f∧∃d:UInt8,((d.toNat:Int)==0)=false∧∀W:World,(Instr.index 9 (.string s) (.int .i64 ((p:Int)+1))).run Tryz.prog W=.ok (.int .u8 (d.toNat:Int)) W):=by
  rcases hg with h|h
  ·exact .inl (by omega)
  ·exact .inr h
 clear hg
 rcases hg' with hf0|⟨hf0,d,hd0,hix1⟩
 all_goals
  go_enter Tryz.func105,Tryz.ntmps105
  go_wp2_with fail
  go_loop [9,10] (fun vu vi=>∃i:Nat,i≤f∧vi=.int .i64 i∧vu=.int .u64 (Wire.V (r.take i):Nat)) (fun _ vi=>f-(intOf vi).toNat)
  case atStart=>exact⟨0,Nat.zero_le _,rfl,rfl⟩
  case round=>
   obtain⟨i,hi,rfl,rfl⟩:=hrel
   by_cases hlt:i<f
   ·obtain⟨e,he⟩:∃e,r[i]?=some e:=⟨_,List.getElem?_eq_getElem (by omega)⟩
    have hixi:=index_at s (p+1+i) ((p:Int)+1+(i:Int)) (by omega) e (HG.out i e he)
    have HV:=zH (V_at r i e he)
    have hx:=V_take_lt r i (by omega)
    have hel:=e.toNat_lt
    clear he
    generalize Wire.V (r.take i)=x at *
    generalize e.toNat=en at *
    go_wp2_with fail
    refine⟨⟨i+1,by omega,by go_num,?_⟩,by simp[intOf];omega⟩
    rw[HV.out]
    go_num
   ·obtain rfl:i=f:=by omega
    rw[← HUV.out]
    go_wp2_with fail
    rw[HE.out]
    exact bodyPost_ret (v:=.tuple #[.agg #[.int .i64 1,.int .i64 0,.string tt],.int .i64 ((p:Int)+1+(i:Int)+(u:Int)),.bool true]) (by simp[results,Tryz.results105,go_sem]) rfl ⟨rfl,by go_grown⟩
theorem next_over(s:ByteArray)(p:Nat)(c:UInt8)(r t:List UInt8)(u:Nat)(w:World)(hs:s.size≤16384)(hp:s.data.toList.drop p=c::r)(hc:16≤c.toNat)(hc2:c.toNat≤18)(ht:Wire.takeLeast (c.toNat-16) r=some (u,t))(hut:t.length<u):
  Calls Tryz.prog 105 #[.string s,.int .i64 p] w (IsNext w noItem 0 false):=by
 obtain⟨hpl,hget⟩:=place hp
 have hix:=index_at s p p rfl c (hget 0 c rfl)
 have hg:=least_guard hget ht
 have hr:=Wire.takeLeast_some ht
 have hkl:c.toNat-16≤r.length:=by omega
 have hue:s.size<u+(p+1+(c.toNat-16)):=by have:=hr.2.2.2;omega
 have hu:u<65536:=Nat.lt_of_lt_of_le hr.2.2.1 (Nat.pow_le_pow_right (n:=256) (by decide) (show c.toNat-16≤2 by omega))
 have huV:u=Wire.V (r.take (c.toNat-16))∧t=r.drop (c.toNat-16):=by
  unfold Wire.takeLeast at ht
  split at ht
  ·cases ht
  ·split at ht
   ·cases ht
   ·cases ht;exact⟨rfl,rfl⟩
 have HUV:=zH huV.1
 have HG:Hid (∀i e,r[i]?=some e→s.data.toList[p+1+i]?=some e):=zH (fun i e h=>by
  have:=hget (i+1) e (by rw[List.getElem?_cons_succ];exact h)
  rwa [show p+(i+1)=p+1+i from by omega] at this)
 have hsub:((c.toNat:Nat):Int)-16=((c.toNat-16:Nat):Int):=by omega
 have hc3:c.toNat-16≤2:=by omega
 have q1:decide (8<((c.toNat-16:Nat):Int))=false:=by rw[decide_eq_false_iff_not];omega
 have q2:decide ((p:Int)<0)=false:=by rw[decide_eq_false_iff_not];omega
 have q3:decide (16384<(s.size:Int))=false:=by rw[decide_eq_false_iff_not];omega
 clear hr ht huV hget hp hut
 generalize c.toNat-16=f at *
 generalize c.toNat=g at *
 have hg':¬0<f∨(0<f∧∃d:UInt8,((d.toNat:Int)==0)=false∧∀W:World,(Instr.index 9 (.string s) (.int .i64 ((p:Int)+1))).run Tryz.prog W=.ok (.int .u8 (d.toNat:Int)) W):=by
  rcases hg with h|h
  ·exact .inl (by omega)
  ·exact .inr h
 clear hg
 rcases hg' with hf0|⟨hf0,d,hd0,hix1⟩
 all_goals
  go_enter Tryz.func105,Tryz.ntmps105
  go_wp2_with fail
  go_loop [9,10] (fun vu vi=>∃i:Nat,i≤f∧vi=.int .i64 i∧vu=.int .u64 (Wire.V (r.take i):Nat)) (fun _ vi=>f-(intOf vi).toNat)
  case atStart=>exact⟨0,Nat.zero_le _,rfl,rfl⟩
  case round=>
   obtain⟨i,hi,rfl,rfl⟩:=hrel
   by_cases hlt:i<f
   ·obtain⟨e,he⟩:∃e,r[i]?=some e:=⟨_,List.getElem?_eq_getElem (by omega)⟩
    have hixi:=index_at s (p+1+i) ((p:Int)+1+(i:Int)) (by omega) e (HG.out i e he)
    have HV:=zH (V_at r i e he)
    have hx:=V_take_lt r i (by omega)
    have hel:=e.toNat_lt
    clear he
    generalize Wire.V (r.take i)=x at *
    generalize e.toNat=en at *
    go_wp2_with fail
    refine⟨⟨i+1,by omega,by go_num,?_⟩,by simp[intOf];omega⟩
    rw[HV.out]
    go_num
   ·obtain rfl:i=f:=by omega
    rw[← HUV.out]
    go_wp2_with fail
    exact bodyPost_ret (v:=.tuple #[.agg #[.int .i64 0,.int .i64 0,.string ⟨#[]⟩],.int .i64 0,.bool false]) (by simp[results,Tryz.results105,go_sem]) rfl ⟨rfl,by go_grown⟩
theorem next_none(s:ByteArray)(p:Nat)(c:UInt8)(r:List UInt8)(w:World)(hs:s.size≤16384)(hp:s.data.toList.drop p=c::r)
  (hc:(9≤c.toNat∧c.toNat≤15)∨(24<c.toNat)∨(18<c.toNat∧c.toNat≤24)∨(c.toNat≤8∧r.length<c.toNat)∨(16≤c.toNat∧c.toNat≤18∧r.length<c.toNat-16)
   ∨(0<c.toNat∧c.toNat≤8∧c.toNat≤r.length∧r.headD 0=0)∨(16<c.toNat∧c.toNat≤18∧c.toNat-16≤r.length∧r.headD 0=0)) :
  Calls Tryz.prog 105 #[.string s,.int .i64 p] w (IsNext w noItem 0 false):=by
 obtain⟨hpl,hget⟩:=place hp
 have hix:=index_at s p p rfl c (hget 0 c rfl)
 have hz:0<r.length→r.headD 0=0→∀W:World,(Instr.index 9 (.string s) (.int .i64 ((p:Int)+1))).run Tryz.prog W=.ok (.int .u8 0) W:=fun h1 h2=>by
  match r,h1,h2 with
  | d::r',_,h2=>
   have h3:d=0:=h2
   subst h3
   exact index_at s (p+1) ((p:Int)+1) (by omega) 0 (hget 1 0 rfl)
 have q2:decide ((p:Int)<0)=false:=by rw[decide_eq_false_iff_not];omega
 have q3:decide (16384<(s.size:Int))=false:=by rw[decide_eq_false_iff_not];omega
 have hcl:=c.toNat_lt
 clear hget hp
 generalize c.toNat=g at *
 rcases hc with ⟨a,b⟩|a|⟨a,b⟩|⟨a,b⟩|⟨a,b,d⟩|⟨a,b,d,e⟩|⟨a,b,d,e⟩
 all_goals
  try (have hix1:=hz (by omega) e)
  clear hz
  go_enter Tryz.func105,Tryz.ntmps105
  go_wp2_with fail
  exact bodyPost_ret (v:=.tuple #[.agg #[.int .i64 0,.int .i64 0,.string ⟨#[]⟩],.int .i64 0,.bool false]) (by simp[results,Tryz.results105,go_sem]) rfl ⟨rfl,by go_grown⟩
end
end Go.Proofs.YtieoeendnccafaaGreat
