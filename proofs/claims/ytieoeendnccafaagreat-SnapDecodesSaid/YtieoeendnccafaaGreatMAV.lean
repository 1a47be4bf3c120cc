/- What wire.putLeast and wire.put leave: a row of bytes of the call's own, and behind it a number's least bytes, an item's bytes. No condition but those named. -/
import Derived.Test.YtieoeendnccafaaGreatMTK
import Derived.Test.YtieoeendnccafaaGreatMAU
import Derived.Test.YtieoeendnccafaaGreatMAC
import Derived.Deep.RegionHeld3
set_option linter.unusedSimpArgs false
set_option linter.unusedVariables false
set_option maxRecDepth 100000
set_option maxHeartbeats 25600000
namespace Go.Proofs.YtieoeendnccafaaGreat
section
open Go.RowKit
def Row(base:Nat)(w:World)(v:Value)(l:List UInt8):Prop:=w.ownsRow base 5 1 v l.length (Lib.byteCells l)
def IsRow(base:Nat)(w:World)(l:List UInt8)(e:Ending)(w':World):Prop:=∃v,e=.returned v∧Row base w' v l∧Turns base 5 w w'
theorem Row.alloc{base:Nat}{w:World}{v:Value}{l:List UInt8}(h:Row base w v l)(o:Obj):Row base (w.alloc o) v l:=World.ownsRow.alloc h o
theorem Row.drewN{base:Nat}{w:World}{v:Value}{l:List UInt8}(h:Row base w v l)(n:Nat):Row base (w.drewN n) v l:=h
theorem row_next{base:Nat}{w:World}{v:Value}{l:List UInt8}{n:Int}{c:UInt8}(hn:n=(c.toNat:Int))(h:w.ownsRow base 5 1 v (l.length+1) (Lib.byteCells l++[.int .u8 n])):Row base w v (l++[c]):=by
 subst hn
 unfold Row
 rw[List.length_append,Lib.byteCells_append]
 exact h
theorem lead_next(m u n k:Nat)(hn:Wire.nb u=n)(hk:k<n):(Wire.lead m u).take (k+2)=(Wire.lead m u).take (k+1)++[UInt8.ofNat (u / 256 ^ (n-1-k))]:=by
 subst hn
 unfold Wire.lead
 rw[List.take_succ_cons,List.take_succ_cons,Wire.B_take u _ k hk]
 rfl
theorem lead_first(m u:Nat):(Wire.lead m u).take 1=[UInt8.ofNat (m+Wire.nb u)]:=rfl
theorem lead_whole(m u n:Nat)(hn:Wire.nb u=n):(Wire.lead m u).take (n+1)=Wire.lead m u:=by
 subst hn
 exact List.take_of_length_le (by rw[Wire.lead_length];exact Nat.le_refl _)
theorem byte_shift(u j:Nat):(u:Int) / 2 ^ (8*j)%256=((UInt8.ofNat (u / 256 ^ j)).toNat:Int):=by
 have e:(2:Int) ^ (8*j)=((256 ^ j:Nat):Int):=by
  rw[Int.pow_mul];simp
 rw[e,UInt8.toNat_ofNat']
 omega
theorem byte_nat(x:Nat)(h:x<256):(x:Int)=((UInt8.ofNat x).toNat:Int):=by rw[Wire.ofNat_toNat_lt h]
theorem putLeast_any(base:Nat)(v:Value)(l:List UInt8)(m u:Nat)(w:World)(hm:m≤16)(hu:u<18446744073709551616)(hl:l.length≤140737488355328)(hbase:base≤w.heap.size)(hrow:Row base w v l):
  Calls Tryz.prog 154 #[v,.int .i64 m,.int .u64 u] w (IsRow base w (l++Wire.lead m u)):=by
 obtain⟨i0,hi,hz0,hz1,hz2⟩:=info_parts info_u8
 have hn:=Wire.nb8 hu
 have HL:=zH (fun w=>len_any u w hu)
 have HR:=zH hrow
 have H1:=zH (lead_first m u)
 have HN:=zH (lead_next m u (Wire.nb u))
 have HW:=zH (lead_whole m u (Wire.nb u) rfl)
 generalize hnn:Wire.nb u=n at *
 generalize Wire.lead m u=L at *
 have HNN:=zH hnn
 clear hrow hnn
 go_enter Tryz.func154,Tryz.ntmps154
 go_wp2_with fail
 refine(HL.out _).mono ?_;rintro e w' ⟨b,hb,hnb,rfl,rfl⟩
 have hq:((b:Int)+7) / 8=((n:Nat):Int):=by omega
 clear hnb
 go_wp2_with (at_builtin;refine wpList_append_src _ rfl (.tmp 13) (.tmp 18) 128 128 rfl base 5 i0 (.int .u8 0) 1 1 Tryz.underlying128 hi hz0 hz1 hz2 rfl (by decide) (by decide) v l.length (Lib.byteCells l) rfl (HR.out.alloc _) 1 [.int .u8 ((m:Int)+(n:Nat))] (.slice (some ⟨w.heap.size,0,none⟩) 1 1) rfl (Src.ofSlice _ Tryz.underlying128 _ _ _ _ rfl (cell_one_new _ _ _) (by simp[Value.oneCell'])) ?c1 ?c2 ?c3 ?next)
 case c1=>unfold maxLen;omega
 case c2=>omega
 case c3=>simp;omega
 clear hq
 intro v1 w1 hown hg _
 have R:=row_next (c:=UInt8.ofNat (m+n)) (by rw[← byte_nat _ (by omega)];omega) hown
 have hb1:base≤w1.heap.size:=by have:=hg.size;simp at this;omega
 have T:=(((Turns.refl base 5 w).alloc hbase _).grown (by simp;omega) (HR.out.alloc _) hg)
 have HR1:=zH R
 have HT1:=zH T
 clear hown hg R T
 go_wp2_with fail
 go_loopw [0,21] (fun vb vi wr=>∃k:Nat,k≤n∧vi=.int .i64 k∧Hid (Row base wr vb (l++L.take (k+1)))∧Hid (Turns base 5 w wr)∧base≤wr.heap.size) (fun _ vi _=>n-(intOf vi).toNat)
 case atStart=>exact⟨0,Nat.zero_le _,rfl,by rw[H1.out];exact HR1,HT1,hb1⟩
 case round=>
  obtain⟨k,hk,rfl,HRk,HTk,hbk⟩:=hrel
  clear HR1 HT1 hb1
  by_cases hlt:k<n
  ·have hlen:(L.take (k+1)).length≤9:=by
    have:=List.length_take_le (k+1) L
    omega
   have hrl:(l++L.take (k+1)).length≤140737488355337:=by rw[List.length_append];omega
   clear hlen
   generalize hxs:l++L.take (k+1)=xs at *
   have HXS:=zH hxs
   clear hxs
   go_wp2_with (at_builtin;refine wpList_append_src _ rfl (.tmp 24) (.tmp 33) 128 128 rfl base 5 i0 (.int .u8 0) 1 1 Tryz.underlying128 hi hz0 hz1 hz2 rfl (by decide) (by decide) _ xs.length (Lib.byteCells xs) rfl (HRk.out.alloc _) 1 [.int .u8 ((u:Int) / 2 ^ (8*(n-1-k))%256)] (.slice (some ⟨wr.heap.size,0,none⟩) 1 1) rfl (Src.ofSlice _ Tryz.underlying128 _ _ _ _ rfl (cell_one_new _ _ _) (by simp[Value.oneCell'])) ?d1 ?d2 ?d3 ?dnext)
   case d1=>unfold maxLen;omega
   case d2=>omega
   case d3=>simp;omega
   intro v2 w2 hown hg _
   have R:=row_next (c:=UInt8.ofNat (u / 256 ^ (n-1-k))) (byte_shift u (n-1-k)) hown
   have hb2:base≤w2.heap.size:=by have:=hg.size;simp at this;omega
   have T:=((HTk.out.alloc hbk _).grown (by simp;omega) (HRk.out.alloc _) hg)
   have HR2:Hid (Row base w2 v2 (l++L.take (k+2))):=zH (by
    rw[HN.out k trivial hlt,← List.append_assoc,HXS.out];exact R)
   have HT2:=zH T
   clear hown hg R T HRk HTk
   go_wp2_with fail
   exact⟨⟨k+1,by omega,by go_num,HR2,HT2,hb2⟩,by simp[intOf];omega⟩
  ·obtain rfl:k=n:=by omega
   go_wp2_with fail
   go_ret
   exact⟨_,rfl,by rw[HW.out] at HRk;exact HRk.out,HTk.out⟩
theorem one_int(n:Int)(s:ByteArray):Wire.one ⟨0,n,s⟩=Wire.lead 0 (Wire.fold n):=rfl
theorem one_text(k n:Int)(s:ByteArray)(hk:(k==0)=false):Wire.one ⟨k,n,s⟩=Wire.lead 16 s.size++s.data.toList:=by
 have hk':¬k=0:=by simpa using hk
 unfold Wire.one
 rw[if_neg hk']
theorem row_text{base:Nat}{w:World}{v:Value}{l:List UInt8}{s:ByteArray}(h:w.ownsRow base 5 1 v (l.length+s.size) (Lib.byteCells l++byteCells s)):Row base w v (l++s.data.toList):=by
 unfold Row
 rw[List.length_append,Lib.byteCells_append,Array.length_toList]
 exact h
theorem put_int(base:Nat)(v:Value)(l:List UInt8)(n:Int)(s:ByteArray)(w:World)(h1 : -9223372036854775808≤n)(h2:n≤9223372036854775807)(hl:l.length≤140737488355328)(hbase:base≤w.heap.size)(hrow:Row base w v l):
  Calls Tryz.prog 91 #[v,.agg #[.int .i64 0,.int .i64 n,.string s]] w (IsRow base w (l++Wire.one ⟨0,n,s⟩)):=by
 have HF:=zH (fun w=>fold_any n w h1 h2)
 have hlt:=Wire.fold_lt h1 h2
 have HP:=zH (putLeast_any base v l 0 (Wire.fold n) (w.alloc (.cells #[.int .i64 0,.int .i64 n,.string s] 87)) (by decide) hlt hl (by simp;omega) (hrow.alloc _))
 have HT:Hid (Turns base 5 w (w.alloc (.cells #[.int .i64 0,.int .i64 n,.string s] 87))):=zH ((Turns.refl base 5 w).alloc hbase _)
 rw[one_int]
 generalize Wire.fold n=u at *
 generalize l++Wire.lead 0 u=L at *
 clear hrow
 go_enter Tryz.func91,Tryz.ntmps91
 go_wp2_with fail
 refine(HF.out _).mono ?_;rintro e w' ⟨rfl,rfl⟩
 go_wp2_with fail
 refine(HP.out).mono ?_;rintro e w1 ⟨v1,rfl,hr,ht⟩
 have HR:=zH hr
 have HT1:=zH (HT.out.trans ht)
 clear hr ht
 go_wp2_with fail
 go_ret
 exact⟨_,rfl,HR.out,HT1.out⟩
theorem put_text(base:Nat)(v:Value)(l:List UInt8)(k n:Int)(s:ByteArray)(w:World)(hk:(k==0)=false)(hs:s.size≤140737488351232)(hl:l.length≤65536)(hbase:base≤w.heap.size)(hrow:Row base w v l):
  Calls Tryz.prog 91 #[v,.agg #[.int .i64 k,.int .i64 n,.string s]] w (IsRow base w (l++Wire.one ⟨k,n,s⟩)):=by
 obtain⟨i0,hi,hz0,hz1,hz2⟩:=info_parts info_u8
 have hlen:(l++Wire.lead 16 s.size).length≤65545:=by
  rw[List.length_append,Wire.lead_length]
  have:=Wire.nb8 (u:=s.size) (by omega)
  omega
 have HP:Hid (Calls Tryz.prog 154 #[v,.int .i64 16,.int .u64 s.size] (w.alloc (.cells #[.int .i64 k,.int .i64 n,.string s] 87)).drew
   fun e w'=>∃v1,e=.returned v1∧Row base w' v1 (l++Wire.lead 16 s.size)∧Hid (Turns base 5 (w.alloc (.cells #[.int .i64 k,.int .i64 n,.string s] 87)) w')∧w'.cell? ⟨w.heap.size,2,none⟩=some (.string s)∧base≤w'.heap.size):=zH
  ((putLeast_any base v l 16 s.size (w.alloc (.cells #[.int .i64 k,.int .i64 n,.string s] 87)).drew (by decide) (by omega) (by omega) (by simp;omega) (hrow.alloc _)).mono
   fun e w' ⟨v1,he,hr,ht⟩=>⟨v1,he,hr,zH (((Turns.refl base 5 _).drew).trans ht),ht.cell (t':=87) (by decide) (heap_alloc_new w _) 2,by have:=ht.size;simp at this;omega⟩)
 rw[one_text k n s hk,← List.append_assoc]
 generalize l++Wire.lead 16 s.size=L at *
 have hwrap:IntKind.u64.wrap (s.size:Int)=(s.size:Int):=IntWalk.u64_in _ (by omega)
 clear hrow
 go_enter Tryz.func91,Tryz.ntmps91
 go_wp2_with fail
 go_region_held3 (fun w'=>w'.cell? ⟨w.heap.size,2,none⟩=some (.string s))
  (first|assumption|go_keep)
  (first
   | (go_simp;go_at_call 154;refine(HP.out).mono ?_;rintro e w1 ⟨v1,rfl,hr,ht,hc,hbs⟩)
   | (refine step_append_src _ (by rfl) (.tmp 18) (.tmp 20) 128 9 (by rfl) base 5 i0 (.int .u8 0) 1 1 Tryz.underlying128 hi hz0 hz1 hz2 rfl (by decide) (by decide) v1 L.length (Lib.byteCells L) (by rfl) hr s.size (byteCells s) (.string s) (by rfl) (Src.ofString _ Tryz.underlying9 s) (by unfold maxLen;omega) (by omega) hbs ?_;intro v2 w2 hown hg _;have ht2:=zH (ht.out.grown hbs hr hg);have hc2:=ht2.out.cell (t':=87) (by decide) (heap_alloc_new w _) 2))
 have HR:=zH (row_text hown)
 clear hown hg hr
 go_wp2_with fail
 go_ret
 exact⟨_,rfl,HR.out,((Turns.refl base 5 w).alloc hbase _).trans ht2.out⟩
end
end Go.Proofs.YtieoeendnccafaaGreat
