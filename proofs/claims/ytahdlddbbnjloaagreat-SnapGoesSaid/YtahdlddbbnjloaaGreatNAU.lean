/- What wire.putLeast and wire.put leave: a row of bytes of the call's own, and behind it a number's least bytes, an item's bytes. No condition but those named. -/
import Derived.Test.YtahdlddbbnjloaaGreatNAT
import Derived.Test.YtahdlddbbnjloaaGreatNAD
set_option linter.unusedSimpArgs false
set_option linter.unusedVariables false
set_option maxRecDepth 100000
set_option maxHeartbeats 25600000
open Go.RowKit
namespace Go.Proofs.YtahdlddbbnjloaaGreat
open _root_.Go.Proofs.Tryz
section
def Row(base:Nat)(w:World)(v:Value)(l:List UInt8):Prop:=w.ownsRow base 5 1 v l.length (Lib.byteCells l)
def OT(base:Nat)(w:World)(l:List UInt8)(e:Ending)(w':World):Prop:=∃v,e=.returned v∧Row base w' v l∧Turns base 5 w w'
theorem Row.alloc{base:Nat}{w:World}{v:Value}{l:List UInt8}(h:Row base w v l)(o:Obj):Row base (w.alloc o) v l:=World.ownsRow.alloc h o
theorem Row.drewN{base:Nat}{w:World}{v:Value}{l:List UInt8}(h:Row base w v l)(n:Nat):Row base (w.drewN n) v l:=h
theorem Gq{base:Nat}{w:World}{v:Value}{l:List UInt8}{n:Int}{c:UInt8}(hn:n=(c.toNat:Int))(h:w.ownsRow base 5 1 v (l.length+1) (Lib.byteCells l++[.int .u8 n])):Row base w v (l++[c]):=by
 subst hn;unfold Row;rw[List.length_append,Lib.byteCells_append];exact h
theorem QJ(m u n k:Nat)(hn:aF.nb u=n)(hk:k<n):(aF.lead m u).take (k+2)=(aF.lead m u).take (k+1)++[UInt8.ofNat (u / 256 ^ (n-1-k))]:=by
 subst hn;unfold aF.lead;rw[List.take_succ_cons,List.take_succ_cons,aF.agK u _ k hk]
 rfl
theorem LH(m u:Nat):(aF.lead m u).take 1=[UInt8.ofNat (m+aF.nb u)]:=rfl
theorem LG(m u n:Nat)(hn:aF.nb u=n):(aF.lead m u).take (n+1)=aF.lead m u:=by
 subst hn;exact List.take_of_length_le (by rw[aF.gZ];exact Nat.le_refl _)
theorem MF(u j:Nat):(u:Int) / 2 ^ (8*j)%256=((UInt8.ofNat (u / 256 ^ j)).toNat:Int):=by
 have e:(2:Int) ^ (8*j)=((256 ^ j:Nat):Int):=by
  rw[Int.pow_mul];simp
 rw[e,UInt8.toNat_ofNat'];omega
theorem Xq{x:Nat}(h:x<256):(x:Int)=((UInt8.ofNat x).toNat:Int):=by rw[aF.mU h]
theorem vQ(base:Nat)(v:Value)(l:List UInt8)(m u:Nat)(w:World)(hu:u<18446744073709551616)(hl:l.length≤140737488355328)(hrow:Row base w v l)(hm:m≤16:=by decide)(hbase:base≤w.heap.size:=by simp;omega):
  Calls prog 60 #[v,.int .i64 m,.int .u64 u] w (OT base w (l++aF.lead m u)):=by
 obtain⟨i0,hi,hz0,hz1,hz2⟩:=info_parts Fb;have hn:=aF.nb8 hu;have HL:=zH (fun w=>aak u w hu);have HR:=zH hrow;have H1:=zH (LH m u);have HN:=zH (QJ m u (aF.nb u));have HW:=zH (LG m u (aF.nb u) rfl);generalize hnn:aF.nb u=n at *
 generalize aF.lead m u=L at *
 have HNN:=zH hnn;clear hrow hnn;go_enter func60,ntmps60;go_wp2_with fail;refine(HL.out _).mono ?_;rintro e w' ⟨b,hb,hnb,rfl,rfl⟩;have hq:((b:Int)+7) / 8=((n:Nat):Int):=by omega
 clear hnb;go_wp2_with (at_builtin;refine nC _ rfl (.tmp 13) (.tmp 18) 83 83 rfl base 5 i0 (.int .u8 0) 1 1 underlying83 hi hz0 hz1 hz2 rfl v l.length (Lib.byteCells l) rfl (HR.out.alloc _) 1 [.int .u8 ((m:Int)+(n:Nat))] (.slice (some ⟨w.heap.size,0,none⟩) 1 1) rfl (Src.ofSlice _ underlying83 _ _ _ _ rfl (cell_one_new _ _ _) (by simp[Value.oneCell'])) ?c1 ?c2 ?c3 ?next)
 case c1=>unfold maxLen;omega
 case c2=>omega
 case c3=>simp;omega
 clear hq;intro v1 w1 hown hg _;have R:=Gq (c:=UInt8.ofNat (m+n)) (by rw[← Xq (by omega)];omega) hown;have hb1:base≤w1.heap.size:=by have:=hg.size;simp at this;omega
 have T:=(((Turns.refl base 5 w).alloc hbase _).grown (by simp;omega) (HR.out.alloc _) hg);have HR1:=zH R;have HT1:=zH T;clear hown hg R T;go_wp2_with fail;go_loopw [0,21] (fun vb vi wr=>∃k:Nat,k≤n∧vi=.int .i64 k∧Hid (Row base wr vb (l++L.take (k+1)))∧Hid (Turns base 5 w wr)∧base≤wr.heap.size) (fun _ vi _=>n-(intOf vi).toNat)
 case atStart=>exact⟨0,Nat.zero_le _,rfl,by rw[H1.out];exact HR1,HT1,hb1⟩
 case round=>
  obtain⟨k,hk,rfl,HRk,MS,hbk⟩:=hrel;clear HR1 HT1 hb1;by_cases hlt:k<n
  ·have hlen:(L.take (k+1)).length≤9:=by
    have:=List.length_take_le (k+1) L;omega
   have hrl:(l++L.take (k+1)).length≤140737488355337:=by rw[List.length_append];omega
   clear hlen;generalize hxs:l++L.take (k+1)=xs at *
   have HXS:=zH hxs;clear hxs;go_wp2_with (at_builtin;refine nC _ rfl (.tmp 24) (.tmp 33) 83 83 rfl base 5 i0 (.int .u8 0) 1 1 underlying83 hi hz0 hz1 hz2 rfl _ xs.length (Lib.byteCells xs) rfl (HRk.out.alloc _) 1 [.int .u8 ((u:Int) / 2 ^ (8*(n-1-k))%256)] (.slice (some ⟨wr.heap.size,0,none⟩) 1 1) rfl (Src.ofSlice _ underlying83 _ _ _ _ rfl (cell_one_new _ _ _) (by simp[Value.oneCell'])) ?d1 ?d2 ?d3 ?amH)
   case d1=>unfold maxLen;omega
   case d2=>omega
   case d3=>simp;omega
   intro v2 w2 hown hg _;have R:=Gq (c:=UInt8.ofNat (u / 256 ^ (n-1-k))) (MF u (n-1-k)) hown;have hb2:base≤w2.heap.size:=by have:=hg.size;simp at this;omega
   have T:=((MS.out.alloc hbk _).grown (by simp;omega) (HRk.out.alloc _) hg)
   have HR2:Hid (Row base w2 v2 (l++L.take (k+2))):=zH (by
    rw[HN.out k trivial hlt,← List.append_assoc,HXS.out];exact R)
   have HT2:=zH T;clear hown hg R T HRk MS;go_wp2_with fail;exact⟨⟨k+1,by omega,by go_num,HR2,HT2,hb2⟩,by simp[intOf];omega⟩
  ·obtain rfl:k=n:=by omega
   go_wp2_with fail;go_ret;exact⟨_,rfl,by rw[HW.out] at HRk;exact HRk.out,MS.out⟩
theorem ZN(n:Int)(s:ByteArray):aF.one ⟨0,n,s⟩=aF.lead 0 (aF.fold n):=rfl
theorem UY(k n:Int)(s:ByteArray)(hk:(k==0)=false):aF.one ⟨k,n,s⟩=aF.lead 16 s.size++s.data.toList:=by
 have hk':¬k=0:=by simpa using hk
 unfold aF.one;rw[if_neg hk']
theorem TV{base:Nat}{w:World}{v:Value}{l:List UInt8}{s:ByteArray}(h:w.ownsRow base 5 1 v (l.length+s.size) (Lib.byteCells l++byteCells s)):Row base w v (l++s.data.toList):=by
 unfold Row;rw[List.length_append,Lib.byteCells_append,Array.length_toList];exact h
theorem Zy(base:Nat)(v:Value)(l:List UInt8)(n:Int)(s:ByteArray)(w:World)(h1 : -9223372036854775808≤n)(h2:n≤9223372036854775807)(hl:l.length≤140737488355328)(hbase:base≤w.heap.size)(hrow:Row base w v l):
  Calls prog 28 #[v,.agg #[.int .i64 0,.int .i64 n,.string s]] w (OT base w (l++aF.one ⟨0,n,s⟩)):=by
 have HF:=zH (fun w=>Ww n w h1 h2);have hlt:=aF.Fp h1 h2;have HP:=zH (vQ base v l 0 (aF.fold n) (w.alloc (.cells #[.int .i64 0,.int .i64 n,.string s] 81)) hlt hl (hrow.alloc _));have HT:Hid (Turns base 5 w (w.alloc (.cells #[.int .i64 0,.int .i64 n,.string s] 81))):=zH ((Turns.refl base 5 w).alloc hbase _);rw[ZN];generalize aF.fold n=u at *
 generalize l++aF.lead 0 u=L at *
 clear hrow;go_enter func28,ntmps28;go_wp2_with fail;refine(HF.out _).mono ?_;rintro e w' ⟨rfl,rfl⟩;go_wp2_with fail;refine(HP.out).mono ?_;rintro e w1 ⟨v1,rfl,hr,ht⟩;have HR:=zH hr;have HT1:=zH (HT.out.trans ht);clear hr ht;go_wp2_with fail;go_ret;exact⟨_,rfl,HR.out,HT1.out⟩
theorem UD(base:Nat)(v:Value)(l:List UInt8)(k n:Int)(s:ByteArray)(w:World)(hk:(k==0)=false)(hs:s.size≤140737488351232)(hl:l.length≤65536)(hbase:base≤w.heap.size)(hrow:Row base w v l):
  Calls prog 28 #[v,.agg #[.int .i64 k,.int .i64 n,.string s]] w (OT base w (l++aF.one ⟨k,n,s⟩)):=by
 obtain⟨i0,hi,hz0,hz1,hz2⟩:=info_parts Fb
 have hlen:(l++aF.lead 16 s.size).length≤65545:=by
  rw[List.length_append,aF.gZ];have:=aF.nb8 (u:=s.size) (by omega);omega
 have HP:Hid (Calls prog 60 #[v,.int .i64 16,.int .u64 s.size] (w.alloc (.cells #[.int .i64 k,.int .i64 n,.string s] 81)).drew
   fun e w'=>∃v1,e=.returned v1∧Row base w' v1 (l++aF.lead 16 s.size)∧Hid (Turns base 5 (w.alloc (.cells #[.int .i64 k,.int .i64 n,.string s] 81)) w')∧w'.cell? ⟨w.heap.size,2,none⟩=some (.string s)∧base≤w'.heap.size):=zH
  ((vQ base v l 16 s.size (w.alloc (.cells #[.int .i64 k,.int .i64 n,.string s] 81)).drew (by omega) (by omega) (hrow.alloc _)).mono
   fun e w' ⟨v1,he,hr,ht⟩=>⟨v1,he,hr,zH (((Turns.refl base 5 _).drew).trans ht),ht.cell (t':=81) (by decide) (heap_alloc_new w _) 2,by have:=ht.size;simp at this;omega⟩)
 rw[UY k n s hk,← List.append_assoc];generalize l++aF.lead 16 s.size=L at *
 have hwrap:IntKind.u64.wrap (s.size:Int)=(s.size:Int):=IntWalk.u64_in _ (by omega);clear hrow;go_enter func28,ntmps28;go_wp2_with fail
 go_region_held3 (fun w'=>w'.cell? ⟨w.heap.size,2,none⟩=some (.string s))
  (first|assumption|go_keep)
  (first
   | (go_simp;go_at_call 60;refine(HP.out).mono ?_;rintro e w1 ⟨v1,rfl,hr,ht,hc,hbs⟩)
   | (refine qL _ (.tmp 18) (.tmp 20) 83 9 base 5 i0 (.int .u8 0) 1 1 underlying83 hi hz0 hz1 hz2 rfl v1 L.length (Lib.byteCells L) hr s.size (byteCells s) (.string s) (Src.ofString _ underlying9 s) hbs ?_;intro v2 w2 hown hg _;have ht2:=zH (ht.out.grown hbs hr hg);have hc2:=ht2.out.cell (t':=81) (by decide) (heap_alloc_new w _) 2))
 have HR:=zH (TV hown);clear hown hg hr;go_wp2_with fail;go_ret;exact⟨_,rfl,HR.out,((Turns.refl base 5 w).alloc hbase _).trans ht2.out⟩
end
end Go.Proofs.YtahdlddbbnjloaaGreat
