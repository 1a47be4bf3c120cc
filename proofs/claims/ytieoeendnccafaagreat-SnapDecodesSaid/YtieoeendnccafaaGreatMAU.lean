/- What phalanxref03.bytes and one return: a number's least bytes, an item's bytes. No condition but those named. -/
import Derived.Test.YtieoeendnccafaaGreatMTK
import Derived.Test.YtieoeendnccafaaGreatMAS
import Derived.Test.YtieoeendnccafaaGreatMAQ
import Derived.Test.YtieoeendnccafaaGreatMAT
import Derived.Test.YtieoeendnccafaaGreatRows
import Derived.WalkKit
import Derived.WalkSpells
import Derived.WalkLawsBesides
import Derived.Handy
import Derived.OwnWalk
import Derived.Deep.QuietTactic
import Derived.BigQuiet
import Derived.Deep.Draws
import Derived.Lib.Hide
import Derived.Lib.ItoaNum
import Derived.Lib.BufferWrite
import Derived.Lib.UnsafeStr
import Derived.Laws.MakeOwn
import Derived.Outline
import Derived.Deep.Cut
import Derived.Deep.CutRange
set_option linter.unusedSimpArgs false
set_option linter.unusedVariables false
set_option maxRecDepth 100000
set_option maxHeartbeats 25600000
namespace Go.Proofs.YtieoeendnccafaaGreat
section
open Go.RowKit
theorem wret_int{k:IntKind}{a b:Int}(h:a=b):Ending.returned (.int k a)=.returned (.int k b):=by rw[h]
theorem wret_bool{a b:Bool}(h:a=b):Ending.returned (.bool a)=.returned (.bool b):=by rw[h]
theorem wmax_u64:IntKind.u64.max=18446744073709551615:=by decide
theorem turn_all(b:Nat)(h:b<18446744073709551616):bits .xor .u64 18446744073709551615 (b:Int)=((18446744073709551615-b:Nat):Int):=by
 have h1:=u64_xor_nat 18446744073709551615 b (by decide) h
 have h3:=congrArg BitVec.toNat (BitVec.allOnes_xor (x:=BitVec.ofNat 64 b))
 rw[BitVec.toNat_xor,BitVec.toNat_not,BitVec.toNat_ofNat,Nat.mod_eq_of_lt (by omega),BitVec.toNat_allOnes] at h3
 have h4:18446744073709551615 ^^^ b=18446744073709551615-b:=h3
 rw[h4] at h1
 exact h1
theorem turn_int(b:Nat)(h:b<9223372036854775808):bits .xor .i64 (-1) (b:Int) = -(b:Int)-1:=by
 have h3:=congrArg BitVec.toNat (BitVec.allOnes_xor (x:=BitVec.ofNat 64 b))
 rw[BitVec.toNat_xor,BitVec.toNat_not,BitVec.toNat_ofNat,Nat.mod_eq_of_lt (by omega),BitVec.toNat_allOnes] at h3
 show IntKind.i64.wrap ((BitVec.ofInt 64 (-1) ^^^ BitVec.ofInt 64 (b:Int)).toNat:Int)=_
 have e1:BitVec.ofInt 64 (-1)=BitVec.allOnes 64:=by decide
 rw[e1,BitVec.ofInt_natCast,BitVec.toNat_xor,BitVec.toNat_ofNat,Nat.mod_eq_of_lt (by omega),BitVec.toNat_allOnes,h3,IntKind.wrap_i64]
 omega
theorem and_one(u:Nat)(h:u<18446744073709551616):bits .and .u64 (u:Int) 1=((u%2:Nat):Int):=by
 have:=u64_and_nat u 1 h (by decide)
 simpa [Nat.and_one_is_mod] using this
theorem wright_any(k n:Int)(s:ByteArray)(w:World):
  Calls Tryz.prog 90 #[.agg #[.int .i64 k,.int .i64 n,.string s]] w fun e w'=>e=.returned (.bool (Wire.fits ⟨k,n,s⟩))∧Below w.heap.size w w':=by
 go_enter Tryz.func90,Tryz.ntmps90
 go_wp2_with fail
 ·go_ret
  have h:(k==0)=true:=by assumption
  obtain rfl:=of_decide_eq_true h
  exact⟨wret_bool (by simp[Wire.fits,ByteArray.toList_eq]),by go_grown⟩
 ·go_ret
  have h:(k==1)=true:=by assumption
  obtain rfl:=of_decide_eq_true h
  exact⟨wret_bool (by simp[Wire.fits]),by go_grown⟩
 ·go_ret
  have h0:(k==0)=false:=by assumption
  have h1:(k==1)=false:=by assumption
  exact⟨wret_bool (by simp[Wire.fits,h0,h1]),by go_grown⟩
theorem wrfits_any(k n:Int)(s:ByteArray)(w:World):
  Calls Tryz.prog 99 #[.agg #[.int .i64 k,.int .i64 n,.string s]] w fun e w'=>e=.returned (.bool (Wire.fits ⟨k,n,s⟩))∧Below w.heap.size w w':=by
 go_enter Tryz.func99,Tryz.ntmps99
 go_wp2_with fail
 ·go_ret
  have h:s.toList=[]:=by assumption
  obtain rfl:k=0:=by assumption
  exact⟨wret_bool (by simp[Wire.fits,← ByteArray.toList_eq,h]),by go_grown⟩
 ·go_ret
  have h:¬s.toList=[]:=by assumption
  obtain rfl:k=0:=by assumption
  exact⟨wret_bool (by simp[Wire.fits,← ByteArray.toList_eq]),by go_grown⟩
 ·go_ret
  obtain rfl:k=1:=by assumption
  exact⟨wret_bool (by simp[Wire.fits]),by go_grown⟩
 ·go_ret
  have h0:¬k=0:=by assumption
  have h1:¬k=1:=by assumption
  exact⟨wret_bool (by simp[Wire.fits,h0,h1]),by go_grown⟩
theorem fold_any(n:Int)(w:World)(h1 : -9223372036854775808≤n)(h2:n≤9223372036854775807):
  Calls Tryz.prog 155 #[.int .i64 n] w fun e w'=>e=.returned (.int .u64 (Wire.fold n))∧w=w':=by
 go_enter Tryz.func155,Tryz.ntmps155
 go_wp2_with fail
 ·go_ret
  have h:n<0:=by assumption
  have hx:IntKind.u64.wrap (IntKind.u64.wrap n*2)=((2*n+18446744073709551616).toNat:Int):=by
   rw[IntKind.wrap_u64,IntKind.wrap_u64];omega
  refine⟨wret_int ?_,rfl⟩
  rw[hx,wmax_u64,turn_all _ (by omega)]
  unfold Wire.fold
  rw[if_pos h];omega
 ·go_ret
  have h:0≤n:=by assumption
  refine⟨wret_int ?_,rfl⟩
  unfold Wire.fold
  rw[if_neg (by omega)];omega
theorem rfold_any(n:Int)(w:World)(h1 : -9223372036854775808≤n)(h2:n≤9223372036854775807):
  Calls Tryz.prog 167 #[.int .i64 n] w fun e w'=>e=.returned (.int .u64 (Wire.fold n))∧w=w':=by
 go_enter Tryz.func167,Tryz.ntmps167
 go_wp2_with fail
 go_ret
 refine⟨wret_int ?_,rfl⟩
 by_cases h:n<0
 ·have hx:IntKind.u64.wrap (IntKind.u64.wrap n*2)=((2*n+18446744073709551616).toNat:Int):=by
   rw[IntKind.wrap_u64,IntKind.wrap_u64];omega
  have hy:IntKind.u64.wrap (n / 9223372036854775808)=((18446744073709551615:Nat):Int):=by rw[IntKind.wrap_u64];omega
  rw[hx,hy,u64_xor_nat _ _ (by omega) (by decide),Nat.xor_comm]
  have h3:=turn_all ((2*n+18446744073709551616).toNat) (by omega)
  have h4:=u64_xor_nat 18446744073709551615 ((2*n+18446744073709551616).toNat) (by decide) (by omega)
  rw[← h4]
  have h5:((18446744073709551615:Nat):Int)=18446744073709551615:=rfl
  rw[h5,h3]
  unfold Wire.fold
  rw[if_pos h];omega
 ·have hx:IntKind.u64.wrap (IntKind.u64.wrap n*2)=((2*n).toNat:Int):=by
   rw[IntKind.wrap_u64,IntKind.wrap_u64];omega
  have hy:IntKind.u64.wrap (n / 9223372036854775808)=((0:Nat):Int):=by rw[IntKind.wrap_u64];omega
  rw[hx,hy,u64_xor_nat _ _ (by omega) (by decide),Nat.xor_zero]
  unfold Wire.fold
  rw[if_neg h]
theorem unfold_any(u:Nat)(w:World)(h:u<18446744073709551616):
  Calls Tryz.prog 169 #[.int .u64 u] w fun e w'=>e=.returned (.int .i64 (Wire.unfold u))∧w=w':=by
 have ha:=zH (and_one u h)
 have ht:=zH (turn_int (u / 2) (by omega))
 go_enter Tryz.func169,Tryz.ntmps169
 go_wp2_with fail
 ·go_ret
  have h1:(bits BinOp.and IntKind.u64 (u:Int) 1==1)=true:=by assumption
  rw[ha.out,beq_iff_eq] at h1
  refine⟨wret_int ?_,rfl⟩
  have h2:=ht.out
  rw[Int.natCast_ediv] at h2
  unfold Wire.unfold
  rw[if_pos (by omega)]
  exact h2
 ·go_ret
  have h1:(bits BinOp.and IntKind.u64 (u:Int) 1==1)=false:=by assumption
  rw[ha.out,beq_eq_false_iff_ne] at h1
  refine⟨wret_int ?_,rfl⟩
  unfold Wire.unfold
  rw[if_neg (by omega)]
  omega
theorem nb_bitLen(u:Nat)(h:u<18446744073709551616):(Lib.bitLen u+7) / 8=Wire.nb u:=by
 by_cases h0:u=0
 ·subst h0;rw[Wire.nb_zero];decide
 ·rw[Wire.nb_pos (by omega)]
  by_cases h1:256≤u
  ·have ih:=nb_bitLen (u / 256) (by omega)
   rw[Lib.bitLen_shift8 u h1 h]
   omega
  ·have h2:Wire.nb (u / 256)=0:=by rw[Nat.div_eq_of_lt (by omega),Wire.nb_zero]
   have h3:Lib.bitLen u≤8:=Lib.bitLen_le u 8 (by decide) (by omega)
   have h4:1≤Lib.bitLen u:=(Lib.bitLenAux_bounds 64 u (by omega) h0).1
   omega
termination_by u
theorem len_any(u:Nat)(w:World)(h:u<18446744073709551616):
  Calls Tryz.prog 213 #[.int .u64 u] w fun e w'=>∃b:Nat,b≤64∧(b+7) / 8=Wire.nb u∧e=.returned (.int .i64 (b:Nat))∧w=w':=
 (bitlen_any u w (by omega) (by omega)).mono fun e w' ⟨he,hw⟩=>⟨Lib.bitLen u,Lib.bitLen_le u 64 (by decide) (by omega),nb_bitLen u h,by rw[he];rfl,hw.symm⟩
theorem iclone_any(s:ByteArray)(w:World)(hlim:s.size≤281474976710656):
  Calls Tryz.prog 215 #[.string s] w fun e w'=>e=.returned (.string s)∧Below w.heap.size w w':=by
 by_cases h0:s.size=0
 ·have hs:s=⟨#[]⟩:=by
   apply ByteArray.ext
   exact Array.eq_empty_of_size_eq_zero h0
  subst hs
  go_enter Tryz.func215,Tryz.ntmps215
  go_wp2
  go_ret
  exact⟨rfl,Below.refl _ _⟩
 obtain⟨i0,hi,hz0,hz1,hz2⟩:=info_parts info_u8
 have hco:Tryz.prog.cellsOf 5=1:=by simp[Program.cellsOf,hi,hz1]
 have hinfo:(Tryz.prog.info? 5).map (·.size)=some 1:=by rw[hi];simp[hz1]
 obtain⟨M,hM⟩:∃M,M=madeCells (Value.int .u8 0).cells (((s.size:Nat):Int).toNat*i0.size):=⟨_,rfl⟩
 have hMs:M.size=s.size:=by rw[hM,size_madeCells,hz1];simp
 have hmk:∀W:World,(Instr.makeSlice 128 (.int .i64 (s.size:Int)) (.int .i64 (s.size:Int))).run Tryz.prog W=.ok (.slice (some ⟨W.heap.size,0,none⟩) s.size s.size) (W.alloc (.cells M 5)):=fun W=>by
  have h:=run_make (P:=Tryz.prog) W 128 5 i0 (.int .u8 0) Tryz.underlying128 hi hz0 .i64 .i64 (s.size:Int) (s.size:Int) (by omega) (by omega) (by rw[hz2];omega) (by omega)
  rw[← hM] at h
  simpa using h
 clear hM
 have hcp:=Lib.run_copy_row_string (P:=Tryz.prog) (w.alloc (.cells M 5)) 128 9 3 5 w.heap.size 0 s.size s.size s M 5 Tryz.underlying128 hinfo (heap_alloc_new w _) (Nat.le_refl _) (by omega)
 obtain⟨Y,hY⟩:∃Y,Y=(M.toList.take 0++Lib.byteCells s.data.toList++M.toList.drop (0+s.size)).toArray:=⟨_,rfl⟩
 rw[← hY] at hcp
 have hYl:Y.toList=Lib.byteCells s.data.toList:=by
  rw[hY,List.toList_toArray,List.take_zero,lnA,List.drop_of_length_le (by rw[Array.length_toList];omega),List.append_nil]
 have hYs:Y.size=s.size:=by rw[← Array.length_toList,hYl,Lib.byteCells_length,← Lib.size_eq]
 have hgY:((w.alloc (.cells M 5)).setRow w.heap.size Y).heap[w.heap.size]?=some (.cells Y 5 (0,0)):=setRow_heap _ _ M _ 5 (0,0) (heap_alloc_new w _)
 have hne:s.data.toList≠[]:=fun e=>h0 (by rw[Lib.size_eq,e];rfl)
 have hUS:=Lib.run_unsafeString_row (P:=Tryz.prog) ((w.alloc (.cells M 5)).setRow w.heap.size Y) 272 3 9 5 Tryz.underlying272 hco w.heap.size Y.size (by unfold World.shape?;rw[hgY]) s.data.toList hne (by rw[← Lib.size_eq];omega) (by rw[← Lib.size_eq];omega)
  (fun j x hx=>Lib.cells_of_row hgY Y.size j _ (by rw[List.take_of_length_le (by rw[Array.length_toList];exact Nat.le_refl _),hYl];simp[Lib.byteCells,hx]))
 rw[← Lib.size_eq] at hUS
 clear hY
 go_enter Tryz.func215,Tryz.ntmps215
 go_wp2
 go_ret
 have hb1:Below w.heap.size w (w.alloc (.cells M 5)):=(Below.refl _ w).alloc (Nat.le_refl _) _
 have hb2:Below w.heap.size (w.alloc (.cells M 5)) ((w.alloc (.cells M 5)).setRow w.heap.size Y):=⟨rfl,rfl,rfl,by simp,fun k hk=>setRow_other _ _ _ _ (by omega)⟩
 exact⟨rfl,Lib.below_freeze (hb1.trans hb2) (p:=⟨w.heap.size,0,none⟩) (Nat.le_refl _) _⟩
theorem clone_any(s:ByteArray)(w:World)(hlim:s.size≤281474976710656):
  Calls Tryz.prog 171 #[.string s] w fun e w'=>e=.returned (.string s)∧Below w.heap.size w w':=by
 go_enter Tryz.func171,Tryz.ntmps171
 go_wp2_with fail
 refine(iclone_any s _ hlim).mono ?_;rintro e w' ⟨rfl,hb⟩
 go_wp2_with fail
 go_ret
 exact⟨rfl,hb⟩
end
section
open Go.RowKit
def byte(n:Int):UInt8:=UInt8.ofNat n.toNat
theorem add_at(b o j:Nat):(⟨b,o,none⟩:Addr).add j=⟨b,o+j,none⟩:=by
 unfold Addr.add
 split
 ·rename_i h;subst h;rfl
 ·rfl
theorem str1(a:Int)(w:World):(convert 128 9 (.slice (some ⟨w.heap.size,0,none⟩) 1 1)).run Tryz.prog (w.alloc (.cells #[.int .u8 a] 5))
  = .ok (.string ⟨#[byte a]⟩) (w.alloc (.cells #[.int .u8 a] 5)):=by
 have h:=run_convert_bytes_arg (P:=Tryz.prog) (w.alloc (.cells #[.int .u8 a] 5)) 128 5 Tryz.underlying128 Tryz.underlying5 w.heap.size 0 1 1 [a] rfl
  (fun i hi=>by
   rw[World.cell?_alloc_mark]
   match i,hi with
   | 0,_=>rfl) 9 Tryz.underlying9
 exact h
theorem byte_low(u:Nat):byte ((u:Int)%256)=UInt8.ofNat u:=by
 unfold byte
 rw[show((u:Int)%256).toNat=u%256 from by omega,Wire.ofNat_mod]
theorem cell_box{w w1:World}{cs:Array Value}{t:TypeId}(hb:Below (w.alloc (.cells cs t)).heap.size (w.alloc (.cells cs t)) w1){i:Nat}{v:Value}(h:cs[i]?=some v):w1.cell? ⟨w.heap.size,i,none⟩=some v:=by
 rw[hb.cell (p:=⟨w.heap.size,i,none⟩) (by simp),World.cell?_alloc_new]
 exact h
def txt(l:List UInt8):ByteArray:=⟨l.toArray⟩
theorem txt_size(l:List UInt8):(txt l).size=l.length:=rfl
theorem txt_append(a b:List UInt8):txt a++txt b=txt (a++b):=by
 apply ByteArray.ext
 simp[txt]
theorem rbytes_any(u:Nat)(w:World)(h:u<18446744073709551616):
  Calls Tryz.prog 166 #[.int .u64 u] w fun e w'=>e=.returned (.string (txt (Wire.B u (Wire.nb u))))∧Below w.heap.size w w':=by
 have hst:=str1
 go_enter Tryz.func166,Tryz.ntmps166
 go_wp2_with fail
 go_loopw [3,0] (fun vs vu wr=>∃(j:Nat) (s:ByteArray),j≤Wire.nb u∧vs=.string s∧vu=.int .u64 (u / 256 ^ j:Nat)∧s.size≤8∧Hid (s=txt (Wire.B u j))∧Below w.heap.size w wr) (fun _ vu _=>(intOf vu).toNat)
 case atStart=>exact⟨0,⟨#[]⟩,by omega,rfl,by simp,by decide,zH rfl,by go_grown⟩
 case round=>
  obtain⟨j,s,hj,rfl,rfl,hs,HS,hbel⟩:=hrel
  have HN:Hid (u / 256 ^ j / 256=u / 256 ^ (j+1)):=zH (by rw[Nat.pow_succ,Nat.div_div_eq_div_mul])
  have hy:u / 256 ^ j<18446744073709551616:=Nat.lt_of_le_of_lt (Nat.div_le_self _ _) h
  by_cases hlt:0<u / 256 ^ j
  ·have HC:Hid ((⟨#[byte ((u / 256 ^ j:Nat)%256:Int)]⟩:ByteArray)++s=txt (Wire.B u (j+1))):=by
    rw[HS.out,byte_low]
    exact zH (txt_append [_] _)
   have HJ:Hid (j+1≤Wire.nb u):=zH (by
    refine Nat.lt_of_le_of_ne hj fun e=>?_
    have:=Wire.lt_nb u
    rw[← e] at this
    rw[Nat.div_eq_of_lt this] at hlt
    omega)
   have h8:j+1≤8:=Nat.le_trans HJ.out (Wire.nb8 h)
   clear hj HS
   generalize u / 256 ^ j=y at *
   go_wp2_with fail
   refine⟨⟨j+1,_,HJ.out,rfl,by rw[← HN.out];go_num,?_,HC,hbel.alloc hbel.size _⟩,by simp[intOf];omega⟩
   rw[HC.out,txt_size,Wire.B_length]
   exact h8
  ·have HJ:Hid (j=Wire.nb u):=zH (by
    have h1:u<256 ^ j:=by
     rcases Nat.lt_or_ge u (256 ^ j) with h1|h1
     ·exact h1
     ·exact absurd (Nat.div_pos h1 (Nat.pow_pos (by decide))) hlt
    have:=Wire.nb_le h1
    omega)
   have hz:u / 256 ^ j=0:=Nat.eq_zero_of_not_pos hlt
   generalize u / 256 ^ j=y at *
   subst hz
   go_wp2_with fail
   go_ret
   exact⟨congrArg (fun s=>Ending.returned (.string s)) (by rw[HS.out,HJ.out]),hbel⟩
theorem rone_int(n:Int)(s:ByteArray)(w:World)(h1 : -9223372036854775808≤n)(h2:n≤9223372036854775807):
  Calls Tryz.prog 100 #[.agg #[.int .i64 0,.int .i64 n,.string s]] w fun e w'=>e=.returned (.string (txt (Wire.one ⟨0,n,s⟩)))∧Below w.heap.size w w':=by
 have hst:=str1
 have HF:=zH (fun w=>rfold_any n w h1 h2)
 have hlt:=Wire.fold_lt h1 h2
 have HB:=zH (fun w=>rbytes_any (Wire.fold n) w hlt)
 have hn:=Wire.nb8 hlt
 have HO:Hid (∀t:ByteArray,t=txt (Wire.B (Wire.fold n) (Wire.nb (Wire.fold n)))→(⟨#[byte ((t.size:Int))]⟩:ByteArray)++t=txt (Wire.one ⟨0,n,s⟩)):=zH (by
  rintro t rfl
  rw[txt_size,Wire.B_length]
  refine(txt_append [_] _).trans (congrArg txt ?_)
  unfold Wire.one Wire.lead
  rw[if_pos rfl,Nat.zero_add]
  rfl)
 have HT:Hid ((txt (Wire.B (Wire.fold n) (Wire.nb (Wire.fold n)))).size=Wire.nb (Wire.fold n)):=zH (by rw[txt_size,Wire.B_length])
 generalize Wire.fold n=u at *
 generalize hT:txt (Wire.B u (Wire.nb u))=t at *
 have HO':=zH (HO.out t rfl)
 have hts:t.size≤8:=by rw[HT.out];exact hn
 clear HO hT HT hn
 go_enter Tryz.func100,Tryz.ntmps100
 go_wp2_with fail
 refine(HF.out _).mono ?_;rintro e w' ⟨rfl,rfl⟩
 go_wp2_with fail
 refine(HB.out _).mono ?_;rintro e w1 ⟨rfl,b1⟩
 go_wp2_with fail
 go_ret
 refine⟨congrArg (fun s=>Ending.returned (.string s)) HO'.out,?_⟩
 exact(((Below.refl _ w).alloc (Nat.le_refl _) _).trans (b1.mono (by simp))).alloc (by have:=b1.size;simp at this;omega) _
theorem rone_text(k n:Int)(s:ByteArray)(w:World)(hk:(k==0)=false)(hs:s.size≤16384):
  Calls Tryz.prog 100 #[.agg #[.int .i64 k,.int .i64 n,.string s]] w fun e w'=>e=.returned (.string (txt (Wire.one ⟨k,n,s⟩)))∧Below w.heap.size w w':=by
 have hst:=str1
 have HB:=zH (fun w=>rbytes_any s.size w (by omega))
 have hn:=Wire.nb2 (u:=s.size) (by omega)
 have HO:Hid (∀t:ByteArray,t=txt (Wire.B s.size (Wire.nb s.size))→(⟨#[byte (16+(t.size:Int))]⟩:ByteArray)++t++s=txt (Wire.one ⟨k,n,s⟩)):=zH (by
  rintro t rfl
  have hk':¬k=0:=by simpa using hk
  unfold Wire.one Wire.lead
  rw[txt_size,Wire.B_length,if_neg hk']
  refine(congrArg (· ++ s) (txt_append [_] _)).trans ?_
  show txt _++txt s.data.toList=_
  rw[txt_append]
  refine congrArg txt ?_
  congr 2)
 have HT:Hid ((txt (Wire.B s.size (Wire.nb s.size))).size=Wire.nb s.size):=zH (by rw[txt_size,Wire.B_length])
 generalize hT:txt (Wire.B s.size (Wire.nb s.size))=t at *
 have HO':=zH (HO.out t rfl)
 have hts:t.size≤2:=by rw[HT.out];exact hn
 clear HO hT HT hn
 go_enter Tryz.func100,Tryz.ntmps100
 go_wp2_with fail
 refine(HB.out _).mono ?_;rintro e w1 ⟨rfl,b1⟩
 have hc:=cell_box b1 (i:=2) rfl
 have hz:w.heap.size<w1.heap.size:=by have:=b1.size;simp at this;omega
 go_wp2_with fail
 go_ret
 refine⟨congrArg (fun s=>Ending.returned (.string s)) HO'.out,?_⟩
 exact(((Below.refl _ w).alloc (Nat.le_refl _) _).trans (b1.mono (by simp))).alloc (by have:=b1.size;simp at this;omega) _
end
end Go.Proofs.YtieoeendnccafaaGreat
