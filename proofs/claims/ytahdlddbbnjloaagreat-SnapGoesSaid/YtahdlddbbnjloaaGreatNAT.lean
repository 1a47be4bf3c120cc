/- What phalanxref03.bytes and one return: a number's least bytes, an item's bytes. No condition but those named. -/
import Derived.Test.YtahdlddbbnjloaaGreatNAR
import Derived.Test.YtahdlddbbnjloaaGreatNAP
import Derived.Test.YtahdlddbbnjloaaGreatNAS
set_option linter.unusedSimpArgs false
set_option linter.unusedVariables false
set_option maxRecDepth 100000
set_option maxHeartbeats 25600000
open Go.RowKit
namespace Go.Proofs.YtahdlddbbnjloaaGreat
open _root_.Go.Proofs.Tryz
section
theorem nY{k:IntKind}{a b:Int}(h:a=b):Ending.returned (.int k a)=.returned (.int k b):=by rw[h]
theorem xu{a b:Bool}(h:a=b):Ending.returned (.bool a)=.returned (.bool b):=by rw[h]
theorem SV:IntKind.u64.max=18446744073709551615:=by decide
theorem vB(b:Nat)(h:b<18446744073709551616):bits .xor .u64 18446744073709551615 (b:Int)=((18446744073709551615-b:Nat):Int):=by
 exact ahA
theorem Tf(b:Nat)(h:b<9223372036854775808):bits .xor .i64 (-1) (b:Int) = -(b:Int)-1:=by
 have h3:=congrArg BitVec.toNat (BitVec.allOnes_xor (x:=BitVec.ofNat 64 b));rw[BitVec.toNat_xor,BitVec.toNat_not,BitVec.toNat_ofNat,Nat.mod_eq_of_lt (by omega),BitVec.toNat_allOnes] at h3
 show IntKind.i64.wrap ((BitVec.ofInt 64 (-1) ^^^ BitVec.ofInt 64 (b:Int)).toNat:Int)=_
 have e1:BitVec.ofInt 64 (-1)=BitVec.allOnes 64:=by decide
 rw[e1,BitVec.ofInt_natCast,BitVec.toNat_xor,BitVec.toNat_ofNat,Nat.mod_eq_of_lt (by omega),BitVec.toNat_allOnes,h3,IntKind.wrap_i64];omega
theorem and_one(u:Nat)(h:u<18446744073709551616):bits .and .u64 (u:Int) 1=((u%2:Nat):Int):=by
 have:=u64_and_nat u 1 h (by decide)
 simpa [Nat.and_one_is_mod] using this
theorem JH(k n:Int)(s:ByteArray)(w:World):
  Calls prog 27 #[.agg #[.int .i64 k,.int .i64 n,.string s]] w fun e w'=>e=.returned (.bool (aF.fits ⟨k,n,s⟩))∧Below w.heap.size w w':=by
 go_enter func27,ntmps27;go_wp2_with fail
 ·go_ret
  have h:(k==0)=true:=by assumption
  obtain rfl:=of_decide_eq_true h;exact⟨xu (by simp[aF.fits,ByteArray.toList_eq]),by go_grown⟩
 ·go_ret
  have h:(k==1)=true:=by assumption
  obtain rfl:=of_decide_eq_true h;exact⟨xu (by simp[aF.fits]),by go_grown⟩
 ·go_ret
  have h0:(k==0)=false:=by assumption
  have h1:(k==1)=false:=by assumption
  exact⟨xu (by simp[aF.fits,h0,h1]),by go_grown⟩
theorem Ww(n:Int)(w:World)(h1 : -9223372036854775808≤n)(h2:n≤9223372036854775807):
  Calls prog 61 #[.int .i64 n] w fun e w'=>e=.returned (.int .u64 (aF.fold n))∧w=w':=by
 go_enter func61,ntmps61;go_wp2_with fail
 ·go_ret
  have h:n<0:=by assumption
  have hx:IntKind.u64.wrap (IntKind.u64.wrap n*2)=((2*n+18446744073709551616).toNat:Int):=by
   rw[IntKind.wrap_u64,IntKind.wrap_u64];omega
  refine⟨nY ?_,rfl⟩;rw[hx,SV,vB _ (by omega)];unfold aF.fold;rw[if_pos h];omega
 ·go_ret
  have h:0≤n:=by assumption
  refine⟨nY ?_,rfl⟩;unfold aF.fold;rw[if_neg (by omega)];omega
theorem Ke(u:Nat)(w:World)(h:u<18446744073709551616):
  Calls prog 73 #[.int .u64 u] w fun e w'=>e=.returned (.int .i64 (aF.unfold u))∧w=w':=by
 have ha:=zH (and_one u h);have ht:=zH (Tf (u / 2) (by omega));go_enter func73,ntmps73;go_wp2_with fail
 ·go_ret
  have h1:(bits BinOp.and IntKind.u64 (u:Int) 1==1)=true:=by assumption
  rw[ha.out,beq_iff_eq] at h1;refine⟨nY ?_,rfl⟩;have h2:=ht.out;rw[Int.natCast_ediv] at h2;unfold aF.unfold;rw[if_pos (by omega)];exact h2
 ·go_ret
  have h1:(bits BinOp.and IntKind.u64 (u:Int) 1==1)=false:=by assumption
  rw[ha.out,beq_eq_false_iff_ne] at h1;refine⟨nY ?_,rfl⟩;unfold aF.unfold;rw[if_neg (by omega)];omega
theorem Dm(u:Nat)(h:u<18446744073709551616):(Lib.bitLen u+7) / 8=aF.nb u:=by
 by_cases h0:u=0
 ·subst h0;rw[aF.tO];decide
 ·rw[aF.ET (by omega)]
  by_cases h1:256≤u
  ·have ih:=Dm (u / 256) (by omega)
   rw[Lib.bitLen_shift8 u h1 h];omega
  ·have h2:aF.nb (u / 256)=0:=by rw[Nat.div_eq_of_lt (by omega),aF.tO]
   have h3:Lib.bitLen u≤8:=Lib.bitLen_le u 8 (by decide) (by omega);have h4:1≤Lib.bitLen u:=(Lib.bitLenAux_bounds 64 u (by omega) h0).1;omega
termination_by u
theorem aak(u:Nat)(w:World)(h:u<18446744073709551616):
  Calls prog 107 #[.int .u64 u] w fun e w'=>∃b:Nat,b≤64∧(b+7) / 8=aF.nb u∧e=.returned (.int .i64 (b:Nat))∧w=w':=
 (MH u w (by omega) (by omega)).mono fun e w' ⟨he,hw⟩=>⟨Lib.bitLen u,Lib.bitLen_le u 64 (by decide) (by omega),Dm u h,by rw[he];rfl,hw.symm⟩
theorem LM(s:ByteArray){w:World}(hlim:s.size≤281474976710656):
  Calls prog 110 #[.string s] w fun e w'=>e=.returned (.string s)∧Below w.heap.size w w':=by
 by_cases h0:s.size=0
 ·have hs:s=⟨#[]⟩:=by
   apply ByteArray.ext;exact Array.eq_empty_of_size_eq_zero h0
  subst hs;go_enter func110,ntmps110;go_wp2;go_ret;exact⟨rfl,Below.refl _ _⟩
 obtain⟨i0,hi,hz0,hz1,hz2⟩:=info_parts Fb;have hco:prog.cellsOf 5=1:=by simp[Program.cellsOf,hi,hz1]
 have hinfo:(prog.info? 5).map (·.size)=some 1:=by rw[hi];simp[hz1]
 obtain⟨M,hM⟩:∃M,M=madeCells (Value.int .u8 0).cells (((s.size:Nat):Int).toNat*i0.size):=⟨_,rfl⟩;have hMs:M.size=s.size:=by rw[hM,size_madeCells,hz1];simp
 have hmk:∀W:World,(Instr.makeSlice 83 (.int .i64 (s.size:Int)) (.int .i64 (s.size:Int))).run prog W=.ok (.slice (some ⟨W.heap.size,0,none⟩) s.size s.size) (W.alloc (.cells M 5)):=fun W=>by
  have h:=run_make (P:=prog) W 83 5 i0 (.int .u8 0) underlying83 hi hz0 .i64 .i64 (s.size:Int) (s.size:Int) (by omega) (by omega) (by rw[hz2];omega) (by omega);rw[← hM] at h
  simpa using h
 clear hM;have hcp:=Lib.run_copy_row_string (P:=prog) (w.alloc (.cells M 5)) 83 9 3 5 w.heap.size 0 s.size s.size s M 5 underlying83 hinfo (heap_alloc_new w _) (Nat.le_refl _) (by omega);obtain⟨Y,hY⟩:∃Y,Y=(M.toList.take 0++Lib.byteCells s.data.toList++M.toList.drop (0+s.size)).toArray:=⟨_,rfl⟩;rw[← hY] at hcp
 have hYl:Y.toList=Lib.byteCells s.data.toList:=by
  rw[hY,List.toList_toArray,List.take_zero,aK,List.drop_of_length_le (by rw[Array.length_toList];omega),List.append_nil]
 have hYs:Y.size=s.size:=by rw[← Array.length_toList,hYl,Lib.byteCells_length,← Lib.size_eq]
 have hgY:((w.alloc (.cells M 5)).setRow w.heap.size Y).heap[w.heap.size]?=some (.cells Y 5 (0,0)):=setRow_heap _ _ M _ 5 (0,0) (heap_alloc_new w _);have hne:s.data.toList≠[]:=fun e=>h0 (by rw[Lib.size_eq,e];rfl)
 have hUS:=Lib.run_unsafeString_row (P:=prog) ((w.alloc (.cells M 5)).setRow w.heap.size Y) 209 3 9 5 underlying209 hco w.heap.size Y.size (by unfold World.shape?;rw[hgY]) s.data.toList hne (by rw[← Lib.size_eq];omega) (by rw[← Lib.size_eq];omega)
  (fun j x hx=>Lib.cells_of_row hgY Y.size j _ (by rw[List.take_of_length_le (by rw[Array.length_toList];exact Nat.le_refl _),hYl];simp[Lib.byteCells,hx]))
 rw[← Lib.size_eq] at hUS;clear hY;go_enter func110,ntmps110;go_wp2;go_ret;have hb1:Below w.heap.size w (w.alloc (.cells M 5)):=(Below.refl _ w).alloc (Nat.le_refl _) _;have hb2:Below w.heap.size (w.alloc (.cells M 5)) ((w.alloc (.cells M 5)).setRow w.heap.size Y):=⟨rfl,rfl,rfl,by simp,fun k hk=>setRow_other _ _ _ _ (by omega)⟩;exact⟨rfl,Lib.below_freeze (hb1.trans hb2) (p:=⟨w.heap.size,0,none⟩) (Nat.le_refl _) _⟩
theorem Rw(s:ByteArray)(w:World)(hlim:s.size≤281474976710656):
  Calls prog 75 #[.string s] w fun e w'=>e=.returned (.string s)∧Below w.heap.size w w':=by
 go_enter func75,ntmps75;go_wp2_with fail;refine(LM s hlim).mono ?_;rintro e w' ⟨rfl,hb⟩;go_wp2_with fail;go_ret;exact⟨rfl,hb⟩
end
section
theorem nS(b o j:Nat):(⟨b,o,none⟩:Addr).add j=⟨b,o+j,none⟩:=by
 unfold Addr.add
 split
 ·rename_i h;subst h;rfl
 ·rfl
def txt(l:List UInt8):ByteArray:=⟨l.toArray⟩
theorem jy(l:List UInt8):(txt l).size=l.length:=rfl
end
end Go.Proofs.YtahdlddbbnjloaaGreat
