/- What wire.Encode returns: all items' bytes, or which error. No condition but those named. -/
import Derived.Test.YtahdlddbbnjloaaGreatNAU
import Derived.Test.YtahdlddbbnjloaaGreatNAV
set_option linter.unusedSimpArgs false
set_option linter.unusedVariables false
set_option maxRecDepth 100000
set_option maxHeartbeats 25600000
open Go.RowKit
namespace Go.Proofs.YtahdlddbbnjloaaGreat
open _root_.Go.Proofs.Tryz
section
theorem Aw{s t:ByteArray}{a b:Int}(h1:s=t:=by rw[HE.out])(h2:a=b:=by rw[HE.out]):Ending.returned (.tuple #[.string s,.int .i64 a])=.returned (.tuple #[.string t,.int .i64 b]):=by rw[h1,h2]
theorem SQ(base:Nat){v:Value}{l:List UInt8}(x:aF.It)(w:World)(h1 : -9223372036854775808≤x.n)(h2:x.n≤9223372036854775807)(hs:x.s.size≤140737488351232)(hl:l.length≤65536)(hbase:base≤w.heap.size)(hrow:Row base w v l):
  Calls prog 28 #[v,.agg #[.int .i64 x.k,.int .i64 x.n,.string x.s]] w fun e w'=>∃g cap,e=.returned (.slice (some ⟨g,0,none⟩) (l++aF.one x).length cap)∧
   Row base w' (.slice (some ⟨g,0,none⟩) (l++aF.one x).length cap) (l++aF.one x)∧Turns base 5 w w':=by
 have fin:∀(e:Ending) (w':World),OT base w (l++aF.one x) e w'→∃g cap,e=.returned (.slice (some ⟨g,0,none⟩) (l++aF.one x).length cap)∧
   Row base w' (.slice (some ⟨g,0,none⟩) (l++aF.one x).length cap) (l++aF.one x)∧Turns base 5 w w':=by
  rintro e w' ⟨v1,he,hr,ht⟩;obtain⟨g,cap,hv,_,_⟩:=World.ownsRow.form hr (by have:=aF.one_pos x;rw[List.length_append];omega);subst hv;exact⟨g,cap,he,hr,ht⟩
 obtain⟨k,n,s⟩:=x;by_cases hk:k=0
 ·subst hk
  exact(Zy base v l n s w h1 h2 (by omega) hbase hrow).mono fin
 ·exact(UD base v l k n s w (by simpa using hk) hs hl hbase hrow).mono fin
theorem Ll(w:World):(convert 83 9 (.slice none 0 0)).run prog w=.ok (.string (txt [])) w:=by kernel_rfl
theorem Kz{base:Nat}{w:World}{v:Value}{l:List UInt8}(h:Row base w v l):(convert 83 9 v).run prog w=.ok (.string (txt l)) w:=by
 have hc:=fun g=>World.ownsRow.cells h (g:=g)
 rcases h.2 with ⟨rfl,h0⟩|⟨g,cap,cur,rfl,_⟩
 ·obtain rfl:=List.eq_nil_of_length_eq_zero h0
  exact Ll w
 ·refine run_convert_bytes_back (P:=prog) w 83 9 5 ⟨g,0,none⟩ cap l underlying83 underlying5 underlying9 (fun j hj=>?_)
  refine hc g rfl j _ ?_;simp[Lib.byteCells,List.getElem?_eq_getElem hj]
theorem Gw(k n:Int)(s:ByteArray)(w:World){r:Bool}(h:aF.fits ⟨k,n,s⟩=r):
  Calls prog 27 #[.agg #[.int .i64 k,.int .i64 n,.string s]] w fun e w'=>e=.returned (.bool r)∧Below w.heap.size w w':=by
 rw[← h];exact JH k n s w
theorem Mh(A:Option Addr)(c:Nat)(l:List aF.It)(w:World)(hl:l.length≤9223372036854775807)(hi:Items w w.heap.size A l)(hw:aF.Wf l)(hs:∀x∈l,x.s.size≤140737488351232):
  Calls prog 10 #[.slice A l.length c] w fun e w'=>e=.returned (.tuple #[.string (aF.E l).1,.int .i64 (aF.E l).2])∧Below w.heap.size w w':=by
 have HI:=zH hi;have HW:=zH hw;have HS:=zH hs;clear hi hw hs;generalize hn:l.length=n at *
 have HN:=zH hn;clear hn;go_enter func10,ntmps10;go_wp2_with fail;go_loopw [11] (fun vi wr=>∃k:Nat,k≤n∧vi=.int .i64 k∧Hid ((l.take k).all aF.fits=true)∧Hid (Below w.heap.size w wr)) (fun vi _=>n-(intOf vi).toNat)
 case atStart=>exact⟨0,Nat.zero_le _,rfl,zH rfl,zH (Below.refl _ _)⟩
 case round=>
  obtain⟨k,hk,rfl,HF,HB⟩:=hrel;by_cases hlt:k<n
  ·obtain⟨x,hx⟩:=dW (l:=l) (k:=k) (by rw[HN.out];exact hlt)
   obtain⟨b,o,rfl,hb,hc⟩:=HI.out (by rw[HN.out];omega);obtain⟨c0,c1,c2⟩:=(hc k x hx).keep (w':=wr) fun p hp=>HB.out.cell (by rw[hp];exact hb)
   have HX:=zH hx;have HC:=zH hc;have hs:=HB.out.size;clear hx hc;obtain⟨xk,xn,xs⟩:=x;simp only at c0 c1 c2;cases hfx:aF.fits ⟨xk,xn,xs⟩
   ·have HR:=zH (fun w=>Gw xk xn xs w hfx)
    have HE:=zH (abe (Ph HX.out hfx));clear hfx;go_wp2_with fail;refine(HR.out _).mono ?_;rintro e w1 ⟨rfl,b1⟩;have HB1:=zH (((HB.out.alloc hs _).trans (b1.mono (by simp;omega))));clear b1;go_wp2_with fail;go_ret2;exact⟨Aw,HB1.out⟩
   ·have HR:=zH (fun w=>Gw xk xn xs w hfx)
    have HF1:=zH (Rj HX.out HF.out hfx);clear hfx;go_wp2_with fail;refine(HR.out _).mono ?_;rintro e w1 ⟨rfl,b1⟩;have HB1:=zH (((HB.out.alloc hs _).trans (b1.mono (by simp;omega))));clear b1;go_wp2_with fail;exact⟨⟨k+1,by omega,by go_num,HF1,HB1⟩,by simp[intOf];omega⟩
  ·obtain rfl:k=n:=by omega
   have HFa:Hid (l.all aF.fits=true):=zH (by have:=HF.out;rwa [List.take_of_length_le (by rw[HN.out];exact Nat.le_refl _)] at this);have hs:=HB.out.size;clear HF;obtain⟨wo,rfl⟩:∃wo:World,wo=wr:=⟨_,rfl⟩;have HR0:Hid (Row w.heap.size (wo.alloc (.cells #[] 5)) (.slice (some ⟨wo.heap.size,0,none⟩) 0 0) []):=zH (World.ownsRow_made wo #[] 0 hs (by decide) rfl);have HB0:=zH (HB.out.alloc hs (.cells #[] 5));go_wp2_with fail;go_loopw [6,22] (fun vb vi wr=>∃j:Nat,j≤k∧vi=.int .i64 j∧Hid (Row w.heap.size wr vb (aF.all (l.take j)))∧Hid ((aF.all (l.take j)).length≤16384)∧Hid (Below w.heap.size w wr)) (fun _ vi _=>k-(intOf vi).toNat)
   case atStart=>exact⟨0,Nat.zero_le _,rfl,HR0,zH (Nat.zero_le _),HB0⟩
   case round=>
    obtain⟨j,hj,rfl,HRj,HLj,HBj⟩:=hrel;have hsj:=HBj.out.size;clear HR0 HB0 HB hs;by_cases hlt:j<k
    ·obtain⟨x,hx⟩:=dW (l:=l) (k:=j) (by rw[HN.out];exact hlt)
     obtain⟨b,o,rfl,hb,hc⟩:=HI.out (by rw[HN.out];omega);obtain⟨c0,c1,c2⟩:=(hc j x hx).keep (w':=wr) fun p hp=>HBj.out.cell (by rw[hp];exact hb)
     have hmem:=List.mem_of_getElem? hx;have HP:=zH (SQ w.heap.size x (wr.alloc (.cells #[.int .i64 x.k,.int .i64 x.n,.string x.s] 81)) (HW.out x hmem).1 (HW.out x hmem).2 (HS.out x hmem) (by have:=HLj.out;omega) (by simp;omega) (HRj.out.alloc _));rw[← XB hx] at HP;have HLL:=zH (Cv l (j+1));have HBx:=zH (HBj.out.alloc hsj (.cells #[.int .i64 x.k,.int .i64 x.n,.string x.s] 81));clear hmem hx hc;obtain⟨xk,xn,xs⟩:=x;simp only at c0 c1 c2 HP HBx;generalize hL:aF.all (l.take (j+1))=L at *
     generalize hm:L.length=m at *
     have HM:=zH hm;have HLe:=zH hL;clear hm hL;by_cases hlong:16384<m
     ·have HE:=zH (WU HFa.out (by have:=HLL.out;omega))
      go_wp2_with fail;refine(HP.out).mono ?_;rintro e w1 ⟨g,cap,rfl,hr,ht⟩;have HB1:=zH (HBx.out.trans ht.below);clear hr ht;go_wp2_with fail;go_ret2;exact⟨Aw,HB1.out⟩
     ·go_wp2_with fail
      refine(HP.out).mono ?_;rintro e w1 ⟨g,cap,rfl,hr,ht⟩;have HB1:=zH (HBx.out.trans ht.below);have HR1:=zH hr;clear hr ht;go_wp2_with fail;refine⟨⟨j+1,by omega,by go_num,by rw[HLe.out];exact HR1,zH (by rw[HLe.out];have:=HM.out;omega),HB1⟩,by simp[intOf];omega⟩
    ·obtain rfl:j=k:=by omega
     have HT:Hid (aF.all (l.take j)=aF.all l):=zH (by rw[List.take_of_length_le (by rw[HN.out];exact Nat.le_refl _)]);have ajc:=Kz HRj.out;have HE:=zH (aF.Yd HFa.out (by have:=HLj.out;rw[HT.out] at this;exact this));rw[HT.out] at ajc;go_wp2_with fail;go_ret2;exact⟨Aw (h1:=(by rw[HE.out];rfl)),HBj.out⟩
end
end Go.Proofs.YtahdlddbbnjloaaGreat
