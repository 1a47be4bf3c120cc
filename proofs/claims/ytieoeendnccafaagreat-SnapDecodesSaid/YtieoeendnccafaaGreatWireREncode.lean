/- What phalanxref03.Encode returns: all items' bytes, or which error. No condition but those named. -/
import Derived.Test.YtieoeendnccafaaGreatMTK
import Derived.Test.YtieoeendnccafaaGreatWireEncode
set_option linter.unusedSimpArgs false
set_option linter.unusedVariables false
set_option maxRecDepth 100000
set_option maxHeartbeats 25600000
namespace Go.Proofs.YtieoeendnccafaaGreat
section
open Go.RowKit
theorem wrone_any(x:Wire.It)(w:World)(h1 : -9223372036854775808≤x.n)(h2:x.n≤9223372036854775807)(hs:x.s.size≤16384):
  Calls Tryz.prog 100 #[.agg #[.int .i64 x.k,.int .i64 x.n,.string x.s]] w fun e w'=>e=.returned (.string (txt (Wire.one x)))∧Below w.heap.size w w':=by
 obtain⟨k,n,s⟩:=x
 by_cases hk:k=0
 ·subst hk
  exact rone_int n s w h1 h2
 ·exact rone_text k n s w (by simpa using hk) hs
theorem rfits_is(k n:Int)(s:ByteArray)(w:World)(r:Bool)(h:Wire.fits ⟨k,n,s⟩=r):
  Calls Tryz.prog 99 #[.agg #[.int .i64 k,.int .i64 n,.string s]] w fun e w'=>e=.returned (.bool r)∧Below w.heap.size w w':=by
 rw[← h];exact wrfits_any k n s w
theorem one_le{x:Wire.It}(h1 : -9223372036854775808≤x.n)(h2:x.n≤9223372036854775807)(hs:x.s.size≤16384):(Wire.one x).length≤16393:=by
 unfold Wire.one
 split
 ·rw[Wire.lead_length]
  have:=Wire.nb8 (Wire.fold_lt h1 h2)
  omega
 ·rw[List.length_append,Wire.lead_length,Array.length_toList]
  have:=Wire.nb2 (u:=x.s.size) (by omega)
  show _+x.s.size≤_
  omega
theorem rencode_any(A:Option Addr)(c:Nat)(l:List Wire.It)(w:World)(hl:l.length≤9223372036854775807)(hi:Items w w.heap.size A l)(hw:Wire.Wf l)(hs:∀x∈l,x.s.size≤140737488351232):
  Calls Tryz.prog 49 #[.slice A l.length c] w fun e w'=>e=.returned (.tuple #[.string (Wire.E l).1,.int .i64 (Wire.E l).2])∧Below w.heap.size w w':=by
 have HI:=zH hi
 have HW:=zH hw
 have HS:=zH hs
 clear hi hw hs
 generalize hn:l.length=n at *
 have HN:=zH hn
 clear hn
 go_enter Tryz.func49,Tryz.ntmps49
 go_wp2_with fail
 go_loopw [4] (fun vi wr=>∃k:Nat,k≤n∧vi=.int .i64 k∧Hid ((l.take k).all Wire.fits=true)∧Hid (Below w.heap.size w wr)) (fun vi _=>n-(intOf vi).toNat)
 case atStart=>exact⟨0,Nat.zero_le _,rfl,zH rfl,zH (Below.refl _ _)⟩
 case round=>
  obtain⟨k,hk,rfl,HF,HB⟩:=hrel
  by_cases hlt:k<n
  ·obtain⟨x,hx⟩:=get_of (l:=l) (k:=k) (by rw[HN.out];exact hlt)
   obtain⟨b,o,rfl,hb,hc⟩:=HI.out (by rw[HN.out];omega)
   obtain⟨c0,c1,c2⟩:=(hc k x hx).keep (w':=wr) fun p hp=>HB.out.cell (by rw[hp];exact hb)
   have HX:=zH hx
   have hs:=HB.out.size
   clear hx hc
   obtain⟨xk,xn,xs⟩:=x
   simp only at c0 c1 c2
   cases hfx:Wire.fits ⟨xk,xn,xs⟩
   ·have HR:=zH (fun w=>rfits_is xk xn xs w _ hfx)
    have HE:=zH (err_arg (unfit_all HX.out hfx))
    clear hfx
    go_wp2_with fail
    refine(HR.out _).mono ?_;rintro e w1 ⟨rfl,b1⟩
    have HB1:=zH (HB.out.trans (b1.mono (by omega)))
    clear b1
    go_wp2_with fail
    go_ret2
    exact⟨ret_pair (by rw[HE.out]) (by rw[HE.out]),HB1.out⟩
   ·have HR:=zH (fun w=>rfits_is xk xn xs w _ hfx)
    have HF1:=zH (fits_take HX.out HF.out hfx)
    clear hfx
    go_wp2_with fail
    refine(HR.out _).mono ?_;rintro e w1 ⟨rfl,b1⟩
    have HB1:=zH (HB.out.trans (b1.mono (by omega)))
    clear b1
    go_wp2_with fail
    exact⟨⟨k+1,by omega,by go_num,HF1,HB1⟩,by simp[intOf];omega⟩
  ·obtain rfl:k=n:=by omega
   have HFa:Hid (l.all Wire.fits=true):=zH (by have:=HF.out;rwa [List.take_of_length_le (by rw[HN.out];exact Nat.le_refl _)] at this)
   have hs:=HB.out.size
   clear HF
   obtain⟨wo,rfl⟩:∃wo:World,wo=wr:=⟨_,rfl⟩
   go_wp2_with fail
   go_loopw [5,6] (fun vs vi wr=>∃(j:Nat) (s:ByteArray),j≤k∧vi=.int .i64 j∧vs=.string s∧s.size≤16384∧Hid (s=txt (Wire.all (l.take j)))∧Hid (Below w.heap.size w wr)) (fun _ vi _=>k-(intOf vi).toNat)
   case atStart=>exact⟨0,⟨#[]⟩,Nat.zero_le _,rfl,rfl,by decide,zH rfl,HB⟩
   case round=>
    obtain⟨j,s,hj,rfl,rfl,hsz,HSj,HBj⟩:=hrel
    have hsj:=HBj.out.size
    clear HB hs
    by_cases hlt:j<k
    ·obtain⟨x,hx⟩:=get_of (l:=l) (k:=j) (by rw[HN.out];exact hlt)
     obtain⟨b,o,rfl,hb,hc⟩:=HI.out (by rw[HN.out];omega)
     obtain⟨c0,c1,c2⟩:=(hc j x hx).keep (w':=wr) fun p hp=>HBj.out.cell (by rw[hp];exact hb)
     have hmem:=List.mem_of_getElem? hx
     have hW:=HW.out x hmem
     have hfx:=List.all_eq_true.1 HFa.out x hmem
     have H1:=zH (Wire.size_one_le hfx)
     have HA:=zH (all_take hx)
     have HLL:=zH (all_prefix_le l (j+1))
     have hxs:=HS.out x hmem
     clear hmem hx hc hfx
     by_cases hbig:16384-(s.size:Int)<(x.s.size:Int)
     ·have HE:=zH (err_long HFa.out (by
       have h1:=H1.out
       have h2:=HLL.out
       have h3:=congrArg ByteArray.size HSj.out
       rw[HA.out,List.length_append] at h2
       rw[txt_size] at h3
       omega))
      obtain⟨xk,xn,xs⟩:=x
      simp only at c0 c1 c2 hbig hxs
      go_wp2_with fail
      go_ret2
      exact⟨ret_pair (by rw[HE.out]) (by rw[HE.out]),HBj.out⟩
     ·have HP:=zH (fun w=>wrone_any x w hW.1 hW.2 (by omega))
      have h9:=one_le hW.1 hW.2 (by omega)
      have HJ:Hid (s++txt (Wire.one x)=txt (Wire.all (l.take (j+1)))):=zH (by rw[HSj.out,txt_append,HA.out])
      have hts:(txt (Wire.one x)).size≤16393:=h9
      obtain⟨xk,xn,xs⟩:=x
      simp only at c0 c1 c2 HP hbig hxs
      generalize txt (Wire.one ⟨xk,xn,xs⟩)=t at *
      clear hW h9 H1 HA
      by_cases hlong:16384<s.size+t.size
      ·have HE:=zH (err_long HFa.out (by
        have h2:=HLL.out
        have h3:=congrArg ByteArray.size HJ.out
        rw[txt_size,ByteArray.size_append] at h3
        omega))
       go_wp2_with fail
       refine(HP.out _).mono ?_;rintro e w1 ⟨rfl,b1⟩
       have HB1:=zH (HBj.out.trans (b1.mono hsj))
       clear b1
       go_wp2_with fail
       go_ret2
       exact⟨ret_pair (by rw[HE.out]) (by rw[HE.out]),HB1.out⟩
      ·go_wp2_with fail
       refine(HP.out _).mono ?_;rintro e w1 ⟨rfl,b1⟩
       have HB1:=zH (HBj.out.trans (b1.mono hsj))
       clear b1
       go_wp2_with fail
       refine⟨⟨j+1,_,by omega,by go_num,rfl,by rw[ByteArray.size_append];omega,HJ,HB1⟩,by simp[intOf];omega⟩
    ·obtain rfl:j=k:=by omega
     have HT:Hid (Wire.all (l.take j)=Wire.all l):=zH (by rw[List.take_of_length_le (by rw[HN.out];exact Nat.le_refl _)])
     have HE:=zH (Wire.E_of HFa.out (by have:=congrArg ByteArray.size HSj.out;rw[txt_size,HT.out] at this;omega))
     have HSS:Hid (s=txt (Wire.all l)):=zH (by rw[HSj.out,HT.out])
     go_wp2_with fail
     go_ret2
     exact⟨ret_pair (by rw[HE.out,HSS.out];rfl) (by rw[HE.out]),HBj.out⟩
end
end Go.Proofs.YtieoeendnccafaaGreat
