/- What the reader's item does: takes an item off the front, or panics. No condition but those named. -/
import Derived.Test.YtahdlddbbnjloaaGreatNAV
set_option linter.unusedSimpArgs false
set_option linter.unusedVariables false
set_option maxRecDepth 100000
set_option maxHeartbeats 25600000
open Go.RowKit
namespace Go.Proofs.YtahdlddbbnjloaaGreat
open _root_.Go.Proofs.Tryz
section
def Rd(w:World)(g:Nat)(s:ByteArray):Prop:=w.heap[g]?=some (.cells #[.string s] 91 (0,0))
def Bv:List PanicEntry:=[{ v:=.iface 23 (.int .i64 3),recovered:=false }]
section
variable {w w':World}{g:Nat}{s t:ByteArray}
theorem Rd.lt(h:Rd w g s):g<w.heap.size:=(Array.getElem?_eq_some_iff.1 h).1
theorem Rd.cell(h:Rd w g s):w.cell? ⟨g,0,none⟩=some (.string s):=cell_of_row w g 0 _ _ (0,0) h
theorem Rd.frozen(h:Rd w g s):w.frozen? ⟨g,0,none⟩=false:=by
 unfold Rd at h;simp[World.frozen?,h]
theorem Rd.set(h:Rd w g s)(t:ByteArray):Rd (w.setCell ⟨g,0,none⟩ (.string t)) g t:=by
 unfold Rd at h ⊢;exact SE
theorem Rd.below(h:Rd w g s)(hb:Below w.heap.size w w'):Rd w' g s:=(hb.block g h.lt).trans h
theorem oH{w:World}{g:Nat}{v:Value}:w.grownBy (w.setCell ⟨g,0,none⟩ v) (some g):=
 ⟨rfl,rfl,rfl,by simp[World.setCell],fun i _ hne=>Below.heap_setCell w ⟨g,0,none⟩ v i (by rintro rfl;exact hne rfl)⟩
theorem jg{a b c:World}{r:Option Nat}(h:a.grownBy b r)(k:b.grownBy c r):a.grownBy c r:=
 ⟨k.os.trans h.os,k.tape.trans h.tape,k.output.trans h.output,Nat.le_trans h.size k.size,fun i hi hne=>(k.block i (Nat.lt_of_lt_of_le hi h.size) hne).trans (h.block i hi hne)⟩
theorem yM{a b:World}(h:Below a.heap.size a b)(r:Option Nat):a.grownBy b r:=⟨h.os,h.tape,h.output,h.size,fun i hi _=>h.block i hi⟩
end
theorem Fw(g:Nat)(s:ByteArray)(k:Nat)(w:World)(hr:Rd w g s)(hk:k≤s.size:=by rw[jy];omega)(_hs:s.size≤140737488355328:=by rw[jy];omega):
  Calls prog 72 #[.pointer (some ⟨g,0,none⟩),.int .i64 k] w fun e w'=>e=.returned (.string (s.extract 0 k))∧w'=w.setCell ⟨g,0,none⟩ (.string (s.extract k s.size)):=by
 have hc:=hr.cell;have hf:=hr.frozen;go_enter func72,ntmps72;go_wp2_with fail;go_ret;exact uw
theorem OE(g:Nat)(s:ByteArray)(k:Nat)(w:World)(hr:Rd w g s)(hk:s.size<k)(_hs:s.size≤140737488355328:=by rw[jy];omega):
  Calls prog 72 #[.pointer (some ⟨g,0,none⟩),.int .i64 k] w fun e w'=>e=.panicked Bv∧w=w':=by
 have hc:=hr.cell;have hf:=hr.frozen;go_enter func72,ntmps72;go_wp2_with fail;exact⟨rfl,rfl,rfl⟩
theorem rD(l:List UInt8)(k:Nat):(txt l).extract 0 k=txt (l.take k):=by
 apply ByteArray.ext;simp[txt]
theorem Ai(l:List UInt8)(k:Nat){n:Nat}(hn:n=(txt l).size:=by rfl):(txt l).extract k n=txt (l.drop k):=by
 subst hn;apply ByteArray.ext;rw[jy];simp[txt];exact List.take_of_length_le (by rw[List.length_drop];exact Nat.le_refl _)
theorem afk{x:Nat}{c:Nat}(hx:x<72057594037927936)(hc:c<256):bits .or .u64 ((x:Int)*256) (c:Int)=((256*x+c:Nat):Int):=by
 have h1:((x:Int)*256)=((256*x:Nat):Int):=by omega
 rw[h1,u64_or_nat _ _ (by omega) (by omega)];have h2:=Nat.two_pow_add_eq_or_of_lt (i:=8) (b:=c) (by omega) x;rw[show(2:Nat) ^ 8=256 from rfl] at h2;rw[h2]
theorem RO(l:List UInt8)(i:Nat)(h:i≤7):aF.V (l.take i)<72057594037927936:=by
 refine Nat.lt_of_lt_of_le (aF.XG _) ?_;have:(l.take i).length≤7:=Nat.le_trans (List.length_take_le _ _) h;exact Nat.pow_le_pow_right (n:=256) (by decide) this
def ajD(g:Nat)(w:World)(u:Nat)(t:List UInt8)(e:Ending)(w':World):Prop:=e=.returned (.int .u64 u)∧Rd w' g (txt t)∧w.grownBy w' (some g)
def Yb(g:Nat)(w:World)(e:Ending)(w':World):Prop:=e=.panicked Bv∧w.grownBy w' (some g)
theorem Bl(g:Nat)(l:List UInt8)(k:Nat)(w:World)(hk8:k≤8)(hr:Rd w g (txt l))(ht:aF.fU k l=none)(hs:l.length≤16384:=by omega):
  Calls prog 74 #[.pointer (some ⟨g,0,none⟩),.int .i64 k] w (Yb g w):=by
 by_cases hk:l.length<k
 ·have HC:=zH (OE g (txt l) k w hr hk)
  clear ht;go_enter func74,ntmps74;go_wp2_with fail;refine(HC.out).mono ?_;rintro e w' ⟨rfl,rfl⟩;go_wp2_with fail;exact⟨rfl,rfl,World.grownBy.refl _ _⟩
 ·have HC:=zH (Fw g (txt l) k w hr)
  unfold aF.fU at ht;rw[if_neg hk] at ht
  split at ht
  ·rename_i h2
   obtain⟨h0,h1⟩:=h2;have HG:=zH (oH (w:=w) (g:=g) (v:=(.string ((txt l).extract k (txt l).size))));have hz:((txt l).extract 0 k).size=k:=by rw[rD,jy,List.length_take];omega
   have hb:∀hp:0<((txt l).extract 0 k).size,(((txt l).extract 0 k)[0]'hp).toNat=0:=by
    rw[rD];intro hp
    show(List.toArray (l.take k))[0].toNat=0
    obtain⟨k,rfl⟩:∃j,k=j+1:=⟨k-1,by omega⟩
    match l,h1 with
    | [],_=>simp at hk
    | c::l,h1=>simp at h1;simp[h1]
   generalize (txt l).extract 0 k=s at *
   generalize (Value.string ((txt l).extract k (txt l).size))=vr at *
   clear hr ht;go_enter func74,ntmps74;go_wp2_with fail;refine(HC.out).mono ?_;rintro e w' ⟨rfl,rfl⟩;go_wp2_with fail;exact⟨rfl,rfl,HG.out⟩
  ·cases ht
theorem agm(s:ByteArray)(i:Nat)(h:i<s.size):aF.V (s.data.toList.take (i+1))=256*aF.V (s.data.toList.take i)+(s[i]'h).toNat:=by
 rw[List.take_succ_eq_append_getElem (by simpa using h)];exact aF.MJ _ _
theorem LC(g:Nat)(s:ByteArray)(k:Nat)(w w1:World)(hk8:k≤8)(hz:s.size=k)
  (HC:Hid (Calls prog 72 #[.pointer (some ⟨g,0,none⟩),.int .i64 k] w fun e w'=>e=.returned (.string s)∧w1=w'))
  (hb:∀hp:0<s.size,((((s[0]'hp).toNat:Nat):Int)==0)=false) :
  Calls prog 74 #[.pointer (some ⟨g,0,none⟩),.int .i64 k] w fun e w'=>e=.returned (.int .u64 (aF.V s.data.toList:Nat))∧w1=w':=by
 by_cases hk0:k=0
 ·subst hk0
  have hs:Hid (aF.V s.data.toList=0):=zH (by
   have:s.data.toList=[]:=List.eq_nil_of_length_eq_zero (by rw[Array.length_toList];exact hz)
   rw[this];rfl)
  clear hb;go_enter func74,ntmps74;go_wp2_with fail;refine(HC.out).mono ?_;rintro e w' ⟨rfl,rfl⟩;go_wp2_with fail;refine wp_loop_rounds 1 ?_;rw[rounds_succ];go_wp2_with fail;go_ret;exact⟨nY (by rw[hs.out];rfl),rfl⟩
 ·have hpos:0<k:=by omega
  have HV:=zH (agm s);go_enter func74,ntmps74;go_wp2_with fail;refine(HC.out).mono ?_;rintro e w' ⟨rfl,rfl⟩;go_wp2_with fail;clear hb;go_loop [6,20] (fun vu vi=>∃i:Nat,i≤k∧vi=.int .i64 i∧vu=.int .u64 (aF.V (s.data.toList.take i):Nat)) (fun _ vi=>k-(intOf vi).toNat)
  case atStart=>exact⟨0,Nat.zero_le _,rfl,rfl⟩
  case round=>
   obtain⟨i,hi,rfl,rfl⟩:=hrel;by_cases hlt:i<k
   ·have hx:=RO s.data.toList i (by omega)
    have hVi:=HV.out i (by omega);have hcl:=(s[i]'(by omega)).toNat_lt;have HO:=zH (afk hx hcl);have HVi:=zH hVi;have HW:Hid (IntKind.u64.wrap ((s[i]'(by omega)).toNat:Int)=((s[i]'(by omega)).toNat:Int)):=zH (IntWalk.u64_in _ (by omega));clear hVi hcl;generalize aF.V (s.data.toList.take i)=x at *
    go_wp2_with fail;refine⟨⟨i+1,by omega,by go_num,?_⟩,by simp[intOf];omega⟩;rw[HVi.out,HW.out];exact congrArg (Value.int IntKind.u64) HO.out
   ·obtain rfl:i=k:=by omega
    have HT:Hid (s.data.toList.take i=s.data.toList):=zH (List.take_of_length_le (by rw[Array.length_toList];exact Nat.le_of_eq hz));go_wp2_with fail;go_ret;exact⟨nY (by rw[HT.out]),rfl⟩
theorem least_some(g:Nat)(l t:List UInt8)(k u:Nat)(w:World)(hr:Rd w g (txt l))(ht:aF.fU k l=some (u,t))(hk8:k≤8:=by omega)(hs:l.length≤16384:=by omega):
  Calls prog 74 #[.pointer (some ⟨g,0,none⟩),.int .i64 k] w (ajD g w u t):=by
 unfold aF.fU at ht
 split at ht
 ·cases ht
 ·rename_i hk
  split at ht
  ·cases ht
  ·rename_i h2
   cases ht;have hz:(txt (l.take k)).size=k:=by rw[jy,List.length_take];omega
   have hc:=Fw g (txt l) k w hr;rw[rD,Ai l k] at hc;refine(LC g (txt (l.take k)) k w (w.setCell ⟨g,0,none⟩ (.string (txt (l.drop k)))) hk8 hz (zH (hc.mono fun e w' ⟨h1,h2⟩=>⟨h1,h2.symm⟩)) ?_).mono ?_
   ·intro hp
    rw[beq_eq_false_iff_ne];intro e;apply h2;refine⟨by omega,?_⟩;have hk0:0<k:=by omega
    obtain⟨k,rfl⟩:∃j,k=j+1:=⟨k-1,by omega⟩
    match l,hk with
    | [],hk=>simp at hk
    | c::l,_=>
     have e2:(c.toNat:Int)=0:=e;have:c.toNat=0:=by omega
     exact UInt8.toNat_inj.1 this
   ·rintro e w' ⟨he,rfl⟩
    exact⟨he,hr.set _,oH⟩
end
section
def FZ(w:World)(B:Nat)(x y z:Value):Prop:=w.heap[B]?=some (.cells #[x,y,z] 81 (0,0))
section
variable {w w':World}{g B:Nat}{s:ByteArray}{x y z:Value}
theorem FZ.lt(h:FZ w B x y z):B<w.heap.size:=(Array.getElem?_eq_some_iff.1 h).1
theorem FZ.cell(h:FZ w B x y z)(i:Nat):w.cell? ⟨B,i,none⟩=#[x,y,z][i]?:=cell_of_row w B i _ _ (0,0) h
theorem FZ.frozen(h:FZ w B x y z)(i:Nat):w.frozen? ⟨B,i,none⟩=false:=by
 unfold FZ at h;simp[World.frozen?,h]
theorem FZ.grown(h:FZ w B x y z)(hg:w.grownBy w' (some g))(hne:B≠g):FZ w' B x y z:=(hg.block B h.lt (fun e=>hne (by injection e))).trans h
theorem Rd.alloc(h:Rd w g s)(o:Obj):Rd (w.alloc o) g s:=(Below.heap_alloc w o g h.lt).trans h
theorem Ip{w:World}{o:Obj}{r:Option Nat}:w.grownBy (w.alloc o) r:=World.grownBy_alloc w o r
end
theorem Fy(w:World)(B:Nat){x y z:Value}(i:Nat)(v:Value)(h:FZ w B x y z):(w.setCell ⟨B,i,none⟩ v).heap[B]?=some (.cells (#[x,y,z].setIfInBounds i v) 81 (0,0)):=by
 unfold FZ at h;exact SE
theorem DR{w:World}{B:Nat}{x y z:Value}(h:FZ w B x y z)(a b c:Value):FZ (((w.setCell ⟨B,0,none⟩ a).setCell ⟨B,1,none⟩ b).setCell ⟨B,2,none⟩ c) B a b c:=by
 have h1:FZ (w.setCell ⟨B,0,none⟩ a) B a y z:=Fy w B 0 a h;have h2:FZ ((w.setCell ⟨B,0,none⟩ a).setCell ⟨B,1,none⟩ b) B a b z:=Fy _ B 1 b h1;exact Fy _ B 2 c h2
theorem GI{w:World}{g B:Nat}{s:ByteArray}(h:Rd w g s)(a b c:Value)(hne:g≠B:=by omega):Rd (((w.setCell ⟨B,0,none⟩ a).setCell ⟨B,1,none⟩ b).setCell ⟨B,2,none⟩ c) g s:=by
 unfold Rd;rw[Below.heap_setCell _ ⟨B,2,none⟩ _ g hne,Below.heap_setCell _ ⟨B,1,none⟩ _ g hne,Below.heap_setCell _ ⟨B,0,none⟩ _ g hne];exact h
theorem ql{W w:World}{r:Option Nat}(h:W.grownBy w r){B:Nat}(hB:W.heap.size≤B)(i:Nat)(v:Value):W.grownBy (w.setCell ⟨B,i,none⟩ v) r:=
 ⟨h.os,h.tape,h.output,by simpa [World.setCell] using h.size,fun j hj hne=>(Below.heap_setCell w ⟨B,i,none⟩ v j (by show j≠B;omega)).trans (h.block j hj hne)⟩
theorem yL{W w:World}{r:Option Nat}(h:W.grownBy w r){B:Nat}(hB:W.heap.size≤B)(a b c:Value):W.grownBy (((w.setCell ⟨B,0,none⟩ a).setCell ⟨B,1,none⟩ b).setCell ⟨B,2,none⟩ c) r:=
 ql (ql (ql h hB 0 a) hB 1 b) hB 2 c
def MO(g:Nat)(w:World)(x:aF.It)(t:List UInt8)(e:Ending)(w':World):Prop:=e=.returned (itv x)∧Rd w' g (txt t)∧w.grownBy w' (some g)
theorem yc(g:Nat)(c:UInt8)(r:List UInt8)(w:World)(hr:Rd w g (txt (c::r)))(hs:(c::r).length≤16384):
  Calls prog 72 #[.pointer (some ⟨g,0,none⟩),.int .i64 1] (w.alloc (.cells #[.int .i64 0,.int .i64 0,.string ⟨#[]⟩] 81)) fun e w'=>
   e=.returned (.string ⟨#[c]⟩)∧Rd w' g (txt r)∧FZ w' w.heap.size (.int .i64 0) (.int .i64 0) (.string ⟨#[]⟩)∧w.grownBy w' (some g):=by
 have h:=Fw g (txt (c::r)) 1 _ (hr.alloc (.cells #[.int .i64 0,.int .i64 0,.string ⟨#[]⟩] 81)) (hk:=(by rw[jy];simp));rw[rD,Ai _ _] at h;refine h.mono ?_;rintro e w' ⟨he,rfl⟩;refine⟨he,(hr.alloc _).set _,?_,jg (Ip) (oH)⟩;exact FZ.grown (w:=w.alloc _) (heap_alloc_new w _) (oH) (by have:=hr.lt;omega)
theorem index_one(c:UInt8)(W:World):(Instr.index 9 (.string ⟨#[c]⟩) (.int .i64 0)).run prog W=.ok (.int .u8 (c.toNat:Int)) W:=by
 rw[run_index_string W 9 _ .i64 _ underlying9,dif_pos ⟨by decide,by show(0:Int)<1;decide⟩]
 rfl
theorem VF(g:Nat)(c:UInt8)(r:List UInt8){t:List UInt8}(u:Nat)(w:World)(hr:Rd w g (txt (c::r)))(hs:(c::r).length≤16384)(hc:c.toNat≤8)(ht:aF.fU c.toNat r=some (u,t)):
  Calls prog 34 #[.pointer (some ⟨g,0,none⟩)] w (MO g w ⟨0,aF.unfold u,⟨#[]⟩⟩ t):=by
 have HC:=zH (yc g c r w hr hs);have hne:=hr.lt;have HL:=zH (fun(w1:World) (h:Rd w1 g (txt r))=>least_some g r t c.toNat u w1 (hk8:=hc) h (hs:=(by simp at hs;omega)) ht);have hu:u<18446744073709551616:=Nat.lt_of_lt_of_le (aF.gQ ht).2.2.1 (Nat.pow_le_pow_right (n:=256) (by decide) hc);have HU:=zH (fun w=>Ke u w hu);have hix:=index_one c;have hcl:=c.toNat_lt;clear hr hs ht;generalize c.toNat=f at *
 generalize (⟨#[c]⟩:ByteArray)=s1 at *
 go_enter func34,ntmps34;go_wp2_with fail;refine(HC.out).mono ?_;rintro e w1 ⟨rfl,hr1,hb1,hg1⟩;have HR1:=zH hr1;have HB1:=zH hb1;have oW:=zH hg1;clear hr1 hb1 hg1;go_wp2_with fail;refine(HL.out _ HR1.out).mono ?_;rintro e w2 ⟨rfl,hr2,hg2⟩;have HR2:=zH hr2;have HB2:=zH (HB1.out.grown hg2 (by omega));have HG2:=zH (jg oW.out hg2);clear hr2 hg2 HR1 HB1 oW;go_wp2_with fail;refine(HU.out _).mono ?_;rintro e w' ⟨rfl,rfl⟩;have k0:=HB2.out.cell 0;have k1:=HB2.out.cell 1;have k2:=HB2.out.cell 2;have f0:=HB2.out.frozen 0;have f1:=HB2.out.frozen 1;have f2:=HB2.out.frozen 2;simp at k0 k1 k2;go_wp2_with fail;have HS:=DR HB2.out (.int .i64 0) (.int .i64 (aF.unfold u)) (.string ⟨#[]⟩);have HRS:=GI HR2.out (B:=w.heap.size) (.int .i64 0) (.int .i64 (aF.unfold u)) (.string ⟨#[]⟩);have HGS:=yL HG2.out (B:=w.heap.size) (Nat.le_refl _) (.int .i64 0) (.int .i64 (aF.unfold u)) (.string ⟨#[]⟩);clear k0 k1 k2 f0 f1 f2;generalize (((w2.setCell ⟨w.heap.size,0,none⟩ (.int .i64 0)).setCell ⟨w.heap.size,1,none⟩ (.int .i64 (aF.unfold u))).setCell ⟨w.heap.size,2,none⟩ (.string ⟨#[]⟩))=w3 at *
 have k0:=HS.cell 0;have k1:=HS.cell 1;have k2:=HS.cell 2;simp at k0 k1 k2;exact bodyPost_ret (v:=.agg #[.int .i64 0,.int .i64 (aF.unfold u),.string ⟨#[]⟩]) (by simp[results,results34,go_sem,k0,k1,k2]) rfl ⟨rfl,HRS,HGS⟩
theorem QM(g:Nat)(c:UInt8)(r t:List UInt8)(u:Nat)(w:World)(hr:Rd w g (txt (c::r)))(hs:(c::r).length≤16384)(hc:16≤c.toNat)(hc2:c.toNat≤18)(ht:aF.fU (c.toNat-16) r=some (u,t))(hut:u≤t.length):
  Calls prog 34 #[.pointer (some ⟨g,0,none⟩)] w (MO g w ⟨1,0,txt (t.take u)⟩ (t.drop u)):=by
 have HC:=zH (yc g c r w hr hs);have hne:=hr.lt;have htl:=(aF.gQ ht).2.2.2;have hrl:r.length≤16383:=by simp at hs;omega
 have HL:=zH (fun(w1:World) (h:Rd w1 g (txt r))=>least_some g r t (c.toNat-16) u w1 h ht)
 have HK:Hid (∀w1:World,Rd w1 g (txt t)→Calls prog 72 #[.pointer (some ⟨g,0,none⟩),.int .i64 u] w1 fun e w'=>e=.returned (.string (txt (t.take u)))∧Rd w' g (txt (t.drop u))∧w1.grownBy w' (some g)):=zH (fun w1 h=>by
  have h1:=Fw g (txt t) u w1 h (hk:=(by rw[jy];exact hut));rw[rD,Ai _ _] at h1;refine h1.mono ?_;rintro e w' ⟨he,rfl⟩
  exact⟨he,h.set _,oH⟩)
 have HN:=zH (fun w=>Rw (txt (t.take u)) w (by rw[jy];have:=List.length_take_le u t;omega));have hix:=index_one c;have hcl:=c.toNat_lt;have hu:u≤16384:=by omega
 have hsub:((c.toNat:Int)-16)=((c.toNat-16:Nat):Int):=by omega
 have HSub:=zH hsub;clear hr hs ht htl hsub hrl hut;generalize (c.toNat-16)=f' at *
 generalize c.toNat=f at *
 generalize (⟨#[c]⟩:ByteArray)=s1 at *
 generalize txt (t.take u)=s2 at *
 go_enter func34,ntmps34;go_wp2_with fail;refine(HC.out).mono ?_;rintro e w1 ⟨rfl,hr1,hb1,hg1⟩;have HR1:=zH hr1;have HB1:=zH hb1;have oW:=zH hg1;clear hr1 hb1 hg1;go_wp2_with fail;rw[HSub.out];refine(HL.out _ HR1.out).mono ?_;rintro e w2 ⟨rfl,hr2,hg2⟩;have HR2:=zH hr2;have HB2:=zH (HB1.out.grown hg2 (by omega));have HG2:=zH (jg oW.out hg2);clear hr2 hg2 HR1 HB1 oW;go_wp2_with fail;refine(HK.out _ HR2.out).mono ?_;rintro e w3 ⟨rfl,hr3,hg3⟩;have HR3:=zH hr3;have HB3:=zH (HB2.out.grown hg3 (by omega));have HG3:=zH (jg HG2.out hg3);clear hr3 hg3 HR2 HB2 HG2;go_wp2_with fail;refine(HN.out _).mono ?_;rintro e w4 ⟨rfl,hb4⟩;have HR4:=zH (Rd.below HR3.out hb4);have HB4:=zH (HB3.out.grown (yM hb4 (some g)) (by omega));have HG4:=zH (jg HG3.out (yM hb4 _));clear hb4 HR3 HB3 HG3;have k0:=HB4.out.cell 0;have k1:=HB4.out.cell 1;have k2:=HB4.out.cell 2;have f0:=HB4.out.frozen 0;have f1:=HB4.out.frozen 1;have f2:=HB4.out.frozen 2;simp at k0 k1 k2;go_wp2_with fail;have HS:=DR HB4.out (.int .i64 1) (.int .i64 0) (.string s2);have HRS:=GI HR4.out (B:=w.heap.size) (.int .i64 1) (.int .i64 0) (.string s2);have HGS:=yL HG4.out (B:=w.heap.size) (Nat.le_refl _) (.int .i64 1) (.int .i64 0) (.string s2);clear k0 k1 k2 f0 f1 f2;generalize (((w4.setCell ⟨w.heap.size,0,none⟩ (.int .i64 1)).setCell ⟨w.heap.size,1,none⟩ (.int .i64 0)).setCell ⟨w.heap.size,2,none⟩ (.string s2))=w5 at *
 have k0:=HS.cell 0;have k1:=HS.cell 1;have k2:=HS.cell 2;simp at k0 k1 k2;exact bodyPost_ret (v:=.agg #[.int .i64 1,.int .i64 0,.string s2]) (by simp[results,results34,go_sem,k0,k1,k2]) rfl ⟨rfl,HRS,HGS⟩
theorem QO(g:Nat)(c:UInt8)(r:List UInt8)(w:World)(hr:Rd w g (txt (c::r)))(hs:(c::r).length≤16384)(hn:aF.next (c::r)=none):
  Calls prog 34 #[.pointer (some ⟨g,0,none⟩)] w (Yb g w):=by
 have HC:=zH (yc g c r w hr hs);have hne:=hr.lt;have hrl:r.length≤16383:=by simp at hs;omega
 have hix:=index_one c;have hcl:=c.toNat_lt;rw[aF.next] at hn;by_cases hc:c.toNat≤8
 ·rw[if_pos hc,Option.map_eq_none_iff] at hn
  have HL:=zH (fun(w1:World) (h:Rd w1 g (txt r))=>Bl g r c.toNat w1 hc h hn);clear hr hs hn;generalize c.toNat=f at *
  generalize (⟨#[c]⟩:ByteArray)=s1 at *
  go_enter func34,ntmps34;go_wp2_with fail;refine(HC.out).mono ?_;rintro e w1 ⟨rfl,hr1,hb1,hg1⟩;have HR1:=zH hr1;have oW:=zH hg1;clear hr1 hb1 hg1;go_wp2_with fail;exact ahj
 ·rw[if_neg hc] at hn
  by_cases hc1:16≤c.toNat∧c.toNat≤18
  ·rw[if_pos hc1] at hn
   obtain⟨hc1,hc2⟩:=hc1;have HSub:Hid (((c.toNat:Int)-16)=((c.toNat-16:Nat):Int)):=zH (by omega);rw[Option.bind_eq_none_iff] at hn
   cases ht:aF.fU (c.toNat-16) r with
   | none=>
    have HL:=zH (fun(w1:World) (h:Rd w1 g (txt r))=>Bl g r (c.toNat-16) w1 (by omega) h ht);clear hr hs hn ht;generalize (c.toNat-16)=f' at *
    generalize c.toNat=f at *
    generalize (⟨#[c]⟩:ByteArray)=s1 at *
    go_enter func34,ntmps34;go_wp2_with fail;refine(HC.out).mono ?_;rintro e w1 ⟨rfl,hr1,hb1,hg1⟩;have HR1:=zH hr1;have oW:=zH hg1;clear hr1 hb1 hg1;go_wp2_with fail;rw[HSub.out];exact ahj
   | some p=>
    obtain⟨u,t⟩:=p;have hu:=hn (u,t) ht;simp only at hu
    have hlt:t.length<u:=by
     rcases Nat.lt_or_ge t.length u with h|h
     ·exact h
     ·rw[if_neg (by omega)] at hu;cases hu
    have htl:=(aF.gQ ht).2.2.2;have hu2:u<65536:=Nat.lt_of_lt_of_le (aF.gQ ht).2.2.1 (Nat.pow_le_pow_right (n:=256) (by decide) (show c.toNat-16≤2 by omega));have HL:=zH (fun(w1:World) (h:Rd w1 g (txt r))=>least_some g r t (c.toNat-16) u w1 h ht);have HK:=zH (fun(w1:World) (h:Rd w1 g (txt t))=>OE g (txt t) u w1 h (by rw[jy];exact hlt));clear hr hs hn ht hu htl hlt;generalize (c.toNat-16)=f' at *
    generalize c.toNat=f at *
    generalize (⟨#[c]⟩:ByteArray)=s1 at *
    go_enter func34,ntmps34;go_wp2_with fail;refine(HC.out).mono ?_;rintro e w1 ⟨rfl,hr1,hb1,hg1⟩;have HR1:=zH hr1;have oW:=zH hg1;clear hr1 hb1 hg1;go_wp2_with fail;rw[HSub.out];refine(HL.out _ HR1.out).mono ?_;rintro e w2 ⟨rfl,hr2,hg2⟩;have HR2:=zH hr2;have HG2:=zH (jg oW.out hg2);clear hr2 hg2;go_wp2_with fail;refine(HK.out _ HR2.out).mono ?_;rintro e w' ⟨rfl,rfl⟩;go_wp2_with fail;exact⟨rfl,rfl,HG2.out⟩
  ·have hd:¬(16≤c.toNat)∨(16≤c.toNat∧¬(c.toNat≤18)):=by omega
   clear hr hs hn hc1;generalize c.toNat=f at *
   generalize (⟨#[c]⟩:ByteArray)=s1 at *
   rcases hd with hd|⟨hd,hd2⟩
   all_goals
    go_enter func34,ntmps34;go_wp2_with fail;refine(HC.out).mono ?_;rintro e w1 ⟨rfl,hr1,hb1,hg1⟩;have oW:=zH hg1;clear hr1 hb1 hg1;go_wp2_with fail;exact⟨rfl,rfl,oW.out⟩
theorem QN(g:Nat)(s t:List UInt8)(x:aF.It)(w:World)(hr:Rd w g (txt s))(hs:s.length≤16384)(hn:aF.next s=some (x,t)):
  Calls prog 34 #[.pointer (some ⟨g,0,none⟩)] w (MO g w x t):=by
 match s,hn with
 | c::r,hn=>
  rw[aF.next] at hn
  split at hn
  ·rename_i hc
   obtain⟨⟨u,t'⟩,h1,h2⟩:=Option.map_eq_some_iff.1 hn;cases h2;exact VF g c r u w hr hs hc h1
  ·split at hn
   ·rename_i hc1 hc
    obtain⟨⟨u,t'⟩,h1,h2⟩:=Option.bind_eq_some_iff.1 hn;simp only at h2
    split at h2
    ·cases h2
    ·rename_i hlen
     cases h2;exact QM g c r t' u w hr hs hc.1 hc.2 h1 (by omega)
   ·cases hn
end
end Go.Proofs.YtahdlddbbnjloaaGreat
