/- What is known where a reader goes through items: its block, what is left; what its methods tell. No condition but those named. -/
import Derived.Test.YtieoeendnccafaaNTK
import Derived.Test.YtieoeendnccafaaNAL
import Derived.Test.YtieoeendnccafaaNAS
import Derived.Test.YtieoeendnccafaaNAU
import Derived.Test.YtieoeendnccafaaWireEncode
import Derived.Test.YtieoeendnccafaaApRight
import Derived.Test.YtieoeendnccafaaNAP
import Derived.Test.YtieoeendnccafaaNBA
import Derived.Test.YtieoeendnccafaaNAM
import Derived.Test.YtieoeendnccafaaNAI
import Derived.Test.YtieoeendnccafaaNAN
import Derived.Test.YtieoeendnccafaaNAJ
import Derived.Test.YtieoeendnccafaaNAH
import Derived.Test.YtieoeendnccafaaNAE
import Derived.Test.YtieoeendnccafaaNAQ
import Derived.Deep.DeepCutAuto
import Derived.BigGuard
import Derived.Deep.CutBlock
import Derived.WalkKit
import Derived.WalkSpells
import Derived.WalkLawsBesides
import Derived.Handy
import Derived.Deep.QuietTactic
import Derived.BigQuiet
import Derived.Deep.Draws
import Derived.Lib.Hide
set_option linter.unusedSimpArgs false
set_option linter.unusedVariables false
set_option maxRecDepth 100000
set_option maxHeartbeats 25600000
namespace Go.Proofs.Ytieoeendnccafaa
section
open Go.RowKit
namespace Sto
end Sto
theorem len0{n:Nat}:decide (0<n)=!decide (n=0):=by
 by_cases h:n=0
 ·subst h;rfl
 ·rw[decide_eq_true (by omega:0<n),decide_eq_false h];rfl
end
section
open Go.RowKit
theorem reads_items{w:World}{B:Nat}{A:Option Addr}{l:Snp.Its}(h:itemLay.Reads w B A l):Items w B A (l.map Snp.toW):=fun hn=>by
 rw[List.length_map] at hn
 obtain⟨b,o,hA,hb,hat⟩:=h hn
 refine⟨b,o,hA,hb,fun i x hx=>?_⟩
 rw[List.getElem?_map] at hx
 obtain⟨y,hy,rfl⟩:=Option.map_eq_some_iff.1 hx
 exact at_item (hat i y hy)
def IsBe(r:ByteArray×Int)(w:World)(e:Ending)(w':World):Prop:=e=.returned (.tuple #[.string r.1,.int .i64 r.2])∧Below w.heap.size w w'
theorem wencode_its(A:Option Addr)(n c:Nat)(l:Snp.Its)(w:World)(hn:n=l.length)(hb:l.length≤1000)(hi:itemLay.Reads w w.heap.size A l)(hg:∀x∈l.map Snp.toW,Wire.Good x):
  Calls Try.prog 12 #[.slice A n c] w (IsBe (Wire.E (l.map Snp.toW)) w):=by
 have h:=encode_any A c (l.map Snp.toW) w (by rw[List.length_map];omega) (reads_items hi) (fun x hx=>⟨(hg x hx).2.1,(hg x hx).2.2.1⟩) (fun x hx=>by have:=(hg x hx).2.2.2;omega)
 rw[List.length_map,← hn] at h
 exact h
theorem ok_short{w:World}{A:Option Addr}{k c:Nat}{lo:List Oh}{n:Int}{t:Ses.T}(hs:Obs w A k c lo)(h:Ap.Ok ⟨n,vs lo,t⟩):k≤8∧∀x∈lo,Short x:=by
 have h1:(vs lo).length≤8:=h.l.len
 rw[vs_len,hs.len] at h1
 refine⟨h1,fun x hx=>?_⟩
 have b:=Snp.one_bo (h.l.ok x.v (List.mem_map.2 ⟨x,hx,rfl⟩))
 have i:=hs.i x hx
 exact⟨by rw[← i.p.sls.len];exact b.p,by rw[← i.v.len];exact b.v,by rw[← i.r.len];exact b.r⟩
theorem Snp.tbI_len(t:Ses.T):(Snp.tbI t).length≤35:=by
 have h0:=Snp.seI_len t.s0
 have h1:=Snp.seI_len t.s1
 have h2:=Snp.seI_len t.s2
 have h3:=Snp.seI_len t.s3
 have h4:=Snp.seI_len t.s4
 unfold Snp.tbI
 simp only[List.length_append]
 omega
theorem Snp.stI_len{w:World}{A:Option Addr}{k c:Nat}{lo:List Oh}(n:Int)(t:Ses.T)(hs:Obs w A k c lo)(hk:k≤8)(hsh:∀x∈lo,Short x):(Snp.stI ⟨n,vs lo,t⟩).length≤1000:=by
 have h1:=Snp.obs_len hs hk hsh
 rw[Snp.many_vs] at h1
 have h2:=Snp.tbI_len t
 unfold Snp.stI
 rw[List.length_cons,List.length_append]
 show(Snp.many Snp.obI (vs lo)).length+(Snp.tbI t).length+1≤_
 omega
theorem E_yes{s:Ap.St}(h:Ap.Ok s):Snp.E s=Wire.E ((Snp.stI s).map Snp.toW):=if_pos h
theorem nencode_any(n:Int)(A:Option Addr)(k c:Nat)(t:Ses.T)(lo:List Oh)(w:World)(hs:Obs w A k c lo)(hf:Ses.Fit t)(hfit:Snp.Fit (Snp.stI ⟨n,vs lo,t⟩)):
  Calls Try.prog 7 #[.agg (stA n A k c t)] w (IsBe (Snp.E ⟨n,vs lo,t⟩) w):=by
 have HRt:Hid (∀W,Below w.heap.size w W→Calls Try.prog 10 #[.agg (stA n A k c t)] W (IsB (decide (Ap.Ok ⟨n,vs lo,t⟩)) W)):=zH fun W hW=>apright_any n A k c t lo W (hs.later hW) hf
 have HK:=kn1 w 33 (stA n A k c t)
 by_cases hok:Ap.Ok ⟨n,vs lo,t⟩
 case neg=>
  rw[Snp.E_no hok]
  rw[decide_eq_false hok] at HRt
  unfold IsB at HRt
  clear hs hf hfit hok
  go_enter Try.func7,Try.ntmps7
  go_wp2_with (first|refine wpList_exe (kst HK 0 _ (by rfl) (by rfl) (by rfl)) (by rfl) ?_)
  refine(HRt.out _ HK.out.b).mono ?_;rintro e w1 ⟨rfl,b1⟩
  replace HK:=hkC HK b1
  clear b1
  go_wp2_with fail
  go_ret2
  exact⟨rfl,HK.out.b⟩
 case pos=>
  obtain⟨hk,hsh⟩:=ok_short hs hok
  have HIt:Hid (∀W,Below w.heap.size w W→Calls Try.prog 13 #[.agg (stA n A k c t)] W (IsLg itemLay (Snp.stI ⟨n,vs lo,t⟩) W)):=zH fun W hW=>nitems_any n A k c t lo W (hs.later hW) hf hk hsh
  have hl:=Snp.stI_len n t hs hk hsh
  have hg:=Snp.good_st hok hfit
  rw[E_yes hok]
  rw[decide_eq_true hok] at HRt
  unfold IsB at HRt
  generalize Snp.stI ⟨n,vs lo,t⟩=its at *
  have HE:Hid (∀(A:Option Addr) (m c:Nat) W,m=its.length→itemLay.Reads W W.heap.size A its→Calls Try.prog 12 #[.slice A m c] W (IsBe (Wire.E (its.map Snp.toW)) W)):=zH fun A m c W hm hr=>wencode_its A m c its W hm hl hr hg
  unfold IsBe at HE ⊢
  unfold IsLg at HIt
  clear hs hf hfit hok hk hsh hl hg
  generalize Wire.E (its.map Snp.toW)=r at *
  obtain⟨r1,r2⟩:=r
  simp only at HE ⊢
  go_enter Try.func7,Try.ntmps7
  go_wp2_with (first|refine wpList_exe (kst HK 0 _ (by rfl) (by rfl) (by rfl)) (by rfl) ?_)
  refine(HRt.out _ HK.out.b).mono ?_;rintro e w1 ⟨rfl,b1⟩
  replace HK:=hkC HK b1
  clear b1
  go_wp2_with (first|refine wpList_exe (kst HK 0 _ (by rfl) (by rfl) (by rfl)) (by rfl) ?_)
  refine(HIt.out _ HK.out.b).mono ?_;rintro e w2 ⟨A2,n2,c2,rfl,o2,b2⟩
  replace HK:=hkC HK b2
  have HI:=zH (Lay.Own.reads o2)
  clear b2 o2
  go_wp2_with fail
  refine(HE.out _ _ _ _ HI.out.1 HI.out.2).mono ?_;rintro e w3 ⟨rfl,b3⟩
  replace HK:=hkC HK b3
  clear b3
  go_wp2_with fail
  go_ret2
  exact⟨rfl,HK.out.b⟩
end
section
open Go.RowKit
theorem wrap_us(n:Int):IntKind.u64.wrap n=(Val.us n:Int):=by
 rw[IntKind.wrap_u64];unfold Val.us;omega
theorem us_lt(n:Int):Val.us n<18446744073709551616:=by unfold Val.us;omega
section
variable (b o c n:Nat)(xn yn:Int)(ys:ByteArray)(w:World)
theorem take_1(HX:Hid (∀W,Below w.heap.size w W→W.cell? ⟨b,o+1,none⟩=some (.int .i64 xn))):
  Calls Try.prog 91 #[.slice (some ⟨b,o,none⟩) 1 c] w fun e w'=>e=.returned (.agg #[.int .i64 xn,.int .i64 0,.int .u64 ((0:Nat):Int),.string ⟨#[]⟩])∧Below w.heap.size w w':=by
 have HK:=zH (Kn.start w)
 have x1:=HX.out _ HK.out.b
 go_enter Try.func91,Try.ntmps91
 go_wp2_with (first|(refine wpList_akv HK rfl rfl ?_;intro _ g1 HK';simp only[lcA,lnA] at HK';replace HK:=HK';clear HK';clear x1;have x1:=HX.out _ HK.out.b)|refine wpList_of_exec (by rfl) (kexec_vv HK 1 _ rfl rfl rfl) ?_|(first|(refine wpList_sv HK 1 rfl _ _ rfl rfl rfl rfl ?_;intro _ HK';simp only[List.set] at HK';replace HK:=HK';clear HK';clear x1;have x1:=HX.out _ HK.out.b)|(refine wpList_sv HK 0 rfl _ _ rfl rfl rfl rfl ?_;intro _ HK';simp only[List.set] at HK';replace HK:=HK';clear HK';clear x1;have x1:=HX.out _ HK.out.b)))
 exact ret_v Try.results91 rfl rfl (HK.out.blk 0 rfl) ⟨rfl,HK.out.b⟩
theorem take_i(hn:2≤n)(hc:n≤c)(hbig:n≤9223372036854775807)(ok:Bool)(hN:∀W,Calls Try.prog 81 #[.int .i64 xn] W (IsNamed true false false ok W))(HX:Hid (∀W,Below w.heap.size w W→W.cell? ⟨b,o+1,none⟩=some (.int .i64 xn)∧W.cell? ⟨b,o+4,none⟩=some (.int .i64 yn)∧W.cell? ⟨b,o+5,none⟩=some (.string ys))):
  Calls Try.prog 91 #[.slice (some ⟨b,o,none⟩) n c] w fun e w'=>e=.returned (.agg #[.int .i64 xn,.int .i64 yn,.int .u64 ((0:Nat):Int),.string ⟨#[]⟩])∧Below w.heap.size w w':=by
 have h1:((n:Int)==1)=false:=by simp;omega
 have h2:(1:Int)<(n:Int):=by omega
 have h3:(0:Int)<(n:Int):=by omega
 have h4:¬n=1:=by omega
 have h5:0<n:=by omega
 have h6:1<n:=by omega
 have HN:=zH hN
 clear hN hn hc hbig
 have HK:=zH (Kn.start w)
 obtain⟨x1,x4,x5⟩:=HX.out _ HK.out.b
 go_enter Try.func91,Try.ntmps91
 go_upto_region 4 with (first|(refine wpList_akv HK rfl rfl ?_;intro _ g1 HK';simp only[lcA,lnA] at HK';replace HK:=HK';clear HK';clear x1 x4 x5;obtain⟨x1,x4,x5⟩:=HX.out _ HK.out.b)|(first|(refine wpList_sv HK 1 rfl _ _ rfl rfl rfl rfl ?_;intro _ HK';simp only[List.set] at HK';replace HK:=HK';clear HK';clear x1 x4 x5;obtain⟨x1,x4,x5⟩:=HX.out _ HK.out.b)|(refine wpList_sv HK 0 rfl _ _ rfl rfl rfl rfl ?_;intro _ HK';simp only[List.set] at HK';replace HK:=HK';clear HK';clear x1 x4 x5;obtain⟨x1,x4,x5⟩:=HX.out _ HK.out.b)))
 have z0:=HK.out.cell 1 rfl 0 (v:=.int .i64 xn) rfl
 go_wp2_with fail
 refine(HN.out _).mono ?_;rintro e w1 ⟨rfl,b1⟩
 replace HK:=hkC HK b1
 clear b1 z0
 go_upto_region 5 with (first|(refine wpList_ak3 HK rfl rfl ?_;intro _ g3 HK';simp only[lcA,lnA] at HK';replace HK:=HK';clear HK')|(refine wpList_sf3 HK 2 rfl _ _ rfl rfl rfl rfl ?_;intro _ HK';simp only[List.set] at HK';replace HK:=HK';clear HK'))
 clear x1 x4 x5
 obtain⟨x1,x4,x5⟩:=HX.out _ HK.out.b
 have y0:=HK.out.cell 2 rfl 0 (v:=.bool true) rfl
 have y1:=HK.out.cell 2 rfl 1 (v:=.bool false) rfl
 have y2:=HK.out.cell 2 rfl 2 (v:=.bool false) rfl
 go_wp2_with (first|(refine wpList_svn HK 1 rfl _ _ rfl rfl rfl rfl ?_;intro _ HK';simp only[List.set] at HK';replace HK:=HK';clear HK';clear x1 x4 x5 y0 y1 y2;obtain⟨x1,x4,x5⟩:=HX.out _ HK.out.b;have y0:=HK.out.cell 2 rfl 0 (v:=.bool true) rfl;have y1:=HK.out.cell 2 rfl 1 (v:=.bool false) rfl;have y2:=HK.out.cell 2 rfl 2 (v:=.bool false) rfl)|(refine wpList_svf HK 1 rfl _ _ rfl rfl rfl rfl ?_;intro _ HK';simp only[List.set] at HK';replace HK:=HK';clear HK';clear x1 x4 x5 y0 y1 y2;obtain⟨x1,x4,x5⟩:=HX.out _ HK.out.b;have y0:=HK.out.cell 2 rfl 0 (v:=.bool true) rfl;have y1:=HK.out.cell 2 rfl 1 (v:=.bool false) rfl;have y2:=HK.out.cell 2 rfl 2 (v:=.bool false) rfl)|(refine wpList_svs HK 1 rfl _ _ rfl rfl rfl rfl ?_;intro _ HK';simp only[List.set] at HK';replace HK:=HK';clear HK';clear x1 x4 x5 y0 y1 y2;obtain⟨x1,x4,x5⟩:=HX.out _ HK.out.b;have y0:=HK.out.cell 2 rfl 0 (v:=.bool true) rfl;have y1:=HK.out.cell 2 rfl 1 (v:=.bool false) rfl;have y2:=HK.out.cell 2 rfl 2 (v:=.bool false) rfl)|refine wpList_of_exec (by rfl) (kexec_vv HK 1 _ rfl rfl rfl) ?_|(refine wpList_sv HK 0 rfl _ _ rfl rfl rfl rfl ?_;intro _ HK';simp only[List.set] at HK';replace HK:=HK';clear HK'))
 exact ret_v Try.results91 rfl rfl (HK.out.blk 0 rfl) ⟨rfl,HK.out.b⟩
theorem take_f(hn:2≤n)(hc:n≤c)(hbig:n≤9223372036854775807)(ok:Bool)(hN:∀W,Calls Try.prog 81 #[.int .i64 xn] W (IsNamed false true false ok W))(HX:Hid (∀W,Below w.heap.size w W→W.cell? ⟨b,o+1,none⟩=some (.int .i64 xn)∧W.cell? ⟨b,o+4,none⟩=some (.int .i64 yn)∧W.cell? ⟨b,o+5,none⟩=some (.string ys))):
  Calls Try.prog 91 #[.slice (some ⟨b,o,none⟩) n c] w fun e w'=>e=.returned (.agg #[.int .i64 xn,.int .i64 0,.int .u64 ((Val.us yn:Nat):Int),.string ⟨#[]⟩])∧Below w.heap.size w w':=by
 have h1:((n:Int)==1)=false:=by simp;omega
 have h2:(1:Int)<(n:Int):=by omega
 have h3:(0:Int)<(n:Int):=by omega
 have h4:¬n=1:=by omega
 have h5:0<n:=by omega
 have h6:1<n:=by omega
 have HN:=zH hN
 clear hN hn hc hbig
 have hus:=wrap_us yn
 generalize Val.us yn=z at *
 have HK:=zH (Kn.start w)
 obtain⟨x1,x4,x5⟩:=HX.out _ HK.out.b
 go_enter Try.func91,Try.ntmps91
 go_upto_region 4 with (first|(refine wpList_akv HK rfl rfl ?_;intro _ g1 HK';simp only[lcA,lnA] at HK';replace HK:=HK';clear HK';clear x1 x4 x5;obtain⟨x1,x4,x5⟩:=HX.out _ HK.out.b)|(first|(refine wpList_sv HK 1 rfl _ _ rfl rfl rfl rfl ?_;intro _ HK';simp only[List.set] at HK';replace HK:=HK';clear HK';clear x1 x4 x5;obtain⟨x1,x4,x5⟩:=HX.out _ HK.out.b)|(refine wpList_sv HK 0 rfl _ _ rfl rfl rfl rfl ?_;intro _ HK';simp only[List.set] at HK';replace HK:=HK';clear HK';clear x1 x4 x5;obtain⟨x1,x4,x5⟩:=HX.out _ HK.out.b)))
 have z0:=HK.out.cell 1 rfl 0 (v:=.int .i64 xn) rfl
 go_wp2_with fail
 refine(HN.out _).mono ?_;rintro e w1 ⟨rfl,b1⟩
 replace HK:=hkC HK b1
 clear b1 z0
 go_upto_region 5 with (first|(refine wpList_ak3 HK rfl rfl ?_;intro _ g3 HK';simp only[lcA,lnA] at HK';replace HK:=HK';clear HK')|(refine wpList_sf3 HK 2 rfl _ _ rfl rfl rfl rfl ?_;intro _ HK';simp only[List.set] at HK';replace HK:=HK';clear HK'))
 clear x1 x4 x5
 obtain⟨x1,x4,x5⟩:=HX.out _ HK.out.b
 have y0:=HK.out.cell 2 rfl 0 (v:=.bool false) rfl
 have y1:=HK.out.cell 2 rfl 1 (v:=.bool true) rfl
 have y2:=HK.out.cell 2 rfl 2 (v:=.bool false) rfl
 go_wp2_with (first|(refine wpList_svn HK 1 rfl _ _ rfl rfl rfl rfl ?_;intro _ HK';simp only[List.set] at HK';replace HK:=HK';clear HK';clear x1 x4 x5 y0 y1 y2;obtain⟨x1,x4,x5⟩:=HX.out _ HK.out.b;have y0:=HK.out.cell 2 rfl 0 (v:=.bool false) rfl;have y1:=HK.out.cell 2 rfl 1 (v:=.bool true) rfl;have y2:=HK.out.cell 2 rfl 2 (v:=.bool false) rfl)|(refine wpList_svf HK 1 rfl _ _ rfl rfl rfl rfl ?_;intro _ HK';simp only[List.set] at HK';replace HK:=HK';clear HK';clear x1 x4 x5 y0 y1 y2;obtain⟨x1,x4,x5⟩:=HX.out _ HK.out.b;have y0:=HK.out.cell 2 rfl 0 (v:=.bool false) rfl;have y1:=HK.out.cell 2 rfl 1 (v:=.bool true) rfl;have y2:=HK.out.cell 2 rfl 2 (v:=.bool false) rfl)|(refine wpList_svs HK 1 rfl _ _ rfl rfl rfl rfl ?_;intro _ HK';simp only[List.set] at HK';replace HK:=HK';clear HK';clear x1 x4 x5 y0 y1 y2;obtain⟨x1,x4,x5⟩:=HX.out _ HK.out.b;have y0:=HK.out.cell 2 rfl 0 (v:=.bool false) rfl;have y1:=HK.out.cell 2 rfl 1 (v:=.bool true) rfl;have y2:=HK.out.cell 2 rfl 2 (v:=.bool false) rfl)|refine wpList_of_exec (by rfl) (kexec_vv HK 1 _ rfl rfl rfl) ?_|(refine wpList_sv HK 0 rfl _ _ rfl rfl rfl rfl ?_;intro _ HK';simp only[List.set] at HK';replace HK:=HK';clear HK'))
 exact ret_v Try.results91 rfl rfl (HK.out.blk 0 rfl) ⟨rfl,HK.out.b⟩
theorem take_s(hn:2≤n)(hc:n≤c)(hbig:n≤9223372036854775807)(ok:Bool)(hN:∀W,Calls Try.prog 81 #[.int .i64 xn] W (IsNamed false false true ok W))(HX:Hid (∀W,Below w.heap.size w W→W.cell? ⟨b,o+1,none⟩=some (.int .i64 xn)∧W.cell? ⟨b,o+4,none⟩=some (.int .i64 yn)∧W.cell? ⟨b,o+5,none⟩=some (.string ys))):
  Calls Try.prog 91 #[.slice (some ⟨b,o,none⟩) n c] w fun e w'=>e=.returned (.agg #[.int .i64 xn,.int .i64 0,.int .u64 ((0:Nat):Int),.string ys])∧Below w.heap.size w w':=by
 have h1:((n:Int)==1)=false:=by simp;omega
 have h2:(1:Int)<(n:Int):=by omega
 have h3:(0:Int)<(n:Int):=by omega
 have h4:¬n=1:=by omega
 have h5:0<n:=by omega
 have h6:1<n:=by omega
 have HN:=zH hN
 clear hN hn hc hbig
 have HK:=zH (Kn.start w)
 obtain⟨x1,x4,x5⟩:=HX.out _ HK.out.b
 go_enter Try.func91,Try.ntmps91
 go_upto_region 4 with (first|(refine wpList_akv HK rfl rfl ?_;intro _ g1 HK';simp only[lcA,lnA] at HK';replace HK:=HK';clear HK';clear x1 x4 x5;obtain⟨x1,x4,x5⟩:=HX.out _ HK.out.b)|(first|(refine wpList_sv HK 1 rfl _ _ rfl rfl rfl rfl ?_;intro _ HK';simp only[List.set] at HK';replace HK:=HK';clear HK';clear x1 x4 x5;obtain⟨x1,x4,x5⟩:=HX.out _ HK.out.b)|(refine wpList_sv HK 0 rfl _ _ rfl rfl rfl rfl ?_;intro _ HK';simp only[List.set] at HK';replace HK:=HK';clear HK';clear x1 x4 x5;obtain⟨x1,x4,x5⟩:=HX.out _ HK.out.b)))
 have z0:=HK.out.cell 1 rfl 0 (v:=.int .i64 xn) rfl
 go_wp2_with fail
 refine(HN.out _).mono ?_;rintro e w1 ⟨rfl,b1⟩
 replace HK:=hkC HK b1
 clear b1 z0
 go_upto_region 5 with (first|(refine wpList_ak3 HK rfl rfl ?_;intro _ g3 HK';simp only[lcA,lnA] at HK';replace HK:=HK';clear HK')|(refine wpList_sf3 HK 2 rfl _ _ rfl rfl rfl rfl ?_;intro _ HK';simp only[List.set] at HK';replace HK:=HK';clear HK'))
 clear x1 x4 x5
 obtain⟨x1,x4,x5⟩:=HX.out _ HK.out.b
 have y0:=HK.out.cell 2 rfl 0 (v:=.bool false) rfl
 have y1:=HK.out.cell 2 rfl 1 (v:=.bool false) rfl
 have y2:=HK.out.cell 2 rfl 2 (v:=.bool true) rfl
 go_wp2_with (first|(refine wpList_svn HK 1 rfl _ _ rfl rfl rfl rfl ?_;intro _ HK';simp only[List.set] at HK';replace HK:=HK';clear HK';clear x1 x4 x5 y0 y1 y2;obtain⟨x1,x4,x5⟩:=HX.out _ HK.out.b;have y0:=HK.out.cell 2 rfl 0 (v:=.bool false) rfl;have y1:=HK.out.cell 2 rfl 1 (v:=.bool false) rfl;have y2:=HK.out.cell 2 rfl 2 (v:=.bool true) rfl)|(refine wpList_svf HK 1 rfl _ _ rfl rfl rfl rfl ?_;intro _ HK';simp only[List.set] at HK';replace HK:=HK';clear HK';clear x1 x4 x5 y0 y1 y2;obtain⟨x1,x4,x5⟩:=HX.out _ HK.out.b;have y0:=HK.out.cell 2 rfl 0 (v:=.bool false) rfl;have y1:=HK.out.cell 2 rfl 1 (v:=.bool false) rfl;have y2:=HK.out.cell 2 rfl 2 (v:=.bool true) rfl)|(refine wpList_svs HK 1 rfl _ _ rfl rfl rfl rfl ?_;intro _ HK';simp only[List.set] at HK';replace HK:=HK';clear HK';clear x1 x4 x5 y0 y1 y2;obtain⟨x1,x4,x5⟩:=HX.out _ HK.out.b;have y0:=HK.out.cell 2 rfl 0 (v:=.bool false) rfl;have y1:=HK.out.cell 2 rfl 1 (v:=.bool false) rfl;have y2:=HK.out.cell 2 rfl 2 (v:=.bool true) rfl)|refine wpList_of_exec (by rfl) (kexec_vv HK 1 _ rfl rfl rfl) ?_|(refine wpList_sv HK 0 rfl _ _ rfl rfl rfl rfl ?_;intro _ HK';simp only[List.set] at HK';replace HK:=HK';clear HK'))
 exact ret_v Try.results91 rfl rfl (HK.out.blk 0 rfl) ⟨rfl,HK.out.b⟩
theorem take_z(hn:2≤n)(hc:n≤c)(hbig:n≤9223372036854775807)(ok:Bool)(hN:∀W,Calls Try.prog 81 #[.int .i64 xn] W (IsNamed false false false ok W))(HX:Hid (∀W,Below w.heap.size w W→W.cell? ⟨b,o+1,none⟩=some (.int .i64 xn)∧W.cell? ⟨b,o+4,none⟩=some (.int .i64 yn)∧W.cell? ⟨b,o+5,none⟩=some (.string ys))):
  Calls Try.prog 91 #[.slice (some ⟨b,o,none⟩) n c] w fun e w'=>e=.returned (.agg #[.int .i64 xn,.int .i64 0,.int .u64 ((0:Nat):Int),.string ⟨#[]⟩])∧Below w.heap.size w w':=by
 have h1:((n:Int)==1)=false:=by simp;omega
 have h2:(1:Int)<(n:Int):=by omega
 have h3:(0:Int)<(n:Int):=by omega
 have h4:¬n=1:=by omega
 have h5:0<n:=by omega
 have h6:1<n:=by omega
 have HN:=zH hN
 clear hN hn hc hbig
 have HK:=zH (Kn.start w)
 obtain⟨x1,x4,x5⟩:=HX.out _ HK.out.b
 go_enter Try.func91,Try.ntmps91
 go_upto_region 4 with (first|(refine wpList_akv HK rfl rfl ?_;intro _ g1 HK';simp only[lcA,lnA] at HK';replace HK:=HK';clear HK';clear x1 x4 x5;obtain⟨x1,x4,x5⟩:=HX.out _ HK.out.b)|(first|(refine wpList_sv HK 1 rfl _ _ rfl rfl rfl rfl ?_;intro _ HK';simp only[List.set] at HK';replace HK:=HK';clear HK';clear x1 x4 x5;obtain⟨x1,x4,x5⟩:=HX.out _ HK.out.b)|(refine wpList_sv HK 0 rfl _ _ rfl rfl rfl rfl ?_;intro _ HK';simp only[List.set] at HK';replace HK:=HK';clear HK';clear x1 x4 x5;obtain⟨x1,x4,x5⟩:=HX.out _ HK.out.b)))
 have z0:=HK.out.cell 1 rfl 0 (v:=.int .i64 xn) rfl
 go_wp2_with fail
 refine(HN.out _).mono ?_;rintro e w1 ⟨rfl,b1⟩
 replace HK:=hkC HK b1
 clear b1 z0
 go_upto_region 5 with (first|(refine wpList_ak3 HK rfl rfl ?_;intro _ g3 HK';simp only[lcA,lnA] at HK';replace HK:=HK';clear HK')|(refine wpList_sf3 HK 2 rfl _ _ rfl rfl rfl rfl ?_;intro _ HK';simp only[List.set] at HK';replace HK:=HK';clear HK'))
 clear x1 x4 x5
 obtain⟨x1,x4,x5⟩:=HX.out _ HK.out.b
 have y0:=HK.out.cell 2 rfl 0 (v:=.bool false) rfl
 have y1:=HK.out.cell 2 rfl 1 (v:=.bool false) rfl
 have y2:=HK.out.cell 2 rfl 2 (v:=.bool false) rfl
 go_wp2_with (first|(refine wpList_svn HK 1 rfl _ _ rfl rfl rfl rfl ?_;intro _ HK';simp only[List.set] at HK';replace HK:=HK';clear HK';clear x1 x4 x5 y0 y1 y2;obtain⟨x1,x4,x5⟩:=HX.out _ HK.out.b;have y0:=HK.out.cell 2 rfl 0 (v:=.bool false) rfl;have y1:=HK.out.cell 2 rfl 1 (v:=.bool false) rfl;have y2:=HK.out.cell 2 rfl 2 (v:=.bool false) rfl)|(refine wpList_svf HK 1 rfl _ _ rfl rfl rfl rfl ?_;intro _ HK';simp only[List.set] at HK';replace HK:=HK';clear HK';clear x1 x4 x5 y0 y1 y2;obtain⟨x1,x4,x5⟩:=HX.out _ HK.out.b;have y0:=HK.out.cell 2 rfl 0 (v:=.bool false) rfl;have y1:=HK.out.cell 2 rfl 1 (v:=.bool false) rfl;have y2:=HK.out.cell 2 rfl 2 (v:=.bool false) rfl)|(refine wpList_svs HK 1 rfl _ _ rfl rfl rfl rfl ?_;intro _ HK';simp only[List.set] at HK';replace HK:=HK';clear HK';clear x1 x4 x5 y0 y1 y2;obtain⟨x1,x4,x5⟩:=HX.out _ HK.out.b;have y0:=HK.out.cell 2 rfl 0 (v:=.bool false) rfl;have y1:=HK.out.cell 2 rfl 1 (v:=.bool false) rfl;have y2:=HK.out.cell 2 rfl 2 (v:=.bool false) rfl)|refine wpList_of_exec (by rfl) (kexec_vv HK 1 _ rfl rfl rfl) ?_|(refine wpList_sv HK 0 rfl _ _ rfl rfl rfl rfl ?_;intro _ HK';simp only[List.set] at HK';replace HK:=HK';clear HK'))
 exact ret_v Try.results91 rfl rfl (HK.out.blk 0 rfl) ⟨rfl,HK.out.b⟩
end
theorem vtake_any(b o c n:Nat)(l:List Itm.It)(w:World)(hl:l.length=n)(h0:0<n)(hc:n≤c)(hbig:n≤9223372036854775807)(hb:b<w.heap.size)(hi:∀i x,l[i]?=some x→itemLay.At w b o i x):
  Calls Try.prog 91 #[.slice (some ⟨b,o,none⟩) n c] w fun e w'=>e=.returned (vv (Val.take l))∧Below w.heap.size w w':=by
 match l,hl with
 | [],hl=>simp at hl;omega
 | [x],hl=>
  obtain rfl:n=1:=by simpa using hl.symm
  exact take_1 b o c x.n w (zH fun W hW=>by
   have:=(at_item ((hi 0 x rfl).keep (w':=W) fun q hq=>hW.cell (by rw[hq];exact hb))).2.1
   simpa using this)
 | x::y::r,hl=>
  have hn2:2≤n:=by simp at hl;omega
  have HX:Hid (∀W,Below w.heap.size w W→W.cell? ⟨b,o+1,none⟩=some (.int .i64 x.n)∧W.cell? ⟨b,o+4,none⟩=some (.int .i64 y.n)∧W.cell? ⟨b,o+5,none⟩=some (.string y.s)):=zH fun W hW=>by
   have k0:=(at_item ((hi 0 x rfl).keep (w':=W) fun q hq=>hW.cell (by rw[hq];exact hb))).2.1
   have k1:=at_item ((hi 1 y rfl).keep (w':=W) fun q hq=>hW.cell (by rw[hq];exact hb))
   exact⟨by simpa using k0,by simpa using k1.2.1,by simpa using k1.2.2⟩
  unfold Val.take vv
  simp only
  by_cases h1:x.n=1
  ·rw[if_pos h1,if_neg (by omega),if_neg (by omega)]
   exact take_i b o c n x.n y.n y.s w hn2 hc hbig true (fun W=>by rw[h1];exact named1 W) HX
  by_cases h2:x.n=2
  ·rw[if_neg (by omega),if_pos h2,if_neg (by omega)]
   exact take_f b o c n x.n y.n y.s w hn2 hc hbig true (fun W=>by rw[h2];exact named2 W) HX
  by_cases h3:x.n=3
  ·rw[if_neg (by omega),if_neg (by omega),if_pos h3]
   exact take_s b o c n x.n y.n y.s w hn2 hc hbig true (fun W=>by rw[h3];exact named3 W) HX
  ·rw[if_neg h1,if_neg h2,if_neg h3]
   by_cases h4:x.n=0
   ·exact take_z b o c n x.n y.n y.s w hn2 hc hbig true (fun W=>by rw[h4];exact named0 W) HX
   ·exact take_z b o c n x.n y.n y.s w hn2 hc hbig false (fun W=>named9 x.n W (by omega)) HX
theorem take_f_lt(l:List Itm.It):(Val.take l).f<18446744073709551616:=by
 match l with
 | []=>show(0:Nat)<18446744073709551616;decide
 | [x]=>show(0:Nat)<18446744073709551616;decide
 | x::y::r=>
  unfold Val.take
  simp only
  split
  ·exact us_lt _
  ·decide
end
section
open Go.RowKit
namespace Itm
theorem text_same{a b:ByteArray}(h:a.toList=b.toList):a=b:=by
 rw[ByteArray.toList_eq,ByteArray.toList_eq] at h
 exact ByteArray.ext (Array.toList_inj.1 h)
theorem num_ne{x y:Int}(h:¬x=y):(x != y)=true:=by simpa using h
end Itm
def IsEq2(l m:List Itm.It)(w:World)(e:Ending)(w':World):Prop:=∃b,e=.returned (.bool b)∧(b=true↔l=m)∧∃n,w'=w.drewN n
theorem iequal2_any(A A':Option Addr)(c c':Nat)(l m:List Itm.It)(w:World)(B B':Nat)(hl:l.length≤9223372036854775807)(_hm:m.length≤9223372036854775807)(hi:itemLay.Reads w B A l)(hi':itemLay.Reads w B' A' m):
  Calls Try.prog 92 #[.slice A l.length c,.slice A' m.length c'] w (IsEq2 l m w):=by
 by_cases hlen:l.length=m.length
 ·have HI:=zH hi
  have HI':=zH hi'
  rw[← hlen]
  clear hi hi' _hm
  generalize hn:l.length=n at *
  have HN:=zH hn
  have HM:=zH hlen
  clear hn hlen
  have hnn:((n:Int) != (n:Int))=false:=by simp
  go_enter Try.func92,Try.ntmps92
  go_wp2_with fail
  go_loopw [13] (fun vi wr=>∃k q:Nat,k≤n∧vi=.int .i64 k∧wr=w.drewN q∧Hid (l.take k=m.take k)) (fun vi _=>n-(intOf vi).toNat)
  case atStart=>exact⟨0,0,Nat.zero_le _,rfl,rfl,zH rfl⟩
  case round=>
   obtain⟨k,q,hk,rfl,rfl,HT⟩:=hrel
   by_cases hlt:k<n
   ·obtain⟨x,hx⟩:=Lay.get_of (l:=l) (k:=k) (by rw[HN.out];exact hlt)
    obtain⟨y,hy⟩:=Lay.get_of (l:=m) (k:=k) (by rw[← HM.out];exact hlt)
    obtain⟨b,o,rfl,_,hc⟩:=HI.out (by rw[HN.out];omega)
    obtain⟨b',o',rfl,_,hc'⟩:=HI'.out (by rw[← HM.out];omega)
    obtain⟨c0,c1,c2⟩:=at_item (hc k x hx)
    obtain⟨d0,d1,d2⟩:=at_item (hc' k y hy)
    have HXY:Hid (x≠y→l=m→False):=zH (fun h e=>by
     subst e
     rw[hx] at hy
     exact h (Option.some.inj hy))
    have HT1:Hid (x=y→l.take (k+1)=m.take (k+1)):=zH fun e=>by
     rw[Lay.take_succ hx,Lay.take_succ hy,HT.out,e]
    clear hc hc' hx hy
    have hk1:(0:Int)≤(k:Int):=by omega
    have hk2:(k:Int)<(n:Int):=by omega
    obtain⟨xk,xn,xs⟩:=x
    obtain⟨yk,yn,ys⟩:=y
    simp only at c0 c1 c2 d0 d1 d2
    have hcases:(xk=yk∧xn=yn∧xs=ys)∨((⟨xk,xn,xs⟩:Itm.It)≠⟨yk,yn,ys⟩∧((xk==yk)=false∨(xn==yn)=false∨((xs.toList==ys.toList)=false∧¬xs.toList=ys.toList))):=by
     by_cases e1:xk=yk
     ·by_cases e2:xn=yn
      ·by_cases e3:xs=ys
       ·exact .inl ⟨e1,e2,e3⟩
       ·have h2:¬xs.toList=ys.toList:=fun e=>e3 (Itm.text_same e)
        exact .inr ⟨fun e=>e3 (by injection e),.inr (.inr ⟨by simpa using h2,h2⟩)⟩
      ·exact .inr ⟨fun e=>e2 (by injection e),.inr (.inl (by simpa using e2))⟩
     ·exact .inr ⟨fun e=>e1 (by injection e),.inl (by simpa using e1)⟩
    rcases hcases with ⟨rfl,rfl,rfl⟩|⟨hne,hd⟩
    ·go_wp2_with fail
     go_quiet (fail)
     go_wp2_with fail
     exact⟨⟨k+1,q+nq,by omega,by go_num,rfl,zH (HT1.out (by first|trivial|rfl))⟩,by simp[intOf];omega⟩
    ·have HF:=zH (HXY.out hne)
     clear HXY hne
     rcases hd with hd|hd|⟨hd,hd2⟩
     all_goals
      go_wp2_with fail
      go_quiet (fail)
      go_wp2_with fail
      go_ret
      exact⟨false,rfl,⟨(fun e=>by cases e),fun e=>(HF.out e).elim⟩,q+nq,by rw[World.drewN_drewN]⟩
   ·obtain rfl:k=n:=by omega
    have HE:Hid (l=m):=zH (by have h:=HT.out;rwa [List.take_of_length_le (by rw[HN.out];exact Nat.le_refl _),List.take_of_length_le (by rw[← HM.out];exact Nat.le_refl _)] at h)
    go_wp2_with fail
    go_ret
    exact⟨true,rfl,⟨fun _=>HE.out,fun _=>rfl⟩,q,rfl⟩
 ·have hne:((l.length:Int) != (m.length:Int))=true:=Itm.num_ne (by omega)
  have HF:Hid (l=m→False):=zH (fun e=>hlen (by rw[e]))
  generalize l.length=n at *
  generalize m.length=n' at *
  clear hlen hi hi'
  go_enter Try.func92,Try.ntmps92
  go_wp2_with fail
  go_ret
  exact⟨false,rfl,⟨(fun e=>by cases e),fun e=>(HF.out e).elim⟩,0,rfl⟩
end
section
open Go.RowKit
def IsVF2(v:Val.V)(p z n:Nat)(c:Prop)(w:World)(e:Ending)(w':World):Prop:=∃(u:Val.V) (y:Nat) (b:Bool),e=.returned (.tuple #[vv u,.int .i64 (y:Int),.bool b])∧(c→u=v∧y=z∧b=true)∧(¬c→b=false)∧(b=true→p≤y∧y≤n)∧u.f<18446744073709551616∧Below w.heap.size w w'
theorem ret_v32{fn:Func}{R:Ending→World→Prop}{a:Act}{w:World}{B:Nat}{k n:Int}{f:Nat}{s:ByteArray}{u z:Value}{q q2 q3:Tmp}(hf:fn.results=#[.cell q 26,.tmp q2,.tmp q3])(h2:a.tmps[q]?=some (.pointer (some ⟨B,0,none⟩)))(h3:a.tmps[q2]?=some u)(h4:a.tmps[q3]?=some z)(hd:a.defers=[])(hb:Blk w B 26 (vC k n f s))
  (hR:R (.returned (.tuple #[.agg #[.int .i64 k,.int .i64 n,.int .u64 (f:Int),.string s],u,z])) w):bodyPost Try.prog fn R Exit.ret a w:=by
 refine bodyPost_ret (v:=.tuple #[.agg #[.int .i64 k,.int .i64 n,.int .u64 (f:Int),.string s],u,z]) ?_ hd hR
 have h:(loadVar 26 ⟨B,0,none⟩).run Try.prog w=.ok (.agg (vC k n f s)) w:=run_loadVar_row (P:=Try.prog) w B _ _ _ (0,0) _ hb Try.underlying26 rfl info_v4
 unfold vC at h
 simp[results,hf,asAddr,Sem.run_bind,h2,h3,h4,h]
theorem it_len2(v:Val.V):1≤(Val.items v).length∧(Val.items v).length≤2:=by
 rw[items_split];(repeat' split)<;>simp
theorem at_drop2{w:World}{b o:Nat}{l:List Itm.It}(p:Nat)(h:∀i x,l[i]?=some x→itemLay.At w b o i x):∀i x,(l.drop p)[i]?=some x→itemLay.At w b (o+p*3) i x:=fun i x hx=>by
 rw[List.getElem?_drop] at hx
 have h1:=h _ _ hx
 intro j u hu
 have:=h1 j u hu
 have e:itemLay.k=3:=rfl
 rw[e] at this ⊢
 rw[show o+p*3+i*3+j=o+(p+i)*3+j from by omega]
 exact this
theorem vfrom2_any(A:Option Addr)(c n p:Nat)(l:List Itm.It)(w:World)(hl:l.length=n)(hp:p≤n)(hc:n≤c)(hbig:n≤1000000000)(hi:itemLay.Reads w w.heap.size A l):
  Calls Try.prog 82 #[.slice A n c,.int .i64 p] w
   (IsVF2 (Val.take (l.drop p)) p (p+(Val.items (Val.take (l.drop p))).length) n (p<n∧Val.chk (Val.take (l.drop p))=0∧p+(Val.items (Val.take (l.drop p))).length≤n∧(l.drop p).take (Val.items (Val.take (l.drop p))).length=Val.items (Val.take (l.drop p))) w):=by
 have HZ:Hid (∀c w',Below w.heap.size w w'→¬c→IsVF2 (Val.take (l.drop p)) p (p+(Val.items (Val.take (l.drop p))).length) n c w (.returned (.tuple #[.agg #[.int .i64 0,.int .i64 0,.int .u64 ((0:Nat):Int),.string ⟨#[]⟩],.int .i64 ((0:Nat):Int),.bool false])) w'):=
  zH fun c w' hb hc=>⟨⟨0,0,0,⟨#[]⟩⟩,0,false,rfl,fun h=>absurd h hc,(fun _=>rfl),(fun h=>by cases h),(by decide),hb⟩
 by_cases hpn:p<n
 case neg=>
  have hpe:¬((p:Int)<(n:Int)):=by omega
  have h1:¬((p:Int)<0):=by omega
  have h2:(n:Int)≤(p:Int):=by omega
  have HF:Hid (¬(p<n∧Val.chk (Val.take (l.drop p))=0∧p+(Val.items (Val.take (l.drop p))).length≤n∧(l.drop p).take (Val.items (Val.take (l.drop p))).length=Val.items (Val.take (l.drop p)))):=zH fun h=>hpn h.1
  generalize (p<n∧Val.chk (Val.take (l.drop p))=0∧p+(Val.items (Val.take (l.drop p))).length≤n∧(l.drop p).take (Val.items (Val.take (l.drop p))).length=Val.items (Val.take (l.drop p)))=cc at *
  generalize p+(Val.items (Val.take (l.drop p))).length=zz at *
  generalize Val.take (l.drop p)=v at *
  have HK:=zH (Kn.start w)
  clear hi hl hpn
  go_enter Try.func82,Try.ntmps82
  go_wp2_with (first|(refine wpList_akv HK rfl rfl ?_;intro _ g1 HK';simp only[lcA,lnA] at HK';replace HK:=HK';clear HK')|(refine wpList_sv (f2:=0) HK 0 rfl _ _ rfl rfl rfl rfl ?_;intro _ HK';simp only[List.set] at HK';replace HK:=HK';clear HK'))
  exact ret_v32 Try.results82 rfl rfl rfl rfl (HK.out.blk 0 rfl) (HZ.out _ _ HK.out.b HF.out)
 case pos=>
 obtain⟨b,o,rfl,hb,hat⟩:=hi (by omega)
 have HT:=zH (fun W (hW:Below w.heap.size w W)=>vtake_any b (o+p*3) (c-p) (n-p) (l.drop p) W (by rw[List.length_drop,hl]) (by omega) (by omega) (by omega) (Nat.lt_of_lt_of_le hb hW.size) (at_drop2 p fun i x hx=>(hat i x hx).keep fun q hq=>hW.cell (by rw[hq];exact hb)))
 have hf:=take_f_lt (l.drop p)
 have hil:=it_len2 (Val.take (l.drop p))
 have HI:=zH hi
 have HIt:=zH (fun W=>vitems_any (Val.take (l.drop p)) W hf)
 have HCk:=zH (fun W=>check_any (Val.take (l.drop p)) W hf)
 have HF:=zH hf
 have hcd:p+(Val.items (Val.take (l.drop p))).length≤n→((l.drop p).take (Val.items (Val.take (l.drop p))).length).length=(Val.items (Val.take (l.drop p))).length:=fun h=>by
  rw[List.length_take,List.length_drop,hl];omega
 have HEQ:Hid (∀W A' c' m,Below w.heap.size w W→itemLay.Reads W W.heap.size A' (Val.items (Val.take (l.drop p)))→(Val.items (Val.take (l.drop p))).length=m→p+m≤n→Calls Try.prog 92 #[.slice (some ⟨b,o+p*3,none⟩) m (c-p),.slice A' m c'] W (IsEq2 ((l.drop p).take (Val.items (Val.take (l.drop p))).length) (Val.items (Val.take (l.drop p))) W)):=zH (by
  intro W A' c' m hW ho hm hle
  subst hm
  have h:=iequal2_any (some ⟨b,o+p*3,none⟩) A' (c-p) c' ((l.drop p).take (Val.items (Val.take (l.drop p))).length) (Val.items (Val.take (l.drop p))) W W.heap.size W.heap.size (by rw[hcd (by omega)];omega) (by omega) (((HI.out.later hW (Nat.le_refl _)).drop p).take _) ho
  rw[hcd (by omega)] at h
  exact h)
 have hpc:p≤c:=by omega
 have hm:=hil.2
 clear hi hat hf hl hil
 have HG:Hid (∀w',Below w.heap.size w w'→p+(Val.items (Val.take (l.drop p))).length≤n→(p<n∧Val.chk (Val.take (l.drop p))=0∧p+(Val.items (Val.take (l.drop p))).length≤n∧(l.drop p).take (Val.items (Val.take (l.drop p))).length=Val.items (Val.take (l.drop p)))→IsVF2 (Val.take (l.drop p)) p (p+(Val.items (Val.take (l.drop p))).length) n (p<n∧Val.chk (Val.take (l.drop p))=0∧p+(Val.items (Val.take (l.drop p))).length≤n∧(l.drop p).take (Val.items (Val.take (l.drop p))).length=Val.items (Val.take (l.drop p))) w (.returned (.tuple #[vv (Val.take (l.drop p)),.int .i64 ((p+(Val.items (Val.take (l.drop p))).length:Nat):Int),.bool true])) w'):=
  zH fun w' hb hle hcc=>⟨_,_,true,rfl,fun _=>⟨rfl,rfl,rfl⟩,fun h=>absurd hcc h,fun _=>⟨by omega,hle⟩,HF.out,hb⟩
 have HN:Hid ((p<n∧Val.chk (Val.take (l.drop p))=0∧p+(Val.items (Val.take (l.drop p))).length≤n∧(l.drop p).take (Val.items (Val.take (l.drop p))).length=Val.items (Val.take (l.drop p)))↔Val.chk (Val.take (l.drop p))=0∧p+(Val.items (Val.take (l.drop p))).length≤n∧(l.drop p).take (Val.items (Val.take (l.drop p))).length=Val.items (Val.take (l.drop p))):=zH ⟨fun h=>h.2,fun h=>⟨hpn,h⟩⟩
 generalize (p<n∧Val.chk (Val.take (l.drop p))=0∧p+(Val.items (Val.take (l.drop p))).length≤n∧(l.drop p).take (Val.items (Val.take (l.drop p))).length=Val.items (Val.take (l.drop p)))=cc at *
 clear hcd HF
 unfold IsIt at HIt
 generalize (l.drop p).take (Val.items (Val.take (l.drop p))).length=pre at *
 generalize Val.take (l.drop p)=v at *
 generalize Val.items v=own at *
 generalize hmm:own.length=m at *
 have HM:=zH hmm
 clear hmm
 obtain⟨k,q,f,s⟩:=v
 generalize hck:Val.chk ⟨k,q,f,s⟩=z at *
 have HCK:=zH hck
 clear hck
 unfold vv IsE IsEq2 at *
 simp only at HT HIt HCk HG
 have h1:¬((p:Int)<0):=by omega
 have h2:¬((n:Int)≤(p:Int)):=by omega
 have h3:wrap64 ((p:Int)+(m:Int))=((p+m:Nat):Int):=by unfold wrap64;omega
 have hz:z=0∨(z != 0)=true:=by
  by_cases h:z=0
  ·exact .inl h
  ·exact .inr (by simpa using h)
 have HK:=zH (Kn.start w)
 go_enter Try.func82,Try.ntmps82
 go_wp2_with (first|(refine wpList_akv HK rfl rfl ?_;intro _ g1 HK';simp only[lcA,lnA] at HK';replace HK:=HK';clear HK'))
 refine(HT.out _ HK.out.b).mono ?_;rintro e w1 ⟨rfl,b1⟩
 replace HK:=hkC HK b1
 clear b1 HT
 go_wp2_with (first|(refine wpList_akv HK rfl rfl ?_;intro _ g1 HK';simp only[lcA,lnA] at HK';replace HK:=HK';clear HK')|(refine wpList_sv HK 1 rfl _ _ rfl rfl rfl rfl ?_;intro _ HK';simp only[List.set] at HK';replace HK:=HK';clear HK')|refine wpList_of_exec (by rfl) (kexec_vv HK 1 _ rfl rfl rfl) ?_)
 refine(HIt.out _).mono ?_;rintro e w2 ⟨A2,c2,rfl,o2,b2⟩
 have HO:=zH (Lay.Own.reads o2).2
 replace HK:=hkC HK b2
 clear b2 o2 HIt
 go_wp2_with (first|refine wpList_of_exec (by rfl) (kexec_vv HK 1 _ rfl rfl rfl) ?_)
 refine(HCk.out _).mono ?_;rintro e w3 ⟨rfl,b3⟩
 replace HK:=hkC HK b3
 replace HO:=zH (HO.out.later b3 (Nat.le_refl _))
 clear b3 HCk
 rcases hz with rfl|hz
 ·by_cases hle:p+m≤n
  ·have h4:¬((n:Int)<((p+m:Nat):Int)):=by omega
   have h5:¬((n:Int)<(p:Int)+(m:Int)):=by omega
   have h6:p+m≤c:=by omega
   have h7:p≤p+m:=by omega
   go_wp2_with fail
   refine(HEQ.out _ _ _ _ HK.out.b HO.out rfl hle).mono ?_;rintro e w4 ⟨bb,rfl,hbb,nn,rfl⟩
   replace HK:=zH (HK.out.drewN nn)
   have HBB:=zH hbb
   clear hbb
   cases bb
   ·go_wp2_with (first|(refine wpList_sv (f2:=0) HK 0 rfl _ _ rfl rfl rfl rfl ?_;intro _ HK';simp only[List.set] at HK';replace HK:=HK';clear HK'))
    exact ret_v32 Try.results82 rfl rfl rfl rfl (HK.out.blk 0 rfl) (HZ.out _ _ HK.out.b fun h=>absurd (HBB.out.2 (HN.out.1 h).2.2) (by simp))
   ·go_wp2_with (first|refine wpList_of_exec (by rfl) (kexec_vv HK 1 _ rfl rfl rfl) ?_|(refine wpList_sv HK 0 rfl _ _ rfl rfl rfl rfl ?_;intro _ HK';simp only[List.set] at HK';replace HK:=HK';clear HK'))
    exact ret_v32 Try.results82 rfl rfl rfl rfl (HK.out.blk 0 rfl) (HG.out _ HK.out.b hle (HN.out.2 ⟨(by first|trivial|rfl),hle,HBB.out.1 (by first|trivial|rfl)⟩))
  ·have h4:((n:Int)<((p+m:Nat):Int)):=by omega
   have h5:((n:Int)<(p:Int)+(m:Int)):=by omega
   go_wp2_with (first|(refine wpList_sv (f2:=0) HK 0 rfl _ _ rfl rfl rfl rfl ?_;intro _ HK';simp only[List.set] at HK';replace HK:=HK';clear HK'))
   exact ret_v32 Try.results82 rfl rfl rfl rfl (HK.out.blk 0 rfl) (HZ.out _ _ HK.out.b fun h=>hle (HN.out.1 h).2.1)
 ·have HNZ:Hid (¬z=0):=zH (by simpa using hz)
  go_wp2_with (first|(refine wpList_sv (f2:=0) HK 0 rfl _ _ rfl rfl rfl rfl ?_;intro _ HK';simp only[List.set] at HK';replace HK:=HK';clear HK'))
  exact ret_v32 Try.results82 rfl rfl rfl rfl (HK.out.blk 0 rfl) (HZ.out _ _ HK.out.b fun h=>HNZ.out (HN.out.1 h).1)
end
section
open Go.RowKit
structure But(g:Nat)(w W:World):Prop where
 os:W.os=w.os
 tape:W.tape=w.tape
 output:W.output=w.output
 size:W.heap.size=w.heap.size
 block:∀k,¬k=g→W.heap[k]?=w.heap[k]?
theorem But.refl(g:Nat)(w:World):But g w w:=⟨rfl,rfl,rfl,rfl,fun _ _=>rfl⟩
def Rds(g:Nat)(l:Snp.Its)(w:World):Prop:=∃(A:Option Addr) (n c:Nat),Blk w g 58 #[.slice A n c]∧itemLay.Reads w g A l∧l.length=n∧(A=none→l=[])∧n≤c∧n≤16384
theorem Rds.lt{g:Nat}{l:Snp.Its}{w:World}(h:Rds g l w):g<w.heap.size:=by
 obtain⟨A,n,c,hb,_⟩:=h
 exact hb.lt
theorem Rds.keep{g:Nat}{l:Snp.Its}{w w':World}(h:Rds g l w)(hb:∀k,k≤g→w'.heap[k]?=w.heap[k]?):Rds g l w':=by
 obtain⟨A,n,c,h1,h2,h3⟩:=h
 exact⟨A,n,c,(hb g (Nat.le_refl _)).trans h1,h2.keep fun p hp=>World.cell?_of_block (hb p.block (Nat.le_of_lt hp)),h3⟩
theorem Rds.below{g b:Nat}{l:Snp.Its}{w w':World}(h:Rds g l w)(hb:Below b w w')(hg:g<b):Rds g l w':=h.keep fun k hk=>hb.block k (by omega)
def Rst(g:Nat)(w W0:World)(l:Snp.Its):Prop:=But g w W0∧Rds g l W0
theorem Rst.start{g:Nat}{l:Snp.Its}{w:World}(h:Rds g l w):Rst g w w l:=⟨But.refl g w,h⟩
section
variable {b0:Nat}{w0 w0' w w' W0 wc w1:World}{L:List (Nat×TypeId×Array Value)}{R Rn:List RowE}{g:Nat}{l r:Snp.Its}
theorem Kn.other(h:Kn b0 w0 w L R)(hb:Below b0 w0' w')(hz:w'.heap.size=w.heap.size)(hk:∀k,b0≤k→w'.heap[k]?=w.heap[k]?):Kn b0 w0' w' L R:=by
 refine⟨hb,by rw[hz];exact h.m,fun i x hx=>⟨(h.l i x hx).1,(hk _ (h.l i x hx).1).trans (h.l i x hx).2⟩,fun i y hy=>?_,h.ll,h.lr,h.rr⟩
 obtain⟨h1,h2⟩:=h.r i y hy
 refine⟨h1,?_⟩
 rcases h2 with h0|⟨q,cap,cur,hv,hq,hg,hr⟩
 ·exact .inl h0
 ·exact .inr ⟨q,cap,cur,hv,hq,by rw[hk q hq];exact hg,hr⟩
theorem Rst.lt(h:Rst g w W0 l):g<w.heap.size:=by
 have:=h.2.lt
 rw[h.1.size] at this
 exact this
theorem Rst.at(h:Rst g w W0 l)(k:Kn w.heap.size W0 wc L R):Rds g l wc:=h.2.below k.b h.lt
theorem Rst.grown(h:Rst g w W0 l)(k:Kn w.heap.size W0 wc L R):w.grownBy wc (some g):=
 ⟨k.b.os.trans h.1.os,k.b.tape.trans h.1.tape,k.b.output.trans h.1.output,k.m,fun i hi hne=>(k.b.block i hi).trans (h.1.block i (fun e=>hne (by rw[e])))⟩
def Rok(g:Nat)(r:Snp.Its)(Rn:List RowE)(w w':World):Prop:=∃W1,Rst g w W1 r∧Kn w.heap.size W1 w' [] Rn
theorem Rok.mk(h:Rst g w W0 r)(k:Kn w.heap.size W0 w' L R):Rok g r R w w':=⟨W0,h,k.takeL 0⟩
theorem Rok.join(h:Rst g w W0 l)(k:Kn w.heap.size W0 wc L R)(q:Rok g r Rn wc w1):∃W1,Hid (Rst g w W1 r)∧Hid (Kn w.heap.size W1 w1 L (R++Rn)):=by
 obtain⟨V,⟨vb,vr⟩,kv⟩:=q
 have hg:g<w.heap.size:=h.lt
 have hm:=k.m
 have hV:g<V.heap.size:=vr.lt
 refine⟨{ w with heap:=w.heap.setIfInBounds g V.heap[g] },?_⟩
 have hz:(w.heap.setIfInBounds g V.heap[g]).size=w.heap.size:=by simp
 have hsame:∀i,i<w.heap.size→(w.heap.setIfInBounds g V.heap[g])[i]?=V.heap[i]?:=fun i hi=>by
  by_cases e:i=g
  ·subst e
   rw[Array.getElem?_setIfInBounds_self_of_lt hg,Array.getElem?_eq_getElem hV]
  ·rw[Array.getElem?_setIfInBounds_ne (fun q=>e q.symm),vb.block i e,k.b.block i hi,h.1.block i e]
 have hbut:But g w { w with heap:=w.heap.setIfInBounds g V.heap[g] }:=⟨rfl,rfl,rfl,hz,fun i hi=>by
  show(w.heap.setIfInBounds g V.heap[g])[i]?=_
  rw[Array.getElem?_setIfInBounds_ne (fun q=>hi q.symm)]⟩
 have hbel:Below w.heap.size { w with heap:=w.heap.setIfInBounds g V.heap[g] } V:=
  ⟨vb.os.trans (k.b.os.trans h.1.os),vb.tape.trans (k.b.tape.trans h.1.tape),vb.output.trans (k.b.output.trans h.1.output),by show(w.heap.setIfInBounds g V.heap[g]).size≤_;rw[hz,vb.size];exact hm,fun i hi=>(hsame i hi).symm⟩
 have kn:Kn w.heap.size { w with heap:=w.heap.setIfInBounds g V.heap[g] } V L R:=k.other hbel vb.size fun i hi=>vb.block i (by omega)
 refine⟨zH ⟨hbut,vr.keep fun i hi=>hsame i (by omega)⟩,zH (kn.join ?_)⟩
 rw[vb.size]
 exact kv
end
def Rno(g:Nat)(w:World)(e:Ending)(w':World):Prop:=e=.panicked [{ v:=.iface 23 (.int .i64 3),recovered:=false }]∧w.grownBy w' (some g)
def Rp{α:Type}(p:Snp.P α)(enc:α→Value)(g:Nat)(l:Snp.Its)(w:World)(e:Ending)(w':World):Prop:=match p l with
 | some (x,r)=>e=.returned (enc x)∧Rok g r [] w w'
 | none=>Rno g w e w'
section
variable {α:Type}{p:Snp.P α}{enc:α→Value}{g:Nat}{l r:Snp.Its}{w w':World}{e:Ending}{x:α}
theorem Rp.split(h:Rp p enc g l w e w'):(p l=none∧e=.panicked [{ v:=.iface 23 (.int .i64 3),recovered:=false }]∧w.grownBy w' (some g))∨∃x r,p l=some (x,r)∧e=.returned (enc x)∧Rok g r [] w w':=by
 unfold Rp at h
 split at h
 ·next x r hp=>exact .inr ⟨x,r,hp,h⟩
 ·next hp=>exact .inl ⟨hp,h⟩
theorem Rp.yes(hp:p l=some (x,r))(h:Rok g r [] w w'):Rp p enc g l w (.returned (enc x)) w':=by
 unfold Rp
 rw[hp]
 exact⟨rfl,h⟩
theorem Rp.no(hp:p l=none)(h:w.grownBy w' (some g)):Rp p enc g l w (.panicked [{ v:=.iface 23 (.int .i64 3),recovered:=false }]) w':=by
 unfold Rp
 rw[hp]
 exact⟨rfl,h⟩
end
theorem grown_thru{a b c:World}{q:Option Nat}(h:a.grownBy b q)(k:b.grownBy c q):a.grownBy c q:=
 ⟨k.os.trans h.os,k.tape.trans h.tape,k.output.trans h.output,Nat.le_trans h.size k.size,fun i hi hne=>(k.block i (Nat.lt_of_lt_of_le hi h.size) hne).trans (h.block i hi hne)⟩
theorem Snp.bnd_none{α β:Type}{p:Snp.P α}{f:α→Snp.P β}{l:Snp.Its}(h:p l=none):Snp.bnd p f l=none:=by
 unfold Snp.bnd;rw[h]
theorem ret_c{f:Func}{Q:Ending→World→Prop}{a:Act}{w:World}{B:Nat}{T:TypeId}{cs:Array Value}{fs:Array Field}{q:Tmp}(hf:f.results=#[.cell q T])(h2:a.tmps[q]?=some (.pointer (some ⟨B,0,none⟩)))(hd:a.defers=[])(hb:Blk w B T cs)(hu:Try.prog.underlying T=some (.struct fs))(hi:(Try.prog.info? T).map (·.size)=some cs.size)
  (hR:Q (.returned (.agg cs)) w):bodyPost Try.prog f Q Exit.ret a w:=
 bodyPost_ret (results_cell_row hf a.tmps w B _ _ (0,0) _ (by simp[h2]) hb hu rfl hi) hd hR
section
variable {P:Program}{b0:Nat}{w0 w w':World}{L:List (Nat×TypeId×Array Value)}{R:List RowE}{o:Oper}{a:Act}{Q:Exit→Act→World→Prop}
theorem kwp_scw{K:Act→World→Prop}(HK:Hid (Kn b0 w0 w L R))(ty:TypeId)(x y:Operand)(ho:o.op=.store ty x y)(i:Nat){g off:Nat}{t:TypeId}{cs:Array Value}(hL:L[i]?=some (g,t,cs))(hx:a.eval x=.pointer (some ⟨g,off,none⟩))
  {v:Value} (hy:a.eval y=v) (hc:v.cells=#[v]) (h1:v.oneCell'=true) (hsz:off<cs.size) (hi:(P.info? ty).map (·.size)=some 1)
  (h:K (a.put o.dst undef) (w.setCell ⟨g,off,none⟩ v)):o.wp P a w K Q:=by
 have hb:=HK.out.blk i hL
 have hcell:∃u,w.cell? ⟨g,off,none⟩=some u:=⟨_,(hb.cell off).trans (Array.getElem?_eq_getElem hsz)⟩
 have hs:=run_storeCells_cells (P:=P) g off [v] 0 w (fun j hj=>by
   have:j=0:=by simpa using hj
   subst this
   rw[hb.cell,Array.getElem?_eq_getElem (by omega)];rfl) (fun j _=>hb.frozen _) (fun u hu=>by simp at hu;subst hu;exact h1)
 simp only[Nat.add_zero] at hs
 have hr:(storeVar ty ⟨g,off,none⟩ v).run P w=.ok () (w.setCell ⟨g,off,none⟩ v):=by
  cases hq:P.info? ty with
  | none=>simp[hq] at hi
  | some q=>
   have hs1:q.size=1:=by simpa [hq] using hi
   simp[storeVar,sizeOf,typeInfo,hq,hc,hs1,hs,World.setCells]
 have h3:(w.setCell ⟨g,off,none⟩ v).heap.size=w.heap.size:=by simp[World.setCell]
 unfold Oper.wp execOp
 simp only[ho,hx,hy,Instr.storeAt,Instr.sureAddr,Sem.run_bind,Sem.run_pure,Result.andThen_ok,hr]
 exact h
end
theorem wpList_srd{w W0 wc:World}{L:List (Nat×TypeId×Array Value)}{R:List RowE}{g n c:Nat}{A:Option Addr}{l r:Snp.Its}{ops:Array Oper}{rest:List Oper}{o:Oper}{a:Act}{Q:Exit→Act→World→Prop}(HW:Hid (Rst g w W0 l))(HK:Hid (Kn w.heap.size W0 wc L R))(hgd:o.guard=none)(p q:Operand)(ho:o.op=.store 41 p q)(hx:a.eval p=.pointer (some ⟨g,0,none⟩))(hy:a.eval q=.slice A n c)
  (hr:Hid (∀W,Below w.heap.size W0 W→itemLay.Reads W g A r∧r.length=n∧(A=none→r=[])∧n≤c∧n≤16384))
  (h:∀W1 w',Hid (Rst g w W1 r)→Hid (Kn w.heap.size W1 w' L R)→wpList Try.prog ops Q rest (a.put o.dst undef) w'):wpList Try.prog ops Q (o::rest) a wc:=
 wpList_plain hgd fun K hK=>by
  obtain⟨A0,n0,c0,hb0,_⟩:=HW.out.2
  have hg:=HW.out.lt
  have hbc:Blk wc g 58 #[.slice A0 n0 c0]:=hb0.below HK.out.b hg
  have hk1:Hid (Kn g wc wc [(g,58,#[.slice A0 n0 c0])] []):=zH ⟨Below.refl _ _,Nat.le_of_lt hbc.lt,fun i x hx=>by
   match i,hx with
   | 0,hx=>cases hx;exact⟨Nat.le_refl _,hbc⟩,fun i y hy=>by simp at hy,fun i j x y hx hy hij=>by
   match i,j,hx,hy with
   | 0,0,_,_=>exact absurd rfl hij,fun i j x y _ hy=>by simp at hy,fun i j x y hx=>by simp at hx⟩
  refine kwp_scw hk1 41 p q ho 0 rfl hx hy rfl rfl (by show 0<1;decide) (by kernel_rfl) ?_
  have hfar:∀k,¬k=g→(wc.setCell ⟨g,0,none⟩ (.slice A n c)).heap[k]?=wc.heap[k]?:=fun k hk=>Below.heap_setCell _ _ _ k hk
  have hfar0:∀k,¬k=g→(W0.setCell ⟨g,0,none⟩ (.slice A n c)).heap[k]?=W0.heap[k]?:=fun k hk=>Below.heap_setCell _ _ _ k hk
  have hz:(wc.setCell ⟨g,0,none⟩ (.slice A n c)).heap.size=wc.heap.size:=by simp[World.setCell]
  have hz0:(W0.setCell ⟨g,0,none⟩ (.slice A n c)).heap.size=W0.heap.size:=by simp[World.setCell]
  have hb1:Blk (wc.setCell ⟨g,0,none⟩ (.slice A n c)) g 58 #[.slice A n c]:=hbc.set_ 0 _
  have hb2:Blk (W0.setCell ⟨g,0,none⟩ (.slice A n c)) g 58 #[.slice A n c]:=hb0.set_ 0 _
  have hr0:=hr.out W0 (Below.refl _ _)
  have hbel:Below w.heap.size (W0.setCell ⟨g,0,none⟩ (.slice A n c)) (wc.setCell ⟨g,0,none⟩ (.slice A n c)):=⟨HK.out.b.os,HK.out.b.tape,HK.out.b.output,by rw[hz,hz0];exact HK.out.b.size,fun k hk=>by
   by_cases e:k=g
   ·subst e
    exact Eq.trans hb1 (Eq.symm hb2)
   ·rw[hfar k e,hfar0 k e]
    exact HK.out.b.block k hk⟩
  refine hK _ _ (h (W0.setCell ⟨g,0,none⟩ (.slice A n c)) _ (zH ⟨⟨HW.out.1.os,HW.out.1.tape,HW.out.1.output,hz0.trans HW.out.1.size,fun k hk=>(hfar0 k hk).trans (HW.out.1.block k hk)⟩,A,n,c,hb2,hr0.1.keep fun p hp=>World.cell?_of_block (hfar0 _ (by omega)),hr0.2⟩) (zH (HK.out.other hbel hz fun k hk=>hfar k (by omega))))
theorem cut_one{W:World}{g b o n c:Nat}{x:Itm.It}{r:Snp.Its}(hr:itemLay.Reads W g (some ⟨b,o,none⟩) (x::r))(hl:(x::r).length=n)(hc:n≤c)(hn:n≤16384):
  itemLay.Reads W g (subA 3 (some ⟨b,o,none⟩) 1 c) r∧r.length=n-1∧(subA 3 (some ⟨b,o,none⟩) 1 c=none→r=[])∧n-1≤c-1∧n-1≤16384:=by
 have hl2:r.length+1=n:=hl
 refine⟨fun h0=>?_,by omega,fun e=>?_,by omega,by omega⟩
 ·have h1:=hr.drop 1 h0
  unfold subA
  rw[if_neg (by omega)]
  exact h1
 ·unfold subA at e
  split at e
  ·cases e
  ·cases e
theorem cut_some{W:World}{g b o n c:Nat}{l:Snp.Its}(k:Nat)(hr:itemLay.Reads W g (some ⟨b,o,none⟩) l)(hl:l.length=n)(hc:n≤c)(hn:n≤16384)(hk:k≤n):
  itemLay.Reads W g (subA 3 (some ⟨b,o,none⟩) k c) (l.drop k)∧(l.drop k).length=n-k∧(subA 3 (some ⟨b,o,none⟩) k c=none→l.drop k=[])∧n-k≤c-k∧n-k≤16384:=by
 refine⟨fun h0=>?_,by rw[List.length_drop];omega,fun e=>?_,by omega,by omega⟩
 ·have h1:=hr.drop k h0
  rw[List.length_drop] at h0
  unfold subA
  rw[if_neg (by omega),Option.map_some,Lay.add_at]
  exact h1
 ·unfold subA at e
  split at e
  ·cases e
  ·cases e
end
end Go.Proofs.Ytieoeendnccafaa
