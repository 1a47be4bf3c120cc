/- How states lie: blocks that hold one, loads and stores of it and of its parts, places of its table; replies of requests made; ways out. No condition but those named. -/
import Derived.Test.YtahdlddbbnjloaaGreatNAM
set_option linter.unusedSimpArgs false
set_option linter.unusedVariables false
set_option maxRecDepth 100000
set_option maxHeartbeats 25600000
open Go.RowKit
namespace Go.Proofs.YtahdlddbbnjloaaGreat
open _root_.Go.Proofs.Tryz
section
theorem Px(x:Oh)(w:World)(hx:In w x):Calls prog 55 #[.agg (cu x)] w (dw (au.sound x.v) w):=by
 have HI:=zH hx;have HK:=jw w 75 (cu x);have HD:=zH PZ;have HQ:=zH KV;have HL:=zH Bd;have HG:=zH LZ;have HM:=zH Lx;clear hx;unfold dw au.sound at *
 by_cases h1:x.v.kind=1
 ·rw[if_pos h1]
  go_enter func55,ntmps55;go_wp2_with (first|refine zX (jM HK 0) ?_|refine zX (vX HK 0) ?_);refine cb (HD.out _ _ _ _ _ (HI.out.p.later HK.out.b)) HK ?_;clear HK;intro _ HK;exact jq
 rw[if_neg h1];by_cases h2:x.v.kind=2
 ·rw[if_pos h2]
  go_enter func55,ntmps55;go_wp2_with (first|refine zX (jM HK 0) ?_|refine zX (ow HK 0) ?_|refine zX (Bn HK 0) ?_);refine cb (HQ.out _ _ _ _ _ _ (HI.out.v.later HK.out.b)) HK ?_;clear HK;intro _ HK;exact jq
 rw[if_neg h2];by_cases h3:x.v.kind=3
 ·rw[if_pos h3]
  go_enter func55,ntmps55;go_wp2_with (first|refine zX (jM HK 0) ?_|refine zX (kI HK 0) ?_);refine cb (HL.out _ _ _ _ _ (HI.out.r.later HK.out.b)) HK ?_;clear HK;intro _ HK;exact jq
 rw[if_neg h3];by_cases h4:x.v.kind=4
 ·rw[if_pos h4]
  generalize hg:decide (Gt.Right x.v.cap x.v.refs)=gb;have HGb:=zH hg;clear hg;cases gb
  ·go_enter func55,ntmps55
   go_wp2_with (first|refine zX (jM HK 0) ?_|refine zX (ow HK 0) ?_|refine zX (kI HK 0) ?_);refine(HG.out _ _ _ _ _ _ (HI.out.r.later HK.out.b)).mono ?_;rintro e w1 ⟨rfl,b1⟩;rw[HGb.out];replace HK:=iH HK b1;clear b1;exact jq
  ·go_enter func55,ntmps55
   go_wp2_with (first|refine zX (jM HK 0) ?_|refine zX (ow HK 0) ?_|refine zX (kI HK 0) ?_);refine(HG.out _ _ _ _ _ _ (HI.out.r.later HK.out.b)).mono ?_;rintro e w1 ⟨rfl,b1⟩;rw[HGb.out];replace HK:=iH HK b1;clear b1;go_wp2_with refine zX (Dw HK 0) ?_;exact nu
 rw[if_neg h4];by_cases h5:x.v.kind=5
 ·rw[if_pos h5]
  go_enter func55,ntmps55;go_wp2_with (first|refine zX (jM HK 0) ?_|refine zX (Dv HK 0) ?_);refine cb (HM.out x.v.mt HI.out.m _) HK ?_;clear HK;intro _ HK;exact jq
 ·rw[if_neg h5]
  go_enter func55,ntmps55;go_wp2_with refine zX (jM HK 0) ?_;exact nu
end
section
theorem Lc(A:Option Addr)(c n:Nat)(l:List Oh)(w:World)(hs:dS w A n c l):
  Calls prog 21 #[.slice A n c] w (dw (decide (au.Right (vs l))) w):=by
 unfold dw;by_cases hn:8<n
 ·have hd:decide (au.Right (vs l))=false:=decide_eq_false fun h=>by have:=h.len;rw[gq,hs.len] at this;omega
  rw[hd];have hn2:8<(n:Int):=by omega
  clear hs hd;go_enter func21,ntmps21;exact Yy
 have HS:=zH hs;obtain⟨hno,hyes⟩:=au.gu (l:=vs l) (by rw[gq];exact hs.len) (by omega:n≤8);have gX:=zH hno;have iK:=zH hyes;clear hs hno hyes;generalize decide (au.Right (vs l))=r at *
 have hn2:¬8<(n:Int):=by omega
 have HK:=zH (Kn.start w);go_enter func21,ntmps21;go_wp2_with fail;go_loopw [10] (fun vi wr=>∃k:Nat,k≤n∧vi=.int .i64 k∧Hid (∀i,i<k→au.Good (vs l) i)∧Hid (Kn w.heap.size w wr [] [])) (fun vi _=>n-(intOf vi).toNat)
 case atStart=>exact⟨0,Nat.zero_le _,rfl,zH (fun i hi=>by omega),HK⟩
 case round=>
  clear HK;obtain⟨k,hk,rfl,kE,HK⟩:=hrel;by_cases hlt:k<n
  ·obtain⟨x,hx,hin⟩:=HS.out.get hlt
   obtain⟨b,o,rfl,hat⟩:=HS.out.s.at (Nat.lt_of_le_of_lt (Nat.zero_le _) hlt);have HX:Hid (∀W,Below w.heap.size w W→∀j v,(yY x)[j]?=some v→W.cell? ⟨b,o+k*11+j,none⟩=some v):=zH (fun W hW=>hat W hW k x hx)
   have kK:Hid (∀j,k=j+1→∃y:Oh,(vs l)[j]?=some y.v∧∀W,Below w.heap.size w W→∀i v,(yY y)[i]?=some v→W.cell? ⟨b,o+j*11+i,none⟩=some v):=zH fun j hj=>by
    exact acH
   have nk:=zH (fun W=>Kr x.v.name W);have Ec:=zH (fun W (hW:Below w.heap.size w W)=>Ry x W (hin.later hW));have Sq:=zH (fun W (hW:Below w.heap.size w W)=>Px x W (hin.later hW));have hxv:=dB hx;have yx:Hid (au.Good (vs l) k↔(au.One x.v=true∧∀j y,k=j+1→(vs l)[j]?=some y→aQ.lt y.name x.v.name=true)):=zH ⟨fun h=>h _ hxv,fun h x' hx'=>by rw[hxv] at hx';injection hx' with hx';subst hx';exact h⟩;unfold au.One at yx;unfold dw at nk Ec Sq;clear hat hin hx hxv;generalize decide (au.named x.v.name)=q0 at *
   generalize au.clean x.v=q1 at *
   generalize au.sound x.v=q2 at *
   have hk1:(0:Int)≤(k:Int):=by omega
   have hk2:(k:Int)<(n:Int):=by omega
   go_wp2_with (first|(refine av (v:=.agg (cu x)) (gL (off:=o+k*11) (HX.out _ HK.out.b)) ?_)|(refine pV HK ?_;clear HK;intro _ g2 HK;simp only[aK] at HK)|(refine jF HK 0 ?_;clear HK;intro _ HK;simp only[lS] at HK))
   cases q0 with
   | false=>
    have HR:Hid (r=false):=zH (gX.out k hlt fun h=>by have:=(yx.out.1 h).1;simp at this);refine zR HK.out.drew fun ah=>?_
    refine ak 0 rfl ?_;refine ak 1 rfl ?_ fun _ s=>kJ s 0
    refine aC 2 rfl fun K hK=>?_
    go_simp;go_at_call 53;refine(nk.out _).mono ?_;rintro e w5 ⟨rfl,b5⟩;have hs:=zH (ah.out.call b5);clear b5;refine bk hK hs fun ah=>?_
    clear hK K;refine ak 3 rfl ?_;refine ak 4 rfl ?_;refine bq 5 rfl ?_;refine bq 6 rfl ?_;refine bq 7 rfl ?_;refine ak 8 rfl ?_;refine ak 9 rfl ?_;refine bq 10 rfl ?_;refine bq 11 rfl ?_;refine bq 12 rfl ?_;refine ak 13 rfl ?_;refine ak 14 rfl ?_;refine bq 15 rfl ?_;refine bq 16 rfl ?_;refine bq 17 rfl ?_;refine bq 18 rfl ?_;refine bq 19 rfl ?_;refine bq 20 rfl ?_;refine bq 21 rfl ?_;refine bq 22 rfl ?_;refine bq 23 rfl ?_;refine bq 24 rfl ?_;refine bq 25 rfl ?_;refine bq 26 rfl ?_;refine bq 27 rfl ?_;refine ak 28 rfl ?_;exact FU
   | true=>
   cases q1 with
   | false=>
    have HR:Hid (r=false):=zH (gX.out k hlt fun h=>by have:=(yx.out.1 h).1;simp at this);refine zR HK.out.drew fun ah=>?_
    refine ak 0 rfl ?_;refine ak 1 rfl ?_ fun _ s=>kJ s 0
    refine aC 2 rfl fun K hK=>?_
    go_simp;go_at_call 53;refine(nk.out _).mono ?_;rintro e w5 ⟨rfl,b5⟩;have hs:=zH (ah.out.call b5);clear b5;refine bk hK hs fun ah=>?_
    clear hK K;refine ak 3 rfl ?_;refine ak 4 rfl ?_;refine ak 5 rfl ?_ fun _ s=>lV s 0
    refine aC 6 rfl fun K hK=>?_
    go_simp;go_at_call 54;refine(Ec.out _ ah.out.b).mono ?_;rintro e w5 ⟨rfl,b5⟩;have hs:=zH (ah.out.call b5);clear b5;refine bk hK hs fun ah=>?_
    clear hK K;refine ak 7 rfl ?_;refine ak 8 rfl ?_;refine ak 9 rfl ?_;refine bq 10 rfl ?_;refine bq 11 rfl ?_;refine bq 12 rfl ?_;refine ak 13 rfl ?_;refine ak 14 rfl ?_;refine bq 15 rfl ?_;refine bq 16 rfl ?_;refine bq 17 rfl ?_;refine bq 18 rfl ?_;refine bq 19 rfl ?_;refine bq 20 rfl ?_;refine bq 21 rfl ?_;refine bq 22 rfl ?_;refine bq 23 rfl ?_;refine bq 24 rfl ?_;refine bq 25 rfl ?_;refine bq 26 rfl ?_;refine bq 27 rfl ?_;refine ak 28 rfl ?_;exact FU
   | true=>
   cases q2 with
   | false=>
    have HR:Hid (r=false):=zH (gX.out k hlt fun h=>by have:=(yx.out.1 h).1;simp at this);refine zR HK.out.drew fun ah=>?_
    refine ak 0 rfl ?_;refine ak 1 rfl ?_ fun _ s=>kJ s 0
    refine aC 2 rfl fun K hK=>?_
    go_simp;go_at_call 53;refine(nk.out _).mono ?_;rintro e w5 ⟨rfl,b5⟩;have hs:=zH (ah.out.call b5);clear b5;refine bk hK hs fun ah=>?_
    clear hK K;refine ak 3 rfl ?_;refine ak 4 rfl ?_;refine ak 5 rfl ?_ fun _ s=>lV s 0
    refine aC 6 rfl fun K hK=>?_
    go_simp;go_at_call 54;refine(Ec.out _ ah.out.b).mono ?_;rintro e w5 ⟨rfl,b5⟩;have hs:=zH (ah.out.call b5);clear b5;refine bk hK hs fun ah=>?_
    clear hK K;refine ak 7 rfl ?_;refine ak 8 rfl ?_;refine ak 9 rfl ?_;refine ak 10 rfl ?_ fun _ s=>lV s 0
    refine aC 11 rfl fun K hK=>?_
    go_simp;go_at_call 55;refine(Sq.out _ ah.out.b).mono ?_;rintro e w5 ⟨rfl,b5⟩;have hs:=zH (ah.out.call b5);clear b5;refine bk hK hs fun ah=>?_
    clear hK K;refine ak 12 rfl ?_;refine ak 13 rfl ?_;refine ak 14 rfl ?_;refine bq 15 rfl ?_;refine bq 16 rfl ?_;refine bq 17 rfl ?_;refine bq 18 rfl ?_;refine bq 19 rfl ?_;refine bq 20 rfl ?_;refine bq 21 rfl ?_;refine bq 22 rfl ?_;refine bq 23 rfl ?_;refine bq 24 rfl ?_;refine bq 25 rfl ?_;refine bq 26 rfl ?_;refine bq 27 rfl ?_;refine ak 28 rfl ?_;exact FU
   | true=>
   rcases Nat.eq_zero_or_pos k with rfl|hpos
   ·clear kK
    refine zR HK.out.drew fun ah=>?_
    refine ak 0 rfl ?_;refine ak 1 rfl ?_ fun _ s=>kJ s 0
    refine aC 2 rfl fun K hK=>?_
    go_simp;go_at_call 53;refine(nk.out _).mono ?_;rintro e w5 ⟨rfl,b5⟩;have hs:=zH (ah.out.call b5);clear b5;refine bk hK hs fun ah=>?_
    clear hK K;refine ak 3 rfl ?_;refine ak 4 rfl ?_;refine ak 5 rfl ?_ fun _ s=>lV s 0
    refine aC 6 rfl fun K hK=>?_
    go_simp;go_at_call 54;refine(Ec.out _ ah.out.b).mono ?_;rintro e w5 ⟨rfl,b5⟩;have hs:=zH (ah.out.call b5);clear b5;refine bk hK hs fun ah=>?_
    clear hK K;refine ak 7 rfl ?_;refine ak 8 rfl ?_;refine ak 9 rfl ?_;refine ak 10 rfl ?_ fun _ s=>lV s 0
    refine aC 11 rfl fun K hK=>?_
    go_simp;go_at_call 55;refine(Sq.out _ ah.out.b).mono ?_;rintro e w5 ⟨rfl,b5⟩;have hs:=zH (ah.out.call b5);clear b5;refine bk hK hs fun ah=>?_
    clear hK K;refine ak 12 rfl ?_;refine ak 13 rfl ?_;refine ak 14 rfl ?_;refine ak 15 rfl ?_;refine ak 16 rfl ?_;refine ak 17 rfl ?_;refine bq 18 rfl ?_;refine bq 19 rfl ?_;refine bq 20 rfl ?_;refine bq 21 rfl ?_;refine bq 22 rfl ?_;refine bq 23 rfl ?_;refine bq 24 rfl ?_;refine bq 25 rfl ?_;refine bq 26 rfl ?_;refine ak 27 rfl ?_;refine ak 28 rfl ?_;refine cB ?_;go_wp2_with fail
    exact⟨⟨1,by omega,by go_num,zH (fun i hi=>by
     obtain rfl:i=0:=by omega
     exact yx.out.2 ⟨rfl,fun j y h _=>by omega⟩),zH (ah.out.aB 0)⟩,by simp[intOf];omega⟩
   ·obtain⟨j,rfl⟩:∃j,k=j+1:=⟨k-1,by omega⟩
    clear hpos;obtain⟨y,hy,Od⟩:=kK.out j rfl;have HY:=zH Od;have HYl:=zH hy;clear hy Od kK;have hj:j<n:=by omega
    have hj2:j<9223372036854775807:=by omega
    have hj3:((j+1:Nat):Int) > 0:=by omega
    cases hlt2:aQ.lt y.v.name x.v.name with
    | true=>
     have hb:(!aQ.lt y.v.name x.v.name)=false:=by rw[hlt2];rfl
     refine zR HK.out.drew fun ah=>?_
     refine ak 0 rfl ?_;refine ak 1 rfl ?_ fun _ s=>kJ s 0
     refine aC 2 rfl fun K hK=>?_
     go_simp;go_at_call 53;refine(nk.out _).mono ?_;rintro e w5 ⟨rfl,b5⟩;have hs:=zH (ah.out.call b5);clear b5;refine bk hK hs fun ah=>?_
     clear hK K;refine ak 3 rfl ?_;refine ak 4 rfl ?_;refine ak 5 rfl ?_ fun _ s=>lV s 0
     refine aC 6 rfl fun K hK=>?_
     go_simp;go_at_call 54;refine(Ec.out _ ah.out.b).mono ?_;rintro e w5 ⟨rfl,b5⟩;have hs:=zH (ah.out.call b5);clear b5;refine bk hK hs fun ah=>?_
     clear hK K;refine ak 7 rfl ?_;refine ak 8 rfl ?_;refine ak 9 rfl ?_;refine ak 10 rfl ?_ fun _ s=>lV s 0
     refine aC 11 rfl fun K hK=>?_
     go_simp;go_at_call 55;refine(Sq.out _ ah.out.b).mono ?_;rintro e w5 ⟨rfl,b5⟩;have hs:=zH (ah.out.call b5);clear b5;refine bk hK hs fun ah=>?_
     clear hK K;refine ak 12 rfl ?_;refine ak 13 rfl ?_;refine ak 14 rfl ?_;refine ak 15 rfl ?_;refine ak 16 rfl ?_;refine ak 17 rfl ?_;refine ak 18 rfl ?_;refine ak 19 rfl ?_ fun _ s=>kJ s 0
     refine ak 20 rfl ?_;refine ak 21 rfl ?_;refine ak 22 rfl ?_ fun _ s=>iO (j:=j) hj2
     refine ak 23 rfl ?_ fun _ s=>bH (i:=j) hj
     refine ak 24 rfl ?_;refine ak 25 rfl ?_ fun _ s=>jB (off:=o+j*11) (HY.out _ s.out.b)
     refine ak 26 rfl ?_ fun _ s=>wJ hb
     refine ak 27 rfl ?_;refine ak 28 rfl ?_;refine cB ?_;go_wp2_with fail
     exact⟨⟨j+2,by omega,by go_num,zH (fun i hi=>by
      by_cases hij:i=j+1
      ·subst hij
       exact aef
      ·exact kE.out i (by omega)),zH (ah.out.aB 0)⟩,by simp[intOf];omega⟩
    | false=>
     have hb:(!aQ.lt y.v.name x.v.name)=true:=by rw[hlt2];rfl
     have HR:Hid (r=false):=zH (gX.out _ hlt fun h=>by
      have:=(yx.out.1 h).2 j y.v rfl HYl.out
      rw[hlt2] at this;cases this)
     refine zR HK.out.drew fun ah=>?_
     refine ak 0 rfl ?_;refine ak 1 rfl ?_ fun _ s=>kJ s 0
     refine aC 2 rfl fun K hK=>?_
     go_simp;go_at_call 53;refine(nk.out _).mono ?_;rintro e w5 ⟨rfl,b5⟩;have hs:=zH (ah.out.call b5);clear b5;refine bk hK hs fun ah=>?_
     clear hK K;refine ak 3 rfl ?_;refine ak 4 rfl ?_;refine ak 5 rfl ?_ fun _ s=>lV s 0
     refine aC 6 rfl fun K hK=>?_
     go_simp;go_at_call 54;refine(Ec.out _ ah.out.b).mono ?_;rintro e w5 ⟨rfl,b5⟩;have hs:=zH (ah.out.call b5);clear b5;refine bk hK hs fun ah=>?_
     clear hK K;refine ak 7 rfl ?_;refine ak 8 rfl ?_;refine ak 9 rfl ?_;refine ak 10 rfl ?_ fun _ s=>lV s 0
     refine aC 11 rfl fun K hK=>?_
     go_simp;go_at_call 55;refine(Sq.out _ ah.out.b).mono ?_;rintro e w5 ⟨rfl,b5⟩;have hs:=zH (ah.out.call b5);clear b5;refine bk hK hs fun ah=>?_
     clear hK K;refine ak 12 rfl ?_;refine ak 13 rfl ?_;refine ak 14 rfl ?_;refine ak 15 rfl ?_;refine ak 16 rfl ?_;refine ak 17 rfl ?_;refine ak 18 rfl ?_;refine ak 19 rfl ?_ fun _ s=>kJ s 0
     refine ak 20 rfl ?_;refine ak 21 rfl ?_;refine ak 22 rfl ?_ fun _ s=>iO (j:=j) hj2
     refine ak 23 rfl ?_ fun _ s=>bH (i:=j) hj
     refine ak 24 rfl ?_;refine ak 25 rfl ?_ fun _ s=>jB (off:=o+j*11) (HY.out _ s.out.b)
     refine ak 26 rfl ?_ fun _ s=>wJ hb
     refine ak 27 rfl ?_;refine ak 28 rfl ?_;exact FU
  ·obtain rfl:k=n:=by omega
   have HR:Hid (r=true):=zH (iK.out kE.out);exact qZ
end
section
section
variable {b0:Nat}{w0 w:World}{L:List (Nat×TypeId×Array Value)}{R:List bV}{o:Oper}{a:Act}{g:Nat}{c:aI.C}
theorem Jz(HK:Hid (Kn b0 w0 w L R))(i:Nat){p:Operand}(ho:o.op=.load 46 p:=by rfl)(hL:L[i]?=some (g,46,dL c):=by rfl)(hx:a.eval p=.pointer (some ⟨g,0,none⟩):=by rfl):
  (execOp a.eval o).run prog w=.ok (.value (.agg (dL c))) w:=dY HK p ho i hL hx (dL c) (fun j _=>by rw[Nat.zero_add]) underlying46 aaE
theorem bZ(HK:Hid (Kn b0 w0 w L R))(i:Nat){p:Operand}(ho:o.op=.load 3 p:=by rfl)(hL:L[i]?=some (g,46,dL c):=by rfl)(hx:a.eval p=.pointer (some ⟨g,0,none⟩):=by rfl):
  (execOp a.eval o).run prog w=.ok (.value (.int .i64 c.k)) w:=aT HK _ p ho i hL hx underlying3
theorem nJ(HK:Hid (Kn b0 w0 w L R))(i:Nat){p:Operand}(ho:o.op=.load 9 p:=by rfl)(hL:L[i]?=some (g,46,dL c):=by rfl)(hx:a.eval p=.pointer (some ⟨g,1,none⟩):=by rfl):
  (execOp a.eval o).run prog w=.ok (.value (.string c.name)) w:=aT HK _ p ho i hL hx underlying9
theorem NW(HK:Hid (Kn b0 w0 w L R))(i:Nat){p:Operand}(ho:o.op=.load 9 p:=by rfl)(hL:L[i]?=some (g,46,dL c):=by rfl)(hx:a.eval p=.pointer (some ⟨g,2,none⟩):=by rfl):
  (execOp a.eval o).run prog w=.ok (.value (.string c.key)) w:=aT HK _ p ho i hL hx underlying9
theorem aiT(HK:Hid (Kn b0 w0 w L R))(i:Nat){p:Operand}(ho:o.op=.load 24 p)(hL:L[i]?=some (g,46,dL c))(hx:a.eval p=.pointer (some ⟨g,5,none⟩)):
  (execOp a.eval o).run prog w=.ok (.value (.int .u64 (c.val.f:Int))) w:=aT HK _ p ho i hL hx underlying24
theorem adp(HK:Hid (Kn b0 w0 w L R))(i:Nat){p:Operand}(ho:o.op=.load 3 p:=by rfl)(hL:L[i]?=some (g,46,dL c):=by rfl)(hx:a.eval p=.pointer (some ⟨g,11,none⟩):=by rfl):
  (execOp a.eval o).run prog w=.ok (.value (.int .i64 c.n)) w:=aT HK _ p ho i hL hx underlying3
theorem aiU(HK:Hid (Kn b0 w0 w L R))(i:Nat){p:Operand}(ho:o.op=.load 3 p:=by rfl)(hL:L[i]?=some (g,46,dL c):=by rfl)(hx:a.eval p=.pointer (some ⟨g,12,none⟩):=by rfl):
  (execOp a.eval o).run prog w=.ok (.value (.int .i64 c.m)) w:=aT HK _ p ho i hL hx underlying3
theorem VE(HK:Hid (Kn b0 w0 w L R))(i:Nat){p:Operand}(ho:o.op=.load 26 p:=by rfl)(hL:L[i]?=some (g,46,dL c):=by rfl)(hx:a.eval p=.pointer (some ⟨g,3,none⟩):=by rfl):
  (execOp a.eval o).run prog w=.ok (.value (.agg #[.int .i64 c.val.k,.int .i64 c.val.n,.int .u64 (c.val.f:Int),.string c.val.s])) w:=
 dY HK p ho i hL hx #[.int .i64 c.val.k,.int .i64 c.val.n,.int .u64 (c.val.f:Int),.string c.val.s] (fun j hj=>by
  match j,hj with
  | 0,_|1,_|2,_|3,_=>rfl) underlying26 iy
theorem aiS(HK:Hid (Kn b0 w0 w L R))(i:Nat){p:Operand}(ho:o.op=.load 26 p)(hL:L[i]?=some (g,46,dL c))(hx:a.eval p=.pointer (some ⟨g,7,none⟩)):
  (execOp a.eval o).run prog w=.ok (.value (.agg #[.int .i64 c.old.k,.int .i64 c.old.n,.int .u64 (c.old.f:Int),.string c.old.s])) w:=
 dY HK p ho i hL hx #[.int .i64 c.old.k,.int .i64 c.old.n,.int .u64 (c.old.f:Int),.string c.old.s] (fun j hj=>by
  match j,hj with
  | 0,_|1,_|2,_|3,_=>rfl) underlying26 iy
end
theorem dJ{w:World}{o:Oper}{a:Act}{x k:Int}{b:Bool}{p:Operand}(hb:decide (x<k)=b)(ho:o.op=.binOp .lss 3 p (.const (.int .i64 k)) 3:=by rfl)(hp:a.eval p=.int .i64 x:=by rfl):
  (execOp a.eval o).run prog w=.ok (.value (.bool b)) w:=by
 exact aeb
end
section
theorem Fit.pt{l:List aQ.Pr}(h:Fit l){k:ByteArray}{v:Val.V}(hv:v.f<18446744073709551616):Fit (aQ.yI l k v):=by
 unfold aQ.yI
 split
 next h0=>
  unfold aQ.vR at h0
  split at h0
  next hr=>
   split at h0
   next hp=>
    split at h0
    next hn=>exact h.ins hr.up k hv hn
    next=>cases h0
   next hp=>exact absurd h0 hp
  next=>cases h0
 next=>exact h
theorem Fit.ct{l:List aQ.Pr}(h:Fit l)(k:ByteArray):Fit (aQ.Xg l k):=by
 unfold aQ.Xg
 split
 ·exact h.wo k
 ·exact h
theorem Fit.sw{l:List aQ.Pr}(h:Fit l){k:ByteArray}{o v:Val.V}(hv:v.f<18446744073709551616):Fit (aQ.Gg l k o v):=by
 by_cases hr:aQ.Right l
 ·by_cases ho:aQ.sJ l k=o
  ·by_cases hve:v=aQ.emp
   ·subst hve;rw[(aQ.Tx hr ho).2.1];exact h.wo k
   ·rw[(aQ.Tw hr ho hve).2.1];exact h.pt hv
  ·rw[(aQ.CQ hr v ho).2.1];exact h
 ·rw[(aQ.Tz hr k o v).2.1];exact h
theorem aaS{l:List Rf}{r:Rf}(h:Fits aN rF l):Fits aN rF (aY.CP l r):=by
 unfold aY.CP
 split
 next h0=>
  unfold aY.Ak at h0
  split at h0
  next hr=>
   have h1:=aY.fV hr.1;refine⟨fun x hx=>trivial,?_⟩;rw[List.length_append]
   show(l.length+1)*24≤_
   omega
  next=>cases h0
 next=>exact h
theorem aaW{l:List Rf}{r:Rf}(h:Fits aN rF l):Fits aN rF (aY.Fj l r):=by
 unfold aY.Fj
 split
 ·exact h.sub (fun x hx=>List.mem_of_mem_drop hx) (by rw[List.length_drop];omega)
 ·exact h
theorem aaX{l:List Rf}{r:Rf}(h:Fits aN rF l):Fits aN rF (aY.sS l r):=by
 unfold aY.sS
 split
 ·exact h.sub (fun x hx=>(List.mem_filter.1 hx).1) (aY.CJ l r)
 ·exact h
theorem oJ{l:List Rf}(h:l.length≤6):Fits aN rF l:=⟨fun x hx=>trivial,by show l.length*24≤_;omega⟩
theorem aaR{m:Int}{l:List Rf}{r:Rf}(h:Fits aN rF l):Fits aN rF (Gt.Ef m l r)∧Fits aN rF (Gt.Ck m l r):=by
 by_cases he:Gt.qQ m l r=0
 ·obtain⟨h1,h2,h3⟩:=Gt.Ga he
  have h5:=aY.fV h1.2.2.2;have h6:(l++[r]).length≤6:=by rw[List.length_append];show l.length+1≤6;omega
  by_cases hf:(l.length:Int)+1=m
  ·obtain⟨_,e2,e3⟩:=Gt.tC h1 h2 h3 hf
   rw[e2,e3];exact⟨oJ (Nat.zero_le _),oJ h6⟩
  ·obtain⟨_,e2,e3⟩:=Gt.tu h1 h2 h3 hf
   rw[e2,e3];exact⟨oJ h6,oJ (Nat.zero_le _)⟩
 ·obtain⟨_,e2,e3⟩:=Gt.yE (z:=Gt.qQ m l r) rfl he
  rw[e2,e3];exact⟨h,oJ (Nat.zero_le _)⟩
theorem Wz{m:Int}{l:List Rf}{r:Rf}(h:Fits aN rF l):Fits aN rF (Gt.sS m l r):=by
 unfold Gt.sS
 split
 ·exact h.sub (fun x hx=>(List.mem_filter.1 hx).1) (aY.CJ l r)
 ·exact h
theorem aaT{N:Int}{l:List Val.V}{v:Val.V}(h:Fits bG vF l)(hv:vF v):Fits bG vF (fG.Cj N l v):=by
 unfold fG.Cj
 split
 next h0=>
  unfold fG.yX at h0
  split at h0
  next hr=>
   have h1:=hr.len;have h2:=hr.hi;refine⟨fun x hx=>?_,?_⟩
   ·rcases List.mem_append.1 hx with hx|hx
    ·exact h.fs x hx
    ·rw[List.mem_singleton] at hx;subst hx;exact hv
   ·rw[List.length_append]
    show(l.length+1)*40≤_
    omega
  next=>cases h0
 next=>exact h
theorem aaU{N:Int}{l:List Val.V}(h:Fits bG vF l):Fits bG vF (fG.KX N l):=by
 unfold fG.KX
 split
 ·exact h.sub (fun x hx=>List.mem_of_mem_drop hx) (by rw[List.length_drop];omega)
 ·exact h
end
section
theorem aaV{l:List au.Ot}(h:l.length≤6):Fits bL tF l:=⟨fun x hx=>trivial,by show l.length*72≤_;omega⟩
theorem wC(y:Rf)(h:Bool):(au.held y h).length≤6:=by cases h<;>(unfold au.held;simp)
end
section
theorem Rl{w:World}{o:Oper}{a:Act}{x y:Int}{p:Operand}(ho:o.op=.binOp .add 3 p (.const (.int .i64 1)) 3)(hp:a.eval p=.int .i64 x)(hy:IntKind.i64.wrap (x+1)=y):
  (execOp a.eval o).run prog w=.ok (.value (.int .i64 y)) w:=IL p ho hp hy
theorem Pm{s:List Rf}{k:Nat}{y:Rf}(p:au.Rp)(h:s[k]?=some y):au.xB (s.take (k+1)) p=au.xB (s.take k) p++[⟨y,p⟩]:=by
 unfold au.xB;rw[Lay.take_succ h,List.map_append]
 rfl
end
section
def Cw(v:Val.V)(x:Int)(w:World)(e:Ending)(w':World):Prop:=e=.returned (.tuple #[vv v,.int .i64 x])∧Below w.heap.size w w'
end
section
def JA(c:aI.C):Oh:=⟨au.fresh c,none,0,0,none,0,0,none,0,0⟩
theorem In.fr(w:World)(c:aI.C):In w (JA c):=⟨Sl.none w,bT.none w,bT.none w,Mt.WA,by show(0:Int)≤_;decide⟩
theorem WT{w:World}{o:Oper}{a:Act}{c:aI.C}{p:Operand}{q:Operand}{r:Operand}(ho:o.op=.build 75 #[(0,p),(1,q),(2,r)]:=by rfl)(hp:a.eval p=.string c.name:=by rfl)(hq:a.eval q=.int .i64 c.n:=by rfl)(hr:a.eval r=.int .i64 c.m:=by rfl):
  (execOp a.eval o).run prog w=.ok (.value (.agg (cu (JA c)))) w:=by
 have h:(Instr.build 75 #[(0,.string c.name),(1,.int .i64 c.n),(2,.int .i64 c.m)]).run prog w=.ok (.agg (cu (JA c))) w:=by
  unfold cu JA au.fresh Mt.zero;go_simp
 unfold execOp;simp only[ho,Sem.run_bind,Sem.run_pure,Result.andThen_ok,List.map_toArray,List.map_cons,List.map_nil,hp,hq,hr,h]
theorem dS.one{b:Nat}{w:World}{A:Option Addr}{c:Nat}{y:Oh}(ho:bB.Own b w (.slice A 1 c) [y])(hi:In w y):dS w A 1 c [y]:=
 ⟨bT.own ho ⟨fun x hx=>trivial,by show 1*144≤_;decide⟩,fun x hx=>by rw[List.mem_singleton] at hx;subst hx;exact hi⟩
theorem JZ(a b:List Oh):vs (a++b)=vs a++vs b:=List.map_append
theorem aes(l:List Oh){p:Nat}{q:Nat}(y:Oh):vs (l.take p++[y]++l.drop q)=(vs l).take p++[y.v]++(vs l).drop q:=by
 rw[JZ,JZ];unfold vs;rw[List.map_take,List.map_drop]
 rfl
theorem ahR(l:List Oh)(p q:Nat):vs (l.take p++l.drop q)=(vs l).take p++(vs l).drop q:=by
 rw[JZ];unfold vs;rw[List.map_take,List.map_drop]
end
section
section
variable {P:Program}{b0:Nat}{w0 w:World}{L:List (Nat×TypeId×Array Value)}{R:List bV}{ops:Array Oper}{rest:List Oper}{o:Oper}{a:Act}{Q:Exit→Act→World→Prop}{α:Type}{La:Lay P α}
theorem Lay.Wy(l:List α)(i:Nat)(y:α)(hi:i<l.length):La.flat (l.set i y)=(La.flat l).take (i*La.k)++La.f y++(La.flat l).drop (i*La.k+La.k):=by
 induction l generalizing i with
 | nil=>simp at hi
 | cons x r ih=>
  have hx:=La.len x
  match i,hi with
  | 0,_=>
   rw[List.set_cons_zero,Lay.gI,Lay.gI,Nat.zero_mul,List.take_zero,aK,Nat.zero_add,List.drop_left' hx]
  | i+1,hi=>
   have hi':i<r.length:=by simpa using hi
   have e:(i+1)*La.k=La.k+i*La.k:=by rw[Nat.succ_mul,Nat.add_comm]
   have e1:(La.f x++La.flat r).take (La.k+i*La.k)=La.f x++(La.flat r).take (i*La.k):=by
    rw[List.take_append,List.take_of_length_le (by omega),hx,Nat.add_sub_cancel_left]
   have e2:(La.f x++La.flat r).drop (La.k+i*La.k+La.k)=(La.flat r).drop (i*La.k+La.k):=by
    rw[List.drop_append,List.drop_of_length_le (by omega),hx,aK]
    congr 1
    omega
   rw[List.set_cons_succ,Lay.gI,Lay.gI,ih i hi',e,e1,e2];simp only[List.append_assoc]
theorem Tq{β:Type}{T:List β}{V:List β}{p:Nat}{k:Nat}{m:Nat}(hV:V.length=k)(h1:p+k≤m)(h2:m≤T.length):(T.take p++V++T.drop (p+k)).take m=(T.take m).take p++V++(T.take m).drop (p+k):=by
 have l1:(T.take p).length=p:=by rw[List.length_take];omega
 rw[List.append_assoc,List.take_append,l1,List.take_of_length_le (i:=m) (l:=T.take p) (by rw[l1];omega),List.take_append,hV,List.take_of_length_le (i:=m-p) (l:=V) (by omega),List.take_take,Nat.min_eq_left (by omega),List.drop_take,List.append_assoc,show m-p-k=m-(p+k) by omega]
theorem uD:∀(vs:List Value) (cs:Array Value) (p:Nat),(putCells cs p vs).size=cs.size
 | [],_,_=>rfl
 | v::r,cs,p=>by
  rw[putCells,uD r,Array.size_setIfInBounds]
theorem qp{g k:Nat}(hne:k≠g):∀(vs:List Value) (p:Nat) (w:World),(w.setCells g p vs).heap[k]?=w.heap[k]?
 | [],_,_=>rfl
 | v::r,p,w=>(qp hne r (p+1) (w.setCell ⟨g,p,none⟩ v)).trans (Below.heap_setCell w _ v k hne)
theorem Kn.Wj(h:Kn b0 w0 w L R){j n c:Nat}{A:Option Addr}{l:List α}(hR:R[j]?=some (row La (.slice A n c) l))(hl:0<l.length):∃g,A=some ⟨g,0,none⟩:=by
 rcases(h.own j hR).2 with ⟨_,h0⟩|⟨g,cap,cur,h1,_⟩
 ·omega
 ·injection h1 with h1
  exact⟨g,h1⟩
theorem Kn.akX(h:Kn b0 w0 w L R){j g n c:Nat}{l:List α}(hR:R[j]?=some (row La (.slice (some ⟨g,0,none⟩) n c) l))(i:Nat)(hi:i<l.length)(y:α):
  Kn b0 w0 (w.setCells g (i*La.k) (La.f y)) L (R.set j (row La (.slice (some ⟨g,0,none⟩) n c) (l.set i y))):=by
 have hown:=h.own j hR
 have hik:i*La.k+La.k≤l.length*La.k:=by
  have h1:(i+1)*La.k≤l.length*La.k:=Nat.mul_le_mul_right _ hi
  rwa [Nat.succ_mul] at h1
 have ho:(w.setCells g (i*La.k) (La.f y)).ownsRow b0 La.e La.k (.slice (some ⟨g,0,none⟩) n c) (l.set i y).length (La.flat (l.set i y)):=by
  refine⟨by rw[La.ig],?_⟩;rw[List.length_set]
  rcases hown.2 with ⟨h1,_⟩|⟨g',cap,cur,h1,hb,hg,hnc,hcm,hs,ht⟩
  ·cases h1
  ·injection h1 with e1 e2 e3
   injection e1 with e1;injection e1 with e1;subst e1 e3;have hsz:l.length*La.k≤cur.size:=by rw[hs];exact Nat.mul_le_mul_right _ hnc
   refine .inr ⟨g,c,putCells cur (i*La.k) (La.f y),by rw[e2],hb,eT.cells (_w:=w) (t:=La.e) _ cur _ _ hg,hnc,hcm,by rw[uD,hs],?_⟩;rw[lM _ _ _ (by rw[La.len];omega),La.len,Tq (La.len y) hik (by rw[Array.length_toList];exact hsz),ht,Lay.Wy l i y hi]
 obtain⟨b1,b2⟩:=nM (Nat.le_refl g) (La.f y) (i*La.k) w;exact h.aeG (i:=j) hR ho ⟨b1.os,b1.tape,b1.output,b1.size,fun k hk hne=>qp (fun e=>hne (by rw[e];rfl)) _ _ _⟩ (.inl rfl)
theorem JR(HK:Hid (Kn b0 w0 w L R))(j:Nat)(hgd:o.guard=none){x:Operand}{y:Operand}(ho:o.op=.store La.e x y){g n c:Nat}{l:List α}(hR:R[j]?=some (row La (.slice (some ⟨g,0,none⟩) n c) l))(i:Nat)(hi:i<l.length)
  (hx:a.eval x=.pointer (some ⟨g,i*La.k,none⟩)) (p:α) {v:Array Value} (hy:a.eval y=.agg v) (hv:v=(La.f p).toArray)
  (h:∀w',Hid (Kn b0 w0 w' L (R.set j (row La (.slice (some ⟨g,0,none⟩) n c) (l.set i p))))→wpList P ops Q rest (a.put o.dst undef) w'):wpList P ops Q (o::rest) a w:=
 wpList_plain hgd fun K hK=>by
  subst hv;have hown:=HK.out.own j hR
  have hik:i*La.k+La.k≤l.length*La.k:=by
   have h1:(i+1)*La.k≤l.length*La.k:=Nat.mul_le_mul_right _ hi
   rwa [Nat.succ_mul] at h1
  have ht:w.there g (i*La.k) (La.f p).toArray.size:=by
   rcases hown.2 with ⟨h1,_⟩|⟨g',cap,cur,h1,hb,hg,hnc,hcm,hs,ht⟩
   ·cases h1
   ·injection h1 with e1 e2 e3
    injection e1 with e1;injection e1 with e1;subst e1;have hbk:eT w g La.e cur:=hg;intro q hq;rw[List.size_toArray,La.len] at hq;have hsz:l.length*La.k≤cur.size:=by rw[hs];exact Nat.mul_le_mul_right _ hnc
    rw[hbk.cell];exact⟨by rw[Array.getElem?_eq_getElem (by omega)];rfl,hbk.frozen _⟩
  have hz:(P.info? La.e).map (·.size)=some (La.f p).toArray.size:=by
   rw[List.size_toArray,La.len];have h1:=La.info;rw[Option.map_eq_some_iff] at h1 ⊢;obtain⟨q,h2,h3⟩:=h1;refine⟨q,h2,?_⟩;injection h3 with _ h3;injection h3 with h3 _
  refine wp_store_mid La.e x y ho g (i*La.k) (La.f p).toArray hx hy ht hz ?_ (hK _ _ (h _ (zH ?_)))
  ·rw[List.all_toArray,List.all_eq_true]
   exact fun u hu=>La.one p u hu
  ·show Kn b0 w0 (w.setCells g (i*La.k) (La.f p)) L _
   exact HK.out.akX hR i hi p
end
end
section
section
variable {P:Program}{b0:Nat}{w0 w:World}{L:List (Nat×TypeId×Array Value)}{R:List bV}{ops:Array Oper}{rest:List Oper}{o:Oper}{a:Act}{Q:Exit→Act→World→Prop}{α:Type}{La:Lay P α}
theorem Kn.atR(h:Kn b0 w0 w L R){j g n c:Nat}{l:List α}(hR:R[j]?=some (row La (.slice (some ⟨g,0,none⟩) n c) l)){i:Nat}{x:α}(hx:l[i]?=some x)(q:Nat)(v:Value)(hv:(La.f x)[q]?=some v):w.cell? ⟨g,0+i*La.k+q,none⟩=some v:=by
 have hl:=(List.getElem?_eq_some_iff.1 hx).1;obtain⟨b,o,e,_,hc⟩:=(h.own j hR).rd.1 (by omega);injection e with e;injection e with e1 e2;subst e1 e2;exact hc i x hx q v hv
theorem Lay.Ri(l:List α)(i:Nat)(x y:α)(hx:l[i]?=some x)(q:Nat)(hq:q<La.k)(v:Value)(hy:La.f y=(La.f x).set q v):La.flat (l.set i y)=(La.flat l).set (i*La.k+q) v:=by
 induction l generalizing i with
 | nil=>simp at hx
 | cons z r ih=>
  have hz:=La.len z
  match i,hx with
  | 0,hx=>
   simp only[List.getElem?_cons_zero,Option.some.injEq] at hx;subst hx;rw[List.set_cons_zero,Lay.gI,Lay.gI,Nat.zero_mul,Nat.zero_add,List.set_append_left _ _ (by omega),hy]
  | i+1,hx=>
   rw[List.getElem?_cons_succ] at hx;have e:(i+1)*La.k+q=La.k+(i*La.k+q):=by rw[Nat.succ_mul];omega
   rw[List.set_cons_succ,Lay.gI,Lay.gI,ih i hx,e,List.set_append_right _ _ (by omega),hz,Nat.add_sub_cancel_left]
theorem Kn.akY(h:Kn b0 w0 w L R){j g n c:Nat}{l:List α}(hR:R[j]?=some (row La (.slice (some ⟨g,0,none⟩) n c) l))(i:Nat)(x y:α)(hx:l[i]?=some x)(q:Nat)(hq:q<La.k)(v:Value)(hy:La.f y=(La.f x).set q v):
  Kn b0 w0 (w.setCell ⟨g,i*La.k+q,none⟩ v) L (R.set j (row La (.slice (some ⟨g,0,none⟩) n c) (l.set i y))):=by
 have hown:=h.own j hR
 have ho:(w.setCell ⟨g,i*La.k+q,none⟩ v).ownsRow b0 La.e La.k (.slice (some ⟨g,0,none⟩) n c) (l.set i y).length (La.flat (l.set i y)):=by
  refine⟨by rw[La.ig],?_⟩;rw[List.length_set]
  rcases hown.2 with ⟨h1,_⟩|⟨g',cap,cur,h1,hb,hg,hnc,hcm,hs,ht⟩
  ·cases h1
  ·injection h1 with e1 e2 e3
   injection e1 with e1;injection e1 with e1;subst e1 e3;refine .inr ⟨g,c,cur.setIfInBounds (i*La.k+q) v,by rw[e2],hb,eT.TJ (w:=w) (t:=La.e) hg _ _,hnc,hcm,by rw[Array.size_setIfInBounds,hs],?_⟩;rw[Array.toList_setIfInBounds,List.take_set,ht,Lay.Ri l i x y hx q hq v hy]
 obtain⟨b1,b2⟩:=nM (Nat.le_refl g) [v] (i*La.k+q) w;exact h.aeG (i:=j) hR ho ⟨b1.os,b1.tape,b1.output,b1.size,fun k hk hne=>qp (fun e=>hne (by rw[e];rfl)) [v] _ _⟩ (.inl rfl)
theorem Ib{K:Act→World→Prop}(HK:Hid (Kn b0 w0 w L R))(j:Nat)(ty:TypeId)(p1 p2:Operand)(ho:o.op=.store ty p1 p2){g n c:Nat}{l:List α}(hR:R[j]?=some (row La (.slice (some ⟨g,0,none⟩) n c) l))(i:Nat)(x y:α)(hx:l[i]?=some x)(q:Nat)(hq:q<La.k)
  (hp:a.eval p1=.pointer (some ⟨g,i*La.k+q,none⟩)) {v:Value} (hv:a.eval p2=v) (hc:v.cells=#[v]) (h1:v.oneCell'=true) (hi:(P.info? ty).map (·.size)=some 1) (hy:La.f y=(La.f x).set q v)
  (h:∀w',Hid (Kn b0 w0 w' L (R.set j (row La (.slice (some ⟨g,0,none⟩) n c) (l.set i y))))→K (a.put o.dst undef) w'):o.wp P a w K Q:=by
 have hown:=HK.out.own j hR
 have hb:∃cur,eT w g La.e cur∧i*La.k+q<cur.size:=by
  rcases hown.2 with ⟨h1,_⟩|⟨g',cap,cur,h1,hb,hg,hnc,hcm,hs,ht⟩
  ·cases h1
  ·injection h1 with e1 e2 e3
   injection e1 with e1;injection e1 with e1;subst e1;have hil:=(List.getElem?_eq_some_iff.1 hx).1;have h1:(i+1)*La.k≤l.length*La.k:=Nat.mul_le_mul_right _ hil;have hsz:l.length*La.k≤cur.size:=by rw[hs];exact Nat.mul_le_mul_right _ hnc
   rw[Nat.succ_mul] at h1;exact⟨cur,hg,by omega⟩
 obtain⟨cs,hb,hsz⟩:=hb
 have hs:=run_storeCells_cells (P:=P) g (i*La.k+q) [v] 0 w (fun j hj=>by
   have:j=0:=by simpa using hj
   subst this
   rw[hb.cell,Array.getElem?_eq_getElem (by omega)];rfl) (fun j _=>hb.frozen _) (fun u hu=>by simp at hu;subst hu;exact h1)
 simp only[Nat.add_zero] at hs
 have hr:(storeVar ty ⟨g,i*La.k+q,none⟩ v).run P w=.ok () (w.setCell ⟨g,i*La.k+q,none⟩ v):=by
  cases hq:P.info? ty with
  | none=>simp[hq] at hi
  | some z=>
   have hs1:z.size=1:=by simpa [hq] using hi
   exact SI
 unfold Oper.wp execOp;simp only[ho,hp,hv,Instr.storeAt,Instr.sureAddr,Sem.run_bind,Sem.run_pure,Result.andThen_ok,hr];exact h _ (zH (HK.out.akY hR i x y hx q hq v hy))
theorem yF(HK:Hid (Kn b0 w0 w L R))(j:Nat)(hgd:o.guard=none)(ty:TypeId){p1:Operand}{p2:Operand}(ho:o.op=.store ty p1 p2){g n c:Nat}{l:List α}(hR:R[j]?=some (row La (.slice (some ⟨g,0,none⟩) n c) l))(i:Nat)(x y:α)(hx:l[i]?=some x)(q:Nat)
  (hp:a.eval p1=.pointer (some ⟨g,i*La.k+q,none⟩)) {v:Value} (hv:a.eval p2=v) (hc:v.cells=#[v]) (h1:v.oneCell'=true) (hi:(P.info? ty).map (·.size)=some 1) (hy:La.f y=(La.f x).set q v)
  (h:∀w',Hid (Kn b0 w0 w' L (R.set j (row La (.slice (some ⟨g,0,none⟩) n c) (l.set i y))))→wpList P ops Q rest (a.put o.dst undef) w') (hq:q<La.k:=by decide):wpList P ops Q (o::rest) a w:=
 wpList_plain hgd fun _ hK=>Ib HK j ty p1 p2 ho hR i x y hx q hq hp hv hc h1 hi hy fun w' h2=>hK _ _ (h w' h2)
theorem Pw{K:Act→World→Prop}{E:Prop}(HK:Hid (Kn b0 w0 w L R))(j:Nat)(hgd:o.guard=none)(ty:TypeId){p1:Operand}{p2:Operand}(ho:o.op=.store ty p1 p2){g n c:Nat}{l:List α}(hR:R[j]?=some (row La (.slice (some ⟨g,0,none⟩) n c) l))(i:Nat)(x y:α)(hx:l[i]?=some x)(q:Nat)(hq:q<La.k)
  (hp:a.eval p1=.pointer (some ⟨g,i*La.k+q,none⟩)) {v:Value} (hv:a.eval p2=v) (hc:v.cells=#[v]) (h1:v.oneCell'=true) (hi:(P.info? ty).map (·.size)=some 1) (hy:La.f y=(La.f x).set q v)
  (h:∀w',Hid (Kn b0 w0 w' L (R.set j (row La (.slice (some ⟨g,0,none⟩) n c) (l.set i y))))→K (a.put o.dst undef) w'):if Region.wanted o (yielded ops a.tmps)=true then Oper.wp P o a w K Q else E:=by
 rw[if_pos (by simp[Region.wanted,hgd])];exact Ib HK j ty p1 p2 ho hR i x y hx q hq hp hv hc h1 hi hy h
end
end
section
namespace au
def Sm(l:List Ob)(r:Rf)(k:Nat):List Ob:=(l.take k).map (fun o=>dr o r)++l.drop k
def FV(l:List Ob)(r:Rf)(k:Nat):List Ot:=(l.take k).flatMap fun o=>xg o r
theorem abo{l:List Ob}{r:Rf}{k:Nat}{x:Ob}(h:l[k]?=some x):(Sm l r k)[k]?=some x:=by
 have hk:=(List.getElem?_eq_some_iff.1 h).1;have e:((l.take k).map (fun o=>dr o r)).length=k:=by rw[List.length_map,List.length_take];omega
 unfold Sm;rw[List.getElem?_append_right (by omega),e,Nat.sub_self,List.getElem?_drop];exact h
theorem IY{l:List Ob}{r:Rf}{k:Nat}{x:Ob}(h:l[k]?=some x):Sm l r (k+1)=(Sm l r k).set k (dr x r):=by
 have hk:=(List.getElem?_eq_some_iff.1 h).1;have hx:=(List.getElem?_eq_some_iff.1 h).2;have e:((l.take k).map (fun o=>dr o r)).length=k:=by rw[List.length_map,List.length_take];omega
 unfold Sm;rw[Lay.take_succ h,List.map_append,List.set_append_right _ _ (by omega),e,Nat.sub_self,List.drop_eq_getElem_cons hk,List.set_cons_zero,List.append_assoc]
 rfl
theorem WX{l:List Ob}{r:Rf}{k:Nat}{x:Ob}(h:l[k]?=some x)(hd:dr x r=x):Sm l r (k+1)=Sm l r k:=by
 rw[IY h,hd];have h2:=abo (r:=r) h;obtain⟨hk,he⟩:=List.getElem?_eq_some_iff.1 h2
 conv=>lhs;rw[← he]
 exact List.set_getElem_self hk
theorem abp{l:List Ob}{r:Rf}{k:Nat}(h:l.length≤k):Sm l r k=l.map fun o=>dr o r:=by
 unfold Sm;rw[List.take_of_length_le h,List.drop_of_length_le h,List.append_nil]
theorem EN{l:List Ob}{r:Rf}{k:Nat}(h:l.length≤k):FV l r k=l.flatMap fun o=>xg o r:=by
 unfold FV;rw[List.take_of_length_le h]
theorem GZ{l:List Ob}{r:Rf}{k:Nat}{x:Ob}(h:l[k]?=some x):FV l r (k+1)=FV l r k++xg x r:=by
 unfold FV;exact acy
theorem wC(y:Rf)(h:Bool):(held y h).length≤1:=by
 unfold held
 split<;>simp
theorem OA(x:Ob)(r:Rf):(xg x r).length≤1:=by
 unfold xg
 split
 ·exact wC _ _
 ·simp
theorem EM(l:List Ob)(r:Rf):∀k,(FV l r k).length≤k
 | 0=>by simp[FV]
 | k+1=>by
  have ih:=EM l r k
  cases h:l[k]? with
  | none=>
   have e:FV l r (k+1)=FV l r k:=by
    have:=List.getElem?_eq_none_iff.1 h;rw[EN this,EN (by omega)]
   rw[e];omega
  | some x=>
   rw[GZ h,List.length_append];have:=OA x r;omega
end au
def abZ(G:World→Prop)(y:List au.Ob)(os:List au.Ot)(w:World)(e:Ending)(w':World):Prop:=∃(A:Option Addr) (n c:Nat) (l:List Oh) (O:Option Addr) (k d:Nat) (Rn:List bV),e=.returned (.tuple #[.slice A n c,.slice O k d])∧Hid (vs l=y)∧Kn w.heap.size w w' [] Rn∧
 Hid (∀(b:Nat) (W0 W:World) L R,Kn b W0 W L R→(∀z∈Rn,z∈R)→G W→dS W A n c l∧bT bL tF W O k d os)
section
variable {b0:Nat}{w0 w:World}{L:List (Nat×TypeId×Array Value)}{R:List bV}
theorem uI.kn{w':World}{A A':Option Addr}{n c n' c':Nat}{l r:List Rf}(h:uI aN w.heap.size w' A n c l A' n' c' r)(hb:Below w.heap.size w w')(hf:Fits aN rF r):∃Rn,Kn w.heap.size w w' [] Rn∧Hid (∀(b:Nat) (W0 W:World) L R,Kn b W0 W L R→(∀z∈Rn,z∈R)→bT aN rF W A n c l→bT aN rF W A' n' c' r):=by
 rcases h with h|⟨rfl,rfl,rfl,rfl⟩
 ·exact⟨_,(Kn.start w).called hb h,zH fun _ _ _ _ _ K hm _=>bT.own (K.mem (hm _ (List.mem_cons_self ..))) hf⟩
 ·exact⟨_,(Kn.start w).call hb,zH fun _ _ _ _ _ _ _ h=>h⟩
theorem Kn.FC{P:Program}{α:Type}{La:Lay P α}(h:Kn b0 w0 w L R){j g n c:Nat}{l:List α}(hR:R[j]?=some (row La (.slice (some ⟨g,0,none⟩) n c) l)){i:Nat}{x:α}(hx:l[i]?=some x)(q:Nat)(v:Value)(hv:(La.f x)[q]?=some v):w.cell? ⟨g,i*La.k+q,none⟩=some v:=by
 have h1:=h.atR hR hx q v hv
 rwa [Nat.zero_add] at h1
theorem Kn.aly{a b m:bV}{T:List bV}(h:Kn b0 w0 w L (a::b::(T++[m]))):Kn b0 w0 w L (a::b::T):=by
 have h1:=h.ay (T.length+2)
 have e:(a::b::(T++[m])).take (T.length+2)=a::b::T:=by
  rw[List.take_succ_cons,List.take_succ_cons,List.take_left']
  rfl
 rwa [e] at h1
theorem CV{ops:Array Oper}{o:Oper}{a:Act}{Q:Exit→Act→World→Prop}{K:Act→World→Prop}{E:Prop}(HK:Hid (Kn b0 w0 w L R))
  (h:∀w' g,Hid (Kn b0 w0 w' (L++[(g,44,#[.int .i64 0,.int .i64 0,.int .i64 0])]) R)→K (a.put o.dst (.pointer (some ⟨g,0,none⟩))) w') (hgd:o.guard=none:=by rfl)(ho:o.op=.alloc 44:=by rfl):if Region.wanted o (yielded ops a.tmps)=true then Oper.wp prog o a w K Q else E:=by
 rw[if_pos (by simp[Region.wanted,hgd])];have h4:=h _ w.heap.size (zH (HK.out.alloc 44 #[.int .i64 0,.int .i64 0,.int .i64 0]));have hr:(Instr.alloc 44 true (.tuple #[])).run prog w=.ok (.pointer (some ⟨w.heap.size,0,none⟩)) (w.alloc (.cells #[.int .i64 0,.int .i64 0,.int .i64 0] 44)):=aN.xD w;exact acB
end
end
section
def stA(n:Int)(A:Option Addr)(k c:Nat)(t:aG.T):Array Value:=#[.int .i64 n,.slice A k c,.bool t.s0.live,.int .i64 t.s0.ep,.int .i64 t.s0.rq,.bool t.s0.dn,.int .i64 t.s0.p.e,.int .i64 t.s0.p.v.k,.int .i64 t.s0.p.v.n,.int .u64 (t.s0.p.v.f:Int),.string t.s0.p.v.s,.bool t.s1.live,.int .i64 t.s1.ep,.int .i64 t.s1.rq,.bool t.s1.dn,.int .i64 t.s1.p.e,.int .i64 t.s1.p.v.k,.int .i64 t.s1.p.v.n,.int .u64 (t.s1.p.v.f:Int),.string t.s1.p.v.s,.bool t.s2.live,.int .i64 t.s2.ep,.int .i64 t.s2.rq,.bool t.s2.dn,.int .i64 t.s2.p.e,.int .i64 t.s2.p.v.k,.int .i64 t.s2.p.v.n,.int .u64 (t.s2.p.v.f:Int),.string t.s2.p.v.s,.bool t.s3.live,.int .i64 t.s3.ep,.int .i64 t.s3.rq,.bool t.s3.dn,.int .i64 t.s3.p.e,.int .i64 t.s3.p.v.k,.int .i64 t.s3.p.v.n,.int .u64 (t.s3.p.v.f:Int),.string t.s3.p.v.s,.bool t.s4.live,.int .i64 t.s4.ep,.int .i64 t.s4.rq,.bool t.s4.dn,.int .i64 t.s4.p.e,.int .i64 t.s4.p.v.k,.int .i64 t.s4.p.v.n,.int .u64 (t.s4.p.v.f:Int),.string t.s4.p.v.s]
theorem VJ:(prog.info? 33).map (fun i=>(i.zero,i.size,i.bytes))=some (some (Value.agg (stA 0 none 0 0 tz)),47,432):=by kernel_rfl
theorem wm:(prog.info? 33).map (·.size)=some 47:=by kernel_rfl
theorem acX(n:Int)(A:Option Addr)(k c:Nat)(t:aG.T)(j:Nat)(hj:j<45):(stA n A k c t)[2+j]?=(dU t)[j]?:=by
 have h:(stA n A k c t).toList=.int .i64 n::.slice A k c::(dU t).toList:=rfl;rw[← Array.getElem?_toList,← Array.getElem?_toList,h,Nat.add_comm]
 rfl
theorem aeD(n:Int)(A:Option Addr)(k c:Nat)(t u:aG.T):putCells (stA n A k c t) 2 (dU u).toList=stA n A k c u:=by kernel_rfl
theorem Ni{q:Int}(hc:0≤q∧q<5)(n:Int)(A:Option Addr)(k c:Nat)(t:aG.T)(j:Nat)(hj:j<9:=by decide):(stA n A k c t)[2+q.toNat*9+j]?=(fK (t.get q))[j]?:=by
 rw[Nat.add_assoc,acX n A k c t _ (by omega),Tk hc t j hj]
section
variable {b0:Nat}{w0 w:World}{L:List (Nat×TypeId×Array Value)}{R:List bV}{ops:Array Oper}{rest:List Oper}{o:Oper}{a:Act}{Q:Exit→Act→World→Prop}{K:Act→World→Prop}{E:Prop}{g:Nat}{n m:Int}{A B:Option Addr}{k c i j:Nat}{t u:aG.T}{p q:au.Rp}{q1:Int}
theorem bF(HK:Hid (Kn b0 w0 w L R))
  (h:∀w' g,Hid (Kn b0 w0 w' (L++[(g,33,stA 0 none 0 0 tz)]) R)→wpList prog ops Q rest (a.put o.dst (.pointer (some ⟨g,0,none⟩))) w') (hgd:o.guard=none:=by rfl)(ho:o.op=.alloc 33:=by rfl):wpList prog ops Q (o::rest) a w:=
 wpList_plain hgd fun _ hK=>vW VJ HK ho fun w' g h1 _=>hK _ _ (h w' g h1)
theorem NS(HK:Hid (Kn b0 w0 w L R))(i2:Nat)(x y:Operand)(ho:o.op=.store 33 x y)(hL:L[i2]?=some (g,33,stA n A k c t))(hx:a.eval x=.pointer (some ⟨g,0,none⟩))(hy:a.eval y=.agg (stA m B i j u))
  (h:∀w',Hid (Kn b0 w0 w' (L.set i2 (g,33,stA m B i j u)) R)→K (a.put o.dst undef) w'):o.wp prog a w K Q:=
 lQ HK x y ho i2 hL hx hy (by show 47≤47;decide) wm (h1:=(by simp[stA,Value.oneCell'])) fun w' h1 _=>h w' (by
  have e:putCells (stA n A k c t) 0 (stA m B i j u).toList=stA m B i j u:=by rw[cK (vs:=(stA m B i j u).toList) (cs:=stA n A k c t),Array.toArray_toList]
  rw[e] at h1
  exact h1)
theorem bg(HK:Hid (Kn b0 w0 w L R))(i2:Nat){x:Operand}{y:Operand}
  (h:∀w',Hid (Kn b0 w0 w' (L.set i2 (g,33,stA m B i j u)) R)→wpList prog ops Q rest (a.put o.dst undef) w') (hgd:o.guard=none:=by rfl)(ho:o.op=.store 33 x y:=by rfl)(hL:L[i2]?=some (g,33,stA n A k c t):=by rfl)(hx:a.eval x=.pointer (some ⟨g,0,none⟩):=by rfl)(hy:a.eval y=.agg (stA m B i j u):=by rfl):wpList prog ops Q (o::rest) a w:=
 wpList_plain hgd fun _ hK=>NS HK i2 x y ho hL hx hy fun w' h1=>hK _ _ (h w' h1)
theorem gJ(HK:Hid (Kn b0 w0 w L R))(i2:Nat){x:Operand}{y:Operand}
  (h:∀w',Hid (Kn b0 w0 w' (L.set i2 (g,33,stA m B i j u)) R)→K (a.put o.dst undef) w') (hgd:o.guard=none:=by rfl)(ho:o.op=.store 33 x y:=by rfl)(hL:L[i2]?=some (g,33,stA n A k c t):=by rfl)(hx:a.eval x=.pointer (some ⟨g,0,none⟩):=by rfl)(hy:a.eval y=.agg (stA m B i j u):=by rfl):if Region.wanted o (yielded ops a.tmps)=true then Oper.wp prog o a w K Q else E:=by
 rw[if_pos (by simp[Region.wanted,hgd])];exact NS HK i2 x y ho hL hx hy h
theorem Vu(HK:Hid (Kn b0 w0 w L R))(i:Nat)(x y:Operand)(ho:o.op=.store 3 x y)(hL:L[i]?=some (g,33,stA n A k c t))(hx:a.eval x=.pointer (some ⟨g,0,none⟩))(hy:a.eval y=.int .i64 m)
  (h:∀w',Hid (Kn b0 w0 w' (L.set i (g,33,stA m A k c t)) R)→K (a.put o.dst undef) w'):o.wp prog a w K Q:=
 nR HK x y ho i hL hx hy (by show 0<47;decide) fun w' h1 _=>h w' h1
theorem iX(HK:Hid (Kn b0 w0 w L R))(i:Nat){x:Operand}{y:Operand}
  (h:∀w',Hid (Kn b0 w0 w' (L.set i (g,33,stA m A k c t)) R)→wpList prog ops Q rest (a.put o.dst undef) w') (hgd:o.guard=none:=by rfl)(ho:o.op=.store 3 x y:=by rfl)(hL:L[i]?=some (g,33,stA n A k c t):=by rfl)(hx:a.eval x=.pointer (some ⟨g,0,none⟩):=by rfl)(hy:a.eval y=.int .i64 m:=by rfl):wpList prog ops Q (o::rest) a w:=
 wpList_plain hgd fun _ hK=>Vu HK i x y ho hL hx hy fun w' h1=>hK _ _ (h w' h1)
theorem Vt(HK:Hid (Kn b0 w0 w L R))(i2:Nat)(x y:Operand)(ho:o.op=.store 22 x y)(hL:L[i2]?=some (g,33,stA n A k c t))(hx:a.eval x=.pointer (some ⟨g,1,none⟩))(hy:a.eval y=.slice B i j)
  (h:∀w',Hid (Kn b0 w0 w' (L.set i2 (g,33,stA n B i j t)) R)→K (a.put o.dst undef) w'):o.wp prog a w K Q:=
 nR HK x y ho i2 hL hx hy (by show 1<47;decide) fun w' h1 _=>h w' h1
theorem nA(HK:Hid (Kn b0 w0 w L R))(i2:Nat){x:Operand}{y:Operand}
  (h:∀w',Hid (Kn b0 w0 w' (L.set i2 (g,33,stA n B i j t)) R)→wpList prog ops Q rest (a.put o.dst undef) w') (hgd:o.guard=none:=by rfl)(ho:o.op=.store 22 x y:=by rfl)(hL:L[i2]?=some (g,33,stA n A k c t):=by rfl)(hx:a.eval x=.pointer (some ⟨g,1,none⟩):=by rfl)(hy:a.eval y=.slice B i j:=by rfl):wpList prog ops Q (o::rest) a w:=
 wpList_plain hgd fun _ hK=>Vt HK i2 x y ho hL hx hy fun w' h1=>hK _ _ (h w' h1)
theorem Ia(HK:Hid (Kn b0 w0 w L R))(i:Nat)(x y:Operand)(ho:o.op=.store 31 x y)(hL:L[i]?=some (g,33,stA n A k c t))(hx:a.eval x=.pointer (some ⟨g,2,none⟩))(hy:a.eval y=.agg (dU u))
  (h:∀w',Hid (Kn b0 w0 w' (L.set i (g,33,stA n A k c u)) R)→K (a.put o.dst undef) w'):o.wp prog a w K Q:=
 lQ HK x y ho i hL hx hy (by show 2+45≤47;decide) tT (h1:=(by simp[dU,Value.oneCell'])) fun w' h1 _=>h w' (by
  rw[aeD] at h1
  exact h1)
theorem eZ(HK:Hid (Kn b0 w0 w L R))(i:Nat){x:Operand}{y:Operand}
  (h:∀w',Hid (Kn b0 w0 w' (L.set i (g,33,stA n A k c u)) R)→wpList prog ops Q rest (a.put o.dst undef) w') (hgd:o.guard=none:=by rfl)(ho:o.op=.store 31 x y:=by rfl)(hL:L[i]?=some (g,33,stA n A k c t):=by rfl)(hx:a.eval x=.pointer (some ⟨g,2,none⟩):=by rfl)(hy:a.eval y=.agg (dU u):=by rfl):wpList prog ops Q (o::rest) a w:=
 wpList_plain hgd fun _ hK=>Ia HK i x y ho hL hx hy fun w' h1=>hK _ _ (h w' h1)
theorem Pv(HK:Hid (Kn b0 w0 w L R))(i:Nat)(hgd:o.guard=none){x:Operand}{y:Operand}(ho:o.op=.store 31 x y)(hL:L[i]?=some (g,33,stA n A k c t))(hx:a.eval x=.pointer (some ⟨g,2,none⟩))(hy:a.eval y=.agg (dU u))
  (h:∀w',Hid (Kn b0 w0 w' (L.set i (g,33,stA n A k c u)) R)→K (a.put o.dst undef) w'):if Region.wanted o (yielded ops a.tmps)=true then Oper.wp prog o a w K Q else E:=by
 rw[if_pos (by simp[Region.wanted,hgd])];exact Ia HK i x y ho hL hx hy h
theorem lq(HK:Hid (Kn b0 w0 w L R))(i:Nat){x:Operand}(ho:o.op=.load 33 x:=by rfl)(hL:L[i]?=some (g,33,stA n A k c t):=by rfl)(hx:a.eval x=.pointer (some ⟨g,0,none⟩):=by rfl):
  (execOp a.eval o).run prog w=.ok (.value (.agg (stA n A k c t))) w:=
 lC HK x ho i hL hx (stA n A k c t) (fun j _=>by rw[Nat.zero_add]) underlying33 wm
theorem lg(HK:Hid (Kn b0 w0 w L R))(i:Nat){x:Operand}(ho:o.op=.load 3 x:=by rfl)(hL:L[i]?=some (g,33,stA n A k c t):=by rfl)(hx:a.eval x=.pointer (some ⟨g,0,none⟩):=by rfl):
  (execOp a.eval o).run prog w=.ok (.value (.int .i64 n)) w:=
 aT HK _ x ho i hL hx underlying3
theorem qN(HK:Hid (Kn b0 w0 w L R))(i:Nat){x:Operand}(ho:o.op=.load 22 x:=by rfl)(hL:L[i]?=some (g,33,stA n A k c t):=by rfl)(hx:a.eval x=.pointer (some ⟨g,1,none⟩):=by rfl):
  (execOp a.eval o).run prog w=.ok (.value (.slice A k c)) w:=
 aT HK _ x ho i hL hx underlying22
theorem gD(HK:Hid (Kn b0 w0 w L R))(i:Nat){x:Operand}(ho:o.op=.load 31 x:=by rfl)(hL:L[i]?=some (g,33,stA n A k c t):=by rfl)(hx:a.eval x=.pointer (some ⟨g,2,none⟩):=by rfl):
  (execOp a.eval o).run prog w=.ok (.value (.agg (dU t))) w:=
 lC HK x ho i hL hx (dU t) (fun j hj=>acX n A k c t j hj) underlying31 tT
theorem uF(HK:Hid (Kn b0 w0 w L R))(i:Nat)(hc:0≤q1∧q1<5){x:Operand}(ho:o.op=.load 30 x:=by rfl)(hL:L[i]?=some (g,33,stA n A k c t):=by rfl)(hx:a.eval x=.pointer (some ⟨g,2+q1.toNat*9,none⟩):=by rfl):
  (execOp a.eval o).run prog w=.ok (.value (.agg (fK (t.get q1)))) w:=
 lC HK x ho i hL hx (fK (t.get q1)) (fun j hj=>Ni hc n A k c t j (hj:=hj)) underlying30 qh
theorem adl(HK:Hid (Kn b0 w0 w L R))(i:Nat)(hc:0≤q1∧q1<5){x:Operand}(ho:o.op=.load 4 x:=by rfl)(hL:L[i]?=some (g,33,stA n A k c t):=by rfl)(hx:a.eval x=.pointer (some ⟨g,2+q1.toNat*9,none⟩):=by rfl):
  (execOp a.eval o).run prog w=.ok (.value (.bool (t.get q1).live)) w:=
 aT HK _ x ho i hL hx (hv:=(Ni hc n A k c t 0)) underlying4
theorem Vx(HK:Hid (Kn b0 w0 w L R))(i:Nat)(hc:0≤q1∧q1<5){x:Operand}(ho:o.op=.load 3 x:=by rfl)(hL:L[i]?=some (g,33,stA n A k c t):=by rfl)(hx:a.eval x=.pointer (some ⟨g,2+q1.toNat*9+1,none⟩):=by rfl):
  (execOp a.eval o).run prog w=.ok (.value (.int .i64 (t.get q1).ep)) w:=
 aT HK _ x ho i hL hx (hv:=(Ni hc n A k c t 1)) underlying3
theorem adn(HK:Hid (Kn b0 w0 w L R))(i:Nat)(hc:0≤q1∧q1<5){x:Operand}(ho:o.op=.load 4 x:=by rfl)(hL:L[i]?=some (g,33,stA n A k c t):=by rfl)(hx:a.eval x=.pointer (some ⟨g,2+q1.toNat*9+3,none⟩):=by rfl):
  (execOp a.eval o).run prog w=.ok (.value (.bool (t.get q1).dn)) w:=
 aT HK _ x ho i hL hx (hv:=(Ni hc n A k c t 3)) underlying4
theorem fJ(hc:0≤q1∧q1<5){x:Operand}{y:Operand}(ho:o.op=.indexAddr 31 x y:=by rfl)(hx:a.eval x=.pointer (some ⟨g,2,none⟩):=by rfl)(hy:a.eval y=.int .i64 q1:=by rfl):
  (execOp a.eval o).run prog w=.ok (.value (.pointer (some ⟨g,2+q1.toNat*9,none⟩))) w:=by
 have h:(Instr.indexAt 31 (.pointer (some ⟨g,2,none⟩)) (.int .i64 q1)).run prog w=.ok (.pointer (some ⟨g,2+q1.toNat*9,none⟩)) w:=by
  rcases aG.fO hc with rfl|rfl|rfl|rfl|rfl<;>kernel_rfl
 exact YB
theorem IQ{r:Rf}{x:Operand}{y:Operand}{z:Operand}(ho:o.op=.build 44 #[(0,x),(1,y),(2,z)]:=by rfl)(hx:a.eval x=.int .i64 r.c:=by rfl)(hy:a.eval y=.int .i64 r.e:=by rfl)(hz:a.eval z=.int .i64 r.r:=by rfl):
  (execOp a.eval o).run prog w=.ok (.value (.agg #[.int .i64 r.c,.int .i64 r.e,.int .i64 r.r])) w:=by
 have h:(Instr.build 44 #[(0,.int .i64 r.c),(1,.int .i64 r.e),(2,.int .i64 r.r)]).run prog w=.ok (.agg #[.int .i64 r.c,.int .i64 r.e,.int .i64 r.r]) w:=by go_simp
 unfold execOp;simp only[ho,Sem.run_bind,Sem.run_pure,Result.andThen_ok,List.map_toArray,List.map_cons,List.map_nil,hx,hy,hz,h]
end
section
variable {fn:Func}{R:Ending→World→Prop}{a:Act}{w:World}{B:Nat}{n:Int}{A:Option Addr}{k c:Nat}{t:aG.T}{u:Value}{q q2:Tmp}
theorem Uo(hf:fn.results=#[.cell q 33])(h2:a.tmps[q]?=some (.pointer (some ⟨B,0,none⟩)))(hd:a.defers=[])(hb:eT w B 33 (stA n A k c t))
  (hR:R (.returned (.agg (stA n A k c t))) w):bodyPost prog fn R Exit.ret a w:=
 bodyPost_ret (results_cell_row hf a.tmps w B _ _ (0,0) _ (by simp[h2]) hb underlying33 rfl wm) hd hR
theorem jD(hf:fn.results=#[.cell q 33,.tmp q2])(hb:eT w B 33 (stA n A k c t))
  (hR:R (.returned (.tuple #[.agg (stA n A k c t),u])) w) (h2:a.tmps[q]?=some (.pointer (some ⟨B,0,none⟩)):=by rfl)(h3:a.tmps[q2]?=some u:=by rfl)(hd:a.defers=[]:=by rfl):bodyPost prog fn R Exit.ret a w:=by
 refine bodyPost_ret (v:=.tuple #[.agg (stA n A k c t),u]) ?_ hd hR;have h:(loadVar 33 ⟨B,0,none⟩).run prog w=.ok (.agg (stA n A k c t)) w:=run_loadVar_row (P:=prog) w B _ _ _ (0,0) _ hb underlying33 rfl wm;simp[results,hf,asAddr,Sem.run_bind,h2,h3,h]
end
section
variable {b0:Nat}{w0 w:World}{L:List (Nat×TypeId×Array Value)}{R:List bV}
theorem Kn.gG{y:bV}(h:Kn b0 w0 w L (R++[y])):Kn b0 w0 w L (y::R):=by
 refine h.pick id (fun j=>if j=0 then R.length else j-1) (fun i j _ _ h=>h) (fun i j hi hj h=>?_) (fun i x hx=>hx) (fun i x hx=>?_)
 ·simp at hi hj;(try dsimp only);split<;>split<;>omega
 ·match i,hx with
  | 0,hx=>simp at hx ⊢;exact hx
  | i+1,hx=>
   rw[List.getElem?_cons_succ] at hx;rw[if_neg (by omega)]
   show(R++[y])[i+1-1]?=_
   rw[Nat.add_sub_cancel,List.getElem?_append_left (List.getElem?_eq_some_iff.1 hx).1];exact hx
end
section
variable {w:World}{o:Oper}{a:Act}{y:au.Ot}
theorem WL{b off:Nat}{p:Operand}(ho:o.op=.load 44 p)(hx:a.eval p=.pointer (some ⟨b,off,none⟩))(hc:∀j v,(otL y)[j]?=some v→w.cell? ⟨b,off+j,none⟩=some v):
  (execOp a.eval o).run prog w=.ok (.value (.agg #[.int .i64 y.r.c,.int .i64 y.r.e,.int .i64 y.r.r])) w:=
 cZ (x:=y.r) (p:=p) (ho:=ho) (hx:=hx) (fun j v hj=>by
  match j,hj with
  | 0,hj=>exact hc 0 v hj
  | 1,hj=>exact hc 1 v hj
  | 2,hj=>exact hc 2 v hj)
theorem WM{b off:Nat}{p:Operand}(ho:o.op=.load 28 p)(hx:a.eval p=.pointer (some ⟨b,off+3,none⟩))(hc:∀j v,(otL y)[j]?=some v→w.cell? ⟨b,off+j,none⟩=some v):
  (execOp a.eval o).run prog w=.ok (.value (.agg (dG y.p))) w:=by
 have hr:w.rangeAt b (off+3) (dG y.p).toList:=fun j v hj=>by
  have h2:(otL y)[3+j]?=some v:=by
   rw[← hj]
   match j with
   | 0=>rfl
   | 1=>rfl
   | 2=>rfl
   | 3=>rfl
   | 4=>rfl
   | j+5=>
    rw[List.getElem?_eq_none (by show 8≤3+(j+5);omega),List.getElem?_eq_none (by show 5≤j+5;omega)]
  rw[Nat.add_assoc];exact hc (3+j) v h2
 have h:=run_loadVar_mid (P:=prog) w b (off+3) _ (dG y.p).toList _ hr underlying28 rfl kg;exact YF
end
theorem yg(l:List au.Ob)(r:Rf):(au.jR l r).length≤8:=by
 unfold au.jR
 split
 next h=>
  have h1:∀m:List au.Ob,(m.flatMap fun o=>au.xg o r).length≤m.length:=fun m=>by
   induction m with
   | nil=>exact Nat.le_refl 0
   | cons o m ih=>
    have h2:=au.OA o r;rw[List.flatMap_cons,List.length_append,List.length_cons];omega
  exact Nat.le_trans (h1 l) h.len
 next=>exact Nat.zero_le 8
theorem LQ{y:Rf}{b:Bool}:∀z∈au.held y b,z.p.v.f<18446744073709551616:=fun z hz=>by
 unfold au.held at hz
 split at hz
 ·rw[List.mem_singleton.1 hz];show(0:Nat)<18446744073709551616;decide
 ·cases hz
theorem sQ{l:List au.Ob}{r:Rf}:∀z∈au.jR l r,z.p.v.f<18446744073709551616:=fun z hz=>by
 unfold au.jR at hz
 split at hz
 ·obtain⟨o,_,hz⟩:=List.mem_flatMap.1 hz
  unfold au.xg at hz
  split at hz
  ·exact LQ z hz
  ·cases hz
 ·cases hz
theorem oI{l:List au.Ot}(h:l.length≤1000:=by show os.length+1≤1000;rw[kF.out];have:=FY.out;omega):Fits bL tF l:=⟨fun x hx=>trivial,by show l.length*72≤_;omega⟩
def kD(G:World→Prop)(s:Ap.St)(os:List au.Ot)(w:World)(e:Ending)(w':World):Prop:=∃(A:Option Addr) (k c:Nat) (l:List Oh) (O:Option Addr) (m d:Nat) (Rn:List bV),e=.returned (.tuple #[.agg (stA s.n A k c s.t),.slice O m d])∧Hid (vs l=s.l)∧Kn w.heap.size w w' [] Rn∧
 Hid (∀(b:Nat) (W0 W:World) L R,Kn b W0 W L R→(∀z∈Rn,z∈R)→G W→dS W A k c l∧bT bL tF W O m d os)
end
end Go.Proofs.YtahdlddbbnjloaaGreat
