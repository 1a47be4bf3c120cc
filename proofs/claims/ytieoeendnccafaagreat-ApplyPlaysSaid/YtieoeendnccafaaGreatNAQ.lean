/- One cell of a thing of a row that is known is another one: it is stored at its place. No condition but those named. -/
import Derived.Test.YtieoeendnccafaaGreatNAP
set_option linter.unusedSimpArgs false
set_option linter.unusedVariables false
set_option maxRecDepth 100000
set_option maxHeartbeats 25600000
open Go.RowKit
namespace Go.Proofs.YtieoeendnccafaaGreat
open _root_.Go.Proofs.Tryz
section
theorem agd(w0:World)(x:Oh)(r:Rf)(c:aF.C)(w:World)(hx0:In w0 x)(hw:Below w0.heap.size w0 w)(hv:c.val.f<18446744073709551616)(hk:c.k=6):Calls prog 192 #[.agg (bS x),.agg #[.int .i64 r.c,.int .i64 r.e,.int .i64 r.r],.agg (dh c)] w (jY w0 (av.act x.v r c) w):=by
 have he:av.act x.v r c=⟨x.v,⟨aK.pE x.v.dP c.key,aK.pK x.v.dP c.key⟩,false,[]⟩:=by
  exact oV
 rw[he];clear he;have hx:=hx0.later hw;have HI:=zH hx0;have HT:=zH (fun W (hW:Below w.heap.size w W)=>EX x.pA x.pc x.pn x.v.dP c.key W (hx.p.later hW));have HK:=Cg w 63 (bS x) 35 #[.int .i64 r.c,.int .i64 r.e,.int .i64 r.r] 37 (dh c) 222 (mX rU av.rz false none 0 0);clear hx hx0 hw hv;unfold jY;unfold qU vv at HT;simp only;generalize aK.pK x.v.dP c.key=v at *
 generalize aK.pE x.v.dP c.key=z at *
 go_enter func192,ntmps192;go_wp2_with (first|refine zX (bK HK 2) ?_|(refine bQ HK ?_;clear HK;intro _ g7 HK;simp only[aO,aJ] at HK)|(refine bf (q:=av.rz) HK 4 ?_;clear HK;intro _ HK;simp only[lS] at HK)|refine zX (mK HK 0) ?_|refine zX (yP HK 2) ?_);refine cb (HT.out _ HK.out.b) HK ?_;clear HK;intro _ HK;go_wp2_with (first|(refine nk (z:=v) HK 4 ?_;clear HK;intro _ HK;simp only[lS] at HK)|(refine jU HK 4 ?_;clear HK;intro _ HK;simp only[lS] at HK)|refine zX (jv HK 0) ?_|refine zX (xC HK 4) ?_|refine zX (mP (p:=⟨z,v⟩)) ?_|(refine eT HK 3 ?_;clear HK;intro _ HK;simp only[lS] at HK));exact abk
theorem agc(w0:World)(x:Oh)(r:Rf)(c:aF.C)(w:World)(hx0:In w0 x)(hw:Below w0.heap.size w0 w)(hv:c.val.f<18446744073709551616)(hk:c.k=7):Calls prog 192 #[.agg (bS x),.agg #[.int .i64 r.c,.int .i64 r.e,.int .i64 r.r],.agg (dh c)] w (jY w0 (av.act x.v r c) w):=by
 have he:av.act x.v r c=⟨{ x.v with dP:=aK.uL x.v.dP c.key c.val },av.err (aK.rT x.v.dP c.key c.val),false,[]⟩:=by
  exact oV
 rw[he];clear he;have hx:=hx0.later hw;have HI:=zH hx0;have HT:=zH (fun W (hW:Below w.heap.size w W)=>Mg x.pA x.pc x.pn x.v.dP c.key c.val W (hx.p.later hW) hv);have HF:=zH (hx.p.fit.pt (k:=c.key) hv);have HK:=Cg w 63 (bS x) 35 #[.int .i64 r.c,.int .i64 r.e,.int .i64 r.r] 37 (dh c) 222 (mX rU av.rz false none 0 0);clear hx hx0 hw hv;unfold jY;unfold adx vv at HT;simp only;generalize aK.uL x.v.dP c.key c.val=m at *
 generalize aK.rT x.v.dP c.key c.val=z at *
 go_enter func192,ntmps192;go_wp2_with (first|refine zX (bK HK 2) ?_|(refine bQ HK ?_;clear HK;intro _ g7 HK;simp only[aO,aJ] at HK)|(refine bf (q:=av.rz) HK 4 ?_;clear HK;intro _ HK;simp only[lS] at HK)|refine zX (mK HK 0) ?_|refine zX (yP HK 2) ?_|refine zX (Du HK 2) ?_);refine(HT.out _ HK.out.b).mono ?_;rintro e w1 ⟨A4,n4,c4,rfl,o4,b4⟩;replace HK:=zH (HK.out.called b4 o4);simp only[aJ] at HK;clear o4 b4;go_wp2_with (first|(refine gI HK 0 m ?_;clear HK;intro _ HK;simp only[lS] at HK)|(refine jU HK 4 ?_;clear HK;intro _ HK;simp only[lS] at HK)|refine zX (jv HK 0) ?_|refine zX (xC HK 4) ?_|refine zX (mP (p:=av.err z)) ?_|(refine eT HK 3 ?_;clear HK;intro _ HK;simp only[lS] at HK));exact nH results192 (HK.out.blk 3 rfl) ⟨_,_,_,_,_,rfl,rfl,HK.out.aA 0,fun _ _ _ _ _ K hm=>⟨fun hb=>(HI.out.later hb).sp (Sl.own (K.mem (hm _ (List.mem_cons_self ..))) HF.out),bJ.none _⟩⟩
theorem agb(w0:World)(x:Oh)(r:Rf)(c:aF.C)(w:World)(hx0:In w0 x)(hw:Below w0.heap.size w0 w)(hv:c.val.f<18446744073709551616)(hk:c.k=8):Calls prog 192 #[.agg (bS x),.agg #[.int .i64 r.c,.int .i64 r.e,.int .i64 r.r],.agg (dh c)] w (jY w0 (av.act x.v r c) w):=by
 have he:av.act x.v r c=⟨{ x.v with dP:=aK.Qo x.v.dP c.key },⟨aK.pE x.v.dP c.key,aK.pK x.v.dP c.key⟩,false,[]⟩:=by
  exact oV
 rw[he];clear he;have hx:=hx0.later hw;have HI:=zH hx0;have HT:=zH (fun W (hW:Below w.heap.size w W)=>YF x.pA x.pc x.pn x.v.dP c.key W (hx.p.later hW));have HF:=zH (hx.p.fit.ct c.key);have HK:=Cg w 63 (bS x) 35 #[.int .i64 r.c,.int .i64 r.e,.int .i64 r.r] 37 (dh c) 222 (mX rU av.rz false none 0 0);clear hx hx0 hw hv;unfold jY;unfold uR vv at HT;simp only;generalize aK.Qo x.v.dP c.key=m at *
 generalize aK.pK x.v.dP c.key=v at *
 generalize aK.pE x.v.dP c.key=z at *
 go_enter func192,ntmps192;go_wp2_with (first|refine zX (bK HK 2) ?_|(refine bQ HK ?_;clear HK;intro _ g7 HK;simp only[aO,aJ] at HK)|(refine bf (q:=av.rz) HK 4 ?_;clear HK;intro _ HK;simp only[lS] at HK)|refine zX (mK HK 0) ?_|refine zX (yP HK 2) ?_);exact aeK
theorem aga(w0:World)(x:Oh)(r:Rf)(c:aF.C)(w:World)(hx0:In w0 x)(hw:Below w0.heap.size w0 w)(hv:c.val.f<18446744073709551616)(hk:c.k=9):Calls prog 192 #[.agg (bS x),.agg #[.int .i64 r.c,.int .i64 r.e,.int .i64 r.r],.agg (dh c)] w (jY w0 (av.act x.v r c) w):=by
 have he:av.act x.v r c=⟨{ x.v with dP:=aK.FP x.v.dP c.key c.old c.val },⟨aK.Ah x.v.dP c.key c.old c.val,aK.Jo x.v.dP c.key c.old⟩,false,[]⟩:=by
  exact oV
 rw[he];clear he;have hx:=hx0.later hw;have HI:=zH hx0;have HT:=zH (fun W (hW:Below w.heap.size w W)=>RU x.pA x.pc x.pn x.v.dP c.key c.old c.val W (hx.p.later hW) hv);have HF:=zH (hx.p.fit.sw (k:=c.key) (o:=c.old) hv);have HK:=Cg w 63 (bS x) 35 #[.int .i64 r.c,.int .i64 r.e,.int .i64 r.r] 37 (dh c) 222 (mX rU av.rz false none 0 0);clear hx hx0 hw hv;unfold jY;unfold uR vv at HT;simp only;generalize aK.FP x.v.dP c.key c.old c.val=m at *
 generalize aK.Jo x.v.dP c.key c.old=v at *
 generalize aK.Ah x.v.dP c.key c.old c.val=z at *
 go_enter func192,ntmps192;go_wp2_with (first|refine zX (bK HK 2) ?_|(refine bQ HK ?_;clear HK;intro _ g7 HK;simp only[aO,aJ] at HK)|(refine bf (q:=av.rz) HK 4 ?_;clear HK;intro _ HK;simp only[lS] at HK)|refine zX (mK HK 0) ?_|refine zX (yP HK 2) ?_|refine zX (Du HK 2) ?_|refine zX (aaC HK 2) ?_);exact aeK
theorem adr(w0:World)(x:Oh)(r:Rf)(c:aF.C)(w:World)(hx0:In w0 x)(hw:Below w0.heap.size w0 w)(hv:c.val.f<18446744073709551616)(hk:c.k=10):Calls prog 192 #[.agg (bS x),.agg #[.int .i64 r.c,.int .i64 r.e,.int .i64 r.r],.agg (dh c)] w (jY w0 (av.act x.v r c) w):=by
 have he:av.act x.v r c=⟨{ x.v with vals:=dK.xV x.v.cap x.v.vals c.val },av.err (dK.uM x.v.cap x.v.vals c.val),false,[]⟩:=by
  exact oV
 rw[he];clear he;have hx:=hx0.later hw;have HI:=zH hx0;have HT:=zH (fun W (hW:Below w.heap.size w W)=>Tk x.v.cap x.vA x.vc x.vn x.v.vals c.val W (hx.v.later hW) hv);have HF:=zH (Nf (N:=x.v.cap) hx.v.fit hv);have HK:=Cg w 63 (bS x) 35 #[.int .i64 r.c,.int .i64 r.e,.int .i64 r.r] 37 (dh c) 222 (mX rU av.rz false none 0 0);clear hx hx0 hw hv;unfold jY;unfold Wy vv at HT;simp only;generalize dK.xV x.v.cap x.v.vals c.val=m at *
 generalize dK.uM x.v.cap x.v.vals c.val=z at *
 go_enter func192,ntmps192;go_wp2_with (first|refine zX (bK HK 2) ?_|(refine bQ HK ?_;clear HK;intro _ g7 HK;simp only[aO,aJ] at HK)|(refine bf (q:=av.rz) HK 4 ?_;clear HK;intro _ HK;simp only[lS] at HK)|refine zX (jP HK 0) ?_|refine zX (rM HK 0) ?_|refine zX (Du HK 2) ?_);refine(HT.out _ HK.out.b).mono ?_;rintro e w1 ⟨A4,n4,c4,rfl,o4,b4⟩;replace HK:=zH (HK.out.called b4 o4);simp only[aJ] at HK;clear o4 b4;go_wp2_with (first|(refine iP HK 0 m ?_;clear HK;intro _ HK;simp only[lS] at HK)|(refine jU HK 4 ?_;clear HK;intro _ HK;simp only[lS] at HK)|refine zX (jv HK 0) ?_|refine zX (xC HK 4) ?_|refine zX (mP (p:=av.err z)) ?_|(refine eT HK 3 ?_;clear HK;intro _ HK;simp only[lS] at HK));exact aei
theorem adq(w0:World)(x:Oh)(r:Rf)(c:aF.C)(w:World)(hx0:In w0 x)(hw:Below w0.heap.size w0 w)(hv:c.val.f<18446744073709551616)(hk:c.k=11):Calls prog 192 #[.agg (bS x),.agg #[.int .i64 r.c,.int .i64 r.e,.int .i64 r.r],.agg (dh c)] w (jY w0 (av.act x.v r c) w):=by
 have he:av.act x.v r c=⟨{ x.v with vals:=dK.Jq x.v.cap x.v.vals },⟨dK.KF x.v.cap x.v.vals,dK.Jp x.v.cap x.v.vals⟩,false,[]⟩:=by
  exact oV
 rw[he];clear he;have hx:=hx0.later hw;have HI:=zH hx0;have HT:=zH (fun W (hW:Below w.heap.size w W)=>XF x.v.cap x.vA x.vc x.vn x.v.vals W (hx.v.later hW));have HF:=zH (Ng (N:=x.v.cap) hx.v.fit);have HK:=Cg w 63 (bS x) 35 #[.int .i64 r.c,.int .i64 r.e,.int .i64 r.r] 37 (dh c) 222 (mX rU av.rz false none 0 0);clear hx hx0 hw hv;unfold jY;unfold Ww vv at HT;simp only;generalize dK.Jq x.v.cap x.v.vals=m at *
 generalize dK.Jp x.v.cap x.v.vals=v at *
 generalize dK.KF x.v.cap x.v.vals=z at *
 go_enter func192,ntmps192;go_wp2_with (first|refine zX (bK HK 2) ?_|(refine bQ HK ?_;clear HK;intro _ g7 HK;simp only[aO,aJ] at HK)|(refine bf (q:=av.rz) HK 4 ?_;clear HK;intro _ HK;simp only[lS] at HK)|refine zX (jP HK 0) ?_|refine zX (rM HK 0) ?_);refine(HT.out _ HK.out.b).mono ?_;rintro e w1 ⟨A4,n4,c4,rfl,o4,b4⟩;replace HK:=zH (HK.out.called b4 o4);simp only[aJ] at HK;clear o4 b4;go_wp2_with (first|(refine iP HK 0 m ?_;clear HK;intro _ HK;simp only[lS] at HK)|(refine nk (z:=v) HK 4 ?_;clear HK;intro _ HK;simp only[lS] at HK)|(refine jU HK 4 ?_;clear HK;intro _ HK;simp only[lS] at HK)|refine zX (jv HK 0) ?_|refine zX (xC HK 4) ?_|refine zX (mP (p:=⟨z,v⟩)) ?_|(refine eT HK 3 ?_;clear HK;intro _ HK;simp only[lS] at HK));exact aei
theorem adl(w0:World)(x:Oh)(r:Rf)(c:aF.C)(w:World)(hx0:In w0 x)(hw:Below w0.heap.size w0 w)(hv:c.val.f<18446744073709551616)(hk:c.k=15):Calls prog 192 #[.agg (bS x),.agg #[.int .i64 r.c,.int .i64 r.e,.int .i64 r.r],.agg (dh c)] w (jY w0 (av.act x.v r c) w):=by
 have he:av.act x.v r c=⟨{ x.v with mt:=Mt.ad x.v.mt c.val.f },av.err (Mt.Lr x.v.mt),false,[]⟩:=by
  exact oV
 rw[he];clear he;have hx:=hx0.later hw;have HI:=zH hx0;have HT:=zH (fun W (hW:Below w.heap.size w W)=>TT x.v.mt hx.m c.val.f hv W);have HF:=zH (Mt.UY hx.m hv);have HK:=Cg w 63 (bS x) 35 #[.int .i64 r.c,.int .i64 r.e,.int .i64 r.r] 37 (dh c) 222 (mX rU av.rz false none 0 0);clear hx hx0 hw hv;unfold jY;unfold QH at HT;simp only;generalize Mt.ad x.v.mt c.val.f=m at *
 generalize Mt.Lr x.v.mt=z at *
 go_enter func192,ntmps192;go_wp2_with (first|refine zX (bK HK 2) ?_|(refine bQ HK ?_;clear HK;intro _ g7 HK;simp only[aO,aJ] at HK)|(refine bf (q:=av.rz) HK 4 ?_;clear HK;intro _ HK;simp only[lS] at HK)|refine zX (AX HK 0) ?_|refine zX (aaD HK 2) ?_);refine cb (HT.out _ HK.out.b) HK ?_;clear HK;intro _ HK;go_wp2_with (first|(refine Ab (m:=m) HK 0 rfl rfl rfl rfl rfl ?_;clear HK;intro _ HK;simp only[lS] at HK)|(refine jU HK 4 ?_;clear HK;intro _ HK;simp only[lS] at HK)|refine zX (jv HK 0) ?_|refine zX (xC HK 4) ?_|refine zX (mP (p:=av.err z)) ?_|(refine eT HK 3 ?_;clear HK;intro _ HK;simp only[lS] at HK));exact nH results192 (HK.out.blk 3 rfl) ⟨_,_,_,_,_,rfl,rfl,HK.out.aA 0,fun _ _ _ _ _ K hm=>⟨fun hb=>(HI.out.later hb).sm HF.out,bJ.none _⟩⟩
theorem adk(w0:World)(x:Oh)(r:Rf)(c:aF.C)(w:World)(hx0:In w0 x)(hw:Below w0.heap.size w0 w)(hv:c.val.f<18446744073709551616)(hk:c.k=16):Calls prog 192 #[.agg (bS x),.agg #[.int .i64 r.c,.int .i64 r.e,.int .i64 r.r],.agg (dh c)] w (jY w0 (av.act x.v r c) w):=by
 have he:av.act x.v r c=⟨x.v,⟨(Mt.rd x.v.mt c.n).e,⟨(Mt.rd x.v.mt c.n).k,(Mt.rd x.v.mt c.n).n,(Mt.rd x.v.mt c.n).f,⟨#[]⟩⟩⟩,false,[]⟩:=by
  exact oV
 rw[he];clear he;have hx:=hx0.later hw;have HI:=zH hx0;have HT:=zH (fun W (hW:Below w.heap.size w W)=>PG x.v.mt hx.m c.n W);have HK:=Cg w 63 (bS x) 35 #[.int .i64 r.c,.int .i64 r.e,.int .i64 r.r] 37 (dh c) 222 (mX rU av.rz false none 0 0);clear hx hx0 hw hv;unfold jY;unfold QF at HT;simp only;generalize Mt.rd x.v.mt c.n=d at *
 go_enter func192,ntmps192;go_wp2_with (first|refine zX (bK HK 2) ?_|(refine bQ HK ?_;clear HK;intro _ g7 HK;simp only[aO,aJ] at HK)|(refine bf (q:=av.rz) HK 4 ?_;clear HK;intro _ HK;simp only[lS] at HK)|refine zX (AX HK 0) ?_|refine zX (MK HK 2) ?_);refine cb (HT.out _ HK.out.b) HK ?_;clear HK;intro _ HK;go_wp2_with (first|(refine nk (z:=⟨d.k,d.n,d.f,⟨#[]⟩⟩) HK 4 ?_;clear HK;intro _ HK;simp only[lS] at HK)|(refine jU HK 4 ?_;clear HK;intro _ HK;simp only[lS] at HK)|refine zX (jv HK 0) ?_|refine zX (xC HK 4) ?_|refine zX (mP (p:=⟨d.e,⟨d.k,d.n,d.f,⟨#[]⟩⟩⟩)) ?_|(refine eT HK 3 ?_;clear HK;intro _ HK;simp only[lS] at HK));exact abk
theorem adj(w0:World)(x:Oh)(r:Rf)(c:aF.C)(w:World)(hx0:In w0 x)(hw:Below w0.heap.size w0 w)(hv:c.val.f<18446744073709551616)(hk:c.k=17):Calls prog 192 #[.agg (bS x),.agg #[.int .i64 r.c,.int .i64 r.e,.int .i64 r.r],.agg (dh c)] w (jY w0 (av.act x.v r c) w):=by
 have he:av.act x.v r c=⟨x.v,⟨0,av.num (av.size x.v)⟩,false,[]⟩:=by
  exact oV
 rw[he];clear he;have hx:=hx0.later hw;have HI:=zH hx0;have HT:=zH (fun W (hW:Below w.heap.size w W)=>Ow x W (hx.later hW));have HNu:=zH yJ;have HK:=Cg w 63 (bS x) 35 #[.int .i64 r.c,.int .i64 r.e,.int .i64 r.r] 37 (dh c) 222 (mX rU av.rz false none 0 0);clear hx hx0 hw hv;unfold jY;simp only;generalize av.size x.v=z at *
 go_enter func192,ntmps192;go_wp2_with (first|refine zX (bK HK 2) ?_|(refine bQ HK ?_;clear HK;intro _ g7 HK;simp only[aO,aJ] at HK)|(refine bf (q:=av.rz) HK 4 ?_;clear HK;intro _ HK;simp only[lS] at HK)|refine zX (jv HK 0) ?_);refine cb (HT.out _ HK.out.b) HK ?_;clear HK;intro _ HK;go_wp2_with fail;refine cb (HNu.out _ _) HK ?_;clear HK;intro _ HK;go_wp2_with (first|(refine nk (z:=av.num z) HK 4 ?_;clear HK;intro _ HK;simp only[lS] at HK)|refine zX (jv HK 0) ?_|refine zX (xC HK 4) ?_|refine zX (mP (p:=⟨0,av.num z⟩)) ?_|(refine eT HK 3 ?_;clear HK;intro _ HK;simp only[lS] at HK));exact abk
theorem adp(w0:World)(x:Oh)(r:Rf)(c:aF.C)(w:World)(hx0:In w0 x)(hw:Below w0.heap.size w0 w)(hv:c.val.f<18446744073709551616)(hk:c.k=12):Calls prog 192 #[.agg (bS x),.agg #[.int .i64 r.c,.int .i64 r.e,.int .i64 r.r],.agg (dh c)] w (jY w0 (av.act x.v r c) w):=by
 have he:av.act x.v r c=av.take x.v r:=by
  exact oV
 rw[he];clear he;have hx:=hx0.later hw;have HI:=zH hx0;have HT:=zH (fun W (hW:Below w.heap.size w W)=>Ov w0 x r W hx0 (hw.trans (hW.mono hw.size)));exact zq7
theorem ado(w0:World)(x:Oh)(r:Rf)(c:aF.C)(w:World)(hx0:In w0 x)(hw:Below w0.heap.size w0 w)(hv:c.val.f<18446744073709551616)(hk:c.k=13):Calls prog 192 #[.agg (bS x),.agg #[.int .i64 r.c,.int .i64 r.e,.int .i64 r.r],.agg (dh c)] w (jY w0 (av.act x.v r c) w):=by
 have he:av.act x.v r c=av.free x.v r:=by
  exact oV
 rw[he];clear he;have hx:=hx0.later hw;have HI:=zH hx0;have HT:=zH (fun W (hW:Below w.heap.size w W)=>OB w0 x r W hx0 (hw.trans (hW.mono hw.size)));exact zq7
theorem adn(w0:World)(x:Oh)(r:Rf)(c:aF.C)(w:World)(hx0:In w0 x)(hw:Below w0.heap.size w0 w)(hv:c.val.f<18446744073709551616)(hk:c.k=14)(hd:0≤x.v.round):Calls prog 192 #[.agg (bS x),.agg #[.int .i64 r.c,.int .i64 r.e,.int .i64 r.r],.agg (dh c)] w (jY w0 (av.act x.v r c) w):=by
 have he:av.act x.v r c=av.wait x.v r:=by
  exact oV
 rw[he];clear he;have hx:=hx0.later hw;have HI:=zH hx0;have HT:=zH (fun W (hW:Below w.heap.size w W)=>Oi w0 x r W hx0 (hw.trans (hW.mono hw.size)) hd);exact zq7
end
section
section
variable {P:Program}{α:Type}(La:Lay P α)(N:Cn La){b0:Nat}{w0 w:World}{L:List (Nat×TypeId×Array Value)}{R:List dA}{ops:Array Oper}{o:Oper}{a:Act}{Q:Exit→Act→World→Prop}{K:Act→World→Prop}{E:Prop}{A A2 A3:Option Addr}{n c n2 c2 n3 c3:Nat}
theorem Oq(HK:Hid (Kn b0 w0 w L R))(hgd:o.guard=none){x:Operand}{y:Operand}{z:Operand}(ho:o.op=.buildSlice N.tt 3 #[(0,x),(1,y),(2,z)])(hx:a.eval x=.slice A n c)(hy:a.eval y=.slice A2 n2 c2)(hz:a.eval z=.slice A3 n3 c3)
  (h:∀w' g,Hid (Kn b0 w0 w' (L++[(g,La.t,#[.slice A n c,.slice A2 n2 c2,.slice A3 n3 c3])]) R)→Hid (Below w.heap.size w w')→K (a.put o.dst (.slice (some ⟨g,0,none⟩) 3 3)) w'):if Region.wanted o (yielded ops a.tmps)=true then Oper.wp P o a w K Q else E:=by
 rw[if_pos (by simp[Region.wanted,hgd])];exact tZ La N HK 3 ho [.slice A n c,.slice A2 n2 c2,.slice A3 n3 c3] (by simp[hx,hy,hz]) h
end
theorem YX(w0:World)(x:Oh)(r:Rf)(c:aF.C)(w:World)(hx0:In w0 x)(hw:Below w0.heap.size w0 w)(hv:c.val.f<18446744073709551616)(hk:4≤c.k∧c.k≤17)(h4:¬c.k=4)(h5:¬c.k=5)(hd:c.k=14→0≤x.v.round):
  Calls prog 192 #[.agg (bS x),.agg #[.int .i64 r.c,.int .i64 r.e,.int .i64 r.r],.agg (dh c)] w (jY w0 (av.act x.v r c) w):=by
 rcases av.qz hk h4 h5 with h|h|h|h|h|h|h|h|h|h|h|h
 ·exact agd w0 x r c w hx0 hw hv h
 ·exact agc w0 x r c w hx0 hw hv h
 ·exact agb w0 x r c w hx0 hw hv h
 ·exact aga w0 x r c w hx0 hw hv h
 ·exact adr w0 x r c w hx0 hw hv h
 ·exact adq w0 x r c w hx0 hw hv h
 ·exact adp w0 x r c w hx0 hw hv h
 ·exact ado w0 x r c w hx0 hw hv h
 ·exact adn w0 x r c w hx0 hw hv h (hd h)
 ·exact adl w0 x r c w hx0 hw hv h
 ·exact adk w0 x r c w hx0 hw hv h
 ·exact adj w0 x r c w hx0 hw hv h
def FT(c:aF.C):Oh:=⟨av.fresh c,none,0,0,none,0,0,none,0,0⟩
theorem In.fr(w:World)(c:aF.C):In w (FT c):=⟨Sl.none w,bJ.none w,bJ.none w,Mt.UU,by show(0:Int)≤_;decide⟩
theorem Iy{w:World}{o:Oper}{a:Act}{c:aF.C}{p:Operand}{q:Operand}{r:Operand}(ho:o.op=.build 63 #[(0,p),(1,q),(2,r)]:=by rfl)(hp:a.eval p=.string c.name:=by rfl)(hq:a.eval q=.int .i64 c.n:=by rfl)(hr:a.eval r=.int .i64 c.m:=by rfl):
  (execOp a.eval o).run prog w=.ok (.value (.agg (bS (FT c)))) w:=by
 have h:(Instr.build 63 #[(0,.string c.name),(1,.int .i64 c.n),(2,.int .i64 c.m)]).run prog w=.ok (.agg (bS (FT c))) w:=by
  unfold bS FT av.fresh Mt.zero;go_simp
 unfold execOp;simp only[ho,Sem.run_bind,Sem.run_pure,Result.andThen_ok,List.map_toArray,List.map_cons,List.map_nil,hp,hq,hr,h]
theorem bY.one{b:Nat}{w:World}{A:Option Addr}{c:Nat}{y:Oh}(ho:aP.Own b w (.slice A 1 c) [y])(hi:In w y):bY w A 1 c [y]:=
 ⟨bJ.own ho ⟨fun x hx=>trivial,by show 1*144≤_;decide⟩,fun x hx=>by rw[List.mem_singleton] at hx;subst hx;exact hi⟩
theorem JN(a b:List Oh):vs (a++b)=vs a++vs b:=List.map_append
theorem JM(l:List Oh)(p q:Nat)(y:Oh):vs (l.take p++[y]++l.drop q)=(vs l).take p++[y.v]++(vs l).drop q:=by
 rw[JN,JN];unfold vs;rw[List.map_take,List.map_drop]
 rfl
theorem aan(l:List Oh)(p q:Nat):vs (l.take p++l.drop q)=(vs l).take p++(vs l).drop q:=by
 rw[JN];unfold vs;rw[List.map_take,List.map_drop]
def adB(y:av.Rs)(w:World)(e:Ending)(w':World):Prop:=∃A n c l O k d Rn,e=.returned (.tuple #[.slice A n c,.agg (cB y.p),.bool y.later,.slice O k d])∧vs l=y.l∧Kn w.heap.size w w' [] Rn∧
 ∀(b:Nat) (W0 W:World) L R,Kn b W0 W L R→(∀y∈Rn,y∈R)→bY W A n c l∧bJ aR tF W O k d y.outs
theorem Xx(A:Option Addr)(cp n:Nat)(l:List Oh)(r:Rf)(c:aF.C)(w:World)(hs:bY w A n cp l)(hv:c.val.f<18446744073709551616)(ho:c.old.f<18446744073709551616):
  Calls prog 124 #[.slice A n cp,.agg #[.int .i64 r.c,.int .i64 r.e,.int .i64 r.r],.agg (dh c)] w (adB (av.iC (vs l) r c) w):=by
 unfold adB;have HS:=zH hs;have HC:=zH (fun W (hW:Below w.heap.size w W)=>Ke A cp n l r c W (hs.later hW) hv ho);have HJ:=zH Dh;have HP:=zH (fun W (hW:Below w.heap.size w W)=>Az A cp n l c.name w W hs hW);have HK:=AY w 35 #[.int .i64 r.c,.int .i64 r.e,.int .i64 r.r] 37 (dh c) 28 (cB av.rz);unfold QG at HC;unfold xB at HP;by_cases Bc:av.bG (vs l) r c=0
 case neg=>
  rw[av.uw Bc];have hz:(av.bG (vs l) r c != 0)=true:=by simpa using Bc
  clear hs hv ho Bc HP;generalize av.bG (vs l) r c=z at *
  go_enter func124,ntmps124;go_wp2_with (first|refine zX (aB HK 0) ?_|refine zX (zD HK 1) ?_);refine cb (HC.out _ HK.out.b) HK ?_;clear HK;intro _ HK;go_wp2_with (refine dG aP xZ HK ?_;clear HK;intro w2 g7 HK _;simp only[aO,aJ] at HK);refine(lI.one HJ.out HK 3 rfl (HS.out.later HK.out.b)).mono ?_;rintro e w3 ⟨A4,n4,c4,l4,rfl,v4,k4,o4⟩;replace HK:=zH (HK.out.join k4);have yV:=zH o4.fo;have HBg:=zH o4.s.big;have BS:=zH v4;clear v4 k4 o4;simp only[aJ] at HK;go_wp2_with (refine bf (q:=av.err z) HK 2 ?_;clear HK;intro _ HK;simp only[lS] at HK);exact aem
 case pos=>
 obtain⟨hall,hcc,hnew,hown⟩:=av.Bz Bc;obtain⟨hR,hok,hk4,Yq⟩:=hall;have Yp:n≤8:=by have:=hR.len;rw[fF,hs.len] at this;exact this
 rw[Bc] at HC;by_cases h4:c.k=4
 ·rw[av.wT Bc h4]
  have afH:(c.k==4)=true:=by simpa using h4
  have WC:=zH (JM l (av.idx (vs l) c.name) (av.fin (vs l) c.name) (FT c));have gT:=zH (av.kQ (vs l) c.name);have hlen:(vs l).length=n:=by rw[fF];exact hs.len
  unfold av.put;simp only;clear hs hv ho Bc hcc hnew hown hR hok hk4 Yq h4;generalize av.idx (vs l) c.name=p at *
  generalize av.fin (vs l) c.name=q at *
  go_enter func124,ntmps124;go_wp2_with (first|refine zX (aB HK 0) ?_|refine zX (zD HK 1) ?_);refine cb (HC.out _ HK.out.b) HK ?_;clear HK;intro _ HK;go_wp2_with refine zX (ko HK 1) ?_;refine(HP.out _ HK.out.b).mono ?_;rintro e w1 ⟨A1,n1,c1,A2,n2,c2,A3,n3,c3,rfl,s1,s2,s3,b1⟩;replace HK:=iy HK b1;clear b1;have hl1:n1≤8:=by have:=s1.len;rw[List.length_take,HS.out.len] at this;omega
  have hl3:n3≤8:=by have:=s3.len;rw[List.length_drop,HS.out.len] at this;omega
  have QJ:=zH s1;have HS3:=zH s3;clear s1 s2 s3 HP;go_wp2_with (first|refine zX (bK HK 1) ?_|refine zX (ko HK 1) ?_|refine zX (MK HK 1) ?_|refine zX (aaE HK 1) ?_|refine zX (Iy (c:=c)) ?_|(refine gY HK ?_;clear HK;intro _ g5 HK;simp only[aO,aJ] at HK)|(refine fD HK 3 ?_;clear HK;intro _ HK;simp only[lS] at HK)|refine zX (jv HK 3) ?_|(refine dI aP (p:=FT c) HK ?_;clear HK;intro _ g9 HK;simp only[aO,aJ] at HK)|(refine FX aP xZ HK rfl rfl rfl rfl rfl ?_;clear HK;intro w2 g7 HK _;simp only[aO,aJ] at HK));refine(lI.three HJ.out HK 4 rfl (QJ.out.later HK.out.b) (bY.one (HK.out.own 0 rfl) (In.fr _ c)) (HS3.out.later HK.out.b) (by omega)).mono ?_;rintro e w3 ⟨A4,n4,c4,l4,rfl,v4,k4,o4⟩;replace HK:=zH (HK.out.join k4);have yV:=zH o4.fo;have HBg:=zH o4.s.big;have BS:=zH (v4.trans WC.out);clear v4 k4 o4;simp only[aO,aJ] at HK;go_wp2_with (refine bf (q:=av.rz) HK 2 ?_;clear HK;intro _ HK;simp only[lS] at HK);exact qL results124 (HK.out.blk 2 rfl) (hR:=⟨A4,n4,c4,l4,_,_,_,_,rfl,BS.out,HK.out.aA 0,fun _ _ _ _ _ K hm=>⟨K.obs (hm _ (List.mem_cons_of_mem _ (List.mem_cons_self ..))) (fun y hy=>hm _ (List.mem_cons_of_mem _ (List.mem_cons_of_mem _ hy))) yV.out HBg.out,bJ.none _⟩⟩)
 by_cases h5:c.k=5
 ·rw[av.wU Bc h5]
  have afH:(c.k==4)=false:=by simpa using h4
  have ahw:(c.k==5)=true:=by simpa using h5
  have WC:=zH (aan l (av.idx (vs l) c.name) (av.fin (vs l) c.name));have gT:=zH (av.kQ (vs l) c.name);have HWo:=zH (av.fu hR.up c.name).1;simp only;clear hs hv ho Bc hcc hnew hown hR hok hk4 Yq h4 h5;generalize av.idx (vs l) c.name=p at *
  generalize av.fin (vs l) c.name=q at *
  go_enter func124,ntmps124;go_wp2_with (first|refine zX (aB HK 0) ?_|refine zX (zD HK 1) ?_);refine cb (HC.out _ HK.out.b) HK ?_;clear HK;intro _ HK;go_wp2_with refine zX (ko HK 1) ?_;refine(HP.out _ HK.out.b).mono ?_;rintro e w1 ⟨A1,n1,c1,A2,n2,c2,A3,n3,c3,rfl,s1,s2,s3,b1⟩;replace HK:=iy HK b1;clear b1;have hl1:n1≤8:=by have:=s1.len;rw[List.length_take,HS.out.len] at this;omega
  have hl3:n3≤8:=by have:=s3.len;rw[List.length_drop,HS.out.len] at this;omega
  have QJ:=zH s1;have HS3:=zH s3;clear s1 s2 s3 HP;go_wp2_with (first|refine zX (bK HK 1) ?_|(refine lT aP xZ HK ?_;clear HK;intro w2 g7 HK _;simp only[aO,aJ] at HK));refine(lI.two HJ.out HK 3 rfl (QJ.out.later HK.out.b) (HS3.out.later HK.out.b) (by omega)).mono ?_;rintro e w3 ⟨A4,n4,c4,l4,rfl,v4,k4,o4⟩;replace HK:=zH (HK.out.join k4);have yV:=zH o4.fo;have HBg:=zH o4.s.big;have BS:=zH ((v4.trans WC.out).trans HWo.out);clear v4 k4 o4;simp only[aO,aJ] at HK;go_wp2_with (refine bf (q:=av.rz) HK 2 ?_;clear HK;intro _ HK;simp only[lS] at HK);exact aem
 obtain⟨o,hfo,hfits,_⟩:=hown h4;rw[av.wV Bc h4 h5 hfo];have afH:(c.k==4)=false:=by simpa using h4
 have ahw:(c.k==5)=false:=by simpa using h5
 have WC:=zH (fun y=>JM l (av.idx (vs l) c.name) (av.fin (vs l) c.name) y);have gT:=zH (av.kQ (vs l) c.name);have hget:=av.TD hR.up c.name;rw[hfo,← RI] at hget;have hrd:c.k=14→0≤o.round:=fun vJ=>av.Gl (hR.ok o (av.Bh hfo).1) (by rw[← vJ];exact hfits)
 have Zk:Hid (∀(x:Oh),x.v=o→In w x→∀W,Below w.heap.size w W→Calls prog 192 #[.agg (bS x),.agg #[.int .i64 r.c,.int .i64 r.e,.int .i64 r.r],.agg (dh c)] W (jY w (av.act o r c) W)):=zH fun x hxo hx W hW=>by
  have h:=YX w x r c W hx hW hv ⟨hk4,Yq⟩ h4 h5 (fun vJ=>by rw[hxo];exact hrd vJ);rw[hxo] at h;exact h
 unfold av.put;simp only;clear hs hv ho Bc hcc hnew hown hR hok hk4 Yq h4 h5 hfo hfits hrd;unfold jY at Zk;have adK:=zH hget;clear hget;generalize av.idx (vs l) c.name=p at *
 generalize av.fin (vs l) c.name=q at *
 generalize av.act o r c=Y at *
 obtain⟨yo,yp,yt,ys⟩:=Y;simp only at Zk;go_enter func124,ntmps124;go_wp2_with (first|refine zX (aB HK 0) ?_|refine zX (zD HK 1) ?_);refine cb (HC.out _ HK.out.b) HK ?_;clear HK;intro _ HK;go_wp2_with refine zX (ko HK 1) ?_;refine(HP.out _ HK.out.b).mono ?_;rintro e w1 ⟨A1,n1,c1,A2,n2,c2,A3,n3,c3,rfl,s1,s2,s3,b1⟩;replace HK:=iy HK b1;clear b1;have hl1:n1≤8:=by have:=s1.len;rw[List.length_take,HS.out.len] at this;omega
 have hl3:n3≤8:=by have:=s3.len;rw[List.length_drop,HS.out.len] at this;omega
 have QJ:=zH s1;have HS3:=zH s3
 have hpos:0<n2:=by
  rcases Nat.eq_zero_or_pos n2 with h0|h0
  ·subst h0
   have:=adK.out;rw[List.length_eq_zero_iff.1 s2.len] at this;cases this
  ·exact h0
 obtain⟨x,hx,hin⟩:=s2.get hpos
 have hxo:x.v=o:=by
  have:=adK.out;rw[hx] at this;injection this
 obtain⟨b,of,rfl,hat⟩:=s2.s.at hpos
 have HX:Hid (∀W,Below w.heap.size w W→∀j v,(vR x)[j]?=some v→W.cell? ⟨b,of+j,none⟩=some v):=zH fun W hW j v hv=>by
  have h:=hat W hW 0 x hx j v hv
  rwa [Nat.zero_mul,Nat.add_zero] at h
 have HA:=zH (Zk.out x hxo hin);clear s1 s2 s3 HP Zk adK hx hin hxo hat HC;have hi0:(0:Int)<(n2:Int):=by omega
 go_upto_region 11 with refine zX (bK HK 1) ?_;replace HK:=zH HK.out.drew;refine zR (HK.out.aA 2) fun ah=>?_
 refine ak 0 rfl ?_;refine ak 1 rfl ?_;refine ak 2 rfl ?_ fun _ s=>eB (off:=of) (HX.out _ s.out.b)
 refine ak 3 rfl ?_ fun _ s=>aB s 0
 refine ak 4 rfl ?_ fun _ s=>zD s 1
 refine jr 5 6 rfl rfl (fun K hK=>?_) fun K hK=>?_
 go_simp;go_at_call 192;refine(HA.out _ HK.out.b).mono ?_;rintro e w5 ⟨y,A5,n5,c5,Rn,rfl,v5,k5,i5⟩;replace HK:=zH (HK.out.join k5);simp only[aJ] at HK;have oQ:=zH i5;have rW:=zH v5;clear k5 i5 v5;have hs:=zH ((HK.out.aA 2).ay 0);refine bk hK hs fun ah=>?_
 clear hK K;refine aC 6 rfl fun K hK=>?_
 refine Gg HK ?_;clear HK;intro _ g6 HK _;simp only[aO,aJ] at HK;have hs:=zH ((HK.out.aA 2).ay 0);refine bk hK hs fun ah=>?_
 clear hK K;refine aC 7 rfl fun K hK=>?_
 refine rY HK 3 ?_;clear HK;intro _ HK;simp only[lS] at HK;have hs:=zH ((HK.out.aA 2).ay 0);refine bk hK hs fun ah=>?_
 clear hK K;refine bW ?_
 rotate_left
 refine Gg HK ?_;clear HK;intro _ g6 HK _;simp only[aO,aJ] at HK;have hs:=zH ((HK.out.aA 2).ay 0);refine bk hK hs fun ah=>?_
 clear hK K;refine aC 5 rfl fun K hK=>?_
 go_simp;go_at_call 192;refine(HA.out _ HK.out.b).mono ?_;rintro e w5 ⟨y,A5,n5,c5,Rn,rfl,v5,k5,i5⟩;replace HK:=zH (HK.out.join k5);simp only[aJ] at HK;have oQ:=zH i5;have rW:=zH v5;clear k5 i5 v5;have hs:=zH ((HK.out.aA 2).ay 0);refine bk hK hs fun ah=>?_
 clear hK K;refine aC 7 rfl fun K hK=>?_
 refine rY HK 3 ?_;clear HK;intro _ HK;simp only[lS] at HK;have hs:=zH ((HK.out.aA 2).ay 0);refine bk hK hs fun ah=>?_
 clear hK K;refine bW ?_
 rotate_left
 all_goals
  clear ah;go_upto_region 12 with fail;replace HK:=zH HK.out.drew;refine wp_region_held_drew (S:=(fun W=>Hid (Kn w.heap.size w W [(g6,222,mX y yp yt A5 n5 c5)] []))) (by kernel_rfl) ?_ fun ah=>?_
  ·(try dsimp only);exact zH (((HK.out.aI 3).aA 1).ay 0)
  refine ak 0 rfl ?_;refine ak 1 rfl ?_;refine ak 2 rfl ?_ fun _ s=>afB s 0 (by rfl) (by rfl) (by rfl)
  refine ak 4 rfl ?_;refine ak 7 rfl ?_;refine ak 8 rfl ?_ fun _ s=>afA s 0 (by rfl) (by rfl) (by rfl)
  refine ak 9 rfl ?_;refine ak 10 rfl ?_ fun _ s=>afy s 0 (by rfl) (by rfl) (by rfl)
  refine ak 11 rfl ?_;refine ak 12 rfl ?_ fun _ s=>afz s 0 (by rfl) (by rfl) (by rfl)
  refine aC 3 rfl fun K hK=>?_
  refine dw aP (p:=y) HK ?_;intro _ g9 dY _;replace HK:=dY;clear dY;have Cq:=zH (bY.one (Kn.oJ HK.out) ((oQ.out _ _ _ _ _ HK.out (fun z hz=>List.mem_append_left _ hz)).1 HK.out.b));have hs:=zH (((HK.out.aI 3).aA 1).ay 0);refine bk hK hs fun ah=>?_
  clear hK K;refine aC 5 rfl fun K hK=>?_
  refine Oq aP xZ HK (by rfl) (by rfl) (by rfl) (by rfl) (by rfl) ?_;intro w7 g7 dY b7;simp only[aO,aJ] at dY;replace HK:=dY;clear dY;replace Cq:=zH (Cq.out.later b7.out);clear b7;have hs:=zH (((HK.out.aI 3).aA 1).ay 0);refine bk hK hs fun ah=>?_
  clear hK K;refine aC 6 rfl fun K hK=>?_
  go_simp;go_at_call 184;refine(lI.three HJ.out HK 4 rfl (QJ.out.later HK.out.b) Cq.out (HS3.out.later HK.out.b) (by omega)).mono ?_;rintro e w3 ⟨A4,n4,c4,l4,rfl,v4,k4,o4⟩;replace HK:=zH (HK.out.join k4);have yV:=zH o4.fo;have HBg:=zH o4.s.big;have BS:=zH (v4.trans (WC.out y));clear v4 k4 o4;have hs:=zH (((HK.out.aI 3).aA 1).ay 0);refine bk hK hs fun ah=>?_
  clear hK K;refine ak 13 rfl ?_;refine aC 14 rfl fun K hK=>?_
  refine bM HK 2 ?_;clear HK;intro _ HK;simp only[lS] at HK;have hs:=zH (((HK.out.aI 3).aA 1).ay 0);refine bk hK hs fun ah=>?_
  clear hK K;refine ak 15 rfl ?_;refine ak 16 rfl ?_;refine bW ?_
  all_goals
   go_wp2_with fail;exact qL results124 (HK.out.blk 2 rfl) (hR:=⟨A4,n4,c4,l4,_,_,_,_,rfl,by rw[BS.out,rW.out],HK.out.aA 0,fun _ _ _ _ _ K hm=>⟨K.obs (hm _ (List.mem_append_right _ (List.mem_cons_self ..))) (fun z hz=>hm _ (List.mem_append_right _ (List.mem_cons_of_mem _ hz))) yV.out HBg.out,(oQ.out _ _ _ _ _ K (fun z hz=>hm _ (List.mem_append_left _ (List.mem_append_left _ hz)))).2⟩⟩)
end
section
section
variable {P:Program}{b0:Nat}{w0 w:World}{L:List (Nat×TypeId×Array Value)}{R:List dA}{ops:Array Oper}{rest:List Oper}{o:Oper}{a:Act}{Q:Exit→Act→World→Prop}{α:Type}{La:Lay P α}
theorem Lay.UQ(l:List α)(i:Nat)(y:α)(hi:i<l.length):La.flat (l.set i y)=(La.flat l).take (i*La.k)++La.f y++(La.flat l).drop (i*La.k+La.k):=by
 induction l generalizing i with
 | nil=>simp at hi
 | cons x r ih=>
  have hx:=La.len x
  match i,hi with
  | 0,_=>
   rw[List.set_cons_zero,Lay.gQ,Lay.gQ,Nat.zero_mul,List.take_zero,aJ,Nat.zero_add,List.drop_left' hx]
  | i+1,hi=>
   have hi':i<r.length:=by simpa using hi
   have e:(i+1)*La.k=La.k+i*La.k:=by rw[Nat.succ_mul,Nat.add_comm]
   have e1:(La.f x++La.flat r).take (La.k+i*La.k)=La.f x++(La.flat r).take (i*La.k):=by
    rw[List.take_append,List.take_of_length_le (by omega),hx,Nat.add_sub_cancel_left]
   have e2:(La.f x++La.flat r).drop (La.k+i*La.k+La.k)=(La.flat r).drop (i*La.k+La.k):=by
    rw[List.drop_append,List.drop_of_length_le (by omega),hx,aJ]
    congr 1
    omega
   rw[List.set_cons_succ,Lay.gQ,Lay.gQ,ih i hi',e,e1,e2];simp only[List.append_assoc]
theorem RS{β:Type}{T:List β}{V:List β}{p:Nat}{k:Nat}{m:Nat}(hV:V.length=k)(h1:p+k≤m)(h2:m≤T.length):(T.take p++V++T.drop (p+k)).take m=(T.take m).take p++V++(T.take m).drop (p+k):=by
 have l1:(T.take p).length=p:=by rw[List.length_take];omega
 rw[List.append_assoc,List.take_append,l1,List.take_of_length_le (i:=m) (l:=T.take p) (by rw[l1];omega),List.take_append,hV,List.take_of_length_le (i:=m-p) (l:=V) (by omega),List.take_take,Nat.min_eq_left (by omega),List.drop_take,List.append_assoc,show m-p-k=m-(p+k) by omega]
theorem uK:∀(vs:List Value) (cs:Array Value) (p:Nat),(putCells cs p vs).size=cs.size
 | [],_,_=>rfl
 | v::r,cs,p=>by
  rw[putCells,uK r,Array.size_setIfInBounds]
theorem qR{g k:Nat}(hne:k≠g):∀(vs:List Value) (p:Nat) (w:World),(w.setCells g p vs).heap[k]?=w.heap[k]?
 | [],_,_=>rfl
 | v::r,p,w=>(qR hne r (p+1) (w.setCell ⟨g,p,none⟩ v)).trans (Below.heap_setCell w _ v k hne)
theorem Kn.MS(h:Kn b0 w0 w L R){j n c:Nat}{A:Option Addr}{l:List α}(hR:R[j]?=some (row La (.slice A n c) l))(hl:0<l.length):∃g,A=some ⟨g,0,none⟩:=by
 rcases(h.own j hR).2 with ⟨_,h0⟩|⟨g,cap,cur,h1,_⟩
 ·omega
 ·injection h1 with h1
  exact⟨g,h1⟩
theorem Kn.ahi(h:Kn b0 w0 w L R){j g n c:Nat}{l:List α}(hR:R[j]?=some (row La (.slice (some ⟨g,0,none⟩) n c) l))(i:Nat)(hi:i<l.length)(y:α):
  Kn b0 w0 (w.setCells g (i*La.k) (La.f y)) L (R.set j (row La (.slice (some ⟨g,0,none⟩) n c) (l.set i y))):=by
 have hown:=h.own j hR
 have hik:i*La.k+La.k≤l.length*La.k:=by
  have h1:(i+1)*La.k≤l.length*La.k:=Nat.mul_le_mul_right _ hi
  rwa [Nat.succ_mul] at h1
 have ho:(w.setCells g (i*La.k) (La.f y)).ownsRow b0 La.e La.k (.slice (some ⟨g,0,none⟩) n c) (l.set i y).length (La.flat (l.set i y)):=by
  refine⟨by rw[La.ku],?_⟩;rw[List.length_set]
  rcases hown.2 with ⟨h1,_⟩|⟨g',cap,cur,h1,hb,hg,hnc,hcm,hs,ht⟩
  ·cases h1
  ·injection h1 with e1 e2 e3
   injection e1 with e1;injection e1 with e1;subst e1 e3;have hsz:l.length*La.k≤cur.size:=by rw[hs];exact Nat.mul_le_mul_right _ hnc
   refine .inr ⟨g,c,putCells cur (i*La.k) (La.f y),by rw[e2],hb,gD.cells (_w:=w) (t:=La.e) _ cur _ _ hg,hnc,hcm,by rw[uK,hs],?_⟩;rw[mH _ _ _ (by rw[La.len];omega),La.len,RS (La.len y) hik (by rw[Array.length_toList];exact hsz),ht,Lay.UQ l i y hi]
 obtain⟨b1,b2⟩:=oP (Nat.le_refl g) (La.f y) (i*La.k) w;exact h.abG (i:=j) hR ho ⟨b1.os,b1.tape,b1.output,b1.size,fun k hk hne=>qR (fun e=>hne (by rw[e];rfl)) _ _ _⟩ (.inl rfl)
theorem JD(HK:Hid (Kn b0 w0 w L R))(j:Nat)(hgd:o.guard=none){x:Operand}{y:Operand}(ho:o.op=.store La.e x y){g n c:Nat}{l:List α}(hR:R[j]?=some (row La (.slice (some ⟨g,0,none⟩) n c) l))(i:Nat)(hi:i<l.length)
  (hx:a.eval x=.pointer (some ⟨g,i*La.k,none⟩)) (p:α) {v:Array Value} (hy:a.eval y=.agg v) (hv:v=(La.f p).toArray)
  (h:∀w',Hid (Kn b0 w0 w' L (R.set j (row La (.slice (some ⟨g,0,none⟩) n c) (l.set i p))))→wpList P ops Q rest (a.put o.dst undef) w'):wpList P ops Q (o::rest) a w:=
 wpList_plain hgd fun K hK=>by
  subst hv;have hown:=HK.out.own j hR
  have hik:i*La.k+La.k≤l.length*La.k:=by
   have h1:(i+1)*La.k≤l.length*La.k:=Nat.mul_le_mul_right _ hi
   rwa [Nat.succ_mul] at h1
  have ht:w.there g (i*La.k) (La.f p).toArray.size:=by
   rcases hown.2 with ⟨h1,_⟩|⟨g',cap,cur,h1,hb,hg,hnc,hcm,hs,ht⟩
   ·cases h1
   ·injection h1 with e1 e2 e3
    injection e1 with e1;injection e1 with e1;subst e1;have hbk:gD w g La.e cur:=hg;intro q hq;rw[List.size_toArray,La.len] at hq;have hsz:l.length*La.k≤cur.size:=by rw[hs];exact Nat.mul_le_mul_right _ hnc
    rw[hbk.cell];exact⟨by rw[Array.getElem?_eq_getElem (by omega)];rfl,hbk.frozen _⟩
  have hz:(P.info? La.e).map (·.size)=some (La.f p).toArray.size:=by
   rw[List.size_toArray,La.len];have h1:=La.info;rw[Option.map_eq_some_iff] at h1 ⊢;obtain⟨q,h2,h3⟩:=h1;refine⟨q,h2,?_⟩;injection h3 with _ h3;injection h3 with h3 _
  refine wp_store_mid La.e x y ho g (i*La.k) (La.f p).toArray hx hy ht hz ?_ (hK _ _ (h _ (zH ?_)))
  ·rw[List.all_toArray,List.all_eq_true]
   exact fun u hu=>La.one p u hu
  ·show Kn b0 w0 (w.setCells g (i*La.k) (La.f p)) L _
   exact HK.out.ahi hR i hi p
end
end
section
section
variable {P:Program}{b0:Nat}{w0 w:World}{L:List (Nat×TypeId×Array Value)}{R:List dA}{ops:Array Oper}{rest:List Oper}{o:Oper}{a:Act}{Q:Exit→Act→World→Prop}{α:Type}{La:Lay P α}
theorem Kn.atR(h:Kn b0 w0 w L R){j g n c:Nat}{l:List α}(hR:R[j]?=some (row La (.slice (some ⟨g,0,none⟩) n c) l)){i:Nat}{x:α}(hx:l[i]?=some x)(q:Nat)(v:Value)(hv:(La.f x)[q]?=some v):w.cell? ⟨g,0+i*La.k+q,none⟩=some v:=by
 have hl:=(List.getElem?_eq_some_iff.1 hx).1;obtain⟨b,o,e,_,hc⟩:=(h.own j hR).rd.1 (by omega);injection e with e;injection e with e1 e2;subst e1 e2;exact hc i x hx q v hv
theorem Lay.Qk(l:List α)(i:Nat)(x y:α)(hx:l[i]?=some x)(q:Nat)(hq:q<La.k)(v:Value)(hy:La.f y=(La.f x).set q v):La.flat (l.set i y)=(La.flat l).set (i*La.k+q) v:=by
 induction l generalizing i with
 | nil=>simp at hx
 | cons z r ih=>
  have hz:=La.len z
  match i,hx with
  | 0,hx=>
   simp only[List.getElem?_cons_zero,Option.some.injEq] at hx;subst hx;rw[List.set_cons_zero,Lay.gQ,Lay.gQ,Nat.zero_mul,Nat.zero_add,List.set_append_left _ _ (by omega),hy]
  | i+1,hx=>
   rw[List.getElem?_cons_succ] at hx;have e:(i+1)*La.k+q=La.k+(i*La.k+q):=by rw[Nat.succ_mul];omega
   rw[List.set_cons_succ,Lay.gQ,Lay.gQ,ih i hx,e,List.set_append_right _ _ (by omega),hz,Nat.add_sub_cancel_left]
theorem Kn.ahj(h:Kn b0 w0 w L R){j g n c:Nat}{l:List α}(hR:R[j]?=some (row La (.slice (some ⟨g,0,none⟩) n c) l))(i:Nat)(x y:α)(hx:l[i]?=some x)(q:Nat)(hq:q<La.k)(v:Value)(hy:La.f y=(La.f x).set q v):
  Kn b0 w0 (w.setCell ⟨g,i*La.k+q,none⟩ v) L (R.set j (row La (.slice (some ⟨g,0,none⟩) n c) (l.set i y))):=by
 have hown:=h.own j hR
 have ho:(w.setCell ⟨g,i*La.k+q,none⟩ v).ownsRow b0 La.e La.k (.slice (some ⟨g,0,none⟩) n c) (l.set i y).length (La.flat (l.set i y)):=by
  refine⟨by rw[La.ku],?_⟩;rw[List.length_set]
  rcases hown.2 with ⟨h1,_⟩|⟨g',cap,cur,h1,hb,hg,hnc,hcm,hs,ht⟩
  ·cases h1
  ·injection h1 with e1 e2 e3
   injection e1 with e1;injection e1 with e1;subst e1 e3;refine .inr ⟨g,c,cur.setIfInBounds (i*La.k+q) v,by rw[e2],hb,gD.abF (w:=w) (t:=La.e) hg _ _,hnc,hcm,by rw[Array.size_setIfInBounds,hs],?_⟩;rw[Array.toList_setIfInBounds,List.take_set,ht,Lay.Qk l i x y hx q hq v hy]
 obtain⟨b1,b2⟩:=oP (Nat.le_refl g) [v] (i*La.k+q) w;exact h.abG (i:=j) hR ho ⟨b1.os,b1.tape,b1.output,b1.size,fun k hk hne=>qR (fun e=>hne (by rw[e];rfl)) [v] _ _⟩ (.inl rfl)
theorem GZ{K:Act→World→Prop}(HK:Hid (Kn b0 w0 w L R))(j:Nat)(ty:TypeId)(p1 p2:Operand)(ho:o.op=.store ty p1 p2){g n c:Nat}{l:List α}(hR:R[j]?=some (row La (.slice (some ⟨g,0,none⟩) n c) l))(i:Nat)(x y:α)(hx:l[i]?=some x)(q:Nat)(hq:q<La.k)
  (hp:a.eval p1=.pointer (some ⟨g,i*La.k+q,none⟩)) {v:Value} (hv:a.eval p2=v) (hc:v.cells=#[v]) (h1:v.oneCell'=true) (hi:(P.info? ty).map (·.size)=some 1) (hy:La.f y=(La.f x).set q v)
  (h:∀w',Hid (Kn b0 w0 w' L (R.set j (row La (.slice (some ⟨g,0,none⟩) n c) (l.set i y))))→K (a.put o.dst undef) w'):o.wp P a w K Q:=by
 have hown:=HK.out.own j hR
 have hb:∃cur,gD w g La.e cur∧i*La.k+q<cur.size:=by
  rcases hown.2 with ⟨h1,_⟩|⟨g',cap,cur,h1,hb,hg,hnc,hcm,hs,ht⟩
  ·cases h1
  ·injection h1 with e1 e2 e3
   injection e1 with e1;injection e1 with e1;subst e1;have hil:=(List.getElem?_eq_some_iff.1 hx).1;have h1:(i+1)*La.k≤l.length*La.k:=Nat.mul_le_mul_right _ hil;have hsz:l.length*La.k≤cur.size:=by rw[hs];exact Nat.mul_le_mul_right _ hnc
   rw[Nat.succ_mul] at h1;exact⟨cur,hg,by omega⟩
 obtain⟨cs,hb,hsz⟩:=hb
 have hs:=run_storeCells_cells (P:=P) g (i*La.k+q) [v] 0 w (fun j hj=>by
   have:j=0:=by simpa using hj
   subst this
   rw[hb.cell,Array.getElem?_eq_getElem (by omega)];rfl) (fun j _=>hb.frozen _) (fun u hu=>by simp at hu;subst hu;exact h1)
 simp only[Nat.add_zero] at hs
 have hr:(storeVar ty ⟨g,i*La.k+q,none⟩ v).run P w=.ok () (w.setCell ⟨g,i*La.k+q,none⟩ v):=by
  cases hq:P.info? ty with
  | none=>simp[hq] at hi
  | some z=>
   have hs1:z.size=1:=by simpa [hq] using hi
   simp[storeVar,sizeOf,typeInfo,hq,hc,hs1,hs,World.setCells]
 unfold Oper.wp execOp;simp only[ho,hp,hv,Instr.storeAt,Instr.sureAddr,Sem.run_bind,Sem.run_pure,Result.andThen_ok,hr];exact h _ (zH (HK.out.ahj hR i x y hx q hq v hy))
theorem oC(HK:Hid (Kn b0 w0 w L R))(j:Nat)(ty:TypeId){p1:Operand}{p2:Operand}{g n c:Nat}{l:List α}(i:Nat)(x y:α)(hx:l[i]?=some x)(q:Nat)
  {v:Value}    (hi:(P.info? ty).map (·.size)=some 1)
  (h:∀w',Hid (Kn b0 w0 w' L (R.set j (row La (.slice (some ⟨g,0,none⟩) n c) (l.set i y))))→wpList P ops Q rest (a.put o.dst undef) w') (hgd:o.guard=none:=by rfl)(ho:o.op=.store ty p1 p2:=by rfl)(hR:R[j]?=some (row La (.slice (some ⟨g,0,none⟩) n c) l):=by rfl)(hq:q<La.k:=by decide)(hp:a.eval p1=.pointer (some ⟨g,i*La.k+q,none⟩):=by rfl)(hv:a.eval p2=v:=by rfl)(hc:v.cells=#[v]:=by rfl)(h1:v.oneCell'=true:=by rfl)(hy:La.f y=(La.f x).set q v:=by rfl):wpList P ops Q (o::rest) a w:=
 wpList_plain hgd fun _ hK=>GZ HK j ty p1 p2 ho hR i x y hx q hq hp hv hc h1 hi hy fun w' h2=>hK _ _ (h w' h2)
theorem Oo{K:Act→World→Prop}{E:Prop}(HK:Hid (Kn b0 w0 w L R))(j:Nat)(hgd:o.guard=none)(ty:TypeId){p1:Operand}{p2:Operand}(ho:o.op=.store ty p1 p2){g n c:Nat}{l:List α}(hR:R[j]?=some (row La (.slice (some ⟨g,0,none⟩) n c) l))(i:Nat)(x y:α)(hx:l[i]?=some x)(q:Nat)(hq:q<La.k)
  (hp:a.eval p1=.pointer (some ⟨g,i*La.k+q,none⟩)) {v:Value} (hv:a.eval p2=v) (hc:v.cells=#[v]) (h1:v.oneCell'=true) (hi:(P.info? ty).map (·.size)=some 1) (hy:La.f y=(La.f x).set q v)
  (h:∀w',Hid (Kn b0 w0 w' L (R.set j (row La (.slice (some ⟨g,0,none⟩) n c) (l.set i y))))→K (a.put o.dst undef) w'):if Region.wanted o (yielded ops a.tmps)=true then Oper.wp P o a w K Q else E:=by
 rw[if_pos (by simp[Region.wanted,hgd])];exact GZ HK j ty p1 p2 ho hR i x y hx q hq hp hv hc h1 hi hy h
end
end
end Go.Proofs.YtieoeendnccafaaGreat
