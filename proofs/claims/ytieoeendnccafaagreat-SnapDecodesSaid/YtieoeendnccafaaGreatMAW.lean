/- A slice that reads as items: what is known of it, and how that is carried on. No condition but those named. -/
import Derived.Test.YtieoeendnccafaaGreatMTK
import Derived.Test.YtieoeendnccafaaGreatMAU
import Derived.Test.YtieoeendnccafaaGreatMAC
set_option linter.unusedSimpArgs false
set_option linter.unusedVariables false
set_option maxRecDepth 100000
set_option maxHeartbeats 25600000
namespace Go.Proofs.YtieoeendnccafaaGreat
section
open Go.RowKit
def itv(x:Wire.It):Value:=.agg #[.int .i64 x.k,.int .i64 x.n,.string x.s]
def At(w:World)(b o i:Nat)(x:Wire.It):Prop:=
 w.cell? ⟨b,o+i*3,none⟩=some (.int .i64 x.k)∧w.cell? ⟨b,o+i*3+1,none⟩=some (.int .i64 x.n)∧w.cell? ⟨b,o+i*3+2,none⟩=some (.string x.s)
def Items(w:World)(B:Nat)(A:Option Addr)(l:List Wire.It):Prop:=
 0<l.length→∃b o,A=some ⟨b,o,none⟩∧b<B∧∀i x,l[i]?=some x→At w b o i x
theorem At.keep{w w':World}{b o i:Nat}{x:Wire.It}(h:At w b o i x)(hk:∀p:Addr,p.block=b→w'.cell? p=w.cell? p):At w' b o i x:=
 ⟨by rw[hk _ rfl];exact h.1,by rw[hk _ rfl];exact h.2.1,by rw[hk _ rfl];exact h.2.2⟩
section
variable {w w':World}{B B':Nat}{A:Option Addr}{l:List Wire.It}
theorem Items.keep(h:Items w B A l)(hk:∀p:Addr,p.block<B→w'.cell? p=w.cell? p):Items w' B A l:=fun hn=>by
 obtain⟨b,o,hA,hb,hc⟩:=h hn
 exact⟨b,o,hA,hb,fun i x hx=>(hc i x hx).keep fun p hp=>hk p (by omega)⟩
theorem Items.below(h:Items w B A l)(hb:Below B w w'):Items w' B A l:=h.keep fun _ hp=>hb.cell hp
theorem Items.more(h:Items w B A l)(hb:B≤B'):Items w B' A l:=fun hn=>by
 obtain⟨b,o,hA,hb',hc⟩:=h hn
 exact⟨b,o,hA,by omega,hc⟩
theorem Items.drewN(h:Items w B A l)(n:Nat):Items (w.drewN n) B A l:=h
theorem Items.nil(w:World)(B:Nat)(A:Option Addr):Items w B A []:=fun h=>absurd h (by decide)
end
theorem take_succ{l:List Wire.It}{k:Nat}{x:Wire.It}(h:l[k]?=some x):l.take (k+1)=l.take k++[x]:=by
 rw[List.take_add_one,h];rfl
theorem all_take{l:List Wire.It}{k:Nat}{x:Wire.It}(h:l[k]?=some x):Wire.all (l.take (k+1))=Wire.all (l.take k)++Wire.one x:=by
 rw[take_succ h,Wire.all_append,Wire.all_cons,Wire.all_nil,List.append_nil]
theorem fits_take{l:List Wire.It}{k:Nat}{x:Wire.It}(h:l[k]?=some x)(h1:(l.take k).all Wire.fits=true)(h2:Wire.fits x=true):(l.take (k+1)).all Wire.fits=true:=by
 rw[take_succ h,List.all_append,h1];simp[h2]
theorem unfit_all{l:List Wire.It}{k:Nat}{x:Wire.It}(h:l[k]?=some x)(h2:Wire.fits x=false):l.all Wire.fits=false:=by
 rw[Bool.eq_false_iff]
 intro ha
 have:=List.all_eq_true.1 ha x (List.mem_of_getElem? h)
 rw[h2] at this;cases this
theorem all_prefix_le(l:List Wire.It)(k:Nat):(Wire.all (l.take k)).length≤(Wire.all l).length:=by
 have h:Wire.all (l.take k)++Wire.all (l.drop k)=Wire.all l:=by rw[← Wire.all_append,List.take_append_drop]
 rw[← h,List.length_append];omega
theorem get_of{l:List Wire.It}{k:Nat}(h:k<l.length):∃x,l[k]?=some x:=⟨_,List.getElem?_eq_getElem h⟩
theorem err_arg{l:List Wire.It}(h:l.all Wire.fits=false):Wire.E l=(⟨#[]⟩,1):=by unfold Wire.E;rw[if_pos h]
theorem err_long{l:List Wire.It}(h:l.all Wire.fits=true)(h2:16384<(Wire.all l).length):Wire.E l=(⟨#[]⟩,2):=by
 unfold Wire.E;rw[if_neg (by simp[h]),if_pos h2]
end
end Go.Proofs.YtieoeendnccafaaGreat
