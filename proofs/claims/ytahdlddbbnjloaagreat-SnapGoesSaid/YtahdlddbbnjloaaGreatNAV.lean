/- A slice that reads as items: what is known of it, and how that is carried on. No condition but those named. -/
import Derived.Test.YtahdlddbbnjloaaGreatNAT
import Derived.Test.YtahdlddbbnjloaaGreatNAD
set_option linter.unusedSimpArgs false
set_option linter.unusedVariables false
set_option maxRecDepth 100000
set_option maxHeartbeats 25600000
open Go.RowKit
namespace Go.Proofs.YtahdlddbbnjloaaGreat
section
def itv(x:aF.It):Value:=.agg #[.int .i64 x.k,.int .i64 x.n,.string x.s]
def At(w:World)(b o i:Nat)(x:aF.It):Prop:=
 w.cell? ⟨b,o+i*3,none⟩=some (.int .i64 x.k)∧w.cell? ⟨b,o+i*3+1,none⟩=some (.int .i64 x.n)∧w.cell? ⟨b,o+i*3+2,none⟩=some (.string x.s)
def Items(w:World)(B:Nat)(A:Option Addr)(l:List aF.It):Prop:=
 0<l.length→∃b o,A=some ⟨b,o,none⟩∧b<B∧∀i x,l[i]?=some x→At w b o i x
theorem At.keep{w w':World}{b o i:Nat}{x:aF.It}(h:At w b o i x)(hk:∀p:Addr,p.block=b→w'.cell? p=w.cell? p):At w' b o i x:=
 ⟨by rw[hk _ rfl];exact h.1,by rw[hk _ rfl];exact h.2.1,by rw[hk _ rfl];exact h.2.2⟩
section
variable {w w':World}{B B':Nat}{A:Option Addr}{l:List aF.It}
theorem Items.keep(h:Items w B A l)(hk:∀p:Addr,p.block<B→w'.cell? p=w.cell? p):Items w' B A l:=fun hn=>by
 exact acN
theorem Items.below(h:Items w B A l)(hb:Below B w w'):Items w' B A l:=h.keep fun _ hp=>hb.cell hp
theorem Items.more(h:Items w B A l)(hb:B≤B'):Items w B' A l:=fun hn=>by
 obtain⟨b,o,hA,hb',hc⟩:=h hn;exact⟨b,o,hA,by omega,hc⟩
theorem Items.drewN(h:Items w B A l)(n:Nat):Items (w.drewN n) B A l:=h
theorem Items.nil(w:World)(B:Nat)(A:Option Addr):Items w B A []:=fun h=>absurd h (by decide)
end
theorem take_succ{l:List aF.It}{k:Nat}{x:aF.It}(h:l[k]?=some x):l.take (k+1)=l.take k++[x]:=by
 rw[List.take_add_one,h];rfl
theorem XB{l:List aF.It}{k:Nat}{x:aF.It}(h:l[k]?=some x):aF.all (l.take (k+1))=aF.all (l.take k)++aF.one x:=by
 rw[take_succ h,aF.all_append,aF.all_cons,aF.all_nil,List.append_nil]
theorem Rj{l:List aF.It}{k:Nat}{x:aF.It}(h:l[k]?=some x)(h1:(l.take k).all aF.fits=true)(h2:aF.fits x=true):(l.take (k+1)).all aF.fits=true:=by
 rw[take_succ h,List.all_append,h1];simp[h2]
theorem Ph{l:List aF.It}{k:Nat}{x:aF.It}(h:l[k]?=some x)(h2:aF.fits x=false):l.all aF.fits=false:=by
 rw[Bool.eq_false_iff];intro ha;have:=List.all_eq_true.1 ha x (List.mem_of_getElem? h);rw[h2] at this;cases this
theorem Cv(l:List aF.It)(k:Nat):(aF.all (l.take k)).length≤(aF.all l).length:=by
 have h:aF.all (l.take k)++aF.all (l.drop k)=aF.all l:=by rw[← aF.all_append,List.take_append_drop]
 rw[← h,List.length_append];omega
theorem dW{l:List aF.It}{k:Nat}(h:k<l.length):∃x,l[k]?=some x:=⟨_,List.getElem?_eq_getElem h⟩
theorem abe{l:List aF.It}(h:l.all aF.fits=false):aF.E l=(⟨#[]⟩,1):=by unfold aF.E;rw[if_pos h]
theorem WU{l:List aF.It}(h:l.all aF.fits=true)(h2:16384<(aF.all l).length):aF.E l=(⟨#[]⟩,2):=by
 unfold aF.E;rw[if_neg (by simp[h]),if_pos h2]
end
end Go.Proofs.YtahdlddbbnjloaaGreat
