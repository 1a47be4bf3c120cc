/- What Get returns. No condition but those named. -/
import Derived.Test.YtddpmlcpfmmbeaaGreatTk
import Derived.Test.YtddpmlcpfmmbeaaGreatKAI
import Derived.Test.YtddpmlcpfmmbeaaGreatKAP
set_option linter.unusedSimpArgs false
set_option linter.unusedVariables false
set_option maxRecDepth 100000
set_option maxHeartbeats 25600000
namespace Go.Proofs.YtddpmlcpfmmbeaaGreat
section
open Go.RowKit
def IsParts(w0:World)(l1 l2 l3:List Dct.Pr)(w:World)(e:Ending)(w':World):Prop:=
 ∃A1 n1 c1 A2 n2 c2 A3 n3 c3,e=.returned (.tuple #[.slice A1 n1 c1,.slice A2 n2 c2,.slice A3 n3 c3])∧Sl w0 A1 n1 c1 l1∧Sl w0 A2 n2 c2 l2∧Sl w0 A3 n3 c3 l3∧Below w.heap.size w w'
theorem parts_any(A:Option Addr)(c n:Nat)(l:List Dct.Pr)(key:ByteArray)(w0 w:World)(hs:Sl w0 A n c l)(hw:Below w0.heap.size w0 w):
  Calls Tryz.prog 186 #[.slice A n c,.string key] w (IsParts w0 (l.take (Dct.idx l key)) ((l.drop (Dct.idx l key)).take (Dct.fin l key-Dct.idx l key)) (l.drop (Dct.fin l key)) w):=by
 have HS:=zH hs
 have HW:=zH hw
 have HG:Hid (∀k,k<n→∃x,l[k]?=some x):=zH fun k hk=>Lay.get_of (l:=l) (k:=k) (by rw[hs.len];exact hk)
 have hp:=Dct.idx_le l key
 obtain⟨hpq,hq⟩:=Dct.fin_le l key
 rw[hs.len] at hp hq
 have hnc:=hs.cap
 have hbig:=hs.big
 have HB:Hid (∀k x,k<Dct.idx l key→l[k]?=some x→Dct.lt x.key key=true):=zH fun k x hk hx=>Dct.idx_lt hk hx
 have HA:Hid (∀x,l[Dct.idx l key]?=some x→Dct.lt x.key key=false):=zH fun x hx=>Dct.idx_at hx
 have HF1:Hid (∀x,l[Dct.idx l key]?=some x→Dct.fin l key=if x.key=key then Dct.idx l key+1 else Dct.idx l key):=zH fun x hx=>by unfold Dct.fin;rw[hx]
 have HF0:Hid (Dct.idx l key=n→Dct.fin l key=n):=zH fun h=>by omega
 have HEnd:Hid (∀W,Below w.heap.size w W→IsParts w0 (l.take (Dct.idx l key)) ((l.drop (Dct.idx l key)).take (Dct.fin l key-Dct.idx l key)) (l.drop (Dct.fin l key)) w (.returned (.tuple #[.slice A (Dct.idx l key) c,.slice (sub A (Dct.idx l key) c) (Dct.fin l key-Dct.idx l key) (c-Dct.idx l key),.slice (sub A (Dct.fin l key) c) (n-Dct.fin l key) (c-Dct.fin l key)])) W):=
  zH fun W hW=>by
   have h:=hs
   refine⟨_,_,_,_,_,_,_,_,_,rfl,h.take hp,h.sub hpq hq,?_,hW⟩
   have h3:=h.sub hq (Nat.le_refl n)
   rw[List.take_of_length_le (by rw[List.length_drop,h.len];exact Nat.le_refl _)] at h3
   exact h3
 clear hs hw
 generalize Dct.idx l key=p at *
 generalize Dct.fin l key=q at *
 have HK:=zH (Kn.start w)
 go_enter Tryz.func186,Tryz.ntmps186
 go_wp2_with fail
 go_loop [7] (fun vi=>∃k:Nat,k≤p∧vi=.int .i64 k) (fun vi=>p+1-(intOf vi).toNat)
 case atStart=>exact⟨0,Nat.zero_le _,rfl⟩
 case round=>
  obtain⟨k,hk,rfl⟩:=hrel
  have hk1:(0:Int)≤(k:Int):=by omega
  by_cases hlt:k<p
  ·have hkn:k<n:=by omega
   have hk2:(k:Int)<(n:Int):=by omega
   have hk3:k<9223372036854775807:=by omega
   obtain⟨x,hx⟩:=HG.out k hkn
   obtain⟨b,o,rfl,hat⟩:=HS.out.at (Nat.lt_of_le_of_lt (Nat.zero_le _) hkn)
   have HX:=zH (hat w HW.out k x hx)
   have HL:=zH (HB.out k x hlt hx)
   clear hat hx HS HEnd HB HA HF1 HF0 HG
   go_wp2_with (first|refine wpList_of_exec (by rfl) (exec_lpk (off:=o+k*5) _ (by rfl) (by rfl) HX.out) ?_|refine wpList_of_exec (by rfl) (exec_slt _ _ (by rfl) (by rfl) (by rfl) HL.out) ?_|refine wpList_of_exec (by rfl) (exec_add1 (j:=k) _ (by rfl) (by rfl) hk3) ?_)
   exact⟨⟨k+1,hlt,rfl⟩,by simp[intOf];omega⟩
  ·obtain rfl:k=p:=by omega
   clear hlt hk
   by_cases hkn:k<n
   ·have hk2:(k:Int)<(n:Int):=by omega
    have hk3:k<9223372036854775807:=by omega
    obtain⟨x,hx⟩:=HG.out k hkn
    obtain⟨b,o,rfl,hat⟩:=HS.out.at (Nat.lt_of_le_of_lt (Nat.zero_le _) hkn)
    have HX:=zH (hat w HW.out k x hx)
    have HL:=zH (HA.out x hx)
    have hq2:=HF1.out x hx
    clear hat hx HS HB HA HF1 HF0 HG
    by_cases he:x.key=key
    ·rw[if_pos he] at hq2
     subst hq2
     have HE:=zH (show decide (x.key=key)=true from decide_eq_true he)
     clear he
     have hqc:k+1≤c:=by omega
     go_wp2_with (first|refine wpList_of_exec (by rfl) (exec_lpk (off:=o+k*5) _ (by rfl) (by rfl) HX.out) ?_|refine wpList_of_exec (by rfl) (exec_slt _ _ (by rfl) (by rfl) (by rfl) HL.out) ?_|refine wpList_of_exec (by rfl) (exec_seq _ _ (by rfl) (by rfl) (by rfl) HE.out) ?_|refine wpList_of_exec (by rfl) (exec_add1 (j:=k) _ (by rfl) (by rfl) hk3) ?_)
     have hkc:k≤c:=by omega
     refine wp_region_held_drew (S:=(fun W=>Hid (Kn w.heap.size w W [] []))) (by kernel_rfl) ?_ (fun hHeld=>?_)
     ·(try dsimp only);exact zH HK.out.drew
     refine wpAnyH_take (i:=0) (oi:=⟨some 40,_,_,_,_,_⟩) (v:=?_) rfl (by kernel_rfl) (by kernel_rfl) (by kernel_rfl) (fun _ _ _ h=>h) (Or.inl ⟨by rfl,?_⟩) (by assumption) ?_
     rotate_left
     ·(intro w hSw;(try dsimp only at hSw);go_simp;try with_reducible rfl)
     try simp only[Act.put,List.setIfInBounds_toArray,List.set_cons_zero,List.set_cons_succ]
     refine wpAnyH_take (i:=1) (oi:=⟨some 41,_,_,_,_,_⟩) (v:=?_) rfl (by kernel_rfl) (by kernel_rfl) (by kernel_rfl) (fun _ _ _ h=>h) (Or.inl ⟨by rfl,?_⟩) (by assumption) ?_
     rotate_left
     ·(intro w hSw;(try dsimp only at hSw);go_simp;try with_reducible rfl)
     try simp only[Act.put,List.setIfInBounds_toArray,List.set_cons_zero,List.set_cons_succ]
     refine wpAnyH_take (i:=2) (oi:=⟨some 42,_,_,_,_,_⟩) (v:=?_) rfl (by kernel_rfl) (by kernel_rfl) (by kernel_rfl) (fun _ _ _ h=>h) (Or.inl ⟨by rfl,?_⟩) (by assumption) ?_
     rotate_left
     ·(intro w hSw;refine Eq.trans (exec_sl_h (hi:=k) _ _ (by rfl) (by rfl) (by rfl) hkc) ?_;with_reducible rfl)
     try simp only[Act.put,List.setIfInBounds_toArray,List.set_cons_zero,List.set_cons_succ]
     refine wpAnyH_take (i:=3) (oi:=⟨some 43,_,_,_,_,_⟩) (v:=?_) rfl (by kernel_rfl) (by kernel_rfl) (by kernel_rfl) (fun _ _ _ h=>h) (Or.inl ⟨by rfl,?_⟩) (by assumption) ?_
     rotate_left
     ·(intro w hSw;(try dsimp only at hSw);go_simp;try with_reducible rfl)
     try simp only[Act.put,List.setIfInBounds_toArray,List.set_cons_zero,List.set_cons_succ]
     refine wpAnyH_take (i:=4) (oi:=⟨some 44,_,_,_,_,_⟩) (v:=?_) rfl (by kernel_rfl) (by kernel_rfl) (by kernel_rfl) (fun _ _ _ h=>h) (Or.inl ⟨by rfl,?_⟩) (by assumption) ?_
     rotate_left
     ·(intro w hSw;(try dsimp only at hSw);go_simp;try with_reducible rfl)
     try simp only[Act.put,List.setIfInBounds_toArray,List.set_cons_zero,List.set_cons_succ]
     refine wpAnyH_take (i:=5) (oi:=⟨some 45,_,_,_,_,_⟩) (v:=?_) rfl (by kernel_rfl) (by kernel_rfl) (by kernel_rfl) (fun _ _ _ h=>h) (Or.inl ⟨by rfl,?_⟩) (by assumption) ?_
     rotate_left
     ·(intro w hSw;(try dsimp only at hSw);go_simp;try with_reducible rfl)
     try simp only[Act.put,List.setIfInBounds_toArray,List.set_cons_zero,List.set_cons_succ]
     refine wpAnyH_take (i:=6) (oi:=⟨some 46,_,_,_,_,_⟩) (v:=?_) rfl (by kernel_rfl) (by kernel_rfl) (by kernel_rfl) (fun _ _ _ h=>h) (Or.inl ⟨by rfl,?_⟩) (by assumption) ?_
     rotate_left
     ·(intro w hSw;refine Eq.trans (exec_sl_lh (lo:=k) (hi:=k+1) _ _ _ (by rfl) (by rfl) (by rfl) (by rfl) hpq hqc) ?_;with_reducible rfl)
     try simp only[Act.put,List.setIfInBounds_toArray,List.set_cons_zero,List.set_cons_succ]
     refine wpAnyH_take (i:=7) (oi:=⟨some 47,_,_,_,_,_⟩) (v:=?_) rfl (by kernel_rfl) (by kernel_rfl) (by kernel_rfl) (fun _ _ _ h=>h) (Or.inl ⟨by rfl,?_⟩) (by assumption) ?_
     rotate_left
     ·(intro w hSw;(try dsimp only at hSw);go_simp;try with_reducible rfl)
     try simp only[Act.put,List.setIfInBounds_toArray,List.set_cons_zero,List.set_cons_succ]
     refine wpAnyH_take (i:=8) (oi:=⟨some 48,_,_,_,_,_⟩) (v:=?_) rfl (by kernel_rfl) (by kernel_rfl) (by kernel_rfl) (fun _ _ _ h=>h) (Or.inl ⟨by rfl,?_⟩) (by assumption) ?_
     rotate_left
     ·(intro w hSw;(try dsimp only at hSw);go_simp;try with_reducible rfl)
     try simp only[Act.put,List.setIfInBounds_toArray,List.set_cons_zero,List.set_cons_succ]
     refine wpAnyH_take (i:=9) (oi:=⟨some 49,_,_,_,_,_⟩) (v:=?_) rfl (by kernel_rfl) (by kernel_rfl) (by kernel_rfl) (fun _ _ _ h=>h) (Or.inl ⟨by rfl,?_⟩) (by assumption) ?_
     rotate_left
     ·(intro w hSw;refine Eq.trans (exec_sl_l (lo:=k+1) _ _ (by rfl) (by rfl) (by rfl) hq) ?_;with_reducible rfl)
     try simp only[Act.put,List.setIfInBounds_toArray,List.set_cons_zero,List.set_cons_succ]
     refine wpAnyH_take (i:=10) (oi:=⟨some 4,_,_,_,_,_⟩) (v:=?_) rfl (by kernel_rfl) (by kernel_rfl) (by kernel_rfl) (fun _ _ _ h=>h) (Or.inl ⟨by rfl,?_⟩) (by assumption) ?_
     rotate_left
     ·(intro w hSw;(try dsimp only at hSw);go_simp;try with_reducible rfl)
     try simp only[Act.put,List.setIfInBounds_toArray,List.set_cons_zero,List.set_cons_succ]
     refine wpAnyH_take (i:=11) (oi:=⟨some 5,_,_,_,_,_⟩) (v:=?_) rfl (by kernel_rfl) (by kernel_rfl) (by kernel_rfl) (fun _ _ _ h=>h) (Or.inl ⟨by rfl,?_⟩) (by assumption) ?_
     rotate_left
     ·(intro w hSw;(try dsimp only at hSw);go_simp;try with_reducible rfl)
     try simp only[Act.put,List.setIfInBounds_toArray,List.set_cons_zero,List.set_cons_succ]
     refine wpAnyH_take (i:=12) (oi:=⟨some 6,_,_,_,_,_⟩) (v:=?_) rfl (by kernel_rfl) (by kernel_rfl) (by kernel_rfl) (fun _ _ _ h=>h) (Or.inl ⟨by rfl,?_⟩) (by assumption) ?_
     rotate_left
     ·(intro w hSw;(try dsimp only at hSw);go_simp;try with_reducible rfl)
     try simp only[Act.put,List.setIfInBounds_toArray,List.set_cons_zero,List.set_cons_succ]
     refine wpAnyH_done (by kernel_rfl) ?_ _
     go_wp2_with fail
     exact ret_t3 Tryz.results186 rfl rfl rfl rfl (by have h:=HEnd.out _ hHeld.out.b;rw[show k+1-k=1 from by omega] at h ⊢;exact h)
    ·rw[if_neg he] at hq2
     subst hq2
     have HE:=zH (show decide (x.key=key)=false from decide_eq_false he)
     clear he
     go_wp2_with (first|refine wpList_of_exec (by rfl) (exec_lpk (off:=o+q*5) _ (by rfl) (by rfl) HX.out) ?_|refine wpList_of_exec (by rfl) (exec_slt _ _ (by rfl) (by rfl) (by rfl) HL.out) ?_|refine wpList_of_exec (by rfl) (exec_seq _ _ (by rfl) (by rfl) (by rfl) HE.out) ?_)
     have hkc:q≤c:=by omega
     refine wp_region_held_drew (S:=(fun W=>Hid (Kn w.heap.size w W [] []))) (by kernel_rfl) ?_ (fun hHeld=>?_)
     ·(try dsimp only);exact zH HK.out.drew
     refine wpAnyH_take (i:=0) (oi:=⟨some 40,_,_,_,_,_⟩) (v:=?_) rfl (by kernel_rfl) (by kernel_rfl) (by kernel_rfl) (fun _ _ _ h=>h) (Or.inl ⟨by rfl,?_⟩) (by assumption) ?_
     rotate_left
     ·(intro w hSw;(try dsimp only at hSw);go_simp;try with_reducible rfl)
     try simp only[Act.put,List.setIfInBounds_toArray,List.set_cons_zero,List.set_cons_succ]
     refine wpAnyH_take (i:=1) (oi:=⟨some 41,_,_,_,_,_⟩) (v:=?_) rfl (by kernel_rfl) (by kernel_rfl) (by kernel_rfl) (fun _ _ _ h=>h) (Or.inl ⟨by rfl,?_⟩) (by assumption) ?_
     rotate_left
     ·(intro w hSw;(try dsimp only at hSw);go_simp;try with_reducible rfl)
     try simp only[Act.put,List.setIfInBounds_toArray,List.set_cons_zero,List.set_cons_succ]
     refine wpAnyH_take (i:=2) (oi:=⟨some 42,_,_,_,_,_⟩) (v:=?_) rfl (by kernel_rfl) (by kernel_rfl) (by kernel_rfl) (fun _ _ _ h=>h) (Or.inl ⟨by rfl,?_⟩) (by assumption) ?_
     rotate_left
     ·(intro w hSw;refine Eq.trans (exec_sl_h (hi:=q) _ _ (by rfl) (by rfl) (by rfl) hkc) ?_;with_reducible rfl)
     try simp only[Act.put,List.setIfInBounds_toArray,List.set_cons_zero,List.set_cons_succ]
     refine wpAnyH_take (i:=3) (oi:=⟨some 43,_,_,_,_,_⟩) (v:=?_) rfl (by kernel_rfl) (by kernel_rfl) (by kernel_rfl) (fun _ _ _ h=>h) (Or.inl ⟨by rfl,?_⟩) (by assumption) ?_
     rotate_left
     ·(intro w hSw;(try dsimp only at hSw);go_simp;try with_reducible rfl)
     try simp only[Act.put,List.setIfInBounds_toArray,List.set_cons_zero,List.set_cons_succ]
     refine wpAnyH_take (i:=4) (oi:=⟨some 44,_,_,_,_,_⟩) (v:=?_) rfl (by kernel_rfl) (by kernel_rfl) (by kernel_rfl) (fun _ _ _ h=>h) (Or.inl ⟨by rfl,?_⟩) (by assumption) ?_
     rotate_left
     ·(intro w hSw;(try dsimp only at hSw);go_simp;try with_reducible rfl)
     try simp only[Act.put,List.setIfInBounds_toArray,List.set_cons_zero,List.set_cons_succ]
     refine wpAnyH_take (i:=5) (oi:=⟨some 45,_,_,_,_,_⟩) (v:=?_) rfl (by kernel_rfl) (by kernel_rfl) (by kernel_rfl) (fun _ _ _ h=>h) (Or.inl ⟨by rfl,?_⟩) (by assumption) ?_
     rotate_left
     ·(intro w hSw;(try dsimp only at hSw);go_simp;try with_reducible rfl)
     try simp only[Act.put,List.setIfInBounds_toArray,List.set_cons_zero,List.set_cons_succ]
     refine wpAnyH_take (i:=6) (oi:=⟨some 46,_,_,_,_,_⟩) (v:=?_) rfl (by kernel_rfl) (by kernel_rfl) (by kernel_rfl) (fun _ _ _ h=>h) (Or.inl ⟨by rfl,?_⟩) (by assumption) ?_
     rotate_left
     ·(intro w hSw;refine Eq.trans (exec_sl_lh (lo:=q) (hi:=q) _ _ _ (by rfl) (by rfl) (by rfl) (by rfl) hpq hkc) ?_;with_reducible rfl)
     try simp only[Act.put,List.setIfInBounds_toArray,List.set_cons_zero,List.set_cons_succ]
     refine wpAnyH_take (i:=7) (oi:=⟨some 47,_,_,_,_,_⟩) (v:=?_) rfl (by kernel_rfl) (by kernel_rfl) (by kernel_rfl) (fun _ _ _ h=>h) (Or.inl ⟨by rfl,?_⟩) (by assumption) ?_
     rotate_left
     ·(intro w hSw;(try dsimp only at hSw);go_simp;try with_reducible rfl)
     try simp only[Act.put,List.setIfInBounds_toArray,List.set_cons_zero,List.set_cons_succ]
     refine wpAnyH_take (i:=8) (oi:=⟨some 48,_,_,_,_,_⟩) (v:=?_) rfl (by kernel_rfl) (by kernel_rfl) (by kernel_rfl) (fun _ _ _ h=>h) (Or.inl ⟨by rfl,?_⟩) (by assumption) ?_
     rotate_left
     ·(intro w hSw;(try dsimp only at hSw);go_simp;try with_reducible rfl)
     try simp only[Act.put,List.setIfInBounds_toArray,List.set_cons_zero,List.set_cons_succ]
     refine wpAnyH_take (i:=9) (oi:=⟨some 49,_,_,_,_,_⟩) (v:=?_) rfl (by kernel_rfl) (by kernel_rfl) (by kernel_rfl) (fun _ _ _ h=>h) (Or.inl ⟨by rfl,?_⟩) (by assumption) ?_
     rotate_left
     ·(intro w hSw;refine Eq.trans (exec_sl_l (lo:=q) _ _ (by rfl) (by rfl) (by rfl) hq) ?_;with_reducible rfl)
     try simp only[Act.put,List.setIfInBounds_toArray,List.set_cons_zero,List.set_cons_succ]
     refine wpAnyH_take (i:=10) (oi:=⟨some 4,_,_,_,_,_⟩) (v:=?_) rfl (by kernel_rfl) (by kernel_rfl) (by kernel_rfl) (fun _ _ _ h=>h) (Or.inl ⟨by rfl,?_⟩) (by assumption) ?_
     rotate_left
     ·(intro w hSw;(try dsimp only at hSw);go_simp;try with_reducible rfl)
     try simp only[Act.put,List.setIfInBounds_toArray,List.set_cons_zero,List.set_cons_succ]
     refine wpAnyH_take (i:=11) (oi:=⟨some 5,_,_,_,_,_⟩) (v:=?_) rfl (by kernel_rfl) (by kernel_rfl) (by kernel_rfl) (fun _ _ _ h=>h) (Or.inl ⟨by rfl,?_⟩) (by assumption) ?_
     rotate_left
     ·(intro w hSw;(try dsimp only at hSw);go_simp;try with_reducible rfl)
     try simp only[Act.put,List.setIfInBounds_toArray,List.set_cons_zero,List.set_cons_succ]
     refine wpAnyH_take (i:=12) (oi:=⟨some 6,_,_,_,_,_⟩) (v:=?_) rfl (by kernel_rfl) (by kernel_rfl) (by kernel_rfl) (fun _ _ _ h=>h) (Or.inl ⟨by rfl,?_⟩) (by assumption) ?_
     rotate_left
     ·(intro w hSw;(try dsimp only at hSw);go_simp;try with_reducible rfl)
     try simp only[Act.put,List.setIfInBounds_toArray,List.set_cons_zero,List.set_cons_succ]
     refine wpAnyH_done (by kernel_rfl) ?_ _
     go_wp2_with fail
     exact ret_t3 Tryz.results186 rfl rfl rfl rfl (by have h:=HEnd.out _ hHeld.out.b;rw[Nat.sub_self] at h ⊢;exact h)
   ·obtain rfl:k=n:=by omega
    obtain rfl:=HF0.out rfl
    have hk2:¬(q:Int)<(q:Int):=by omega
    clear HS HB HA HF1 HF0 HG hkn
    go_wp2_with fail
    have hkc:q≤c:=by omega
    refine wp_region_held_drew (S:=(fun W=>Hid (Kn w.heap.size w W [] []))) (by kernel_rfl) ?_ (fun hHeld=>?_)
    ·(try dsimp only);exact zH HK.out.drew
    refine wpAnyH_take (i:=0) (oi:=⟨some 40,_,_,_,_,_⟩) (v:=?_) rfl (by kernel_rfl) (by kernel_rfl) (by kernel_rfl) (fun _ _ _ h=>h) (Or.inl ⟨by rfl,?_⟩) (by assumption) ?_
    rotate_left
    ·(intro w hSw;(try dsimp only at hSw);go_simp;try with_reducible rfl)
    try simp only[Act.put,List.setIfInBounds_toArray,List.set_cons_zero,List.set_cons_succ]
    refine wpAnyH_take (i:=1) (oi:=⟨some 41,_,_,_,_,_⟩) (v:=?_) rfl (by kernel_rfl) (by kernel_rfl) (by kernel_rfl) (fun _ _ _ h=>h) (Or.inl ⟨by rfl,?_⟩) (by assumption) ?_
    rotate_left
    ·(intro w hSw;(try dsimp only at hSw);go_simp;try with_reducible rfl)
    try simp only[Act.put,List.setIfInBounds_toArray,List.set_cons_zero,List.set_cons_succ]
    refine wpAnyH_take (i:=2) (oi:=⟨some 42,_,_,_,_,_⟩) (v:=?_) rfl (by kernel_rfl) (by kernel_rfl) (by kernel_rfl) (fun _ _ _ h=>h) (Or.inl ⟨by rfl,?_⟩) (by assumption) ?_
    rotate_left
    ·(intro w hSw;refine Eq.trans (exec_sl_h (hi:=q) _ _ (by rfl) (by rfl) (by rfl) hkc) ?_;with_reducible rfl)
    try simp only[Act.put,List.setIfInBounds_toArray,List.set_cons_zero,List.set_cons_succ]
    refine wpAnyH_take (i:=3) (oi:=⟨some 43,_,_,_,_,_⟩) (v:=?_) rfl (by kernel_rfl) (by kernel_rfl) (by kernel_rfl) (fun _ _ _ h=>h) (Or.inl ⟨by rfl,?_⟩) (by assumption) ?_
    rotate_left
    ·(intro w hSw;(try dsimp only at hSw);go_simp;try with_reducible rfl)
    try simp only[Act.put,List.setIfInBounds_toArray,List.set_cons_zero,List.set_cons_succ]
    refine wpAnyH_take (i:=4) (oi:=⟨some 44,_,_,_,_,_⟩) (v:=?_) rfl (by kernel_rfl) (by kernel_rfl) (by kernel_rfl) (fun _ _ _ h=>h) (Or.inl ⟨by rfl,?_⟩) (by assumption) ?_
    rotate_left
    ·(intro w hSw;(try dsimp only at hSw);go_simp;try with_reducible rfl)
    try simp only[Act.put,List.setIfInBounds_toArray,List.set_cons_zero,List.set_cons_succ]
    refine wpAnyH_take (i:=5) (oi:=⟨some 45,_,_,_,_,_⟩) (v:=?_) rfl (by kernel_rfl) (by kernel_rfl) (by kernel_rfl) (fun _ _ _ h=>h) (Or.inl ⟨by rfl,?_⟩) (by assumption) ?_
    rotate_left
    ·(intro w hSw;(try dsimp only at hSw);go_simp;try with_reducible rfl)
    try simp only[Act.put,List.setIfInBounds_toArray,List.set_cons_zero,List.set_cons_succ]
    refine wpAnyH_take (i:=6) (oi:=⟨some 46,_,_,_,_,_⟩) (v:=?_) rfl (by kernel_rfl) (by kernel_rfl) (by kernel_rfl) (fun _ _ _ h=>h) (Or.inl ⟨by rfl,?_⟩) (by assumption) ?_
    rotate_left
    ·(intro w hSw;refine Eq.trans (exec_sl_lh (lo:=q) (hi:=q) _ _ _ (by rfl) (by rfl) (by rfl) (by rfl) hpq hkc) ?_;with_reducible rfl)
    try simp only[Act.put,List.setIfInBounds_toArray,List.set_cons_zero,List.set_cons_succ]
    refine wpAnyH_take (i:=7) (oi:=⟨some 47,_,_,_,_,_⟩) (v:=?_) rfl (by kernel_rfl) (by kernel_rfl) (by kernel_rfl) (fun _ _ _ h=>h) (Or.inl ⟨by rfl,?_⟩) (by assumption) ?_
    rotate_left
    ·(intro w hSw;(try dsimp only at hSw);go_simp;try with_reducible rfl)
    try simp only[Act.put,List.setIfInBounds_toArray,List.set_cons_zero,List.set_cons_succ]
    refine wpAnyH_take (i:=8) (oi:=⟨some 48,_,_,_,_,_⟩) (v:=?_) rfl (by kernel_rfl) (by kernel_rfl) (by kernel_rfl) (fun _ _ _ h=>h) (Or.inl ⟨by rfl,?_⟩) (by assumption) ?_
    rotate_left
    ·(intro w hSw;(try dsimp only at hSw);go_simp;try with_reducible rfl)
    try simp only[Act.put,List.setIfInBounds_toArray,List.set_cons_zero,List.set_cons_succ]
    refine wpAnyH_take (i:=9) (oi:=⟨some 49,_,_,_,_,_⟩) (v:=?_) rfl (by kernel_rfl) (by kernel_rfl) (by kernel_rfl) (fun _ _ _ h=>h) (Or.inl ⟨by rfl,?_⟩) (by assumption) ?_
    rotate_left
    ·(intro w hSw;refine Eq.trans (exec_sl_l (lo:=q) _ _ (by rfl) (by rfl) (by rfl) hq) ?_;with_reducible rfl)
    try simp only[Act.put,List.setIfInBounds_toArray,List.set_cons_zero,List.set_cons_succ]
    refine wpAnyH_take (i:=10) (oi:=⟨some 4,_,_,_,_,_⟩) (v:=?_) rfl (by kernel_rfl) (by kernel_rfl) (by kernel_rfl) (fun _ _ _ h=>h) (Or.inl ⟨by rfl,?_⟩) (by assumption) ?_
    rotate_left
    ·(intro w hSw;(try dsimp only at hSw);go_simp;try with_reducible rfl)
    try simp only[Act.put,List.setIfInBounds_toArray,List.set_cons_zero,List.set_cons_succ]
    refine wpAnyH_take (i:=11) (oi:=⟨some 5,_,_,_,_,_⟩) (v:=?_) rfl (by kernel_rfl) (by kernel_rfl) (by kernel_rfl) (fun _ _ _ h=>h) (Or.inl ⟨by rfl,?_⟩) (by assumption) ?_
    rotate_left
    ·(intro w hSw;(try dsimp only at hSw);go_simp;try with_reducible rfl)
    try simp only[Act.put,List.setIfInBounds_toArray,List.set_cons_zero,List.set_cons_succ]
    refine wpAnyH_take (i:=12) (oi:=⟨some 6,_,_,_,_,_⟩) (v:=?_) rfl (by kernel_rfl) (by kernel_rfl) (by kernel_rfl) (fun _ _ _ h=>h) (Or.inl ⟨by rfl,?_⟩) (by assumption) ?_
    rotate_left
    ·(intro w hSw;(try dsimp only at hSw);go_simp;try with_reducible rfl)
    try simp only[Act.put,List.setIfInBounds_toArray,List.set_cons_zero,List.set_cons_succ]
    refine wpAnyH_done (by kernel_rfl) ?_ _
    go_wp2_with fail
    exact ret_t3 Tryz.results186 rfl rfl rfl rfl (by have h:=HEnd.out _ hHeld.out.b;rw[Nat.sub_self] at h ⊢;exact h)
end
section
open Go.RowKit
structure Pc where
 A:Option Addr
 n:Nat
 c:Nat
 l:List Dct.Pr
def cat(ps:List Pc):List Dct.Pr:=ps.flatMap (·.l)
theorem cat_more{ps:List Pc}{k:Nat}{p:Pc}(h:ps[k]?=some p):cat (ps.take (k+1))=cat (ps.take k)++p.l:=by
 unfold cat
 rw[Lay.take_succ h,List.flatMap_append,List.flatMap_cons,List.flatMap_nil,List.append_nil]
theorem cat_le(ps:List Pc)(k:Nat):(cat (ps.take k)).length≤(cat ps).length:=by
 have h:cat ps=cat (ps.take k)++cat (ps.drop k):=by unfold cat;rw[← List.flatMap_append,List.take_append_drop]
 rw[h,List.length_append];omega
theorem join_any(g m:Nat)(ps:List Pc)(w:World)(hm:ps.length=m)(hb:m≤8)(hg:g<w.heap.size)(hc:∀i p,ps[i]?=some p→w.cell? ⟨g,i,none⟩=some (.slice p.A p.n p.c))(hs:∀p∈ps,Sl w p.A p.n p.c p.l)(ht:(cat ps).length≤2513169434916):
  Calls Tryz.prog 187 #[.slice (some ⟨g,0,none⟩) m m] w (IsL (cat ps) w):=by
 have HGo:Hid (∀k,k<m→∃p,ps[k]?=some p∧Sl w p.A p.n p.c p.l∧∀W,Below w.heap.size w W→W.cell? ⟨g,k,none⟩=some (.slice p.A p.n p.c)):=zH fun k hk=>by
  obtain⟨p,hp⟩:=Lay.get_of (l:=ps) (k:=k) (by rw[hm];exact hk)
  exact⟨p,hp,hs p (List.mem_of_getElem? hp),fun W hW=>(hW.cell (p:=⟨g,k,none⟩) hg).trans (hc k p hp)⟩
 have HLen:Hid (∀k,(cat (ps.take k)).length≤2513169434916):=zH fun k=>Nat.le_trans (cat_le ps k) ht
 have HTake:Hid (ps.take m=ps):=zH (by rw[← hm];exact List.take_length)
 clear hc hs ht hm hg
 have HK:=zH (Kn.start w)
 go_enter Tryz.func187,Tryz.ntmps187
 go_wp2_with (first|(refine wpList_mp0 HK rfl rfl ?_;intro _ g2 HK';simp only[lnA] at HK';replace HK:=HK';clear HK'))
 go_loopw [3,9] (fun vs vi wr=>∃(k:Nat) (A1:Option Addr) (c1 N:Nat),k≤m∧vs=.slice A1 N c1∧vi=.int .i64 k∧Hid ((cat (ps.take k)).length=N)∧Hid (Kn w.heap.size w wr [] [row prLay (.slice A1 N c1) (cat (ps.take k))])) (fun _ vi _=>m-(intOf vi).toNat)
 case atStart=>exact⟨0,_,_,0,Nat.zero_le _,rfl,rfl,zH rfl,HK⟩
 case round=>
  clear HK
  obtain⟨k,A1,c1,N,hk,rfl,rfl,hN,HK⟩:=hrel
  by_cases hlt:k<m
  ·obtain⟨p,hp,hsl,hcell⟩:=HGo.out k hlt
   have HC:=zH hcell
   have hlen:=HLen.out (k+1)
   have he:=cat_more hp
   rw[he,List.length_append,hN.out] at hlen
   have HE:=zH he
   have HSl:=zH hsl
   have HPl:Hid (p.n=p.l.length):=zH hsl.len.symm
   have HL:Hid ((cat (ps.take k)).length+p.l.length≤9223372036854775807∧((cat (ps.take k)).length+p.l.length)*prLay.bytes≤211106232532992):=zH ⟨by rw[hN.out];omega,by show _*56≤_;rw[hN.out];omega⟩
   have HN2:Hid ((cat (ps.take k)++p.l).length=N+p.l.length):=zH (by rw[List.length_append,hN.out])
   clear hlen he hcell hsl hp
   have hk1:(0:Int)≤(k:Int):=by omega
   have hk2:(k:Int)<(m:Int):=by omega
   obtain⟨Ap,np,cp,lp⟩:=p
   simp only at HC HSl HL HN2 HE HPl
   have HR:Hid (prLay.Reads wr wr.heap.size Ap lp∧(Ap=none→lp=[])):=zH (let h:=HSl.out.later HK.out.b;⟨h.rd,h.nl⟩)
   go_wp2_with (first|refine wpList_of_exec (v:=.slice Ap np cp) (by rfl) (exec_cell _ (by rfl) (by rfl) (HC.out _ HK.out.b) Tryz.underlying54 rfl) ?_|(at_builtin;refine wpList_kmore HK prLay 0 rfl _ _ rfl rfl rfl lp rfl HPl.out HR HL (N:=N+lp.length) HN2 ?_;intro A4 c4 _ HK';simp only[List.set] at HK';replace HK:=HK';clear HK'))
   refine⟨⟨k+1,A4,c4,N+lp.length,by omega,rfl,by go_num,zH (by rw[HE.out,HN2.out]),?_⟩,by simp[intOf];omega⟩
   rw[HE.out]
   exact HK
  ·obtain rfl:k=m:=by omega
   rw[HTake.out] at HK hN
   obtain rfl:=hN.out
   go_wp2_with fail
   go_ret
   exact⟨A1,_,c1,rfl,HK.out.own 0 rfl,HK.out.b⟩
section
variable {b0:Nat}{w0 w:World}{L:List (Nat×TypeId×Array Value)}{R:List RowE}{g:Nat}{A1 A2 A3:Option Addr}{n1 c1 n2 c2 n3 c3:Nat}{l1 l2 l3:List Dct.Pr}
theorem join1_any(HK:Hid (Kn b0 w0 w L R))(i:Nat)(hL:L[i]?=some (g,54,#[.slice A1 n1 c1]))(h1:Sl w A1 n1 c1 l1):
  Calls Tryz.prog 187 #[.slice (some ⟨g,0,none⟩) 1 1] w (IsL l1 w):=by
 have h:=join_any g 1 [⟨A1,n1,c1,l1⟩] w rfl (by decide) (HK.out.blk i hL).lt (fun j p hp=>by
  match j,hp with
  | 0,hp=>simp at hp;subst hp;exact HK.out.cell i hL 0 rfl) (fun p hp=>by
   rw[List.mem_singleton] at hp;subst hp;exact h1) (by
   show(l1++[]).length≤_
   rw[List.append_nil,h1.len];exact h1.big)
 have e:cat [⟨A1,n1,c1,l1⟩]=l1:=by show l1++[]=l1;rw[List.append_nil]
 rw[e] at h
 exact h
theorem join2_any(HK:Hid (Kn b0 w0 w L R))(i:Nat)(hL:L[i]?=some (g,54,#[.slice A1 n1 c1,.slice A2 n2 c2]))(h1:Sl w A1 n1 c1 l1)(h2:Sl w A2 n2 c2 l2)(ht:n1+n2≤2513169434916):
  Calls Tryz.prog 187 #[.slice (some ⟨g,0,none⟩) 2 2] w (IsL (l1++l2) w):=by
 have h:=join_any g 2 [⟨A1,n1,c1,l1⟩,⟨A2,n2,c2,l2⟩] w rfl (by decide) (HK.out.blk i hL).lt (fun j p hp=>by
  match j,hp with
  | 0,hp=>simp at hp;subst hp;exact HK.out.cell i hL 0 rfl
  | 1,hp=>simp at hp;subst hp;exact HK.out.cell i hL 1 rfl) (fun p hp=>by
   simp only[List.mem_cons,List.not_mem_nil,or_false] at hp
   rcases hp with rfl|rfl
   ·exact h1
   ·exact h2) (by
   show(l1++(l2++[])).length≤_
   rw[List.append_nil,List.length_append,h1.len,h2.len];exact ht)
 have e:cat [⟨A1,n1,c1,l1⟩,⟨A2,n2,c2,l2⟩]=l1++l2:=by show l1++(l2++[])=_;rw[List.append_nil]
 rw[e] at h
 exact h
theorem join3_any(HK:Hid (Kn b0 w0 w L R))(i:Nat)(hL:L[i]?=some (g,54,#[.slice A1 n1 c1,.slice A2 n2 c2,.slice A3 n3 c3]))(h1:Sl w A1 n1 c1 l1)(h2:Sl w A2 n2 c2 l2)(h3:Sl w A3 n3 c3 l3)(ht:n1+n2+n3≤2513169434916):
  Calls Tryz.prog 187 #[.slice (some ⟨g,0,none⟩) 3 3] w (IsL (l1++l2++l3) w):=by
 have h:=join_any g 3 [⟨A1,n1,c1,l1⟩,⟨A2,n2,c2,l2⟩,⟨A3,n3,c3,l3⟩] w rfl (by decide) (HK.out.blk i hL).lt (fun j p hp=>by
  match j,hp with
  | 0,hp=>simp at hp;subst hp;exact HK.out.cell i hL 0 rfl
  | 1,hp=>simp at hp;subst hp;exact HK.out.cell i hL 1 rfl
  | 2,hp=>simp at hp;subst hp;exact HK.out.cell i hL 2 rfl) (fun p hp=>by
   simp only[List.mem_cons,List.not_mem_nil,or_false] at hp
   rcases hp with rfl|rfl|rfl
   ·exact h1
   ·exact h2
   ·exact h3) (by
   show(l1++(l2++(l3++[]))).length≤_
   rw[List.append_nil,List.length_append,List.length_append,h1.len,h2.len,h3.len];omega)
 have e:cat [⟨A1,n1,c1,l1⟩,⟨A2,n2,c2,l2⟩,⟨A3,n3,c3,l3⟩]=l1++l2++l3:=by show l1++(l2++(l3++[]))=_;rw[List.append_nil,List.append_assoc]
 rw[e] at h
 exact h
end
theorem dwo_any(A:Option Addr)(c n:Nat)(l:List Dct.Pr)(key:ByteArray)(w:World)(hs:Sl w A n c l)(hu:Dct.Up l):
  Calls Tryz.prog 188 #[.slice A n c,.string key] w (IsL (Dct.wo l key) w):=by
 have HP:=zH (parts_any A c n l key w w hs (Below.refl _ w))
 have HW:=zH (Dct.wo_parts hu key).1
 have hpl:(l.take (Dct.idx l key)).length+(l.drop (Dct.fin l key)).length≤2513169434916:=by
  have h:=congrArg List.length HW.out
  rw[List.length_append] at h
  rw[h]
  exact(hs.fit.wo key).big
 have HB:=zH hpl
 clear hs hu hpl
 generalize l.take (Dct.idx l key)=l1 at *
 generalize (l.drop (Dct.idx l key)).take (Dct.fin l key-Dct.idx l key)=l2 at *
 generalize l.drop (Dct.fin l key)=l3 at *
 have HK:=zH (Kn.start w)
 go_enter Tryz.func188,Tryz.ntmps188
 go_wp2_with fail
 refine HP.out.mono ?_;rintro e w1 ⟨A1,n1,c1,A2,n2,c2,A3,n3,c3,rfl,s1,s2,s3,b1⟩
 replace HK:=hkC HK b1
 have S1:=zH s1
 have S3:=zH s3
 clear HP s1 s2 s3 b1
 go_wp2_with (first|(refine wpList_ms2 HK rfl _ _ rfl rfl rfl ?_;intro w2 g2 HK' _;simp only[lnA] at HK';replace HK:=HK';clear HK'))
 refine(join2_any HK 0 rfl (S1.out.later HK.out.b) (S3.out.later HK.out.b) (by rw[← S1.out.len,← S3.out.len];exact HB.out)).mono ?_;rintro e w3 ⟨A4,n4,c4,rfl,o4,b4⟩
 rw[HW.out] at o4
 replace HK:=zH (HK.out.called b4 o4)
 clear o4 b4
 go_wp2_with fail
 go_ret
 exact⟨A4,n4,c4,rfl,HK.out.own 0 rfl,HK.out.b⟩
end
section
open Go.RowKit
def IsVE(v:Val.V)(x:Int)(w:World)(e:Ending)(w':World):Prop:=e=.returned (.tuple #[vv v,.int .i64 x])∧Below w.heap.size w w'
theorem at_one{w:World}{A:Option Addr}{c:Nat}{x:Dct.Pr}(h:Sl w A 1 c [x]):∃b o,A=some ⟨b,o,none⟩∧∀W,Below w.heap.size w W→∀j v,(prL x)[j]?=some v→W.cell? ⟨b,o+j,none⟩=some v:=by
 obtain⟨b,o,rfl,hc⟩:=h.at (by decide)
 refine⟨b,o,rfl,fun W hW j v hv=>?_⟩
 have:=hc W hW 0 x rfl j v hv
 rw[Nat.zero_mul,Nat.add_zero] at this
 exact this
theorem get_any(A:Option Addr)(c n:Nat)(l:List Dct.Pr)(key:ByteArray)(w:World)(hs:Sl w A n c l):
  Calls Tryz.prog 162 #[.slice A n c,.string key] w (IsVE (Dct.gtV l key) (Dct.gtE l key) w):=by
 have HM:=zH (fun W (hW:Below w.heap.size w W)=>mchk_any A c n l W (hs.later hW))
 have HP:=zH (fun W (hW:Below w.heap.size w W)=>parts_any A c n l key w W hs hW)
 clear hs
 unfold IsVE IsE at *
 have HK:=zH (Kn.start w)
 by_cases hr:Dct.Right l
 ·rw[Dct.mchk_ok hr] at HM
  rcases Dct.fnd_parts hr.up key with ⟨hf,hn⟩|⟨hf,x,hx,hn⟩
  ·obtain⟨e1,e2⟩:=Dct.gt_none hr hn
   rw[e1,e2]
   rw[hf,Nat.sub_self] at HP
   unfold Dct.emp vv
   simp only
   generalize l.take (Dct.idx l key)=l1 at *
   generalize l.drop (Dct.idx l key)=l3 at *
   clear e1 e2 hf hn hr
   go_enter Tryz.func162,Tryz.ntmps162
   go_wp2_with (first|(refine wpList_akv HK rfl rfl ?_;intro _ g1 HK';simp only[lcA,lnA] at HK';replace HK:=HK';clear HK'))
   refine(HM.out _ HK.out.b).mono ?_;rintro e w1 ⟨rfl,b1⟩
   replace HK:=hkC HK b1
   clear b1
   go_wp2_with fail
   refine(HP.out _ HK.out.b).mono ?_;rintro e w1 ⟨A1,n1,c1,A2,n2,c2,A3,n3,c3,rfl,s1,s2,s3,b1⟩
   replace HK:=hkC HK b1
   obtain rfl:n2=0:=by have:=s2.len;simpa using this.symm
   clear s1 s2 s3 b1
   go_wp2_with (first|(refine wpList_sv (f2:=0) HK 0 rfl _ _ rfl rfl rfl rfl ?_;intro _ HK';simp only[List.set] at HK';replace HK:=HK';clear HK'))
   exact ret_ve Tryz.results162 rfl rfl rfl (HK.out.blk 0 rfl) ⟨rfl,HK.out.b⟩
  ·obtain⟨e1,e2⟩:=Dct.gt_some hr hn
   have hl2:(l.drop (Dct.idx l key)).take (Dct.fin l key-Dct.idx l key)=[x]:=by
    rw[hf,Nat.add_sub_cancel_left]
    have h1:=(List.getElem?_eq_some_iff.1 hx)
    obtain⟨h1,h2⟩:=h1
    rw[List.drop_eq_getElem_cons h1,h2]
    rfl
   rw[e1,e2]
   rw[hl2] at HP
   generalize l.take (Dct.idx l key)=l1 at *
   generalize l.drop (Dct.fin l key)=l3 at *
   clear e1 e2 hf hn hr hl2 hx
   obtain⟨key',k,m,f,s⟩:=x
   unfold vv
   simp only
   go_enter Tryz.func162,Tryz.ntmps162
   go_wp2_with (first|(refine wpList_akv HK rfl rfl ?_;intro _ g1 HK';simp only[lcA,lnA] at HK';replace HK:=HK';clear HK'))
   refine(HM.out _ HK.out.b).mono ?_;rintro e w1 ⟨rfl,b1⟩
   replace HK:=hkC HK b1
   clear b1
   go_wp2_with fail
   refine(HP.out _ HK.out.b).mono ?_;rintro e w1 ⟨A1,n1,c1,A2,n2,c2,A3,n3,c3,rfl,s1,s2,s3,b1⟩
   replace HK:=hkC HK b1
   obtain rfl:n2=1:=by have:=s2.len;simpa using this.symm
   obtain⟨b,o,rfl,hc⟩:=at_one s2
   have HX:=zH hc
   clear s1 s2 s3 b1 hc
   go_wp2_with (first|refine wpList_of_exec (by rfl) (exec_lpv (off:=o) _ (by rfl) (by rfl) rfl (HX.out _ HK.out.b)) ?_|(refine wpList_sv (f2:=f) HK 0 rfl _ _ rfl rfl rfl rfl ?_;intro _ HK';simp only[List.set] at HK';replace HK:=HK';clear HK'))
   exact ret_ve Tryz.results162 rfl rfl rfl (HK.out.blk 0 rfl) ⟨rfl,HK.out.b⟩
 ·rw[Dct.mchk_one hr] at HM
  obtain⟨e1,e2⟩:=Dct.gt_bad hr key
  rw[e1,e2]
  clear e1 e2 hr HP
  unfold Dct.emp vv
  simp only
  go_enter Tryz.func162,Tryz.ntmps162
  go_wp2_with (first|(refine wpList_akv HK rfl rfl ?_;intro _ g1 HK';simp only[lcA,lnA] at HK';replace HK:=HK';clear HK'))
  refine(HM.out _ HK.out.b).mono ?_;rintro e w1 ⟨rfl,b1⟩
  replace HK:=hkC HK b1
  clear b1
  go_wp2_with (first|(refine wpList_sv (f2:=0) HK 0 rfl _ _ rfl rfl rfl rfl ?_;intro _ HK';simp only[List.set] at HK';replace HK:=HK';clear HK'))
  exact ret_ve Tryz.results162 rfl rfl rfl (HK.out.blk 0 rfl) ⟨rfl,HK.out.b⟩
end
end Go.Proofs.YtddpmlcpfmmbeaaGreat
