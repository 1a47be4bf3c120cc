/- What phalanxref03.Decode returns: the items that bytes are, in a slice of the call's own, or which error. No condition but those named. -/
import Derived.Test.YtieoeendnccafaaGreatMTK
import Derived.Test.YtieoeendnccafaaGreatMBL
set_option linter.unusedSimpArgs false
set_option linter.unusedVariables false
set_option maxRecDepth 100000
set_option maxHeartbeats 25600000
namespace Go.Proofs.YtieoeendnccafaaGreat
section
open Go.RowKit
theorem next_bad(s:ByteArray)(p:Nat)(c:UInt8)(r:List UInt8)(w:World)(hs:s.size≤16384)(hp:s.data.toList.drop p=c::r)(hn:Wire.next (c::r)=none):
  Calls Tryz.prog 105 #[.string s,.int .i64 p] w (IsNext w noItem 0 false):=by
 have hcl:=c.toNat_lt
 have hgive:∀k,Wire.takeLeast k r=none→r.length<k∨(0<k∧k≤r.length∧r.headD 0=0):=fun k h=>by
  unfold Wire.takeLeast at h
  split at h
  ·exact .inl (by assumption)
  ·rename_i h1
   split at h
   ·rename_i h2;exact .inr ⟨h2.1,by omega,h2.2⟩
   ·cases h
 rw[Wire.next] at hn
 by_cases h1:c.toNat≤8
 ·rw[if_pos h1,Option.map_eq_none_iff] at hn
  rcases hgive _ hn with h|⟨h2,h3,h4⟩
  ·exact next_none s p c r w hs hp (.inr (.inr (.inr (.inl ⟨h1,h⟩))))
  ·exact next_none s p c r w hs hp (.inr (.inr (.inr (.inr (.inr (.inl ⟨h2,h1,h3,h4⟩))))))
 ·rw[if_neg h1] at hn
  by_cases h2:16≤c.toNat∧c.toNat≤18
  ·rw[if_pos h2,Option.bind_eq_none_iff] at hn
   cases ht:Wire.takeLeast (c.toNat-16) r with
   | none=>
    rcases hgive _ ht with h|⟨h3,h4,h5⟩
    ·exact next_none s p c r w hs hp (.inr (.inr (.inr (.inr (.inl ⟨h2.1,h2.2,h⟩)))))
    ·exact next_none s p c r w hs hp (.inr (.inr (.inr (.inr (.inr (.inr ⟨by omega,h2.2,h4,h5⟩))))))
   | some q=>
    obtain⟨u,t⟩:=q
    have hu:=hn (u,t) ht
    simp only at hu
    refine next_over s p c r t u w hs hp h2.1 h2.2 ht ?_
    rcases Nat.lt_or_ge t.length u with h|h
    ·exact h
    ·rw[if_neg (by omega)] at hu;cases hu
  ·refine next_none s p c r w hs hp ?_
   rcases Nat.lt_or_ge c.toNat 16 with h|h
   ·exact .inl ⟨by omega,by omega⟩
   ·rcases Nat.lt_or_ge 24 c.toNat with h'|h'
    ·exact .inr (.inl h')
    ·exact .inr (.inr (.inl ⟨by omega,h'⟩))
theorem suffix{s:ByteArray}{p:Nat}{l t:List UInt8}(hp:s.data.toList.drop p=l++t)(hps:p≤s.size):s.data.toList.drop (p+l.length)=t∧p+l.length+t.length=s.size:=by
 have h1:=congrArg List.length hp
 rw[List.length_drop,Array.length_toList,List.length_append] at h1
 have h2:s.data.size=s.size:=rfl
 refine⟨by rw[← List.drop_drop,hp,List.drop_left],by omega⟩
theorem next_ok(s:ByteArray)(p:Nat)(t:List UInt8)(x:Wire.It)(w:World)(hs:s.size≤16384)(hps:p≤s.size)(hn:Wire.next (s.data.toList.drop p)=some (x,t)):
  Calls Tryz.prog 105 #[.string s,.int .i64 p] w (IsNext w x ((p+(Wire.one x).length:Nat):Int) true):=by
 have hl:(s.data.toList.drop p).length≤16384:=by
  rw[List.length_drop,Array.length_toList]
  have:s.data.size=s.size:=rfl
  omega
 have ho:=(Wire.one_of_next hn hl).1
 have hz:=congrArg List.length ho
 rw[List.length_append] at hz
 generalize hd:s.data.toList.drop p=d at *
 match d,hn with
 | c::r,hn=>
  rw[Wire.next] at hn
  split at hn
  ·rename_i hc
   obtain⟨⟨u,t'⟩,h1,h2⟩:=Option.map_eq_some_iff.1 hn
   cases h2
   have h3:=(Wire.takeLeast_some h1).2.2.2
   have h4:=next_int s p c r t' u w hs hd hc h1
   rw[List.length_cons] at hz
   simp only at hz
   rwa [show p+1+c.toNat=p+(Wire.one ⟨0,Wire.unfold u,⟨#[]⟩⟩).length from by omega] at h4
  ·split at hn
   ·rename_i hc1 hc
    obtain⟨⟨u,t'⟩,h1,h2⟩:=Option.bind_eq_some_iff.1 hn
    simp only at h2
    split at h2
    ·cases h2
    ·rename_i hlen
     cases h2
     have h3:=(Wire.takeLeast_some h1).2.2.2
     have h4:=next_text s p c r t' u w hs hd hc.1 hc.2 h1 (by omega)
     rw[List.length_cons,List.length_drop] at hz
     rwa [show p+1+(c.toNat-16)+u=p+(Wire.one ⟨1,0,txt (t'.take u)⟩).length from by
      have hz':(Wire.one ⟨1,0,txt (t'.take u)⟩).length+(t'.length-u)=r.length+1:=hz
      omega] at h4
   ·cases hn
theorem its_below{base:Nat}{w w':World}{v:Value}{xs:List Wire.It}(h:Its base w v xs)(hb:Below w.heap.size w w'):Its base w' v xs:=
 World.ownsRow.kept h (grown_of_below hb) (by cases v.ownBlock<;>simp)
where
 grown_of_below {w w':World} (hb:Below w.heap.size w w'):w.grownBy w' none:=⟨hb.os,hb.tape,hb.output,hb.size,fun i hi _=>hb.block i hi⟩
theorem new_at(w:World)(a b:Obj):((w.alloc a).alloc b).heap[w.heap.size+1]?=some b:=by
 have h:=heap_alloc_new (w.alloc a) b
 have hz:(w.alloc a).heap.size=w.heap.size+1:=by simp
 rwa [hz] at h
theorem rdecode_any(s:ByteArray)(w:World)(hs:s.size≤140737488351232):
  Calls Tryz.prog 52 #[.string s] w (IsIts w (Wire.D s).1 (Wire.D s).2):=by
 by_cases hlong:16384<s.size
 ·have hD:Wire.D s=([],2):=by unfold Wire.D;rw[if_pos hlong]
  rw[hD]
  clear hD
  go_enter Tryz.func52,Tryz.ntmps52
  go_wp2_with fail
  go_ret2
  exact⟨_,rfl,World.ownsRow_nil _ _ _ _,Below.refl _ _⟩
 ·obtain⟨i0,hi,hz0,hz1,hz2⟩:=info_parts info_witem
  have hs2:s.size≤16384:=by omega
  have hp:decide (16384<(s.size:Int))=false:=by rw[decide_eq_false_iff_not];omega
  clear hs hlong
  go_enter Tryz.func52,Tryz.ntmps52
  go_wp2_with fail
  go_loopw [4,5] (fun vo va wr=>∃(xs:List Wire.It) (p:Nat),p≤s.size∧va=.int .i64 p∧Hid (Its w.heap.size wr vo xs)∧Hid (Below w.heap.size w wr)∧Hid (Wire.dec s.data.toList=(Wire.dec (s.data.toList.drop p)).map (xs ++ ·))∧xs.length≤p) (fun _ va _=>s.size-(intOf va).toNat)
  case atStart=>exact⟨[],0,Nat.zero_le _,rfl,zH (World.ownsRow_nil _ _ _ _),zH (Below.refl _ _),zH (by simp),Nat.le_refl _⟩
  case round=>
   obtain⟨xs,p,hps,rfl,HI,HB,HD,hxp⟩:=hrel
   have hbs:=HB.out.size
   by_cases hlt:p<s.size
   ·cases hn:Wire.next (s.data.toList.drop p) with
    | none=>
     have hd:∃c r,s.data.toList.drop p=c::r:=by
      cases hd:s.data.toList.drop p with
      | nil=>
       have:=congrArg List.length hd
       rw[List.length_drop,Array.length_toList] at this
       have h2:s.data.size=s.size:=rfl
       simp at this;omega
      | cons c r=>exact⟨c,r,rfl⟩
     obtain⟨c,r,hd⟩:=hd
     rw[hd] at hn
     have HN:=zH (next_bad s p c r wr hs2 hd hn)
     have HE:Hid (Wire.D s=([],3)):=zH (by
      unfold Wire.D
      rw[if_neg (by omega),HD.out,hd,Wire.dec_none (by simp) hn];rfl)
     clear hn hd
     go_wp2_with fail
     refine(HN.out).mono ?_;rintro e w1 ⟨rfl,b1⟩
     have HB1:=zH (HB.out.trans (b1.mono hbs))
     have HS:=b1.size
     clear b1
     unfold noItem
     go_wp2_with fail
     go_ret2
     rw[HE.out]
     exact⟨_,rfl,World.ownsRow_nil _ _ _ _,HB1.out.alloc (by omega) _⟩
    | some q=>
     obtain⟨x,t⟩:=q
     have hl:(s.data.toList.drop p).length≤16384:=by
      rw[List.length_drop,Array.length_toList]
      have:s.data.size=s.size:=rfl
      omega
     have hone:=Wire.one_of_next hn hl
     have hsuf:=suffix hone.1.symm hps
     have HN:=zH (next_ok s p t x wr hs2 hps hn)
     have HD1:Hid (Wire.dec s.data.toList=(Wire.dec (s.data.toList.drop (p+(Wire.one x).length))).map ((xs++[x]) ++ ·)):=zH (by
      rw[HD.out,Wire.dec_some hn hone.2.2,Option.map_map,hsuf.1]
      congr 1
      funext l
      simp)
     have hop:=Wire.one_pos x
     have hpz:p+(Wire.one x).length≤s.size:=by omega
     clear hn hl hone hsuf
     obtain⟨xk,xn,xs'⟩:=x
     generalize (Wire.one ⟨xk,xn,xs'⟩).length=m at *
     go_wp2_with fail
     refine(HN.out).mono ?_;rintro e w1 ⟨rfl,b1⟩
     have HI1:=zH (its_below HI.out b1)
     have HB1:=zH (HB.out.trans (b1.mono hbs))
     have hb1:w.heap.size≤w1.heap.size:=by have:=b1.size;omega
     clear b1
     simp only at *
     go_wp2_with (at_builtin;refine wpList_append_src _ rfl (.tmp 25) (.tmp 27) 84 84 rfl w.heap.size 87 i0 (.agg #[.int .i64 0,.int .i64 0,.string ⟨#[]⟩]) 3 32 Tryz.underlying84 hi hz0 hz1 hz2 rfl (by decide) (by decide) _ xs.length (flat xs) rfl ((HI1.out.alloc _).alloc _) 1 [.int .i64 xk,.int .i64 xn,.string xs'] (.slice (some ⟨w1.heap.size+1,0,none⟩) 1 1) rfl (Src.ofSlice _ Tryz.underlying84 _ _ _ _ rfl (World.news_of_block (cs:=#[.int .i64 xk,.int .i64 xn,.string xs']) (t:=87) (fr:=(0,0)) (new_at w1 _ _)) (by simp[Value.oneCell'])) ?c1 ?c2 ?c3 ?cn)
     case c1=>unfold maxLen;omega
     case c2=>omega
     case c3=>simp;omega
     intro v2 w2 hown hg _
     have HI2:Hid (Its w.heap.size w2 v2 (xs++[⟨xk,xn,xs'⟩])):=zH (by
      unfold Its
      rw[flat_snoc,List.length_append]
      exact hown)
     have HB2:=zH (((HB1.out.alloc hb1 _).alloc (by simp;omega) _).grown hg (by simp;omega) (fun b hb=>(World.ownsRow.lt HI1.out b hb).1))
     clear hown hg
     go_wp2_with fail
     exact⟨⟨xs++[⟨xk,xn,xs'⟩],p+m,hpz,by go_num,HI2,HB2,HD1,by simp only[List.length_append,List.length_singleton];omega⟩,by simp[intOf];omega⟩
   ·obtain rfl:p=s.size:=by omega
    have HE:Hid (Wire.D s=(xs,0)):=zH (by
     unfold Wire.D
     rw[if_neg (by omega),HD.out,List.drop_of_length_le (by rw[Array.length_toList];exact Nat.le_refl _),Wire.dec_nil];simp)
    go_wp2_with fail
    go_ret2
    rw[HE.out]
    exact⟨_,rfl,HI.out,HB.out⟩
end
end Go.Proofs.YtieoeendnccafaaGreat
