/-
  The law LinkStale: it returns true whatever is handed in.
  No condition but the form's own of two bytes and a slice of moves: their numbers fit their kinds.
-/
import Derived.Test.YtamjcghdebjpjaaWireFifoL
set_option linter.unusedSimpArgs false
set_option linter.unusedVariables false
namespace Go.Proofs.Ytamjcghdebjpjaa
open Go.RowKit

theorem bytesExt {a b : ByteArray} (h : a.toList = b.toList) : a = b := by
  rw [ByteArray.toList_eq, ByteArray.toList_eq] at h
  exact Go.WideShapes.bytes_inj h
theorem common_step {l G : List ByteArray} {k i : Nat} {b c : ByteArray} (hk : l[k]? = some b) (hi : G[i]? = some c) : Lnk.Wr.common (l.drop k) (G.drop i) = if c = b then Lnk.Wr.common (l.drop (k + 1)) (G.drop (i + 1)) + 1 else 0 := by
  obtain ⟨h1, h2⟩ := List.getElem?_eq_some_iff.1 hk
  obtain ⟨h3, h4⟩ := List.getElem?_eq_some_iff.1 hi
  rw [List.drop_eq_getElem_cons h1, List.drop_eq_getElem_cons h3, h2, h4]
  rfl
theorem common_end1 {l G : List ByteArray} {k i : Nat} (hk : l.length ≤ k) : Lnk.Wr.common (l.drop k) (G.drop i) = 0 := by
  rw [List.drop_eq_nil_of_le hk]
  unfold Lnk.Wr.common
  rfl
theorem common_end2 {l G : List ByteArray} {k i : Nat} (hi : G.length ≤ i) : Lnk.Wr.common (l.drop k) (G.drop i) = 0 := by
  rw [List.drop_eq_nil_of_le hi]
  cases l.drop k <;> rfl
theorem greedy_step {sent : List (List ByteArray)} {k : Nat} {l : List ByteArray} (h : sent[k]? = some l) (G : List ByteArray) (i : Nat) : Lnk.Wr.greedy (sent.drop k) G i = Lnk.Wr.greedy (sent.drop (k + 1)) G (i + Lnk.Wr.common l (G.drop i)) := by
  obtain ⟨h1, h2⟩ := List.getElem?_eq_some_iff.1 h
  rw [List.drop_eq_getElem_cons h1, h2]
  rfl
theorem common_le : ∀ (l G : List ByteArray), Lnk.Wr.common l G ≤ G.length
  | [], _ => Nat.zero_le _
  | _ :: _, [] => Nat.zero_le _
  | s :: l, g :: G => by
    have := common_le l G
    unfold Lnk.Wr.common
    split
    · simp; omega
    · exact Nat.zero_le _
set_option maxRecDepth 100000 in
set_option maxHeartbeats 12800000 in
theorem stale_yes (win ret : Int) (A0 : Option Addr) (c0 : Nat) (l0 : List Lnk.Move) (w : World) (hl : l0.length ≤ 9223372036854775807) (hi : lmvLay.Reads w w.heap.size A0 l0) (hw : 0 ≤ win ∧ win ≤ 255) (hr : 0 ≤ ret ∧ ret ≤ 255) :
    Lift.Yes Try.prog 6 #[.int .u8 win, .int .u8 ret, .slice A0 l0.length c0] w := by
  unfold Lift.Yes
  have HI := Lib.hid hi
  have HGet : Hid (∀ k, k < l0.length → ∃ x, l0[k]? = some x) := Lib.hid fun k hk => Lay.get_of hk
  have HB := Lib.hid (begun_any win ret w hw hr)
  have HAw := Lib.hid awake_any
  have HFt0 := Lib.hid (win_fits win ret hw hr)
  have HFi0 := Lib.hid (Lnk.Wr.begun_old (1 + win % 8) (1 + ret % 5))
  clear hi hw hr
  generalize hn : l0.length = n at *
  have HN := Lib.hid hn
  clear hn
  generalize Lnk.Wr.begun (1 + win % 8) (1 + ret % 5) = x0 at *
  go_enter Try.func6, Try.ntmps6
  go_wp2_with fail
  refine HB.out.mono ?_; rintro e w1 ⟨g, rfl, hW⟩
  have HW := Lib.hid hW
  clear hW HB
  go_upto_block 0 with fail
  go_cut [7] (fun s7 wx => s7 = .pointer (some ⟨g, 0, none⟩) ∧ ∃ x, Hid (Lnk.Wr.Fits 150 150 x) ∧ Hid (Lnk.Wr.Old x) ∧ Hid (WireAt w.heap.size w g x wx))
  case first =>
    go_wp2_with fail
    go_loopw [8] (fun vi wr => ∃ (k : Nat) (x : Lnk.Wr), k ≤ n ∧ k ≤ 150 ∧ vi = .int .i64 k ∧ Hid (Lnk.Wr.Fits k k x) ∧ Hid (Lnk.Wr.Old x) ∧ Hid (WireAt w.heap.size w g x wr)) (fun vi _ => n - (intOf vi).toNat)
    case atStart => exact ⟨0, x0, Nat.zero_le _, by decide, rfl, HFt0, HFi0, HW⟩
    case round =>
      clear HW HFt0 HFi0
      obtain ⟨k, x, hkn, hk150, rfl, HFt, HFi, HW⟩ := hrel
      have hk0 : (0 : Int) ≤ (k : Int) := by omega
      by_cases hc : k < n ∧ k < 150
      · obtain ⟨hlt, hlt3⟩ := hc
        obtain ⟨y, hy⟩ := HGet.out k hlt
        obtain ⟨bl, ol, rfl, hbl, hcl⟩ := HI.out (by rw [HN.out]; omega)
        have hk1 : (k : Int) < (n : Int) := by omega
        have hk3 : (k : Int) < 150 := by omega
        obtain ⟨m0, m1⟩ := at_lmv ((hcl k y hy).keep fun q hq => (HW.out.below).cell (by rw [hq]; exact hbl))
        have HM := Lib.hid (fun W h => move_any w.heap.size w g x W k k y.k y.n true h HFt.out (by omega) (by omega))
        have HFt' := Lib.hid (HFt.out.move y.k y.n true)
        have HFi' := Lib.hid (HFi.out.move y.k y.n true)
        clear hy hcl hbl
        generalize x.move y.k y.n true = x' at *
        go_wp2_with fail
        refine (HM.out _ HW.out).mono ?_; rintro e w2 ⟨rfl, hW'⟩
        clear HM HW m0 m1
        have HWx := Lib.hid hW'
        clear hW'
        go_wp2_with fail
        exact ⟨⟨k + 1, x', by omega, by omega, by go_num, HFt', HFi', HWx⟩, by simp [intOf]; omega⟩
      · rcases Nat.lt_or_ge k n with hlt | hlt
        · have hk1 : (k : Int) < (n : Int) := by omega
          have hk3 : ¬ (k : Int) < 150 := by omega
          clear HI HGet hc
          go_wp2_with fail
          go_meet
          exact ⟨rfl, x, Lib.hid (HFt.out.more hk150 hk150), HFi, HW⟩
        · have hk1 : ¬ (k : Int) < (n : Int) := by omega
          clear HI HGet hc
          go_wp2_with fail
          go_meet
          exact ⟨rfl, x, Lib.hid (HFt.out.more hk150 hk150), HFi, HW⟩
  case rest =>
  clear HW HFt0 HFi0 HI HGet
  obtain ⟨rfl, x, HFt, HFi, HW⟩ := hcut
  obtain ⟨Aa, Ab, Aw, As, Ak, Ag, Ah, na, nb, nw, ns, nk, ng, nh, ca, cb, cw, cs, ck, cg, ch, S, ⟨ena, enb, enw, ens, enk, eng, enh⟩, eS, hK⟩ := HW.out
  have hs1 : 1 ≤ ns := by have := HFt.out.s1; omega
  have hs2 : ns ≤ 151 := by have := HFt.out.sn; omega
  have hg1 : ng ≤ 150 := by have := HFt.out.gt; omega
  have HG0 := Lib.hid (HFi.out.ends (by omega))
  have HSr : Hid (∀ r ∈ S, r.l.length ≤ 150) := Lib.hid fun r hr => HFt.out.sr r.l (by rw [← eS]; exact List.mem_map_of_mem (f := fun x : Rw => x.l) hr)
  have HS : Hid (S.map (·.l) = x.sent ∧ S.length = ns) := Lib.hid ⟨eS, by rw [ens, ← eS, List.length_map]⟩
  have HNg := Lib.hid eng
  obtain ⟨gs, rfl⟩ := hK.someR 3 rfl (by rw [List.length_map, HS.out.2]; omega)
  have HK := Lib.hid hK
  clear hK ena enb enw ens enk eng enh eS HFt HFi HW
  go_wp2_with fail
  go_loopw [9, 10, 11] (fun vat vinc _ wr => ∃ (inc at_ : Nat), inc ≤ ns ∧ at_ ≤ ng ∧ vat = .int .i64 at_ ∧ vinc = .int .i64 inc ∧ Hid (Lnk.Wr.greedy (x.sent.drop inc) x.got at_ = x.got.length) ∧ Hid (Kn w.heap.size w wr [(g, 52, wC (.slice Aa na ca) (.slice Ab nb cb) (.slice Aw nw cw) (.slice (some ⟨gs, 0, none⟩) ns cs) (.slice Ak nk ck) (.slice Ag ng cg) (.slice Ah nh ch) x.a x.b x.win x.ret)] (row strLay (.slice Aa na ca) x.a.out :: row strLay (.slice Ab nb cb) x.b.out :: row pktLay (.slice Aw nw cw) x.way :: row hdLay (.slice (some ⟨gs, 0, none⟩) ns cs) (S.map Rw.hd) :: row strLay (.slice Ak nk ck) x.back :: row strLay (.slice Ag ng cg) x.got :: row strLay (.slice Ah nh ch) x.gotA :: S.map Rw.row))) (fun _ vinc _ _ => ns - (intOf vinc).toNat)
  case atStart => exact ⟨0, 0, Nat.zero_le _, Nat.zero_le _, rfl, rfl, HG0, HK⟩
  case round =>
    clear HK HG0
    obtain ⟨inc, at0, hin, hat, rfl, rfl, HG, HK⟩ := hrel
    have hinc0 : (0 : Int) ≤ (inc : Int) := by omega
    by_cases hlt : inc < ns
    · have hi1 : (inc : Int) < (ns : Int) := by omega
      obtain ⟨⟨rA, rc, rl⟩, hr⟩ : ∃ r, S[inc]? = some r := Lay.get_of (by rw [HS.out.2]; exact hlt)
      have hrl := HSr.out _ (List.mem_of_getElem? hr)
      simp only at hrl
      have hsent : x.sent[inc]? = some rl := by rw [← HS.out.1, List.getElem?_map, hr]; rfl
      have HG' := Lib.hid ((greedy_step hsent x.got at0).symm.trans HG.out)
      obtain ⟨nr, hnr⟩ : ∃ nr, nr = rl.length := ⟨_, rfl⟩
      have HHd : Hid ((S.map Rw.hd)[inc]? = some ⟨rA, nr, rc⟩) := Lib.hid (by rw [List.getElem?_map, hr, hnr]; rfl)
      have HHr : Hid ((S.map Rw.row)[inc]? = some (row strLay (.slice rA nr rc) rl)) := Lib.hid (by rw [List.getElem?_map, hr, hnr]; rfl)
      rw [← hnr] at hrl
      have HNr := Lib.hid hnr
      obtain ⟨E, hE⟩ : ∃ E, E = at0 + Lnk.Wr.common rl (x.got.drop at0) := ⟨_, rfl⟩
      rw [← hE] at HG'
      have HE : Hid (at0 + Lnk.Wr.common (rl.drop 0) (x.got.drop at0) = E) := Lib.hid hE.symm
      have hEn : E ≤ ng := by
        have h1 := common_le rl (x.got.drop at0)
        rw [List.length_drop, ← HNg.out] at h1
        omega
      clear hnr hE hr hsent HG
      go_wp2_with (first | refine wpList_of_exec (by rfl) (kexec_ch HK 0 _ rfl rfl rfl rfl) ?_)
      go_loopw [9, 11] (fun vat vk wr => ∃ (at_ k : Nat), at_ ≤ ng ∧ k ≤ nr ∧ vat = .int .i64 at_ ∧ vk = .int .i64 k ∧ Hid (at_ + Lnk.Wr.common (rl.drop k) (x.got.drop at_) = E) ∧ Hid (Kn w.heap.size w wr [(g, 52, wC (.slice Aa na ca) (.slice Ab nb cb) (.slice Aw nw cw) (.slice (some ⟨gs, 0, none⟩) ns cs) (.slice Ak nk ck) (.slice Ag ng cg) (.slice Ah nh ch) x.a x.b x.win x.ret)] (row strLay (.slice Aa na ca) x.a.out :: row strLay (.slice Ab nb cb) x.b.out :: row pktLay (.slice Aw nw cw) x.way :: row hdLay (.slice (some ⟨gs, 0, none⟩) ns cs) (S.map Rw.hd) :: row strLay (.slice Ak nk ck) x.back :: row strLay (.slice Ag ng cg) x.got :: row strLay (.slice Ah nh ch) x.gotA :: S.map Rw.row))) (fun _ vk _ => nr - (intOf vk).toNat)
      case atStart => exact ⟨at0, 0, hat, Nat.zero_le _, rfl, rfl, HE, HK⟩
      case round =>
        clear HK HE
        obtain ⟨at_, k, hat', hk, rfl, rfl, HE, HK⟩ := hrel
        have hk0 : (0 : Int) ≤ (k : Int) := by omega
        have ha0 : (0 : Int) ≤ (at_ : Int) := by omega
        have hinc2 : (inc : Int) < (ns : Int) := by omega
        have c17 := HK.out.cell 0 rfl 17 (v := .slice (some ⟨gs, 0, none⟩) ns cs) rfl
        have c19 := HK.out.cell 0 rfl 19 (v := .slice Ag ng cg) rfl
        have ch0 := at_hd (HK.out.atR 3 rfl HHd.out).out
        simp only [Nat.zero_add] at ch0
        by_cases h1 : k < nr
        · have d1 : decide ((k : Int) < (nr : Int)) = true := by simp; omega
          by_cases h2 : at_ < ng
          · have d2 : decide ((at_ : Int) < (ng : Int)) = true := by simp; omega
            have d1' : (k : Int) < (nr : Int) := by omega
            have d2' : (at_ : Int) < (ng : Int) := by omega
            obtain ⟨b, hb⟩ : ∃ b, rl[k]? = some b := Lay.get_of (by rw [← HNr.out]; exact h1)
            obtain ⟨c, hc⟩ : ∃ c, x.got[at_]? = some c := Lay.get_of (by rw [← HNg.out]; exact h2)
            obtain ⟨gr, rfl⟩ := HK.out.someR (inc + 7) HHr.out (by rw [← HNr.out]; omega)
            obtain ⟨gg, rfl⟩ := HK.out.someR 5 rfl (by rw [← HNg.out]; omega)
            have cb1 := at_str (HK.out.atR (inc + 7) HHr.out hb).out
            have cc1 := at_str (HK.out.atR 5 rfl hc).out
            simp only [Nat.zero_add] at cb1 cc1
            have hst := common_step hb hc
            by_cases hbc : c = b
            · subst hbc
              rw [if_pos rfl] at hst
              have HE' : Hid (at_ + 1 + Lnk.Wr.common (rl.drop (k + 1)) (x.got.drop (at_ + 1)) = E) := Lib.hid (by have := HE.out; omega)
              clear hst hb hc HE
              go_wp2_with fail
              go_quiet (fail)
              go_wp2_with fail
              exact ⟨⟨at_ + 1, k + 1, by omega, by omega, by go_num, by go_num, HE', Lib.hid (HK.out.drewN _)⟩, by simp [intOf]; omega⟩
            · rw [if_neg hbc] at hst
              have hne : (c.toList == b.toList) = false := by
                have : ¬ c.toList = b.toList := fun e => hbc (bytesExt e)
                simpa using this
              have hEa : at_ = E := by have := HE.out; omega
              subst hEa
              clear hst hb hc HE
              go_wp2_with fail
              go_quiet (fail)
              go_wp2_with fail
              exact ⟨⟨inc + 1, at_, by omega, by omega, rfl, by go_num, HG', Lib.hid (HK.out.drewN _)⟩, by simp [intOf]; omega⟩
          · have d2 : decide ((at_ : Int) < (ng : Int)) = false := by simp; omega
            have hEa : at_ = E := by have := HE.out; rw [common_end2 (by rw [← HNg.out]; omega)] at this; omega
            subst hEa
            clear HE
            go_wp2_with fail
            go_quiet (fail)
            go_wp2_with fail
            exact ⟨⟨inc + 1, at_, by omega, by omega, rfl, by go_num, HG', Lib.hid (HK.out.drewN _)⟩, by simp [intOf]; omega⟩
        · have d1 : decide ((k : Int) < (nr : Int)) = false := by simp; omega
          have hEa : at_ = E := by have := HE.out; rw [common_end1 (by rw [← HNr.out]; omega)] at this; omega
          subst hEa
          clear HE
          go_wp2_with fail
          go_quiet (fail)
          go_wp2_with fail
          exact ⟨⟨inc + 1, at_, by omega, by omega, rfl, by go_num, HG', Lib.hid (HK.out.drewN _)⟩, by simp [intOf]; omega⟩
    · obtain rfl : inc = ns := by omega
      have hall : x.sent.drop inc = [] := List.drop_eq_nil_of_le (by rw [← HS.out.1, List.length_map, HS.out.2]; exact Nat.le_refl _)
      have hat2 : at0 = ng := by
        have := HG.out
        rw [hall] at this
        rw [HNg.out, ← this]
        rfl
      subst hat2
      clear hall HG
      go_wp2_with (first | refine wpList_of_exec (by rfl) (kexec_ch HK 0 _ rfl rfl rfl rfl) ?_)
      refine (HAw.out _).mono ?_; rintro e w3 ⟨rfl, b3⟩
      replace HK := Lib.hid (HK.out.call b3)
      go_wp2_with (first | refine wpList_kcv HK 0 rfl _ rfl rfl rfl rfl ?_)
      go_ret
      exact ⟨rfl, HK.out.b⟩
end Go.Proofs.Ytamjcghdebjpjaa
