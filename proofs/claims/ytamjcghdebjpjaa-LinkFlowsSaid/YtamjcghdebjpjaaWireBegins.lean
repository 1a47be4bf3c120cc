/-
  begins returns true of a beginning.
  No condition but the form's reach.
-/
import Derived.Test.YtamjcghdebjpjaaWireLay
import Derived.Test.YtamjcghdebjpjaaLnkMeet
set_option linter.unusedSimpArgs false
set_option linter.unusedVariables false
namespace Go.Proofs.Ytamjcghdebjpjaa
open Go.RowKit

set_option maxHeartbeats 3200000 in
theorem begins_any (A A' : Option Addr) (c c' n n' : Nat) (l m : List ByteArray) (w : World) (hn : l.length = n) (hn' : m.length = n') (hp : l <+: m) (hl : n' ≤ 5000000) (hi : strLay.Reads w w.heap.size A l) (hi' : strLay.Reads w w.heap.size A' m) :
    Calls Try.prog 17 #[.slice A n c, .slice A' n' c'] w fun en w' => en = .returned (.bool true) ∧ Below w.heap.size w w' := by
  have HI := Lib.hid hi
  have HI' := Lib.hid hi'
  have hle : n ≤ n' := by rw [← hn, ← hn']; exact hp.length_le
  have HGo : Hid (∀ k, k < n → ∃ b, l[k]? = some b ∧ m[k]? = some b) := Lib.hid fun k hk => by
    obtain ⟨b, hb⟩ := Lay.get_of (l := l) (k := k) (by omega)
    obtain ⟨r, rfl⟩ := hp
    exact ⟨b, hb, by rw [List.getElem?_append_left (by omega)]; exact hb⟩
  have HN := Lib.hid hn
  have HN' := Lib.hid hn'
  clear hi hi' hn hn' hp
  have HK := Lib.hid (Kn.start w)
  have hng : ¬ (n' : Int) < (n : Int) := by omega
  go_enter Try.func17, Try.ntmps17
  go_wp2_with fail
  go_loopw [5] (fun vi wr => ∃ k : Nat, k ≤ n ∧ vi = .int .i64 k ∧ Hid (Kn w.heap.size w wr [] [])) (fun vi _ => n - (intOf vi).toNat)
  case atStart => exact ⟨0, Nat.zero_le _, rfl, HK⟩
  case round =>
    clear HK
    obtain ⟨k, hk, rfl, HK⟩ := hrel
    have HB := HK.out.b
    by_cases hlt : k < n
    · obtain ⟨p, hp, hp'⟩ := HGo.out k hlt
      obtain ⟨b, o, rfl, hb, hc⟩ := HI.out (by rw [HN.out]; omega)
      obtain ⟨b', o', rfl, hb', hc'⟩ := HI'.out (by rw [HN'.out]; omega)
      have c0 := at_str ((hc k p hp).keep fun q hq => HB.cell (by rw [hq]; exact hb))
      have d0 := at_str ((hc' k p hp').keep fun q hq => HB.cell (by rw [hq]; exact hb'))
      have hk1 : (0 : Int) ≤ (k : Int) := by omega
      have hk2 : (k : Int) < (n : Int) := by omega
      have hk3 : (k : Int) < (n' : Int) := by omega
      clear hc hc' hp hp' hb hb' HB
      go_wp2_with fail
      go_quiet (fail)
      go_wp2_with fail
      exact ⟨⟨k + 1, by omega, by go_num, Lib.hid (HK.out.drewN _)⟩, by simp [intOf]; omega⟩
    · obtain rfl : k = n := by omega
      go_wp2_with fail
      go_ret
      exact ⟨rfl, HK.out.b⟩
end Go.Proofs.Ytamjcghdebjpjaa
