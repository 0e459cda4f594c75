/- appendNum and PutNum, the program's and the document's own. -/
import Derived.Test.YtgdmhfdlijeogaaBytes
namespace Go.Proofs.Ytgdmhfdlijeogaa.put
set_option linter.unusedVariables false
set_option linter.unusedSimpArgs false
open Go.RowKit Go.Proofs.Ytgdmhfdlijeogaa.base Go.Proofs.Ytgdmhfdlijeogaa.tm Go.Proofs.Ytgdmhfdlijeogaa.sevens Go.Proofs.Ytgdmhfdlijeogaa.bytes

def hib (m : Nat) : UInt8 := UInt8.ofNat (m % 128 + 128)
theorem or_val (m : Nat) : bits BinOp.or IntKind.u8 ((m : Int) % 256) 128 = ((hib m).toNat : Int) := by
  rw [hib, ofNat_to (by omega), show (m : Int) % 256 = ((m % 256 : Nat) : Int) from rfl, show ((128 : Int)) = ((128 : Nat) : Int) from rfl, u8_or_nat _ _ (by omega) (by omega)]
  congr 1
  have h : m % 256 = m % 128 + m % 256 / 128 * 128 := by omega
  by_cases h1 : 128 ≤ m % 256
  · have e : m % 256 = 2 ^ 7 ||| m % 128 := by
      rw [nat_join 7 _ _ (by decide) (by omega)]; omega
    rw [e, Nat.or_comm (2 ^ 7), Nat.or_assoc, show (2 : Nat) ^ 7 ||| 128 = 128 from by decide, Nat.or_comm, nat_join 7 _ _ (by decide) (by omega), Nat.add_comm]
  · rw [show m % 256 = m % 128 from by omega, Nat.or_comm, nat_join 7 _ _ (by decide) (by omega), Nat.add_comm]
theorem add_val (m : Nat) : ((m : Int) % 128 + 128) = ((hib m).toNat : Int) := by
  rw [hib, ofNat_to (by omega)]; omega
theorem low_val {m : Nat} (h : ¬ 128 ≤ m) : (m : Int) = ((UInt8.ofNat m).toNat : Int) := by rw [ofNat_to (by omega)]

theorem lay {p : Prop} (h : p) : Hid p := h

def Head (B : Nat) (w0 : World) (S : Nat) (l : List UInt8) (n : Nat) (v x : Value) (wr : World) : Prop :=
  ∃ (m : Nat) (l' : List UInt8), Ext B w0 wr v l' ∧ B ≤ wr.heap.size ∧ S ≤ wr.heap.size ∧ m < 18446744073709551616 ∧ x = .int .u64 m ∧ Hid (l ++ putL n = l' ++ putL m) ∧ l'.length + (putL m).length ≤ l.length + 10

theorem head_next {B : Nat} {w0 : World} {S n m : Nat} {l l' : List UInt8} {v : Value} {wr w1 : World} (hE : Ext B w0 w1 v (l' ++ [hib m])) (hB : B ≤ wr.heap.size) (hS : S ≤ wr.heap.size) (hz : wr.heap.size ≤ w1.heap.size)
    (hm : m < 18446744073709551616) (h : 128 ≤ m) (HL : l ++ putL n = l' ++ putL m) (hlen : l'.length + (putL m).length ≤ l.length + 10) :
    Head B w0 S l n v (.int .u64 ((m : Int) / 128)) w1 := by
  rw [putL_hi (n := m) (by omega)] at HL hlen
  refine ⟨m / 128, _, hE, by omega, by omega, by omega, rfl, lay (by rw [HL, List.append_assoc]; rfl), ?_⟩
  simp only [List.length_append, List.length_cons, List.length_nil] at hlen ⊢
  omega

set_option maxRecDepth 100000 in
set_option maxHeartbeats 400000 in
theorem appendNum_any (B : Nat) (v : Value) (l : List UInt8) (n : Nat) (w0 w : World) (hE : Ext B w0 w v l) (hB : B ≤ w.heap.size) (hn : n < 18446744073709551616) (hl : l.length + 20 ≤ 140737488355328) :
    Calls Try.prog 43 #[v, .int .u64 n] w fun e w' => ∃ v', e = .returned v' ∧ Ext B w0 w' v' (l ++ putL n) ∧ w.heap.size ≤ w'.heap.size := by
  have hp := putL_ten hn
  go_enter Try.func43, Try.ntmps43
  go_wp2_with fail
  go_loopw [0, 1] (fun v x wr => Head B w0 w.heap.size l n v x wr) (fun _ x _ => (intOf x).toNat)
  case atStart => exact ⟨n, l, hE, hB, Nat.le_refl _, hn, rfl, rfl, by omega⟩
  case round =>
    obtain ⟨m, l', hE', hB', hS, hm, rfl, HL, hlen⟩ := hrel
    have hm1 := (putL_ten hm).1
    by_cases hlt : 128 ≤ m
    · go_wp2_with (at_builtin; refine wpList_append_u8 rfl _ _ rfl rfl hE' hB' _ (hib m) ?c1 rfl rfl ?c2 ?next)
      case c1 => exact or_val m
      case c2 => omega
      case next =>
        intro v1 w1 hE1 hsz
        go_wp2_with fail
        exact ⟨head_next hE1 hB' hS hsz hm hlt HL.out hlen, by simp [intOf]; omega⟩
    · go_wp2_with (at_builtin; refine wpList_append_u8 rfl _ _ rfl rfl hE' hB' _ (UInt8.ofNat m) ?d1 rfl rfl ?d2 ?next)
      case d1 => exact low_val hlt
      case d2 => omega
      case next =>
        intro v1 w1 hE1 hsz
        go_wp2_with fail
        go_ret
        refine ⟨v1, rfl, ?_, by omega⟩
        rw [HL.out, putL_lo (by omega)]
        exact hE1

theorem empty_row (w : World) : Ext w.heap.size w (w.alloc (.cells #[] 5)) (.slice (some ⟨w.heap.size, 0, none⟩) 0 0) [] :=
  ⟨⟨rfl, .inr ⟨w.heap.size, 0, #[], rfl, Nat.le_refl _, heap_alloc_new w _, Nat.le_refl _, Nat.zero_le _, rfl, rfl⟩⟩, (Below.refl _ _).alloc (Nat.le_refl _) _, fun _ _ _ _ h => h.alloc _⟩

set_option maxRecDepth 100000 in
set_option maxHeartbeats 400000 in
theorem refPutNum_any (n : Nat) (w : World) (hn : n < 18446744073709551616) :
    Calls Try.prog 38 #[.int .u64 n] w fun e w' => e = .returned (.string ⟨(putL n).toArray⟩) ∧ Below w.heap.size w w' := by
  have hp := putL_ten hn
  go_enter Try.func38, Try.ntmps38
  go_wp2_with fail
  go_loopw [3, 0] (fun v x wr => Head w.heap.size w 0 [] n v x wr) (fun _ x _ => (intOf x).toNat)
  case atStart => exact ⟨n, [], empty_row w, by simp, Nat.zero_le _, hn, rfl, rfl, by simp; omega⟩
  case round =>
    obtain ⟨m, l', hE', hB', hS, hm, rfl, HL, hlen⟩ := hrel
    have hm1 := (putL_ten hm).1
    simp only [List.length_nil] at hlen
    by_cases hlt : 128 ≤ m
    · have hgt : 127 < m := by omega
      go_wp2_with (at_builtin; refine wpList_append_u8 rfl _ _ rfl rfl hE' hB' _ (hib m) ?c1 rfl rfl ?c2 ?next)
      case c1 => exact add_val m
      case c2 => omega
      case next =>
        intro v1 w1 hE1 hsz
        go_wp2_with fail
        exact ⟨head_next hE1 hB' (by omega) hsz hm hlt HL.out (by simpa using hlen), by simp [intOf]; omega⟩
    · have hgt : m ≤ 127 := by omega
      go_wp2_with (at_builtin; refine wpList_append_u8 rfl _ _ rfl rfl hE' hB' _ (UInt8.ofNat m) ?d1 rfl rfl ?d2 ?next)
      case d1 => exact low_val hlt
      case d2 => omega
      case next =>
        intro v1 w1 hE1 hsz
        have hc := hE1.string
        go_wp2_with fail
        go_ret
        have hL := HL.out
        rw [List.nil_append, putL_lo (n := m) (by omega)] at hL
        rw [hL]
        exact ⟨rfl, hE1.below⟩
end Go.Proofs.Ytgdmhfdlijeogaa.put
