/- The document's own Insert. -/
import Derived.Test.YtjlglfjikfpboaaIn
import Derived.Test.YtjlglfjikfpboaaGatherB


namespace Go.Proofs.Ytjlglfjikfpboaa.texts
set_option linter.unusedVariables false
set_option linter.unusedSimpArgs false
open Go.RowKit Go.Proofs.Ytjlglfjikfpboaa.base Go.Proofs.Ytjlglfjikfpboaa.tm Go.Proofs.Ytjlglfjikfpboaa.lies Go.Proofs.Ytjlglfjikfpboaa.rights

def ba (x : List UInt8) : ByteArray := ⟨x.toArray⟩
def bas (l : List (List UInt8)) : List ByteArray := l.map ba
theorem bas_len (l : List (List UInt8)) : (bas l).length = l.length := by simp [bas]
theorem bas_snoc (l : List (List UInt8)) (x : List UInt8) : bas (l ++ [x]) = bas l ++ [⟨x.toArray⟩] := by simp [bas, ba]
/-- what is put in: done is whether it has been -/
def insD (s : List UInt8) : List (List UInt8) → Bool → List (List UInt8)
  | [], d => if d then [] else [s]
  | x :: r, d => if d then x :: insD s r true else if s = x then x :: insD s r true else if s < x then s :: x :: insD s r true else x :: insD s r false
theorem insD_done (s : List UInt8) (l : List (List UInt8)) : insD s l true = l := by
  induction l with
  | nil => rfl
  | cons x r ih => simp [insD, ih]

theorem empty_texts (w : World) : ExtS w.heap.size w (w.alloc (.cells #[] 9)) (.slice (some ⟨w.heap.size, 0, none⟩) 0 0) [] :=
  ⟨⟨rfl, .inr ⟨w.heap.size, 0, #[], rfl, Nat.le_refl _, heap_alloc_new w _, Nat.le_refl _, Nat.zero_le _, rfl, rfl⟩⟩, (Below.refl _ _).alloc (Nat.le_refl _) _, fun _ _ _ _ h => h.alloc _⟩

theorem ExtS.txt {B : Nat} {W w : World} {v : Value} {l : List (List UInt8)} (h : ExtS B W w v (bas l)) (hl : l.length ≤ 140737488355328) : Txt w B v l := by
  rcases h.own.2 with ⟨rfl, h0⟩ | ⟨g, cap, cur, rfl, hbase, hb, h1, h2, h3, h4⟩
  · rw [bas_len] at h0
    obtain rfl : l = [] := List.eq_nil_of_length_eq_zero h0
    exact ⟨none, 0, rfl, Nat.zero_le _, fun j hj => absurd hj (Nat.not_lt_zero _)⟩
  · have hg := (Array.getElem?_eq_some_iff.1 hb).1
    have e : sts (bas l) = l.map encStr := by simp [sts, bas, ba]
    have ht : cur.toList.take l.length = l.map encStr := by rw [← e, ← h4, bas_len, Nat.mul_one]
    have hH := holds_of_block hb ht
    rw [bas_len]
    refine ⟨some ⟨g, 0, none⟩, cap, rfl, hl, fun j hj => ⟨g, rfl, hbase, hg, ?_⟩⟩
    have := (hH j (by simpa using hj)).1
    rw [Nat.zero_add] at this
    rw [this]
    simp [hj]

/-- at the loop's head -/
def NHead (W : World) (ts : List (List UInt8)) (s : List UInt8) (u d i : Value) (wr : World) : Prop :=
  ∃ (j : Nat) (out : List (List UInt8)) (b : Bool), j ≤ ts.length ∧ i = .int .i64 j ∧ d = .bool b ∧ out.length ≤ j + b.toNat ∧ W.heap.size ≤ wr.heap.size ∧ ExtS W.heap.size W wr u (bas out) ∧ Hid (insD s ts false = out ++ insD s (ts.drop j) b)

set_option maxRecDepth 100000 in
set_option maxHeartbeats 1000000 in
theorem insert_any (v : Value) (lo : Nat) (ts : List (List UInt8)) (s : List UInt8) (w : World) (hT : Txt w lo v ts) (hn : ts.length ≤ 4000000) :
    Calls Try.prog 82 #[v, .string ⟨s.toArray⟩] w fun e w' => ∃ v', e = .returned v' ∧ Below w.heap.size w w' ∧ Txt w' w.heap.size v' (insD s ts false) := by
  obtain ⟨A, c, rfl, hlen, hT⟩ := hT
  have HT := lay hT
  clear hT
  go_enter Try.func82, Try.ntmps82
  go_wp2_with fail
  go_loopw [5, 6, 12] (fun u d i wr => NHead w ts s u d i wr) (fun _ _ i _ => ts.length - (intOf i).toNat)
  case atStart => exact ⟨0, [], false, Nat.zero_le _, rfl, rfl, by simp, by simp, empty_texts w, lay rfl⟩
  case round =>
    obtain ⟨j, out, b, hj, rfl, rfl, hol, hsz, hE, HI⟩ := hrel
    have hbl := bas_len out
    by_cases hlt : j < ts.length
    · obtain ⟨g, rfl, hlo, hg, hcell0⟩ := HT.out j hlt
      have hcell : wr.cell? ⟨g, j, none⟩ = some (.string ⟨ts[j].toArray⟩) := (hE.below.cell (p := ⟨g, j, none⟩) hg).trans hcell0
      have hdr : ts.drop j = ts[j] :: ts.drop (j + 1) := List.drop_eq_getElem_cons hlt
      rw [hdr] at HI
      clear hdr hcell0
      cases b with
      | true =>
        simp only [Bool.toNat_true] at hol
        have HJ := lay (show insD s ts false = (out ++ [ts[j]]) ++ insD s (ts.drop (j + 1)) true by rw [HI.out]; simp [insD])
        clear HI
        go_wp2_with (at_builtin; refine wpList_append_text rfl _ _ rfl rfl hE hsz ⟨ts[j].toArray⟩ rfl rfl (by omega) ?next)
        case next =>
          intro v1 w1 hE1 hz1
          rw [← bas_snoc] at hE1
          go_wp2_with fail
          exact ⟨⟨j + 1, _, true, hlt, by go_num, rfl, by simp; omega, by omega, hE1, HJ⟩, by simp [intOf]; omega⟩
      | false =>
        simp only [Bool.toNat_false] at hol
        by_cases heq : s = ts[j]
        · have e1 : Op.bytesLess s ts[j] = false := by rw [bytesLess_eq, heq]; exact decide_eq_false (List.lt_irrefl _)
          have e2 : (s == ts[j]) = true := by simpa using heq
          have HJ := lay (show insD s ts false = (out ++ [ts[j]]) ++ insD s (ts.drop (j + 1)) true by rw [HI.out]; simp [insD, heq])
          clear HI heq
          go_wp2_with (at_builtin; refine wpList_append_text rfl _ _ rfl rfl hE hsz ⟨ts[j].toArray⟩ rfl rfl (by omega) ?next)
          case next =>
            intro v1 w1 hE1 hz1
            rw [← bas_snoc] at hE1
            go_wp2_with fail
            exact ⟨⟨j + 1, _, true, hlt, by go_num, rfl, by simp; omega, by omega, hE1, HJ⟩, by simp [intOf]; omega⟩
        · by_cases hls : s < ts[j]
          · have e1 : Op.bytesLess s ts[j] = true := by rw [bytesLess_eq]; exact decide_eq_true hls
            have HJ := lay (show insD s ts false = (out ++ [s] ++ [ts[j]]) ++ insD s (ts.drop (j + 1)) true by rw [HI.out]; simp [insD, heq, hls])
            clear HI heq hls
            go_wp2_with (at_builtin; refine wpList_append_text rfl _ _ rfl rfl hE hsz ⟨s.toArray⟩ rfl rfl (by omega) ?next)
            case next =>
              intro v1 w1 hE1 hz1
              rw [← bas_snoc] at hE1
              have hl1 := bas_len (out ++ [s])
              have hl2 : (out ++ [s]).length = out.length + 1 := by simp
              go_wp2_with (at_builtin; refine wpList_append_text rfl _ _ rfl rfl hE1 (by omega) ⟨ts[j].toArray⟩ rfl rfl (by omega) ?next2)
              case next2 =>
                intro v2 w2 hE2 hz2
                rw [← bas_snoc] at hE2
                go_wp2_with fail
                exact ⟨⟨j + 1, _, true, hlt, by go_num, rfl, by simp; omega, by omega, hE2, HJ⟩, by simp [intOf]; omega⟩
          · have e1 : Op.bytesLess s ts[j] = false := by rw [bytesLess_eq]; exact decide_eq_false hls
            have e2 : (s == ts[j]) = false := by simpa using heq
            have HJ := lay (show insD s ts false = (out ++ [ts[j]]) ++ insD s (ts.drop (j + 1)) false by rw [HI.out]; simp [insD, heq, hls])
            clear HI heq hls
            go_wp2_with (at_builtin; refine wpList_append_text rfl _ _ rfl rfl hE hsz ⟨ts[j].toArray⟩ rfl rfl (by omega) ?next)
            case next =>
              intro v1 w1 hE1 hz1
              rw [← bas_snoc] at hE1
              go_wp2_with fail
              exact ⟨⟨j + 1, _, false, hlt, by go_num, rfl, by simp; omega, by omega, hE1, HJ⟩, by simp [intOf]; omega⟩
    · rw [List.drop_of_length_le (by omega)] at HI
      cases b with
      | true =>
        simp only [Bool.toNat_true] at hol
        have HJ := lay (show insD s ts false = out by rw [HI.out]; simp [insD])
        clear HI
        go_wp2_with fail
        go_ret
        rw [HJ.out]
        exact ⟨_, rfl, hE.below, hE.txt (by omega)⟩
      | false =>
        simp only [Bool.toNat_false] at hol
        have HJ := lay (show insD s ts false = out ++ [s] by rw [HI.out]; simp [insD])
        clear HI
        go_wp2_with (at_builtin; refine wpList_append_text rfl _ _ rfl rfl hE hsz ⟨s.toArray⟩ rfl rfl (by omega) ?next)
        case next =>
          intro v1 w1 hE1 hz1
          rw [← bas_snoc] at hE1
          go_wp2_with fail
          go_ret
          rw [HJ.out]
          exact ⟨_, rfl, hE1.below, hE1.txt (by simp; omega)⟩
end Go.Proofs.Ytjlglfjikfpboaa.texts
