/- The program's reader of terms: terms, given what term does. -/
import Derived.Test.YtgdmhfdlijeogaaBuilt
import Derived.Test.YtgdmhfdlijeogaaReadAtom
namespace Go.Proofs.Ytgdmhfdlijeogaa.reads
set_option linter.unusedVariables false
set_option linter.unusedSimpArgs false
open Go.RowKit Go.Proofs.Ytgdmhfdlijeogaa.base Go.Proofs.Ytgdmhfdlijeogaa.tm Go.Proofs.Ytgdmhfdlijeogaa.lies Go.Proofs.Ytgdmhfdlijeogaa.rights Go.Proofs.Ytgdmhfdlijeogaa.copies Go.Proofs.Ytgdmhfdlijeogaa.built

def Fits (t : T) : Prop := (-9223372036854775808 ≤ t.k ∧ t.k ≤ 9223372036854775807) ∧ (0 ≤ t.n ∧ t.n < 18446744073709551616) ∧ t.s.size ≤ maxLen

/-- what term leaves -/
def TPost (W : World) (g b : Nat) (r : Res T) (e : Ending) (w' : World) : Prop :=
  W.grownBy w' (some g) ∧ match r with
  | .bad err => err ≠ 0 ∧ ∃ (s' : ByteArray) (b' : Nat) (k n : Int) (z : ByteArray) (A : Option Addr) (m c : Nat), Rdr w' g s' b' ∧ e = .returned (.tuple #[.agg #[.int .i64 k, .int .u64 n, .string z, .slice A m c], .int .i64 err])
  | .ok t r b' => ∃ (s' : ByteArray) (A : Option Addr) (c : Nat), Rdr w' g s' b' ∧ s'.data.toList = r ∧ s'.size ≤ maxLen ∧ b < b' ∧ b' ≤ 4000 ∧
      e = .returned (.tuple #[.agg #[.int .i64 t.k, .int .u64 t.n, .string t.s, .slice A t.l.length c], .int .i64 0]) ∧ Held w' W.heap.size w'.heap.size t.l (.slice A t.l.length c) ∧ Fits t
/-- what terms leaves -/
def MPost (W : World) (g b : Nat) (r : Res (List T)) (e : Ending) (w' : World) : Prop :=
  W.grownBy w' (some g) ∧ match r with
  | .bad err => err ≠ 0 ∧ ∃ (s' : ByteArray) (b' : Nat), Rdr w' g s' b' ∧ e = .returned (.tuple #[.slice none 0 0, .int .i64 err])
  | .ok l r b' => ∃ (s' : ByteArray) (A : Option Addr) (c : Nat), Rdr w' g s' b' ∧ s'.data.toList = r ∧ s'.size ≤ maxLen ∧ b ≤ b' ∧ b' ≤ 4000 ∧
      e = .returned (.tuple #[.slice A l.length c, .int .i64 0]) ∧ Held w' W.heap.size w'.heap.size l (.slice A l.length c)

def TermAt (d : Nat) : Prop := ∀ (g b : Nat) (s : ByteArray) (x : Int) (w : World), Rdr w g s b → b ≤ 4000 → s.size ≤ maxLen → x = 12 - (d : Int) → d ≤ 12 →
  Calls Try.prog 39 #[.pointer (some ⟨g, 0, none⟩), .int .i64 x] w (TPost w g b (readT d s.data.toList b))

theorem grown_alloc' {a b : World} {row : Option Nat} (h : a.grownBy b row) (o : Obj) : a.grownBy (b.alloc o) row := grown_below h ((Below.refl _ _).alloc (Nat.le_refl _) o)
theorem grown_low {a b c : World} {row : Option Nat} (h : a.grownBy b row) (k : Below a.heap.size b c) : a.grownBy c row :=
  ⟨k.os.trans h.os, k.tape.trans h.tape, k.output.trans h.output, Nat.le_trans h.size k.size, fun i hi hr => (k.block i hi).trans (h.block i hi hr)⟩
def prep (l : List T) : Res (List T) → Res (List T)
  | .bad e => .bad e
  | .ok l' r b => .ok (l ++ l') r b
theorem many_bad {f : List UInt8 → Nat → Res T} {n m : Nat} {s s' : List UInt8} {b b' : Nat} {l : List T} {err : Int} (h : many f n s b = prep l (many f (m + 1) s' b')) (hq : f s' b' = .bad err) : many f n s b = .bad err := by
  rw [h, many, hq]; rfl
theorem many_ok {f : List UInt8 → Nat → Res T} {n m : Nat} {s s' r : List UInt8} {b b' b2 : Nat} {l : List T} {t : T} (h : many f n s b = prep l (many f (m + 1) s' b')) (hq : f s' b' = .ok t r b2) : many f n s b = prep (l ++ [t]) (many f m r b2) := by
  rw [h, many, hq]
  cases hm : many f m r b2 with
  | bad e => simp only [hm, prep]
  | ok l2 r2 b3 => simp only [hm, prep, List.append_assoc, List.singleton_append]
theorem many_end {f : List UInt8 → Nat → Res T} {n : Nat} {s s' : List UInt8} {b b' : Nat} {l : List T} (h : many f n s b = prep l (many f 0 s' b')) : many f n s b = .ok l s' b' := by
  rw [h, many, prep, List.append_nil]

/-- at the loop's head -/
def MHead (W : World) (g b n d : Nat) (s0 : List UInt8) (v i : Value) (wr : World) : Prop :=
  ∃ (l : List T) (s' : ByteArray) (b' : Nat), i = .int .u64 l.length ∧ l.length ≤ n ∧ Built W.heap.size wr l v ∧ Rdr wr g s' b' ∧ b + l.length ≤ b' ∧ b' ≤ 4000 ∧ s'.size ≤ maxLen ∧ W.grownBy wr (some g) ∧
    Hid (many (readT d) n s0 b = prep l (many (readT d) (n - l.length) s'.data.toList b'))

set_option maxRecDepth 100000 in
set_option maxHeartbeats 400000 in
theorem terms_any (d : Nat) (hT : TermAt d) (hd : d ≤ 12) (g b n : Nat) (s : ByteArray) (x : Int) (w : World) (hR : Rdr w g s b) (hb4 : b ≤ 4000) (hs : s.size ≤ maxLen) (hx : x = 12 - (d : Int)) (hn : n < 18446744073709551616) :
    Calls Try.prog 46 #[.pointer (some ⟨g, 0, none⟩), .int .u64 n, .int .i64 x] w (MPost w g b (many (readT d) n s.data.toList b)) := by
  have hgw := hR.lt
  have HX := lay hx
  have HT := lay hT
  clear hx hT
  go_enter Try.func46, Try.ntmps46
  go_wp2_with fail
  go_loopw [8, 12] (fun v i wr => MHead w g b n d s.data.toList v i wr) (fun _ i _ => n - (intOf i).toNat)
  case atStart => exact ⟨[], s, b, rfl, Nat.zero_le _, Built.nil _ _, hR, Nat.le_refl _, hb4, hs, World.grownBy.refl w _, lay (by
    show many (readT d) n s.data.toList b = prep [] (many (readT d) n s.data.toList b)
    cases many (readT d) n s.data.toList b <;> rfl)⟩
  case round =>
    obtain ⟨l, s', b', rfl, hln, hB, hR', hbl, hb4', hs', hG, HM⟩ := hrel
    have hz := hG.size
    have hown := fun k hk => (hB.own k hk).2
    by_cases hlt : l.length < n
    · obtain ⟨m, hm⟩ : ∃ m, n - l.length = m + 1 := ⟨n - l.length - 1, by omega⟩
      rw [hm] at HM
      have hcall := HT.out g b' s' x wr hR' hb4' hs' HX.out hd
      cases hq : readT d s'.data.toList b' with
      | bad err =>
        rw [hq] at hcall
        have HB := lay (many_bad HM.out hq)
        clear hq hm
        go_wp2_with (go_at_call 39; refine hcall.mono ?_; rintro e w2 ⟨hG2, hne, s2, b2, k2, n2, z2, A2, m2, c2, hR2, rfl⟩; have hne' : (err != 0) = true := by simpa using hne)
        go_ret2
        rw [HB.out]
        exact ⟨grown_alloc' (grown_trans hG hG2) _, hne, s2, b2, Blk.alloc hR2 _, rfl⟩
      | ok t r b2 =>
        rw [hq] at hcall
        have HB := lay (many_ok HM.out hq)
        clear hq
        have HMm := lay hm
        clear hm
        go_wp2_with (first
          | (go_at_call 39; refine hcall.mono ?_; rintro e w2 ⟨hG2, s2, A2, c2, hR2, hr2, hs2, hbb, hb42, rfl, hH, hF⟩; have hB2 := (hB.kept hG2 (fun g' e => by injection e with e; omega)).below ((Below.refl _ _).alloc (Nat.le_refl _) (.cells #[.int .i64 t.k, .int .u64 t.n, .string t.s, .slice A2 t.l.length c2] 25)); have hH2 := hH.move (Nat.le_refl _) (Nat.le_refl _) (fun p _ p2 => World.cell?_alloc_lt w2 (.cells #[.int .i64 t.k, .int .u64 t.n, .string t.s, .slice A2 t.l.length c2] 25) p p2); have hz2 := hG2.size)
          | (at_builtin; go_loud (refine wpList_append_term rfl _ _ rfl (t := t) rfl hB2 rfl (by simp; omega) hH2 (by simp) (by omega) hown hF.1 hF.2.1 hF.2.2 rfl (by simp) (by omega) ?next)))
        case next =>
          intro v3 w3 hB3 hbe3 hz3 _
          go_wp2_with fail
          have hR3 : Rdr w3 g s2 b2 := Blk.below (Blk.alloc hR2 _) hbe3 hgw
          exact ⟨⟨l ++ [t], s2, b2, by simp, by simp; omega, hB3, hR3, by simp; omega, hb42, hs2, grown_low (grown_alloc' (grown_trans hG hG2) _) hbe3, lay (by
            rw [HB.out, hr2, List.length_append, List.length_singleton, show n - (l.length + 1) = m by have := HMm.out; omega])⟩, by simp [intOf]; omega⟩
    · have HE := lay (show n - l.length = 0 by omega)
      rw [HE.out] at HM
      have hHl := hB.held (by omega)
      obtain ⟨A, c, rfl, hc⟩ := hB.form
      go_wp2_with fail
      go_ret2
      rw [many_end HM.out]
      exact ⟨hG, s', A, c, hR', rfl, hs', by omega, hb4', rfl, hHl⟩
end Go.Proofs.Ytgdmhfdlijeogaa.reads
