/- The program's reader of terms: head and atom. -/
import Derived.Test.YtjlglfjikfpboaaTermB
import Derived.Test.YtjlglfjikfpboaaTermA
import Derived.Test.YtjlglfjikfpboaaTermC


namespace Go.Proofs.Ytjlglfjikfpboaa.reads
set_option linter.unusedVariables false
set_option linter.unusedSimpArgs false
open Go.RowKit Go.Proofs.Ytjlglfjikfpboaa.base Go.Proofs.Ytjlglfjikfpboaa.tm Go.Proofs.Ytjlglfjikfpboaa.lies Go.Proofs.Ytjlglfjikfpboaa.rights Go.Proofs.Ytjlglfjikfpboaa.copies Go.Proofs.Ytjlglfjikfpboaa.numLaws

/-- the reader at block g -/
def Rdr (w : World) (g : Nat) (s : ByteArray) (b : Nat) : Prop := Blk w g 210 #[.string s, .int .i64 b]

theorem tail_list (s : ByteArray) (k : Nat) : (s.extract k s.size).data.toList = s.data.toList.drop k := by
  simp
  exact List.take_of_length_le (by simp)
theorem tail_size (s : ByteArray) (k : Nat) : (s.extract k s.size).size ≤ s.size := by simp
theorem nonempty {s : ByteArray} {k : UInt8} {r : List UInt8} (h : s.data.toList = k :: r) : 0 < s.size ∧ s.toList.isEmpty = false := by
  have h1 := congrArg List.length h
  have h2 : s.data.toList.length = s.size := by simp
  rw [tm.toList_eq, h]
  simp at h1
  exact ⟨by omega, rfl⟩

set_option maxRecDepth 100000 in
theorem head_any (g b : Nat) (s : ByteArray) (w : World) (hR : Rdr w g s b) (hs : s.size ≤ maxLen) :
    Calls Try.prog 173 #[.pointer (some ⟨g, 0, none⟩)] w fun e w' => match hd s.data.toList with
      | .bad err => e = .returned (.tuple #[.int .i64 0, .int .u64 0, .int .i64 err]) ∧ w = w'
      | .ok k n r => ∃ s' : ByteArray, e = .returned (.tuple #[.int .i64 k, .int .u64 n, .int .i64 0]) ∧ s'.data.toList = r ∧ s'.size ≤ s.size ∧ w.setCell ⟨g, 0, none⟩ (.string s') = w' := by
  have hg := hR.lt
  have z0 := hR.cell 0
  have f0 := hR.frozen 0
  simp at z0
  match hL : s.data.toList with
  | [] =>
    have he : s.toList = [] := by rw [tm.toList_eq, hL]
    simp only [hd]
    clear hL
    go_enter Try.func173, Try.ntmps173
    go_wp2_with fail
    go_ret3
    exact ⟨rfl, rfl⟩
  | k :: r =>
    have he := nonempty hL
    obtain ⟨hpos, hne⟩ := he
    have hk0 : s[0] = k := by
      have := congrArg (fun l : List UInt8 => l[0]?) hL
      simp at this
      rw [Array.getElem?_eq_getElem (by exact hpos)] at this
      simp only [Option.some.injEq] at this
      exact this
    have hkb := byte_lt k
    unfold maxLen at hs
    by_cases hk : k.toNat < 1 ∨ 5 < k.toNat
    · have HH : Hid (hd (k :: r) = .bad 21) := lay (by simp only [hd]; rw [if_pos hk])
      rw [HH.out]
      go_enter Try.func173, Try.ntmps173
      go_wp2_with fail
      all_goals
        go_ret3
        exact ⟨rfl, rfl⟩
    · have hk1 : 1 ≤ k.toNat := by omega
      have hk5 : k.toNat ≤ 5 := by omega
      have hkk := lay hk
      clear hk
      have ht : (s.extract 1 s.size).data.toList = r := by rw [tail_list, hL]; rfl
      have hts := tail_size s 1
      have hlen : r.length + 1 = s.size := by
        have := congrArg List.length hL
        simp at this
        omega
      cases hq : getL r with
      | bad err =>
        have HH : Hid (hd (k :: r) = .bad err) := lay (by simp only [hd]; rw [if_neg hkk.out, hq])
        have hc := getNum_bad (s := s.extract 1 s.size) (by rw [ht]; exact hq) (by unfold maxLen; omega)
        have hne0 : (err != 0) = true := by simpa using getL_bad_ne hq
        rw [HH.out]
        clear hq ht hL
        go_enter Try.func173, Try.ntmps173
        go_wp2_with (go_at_call 180; refine (hc _).mono ?_; rintro e w' ⟨rfl, rfl⟩)
        go_ret3
        exact ⟨rfl, rfl⟩
      | ok n m =>
        have HH : Hid (hd (k :: r) = .ok k.toNat n (r.drop m)) := lay (by simp only [hd]; rw [if_neg hkk.out, hq])
        have hc := getNum_ok (s := s.extract 1 s.size) (by rw [ht]; exact hq) (by unfold maxLen; omega)
        have hm := getL_len hq
        have HD : Hid ((s.extract (1 + m) s.size).data.toList = r.drop m) := lay (by rw [tail_list, hL, Nat.add_comm]; rfl)
        rw [HH.out]
        have hm2 : 1 + m ≤ s.size := by omega
        clear hq ht hL hlen
        go_enter Try.func173, Try.ntmps173
        go_wp2_with (go_at_call 180; refine (hc _).mono ?_; rintro e w' ⟨rfl, rfl⟩)
        go_ret3
        exact ⟨s.extract (1 + m) s.size, rfl, HD.out, tail_size _ _, rfl⟩
end Go.Proofs.Ytjlglfjikfpboaa.reads

/- The program's reader of terms: atom. -/

namespace Go.Proofs.Ytjlglfjikfpboaa.reads
set_option linter.unusedVariables false
set_option linter.unusedSimpArgs false
open Go.RowKit Go.Proofs.Ytjlglfjikfpboaa.base Go.Proofs.Ytjlglfjikfpboaa.tm Go.Proofs.Ytjlglfjikfpboaa.lies Go.Proofs.Ytjlglfjikfpboaa.rights Go.Proofs.Ytjlglfjikfpboaa.copies Go.Proofs.Ytjlglfjikfpboaa.numLaws

theorem str_ext {x : ByteArray} {l : List UInt8} (h : x.data.toList = l) : x = ⟨l.toArray⟩ := by subst h; rfl

set_option maxRecDepth 100000 in
theorem atom_any (g b n : Nat) (s : ByteArray) (w : World) (hR : Rdr w g s b) (hs : s.size ≤ maxLen) (hn : n < 18446744073709551616) :
    Calls Try.prog 174 #[.pointer (some ⟨g, 0, none⟩), .int .u64 n] w fun e w' =>
      (4000 < n → e = .returned (.tuple #[.string ⟨#[]⟩, .int .i64 25]) ∧ w = w') ∧ (¬ 4000 < n → s.data.toList.length < n → e = .returned (.tuple #[.string ⟨#[]⟩, .int .i64 20]) ∧ w = w') ∧
      (¬ 4000 < n → ¬ s.data.toList.length < n → ∃ s' : ByteArray, e = .returned (.tuple #[.string ⟨(s.data.toList.take n).toArray⟩, .int .i64 0]) ∧ s'.data.toList = s.data.toList.drop n ∧ s'.size ≤ s.size ∧ w.setCell ⟨g, 0, none⟩ (.string s') = w') := by
  have hg := hR.lt
  have z0 := hR.cell 0
  have f0 := hR.frozen 0
  simp at z0
  have hls : s.data.toList.length = s.size := by simp
  unfold maxLen at hs
  by_cases h1 : 4000 < n
  · refine Calls.mono (R := fun e w' => e = .returned (.tuple #[.string ⟨#[]⟩, .int .i64 25]) ∧ w = w') ?_ fun e w' h => ⟨fun _ => h, fun h' => absurd h1 h', fun h' => absurd h1 h'⟩
    go_enter Try.func174, Try.ntmps174
    go_wp2_with fail
    go_ret2
    exact ⟨rfl, rfl⟩
  · by_cases h2 : s.size < n
    · refine Calls.mono (R := fun e w' => e = .returned (.tuple #[.string ⟨#[]⟩, .int .i64 20]) ∧ w = w') ?_ fun e w' h => ⟨fun h' => absurd h' h1, fun _ _ => h, fun _ h' => absurd (by omega) h'⟩
      clear hls
      go_enter Try.func174, Try.ntmps174
      go_wp2_with fail
      go_ret2
      exact ⟨rfl, rfl⟩
    · have hn4 : n ≤ s.size := by omega
      have e1 : s.extract 0 n = ⟨(s.data.toList.take n).toArray⟩ := str_ext (by simp)
      have HE := lay e1
      refine Calls.mono (R := fun e w' => e = .returned (.tuple #[.string (s.extract 0 n), .int .i64 0]) ∧ w.setCell ⟨g, 0, none⟩ (.string (s.extract n s.size)) = w') ?_ fun e w' h => ⟨fun h' => absurd h' h1, fun _ h' => absurd h' (by omega), fun _ _ => ⟨s.extract n s.size, by rw [← HE.out]; exact h.1, tail_list _ _, tail_size _ _, h.2⟩⟩
      clear hls e1
      go_enter Try.func174, Try.ntmps174
      go_wp2_with fail
      go_ret2
      exact ⟨rfl, rfl⟩
end Go.Proofs.Ytjlglfjikfpboaa.reads

/- The program's reader of terms: terms, given what term does. -/

namespace Go.Proofs.Ytjlglfjikfpboaa.reads
set_option linter.unusedVariables false
set_option linter.unusedSimpArgs false
open Go.RowKit Go.Proofs.Ytjlglfjikfpboaa.base Go.Proofs.Ytjlglfjikfpboaa.tm Go.Proofs.Ytjlglfjikfpboaa.lies Go.Proofs.Ytjlglfjikfpboaa.rights Go.Proofs.Ytjlglfjikfpboaa.copies Go.Proofs.Ytjlglfjikfpboaa.built

def Fits (t : T) : Prop := (-9223372036854775808 ≤ t.k ∧ t.k ≤ 9223372036854775807) ∧ (0 ≤ t.n ∧ t.n < 18446744073709551616) ∧ t.s.size ≤ maxLen

/-- what term leaves -/
def TPost (W : World) (g b : Nat) (r : Res T) (e : Ending) (w' : World) : Prop :=
  W.grownBy w' (some g) ∧ match r with
  | .bad err => err ≠ 0 ∧ ∃ (s' : ByteArray) (b' : Nat) (k n : Int) (z : ByteArray) (A : Option Addr) (m c : Nat), Rdr w' g s' b' ∧ e = .returned (.tuple #[.agg #[.int .i64 k, .int .u64 n, .string z, .slice A m c], .int .i64 err])
  | .ok t r b' => ∃ (s' : ByteArray) (A : Option Addr) (c : Nat), Rdr w' g s' b' ∧ s'.data.toList = r ∧ s'.size ≤ maxLen ∧ b < b' ∧ b' ≤ 4000 ∧
      e = .returned (.tuple #[.agg #[.int .i64 t.k, .int .u64 t.n, .string t.s, .slice A t.l.length c], .int .i64 0]) ∧ Held w' W.heap.size w'.heap.size t.l (.slice A t.l.length c) ∧ Fits t
/-- what terms leaves -/
def MPost (W : World) (g b : Nat) (r : Res (List T)) (e : Ending) (w' : World) : Prop :=
  W.grownBy w' (some g) ∧ match r with
  | .bad err => err ≠ 0 ∧ ∃ (s' : ByteArray) (b' : Nat), Rdr w' g s' b' ∧ e = .returned (.tuple #[.slice none 0 0, .int .i64 err])
  | .ok l r b' => ∃ (s' : ByteArray) (A : Option Addr) (c : Nat), Rdr w' g s' b' ∧ s'.data.toList = r ∧ s'.size ≤ maxLen ∧ b ≤ b' ∧ b' ≤ 4000 ∧
      e = .returned (.tuple #[.slice A l.length c, .int .i64 0]) ∧ Held w' W.heap.size w'.heap.size l (.slice A l.length c)

def TermAt (d : Nat) : Prop := ∀ (g b : Nat) (s : ByteArray) (x : Int) (w : World), Rdr w g s b → b ≤ 4000 → s.size ≤ maxLen → x = 12 - (d : Int) → d ≤ 12 →
  Calls Try.prog 159 #[.pointer (some ⟨g, 0, none⟩), .int .i64 x] w (TPost w g b (readT d s.data.toList b))

theorem grown_alloc' {a b : World} {row : Option Nat} (h : a.grownBy b row) (o : Obj) : a.grownBy (b.alloc o) row := grown_below h ((Below.refl _ _).alloc (Nat.le_refl _) o)
theorem grown_low {a b c : World} {row : Option Nat} (h : a.grownBy b row) (k : Below a.heap.size b c) : a.grownBy c row :=
  ⟨k.os.trans h.os, k.tape.trans h.tape, k.output.trans h.output, Nat.le_trans h.size k.size, fun i hi hr => (k.block i hi).trans (h.block i hi hr)⟩
def prep (l : List T) : Res (List T) → Res (List T)
  | .bad e => .bad e
  | .ok l' r b => .ok (l ++ l') r b
theorem many_bad {f : List UInt8 → Nat → Res T} {n m : Nat} {s s' : List UInt8} {b b' : Nat} {l : List T} {err : Int} (h : many f n s b = prep l (many f (m + 1) s' b')) (hq : f s' b' = .bad err) : many f n s b = .bad err := by
  rw [h, many, hq]; rfl
theorem many_ok {f : List UInt8 → Nat → Res T} {n m : Nat} {s s' r : List UInt8} {b b' b2 : Nat} {l : List T} {t : T} (h : many f n s b = prep l (many f (m + 1) s' b')) (hq : f s' b' = .ok t r b2) : many f n s b = prep (l ++ [t]) (many f m r b2) := by
  rw [h, many, hq]
  cases hm : many f m r b2 with
  | bad e => simp only [hm, prep]
  | ok l2 r2 b3 => simp only [hm, prep, List.append_assoc, List.singleton_append]
theorem many_end {f : List UInt8 → Nat → Res T} {n : Nat} {s s' : List UInt8} {b b' : Nat} {l : List T} (h : many f n s b = prep l (many f 0 s' b')) : many f n s b = .ok l s' b' := by
  rw [h, many, prep, List.append_nil]

/-- at the loop's head -/
def MHead (W : World) (g b n d : Nat) (s0 : List UInt8) (v i : Value) (wr : World) : Prop :=
  ∃ (l : List T) (s' : ByteArray) (b' : Nat), i = .int .u64 l.length ∧ l.length ≤ n ∧ Built W.heap.size wr l v ∧ Rdr wr g s' b' ∧ b + l.length ≤ b' ∧ b' ≤ 4000 ∧ s'.size ≤ maxLen ∧ W.grownBy wr (some g) ∧
    Hid (many (readT d) n s0 b = prep l (many (readT d) (n - l.length) s'.data.toList b'))

set_option maxRecDepth 100000 in
set_option maxHeartbeats 400000 in
theorem terms_any (d : Nat) (hT : TermAt d) (hd : d ≤ 12) (g b n : Nat) (s : ByteArray) (x : Int) (w : World) (hR : Rdr w g s b) (hb4 : b ≤ 4000) (hs : s.size ≤ maxLen) (hx : x = 12 - (d : Int)) (hn : n < 18446744073709551616) :
    Calls Try.prog 175 #[.pointer (some ⟨g, 0, none⟩), .int .u64 n, .int .i64 x] w (MPost w g b (many (readT d) n s.data.toList b)) := by
  have hgw := hR.lt
  have HX := lay hx
  have HT := lay hT
  clear hx hT
  go_enter Try.func175, Try.ntmps175
  go_wp2_with fail
  go_loopw [8, 12] (fun v i wr => MHead w g b n d s.data.toList v i wr) (fun _ i _ => n - (intOf i).toNat)
  case atStart => exact ⟨[], s, b, rfl, Nat.zero_le _, Built.nil _ _, hR, Nat.le_refl _, hb4, hs, World.grownBy.refl w _, lay (by
    show many (readT d) n s.data.toList b = prep [] (many (readT d) n s.data.toList b)
    cases many (readT d) n s.data.toList b <;> rfl)⟩
  case round =>
    obtain ⟨l, s', b', rfl, hln, hB, hR', hbl, hb4', hs', hG, HM⟩ := hrel
    have hz := hG.size
    have hown := fun k hk => (hB.own k hk).2
    by_cases hlt : l.length < n
    · obtain ⟨m, hm⟩ : ∃ m, n - l.length = m + 1 := ⟨n - l.length - 1, by omega⟩
      rw [hm] at HM
      have hcall := HT.out g b' s' x wr hR' hb4' hs' HX.out hd
      cases hq : readT d s'.data.toList b' with
      | bad err =>
        rw [hq] at hcall
        have HB := lay (many_bad HM.out hq)
        clear hq hm
        go_wp2_with (go_at_call 159; refine hcall.mono ?_; rintro e w2 ⟨hG2, hne, s2, b2, k2, n2, z2, A2, m2, c2, hR2, rfl⟩; have hne' : (err != 0) = true := by simpa using hne)
        go_ret2
        rw [HB.out]
        exact ⟨grown_alloc' (grown_trans hG hG2) _, hne, s2, b2, Blk.alloc hR2 _, rfl⟩
      | ok t r b2 =>
        rw [hq] at hcall
        have HB := lay (many_ok HM.out hq)
        clear hq
        have HMm := lay hm
        clear hm
        go_wp2_with (first
          | (go_at_call 159; refine hcall.mono ?_; rintro e w2 ⟨hG2, s2, A2, c2, hR2, hr2, hs2, hbb, hb42, rfl, hH, hF⟩; have hB2 := (hB.kept hG2 (fun g' e => by injection e with e; omega)).below ((Below.refl _ _).alloc (Nat.le_refl _) (.cells #[.int .i64 t.k, .int .u64 t.n, .string t.s, .slice A2 t.l.length c2] 39)); have hH2 := hH.move (Nat.le_refl _) (Nat.le_refl _) (fun p _ p2 => World.cell?_alloc_lt w2 (.cells #[.int .i64 t.k, .int .u64 t.n, .string t.s, .slice A2 t.l.length c2] 39) p p2); have hz2 := hG2.size)
          | (at_builtin; go_loud (refine wpList_append_term rfl _ _ rfl (t := t) rfl hB2 rfl (by simp; omega) hH2 (by simp) (by omega) hown hF.1 hF.2.1 hF.2.2 rfl (by simp) (by omega) ?next)))
        case next =>
          intro v3 w3 hB3 hbe3 hz3 _
          go_wp2_with fail
          have hR3 : Rdr w3 g s2 b2 := Blk.below (Blk.alloc hR2 _) hbe3 hgw
          exact ⟨⟨l ++ [t], s2, b2, by simp, by simp; omega, hB3, hR3, by simp; omega, hb42, hs2, grown_low (grown_alloc' (grown_trans hG hG2) _) hbe3, lay (by
            rw [HB.out, hr2, List.length_append, List.length_singleton, show n - (l.length + 1) = m by have := HMm.out; omega])⟩, by simp [intOf]; omega⟩
    · have HE := lay (show n - l.length = 0 by omega)
      rw [HE.out] at HM
      have hHl := hB.held (by omega)
      obtain ⟨A, c, rfl, hc⟩ := hB.form
      go_wp2_with fail
      go_ret2
      rw [many_end HM.out]
      exact ⟨hG, s', A, c, hR', rfl, hs', by omega, hb4', rfl, hHl⟩
end Go.Proofs.Ytjlglfjikfpboaa.reads

/- The program's reader of terms: term, by how deep it may go. -/

namespace Go.Proofs.Ytjlglfjikfpboaa.reads
set_option linter.unusedVariables false
set_option linter.unusedSimpArgs false
open Go.RowKit Go.Proofs.Ytjlglfjikfpboaa.base Go.Proofs.Ytjlglfjikfpboaa.tm Go.Proofs.Ytjlglfjikfpboaa.lies Go.Proofs.Ytjlglfjikfpboaa.rights Go.Proofs.Ytjlglfjikfpboaa.copies Go.Proofs.Ytjlglfjikfpboaa.built

theorem gs_set {w wr : World} {g : Nat} (h : w.grownBy wr (some g)) (p : Addr) (u : Value) (hp : p.block = g ∨ w.heap.size ≤ p.block) : w.grownBy (wr.setCell p u) (some g) :=
  ⟨h.os, h.tape, h.output, by simpa [World.setCell] using h.size, fun k hk hr => (Below.heap_setCell _ _ _ _ (fun e => by
    subst e
    rcases hp with hp | hp
    · exact hr (by rw [hp])
    · omega)).trans (h.block k hk hr)⟩
theorem rdr_next {w : World} {g b : Nat} {s : ByteArray} (h : Rdr w g s b) : Rdr (w.setCell ⟨g, 1, none⟩ (.int .i64 ((b : Int) + 1))) g s (b + 1) := by
  have := Blk.put h 1 (.int .i64 ((b : Int) + 1))
  exact this
theorem rdr_rest {w : World} {g b : Nat} {s s' : ByteArray} (h : Rdr w g s b) : Rdr (w.setCell ⟨g, 0, none⟩ (.string s')) g s' b := Blk.put h 0 (.string s')

theorem gs0 (w : World) (g : Nat) (u v : Value) : w.grownBy ((w.setCell ⟨g, 1, none⟩ u).setCell ⟨g, 0, none⟩ v) (some g) := gs_set (gs_set (World.grownBy.refl w _) _ _ (.inl rfl)) _ _ (.inl rfl)

set_option maxRecDepth 100000 in
set_option maxHeartbeats 400000 in
theorem term_many (g b : Nat) (s : ByteArray) (x : Int) (w : World) (hR : Rdr w g s b) (hb : b = 4000) :
    Calls Try.prog 159 #[.pointer (some ⟨g, 0, none⟩), .int .i64 x] w (TPost w g b (.bad 23)) := by
  subst hb
  have hgw := hR.lt
  have z0 := hR.cell 0
  have z1 := hR.cell 1
  have f0 := hR.frozen 0
  have f1 := hR.frozen 1
  simp at z0 z1
  go_enter Try.func159, Try.ntmps159
  go_wp2_with fail
  refine bodyPost_ret (v := .tuple #[.agg #[.int .i64 0, .int .u64 0, .string ⟨#[]⟩, .slice none 0 0], .int .i64 23]) (by simp [results, Try.results159, go_sem]) rfl ⟨?_, by decide, s, 4000, 0, 0, ⟨#[]⟩, none, 0, 0, ?_, rfl⟩
  · exact grown_alloc' (World.grownBy.refl w _) _
  · exact Blk.alloc hR _

set_option maxRecDepth 100000 in
set_option maxHeartbeats 400000 in
theorem term_deep (g b : Nat) (s : ByteArray) (w : World) (hR : Rdr w g s b) (hb : b < 4000) :
    Calls Try.prog 159 #[.pointer (some ⟨g, 0, none⟩), .int .i64 12] w (TPost w g b (.bad 22)) := by
  have hgw := hR.lt
  have z0 := hR.cell 0
  have z1 := hR.cell 1
  have f0 := hR.frozen 0
  have f1 := hR.frozen 1
  simp at z0 z1
  have d0 : ((b : Int) == 4000) = false := by simp; omega
  have hR1 := rdr_next hR
  go_enter Try.func159, Try.ntmps159
  go_wp2_with fail
  refine bodyPost_ret (v := .tuple #[.agg #[.int .i64 0, .int .u64 0, .string ⟨#[]⟩, .slice none 0 0], .int .i64 22]) (by simp [results, Try.results159, go_sem]) rfl ⟨?_, by decide, s, b + 1, 0, 0, ⟨#[]⟩, none, 0, 0, ?_, rfl⟩
  · exact grown_alloc' (gs_set (World.grownBy.refl w _) _ _ (.inl rfl)) _
  · exact Blk.alloc hR1 _

theorem hd_bad_ne {l : List UInt8} {e : Int} (h : hd l = .bad e) : e ≠ 0 := by
  cases l with
  | nil => simp [hd] at h; omega
  | cons k r =>
    simp only [hd] at h
    split at h
    · injection h with h; omega
    · split at h
      · rename_i hq
        injection h with h
        rw [← h]; exact getL_bad_ne hq
      · cases h

set_option maxRecDepth 100000 in
set_option maxHeartbeats 400000 in
theorem term_headbad (g b : Nat) (s : ByteArray) (x err : Int) (w : World) (hR : Rdr w g s b) (hb : b < 4000) (hs : s.size ≤ maxLen) (hx : x < 12) (hh : hd s.data.toList = .bad err) :
    Calls Try.prog 159 #[.pointer (some ⟨g, 0, none⟩), .int .i64 x] w (TPost w g b (.bad err)) := by
  have hgw := hR.lt
  have z0 := hR.cell 0
  have z1 := hR.cell 1
  have f0 := hR.frozen 0
  have f1 := hR.frozen 1
  simp at z0 z1
  have d0 : ((b : Int) == 4000) = false := by simp; omega
  have d1 : (x == 12) = false := by simp; omega
  have hR1 := rdr_next hR
  have hne := hd_bad_ne hh
  have d2 : (err != 0) = true := by simpa using hne
  have HN := lay hne
  have hcall := fun wx (h : Rdr wx g s (b + 1)) => head_any g (b + 1) s wx h hs
  rw [hh] at hcall
  clear hne hh
  go_enter Try.func159, Try.ntmps159
  go_wp2_with (go_at_call 173; refine (hcall _ (Blk.alloc hR1 _)).mono ?_; rintro e w' ⟨rfl, rfl⟩)
  refine bodyPost_ret (v := .tuple #[.agg #[.int .i64 0, .int .u64 0, .string ⟨#[]⟩, .slice none 0 0], .int .i64 err]) (by simp [results, Try.results159, go_sem]) rfl ⟨?_, HN.out, s, b + 1, 0, 0, ⟨#[]⟩, none, 0, 0, ?_, rfl⟩
  · exact grown_alloc' (gs_set (World.grownBy.refl w _) _ _ (.inl rfl)) _
  · exact Blk.alloc hR1 _

set_option maxRecDepth 100000 in
set_option maxHeartbeats 400000 in
theorem term_num (g b k n : Nat) (s : ByteArray) (r : List UInt8) (x : Int) (w : World) (hR : Rdr w g s b) (hb : b < 4000) (hs : s.size ≤ maxLen) (hx : x < 12) (hh : hd s.data.toList = .ok k n r) (hk : k = 1 ∨ k = 3) (hn : n < 18446744073709551616) :
    Calls Try.prog 159 #[.pointer (some ⟨g, 0, none⟩), .int .i64 x] w (TPost w g b (.ok (.mk k n ⟨#[]⟩ []) r (b + 1))) := by
  have hgw := hR.lt
  have z0 := hR.cell 0
  have z1 := hR.cell 1
  have f0 := hR.frozen 0
  have f1 := hR.frozen 1
  simp at z0 z1
  have d0 : ((b : Int) == 4000) = false := by simp; omega
  have d1 : (x == 12) = false := by simp; omega
  have hR1 := rdr_next hR
  have k2 : ((k : Int) == 2) = false := by simp; omega
  have k4 : ((k : Int) == 4) = false := by simp; omega
  have k5 : ((k : Int) == 5) = false := by simp; omega
  have hF : Fits (.mk k n ⟨#[]⟩ []) := ⟨by show (-9223372036854775808 : Int) ≤ (k : Int) ∧ (k : Int) ≤ 9223372036854775807; omega, by show (0 : Int) ≤ (n : Int) ∧ (n : Int) < 18446744073709551616; omega, Nat.zero_le _⟩
  have HK := lay hk
  have hcall := fun wx (h : Rdr wx g s (b + 1)) => head_any g (b + 1) s wx h hs
  rw [hh] at hcall
  clear hh hk
  go_enter Try.func159, Try.ntmps159
  go_wp2_with (go_at_call 173; refine (hcall _ (Blk.alloc hR1 _)).mono ?_; rintro e w' ⟨s', rfl, hr', hs', rfl⟩; have HR := lay hr'; clear hr')
  refine bodyPost_ret (v := .tuple #[.agg #[.int .i64 k, .int .u64 n, .string ⟨#[]⟩, .slice none 0 0], .int .i64 0]) (by simp [results, Try.results159, go_sem]) rfl ⟨?_, s', none, 0, ?_, HR.out, by omega, by omega, by omega, rfl, Held.nil _ _ _, hF⟩
  · exact grown_alloc' (grown_alloc' (gs0 w g _ _) _) _
  · exact Blk.alloc (Blk.alloc (rdr_rest hR1) _) _

theorem atom_err {s' : ByteArray} {r : List UInt8} {n : Nat} {err : Int} {e : Ending} {w w' : World} {P : Prop} (hp : (4000 < n → e = .returned (.tuple #[.string ⟨#[]⟩, .int .i64 25]) ∧ w = w') ∧ (¬ 4000 < n → s'.data.toList.length < n → e = .returned (.tuple #[.string ⟨#[]⟩, .int .i64 20]) ∧ w = w') ∧ P)
    (hr : s'.data.toList = r) (he : (4000 < n ∧ err = 25) ∨ (¬ 4000 < n ∧ r.length < n ∧ err = 20)) : e = .returned (.tuple #[.string ⟨#[]⟩, .int .i64 err]) ∧ w = w' := by
  rcases he with ⟨h1, rfl⟩ | ⟨h1, h2, rfl⟩
  · exact hp.1 h1
  · exact hp.2.1 h1 (by rw [hr]; exact h2)

set_option maxRecDepth 100000 in
set_option maxHeartbeats 400000 in
theorem term_atombad (g b n : Nat) (s : ByteArray) (r : List UInt8) (x : Int) (w : World) (hR : Rdr w g s b) (hb : b < 4000) (hs : s.size ≤ maxLen) (hx : x < 12) (hh : hd s.data.toList = .ok 2 n r) (hn : n < 18446744073709551616) (err : Int) (he : (4000 < n ∧ err = 25) ∨ (¬ 4000 < n ∧ r.length < n ∧ err = 20)) :
    Calls Try.prog 159 #[.pointer (some ⟨g, 0, none⟩), .int .i64 x] w (TPost w g b (.bad err)) := by
  have hgw := hR.lt
  have z0 := hR.cell 0
  have z1 := hR.cell 1
  have f0 := hR.frozen 0
  have f1 := hR.frozen 1
  simp at z0 z1
  have d0 : ((b : Int) == 4000) = false := by simp; omega
  have d1 : (x == 12) = false := by simp; omega
  have hR1 := rdr_next hR
  have hcall := fun wx (h : Rdr wx g s (b + 1)) => head_any g (b + 1) s wx h hs
  rw [hh] at hcall
  clear hh
  have hne : err ≠ 0 := by omega
  have HN := lay hne
  have HA := lay he
  clear hne he
  go_enter Try.func159, Try.ntmps159
  go_wp2_with (first
    | (go_at_call 173; refine (hcall _ (Blk.alloc hR1 _)).mono ?_; rintro e w' ⟨s', rfl, hr', hs', rfl⟩; have HR := lay hr'; clear hr'; have hR2 := Blk.alloc (Blk.alloc (rdr_rest (s' := s') hR1) (.cells #[.int .i64 0, .int .u64 0, .string ⟨#[]⟩, .slice none 0 0] 39)) (.cells #[.int .i64 2, .int .u64 0, .string ⟨#[]⟩, .slice none 0 0] 39))
    | (go_at_call 174; refine (atom_any g (b + 1) n s' _ hR2 (by omega) hn).mono ?_; rintro e w' hp; obtain ⟨rfl, rfl⟩ := atom_err hp HR.out HA.out))
  refine bodyPost_ret (v := .tuple #[.agg #[.int .i64 2, .int .u64 0, .string ⟨#[]⟩, .slice none 0 0], .int .i64 err]) (by simp [results, Try.results159, go_sem]) rfl ⟨?_, HN.out, s', b + 1, 2, 0, ⟨#[]⟩, none, 0, 0, ?_, rfl⟩
  · exact grown_alloc' (grown_alloc' (gs0 w g _ _) _) _
  · exact Blk.alloc (Blk.alloc (rdr_rest hR1) _) _

set_option maxRecDepth 100000 in
set_option maxHeartbeats 400000 in
theorem term_atomok (g b n : Nat) (s : ByteArray) (r : List UInt8) (x : Int) (w : World) (hR : Rdr w g s b) (hb : b < 4000) (hs : s.size ≤ maxLen) (hx : x < 12) (hh : hd s.data.toList = .ok 2 n r) (hn : n < 18446744073709551616) (h1 : ¬ 4000 < n) (h2 : ¬ r.length < n) :
    Calls Try.prog 159 #[.pointer (some ⟨g, 0, none⟩), .int .i64 x] w (TPost w g b (.ok (.mk 2 0 ⟨(r.take n).toArray⟩ []) (r.drop n) (b + 1))) := by
  have hgw := hR.lt
  have z0 := hR.cell 0
  have z1 := hR.cell 1
  have f0 := hR.frozen 0
  have f1 := hR.frozen 1
  simp at z0 z1
  have d0 : ((b : Int) == 4000) = false := by simp; omega
  have d1 : (x == 12) = false := by simp; omega
  have hR1 := rdr_next hR
  have hcall := fun wx (h : Rdr wx g s (b + 1)) => head_any g (b + 1) s wx h hs
  rw [hh] at hcall
  clear hh
  have hF : Fits (.mk 2 0 ⟨(r.take n).toArray⟩ []) := ⟨by show (-9223372036854775808 : Int) ≤ 2 ∧ (2 : Int) ≤ 9223372036854775807; omega, by show (0 : Int) ≤ 0 ∧ (0 : Int) < 18446744073709551616; omega, by show (r.take n).length ≤ maxLen; rw [List.length_take]; unfold maxLen; omega⟩
  have H1 := lay h1
  have H2 := lay h2
  clear h1 h2
  go_enter Try.func159, Try.ntmps159
  go_wp2_with (first
    | (go_at_call 173; refine (hcall _ (Blk.alloc hR1 _)).mono ?_; rintro e w' ⟨s', rfl, hr', hs', rfl⟩; have HR := lay hr'; clear hr'; have hR2 := Blk.alloc (Blk.alloc (rdr_rest (s' := s') hR1) (.cells #[.int .i64 0, .int .u64 0, .string ⟨#[]⟩, .slice none 0 0] 39)) (.cells #[.int .i64 2, .int .u64 0, .string ⟨#[]⟩, .slice none 0 0] 39))
    | (go_at_call 174; refine (atom_any g (b + 1) n s' _ hR2 (by omega) hn).mono ?_; rintro e w' hp; obtain ⟨s2, rfl, hr2, hs2, rfl⟩ := hp.2.2 H1.out (by rw [HR.out]; exact H2.out); have HR2 := lay hr2; clear hr2; have HRT := lay (congrArg (fun l : List UInt8 => (⟨(l.take n).toArray⟩ : ByteArray)) HR.out)))
  refine bodyPost_ret (v := .tuple #[.agg #[.int .i64 2, .int .u64 0, .string ⟨(s'.data.toList.take n).toArray⟩, .slice none 0 0], .int .i64 0]) (by simp [results, Try.results159, go_sem]) rfl ⟨?_, s2, none, 0, ?_, by rw [HR2.out, HR.out], by omega, by omega, by omega, by rw [HR.out]; rfl, Held.nil _ _ _, hF⟩
  · exact grown_alloc' (grown_alloc' (gs_set (gs0 w g _ _) _ _ (.inl rfl)) _) _
  · exact Blk.alloc (Blk.alloc (rdr_rest (rdr_rest hR1)) _) _

end Go.Proofs.Ytjlglfjikfpboaa.reads

/- The program's reader of terms: term at a row and a box. -/

namespace Go.Proofs.Ytjlglfjikfpboaa.reads
set_option linter.unusedVariables false
set_option linter.unusedSimpArgs false
open Go.RowKit Go.Proofs.Ytjlglfjikfpboaa.base Go.Proofs.Ytjlglfjikfpboaa.tm Go.Proofs.Ytjlglfjikfpboaa.lies Go.Proofs.Ytjlglfjikfpboaa.rights Go.Proofs.Ytjlglfjikfpboaa.copies Go.Proofs.Ytjlglfjikfpboaa.built

theorem two_blocks {W w3 : World} {a c : Array Value} {t t' : TypeId} {g : Nat} (h : ((W.alloc (.cells a t)).alloc (.cells c t')).grownBy w3 (some g)) (hg : g < W.heap.size) : Blk w3 W.heap.size t a ∧ Blk w3 (W.heap.size + 1) t' c := by
  have h0 := (Blk.new W t a).alloc (.cells c t')
  have h1 := Blk.new (W.alloc (.cells a t)) t' c
  simp only [World.size_alloc] at h1
  exact ⟨(h.block _ h0.lt (by simp; omega)).trans h0, (h.block _ h1.lt (by simp; omega)).trans h1⟩

theorem five_grown {w w3 : World} {g : Nat} (h : w.grownBy w3 (some g)) (v a b c d : Value) : w.grownBy (four (w3.setCell ⟨w.heap.size + 1, 3, none⟩ v) w.heap.size 0 a b c d) (some g) :=
  gs_set (gs_set (gs_set (gs_set (gs_set h _ _ (.inr (Nat.le_succ _))) _ _ (.inr (Nat.le_refl _))) _ _ (.inr (Nat.le_refl _))) _ _ (.inr (Nat.le_refl _))) _ _ (.inr (Nat.le_refl _))
theorem five_rdr {w3 : World} {N g b' : Nat} {s' : ByteArray} (h : Rdr w3 g s' b') (hg : g < N) (v a b c d : Value) : Rdr (four (w3.setCell ⟨N + 1, 3, none⟩ v) N 0 a b c d) g s' b' := by
  have h1 := Blk.far h (p := ⟨N + 1, 3, none⟩) (by show g ≠ N + 1; omega) v
  have h2 := Blk.far h1 (p := ⟨N, 0, none⟩) (by show g ≠ N; omega) a
  have h3 := Blk.far h2 (p := ⟨N, 0 + 1, none⟩) (by show g ≠ N; omega) b
  have h4 := Blk.far h3 (p := ⟨N, 0 + 2, none⟩) (by show g ≠ N; omega) c
  exact Blk.far h4 (p := ⟨N, 0 + 3, none⟩) (by show g ≠ N; omega) d
theorem five_held {w3 : World} {N lo : Nat} {l : List T} {u : Value} (h : Held w3 lo w3.heap.size l u) (hlo : N + 2 ≤ lo) (v a b c d : Value) : Held (four (w3.setCell ⟨N + 1, 3, none⟩ v) N 0 a b c d) N (four (w3.setCell ⟨N + 1, 3, none⟩ v) N 0 a b c d).heap.size l u := by
  refine h.move (by omega) (by rw [four_size, World.size_setCell]; exact Nat.le_refl _) fun p p1 p2 => ?_
  rw [four_cell _ _ _ _ _ _ _ _ (by omega)]
  exact World.cell?_setCell_other _ _ _ _ (by rintro rfl; simp at p1; omega)
theorem list_grown {w w3 : World} {g : Nat} {u v : Value} {o o' : Obj} (h : ((((w.setCell ⟨g, 1, none⟩ u).setCell ⟨g, 0, none⟩ v).alloc o).alloc o').grownBy w3 (some g)) : w.grownBy w3 (some g) :=
  grown_trans (grown_alloc' (grown_alloc' (gs0 w g u v) o) o') h

set_option maxRecDepth 100000 in
set_option maxHeartbeats 400000 in
theorem term_rowbad (d : Nat) (hT : TermAt d) (hd12 : d < 12) (g b n : Nat) (s : ByteArray) (r : List UInt8) (x : Int) (w : World) (hR : Rdr w g s b) (hb : b < 4000) (hs : s.size ≤ maxLen) (hxd : x + 1 = 12 - (d : Int)) (hh : hd s.data.toList = .ok 5 n r) (hn : n < 18446744073709551616) (err : Int) (hm : many (readT d) n r (b + 1) = .bad err) :
    Calls Try.prog 159 #[.pointer (some ⟨g, 0, none⟩), .int .i64 x] w (TPost w g b (.bad err)) := by
  have hx : x < 12 := by omega
  have hx0 : 0 ≤ x := by omega
  have hgw := hR.lt
  have z0 := hR.cell 0
  have z1 := hR.cell 1
  have f0 := hR.frozen 0
  have f1 := hR.frozen 1
  simp at z0 z1
  have d0 : ((b : Int) == 4000) = false := by simp; omega
  have d1 : (x == 12) = false := by simp; omega
  have hR1 := rdr_next hR
  have hcall := fun wx (h : Rdr wx g s (b + 1)) => head_any g (b + 1) s wx h hs
  rw [hh] at hcall
  clear hh
  have hterms : ∀ (wx : World) (s' : ByteArray), Rdr wx g s' (b + 1) → s'.size ≤ maxLen → s'.data.toList = r → Calls Try.prog 175 #[.pointer (some ⟨g, 0, none⟩), .int .u64 (n : Int), .int .i64 (x + 1)] wx (MPost wx g (b + 1) (.bad err)) := fun wx s' hr hs' hsr => by
    have := terms_any d hT (by omega) g (b + 1) n s' (x + 1) wx hr (by omega) hs' hxd (by omega)
    rw [hsr, hm] at this
    exact this
  have HTm := Lib.hid hterms
  clear hterms hm hT hxd
  go_enter Try.func159, Try.ntmps159
  go_wp2_with (first
    | (go_at_call 173; refine (hcall _ (Blk.alloc hR1 _)).mono ?_; rintro e w' ⟨s', rfl, hr', hs', rfl⟩; have HR := lay hr'; clear hr'; have hR2 := Blk.alloc (Blk.alloc (rdr_rest (s' := s') hR1) (.cells #[.int .i64 0, .int .u64 0, .string ⟨#[]⟩, .slice none 0 0] 39)) (.cells #[.int .i64 5, .int .u64 0, .string ⟨#[]⟩, .slice none 0 0] 39))
    | (go_at_call 175; refine (HTm.out _ s' hR2 (by omega) HR.out).mono ?_; rintro e w3 ⟨hG, hne, s3, b3, hR3, rfl⟩; have HN := lay hne; clear hne; obtain ⟨hB0, hB1⟩ := two_blocks hG (by simpa using hgw); simp only [World.size_setCell] at hB0 hB1; have q0 := hB0.cell 0; have q1 := hB0.cell 1; have q2 := hB0.cell 2; have q3 := hB0.cell 3; have p0 := hB1.cell 0; have p1 := hB1.cell 1; have p2 := hB1.cell 2; have p3 := hB1.cell 3; simp at q0 q1 q2 q3 p0 p1 p2 p3; have fq0 := hB0.frozen 0; have fq1 := hB0.frozen 1; have fq2 := hB0.frozen 2; have fq3 := hB0.frozen 3; have fp3 := hB1.frozen 3))
  refine bodyPost_ret (v := .tuple #[.agg #[.int .i64 5, .int .u64 0, .string ⟨#[]⟩, .slice none 0 0], .int .i64 err]) (by simp [results, Try.results159, go_sem, q0, q1, q2, q3, p0, p1, p2, p3]) rfl ⟨?_, HN.out, s3, b3, 5, 0, ⟨#[]⟩, none, 0, 0, ?_, rfl⟩
  · exact five_grown (list_grown hG) _ _ _ _ _
  · exact five_rdr hR3 hgw _ _ _ _ _

set_option maxRecDepth 100000 in
set_option maxHeartbeats 400000 in
theorem term_rowok (d : Nat) (hT : TermAt d) (hd12 : d < 12) (g b n : Nat) (s : ByteArray) (r : List UInt8) (x : Int) (w : World) (hR : Rdr w g s b) (hb : b < 4000) (hs : s.size ≤ maxLen) (hxd : x + 1 = 12 - (d : Int)) (hh : hd s.data.toList = .ok 5 n r) (hn : n < 18446744073709551616) (l : List T) (r2 : List UInt8) (b2 : Nat) (hm : many (readT d) n r (b + 1) = .ok l r2 b2) :
    Calls Try.prog 159 #[.pointer (some ⟨g, 0, none⟩), .int .i64 x] w (TPost w g b (.ok (.mk 5 0 ⟨#[]⟩ l) r2 b2)) := by
  have hx : x < 12 := by omega
  have hx0 : 0 ≤ x := by omega
  have hgw := hR.lt
  have z0 := hR.cell 0
  have z1 := hR.cell 1
  have f0 := hR.frozen 0
  have f1 := hR.frozen 1
  simp at z0 z1
  have d0 : ((b : Int) == 4000) = false := by simp; omega
  have d1 : (x == 12) = false := by simp; omega
  have hR1 := rdr_next hR
  have hcall := fun wx (h : Rdr wx g s (b + 1)) => head_any g (b + 1) s wx h hs
  rw [hh] at hcall
  clear hh
  have hterms : ∀ (wx : World) (s' : ByteArray), Rdr wx g s' (b + 1) → s'.size ≤ maxLen → s'.data.toList = r → Calls Try.prog 175 #[.pointer (some ⟨g, 0, none⟩), .int .u64 (n : Int), .int .i64 (x + 1)] wx (MPost wx g (b + 1) (.ok l r2 b2)) := fun wx s' hr hs' hsr => by
    have := terms_any d hT (by omega) g (b + 1) n s' (x + 1) wx hr (by omega) hs' hxd (by omega)
    rw [hsr, hm] at this
    exact this
  have hF : Fits (.mk 5 0 ⟨#[]⟩ l) := ⟨by show (-9223372036854775808 : Int) ≤ 5 ∧ (5 : Int) ≤ 9223372036854775807; omega, by show (0 : Int) ≤ 0 ∧ (0 : Int) < 18446744073709551616; omega, Nat.zero_le _⟩
  have HTm := Lib.hid hterms
  clear hterms hm hT hxd
  go_enter Try.func159, Try.ntmps159
  go_wp2_with (first
    | (go_at_call 173; refine (hcall _ (Blk.alloc hR1 _)).mono ?_; rintro e w' ⟨s', rfl, hr', hs', rfl⟩; have HR := lay hr'; clear hr'; have hR2 := Blk.alloc (Blk.alloc (rdr_rest (s' := s') hR1) (.cells #[.int .i64 0, .int .u64 0, .string ⟨#[]⟩, .slice none 0 0] 39)) (.cells #[.int .i64 5, .int .u64 0, .string ⟨#[]⟩, .slice none 0 0] 39))
    | (go_at_call 175; refine (HTm.out _ s' hR2 (by omega) HR.out).mono ?_; rintro e w3 ⟨hG, s3, A3, c3, hR3, hr3, hs3, hbb, hb4, rfl, hH⟩; have HR3 := lay hr3; clear hr3; obtain ⟨hB0, hB1⟩ := two_blocks hG (by simpa using hgw); simp only [World.size_setCell] at hB0 hB1; have q0 := hB0.cell 0; have q1 := hB0.cell 1; have q2 := hB0.cell 2; have q3 := hB0.cell 3; have p0 := hB1.cell 0; have p1 := hB1.cell 1; have p2 := hB1.cell 2; have p3 := hB1.cell 3; simp at q0 q1 q2 q3 p0 p1 p2 p3; have fq0 := hB0.frozen 0; have fq1 := hB0.frozen 1; have fq2 := hB0.frozen 2; have fq3 := hB0.frozen 3; have fp3 := hB1.frozen 3))
  refine bodyPost_ret (v := .tuple #[.agg #[.int .i64 5, .int .u64 0, .string ⟨#[]⟩, .slice A3 l.length c3], .int .i64 0]) (by simp [results, Try.results159, go_sem, q0, q1, q2, q3, p0, p1, p2, p3]) rfl ⟨?_, s3, A3, c3, ?_, HR3.out, hs3, by omega, hb4, rfl, ?_, hF⟩
  · exact five_grown (list_grown hG) _ _ _ _ _
  · exact five_rdr hR3 hgw _ _ _ _ _
  · exact five_held hH (by simp) _ _ _ _ _

end Go.Proofs.Ytjlglfjikfpboaa.reads

/- The program's reader of terms: term at a box; all of it; Decode. -/

namespace Go.Proofs.Ytjlglfjikfpboaa.reads
set_option linter.unusedVariables false
set_option linter.unusedSimpArgs false
open Go.RowKit Go.Proofs.Ytjlglfjikfpboaa.base Go.Proofs.Ytjlglfjikfpboaa.tm Go.Proofs.Ytjlglfjikfpboaa.lies Go.Proofs.Ytjlglfjikfpboaa.rights Go.Proofs.Ytjlglfjikfpboaa.copies Go.Proofs.Ytjlglfjikfpboaa.built

set_option maxRecDepth 100000 in
set_option maxHeartbeats 400000 in
theorem term_boxbad (d : Nat) (hT : TermAt d) (hd12 : d < 12) (g b n : Nat) (s : ByteArray) (r : List UInt8) (x : Int) (w : World) (hR : Rdr w g s b) (hb : b < 4000) (hs : s.size ≤ maxLen) (hxd : x + 1 = 12 - (d : Int)) (hh : hd s.data.toList = .ok 4 n r) (hn : n < 18446744073709551616) (err : Int) (hm : many (readT d) 1 r (b + 1) = .bad err) :
    Calls Try.prog 159 #[.pointer (some ⟨g, 0, none⟩), .int .i64 x] w (TPost w g b (.bad err)) := by
  have hx : x < 12 := by omega
  have hx0 : 0 ≤ x := by omega
  have hgw := hR.lt
  have z0 := hR.cell 0
  have z1 := hR.cell 1
  have f0 := hR.frozen 0
  have f1 := hR.frozen 1
  simp at z0 z1
  have d0 : ((b : Int) == 4000) = false := by simp; omega
  have d1 : (x == 12) = false := by simp; omega
  have hR1 := rdr_next hR
  have hcall := fun wx (h : Rdr wx g s (b + 1)) => head_any g (b + 1) s wx h hs
  rw [hh] at hcall
  clear hh
  have hterms : ∀ (wx : World) (s' : ByteArray), Rdr wx g s' (b + 1) → s'.size ≤ maxLen → s'.data.toList = r → Calls Try.prog 175 #[.pointer (some ⟨g, 0, none⟩), .int .u64 1, .int .i64 (x + 1)] wx (MPost wx g (b + 1) (.bad err)) := fun wx s' hr hs' hsr => by
    have := terms_any d hT (by omega) g (b + 1) 1 s' (x + 1) wx hr (by omega) hs' hxd (by omega)
    rw [hsr, hm] at this
    exact this
  have HTm := Lib.hid hterms
  clear hterms hm hT hxd
  go_enter Try.func159, Try.ntmps159
  go_wp2_with (first
    | (go_at_call 173; refine (hcall _ (Blk.alloc hR1 _)).mono ?_; rintro e w' ⟨s', rfl, hr', hs', rfl⟩; have HR := lay hr'; clear hr'; have hR2 := Blk.alloc (Blk.alloc (rdr_rest (s' := s') hR1) (.cells #[.int .i64 0, .int .u64 0, .string ⟨#[]⟩, .slice none 0 0] 39)) (.cells #[.int .i64 4, .int .u64 (n : Int), .string ⟨#[]⟩, .slice none 0 0] 39))
    | (go_at_call 175; refine (HTm.out _ s' hR2 (by omega) HR.out).mono ?_; rintro e w3 ⟨hG, hne, s3, b3, hR3, rfl⟩; have HN := lay hne; clear hne; obtain ⟨hB0, hB1⟩ := two_blocks hG (by simpa using hgw); simp only [World.size_setCell] at hB0 hB1; have q0 := hB0.cell 0; have q1 := hB0.cell 1; have q2 := hB0.cell 2; have q3 := hB0.cell 3; have p0 := hB1.cell 0; have p1 := hB1.cell 1; have p2 := hB1.cell 2; have p3 := hB1.cell 3; simp at q0 q1 q2 q3 p0 p1 p2 p3; have fq0 := hB0.frozen 0; have fq1 := hB0.frozen 1; have fq2 := hB0.frozen 2; have fq3 := hB0.frozen 3; have fp3 := hB1.frozen 3))
  refine bodyPost_ret (v := .tuple #[.agg #[.int .i64 4, .int .u64 (n : Int), .string ⟨#[]⟩, .slice none 0 0], .int .i64 err]) (by simp [results, Try.results159, go_sem, q0, q1, q2, q3, p0, p1, p2, p3]) rfl ⟨?_, HN.out, s3, b3, 4, n, ⟨#[]⟩, none, 0, 0, ?_, rfl⟩
  · exact five_grown (list_grown hG) _ _ _ _ _
  · exact five_rdr hR3 hgw _ _ _ _ _

set_option maxRecDepth 100000 in
set_option maxHeartbeats 400000 in
theorem term_boxok (d : Nat) (hT : TermAt d) (hd12 : d < 12) (g b n : Nat) (s : ByteArray) (r : List UInt8) (x : Int) (w : World) (hR : Rdr w g s b) (hb : b < 4000) (hs : s.size ≤ maxLen) (hxd : x + 1 = 12 - (d : Int)) (hh : hd s.data.toList = .ok 4 n r) (hn : n < 18446744073709551616) (l : List T) (r2 : List UInt8) (b2 : Nat) (hm : many (readT d) 1 r (b + 1) = .ok l r2 b2) :
    Calls Try.prog 159 #[.pointer (some ⟨g, 0, none⟩), .int .i64 x] w (TPost w g b (.ok (.mk 4 n ⟨#[]⟩ l) r2 b2)) := by
  have hx : x < 12 := by omega
  have hx0 : 0 ≤ x := by omega
  have hgw := hR.lt
  have z0 := hR.cell 0
  have z1 := hR.cell 1
  have f0 := hR.frozen 0
  have f1 := hR.frozen 1
  simp at z0 z1
  have d0 : ((b : Int) == 4000) = false := by simp; omega
  have d1 : (x == 12) = false := by simp; omega
  have hR1 := rdr_next hR
  have hcall := fun wx (h : Rdr wx g s (b + 1)) => head_any g (b + 1) s wx h hs
  rw [hh] at hcall
  clear hh
  have hterms : ∀ (wx : World) (s' : ByteArray), Rdr wx g s' (b + 1) → s'.size ≤ maxLen → s'.data.toList = r → Calls Try.prog 175 #[.pointer (some ⟨g, 0, none⟩), .int .u64 1, .int .i64 (x + 1)] wx (MPost wx g (b + 1) (.ok l r2 b2)) := fun wx s' hr hs' hsr => by
    have := terms_any d hT (by omega) g (b + 1) 1 s' (x + 1) wx hr (by omega) hs' hxd (by omega)
    rw [hsr, hm] at this
    exact this
  have hF : Fits (.mk 4 n ⟨#[]⟩ l) := ⟨by show (-9223372036854775808 : Int) ≤ 4 ∧ (4 : Int) ≤ 9223372036854775807; omega, by show (0 : Int) ≤ (n : Int) ∧ (n : Int) < 18446744073709551616; omega, Nat.zero_le _⟩
  have HTm := Lib.hid hterms
  clear hterms hm hT hxd
  go_enter Try.func159, Try.ntmps159
  go_wp2_with (first
    | (go_at_call 173; refine (hcall _ (Blk.alloc hR1 _)).mono ?_; rintro e w' ⟨s', rfl, hr', hs', rfl⟩; have HR := lay hr'; clear hr'; have hR2 := Blk.alloc (Blk.alloc (rdr_rest (s' := s') hR1) (.cells #[.int .i64 0, .int .u64 0, .string ⟨#[]⟩, .slice none 0 0] 39)) (.cells #[.int .i64 4, .int .u64 (n : Int), .string ⟨#[]⟩, .slice none 0 0] 39))
    | (go_at_call 175; refine (HTm.out _ s' hR2 (by omega) HR.out).mono ?_; rintro e w3 ⟨hG, s3, A3, c3, hR3, hr3, hs3, hbb, hb4, rfl, hH⟩; have HR3 := lay hr3; clear hr3; obtain ⟨hB0, hB1⟩ := two_blocks hG (by simpa using hgw); simp only [World.size_setCell] at hB0 hB1; have q0 := hB0.cell 0; have q1 := hB0.cell 1; have q2 := hB0.cell 2; have q3 := hB0.cell 3; have p0 := hB1.cell 0; have p1 := hB1.cell 1; have p2 := hB1.cell 2; have p3 := hB1.cell 3; simp at q0 q1 q2 q3 p0 p1 p2 p3; have fq0 := hB0.frozen 0; have fq1 := hB0.frozen 1; have fq2 := hB0.frozen 2; have fq3 := hB0.frozen 3; have fp3 := hB1.frozen 3))
  refine bodyPost_ret (v := .tuple #[.agg #[.int .i64 4, .int .u64 (n : Int), .string ⟨#[]⟩, .slice A3 l.length c3], .int .i64 0]) (by simp [results, Try.results159, go_sem, q0, q1, q2, q3, p0, p1, p2, p3]) rfl ⟨?_, s3, A3, c3, ?_, HR3.out, hs3, by omega, hb4, rfl, ?_, hF⟩
  · exact five_grown (list_grown hG) _ _ _ _ _
  · exact five_rdr hR3 hgw _ _ _ _ _
  · exact five_held hH (by simp) _ _ _ _ _

theorem hd_ok {l r : List UInt8} {k n : Nat} (h : hd l = .ok k n r) : 1 ≤ k ∧ k ≤ 5 ∧ n < 18446744073709551616 := by
  cases l with
  | nil => simp [hd] at h
  | cons c q =>
    simp only [hd] at h
    split at h
    · cases h
    · split at h
      · cases h
      · rename_i hq
        injection h with e1 e2 e3
        subst e1 e2
        exact ⟨by omega, by omega, (getL_back hq).1⟩

theorem term_all (d : Nat) : TermAt d := by
  induction d with
  | zero =>
    intro g b s x w hR hb hs hx _
    obtain rfl : x = 12 := by simpa using hx
    unfold readT
    by_cases h : 4000 ≤ b
    · rw [if_pos h]; exact term_many g b s _ w hR (by omega)
    · rw [if_neg h]; exact term_deep g b s w hR (by omega)
  | succ d ih =>
    intro g b s x w hR hb hs hx hd12
    have hx12 : x < 12 := by omega
    have hxd : x + 1 = 12 - (d : Int) := by omega
    unfold readT
    by_cases h : 4000 ≤ b
    · rw [if_pos h]; exact term_many g b s _ w hR (by omega)
    · rw [if_neg h]
      cases hh : hd s.data.toList with
      | bad err => exact term_headbad g b s x err w hR (by omega) hs hx12 hh
      | ok k n r =>
        obtain ⟨hk1, hk5, hn⟩ := hd_ok hh
        simp only [body]
        by_cases h2 : k = 2
        · subst h2
          rw [if_pos rfl]
          by_cases c1 : 4000 < n
          · rw [if_pos c1]; exact term_atombad g b n s r x w hR (by omega) hs hx12 hh hn 25 (.inl ⟨c1, rfl⟩)
          · rw [if_neg c1]
            by_cases c2 : r.length < n
            · rw [if_pos c2]; exact term_atombad g b n s r x w hR (by omega) hs hx12 hh hn 20 (.inr ⟨c1, c2, rfl⟩)
            · rw [if_neg c2]; exact term_atomok g b n s r x w hR (by omega) hs hx12 hh hn c1 c2
        · rw [if_neg h2]
          by_cases h5 : k = 5
          · subst h5
            rw [if_pos rfl]
            cases hm : many (readT d) n r (b + 1) with
            | bad err => exact term_rowbad d ih (by omega) g b n s r x w hR (by omega) hs hxd hh hn err hm
            | ok l r2 b2 => exact term_rowok d ih (by omega) g b n s r x w hR (by omega) hs hxd hh hn l r2 b2 hm
          · rw [if_neg h5]
            by_cases h4 : k = 4
            · subst h4
              rw [if_pos rfl]
              cases hm : many (readT d) 1 r (b + 1) with
              | bad err => exact term_boxbad d ih (by omega) g b n s r x w hR (by omega) hs hxd hh hn err hm
              | ok l r2 b2 => exact term_boxok d ih (by omega) g b n s r x w hR (by omega) hs hxd hh hn l r2 b2 hm
            · rw [if_neg h4]
              exact term_num g b k n s r x w hR (by omega) hs hx12 hh (by omega) hn

theorem dec_below {w w2 : World} {o o' : Obj} (hG : ((w.alloc o).alloc o').grownBy w2 (some (w.heap.size + 1))) (a b c d : Value) (q : Obj) : Below w.heap.size w ((four w2 w.heap.size 0 a b c d).alloc q) := by
  have h : Below w.heap.size w w2 := (((Below.refl _ _).alloc (Nat.le_refl _) o).alloc (by simp) o').grown hG (by simp; omega) (fun k hk => by simp at hk; omega)
  exact (four_below h (Nat.le_refl _) a b c d).alloc (by rw [four_size]; exact h.size) q
theorem dec_lies {w w2 : World} {o o' : Obj} (hG : ((w.alloc o).alloc o').grownBy w2 (some (w.heap.size + 1))) {t : T} {v : Value} (hH : Held w2 ((w.alloc o).alloc o').heap.size w2.heap.size t.l v) (hF : Fits t) (a b c d : Value) (q : Obj) :
    Lies ((four w2 w.heap.size 0 a b c d).alloc q) ((four w2 w.heap.size 0 a b c d).alloc q).heap.size t v := by
  have hz := hG.size
  simp only [World.size_alloc] at hz
  refine Held.lies (lo := ((w.alloc o).alloc o').heap.size) (hi := w2.heap.size) (hH.move (Nat.le_refl _) (Nat.le_refl _) fun p p1 p2 => ?_) hF.1 hF.2.1 hF.2.2 (by rw [World.size_alloc, four_size]; omega)
  simp only [World.size_alloc] at p1
  rw [World.cell?_alloc_lt _ _ _ (by rw [four_size]; exact p2), four_cell _ _ _ _ _ _ _ _ (by omega)]

/-- what Decode leaves -/
def DPost (W : World) (r : Dec) (e : Ending) (w' : World) : Prop :=
  Below W.heap.size W w' ∧ match r with
  | .bad err => err ≠ 0 ∧ e = .returned (.tuple #[.agg #[.int .i64 0, .int .u64 0, .string ⟨#[]⟩, .slice none 0 0], .int .i64 err])
  | .ok t => ∃ (A : Option Addr) (c : Nat), e = .returned (.tuple #[.agg #[.int .i64 t.k, .int .u64 t.n, .string t.s, .slice A t.l.length c], .int .i64 0]) ∧ Lies w' w'.heap.size t (.slice A t.l.length c)

set_option maxRecDepth 100000 in
set_option maxHeartbeats 400000 in
theorem decode_any (s : ByteArray) (w : World) (hs : s.size ≤ maxLen) :
    Calls Try.prog 124 #[.string s] w (DPost w (tm.decode s.data.toList)) := by
  have hR : Rdr ((w.alloc (.cells #[.int .i64 0, .int .u64 0, .string ⟨#[]⟩, .slice none 0 0] 39)).alloc (.cells #[.string s, .int .i64 0] 210)) (w.heap.size + 1) s 0 := by
    have := Blk.new (w.alloc (.cells #[.int .i64 0, .int .u64 0, .string ⟨#[]⟩, .slice none 0 0] 39)) 210 #[.string s, .int .i64 0]
    simp only [World.size_alloc] at this
    exact this
  have hres := (Blk.new w 39 #[.int .i64 0, .int .u64 0, .string ⟨#[]⟩, .slice none 0 0]).alloc (.cells #[.string s, .int .i64 0] 210)
  have hcall := term_all 12 (w.heap.size + 1) 0 s 0 _ hR (by omega) hs (by omega) (Nat.le_refl _)
  cases hq : readT 12 s.data.toList 0 with
  | bad err =>
    have HD := lay (show tm.decode s.data.toList = .bad err by unfold tm.decode; rw [hq])
    rw [hq] at hcall
    rw [HD.out]
    clear hq
    go_enter Try.func124, Try.ntmps124
    go_wp2_with fail
    refine hcall.mono ?_
    rintro e w2 ⟨hG, hne, s2, b2, k2, n2, z2, A2, m2, c2, hR2, rfl⟩
    have d1 : (err == 0) = false := by simpa using hne
    have d2 : (err != 0) = true := by simpa using hne
    have HN := lay hne
    clear hne
    have hB0 : Blk w2 w.heap.size 39 #[.int .i64 0, .int .u64 0, .string ⟨#[]⟩, .slice none 0 0] := (hG.block _ hres.lt (by simp)).trans hres
    have q0 := hB0.cell 0
    have q1 := hB0.cell 1
    have q2 := hB0.cell 2
    have q3 := hB0.cell 3
    simp at q0 q1 q2 q3
    have fq0 := hB0.frozen 0
    have fq1 := hB0.frozen 1
    have fq2 := hB0.frozen 2
    have fq3 := hB0.frozen 3
    have v0 := hR2.cell 0
    simp at v0
    have hz2 : w.heap.size + 1 < w2.heap.size := by have := hG.size; simp at this; omega
    have hz3 : w.heap.size < w2.heap.size := by omega
    go_wp2_with fail
    refine bodyPost_ret (v := .tuple #[.agg #[.int .i64 0, .int .u64 0, .string ⟨#[]⟩, .slice none 0 0], .int .i64 err]) (by simp [results, Try.results124, go_sem, q0, q1, q2, q3, hz2, hz3]) rfl ?_
    exact ⟨dec_below hG _ _ _ _ _, HN.out, rfl⟩
  | ok t r b =>
    rw [hq] at hcall
    by_cases hr : r = []
    · have HD := lay (show tm.decode s.data.toList = .ok t by unfold tm.decode; rw [hq]; exact if_pos hr)
      rw [HD.out]
      clear hq
      go_enter Try.func124, Try.ntmps124
      go_wp2_with fail
      refine hcall.mono ?_
      rintro e w2 ⟨hG, s2, A2, c2, hR2, hr2, hs2, hbb, hb4, rfl, hH, hF⟩
      have e0 : s2.toList = [] := by rw [tm.toList_eq, hr2, hr]
      clear hr hr2
      have hB0 : Blk w2 w.heap.size 39 #[.int .i64 0, .int .u64 0, .string ⟨#[]⟩, .slice none 0 0] := (hG.block _ hres.lt (by simp)).trans hres
      have q0 := hB0.cell 0
      have q1 := hB0.cell 1
      have q2 := hB0.cell 2
      have q3 := hB0.cell 3
      simp at q0 q1 q2 q3
      have fq0 := hB0.frozen 0
      have fq1 := hB0.frozen 1
      have fq2 := hB0.frozen 2
      have fq3 := hB0.frozen 3
      have v0 := hR2.cell 0
      simp at v0
      have hz2 : w.heap.size + 1 < w2.heap.size := by have := hG.size; simp at this; omega
      have hz3 : w.heap.size < w2.heap.size := by omega
      go_wp2_with fail
      refine bodyPost_ret (v := .tuple #[.agg #[.int .i64 t.k, .int .u64 t.n, .string t.s, .slice A2 t.l.length c2], .int .i64 0]) (by simp [results, Try.results124, go_sem, q0, q1, q2, q3, hz2, hz3]) rfl ?_
      exact ⟨dec_below hG _ _ _ _ _, A2, c2, rfl, dec_lies hG hH hF _ _ _ _ _⟩
    · have HD := lay (show tm.decode s.data.toList = .bad 24 by unfold tm.decode; rw [hq]; exact if_neg hr)
      rw [HD.out]
      clear hq
      go_enter Try.func124, Try.ntmps124
      go_wp2_with fail
      refine hcall.mono ?_
      rintro e w2 ⟨hG, s2, A2, c2, hR2, hr2, hs2, hbb, hb4, rfl, hH, hF⟩
      have e0 : s2.toList.isEmpty = false := by rw [tm.toList_eq, hr2]; simpa using hr
      clear hr hr2
      have hB0 : Blk w2 w.heap.size 39 #[.int .i64 0, .int .u64 0, .string ⟨#[]⟩, .slice none 0 0] := (hG.block _ hres.lt (by simp)).trans hres
      have q0 := hB0.cell 0
      have q1 := hB0.cell 1
      have q2 := hB0.cell 2
      have q3 := hB0.cell 3
      simp at q0 q1 q2 q3
      have fq0 := hB0.frozen 0
      have fq1 := hB0.frozen 1
      have fq2 := hB0.frozen 2
      have fq3 := hB0.frozen 3
      have v0 := hR2.cell 0
      simp at v0
      have hz2 : w.heap.size + 1 < w2.heap.size := by have := hG.size; simp at this; omega
      have hz3 : w.heap.size < w2.heap.size := by omega
      go_wp2_with fail
      refine bodyPost_ret (v := .tuple #[.agg #[.int .i64 0, .int .u64 0, .string ⟨#[]⟩, .slice none 0 0], .int .i64 24]) (by simp [results, Try.results124, go_sem, q0, q1, q2, q3, hz2, hz3]) rfl ?_
      exact ⟨dec_below hG _ _ _ _ _, by decide, rfl⟩
end Go.Proofs.Ytjlglfjikfpboaa.reads
