/- A row of bytes that the calls build by append: what it holds, what an append leaves; appendNum and PutNum, the program's and the document's own. -/
import Derived.Test.YtoenkkbcpafanaaA31
import Derived.Lib.AppendStr
import Derived.Laws.IdiomStrings
import Derived.Lib.BufferRead
import Derived.Deep.RegionHeld3
import Derived.Test.YtoenkkbcpafanaaA30


namespace Go.Proofs.Ytoenkkbcpafanaa.bytes
set_option linter.unusedVariables false
set_option linter.unusedSimpArgs false
open Go.RowKit Go.Proofs.Ytoenkkbcpafanaa.base Go.Proofs.Ytoenkkbcpafanaa.tm Go.Proofs.Ytoenkkbcpafanaa.sevens

/-- bytes as cells -/
def bys (l : List UInt8) : List Value := l.map fun b => .int .u8 (b.toNat : Int)
theorem bys_append (l m : List UInt8) : bys (l ++ m) = bys l ++ bys m := by simp [bys]
theorem bys_one (l : List UInt8) : ∀ u ∈ bys l, u.oneCell' = true := by
  intro u hu
  obtain ⟨z, _, rfl⟩ := List.mem_map.1 hu
  rfl
theorem info5 : (Try.prog.info? 5).map (fun i => (i.zero, i.size, i.bytes)) = some (some (.int .u8 0), 1, 1) := by kernel_rfl

/-- from w to w' only rows of bytes from block B on, and what is new, have turned; v' is such a row, of the bytes l' -/
structure Ext (B : Nat) (w w' : World) (v' : Value) (l' : List UInt8) : Prop where
  own : w'.ownsRow B 5 1 v' l'.length (bys l')
  below : Below B w w'
  kept : ∀ g T cs, T ≠ 5 → Blk w g T cs → Blk w' g T cs

section
variable {B : Nat} {w w' w'' : World} {v v' v'' : Value} {l l' l'' : List UInt8}
theorem Ext.nil (w : World) (B : Nat) : Ext B w w (.slice none 0 0) [] := ⟨⟨by simp [bys], .inl ⟨rfl, rfl⟩⟩, Below.refl _ _, fun _ _ _ _ h => h⟩
theorem Ext.refl (h : Ext B w w' v' l') : Ext B w' w' v' l' := ⟨h.own, Below.refl _ _, fun _ _ _ _ h => h⟩
theorem Ext.trans (h : Ext B w w' v' l') (k : Ext B w' w'' v'' l'') : Ext B w w'' v'' l'' := ⟨k.own, h.below.trans k.below, fun g T cs ht hb => k.kept g T cs ht (h.kept g T cs ht hb)⟩
theorem Ext.alloc (h : Ext B w w' v' l') (hB : B ≤ w'.heap.size) (o : Obj) : Ext B w (w'.alloc o) v' l' := ⟨h.own.alloc o, h.below.alloc hB o, fun g T cs ht hb => (h.kept g T cs ht hb).alloc o⟩
theorem Ext.drewN (h : Ext B w w' v' l') (n : Nat) : Ext B w (w'.drewN n) v' l' := ⟨h.own, ⟨h.below.os, h.below.tape, h.below.output, h.below.size, h.below.block⟩, h.kept⟩
theorem Ext.size (h : Ext B w w' v' l') : w.heap.size ≤ w'.heap.size := h.below.size
theorem Ext.step (h : Ext B w w' v l) (hB : B ≤ w'.heap.size) (ho : w''.ownsRow B 5 1 v' l'.length (bys l')) (hg : w'.grownBy w'' v.ownBlock) : Ext B w w'' v' l' := by
  refine ⟨ho, h.below.grown hg hB ?_, fun g T cs ht hb => ?_⟩
  · intro k hk
    rcases h.own.2 with ⟨rfl, _⟩ | ⟨g, cap, cur, rfl, hb, _⟩
    · simp [Value.ownBlock] at hk
    · simp [Value.ownBlock] at hk; omega
  · have h1 := h.kept g T cs ht hb
    refine (hg.block g h1.lt fun e => ?_).trans h1
    rcases h.own.2 with ⟨rfl, _⟩ | ⟨g', cap, cur, rfl, _, hh, _⟩
    · simp [Value.ownBlock] at e
    · simp [Value.ownBlock] at e
      subst e
      unfold Blk at h1
      rw [hh] at h1
      injection h1 with h1
      injection h1 with _ h1
      exact ht h1.symm
theorem Ext.string (h : Ext B w w' v l) : (Go.convert 260 9 v).run Try.prog w' = .ok (.string ⟨l.toArray⟩) w' := by
  rcases h.own.2 with ⟨rfl, hn⟩ | ⟨g, cap, cur, rfl, _, hg, _, _, _, ht⟩
  · obtain rfl := List.eq_nil_of_length_eq_zero hn
    exact Lib.run_convert_nil_bytes w' _ _ _ 0 Try.underlying260 Try.underlying5 Try.underlying9
  · exact run_convert_bytes_back w' _ _ _ _ cap l Try.underlying260 Try.underlying5 Try.underlying9 (Lib.bytes_of_row hg (by simp only [Nat.mul_one] at ht; exact ht))
end

section
variable {P : Program}
/-- append of one byte -/
theorem wpList_append_u8 {ops : Array Oper} {rest : List Oper} {o : Oper} {a : Act} {Q : Exit → Act → World → Prop} (hgd : o.guard = none) (s x : Operand)
    (ho : o.op = .call { callee := .builtin .append, args := #[s, x], argTypes := #[260, 260] })
    {B : Nat} {w0 w : World} {v : Value} {l : List UInt8} (hs : a.eval s = v) (hE : Ext B w0 w v l) (hB : B ≤ w.heap.size) (z : Int) (b : UInt8) (hz : z = (b.toNat : Int))
    {n : Nat} (hx : a.eval x = .slice (some ⟨n, 0, none⟩) 1 1) (hnz : n = w.heap.size) (hlen : l.length + 1 ≤ 140737488355328)
    (h : ∀ v' w', Ext B w0 w' v' (l ++ [b]) → w.heap.size ≤ w'.heap.size → wpList Try.prog ops Q rest (a.put o.dst v') w') : wpList Try.prog ops Q (o :: rest) a (w.alloc (.cells #[.int .u8 z] 5)) := by
  subst hz hnz
  obtain ⟨i0, hi, hz0, hz1, hz2⟩ := info_parts info5
  have hE1 := hE.alloc hB (.cells #[.int .u8 (b.toNat : Int)] 5)
  refine wpList_append_own _ hgd s x 260 ho B 5 i0 (.int .u8 0) 1 1 Try.underlying260 hi hz0 hz1 hz2 rfl (by decide) v l.length (bys l) hs hE1.own ⟨w.heap.size, 0, none⟩ 1 1 [.int .u8 (b.toNat : Int)] hx rfl ?_ ?_ (by unfold maxLen; omega) (by omega) (by simp; omega) ?_
  · intro j u hj
    match j, hj with
    | 0, hj => simp at hj; subst hj; simp [Addr.add]
    | (j + 1), hj => simp at hj
  · intro u hu; simp at hu; subst hu; rfl
  · intro v' w' ho' hg _
    refine h v' w' (hE1.step (by simp; omega) ?_ hg) (by have := hg.size; simp at this; omega)
    rw [bys_append, List.length_append]
    exact ho'
/-- append of a string's bytes -/
theorem wpList_append_str {ops : Array Oper} {rest : List Oper} {o : Oper} {a : Act} {Q : Exit → Act → World → Prop} (hgd : o.guard = none) (s x : Operand)
    (ho : o.op = .call { callee := .builtin .append, args := #[s, x], argTypes := #[260, 9] })
    {B : Nat} {w0 w : World} {v : Value} {l : List UInt8} (hs : a.eval s = v) (hE : Ext B w0 w v l) (hB : B ≤ w.heap.size) (t : ByteArray)
    (hx : a.eval x = .string t) (hlen : l.length + t.size ≤ 140737488355328)
    (h : ∀ v' w', Ext B w0 w' v' (l ++ t.data.toList) → w.heap.size ≤ w'.heap.size → wpList Try.prog ops Q rest (a.put o.dst v') w') : wpList Try.prog ops Q (o :: rest) a w := by
  obtain ⟨i0, hi, hz0, hz1, hz2⟩ := info_parts info5
  refine Lib.wpList_append_own_string _ hgd s x 260 9 ho B 5 i0 Try.underlying260 Try.underlying9 hi hz0 hz1 hz2 v l.length (bys l) hs hE.own t hx (by unfold maxLen; omega) hlen hB ?_
  intro v' w' ho' hg _
  refine h v' w' (hE.step hB ?_ hg) hg.size
  rw [bys_append, List.length_append]
  have : (t.data.toList).length = t.size := by simp
  rw [this]
  exact ho'
end
end Go.Proofs.Ytoenkkbcpafanaa.bytes

/- appendNum and PutNum, the program's and the document's own. -/

namespace Go.Proofs.Ytoenkkbcpafanaa.put
set_option linter.unusedVariables false
set_option linter.unusedSimpArgs false
open Go.RowKit Go.Proofs.Ytoenkkbcpafanaa.base Go.Proofs.Ytoenkkbcpafanaa.tm Go.Proofs.Ytoenkkbcpafanaa.sevens Go.Proofs.Ytoenkkbcpafanaa.bytes

def hib (m : Nat) : UInt8 := UInt8.ofNat (m % 128 + 128)
theorem or_val (m : Nat) : bits BinOp.or IntKind.u8 ((m : Int) % 256) 128 = ((hib m).toNat : Int) := by
  rw [hib, ofNat_to (by omega), show (m : Int) % 256 = ((m % 256 : Nat) : Int) from rfl, show ((128 : Int)) = ((128 : Nat) : Int) from rfl, u8_or_nat _ _ (by omega) (by omega)]
  congr 1
  have h : m % 256 = m % 128 + m % 256 / 128 * 128 := by omega
  by_cases h1 : 128 ≤ m % 256
  · have e : m % 256 = 2 ^ 7 ||| m % 128 := by
      rw [nat_join 7 _ _ (by decide) (by omega)]; omega
    rw [e, Nat.or_comm (2 ^ 7), Nat.or_assoc, show (2 : Nat) ^ 7 ||| 128 = 128 from by decide, Nat.or_comm, nat_join 7 _ _ (by decide) (by omega), Nat.add_comm]
  · rw [show m % 256 = m % 128 from by omega, Nat.or_comm, nat_join 7 _ _ (by decide) (by omega), Nat.add_comm]
theorem add_val (m : Nat) : ((m : Int) % 128 + 128) = ((hib m).toNat : Int) := by
  rw [hib, ofNat_to (by omega)]; omega
theorem low_val {m : Nat} (h : ¬ 128 ≤ m) : (m : Int) = ((UInt8.ofNat m).toNat : Int) := by rw [ofNat_to (by omega)]

theorem lay {p : Prop} (h : p) : Hid p := h

def Head (B : Nat) (w0 : World) (S : Nat) (l : List UInt8) (n : Nat) (v x : Value) (wr : World) : Prop :=
  ∃ (m : Nat) (l' : List UInt8), Ext B w0 wr v l' ∧ B ≤ wr.heap.size ∧ S ≤ wr.heap.size ∧ m < 18446744073709551616 ∧ x = .int .u64 m ∧ Hid (l ++ putL n = l' ++ putL m) ∧ l'.length + (putL m).length ≤ l.length + 10

theorem head_next {B : Nat} {w0 : World} {S n m : Nat} {l l' : List UInt8} {v : Value} {wr w1 : World} (hE : Ext B w0 w1 v (l' ++ [hib m])) (hB : B ≤ wr.heap.size) (hS : S ≤ wr.heap.size) (hz : wr.heap.size ≤ w1.heap.size)
    (hm : m < 18446744073709551616) (h : 128 ≤ m) (HL : l ++ putL n = l' ++ putL m) (hlen : l'.length + (putL m).length ≤ l.length + 10) :
    Head B w0 S l n v (.int .u64 ((m : Int) / 128)) w1 := by
  rw [putL_hi (n := m) (by omega)] at HL hlen
  refine ⟨m / 128, _, hE, by omega, by omega, by omega, rfl, lay (by rw [HL, List.append_assoc]; rfl), ?_⟩
  simp only [List.length_append, List.length_cons, List.length_nil] at hlen ⊢
  omega

set_option maxRecDepth 100000 in
set_option maxHeartbeats 400000 in
theorem appendNum_any (B : Nat) (v : Value) (l : List UInt8) (n : Nat) (w0 w : World) (hE : Ext B w0 w v l) (hB : B ≤ w.heap.size) (hn : n < 18446744073709551616) (hl : l.length + 20 ≤ 140737488355328) :
    Calls Try.prog 268 #[v, .int .u64 n] w fun e w' => ∃ v', e = .returned v' ∧ Ext B w0 w' v' (l ++ putL n) ∧ w.heap.size ≤ w'.heap.size := by
  have hp := putL_ten hn
  go_enter Try.func268, Try.ntmps268
  go_wp2_with fail
  go_loopw [0, 1] (fun v x wr => Head B w0 w.heap.size l n v x wr) (fun _ x _ => (intOf x).toNat)
  case atStart => exact ⟨n, l, hE, hB, Nat.le_refl _, hn, rfl, rfl, by omega⟩
  case round =>
    obtain ⟨m, l', hE', hB', hS, hm, rfl, HL, hlen⟩ := hrel
    have hm1 := (putL_ten hm).1
    by_cases hlt : 128 ≤ m
    · go_wp2_with (at_builtin; refine wpList_append_u8 rfl _ _ rfl rfl hE' hB' _ (hib m) ?c1 rfl rfl ?c2 ?next)
      case c1 => exact or_val m
      case c2 => omega
      case next =>
        intro v1 w1 hE1 hsz
        go_wp2_with fail
        exact ⟨head_next hE1 hB' hS hsz hm hlt HL.out hlen, by simp [intOf]; omega⟩
    · go_wp2_with (at_builtin; refine wpList_append_u8 rfl _ _ rfl rfl hE' hB' _ (UInt8.ofNat m) ?d1 rfl rfl ?d2 ?next)
      case d1 => exact low_val hlt
      case d2 => omega
      case next =>
        intro v1 w1 hE1 hsz
        go_wp2_with fail
        go_ret
        refine ⟨v1, rfl, ?_, by omega⟩
        rw [HL.out, putL_lo (by omega)]
        exact hE1

theorem empty_row (w : World) : Ext w.heap.size w (w.alloc (.cells #[] 5)) (.slice (some ⟨w.heap.size, 0, none⟩) 0 0) [] :=
  ⟨⟨rfl, .inr ⟨w.heap.size, 0, #[], rfl, Nat.le_refl _, heap_alloc_new w _, Nat.le_refl _, Nat.zero_le _, rfl, rfl⟩⟩, (Below.refl _ _).alloc (Nat.le_refl _) _, fun _ _ _ _ h => h.alloc _⟩

end Go.Proofs.Ytoenkkbcpafanaa.put

/- Numbers in sevens: what the document's own GetNum does. -/

namespace Go.Proofs.Ytoenkkbcpafanaa.sevens
set_option linter.unusedVariables false
set_option linter.unusedSimpArgs false
open Go.RowKit Go.Proofs.Ytoenkkbcpafanaa.base Go.Proofs.Ytoenkkbcpafanaa.tm

theorem mul_val (acc b k u : Nat) (hacc : acc < 128 ^ k) (hk : k ≤ 9) (hb : b < 256) (h9 : k = 9 → b ≤ 1) (hu : u = 128 ^ k) :
    IntKind.u64.wrap ((acc : Int) + IntKind.u64.wrap ((b : Int) % 128 * (u : Int))) = ((acc + b % 128 * 128 ^ k : Nat) : Int) := by
  subst hu
  have hp : 0 < 128 ^ k := Nat.pow_pos (by omega)
  have hlt : acc + b % 128 * 128 ^ k < 18446744073709551616 := by
    by_cases h : k = 9
    · have := h9 h
      subst h
      rw [pow9] at hacc ⊢
      omega
    · have h8 : 128 ^ k ≤ 128 ^ 8 := Nat.pow_le_pow_right (by omega) (by omega)
      have : b % 128 * 128 ^ k ≤ 127 * 128 ^ k := Nat.mul_le_mul_right _ (by omega)
      have h88 : 128 ^ 8 = 72057594037927936 := by decide
      omega
  rw [show (b : Int) % 128 = ((b % 128 : Nat) : Int) from rfl, ← Int.natCast_mul, IntKind.wrap_u64, IntKind.wrap_u64]
  omega

/-- what the loop's head knows -/
def HeadR (s : ByteArray) (n x i : Value) : Prop :=
  ∃ k acc u : Nat, k ≤ s.size ∧ k ≤ 9 ∧ acc < 128 ^ k ∧ Hid (u = 128 ^ k) ∧ u ≤ 9223372036854775808 ∧ n = .int .u64 acc ∧ x = .int .u64 u ∧ i = .int .i64 k ∧ Hid (getL s.data.toList = getFrom k acc (s.data.toList.drop k))

theorem headR_next {s : ByteArray} {k acc u : Nat} (h : k < s.size) (hk : k ≤ 9) (hacc : acc < 128 ^ k) (hu : u = 128 ^ k) (hg : getL s.data.toList = getFrom k acc (s.data.toList.drop k)) (h9 : ¬ k = 9) (h128 : 128 ≤ s[k].toNat) :
    HeadR s (.int .u64 ((acc + s[k].toNat % 128 * 128 ^ k : Nat) : Int)) (.int .u64 (IntKind.u64.wrap ((u : Int) * 128))) (.int .i64 ((k : Int) + 1)) := by
  obtain ⟨k', acc', h1, h2, h3, h4, h5, h6⟩ := head_next h hk hacc hg h9 h128
  injection h4 with _ h4
  injection h5 with _ h5
  have e1 : k' = k + 1 := by omega
  have e2 : acc' = acc + s[k].toNat % 128 * 128 ^ k := by omega
  have h8 : 128 ^ k ≤ 128 ^ 8 := Nat.pow_le_pow_right (by omega) (by omega)
  have h88 : 128 ^ 8 = 72057594037927936 := by decide
  subst e1 e2
  refine ⟨k + 1, _, 128 ^ (k + 1), h1, h2, h3, rfl, pow_le9 h2, rfl, ?_, rfl, h6⟩
  rw [hu, IntKind.wrap_u64, Nat.pow_succ]
  congr 1
  omega

end Go.Proofs.Ytoenkkbcpafanaa.sevens

/- The walks of the laws TermNumbers and TermNumbersBack: each answers true and writes nothing that was there. -/

namespace Go.Proofs.Ytoenkkbcpafanaa.numLaws
set_option linter.unusedVariables false
set_option linter.unusedSimpArgs false
open Go.RowKit Go.Proofs.Ytoenkkbcpafanaa.base Go.Proofs.Ytoenkkbcpafanaa.tm Go.Proofs.Ytoenkkbcpafanaa.sevens Go.Proofs.Ytoenkkbcpafanaa.bytes Go.Proofs.Ytoenkkbcpafanaa.put

theorem getNum_ok {s : ByteArray} {n k : Nat} (h : getL s.data.toList = .ok n k) (hs : s.size ≤ maxLen) (w : World) :
    Calls Try.prog 326 #[.string s] w fun e w' => e = .returned (.tuple #[.int .u64 n, .int .i64 k, .int .i64 0]) ∧ w = w' := by
  have := getNum_any s w hs
  rwa [h] at this
theorem getNum_bad {s : ByteArray} {n : Int} (h : getL s.data.toList = .bad n) (hs : s.size ≤ maxLen) (w : World) :
    Calls Try.prog 326 #[.string s] w fun e w' => e = .returned (.tuple #[.int .u64 0, .int .i64 0, .int .i64 n]) ∧ w = w' := by
  have := getNum_any s w hs
  rwa [h] at this
theorem list_str (l : List UInt8) : (⟨l.toArray⟩ : ByteArray).toList = l := by rw [ByteArray.toList_eq]
theorem cat_list (l : List UInt8) (m : ByteArray) : ((⟨l.toArray⟩ : ByteArray) ++ m).data.toList = l ++ m.data.toList := by simp
theorem cat_size (l : List UInt8) (m : ByteArray) : ((⟨l.toArray⟩ : ByteArray) ++ m).size = l.length + m.size := by rw [ByteArray.size_append]; rfl
theorem cut_list (s : ByteArray) (k : Nat) : (s.extract 0 k).data.toList = s.data.toList.take k := by simp
theorem cut_size (s : ByteArray) (k : Nat) (h : k ≤ s.size) : (s.extract 0 k).size = k := by simp; omega
theorem cut_put {s : ByteArray} {n k : Nat} (h : getL s.data.toList = .ok n k) : s.extract 0 k = ⟨(putL n).toArray⟩ := by
  apply ByteArray.ext
  apply Array.toList_inj.1
  rw [cut_list, (getL_back h).2.2]

end Go.Proofs.Ytoenkkbcpafanaa.numLaws

/- The program's reader of terms: head and atom. -/

namespace Go.Proofs.Ytoenkkbcpafanaa.reads
set_option linter.unusedVariables false
set_option linter.unusedSimpArgs false
open Go.RowKit Go.Proofs.Ytoenkkbcpafanaa.base Go.Proofs.Ytoenkkbcpafanaa.tm Go.Proofs.Ytoenkkbcpafanaa.lies Go.Proofs.Ytoenkkbcpafanaa.rights Go.Proofs.Ytoenkkbcpafanaa.copies Go.Proofs.Ytoenkkbcpafanaa.numLaws

/-- the reader at block g -/
def Rdr (w : World) (g : Nat) (s : ByteArray) (b : Nat) : Prop := Blk w g 389 #[.string s, .int .i64 b]

theorem tail_list (s : ByteArray) (k : Nat) : (s.extract k s.size).data.toList = s.data.toList.drop k := by
  simp
  exact List.take_of_length_le (by simp)
theorem tail_size (s : ByteArray) (k : Nat) : (s.extract k s.size).size ≤ s.size := by simp
theorem nonempty {s : ByteArray} {k : UInt8} {r : List UInt8} (h : s.data.toList = k :: r) : 0 < s.size ∧ s.toList.isEmpty = false := by
  have h1 := congrArg List.length h
  have h2 : s.data.toList.length = s.size := by simp
  rw [tm.toList_eq, h]
  simp at h1
  exact ⟨by omega, rfl⟩

set_option maxRecDepth 100000 in
theorem head_any (g b : Nat) (s : ByteArray) (w : World) (hR : Rdr w g s b) (hs : s.size ≤ maxLen) :
    Calls Try.prog 320 #[.pointer (some ⟨g, 0, none⟩)] w fun e w' => match hd s.data.toList with
      | .bad err => e = .returned (.tuple #[.int .i64 0, .int .u64 0, .int .i64 err]) ∧ w = w'
      | .ok k n r => ∃ s' : ByteArray, e = .returned (.tuple #[.int .i64 k, .int .u64 n, .int .i64 0]) ∧ s'.data.toList = r ∧ s'.size ≤ s.size ∧ w.setCell ⟨g, 0, none⟩ (.string s') = w' := by
  have hg := hR.lt
  have z0 := hR.cell 0
  have f0 := hR.frozen 0
  simp at z0
  match hL : s.data.toList with
  | [] =>
    have he : s.toList = [] := by rw [tm.toList_eq, hL]
    simp only [hd]
    clear hL
    go_enter Try.func320, Try.ntmps320
    go_wp2_with fail
    go_ret3
    exact ⟨rfl, rfl⟩
  | k :: r =>
    have he := nonempty hL
    obtain ⟨hpos, hne⟩ := he
    have hk0 : s[0] = k := by
      have := congrArg (fun l : List UInt8 => l[0]?) hL
      simp at this
      rw [Array.getElem?_eq_getElem (by exact hpos)] at this
      simp only [Option.some.injEq] at this
      exact this
    have hkb := byte_lt k
    unfold maxLen at hs
    by_cases hk : k.toNat < 1 ∨ 5 < k.toNat
    · have HH : Hid (hd (k :: r) = .bad 21) := lay (by simp only [hd]; rw [if_pos hk])
      rw [HH.out]
      go_enter Try.func320, Try.ntmps320
      go_wp2_with fail
      all_goals
        go_ret3
        exact ⟨rfl, rfl⟩
    · have hk1 : 1 ≤ k.toNat := by omega
      have hk5 : k.toNat ≤ 5 := by omega
      have hkk := lay hk
      clear hk
      have ht : (s.extract 1 s.size).data.toList = r := by rw [tail_list, hL]; rfl
      have hts := tail_size s 1
      have hlen : r.length + 1 = s.size := by
        have := congrArg List.length hL
        simp at this
        omega
      cases hq : getL r with
      | bad err =>
        have HH : Hid (hd (k :: r) = .bad err) := lay (by simp only [hd]; rw [if_neg hkk.out, hq])
        have hc := getNum_bad (s := s.extract 1 s.size) (by rw [ht]; exact hq) (by unfold maxLen; omega)
        have hne0 : (err != 0) = true := by simpa using getL_bad_ne hq
        rw [HH.out]
        clear hq ht hL
        go_enter Try.func320, Try.ntmps320
        go_wp2_with (go_at_call 326; refine (hc _).mono ?_; rintro e w' ⟨rfl, rfl⟩)
        go_ret3
        exact ⟨rfl, rfl⟩
      | ok n m =>
        have HH : Hid (hd (k :: r) = .ok k.toNat n (r.drop m)) := lay (by simp only [hd]; rw [if_neg hkk.out, hq])
        have hc := getNum_ok (s := s.extract 1 s.size) (by rw [ht]; exact hq) (by unfold maxLen; omega)
        have hm := getL_len hq
        have HD : Hid ((s.extract (1 + m) s.size).data.toList = r.drop m) := lay (by rw [tail_list, hL, Nat.add_comm]; rfl)
        rw [HH.out]
        have hm2 : 1 + m ≤ s.size := by omega
        clear hq ht hL hlen
        go_enter Try.func320, Try.ntmps320
        go_wp2_with (go_at_call 326; refine (hc _).mono ?_; rintro e w' ⟨rfl, rfl⟩)
        go_ret3
        exact ⟨s.extract (1 + m) s.size, rfl, HD.out, tail_size _ _, rfl⟩
end Go.Proofs.Ytoenkkbcpafanaa.reads

/- The program's reader of terms: atom. -/

namespace Go.Proofs.Ytoenkkbcpafanaa.reads
set_option linter.unusedVariables false
set_option linter.unusedSimpArgs false
open Go.RowKit Go.Proofs.Ytoenkkbcpafanaa.base Go.Proofs.Ytoenkkbcpafanaa.tm Go.Proofs.Ytoenkkbcpafanaa.lies Go.Proofs.Ytoenkkbcpafanaa.rights Go.Proofs.Ytoenkkbcpafanaa.copies Go.Proofs.Ytoenkkbcpafanaa.numLaws

theorem str_ext {x : ByteArray} {l : List UInt8} (h : x.data.toList = l) : x = ⟨l.toArray⟩ := by subst h; rfl

set_option maxRecDepth 100000 in
theorem atom_any (g b n : Nat) (s : ByteArray) (w : World) (hR : Rdr w g s b) (hs : s.size ≤ maxLen) (hn : n < 18446744073709551616) :
    Calls Try.prog 321 #[.pointer (some ⟨g, 0, none⟩), .int .u64 n] w fun e w' =>
      (4000 < n → e = .returned (.tuple #[.string ⟨#[]⟩, .int .i64 25]) ∧ w = w') ∧ (¬ 4000 < n → s.data.toList.length < n → e = .returned (.tuple #[.string ⟨#[]⟩, .int .i64 20]) ∧ w = w') ∧
      (¬ 4000 < n → ¬ s.data.toList.length < n → ∃ s' : ByteArray, e = .returned (.tuple #[.string ⟨(s.data.toList.take n).toArray⟩, .int .i64 0]) ∧ s'.data.toList = s.data.toList.drop n ∧ s'.size ≤ s.size ∧ w.setCell ⟨g, 0, none⟩ (.string s') = w') := by
  have hg := hR.lt
  have z0 := hR.cell 0
  have f0 := hR.frozen 0
  simp at z0
  have hls : s.data.toList.length = s.size := by simp
  unfold maxLen at hs
  by_cases h1 : 4000 < n
  · refine Calls.mono (R := fun e w' => e = .returned (.tuple #[.string ⟨#[]⟩, .int .i64 25]) ∧ w = w') ?_ fun e w' h => ⟨fun _ => h, fun h' => absurd h1 h', fun h' => absurd h1 h'⟩
    go_enter Try.func321, Try.ntmps321
    go_wp2_with fail
    go_ret2
    exact ⟨rfl, rfl⟩
  · by_cases h2 : s.size < n
    · refine Calls.mono (R := fun e w' => e = .returned (.tuple #[.string ⟨#[]⟩, .int .i64 20]) ∧ w = w') ?_ fun e w' h => ⟨fun h' => absurd h' h1, fun _ _ => h, fun _ h' => absurd (by omega) h'⟩
      clear hls
      go_enter Try.func321, Try.ntmps321
      go_wp2_with fail
      go_ret2
      exact ⟨rfl, rfl⟩
    · have hn4 : n ≤ s.size := by omega
      have e1 : s.extract 0 n = ⟨(s.data.toList.take n).toArray⟩ := str_ext (by simp)
      have HE := lay e1
      refine Calls.mono (R := fun e w' => e = .returned (.tuple #[.string (s.extract 0 n), .int .i64 0]) ∧ w.setCell ⟨g, 0, none⟩ (.string (s.extract n s.size)) = w') ?_ fun e w' h => ⟨fun h' => absurd h' h1, fun _ h' => absurd h' (by omega), fun _ _ => ⟨s.extract n s.size, by rw [← HE.out]; exact h.1, tail_list _ _, tail_size _ _, h.2⟩⟩
      clear hls e1
      go_enter Try.func321, Try.ntmps321
      go_wp2_with fail
      go_ret2
      exact ⟨rfl, rfl⟩
end Go.Proofs.Ytoenkkbcpafanaa.reads

/- The program's reader of terms: terms, given what term does. -/

namespace Go.Proofs.Ytoenkkbcpafanaa.reads
set_option linter.unusedVariables false
set_option linter.unusedSimpArgs false
open Go.RowKit Go.Proofs.Ytoenkkbcpafanaa.base Go.Proofs.Ytoenkkbcpafanaa.tm Go.Proofs.Ytoenkkbcpafanaa.lies Go.Proofs.Ytoenkkbcpafanaa.rights Go.Proofs.Ytoenkkbcpafanaa.copies Go.Proofs.Ytoenkkbcpafanaa.built

def Fits (t : T) : Prop := (-9223372036854775808 ≤ t.k ∧ t.k ≤ 9223372036854775807) ∧ (0 ≤ t.n ∧ t.n < 18446744073709551616) ∧ t.s.size ≤ maxLen

/-- what term leaves -/
def TPost (W : World) (g b : Nat) (r : Res T) (e : Ending) (w' : World) : Prop :=
  W.grownBy w' (some g) ∧ match r with
  | .bad err => err ≠ 0 ∧ ∃ (s' : ByteArray) (b' : Nat) (k n : Int) (z : ByteArray) (A : Option Addr) (m c : Nat), Rdr w' g s' b' ∧ e = .returned (.tuple #[.agg #[.int .i64 k, .int .u64 n, .string z, .slice A m c], .int .i64 err])
  | .ok t r b' => ∃ (s' : ByteArray) (A : Option Addr) (c : Nat), Rdr w' g s' b' ∧ s'.data.toList = r ∧ s'.size ≤ maxLen ∧ b < b' ∧ b' ≤ 4000 ∧
      e = .returned (.tuple #[.agg #[.int .i64 t.k, .int .u64 t.n, .string t.s, .slice A t.l.length c], .int .i64 0]) ∧ Held w' W.heap.size w'.heap.size t.l (.slice A t.l.length c) ∧ Fits t
/-- what terms leaves -/
def MPost (W : World) (g b : Nat) (r : Res (List T)) (e : Ending) (w' : World) : Prop :=
  W.grownBy w' (some g) ∧ match r with
  | .bad err => err ≠ 0 ∧ ∃ (s' : ByteArray) (b' : Nat), Rdr w' g s' b' ∧ e = .returned (.tuple #[.slice none 0 0, .int .i64 err])
  | .ok l r b' => ∃ (s' : ByteArray) (A : Option Addr) (c : Nat), Rdr w' g s' b' ∧ s'.data.toList = r ∧ s'.size ≤ maxLen ∧ b ≤ b' ∧ b' ≤ 4000 ∧
      e = .returned (.tuple #[.slice A l.length c, .int .i64 0]) ∧ Held w' W.heap.size w'.heap.size l (.slice A l.length c)

def TermAt (d : Nat) : Prop := ∀ (g b : Nat) (s : ByteArray) (x : Int) (w : World), Rdr w g s b → b ≤ 4000 → s.size ≤ maxLen → x = 12 - (d : Int) → d ≤ 12 →
  Calls Try.prog 313 #[.pointer (some ⟨g, 0, none⟩), .int .i64 x] w (TPost w g b (readT d s.data.toList b))

theorem grown_alloc' {a b : World} {row : Option Nat} (h : a.grownBy b row) (o : Obj) : a.grownBy (b.alloc o) row := grown_below h ((Below.refl _ _).alloc (Nat.le_refl _) o)
theorem grown_low {a b c : World} {row : Option Nat} (h : a.grownBy b row) (k : Below a.heap.size b c) : a.grownBy c row :=
  ⟨k.os.trans h.os, k.tape.trans h.tape, k.output.trans h.output, Nat.le_trans h.size k.size, fun i hi hr => (k.block i hi).trans (h.block i hi hr)⟩
def prep (l : List T) : Res (List T) → Res (List T)
  | .bad e => .bad e
  | .ok l' r b => .ok (l ++ l') r b
theorem many_bad {f : List UInt8 → Nat → Res T} {n m : Nat} {s s' : List UInt8} {b b' : Nat} {l : List T} {err : Int} (h : many f n s b = prep l (many f (m + 1) s' b')) (hq : f s' b' = .bad err) : many f n s b = .bad err := by
  rw [h, many, hq]; rfl
theorem many_ok {f : List UInt8 → Nat → Res T} {n m : Nat} {s s' r : List UInt8} {b b' b2 : Nat} {l : List T} {t : T} (h : many f n s b = prep l (many f (m + 1) s' b')) (hq : f s' b' = .ok t r b2) : many f n s b = prep (l ++ [t]) (many f m r b2) := by
  rw [h, many, hq]
  cases hm : many f m r b2 with
  | bad e => simp only [hm, prep]
  | ok l2 r2 b3 => simp only [hm, prep, List.append_assoc, List.singleton_append]
theorem many_end {f : List UInt8 → Nat → Res T} {n : Nat} {s s' : List UInt8} {b b' : Nat} {l : List T} (h : many f n s b = prep l (many f 0 s' b')) : many f n s b = .ok l s' b' := by
  rw [h, many, prep, List.append_nil]

/-- at the loop's head -/
def MHead (W : World) (g b n d : Nat) (s0 : List UInt8) (v i : Value) (wr : World) : Prop :=
  ∃ (l : List T) (s' : ByteArray) (b' : Nat), i = .int .u64 l.length ∧ l.length ≤ n ∧ Built W.heap.size wr l v ∧ Rdr wr g s' b' ∧ b + l.length ≤ b' ∧ b' ≤ 4000 ∧ s'.size ≤ maxLen ∧ W.grownBy wr (some g) ∧
    Hid (many (readT d) n s0 b = prep l (many (readT d) (n - l.length) s'.data.toList b'))

set_option maxRecDepth 100000 in
set_option maxHeartbeats 400000 in
theorem terms_any (d : Nat) (hT : TermAt d) (hd : d ≤ 12) (g b n : Nat) (s : ByteArray) (x : Int) (w : World) (hR : Rdr w g s b) (hb4 : b ≤ 4000) (hs : s.size ≤ maxLen) (hx : x = 12 - (d : Int)) (hn : n < 18446744073709551616) :
    Calls Try.prog 322 #[.pointer (some ⟨g, 0, none⟩), .int .u64 n, .int .i64 x] w (MPost w g b (many (readT d) n s.data.toList b)) := by
  have hgw := hR.lt
  have HX := lay hx
  have HT := lay hT
  clear hx hT
  go_enter Try.func322, Try.ntmps322
  go_wp2_with fail
  go_loopw [8, 12] (fun v i wr => MHead w g b n d s.data.toList v i wr) (fun _ i _ => n - (intOf i).toNat)
  case atStart => exact ⟨[], s, b, rfl, Nat.zero_le _, Built.nil _ _, hR, Nat.le_refl _, hb4, hs, World.grownBy.refl w _, lay (by
    show many (readT d) n s.data.toList b = prep [] (many (readT d) n s.data.toList b)
    cases many (readT d) n s.data.toList b <;> rfl)⟩
  case round =>
    obtain ⟨l, s', b', rfl, hln, hB, hR', hbl, hb4', hs', hG, HM⟩ := hrel
    have hz := hG.size
    have hown := fun k hk => (hB.own k hk).2
    by_cases hlt : l.length < n
    · obtain ⟨m, hm⟩ : ∃ m, n - l.length = m + 1 := ⟨n - l.length - 1, by omega⟩
      rw [hm] at HM
      have hcall := HT.out g b' s' x wr hR' hb4' hs' HX.out hd
      cases hq : readT d s'.data.toList b' with
      | bad err =>
        rw [hq] at hcall
        have HB := lay (many_bad HM.out hq)
        clear hq hm
        go_wp2_with (go_at_call 313; refine hcall.mono ?_; rintro e w2 ⟨hG2, hne, s2, b2, k2, n2, z2, A2, m2, c2, hR2, rfl⟩; have hne' : (err != 0) = true := by simpa using hne)
        go_ret2
        rw [HB.out]
        exact ⟨grown_alloc' (grown_trans hG hG2) _, hne, s2, b2, Blk.alloc hR2 _, rfl⟩
      | ok t r b2 =>
        rw [hq] at hcall
        have HB := lay (many_ok HM.out hq)
        clear hq
        have HMm := lay hm
        clear hm
        go_wp2_with (first
          | (go_at_call 313; refine hcall.mono ?_; rintro e w2 ⟨hG2, s2, A2, c2, hR2, hr2, hs2, hbb, hb42, rfl, hH, hF⟩; have hB2 := (hB.kept hG2 (fun g' e => by injection e with e; omega)).below ((Below.refl _ _).alloc (Nat.le_refl _) (.cells #[.int .i64 t.k, .int .u64 t.n, .string t.s, .slice A2 t.l.length c2] 273)); have hH2 := hH.move (Nat.le_refl _) (Nat.le_refl _) (fun p _ p2 => World.cell?_alloc_lt w2 (.cells #[.int .i64 t.k, .int .u64 t.n, .string t.s, .slice A2 t.l.length c2] 273) p p2); have hz2 := hG2.size)
          | (at_builtin; go_loud (refine wpList_append_term rfl _ _ rfl (t := t) rfl hB2 rfl (by simp; omega) hH2 (by simp) (by omega) hown hF.1 hF.2.1 hF.2.2 rfl (by simp) (by omega) ?next)))
        case next =>
          intro v3 w3 hB3 hbe3 hz3 _
          go_wp2_with fail
          have hR3 : Rdr w3 g s2 b2 := Blk.below (Blk.alloc hR2 _) hbe3 hgw
          exact ⟨⟨l ++ [t], s2, b2, by simp, by simp; omega, hB3, hR3, by simp; omega, hb42, hs2, grown_low (grown_alloc' (grown_trans hG hG2) _) hbe3, lay (by
            rw [HB.out, hr2, List.length_append, List.length_singleton, show n - (l.length + 1) = m by have := HMm.out; omega])⟩, by simp [intOf]; omega⟩
    · have HE := lay (show n - l.length = 0 by omega)
      rw [HE.out] at HM
      have hHl := hB.held (by omega)
      obtain ⟨A, c, rfl, hc⟩ := hB.form
      go_wp2_with fail
      go_ret2
      rw [many_end HM.out]
      exact ⟨hG, s', A, c, hR', rfl, hs', by omega, hb4', rfl, hHl⟩
end Go.Proofs.Ytoenkkbcpafanaa.reads
