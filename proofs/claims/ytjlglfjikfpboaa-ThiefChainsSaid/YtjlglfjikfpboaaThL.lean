/- What the laws of thief lean on: texts as arguments, short, sameKeys, in, HasKey; more pieces, pieces in another order, pieces twice. -/
import Derived.Test.YtjlglfjikfpboaaThK
import Derived.Test.YtjlglfjikfpboaaTermB


namespace Go.Proofs.Ytjlglfjikfpboaa.thiefs
set_option linter.unusedVariables false
set_option linter.unusedSimpArgs false
open Go.RowKit Go.Shelf Go.Lib Go.ChangeShapes Go.WideShapes Go.Proofs.Ytjlglfjikfpboaa.base Go.Proofs.Ytjlglfjikfpboaa.tm Go.Proofs.Ytjlglfjikfpboaa.lies Go.Proofs.Ytjlglfjikfpboaa.copies Go.Proofs.Ytjlglfjikfpboaa.reads Go.Proofs.Ytjlglfjikfpboaa.texts Go.Proofs.Ytjlglfjikfpboaa.opens

theorem gatherT (W : World) (a : Addr) (len : Nat) (h : ∀ i, i < len → ∃ x : ByteArray, (x.size ≤ maxLen) ∧ ∀ r u, ([Value.string x])[r]? = some u → W.cell? (a.add (i * 1 + r)) = some u) :
    ∃ l : List ByteArray, l.length = len ∧ (∀ x ∈ l, x.size ≤ maxLen) ∧ ∀ j u, (sts l)[j]? = some u → W.cell? (a.add j) = some u := by
  induction len with
  | zero => exact ⟨[], rfl, (fun x hx => by cases hx), fun j u h => by simp [sts] at h⟩
  | succ n ih =>
    obtain ⟨l, hl, hf, hc⟩ := ih (fun i hi => h i (by omega))
    obtain ⟨x, hx, hcs⟩ := h n (by omega)
    have hxl : (sts l).length = l.length * 1 := by simp [sts]
    refine ⟨l ++ [x], by simp [hl], fun y hy => ?_, fun j u hj => ?_⟩
    · rcases List.mem_append.1 hy with e | e
      · exact hf y e
      · rw [List.mem_singleton.1 e]; exact hx
    · rw [sts_append] at hj
      rcases Nat.lt_or_ge j (sts l).length with hlt | hge
      · rw [List.getElem?_append_left hlt] at hj
        exact hc j u hj
      · rw [List.getElem?_append_right hge, show sts [x] = [Value.string x] by simp [sts]] at hj
        have := hcs (j - (sts l).length) u hj
        rwa [show n * 1 + (j - (sts l).length) = j by omega] at this

section
variable {H : Type} {enc : TypeId × Value → H} {W : World}
set_option maxRecDepth 100000 in
theorem open_texts {m : Nat} {cs : List Value} {x : DataW H × List MemPlace} (h : DataW.trod enc Try.prog W 0 (fun _ => true) true m 22 cs = some x) (hw : (x.1.weights Try.prog 22).all (· ≤ reachBytes) = true) :
    ∃ (l : List ByteArray) (A : Option Addr) (c : Nat), cs = [.slice A l.length c] ∧ Ts W W.heap.size l A c := by
  rcases DataW.trod_slice Try.underlying22 h with ⟨rfl, _⟩ | ⟨a, len, cap, elems, rest, n, hn, rfl, rfl, _, hlc, hcm, hlen, hel, hsp, _⟩
  · exact ⟨[], none, 0, rfl, Nat.le_refl _, by simp, (fun _ => rfl), Rd.nil _ _ _, fun x hx => by cases hx⟩
  · have hrest := (hsp rfl).1
    have bytesE : Try.prog.bytesOf 9 = 16 := by kernel_rfl
    have cellsE : Try.prog.cellsOf 9 = 1 := by kernel_rfl
    have hcap : cap * 16 ≤ reachBytes := by
      refine all_mem hw ?_
      simp only [DataW.weights, Try.underlying22, bytesE, List.length_map]
      rw [show elems.length + rest.length = cap by omega]
      exact List.mem_cons_self
    have hr47 : reachBytes ≤ 140737488355328 := by decide
    obtain ⟨l, hl, hf, hc⟩ := gatherT W a len (fun i hi => by
      have h1 := hel i hi
      rw [cellsE] at h1
      have hie : elems[i]? = some elems[i] := List.getElem?_eq_getElem (by omega)
      rw [hie] at h1
      obtain ⟨cs', hcs, htr⟩ := Option.bind_eq_some_iff.1 h1
      obtain ⟨_, hcl, hat⟩ := World.cells?_some hcs
      obtain ⟨y, rfl, _, hy⟩ := DataW.trod_string Try.underlying9 htr
      refine ⟨y, hy, fun r u hr => ?_⟩
      have hr3 : r < 1 := by have := (List.getElem?_eq_some_iff.1 hr).1; simpa using this
      have := hat r hr3
      rw [Go.Deep.add_add] at this
      exact this.trans hr)
    subst hl
    refine ⟨l, some a, cap, rfl, hlc, by omega, (fun e => by cases e), fun j u hj => ?_, hf⟩
    have hpos : 0 < (sts l).length := by have := (List.getElem?_eq_some_iff.1 hj).1; omega
    have h0 := hc 0 (sts l)[0] (List.getElem?_eq_getElem hpos)
    rw [show a.add 0 = a by simp [Addr.add]] at h0
    obtain ⟨b, off, rfl⟩ := plain_of_cell h0
    refine ⟨b, off, rfl, World.block_lt_of_cell? W _ h0, ?_⟩
    have := hc j u hj
    rwa [base.add_plain] at this
set_option maxRecDepth 100000 in
theorem open_texts_arg {r : Reach} {b0 : Nat} {v : Value} {d : DataW H} {p : List MemPlace} (hv : Value.okWide Try.prog W r b0 22 v) (h : DataW.Trod enc Try.prog W 0 (fun _ => true) true 22 v d p)
    (hw : (d.weights Try.prog 22).all (· ≤ reachBytes) = true) : ∃ (l : List ByteArray) (A : Option Addr) (c : Nat), v = .slice A l.length c ∧ Ts W W.heap.size l A c := by
  obtain ⟨a, len, cap, rfl⟩ := okWide_slice Try.underlying22 hv
  obtain ⟨m, hm⟩ := h
  obtain ⟨l, A, c, hcs, h1⟩ := open_texts hm hw
  simp [Value.cells] at hcs
  obtain ⟨rfl, rfl, rfl⟩ := hcs
  exact ⟨l, a, cap, rfl, h1⟩

end

/-! ### in pure words -/
theorem Cl.app {C : Int → Bool} {P R : List T} : Cl C (P ++ R) ↔ Cl C P ∧ Cl C R := by
  unfold Cl
  rw [gotL_app, KS_app]
  exact ⟨fun h => ⟨fun n hn => h n (List.mem_append.2 (.inl hn)), fun n hn => h n (List.mem_append.2 (.inr hn))⟩, fun h n hn => (List.mem_append.1 hn).elim (h.1 n) (h.2 n)⟩
theorem Loot.turned {P R : List T} {K : List Int} {A : List (List UInt8)} {m : Nat} (h : Loot (P ++ R) K A m) : Loot (R ++ P) K A m := by
  refine ⟨Cl.app.2 (Cl.app.1 h.cl).symm, fun C hC => h.least C (Cl.app.2 (Cl.app.1 hC).symm), fun a => ?_, ?_⟩
  · rw [h.at_, gotL_app, AS_app, gotL_app, AS_app, List.mem_append, List.mem_append, or_comm]
  · rw [h.bx, gotL_app, BN_app, gotL_app, BN_app, Nat.add_comm]
theorem Loot.twice {P : List T} {K : List Int} {A : List (List UInt8)} {m : Nat} (h : Loot P K A m) : Loot (P ++ P) K A (2 * m) := by
  refine ⟨Cl.app.2 ⟨h.cl, h.cl⟩, fun C hC => h.least C (Cl.app.1 hC).1, fun a => ?_, ?_⟩
  · rw [h.at_, gotL_app, AS_app, List.mem_append, or_self]
  · rw [h.bx, gotL_app, BN_app]; omega
theorem got_more {C C' : Int → Bool} (h : ∀ n, C n = true → C' n = true) : ∀ P : List T, (∀ n ∈ KS (gotL C P), n ∈ KS (gotL C' P)) ∧ ∀ a ∈ AS (gotL C P), a ∈ AS (gotL C' P) := by
  have key : ∀ N (P : List T), sizeL P ≤ N → (∀ n ∈ KS (gotL C P), n ∈ KS (gotL C' P)) ∧ ∀ a ∈ AS (gotL C P), a ∈ AS (gotL C' P) := by
    intro N
    induction N with
    | zero =>
      intro P hP
      cases P with
      | nil => exact ⟨fun n h => h, fun a h => h⟩
      | cons t l => rw [sizeL] at hP; have := size_pos t; omega
    | succ N ih =>
      intro P hP
      cases P with
      | nil => exact ⟨fun n h => h, fun a h => h⟩
      | cons t l =>
        rw [sizeL, lies.size_eq] at hP
        obtain ⟨i1, i2⟩ := ih l (by omega)
        obtain ⟨j1, j2⟩ := ih t.l (by omega)
        have h1 : (∀ n ∈ KS (got C t), n ∈ KS (got C' t)) ∧ ∀ a ∈ AS (got C t), a ∈ AS (got C' t) := by
          by_cases k5 : t.k = 5
          · rw [got_row k5, got_row k5]; exact ⟨j1, j2⟩
          · by_cases k4 : t.k = 4
            · cases hc : C t.n with
              | true => rw [got_open k4 hc, got_open k4 (h _ hc)]; exact ⟨j1, j2⟩
              | false => rw [got_shut k4 hc, KS_one_no (by omega), AS_one_no (by omega)]; exact ⟨fun n h => by (cases h), fun n h => by (cases h)⟩
            · rw [got_plain k4 k5, got_plain k4 k5]; exact ⟨fun n h => h, fun a h => h⟩
        rw [gotL, gotL, KS_app, KS_app, AS_app, AS_app]
        simp only [List.mem_append]
        exact ⟨fun n hn => hn.imp (h1.1 n) (i1 n), fun n hn => hn.imp (h1.2 n) (i2 n)⟩
  exact fun P => key _ P (Nat.le_refl _)
/-- from more pieces nothing less -/
theorem Loot.more {P R : List T} {K K' : List Int} {A A' : List (List UInt8)} {m m' : Nat} (h : Loot P K A m) (h' : Loot (P ++ R) K' A' m') : (∀ n ∈ K, n ∈ K') ∧ ∀ a ∈ A, a ∈ A' := by
  have hk : ∀ n ∈ K, n ∈ K' := fun n hn => isK_iff.1 (h.least _ (Cl.app.1 h'.cl).1 n hn)
  refine ⟨hk, fun a ha => ?_⟩
  rw [h'.at_, gotL_app, AS_app, List.mem_append]
  exact .inl ((got_more (fun n hn => isK_iff.2 (hk n (isK_iff.1 hn))) P).2 a ((h.at_ a).1 ha))
theorem Loot.eqK {P : List T} {K K' : List Int} {A A' : List (List UInt8)} {m m' : Nat} (h : Loot P K A m) (h' : Loot P K' A' m') (u : Up id K) (u' : Up id K') : K = K' := rise_int _ _ u u' (h.same h').1
theorem Loot.eqA {P : List T} {K K' : List Int} {A A' : List (List UInt8)} {m m' : Nat} (h : Loot P K A m) (h' : Loot P K' A' m') (u : A.Pairwise (· < ·)) (u' : A'.Pairwise (· < ·)) : A = A' := rising_eq _ _ u u' (h.same h').2.1
theorem Loot.eqM {P : List T} {K K' : List Int} {A A' : List (List UInt8)} {m m' : Nat} (h : Loot P K A m) (h' : Loot P K' A' m') : m = m' := (h.same h').2.2
/-- a piece that is an atom is got at -/
theorem Loot.atom {P : List T} {K : List Int} {A : List (List UInt8)} {m : Nat} (h : Loot P K A m) {t : T} (ht : t ∈ P) (hk : t.k = 2) : bn t.s ∈ A := by
  rw [h.at_]
  obtain ⟨a, b, rfl⟩ := List.append_of_mem ht
  rw [gotL_app, gotL, got_plain (by omega) (by omega), AS_app, AS_app, AS_one_atom hk]
  simp
def ff : ByteArray := ⟨#[255]⟩
def ownS : ByteArray := ⟨#[111, 119, 110, 33]⟩
theorem piece_ff : pieceT ff = .mk 2 0 ff [] := by
  have h : tm.decode (bn ff) = .bad 21 := by kernel_rfl
  unfold pieceT; rw [h]
theorem piece_own : pieceT ownS = .mk 2 0 ownS [] := by
  have h : tm.decode (bn ownS) = .bad 21 := by kernel_rfl
  unfold pieceT; rw [h]
theorem pcs_app (a b : List ByteArray) : pcs (a ++ b) = pcs a ++ pcs b := List.map_append
theorem has_piece {l : List ByteArray} {K : List Int} {A : List (List UInt8)} {m : Nat} {s : ByteArray} (h : Loot (pcs l) K A m) (hs : s ∈ l) (hp : pieceT s = .mk 2 0 s []) : decide (bn s ∈ A) = true :=
  decide_eq_true (h.atom (t := .mk 2 0 s []) (List.mem_map.2 ⟨s, hs, hp⟩) rfl)

set_option maxRecDepth 100000 in
set_option maxHeartbeats 2000000 in
theorem short_any (l : List ByteArray) (A : Option Addr) (c k : Nat) (w : World) (hT : Ts w w.heap.size l A c) (hk : k ≤ 1000) :
    Calls Try.prog 11 #[.slice A l.length c, .int .i64 (k : Int)] w fun e w' => ∃ c', e = .returned (.slice A (l.take k).length c') ∧ Ts w w.heap.size (l.take k) A c' ∧ w' = w := by
  have hlen : l.length ≤ 140737488355328 := by have := hT.2.1; omega
  have hlc := hT.1
  have hTk : ∀ c', k ≤ c' → (A = none → c' = 0) → Ts w w.heap.size (l.take k) A c' := fun c' hc hA => ⟨by rw [List.length_take]; omega, by rw [List.length_take]; have := hT.2.1; omega, hA, by
    have := hT.2.2.2.1.take k
    unfold sts at this ⊢
    rwa [List.map_take], fun x hx => hT.2.2.2.2 x (List.mem_of_mem_take hx)⟩
  by_cases hlt : k < l.length
  · have d0 : decide ((k : Int) < (l.length : Int)) = true := decide_eq_true (by omega)
    have hkc : k ≤ c := by omega
    have hl2 : (l.take k).length = k := by rw [List.length_take]; omega
    go_enter Try.func11, Try.ntmps11
    go_wp2_with fail
    go_ret
    exact ⟨c, by rw [hl2]; rfl, hTk c hkc hT.2.2.1, rfl⟩
  · have d0 : decide ((k : Int) < (l.length : Int)) = false := decide_eq_false (by omega)
    have hl2 : l.take k = l := List.take_of_length_le (by omega)
    go_enter Try.func11, Try.ntmps11
    go_wp2_with fail
    go_ret
    exact ⟨c, by rw [hl2]; rfl, by rw [hl2]; exact hT, rfl⟩

set_option maxRecDepth 100000 in
set_option maxHeartbeats 2000000 in
theorem sameKeys_any (v v' : Value) (K : List Int) (w : World) (hT : Ints w v K) (hT' : Ints w v' K) :
    Calls Try.prog 13 #[v, v'] w fun e w' => e = .returned (.bool true) ∧ Below w.heap.size w w' := by
  obtain ⟨A, c, rfl, hc, hlen, hT⟩ := hT
  obtain ⟨A', c', rfl, hc', _, hT'⟩ := hT'
  go_enter Try.func13, Try.ntmps13
  go_wp2_with fail
  go_loopw [13] (fun i wr => ∃ j n : Nat, j ≤ K.length ∧ i = .int .i64 j ∧ wr = w.drewN n) (fun i _ => K.length - (intOf i).toNat)
  case atStart => exact ⟨0, 0, Nat.zero_le _, rfl, rfl⟩
  case round =>
    obtain ⟨j, n, hj, rfl, rfl⟩ := hrel
    by_cases hlt : j < K.length
    · obtain ⟨b, off, rfl, hb, e0⟩ := hT.at_ (k := j) (by simpa using hlt)
      obtain ⟨b', off', rfl, hb', e0'⟩ := hT'.at_ (k := j) (by simpa using hlt)
      simp only [List.getElem_map] at e0 e0'
      go_wp2_with fail
      go_region
      go_wp2_with fail
      exact ⟨⟨j + 1, n + 1, hlt, by go_num, rfl⟩, by simp [intOf]; omega⟩
    · go_wp2_with fail
      go_ret
      exact ⟨rfl, below_drewN _ _ n⟩

set_option maxRecDepth 100000 in
set_option maxHeartbeats 2000000 in
theorem hasKey_yes (v : Value) (K : List Int) (x : Int) (w : World) (hT : Ints w v K) (hx : x ∈ K) :
    Calls Try.prog 21 #[v, .int .u64 x] w fun e w' => e = .returned (.bool true) ∧ w' = w := by
  obtain ⟨A, c, rfl, hc, hlen, hT⟩ := hT
  go_enter Try.func21, Try.ntmps21
  go_wp2_with fail
  go_loopw [9] (fun i wr => ∃ j : Nat, j ≤ K.length ∧ i = .int .i64 j ∧ wr = w ∧ Hid (∀ k (h : k < K.length), k < j → K[k] ≠ x)) (fun i _ => K.length - (intOf i).toNat)
  case atStart => exact ⟨0, Nat.zero_le _, rfl, rfl, lies.lay (fun k _ h => absurd h (Nat.not_lt_zero _))⟩
  case round =>
    obtain ⟨j, hj, rfl, rfl, HJ⟩ := hrel
    by_cases hlt : j < K.length
    · obtain ⟨b, off, rfl, hb, e0⟩ := hT.at_ (k := j) (by simpa using hlt)
      simp only [List.getElem_map] at e0
      by_cases he : K[j] = x
      · have d1 : (K[j] == x) = true := by simpa using he
        clear he hx
        go_wp2_with fail
        go_ret
        exact ⟨by first | rfl | trivial, by first | rfl | trivial⟩
      · have d1 : (K[j] == x) = false := by simpa using he
        have HE := lies.lay he
        clear he hx
        go_wp2_with fail
        exact ⟨⟨j + 1, hlt, by go_num, by first | rfl | trivial, lies.lay (fun k hk hkj => by
          by_cases hkk : k = j
          · subst hkk; exact HE.out
          · exact HJ.out k hk (by omega))⟩, by simp [intOf]; omega⟩
    · obtain ⟨k, hk, e⟩ := List.getElem_of_mem hx
      exact absurd e (HJ.out k hk (by omega))

set_option maxRecDepth 100000 in
set_option maxHeartbeats 2000000 in
theorem inAll_any (v v' : Value) (lo lo' : Nat) (ts us : List (List UInt8)) (w : World) (hT : Txt w lo v ts) (hT' : Txt w lo' v' us) (hall : ∀ x ∈ ts, x ∈ us) :
    Calls Try.prog 20 #[v, v'] w fun e w' => e = .returned (.bool true) ∧ w' = w := by
  have hin := fun s => in_any v' lo' us s w hT'
  obtain ⟨A, c, rfl, hlen, hT⟩ := hT
  have HA := lies.lay hall
  clear hall
  go_enter Try.func20, Try.ntmps20
  go_wp2_with fail
  go_loopw [9] (fun i wr => ∃ j : Nat, j ≤ ts.length ∧ i = .int .i64 j ∧ wr = w) (fun i _ => ts.length - (intOf i).toNat)
  case atStart => exact ⟨0, Nat.zero_le _, rfl, rfl⟩
  case round =>
    obtain ⟨j, hj, rfl, rfl⟩ := hrel
    by_cases hlt : j < ts.length
    · obtain ⟨g, rfl, hlo, hg, hcell⟩ := hT j hlt
      have hm : decide ((⟨ts[j].toArray⟩ : ByteArray).toList ∈ us) = true := decide_eq_true (by rw [tm.toList_eq]; simpa using HA.out _ (List.getElem_mem hlt))
      have hj2 := hin ⟨ts[j].toArray⟩
      rw [hm] at hj2
      clear hm hin
      unfold encStr at hcell
      go_wp2_with (go_at_call 19; refine hj2.mono ?_; rintro e w1 ⟨rfl, rfl⟩)
      exact ⟨⟨j + 1, hlt, by go_num, by first | rfl | trivial⟩, by simp [intOf]; omega⟩
    · go_wp2_with fail
      go_ret
      exact ⟨by first | rfl | trivial, by first | rfl | trivial⟩

/-! ### rows of texts -/
/-- texts in a row of the call's own -/
abbrev Srow (w : World) (l : List ByteArray) (v : Value) : Prop := w.ownsRow 0 9 1 v l.length (sts l)
theorem srow_new (w : World) : Srow (w.alloc (.cells #[] 9)) [] (.slice (some ⟨w.heap.size, 0, none⟩) 0 0) := ownsRow_base (empty_texts w).own (fun g _ => Nat.zero_le g)
theorem srow_ts {w : World} {l : List ByteArray} {v : Value} (h : Srow w l v) (hl : l.length ≤ 1000) (hs : ∀ x ∈ l, x.size ≤ maxLen) : ∃ A c, v = .slice A l.length c ∧ Ts w w.heap.size l A c := by
  obtain ⟨A, c, e, h1, h2, h3⟩ := row_rdF h
  exact ⟨A, c, e, h1, by omega, h2, h3.rd, hs⟩
theorem wp_texts {ops : Array Oper} {rest : List Oper} {o : Oper} {a : Act} {Q : Exit → Act → World → Prop} (hgd : o.guard = none) (s x : Operand) (ho : o.op = .call { callee := .builtin .append, args := #[s, x], argTypes := #[22, 22] })
    {w : World} {l m lm : List ByteArray} (hlm : l ++ m = lm) {v : Value} (hown : Srow w l v) (hs : a.eval s = v) {B : Nat} {A : Option Addr} {c : Nat} (hT : Ts w B m A c) (hx : a.eval x = .slice A m.length c) (hlen : l.length + m.length ≤ 1000)
    (h : ∀ v' w', Srow w' lm v' → Keep (fun g => v.ownBlock = some g) w w' → (∀ g, v'.ownBlock = some g → v.ownBlock = some g ∨ (w.heap.size ≤ g ∧ g < w'.heap.size)) → wpList Try.prog ops Q rest (a.put o.dst v') w') :
    wpList Try.prog ops Q (o :: rest) a w := by
  subst hlm
  obtain ⟨i0, hi0, hz0, hz1, hz2⟩ := info_parts infoS
  refine wpList_bulk Try.underlying22 hi0 hz0 hz1 hz2 rfl (by decide) hgd s x ho hown hs (ys := sts m) (m := m.length) (by simp [sts]) hT.2.2.2.1 (fun e => ?_) hT.1 (fun u hu => ?_) hx (by omega) (by unfold maxLen; omega) fun v' w' h2 h3 h4 => h v' w' ?_ h3 h4
  · have := hT.1; have := hT.2.2.1 e; omega
  · simp only [sts, List.mem_map] at hu
    obtain ⟨y, _, rfl⟩ := hu
    rfl
  · unfold Srow
    rw [List.length_append, sts_append]
    exact h2
/-- one text alone -/
theorem ts_one (w : World) (s : ByteArray) (hs : s.size ≤ maxLen) : Ts (w.alloc (.cells #[.string s] 9)) (w.heap.size + 1) [s] (some ⟨w.heap.size, 0, none⟩) 1 :=
  ⟨Nat.le_refl _, by simp, fun e => by (cases e), by
    have := Blk.rd (xs := [Value.string s]) (t := 9) (B := w.heap.size + 1) (Blk.new w 9 #[.string s]) (by omega)
    simpa [sts] using this, fun x hx => by rw [List.mem_singleton] at hx; subst hx; exact hs⟩

end Go.Proofs.Ytjlglfjikfpboaa.thiefs
