/- A row of texts that the calls build by append; a term's atoms. -/
import Derived.Test.YtjlglfjikfpboaaTermC
import Derived.Test.YtjlglfjikfpboaaTermB


namespace Go.Proofs.Ytjlglfjikfpboaa.texts
set_option linter.unusedVariables false
set_option linter.unusedSimpArgs false
open Go.RowKit Go.Proofs.Ytjlglfjikfpboaa.base Go.Proofs.Ytjlglfjikfpboaa.tm Go.Proofs.Ytjlglfjikfpboaa.lies Go.Proofs.Ytjlglfjikfpboaa.rights

/-- texts as cells -/
def sts (l : List ByteArray) : List Value := l.map .string
theorem sts_append (l m : List ByteArray) : sts (l ++ m) = sts l ++ sts m := by simp [sts]
theorem info9 : (Try.prog.info? 9).map (fun i => (i.zero, i.size, i.bytes)) = some (some (.string ⟨#[]⟩), 1, 16) := by kernel_rfl

/-- from w to w' only rows of texts from block B on, and what is new, have turned; v' is such a row, of the texts l' -/
structure ExtS (B : Nat) (w w' : World) (v' : Value) (l' : List ByteArray) : Prop where
  own : w'.ownsRow B 9 1 v' l'.length (sts l')
  below : Below B w w'
  kept : ∀ g T cs, T ≠ 9 → Blk w g T cs → Blk w' g T cs

section
variable {B : Nat} {w w' w'' : World} {v v' v'' : Value} {l l' l'' : List ByteArray}
theorem ExtS.nil (w : World) (B : Nat) : ExtS B w w (.slice none 0 0) [] := ⟨⟨by simp [sts], .inl ⟨rfl, rfl⟩⟩, Below.refl _ _, fun _ _ _ _ h => h⟩
theorem ExtS.refl (h : ExtS B w w' v' l') : ExtS B w' w' v' l' := ⟨h.own, Below.refl _ _, fun _ _ _ _ h => h⟩
theorem ExtS.trans (h : ExtS B w w' v' l') (k : ExtS B w' w'' v'' l'') : ExtS B w w'' v'' l'' := ⟨k.own, h.below.trans k.below, fun g T cs ht hb => k.kept g T cs ht (h.kept g T cs ht hb)⟩
theorem ExtS.alloc (h : ExtS B w w' v' l') (hB : B ≤ w'.heap.size) (o : Obj) : ExtS B w (w'.alloc o) v' l' := ⟨h.own.alloc o, h.below.alloc hB o, fun g T cs ht hb => (h.kept g T cs ht hb).alloc o⟩
theorem ExtS.size (h : ExtS B w w' v' l') : w.heap.size ≤ w'.heap.size := h.below.size
theorem ExtS.step (h : ExtS B w w' v l) (hB : B ≤ w'.heap.size) (ho : w''.ownsRow B 9 1 v' l'.length (sts l')) (hg : w'.grownBy w'' v.ownBlock) : ExtS B w w'' v' l' := by
  refine ⟨ho, h.below.grown hg hB ?_, fun g T cs ht hb => ?_⟩
  · intro k hk
    rcases h.own.2 with ⟨rfl, _⟩ | ⟨g, cap, cur, rfl, hb, _⟩
    · simp [Value.ownBlock] at hk
    · simp [Value.ownBlock] at hk; omega
  · have h1 := h.kept g T cs ht hb
    refine (hg.block g h1.lt fun e => ?_).trans h1
    rcases h.own.2 with ⟨rfl, _⟩ | ⟨g', cap, cur, rfl, _, hh, _⟩
    · simp [Value.ownBlock] at e
    · simp [Value.ownBlock] at e
      subst e
      unfold Blk at h1
      rw [hh] at h1
      injection h1 with h1
      injection h1 with _ h1
      exact ht h1.symm
end

/-- append of one text -/
theorem wpList_append_text {ops : Array Oper} {rest : List Oper} {o : Oper} {a : Act} {Q : Exit → Act → World → Prop} (hgd : o.guard = none) (s x : Operand)
    (ho : o.op = .call { callee := .builtin .append, args := #[s, x], argTypes := #[22, 22] })
    {B : Nat} {w0 w : World} {v : Value} {l : List ByteArray} (hs : a.eval s = v) (hE : ExtS B w0 w v l) (hB : B ≤ w.heap.size) (b : ByteArray)
    {n : Nat} (hx : a.eval x = .slice (some ⟨n, 0, none⟩) 1 1) (hnz : n = w.heap.size) (hlen : (l.length + 1) * 16 ≤ 140737488355328)
    (h : ∀ v' w', ExtS B w0 w' v' (l ++ [b]) → w.heap.size ≤ w'.heap.size → wpList Try.prog ops Q rest (a.put o.dst v') w') : wpList Try.prog ops Q (o :: rest) a (w.alloc (.cells #[.string b] 9)) := by
  subst hnz
  obtain ⟨i0, hi, hz0, hz1, hz2⟩ := info_parts info9
  have hE1 := hE.alloc hB (.cells #[.string b] 9)
  refine wpList_append_own _ hgd s x 22 ho B 9 i0 (.string ⟨#[]⟩) 1 16 Try.underlying22 hi hz0 hz1 hz2 rfl (by decide) v l.length (sts l) hs hE1.own ⟨w.heap.size, 0, none⟩ 1 1 [.string b] hx rfl ?_ ?_ (by unfold maxLen; omega) (by omega) (by simp; omega) ?_
  · intro j u hj
    match j, hj with
    | 0, hj => simp at hj; subst hj; simp [Addr.add]
    | (j + 1), hj => simp at hj
  · intro u hu; simp at hu; subst hu; rfl
  · intro v' w' ho' hg _
    refine h v' w' (hE1.step (by simp; omega) ?_ hg) (by have := hg.size; simp at this; omega)
    rw [sts_append, List.length_append]
    exact ho'

mutual
/-- the atoms of a term, as they stand -/
def atoms : T → List ByteArray
  | .mk k _ s l => if k = 2 then s :: atomsL l else atomsL l
def atomsL : List T → List ByteArray
  | [] => []
  | t :: l => atoms t ++ atomsL l
end
theorem atoms_eq (t : T) : atoms t = (if t.k = 2 then [t.s] else []) ++ atomsL t.l := by
  cases t with
  | mk k n s l => show (if k = 2 then s :: atomsL l else atomsL l) = _; by_cases h : k = 2 <;> simp [h, T.k, T.s, T.l]
mutual
theorem atoms_len : ∀ t : T, (atoms t).length ≤ t.size
  | .mk k n s l => by
    have := atomsL_len l
    show (if k = 2 then s :: atomsL l else atomsL l).length ≤ sizeL l + 1
    by_cases h : k = 2
    · rw [if_pos h, List.length_cons]; omega
    · rw [if_neg h]; omega
theorem atomsL_len : ∀ l : List T, (atomsL l).length ≤ sizeL l
  | [] => by simp [atomsL, sizeL]
  | t :: l => by
    have h1 := atoms_len t
    have h2 := atomsL_len l
    simp only [atomsL, sizeL, List.length_append]
    omega
end
theorem atomsL_take (l : List T) (j : Nat) (h : j < l.length) : atomsL (l.take (j + 1)) = atomsL (l.take j) ++ atoms l[j] := by
  induction l generalizing j with
  | nil => simp at h
  | cons t l ih =>
    cases j with
    | zero => simp [atomsL]
    | succ j => simp only [List.take_succ_cons, atomsL, List.getElem_cons_succ, List.append_assoc]; rw [ih j (by simpa using h)]
theorem atomsL_le (l : List T) (j : Nat) : (atomsL (l.take j)).length ≤ (atomsL l).length := by
  induction l generalizing j with
  | nil => simp
  | cons t l ih =>
    cases j with
    | zero => simp [atomsL]
    | succ j => simp only [List.take_succ_cons, atomsL, List.length_append]; have := ih j; omega

/-- at the loop's head -/
def SHead (B : Nat) (W : World) (t : T) (l : List ByteArray) (u i : Value) (wr : World) : Prop :=
  ∃ j : Nat, j ≤ t.l.length ∧ i = .int .i64 j ∧ W.heap.size ≤ wr.heap.size ∧ ExtS B W wr u (l ++ atomsL (t.l.take j))

set_option maxRecDepth 100000 in
set_option maxHeartbeats 800000 in
theorem append_any (N : Nat) : ∀ (t : T) (v u : Value) (l : List ByteArray) (B : Nat) (w0 w : World), t.size ≤ N → Lies w B t v → B ≤ w.heap.size → ExtS B w0 w u l → (l.length + t.size) * 16 ≤ 140737488355328 →
    Calls Try.prog 64 #[u, T.val t v] w fun e w' => ∃ u', e = .returned u' ∧ ExtS B w0 w' u' (l ++ atoms t) ∧ w.heap.size ≤ w'.heap.size := by
  induction N with
  | zero => intro t v u l B w0 w h; have := size_pos t; omega
  | succ N ih =>
    intro t v u l B w0 w hN hL hB hE hlen
    obtain ⟨A, c, xs, rfl, hk, hn, hs, hlc, hc, hr, hl⟩ := hL.open_
    have HS := lay (size_eq t)
    have hlen2 : (l.length + 1 + sizeL t.l) * 16 ≤ 140737488355328 := by rw [size_eq] at hlen; omega
    have hbox := Blk.new w 39 #[.int .i64 t.k, .int .u64 t.n, .string t.s, .slice A t.l.length c]
    have hE0 := (hE.alloc hB (.cells #[.int .i64 t.k, .int .u64 t.n, .string t.s, .slice A t.l.length c] 39)).refl
    clear hlen
    by_cases h2 : t.k = 2
    · have k2 : (t.k == 2) = true := by simp [h2]
      have HAt : Hid (atoms t = [t.s] ++ atomsL t.l) := lay (by rw [atoms_eq, if_pos h2])
      clear h2
      go_enter Try.func64, Try.ntmps64
      go_wp2_with (at_builtin; refine wpList_append_text rfl _ _ rfl rfl hE0 (by simp; omega) t.s rfl (by simp) ?c2 ?next)
      case c2 => omega
      case next =>
        intro v1 w1 hE1 hsz1
        have hb1 := hE1.kept _ _ _ (by decide) hbox
        have z3 := hb1.cell 3
        simp at z3 hsz1
        go_wp2_with fail
        go_loopw [0, 18] (fun u i wr => SHead B (w.alloc (.cells #[.int .i64 t.k, .int .u64 t.n, .string t.s, .slice A t.l.length c] 39)) t (l ++ [t.s]) u i wr) (fun _ i _ => t.l.length - (intOf i).toNat)
        case atStart => exact ⟨0, Nat.zero_le _, rfl, by simp; omega, by simpa [atomsL] using hE1⟩
        case round =>
          obtain ⟨j, hj, rfl, hsz, hEj⟩ := hrel
          have hbj := hEj.below
          simp only [World.size_alloc] at hsz
          by_cases hlt : j < t.l.length
          · obtain ⟨b0, off, A', c', rfl, hbl, hv, c0, c1, c2, c3⟩ := at_cells ((hr.alloc hB _).below hbj) ((LiesL.keep (fun p hp => World.cell?_alloc_lt w _ p (by omega)) _ _ hl).below hbj) hlt
            have hg := size_get t.l j hlt
            have hel := atomsL_len (t.l.take j)
            clear hbj
            go_wp2_with (go_at_call 64; refine (ih t.l[j] _ _ _ B _ _ (by have := HS.out; omega) (hv.alloc (by omega) _) (by simp; omega) (hEj.alloc (by omega) _) (by simp only [List.length_append, List.length_singleton]; have := HS.out; omega)).mono ?_; rintro e w4 ⟨v4, rfl, hE4, hsz4⟩)
            simp only [World.size_alloc] at hsz4
            exact ⟨⟨j + 1, hlt, by go_num, by simp; omega, by rw [atomsL_take _ _ hlt, ← List.append_assoc]; exact hE4⟩, by simp [intOf]; omega⟩
          · have hjl : t.l.take j = t.l := List.take_of_length_le (by omega)
            rw [hjl] at hEj
            go_wp2_with fail
            go_ret
            refine ⟨_, rfl, ?_, by omega⟩
            rw [HAt.out]
            have hfin := (hE.alloc hB _).trans hEj
            simpa [List.append_assoc] using hfin
    · have k2 : (t.k == 2) = false := by simp [h2]
      have HAt : Hid (atoms t = atomsL t.l) := lay (by rw [atoms_eq, if_neg h2]; rfl)
      clear h2
      go_enter Try.func64, Try.ntmps64
      go_wp2_with fail
      go_loopw [0, 18] (fun u i wr => SHead B (w.alloc (.cells #[.int .i64 t.k, .int .u64 t.n, .string t.s, .slice A t.l.length c] 39)) t l u i wr) (fun _ i _ => t.l.length - (intOf i).toNat)
      case atStart => exact ⟨0, Nat.zero_le _, rfl, by simp, by simpa [atomsL] using hE0⟩
      case round =>
        obtain ⟨j, hj, rfl, hsz, hEj⟩ := hrel
        have hbj := hEj.below
        simp only [World.size_alloc] at hsz
        by_cases hlt : j < t.l.length
        · obtain ⟨b0, off, A', c', rfl, hbl, hv, c0, c1, c2, c3⟩ := at_cells ((hr.alloc hB _).below hbj) ((LiesL.keep (fun p hp => World.cell?_alloc_lt w _ p (by omega)) _ _ hl).below hbj) hlt
          have hg := size_get t.l j hlt
          have hel := atomsL_len (t.l.take j)
          clear hbj
          go_wp2_with (go_at_call 64; refine (ih t.l[j] _ _ _ B _ _ (by have := HS.out; omega) (hv.alloc (by omega) _) (by simp; omega) (hEj.alloc (by omega) _) (by simp only [List.length_append]; have := HS.out; omega)).mono ?_; rintro e w4 ⟨v4, rfl, hE4, hsz4⟩)
          simp only [World.size_alloc] at hsz4
          exact ⟨⟨j + 1, hlt, by go_num, by simp; omega, by rw [atomsL_take _ _ hlt, ← List.append_assoc]; exact hE4⟩, by simp [intOf]; omega⟩
        · have hjl : t.l.take j = t.l := List.take_of_length_le (by omega)
          rw [hjl] at hEj
          go_wp2_with fail
          go_ret
          refine ⟨_, rfl, ?_, by omega⟩
          rw [HAt.out]
          have hfin := (hE.alloc hB _).trans hEj
          simpa [List.append_assoc] using hfin
end Go.Proofs.Ytjlglfjikfpboaa.texts
