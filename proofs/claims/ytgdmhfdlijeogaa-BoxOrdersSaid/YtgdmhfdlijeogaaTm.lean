/- Terms as plain data: how many, how deep, which are right, their bytes, what is read of bytes. Nothing of the program. -/
import Init
namespace Go.Proofs.Ytgdmhfdlijeogaa.tm
set_option linter.unusedVariables false
set_option linter.unusedSimpArgs false

/-- a term: kind, number, bytes, list -/
inductive T where
  | mk (k n : Int) (s : ByteArray) (l : List T)

instance : Inhabited T := ⟨.mk 0 0 ⟨#[]⟩ []⟩
def T.k : T → Int | .mk k _ _ _ => k
def T.n : T → Int | .mk _ n _ _ => n
def T.s : T → ByteArray | .mk _ _ s _ => s
def T.l : T → List T | .mk _ _ _ l => l
theorem T.eta (t : T) : t = .mk t.k t.n t.s t.l := by cases t; rfl

mutual
def T.size : T → Nat
  | .mk _ _ _ l => sizeL l + 1
def sizeL : List T → Nat
  | [] => 0
  | t :: l => t.size + sizeL l
end
mutual
def T.deep : T → Nat
  | .mk _ _ _ l => deepL l + 1
def deepL : List T → Nat
  | [] => 0
  | t :: l => max t.deep (deepL l)
end
def T.one : T → Bool
  | .mk k n s l => if k = 1 ∨ k = 3 then s.data.toList.isEmpty && decide (l.length = 0)
    else if k = 2 then decide (n = 0) && decide (l.length = 0) && decide (s.size ≤ 4000)
    else if k = 4 then s.data.toList.isEmpty && decide (l.length = 1)
    else if k = 5 then decide (n = 0) && s.data.toList.isEmpty
    else false
mutual
def T.shaped : T → Bool
  | .mk k n s l => T.one (.mk k n s l) && shapedL l
def shapedL : List T → Bool
  | [] => true
  | t :: l => t.shaped && shapedL l
end
/-- the error's number of a term, 0 if it is right -/
def T.right (t : T) : Int := if 4000 < t.size then 23 else if 12 < t.deep then 22 else if t.shaped then 0 else 25

/- all numbers in it are of 64 bits, no sign -/
mutual
def T.word : T → Prop
  | .mk _ n _ l => ((0 ≤ n ∧ n < 18446744073709551616) ∧ l.length < 18446744073709551616) ∧ wordL l
def wordL : List T → Prop
  | [] => True
  | t :: l => t.word ∧ wordL l
end

/-- a number in sevens -/
def putL (n : Nat) : List UInt8 := if h : n < 128 then [UInt8.ofNat n] else UInt8.ofNat (n % 128 + 128) :: putL (n / 128)
termination_by n
decreasing_by omega

inductive Num where
  | bad (e : Int)
  | ok (n k : Nat)
/-- a number in sevens read from the i-th byte on -/
def getFrom : Nat → Nat → List UInt8 → Num
  | _, _, [] => .bad 20
  | i, acc, b :: r =>
    if i = 9 ∧ 1 < b.toNat then .bad 21
    else if 128 ≤ b.toNat then getFrom (i + 1) (acc + b.toNat % 128 * 128 ^ i) r
    else if b.toNat = 0 ∧ 0 < i then .bad 21
    else .ok (acc + b.toNat * 128 ^ i) (i + 1)
def getL (s : List UInt8) : Num := getFrom 0 0 s

/-- the number that stands in a term's head -/
def T.head : T → Nat
  | .mk k n s l => if k = 2 then s.data.toList.length else if k = 5 then l.length else n.toNat
mutual
def T.enc : T → List UInt8
  | .mk k n s l => UInt8.ofNat k.toNat :: (putL (T.head (.mk k n s l)) ++ (s.data.toList ++ encL l))
def encL : List T → List UInt8
  | [] => []
  | t :: l => t.enc ++ encL l
end

inductive Res (α : Type) where
  | bad (e : Int)
  | ok (a : α) (rest : List UInt8) (begun : Nat)
def many (f : List UInt8 → Nat → Res T) : Nat → List UInt8 → Nat → Res (List T)
  | 0, s, b => .ok [] s b
  | n + 1, s, b => match f s b with
    | .bad e => .bad e
    | .ok t s' b' => match many f n s' b' with
      | .bad e => .bad e
      | .ok l s'' b'' => .ok (t :: l) s'' b''
/-- what stands behind a term's head -/
def body (f : List UInt8 → Nat → Res T) (k n : Nat) (r : List UInt8) (b : Nat) : Res T :=
  if k = 2 then (if 4000 < n then .bad 25 else if r.length < n then .bad 20 else .ok (.mk 2 0 ⟨(r.take n).toArray⟩ []) (r.drop n) b)
  else if k = 5 then (match many f n r b with | .bad e => .bad e | .ok l r' b' => .ok (.mk 5 0 ⟨#[]⟩ l) r' b')
  else if k = 4 then (match many f 1 r b with | .bad e => .bad e | .ok l r' b' => .ok (.mk 4 n ⟨#[]⟩ l) r' b')
  else .ok (.mk k n ⟨#[]⟩ []) r b
inductive Hd where
  | bad (e : Int)
  | ok (k n : Nat) (rest : List UInt8)
/-- a term's kind and the number behind it -/
def hd : List UInt8 → Hd
  | [] => .bad 20
  | k :: r => if k.toNat < 1 ∨ 5 < k.toNat then .bad 21 else match getL r with
    | .bad e => .bad e
    | .ok n m => .ok k.toNat n (r.drop m)
/-- a term read, d more may stand within one another, b have begun -/
def readT : Nat → List UInt8 → Nat → Res T
  | 0 => fun _ b => if 4000 ≤ b then .bad 23 else .bad 22
  | d + 1 => fun s b => if 4000 ≤ b then .bad 23 else match hd s with
    | .bad e => .bad e
    | .ok k n r => body (readT d) k n r (b + 1)
inductive Dec where
  | bad (e : Int)
  | ok (t : T)
def decode (s : List UInt8) : Dec := match readT 12 s 0 with
  | .bad e => .bad e
  | .ok t r _ => if r = [] then .ok t else .bad 24
end Go.Proofs.Ytgdmhfdlijeogaa.tm
