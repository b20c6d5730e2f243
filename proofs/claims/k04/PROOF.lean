import PyProof.Rows.All
import Wide.All
import OpenK.AllK
import Wide.FinOn
import HandS.ForMost
import HandS.Deep
import HandS.IsInst
import HandS.ForExc
import HandS.CallSlots
import HandS.Walk
import HandS.TupAny
import HandS.TupMul
import HandS.TupLe
import HandS.AnyAll
import HandS.Flow
import PySem.Challenge.RW_wishkeep_k04_whole_lean_loops
set_option Elab.async false
set_option linter.all false
set_option maxRecDepth 100000
set_option maxHeartbeats 16000000
/-! Mn1: a small pure reading of the program's constructs: data, a store of what may change, an evaluator. -/
namespace Mn
open PySem

/-- data: values as trees; ref n: the n-th thing of the store, which may change -/
inductive D where
  | non | bl (b : Bool) | int (i : Int) | str (x : Str)
  | tup (l : List D) | lst (l : List D) | ref (n : Nat)
  | fn (x : String) | cls (x : String) | ty (n : String)
  | exn (c : String) (fs : List D)
  deriving Inhabited

inductive O where
  | lst (l : List D)
  | ins (c : String) (fs : List (String × D))
  deriving Inhabited
abbrev Store := List O
abbrev Env := List (Option D)

inductive R (α : Type) where
  | ok (a : α) (S : Store) | exc (x : D) (S : Store) | bad
def R.bind {α β : Type} (r : R α) (f : α → Store → R β) : R β := match r with
  | .ok a S => f a S
  | .exc x S => .exc x S
  | .bad => .bad
/-- where nothing may be raised -/
def R.nox {α : Type} (r : R α) : R α := match r with
  | .ok a S => .ok a S
  | _ => .bad
def R.ofO {α : Type} (o : Option α) (S : Store) : R α := match o with
  | some a => .ok a S
  | none => .bad

/-! ### refs -/
mutual
def below (n : Nat) : D → Bool
  | .ref k => decide (k < n)
  | .tup l => belows n l
  | .lst l => belows n l
  | .exn _ l => belows n l
  | _ => true
def belows (n : Nat) : List D → Bool
  | [] => true
  | d :: r => below n d && belows n r
end
def belowF (n : Nat) : List (String × D) → Bool
  | [] => true
  | (_, d) :: r => below n d && belowF n r
def belowO (n : Nat) : O → Bool
  | .lst l => belows n l
  | .ins _ fs => belowF n fs

/-! ### what stands behind a value -/
def seqL (S : Store) : D → Option (List D)
  | .lst l => some l
  | .ref n => match S[n]? with
    | some (.lst l) => some l
    | _ => none
  | _ => none
def seqT : D → Option (List D)
  | .tup l => some l
  | _ => none
def seqA (S : Store) : D → Option (List D)
  | .tup l => some l
  | d => seqL S d

mutual
def pyG : D → Option PyData
  | .non => some .none
  | .bl b => some (.bool b)
  | .int i => some (.int i)
  | .str x => some (.str x)
  | .tup l => (pyGs l).map .tuple
  | .lst l => (pyGs l).map .list
  | _ => none
def pyGs : List D → Option (List PyData)
  | [] => some []
  | d :: r => (pyG d).bind fun a => (pyGs r).map fun b => a :: b
end
def py (S : Store) (d : D) : Option PyData := match d with
  | .ref n => match S[n]? with
    | some (.lst l) => (pyGs l).map .list
    | _ => none
  | d => pyG d

/-- == of data -/
def eqA (S : Store) (x y : D) : Option Bool :=
  (py S x).bind fun a => (py S y).bind fun b => if SeqAt.shaped a = true ∧ SeqAt.shaped b = true then some (PyData.eqv a b) else none
/-- x in a list or tuple -/
def inA (S : Store) (x y : D) : Option Bool := match y with
  | .str j => match x with
    | .str i => some (!(Builtin.Str.occurrences j i 0 j.length 1).isEmpty)
    | _ => none
  | y => (py S x).bind fun a => match y with
    | .tup l => (pyGs l).bind fun bs => if SeqAt.shaped a = true ∧ SeqAt.shaped (.list bs) = true then some (bs.any fun z => PyData.eqv z a) else none
    | y => (py S y).bind fun b => match b with
      | .list bs => if SeqAt.shaped a = true ∧ SeqAt.shaped (.list bs) = true then some (bs.any fun z => PyData.eqv z a) else none
      | _ => none

def truthA (S : Store) : D → Option Bool
  | .non => some false
  | .bl b => some b
  | .int i => some (i != 0)
  | .str x => if x.length ≤ sizeLine then some ((x.length : Int) != 0) else none
  | .tup l => some (!l.isEmpty)
  | .lst l => some (!l.isEmpty)
  | .ref n => match S[n]? with
    | some (.lst l) => some (!l.isEmpty)
    | _ => none
  | _ => none

/-- a list is made: as a value (v), or in the store -/
def mkL (v : Bool) (l : List D) (S : Store) : R D :=
  if l.length ≤ sizeLine then (if v then .ok (.lst l) S else .ok (.ref S.length) (S ++ [.lst l])) else .bad
def mkT (l : List D) (S : Store) : R D := if l.length ≤ sizeLine then .ok (.tup l) S else .bad

/-! ### operators -/
def rep (k : Int) (l : List D) : List D := (List.replicate k.toNat l).flatten
def addA (v : Bool) (S : Store) (x y : D) : R D := match x, y with
  | .int i, .int j => .ok (.int (i + j)) S
  | .str i, .str j => if i.length + j.length ≤ sizeLine then .ok (.str (i ++ j)) S else .bad
  | .tup a, .tup b => if a.length + b.length ≤ sizeLine then .ok (.tup (a ++ b)) S else .bad
  | x, y => match seqL S x, seqL S y with
    | some a, some b => mkL v (a ++ b) S
    | _, _ => .bad
def mulA (v : Bool) (S : Store) (x y : D) : R D := match x, y with
  | .int i, .int j => if (-(2 ^ 64) < i ∧ i < 2 ^ 64) ∨ (-(2 ^ 64) < j ∧ j < 2 ^ 64) then .ok (.int (i * j)) S else .bad
  | .tup a, .int k => if 1 ≤ k ∧ k ≤ 1000 ∧ a.length ≤ 1000 then .ok (.tup (rep k a)) S else .bad
  | x, .int k => match seqL S x with
    | some a => if -(2 ^ 63) ≤ k ∧ k < 2 ^ 63 ∧ a.length * k.toNat ≤ sizeLine then mkL v (rep k a) S else .bad
    | none => .bad
  | _, _ => .bad
def ariA (op : Operator) (i j : Int) : Option Int := match op with
  | .Sub => some (i - j)
  | .FloorDiv => if 0 < j ∧ j < 1073741824 then some (i / j) else none
  | .Mod => if 0 < j then some (i % j) else none
  | .Pow => if 0 ≤ j ∧ j ≤ 1000000 ∧ i.natAbs < 2 ^ 64 then some (i ^ j.toNat) else none
  | .LShift => if 0 ≤ j ∧ j ≤ 1000000 ∧ i.natAbs < 2 ^ 64 then some (i * 2 ^ j.toNat) else none
  | .RShift => if 0 ≤ j then some (i / 2 ^ j.toNat) else none
  | .BitAnd => some (Builtin.bitAnd i j)
  | _ => none
def binA (v : Bool) (op : Operator) (x y : D) (S : Store) : R D := match op with
  | .Add => addA v S x y
  | .Mult => mulA v S x y
  | op => match x, y with
    | .int i, .int j => R.ofO ((ariA op i j).map .int) S
    | _, _ => .bad
def ordA (op : CmpOp) (i j : Int) : Option Bool := match op with
  | .Lt => some (decide (i < j))
  | .LtE => some (decide (i ≤ j))
  | .Gt => some (decide (j < i))
  | .GtE => some (decide (j ≤ i))
  | _ => none
def cmpA (op : CmpOp) (x y : D) (S : Store) : Option Bool := match op with
  | .Eq => eqA S x y
  | .NotEq => (eqA S x y).map (!·)
  | .In => inA S x y
  | .NotIn => (inA S x y).map (!·)
  | .Is => match x, y with
    | .bl a, .bl b => some (decide (a = b))
    | x, .non => some (match x with | .non => true | _ => false)
    | _, _ => none
  | .IsNot => match x, y with
    | .bl a, .bl b => some (!decide (a = b))
    | x, .non => some (match x with | .non => false | _ => true)
    | _, _ => none
  | op => match x, y with
    | .int i, .int j => ordA op i j
    | _, _ => none
def negA : D → Option D
  | .int i => some (.int (-i))
  | _ => none
/-- a[i] -/
def subA (S : Store) (x y : D) : Option D := match y with
  | .int i => match x with
    | .str z => if z.length ≤ sizeLine then (L2.atI z.cps.toList i).map fun c => .str ⟨#[c]⟩ else none
    | x => (seqA S x).bind fun l => L2.atI l i
  | _ => none
def cutA (l : List D) (lo hi : Option Int) : List D := (l.drop (HT.sIx l.length 0 lo)).take (HT.sIx l.length l.length hi - HT.sIx l.length 0 lo)
def optI : D → Option Int
  | .int i => some i
  | _ => none
/-- a[lo:hi] -/
def slcA (v : Bool) (x : D) (lo hi : Option Int) (S : Store) : R D := match x with
  | .tup l => .ok (.tup (cutA l lo hi)) S
  | x => match seqL S x with
    | some l => mkL v (cutA l lo hi) S
    | none => .bad

/-! ### builtins, by values -/
def tyOf (S : Store) : D → Option String
  | .non => some "NoneType"
  | .bl _ => some "bool"
  | .int _ => some "int"
  | .str _ => some "str"
  | .tup _ => some "tuple"
  | .lst _ => some "list"
  | .ref n => match S[n]? with
    | some (.lst _) => some "list"
    | _ => none
  | _ => none
def intsOf : List D → Option (List Int)
  | [] => some []
  | .int i :: r => (intsOf r).map (i :: ·)
  | _ => none
def maxI : List Int → Int → Int
  | [], m => m
  | x :: r, m => maxI r (if m < x then x else m)
def bltA (v : Bool) (f : String) (ds : List D) (S : Store) : R D := match f, ds with
  | "len", [x] => match x with
    | .str z => if z.length ≤ sizeLine then .ok (.int z.length) S else .bad
    | x => match seqA S x with
      | some l => .ok (.int l.length) S
      | none => .bad
  | "tuple", [x] => match x with
    | .tup l => .ok (.tup l) S
    | x => match seqL S x with
      | some l => mkT l S
      | none => .bad
  | "list", [x] => match seqA S x with
    | some l => mkL v l S
    | none => .bad
  | "max", [.int i, .int j] => .ok (.int (if j > i then j else i)) S
  | "min", [.int i, .int j] => .ok (.int (if j < i then j else i)) S
  | "sum", [x] => match (seqL S x).bind intsOf with
    | some l => .ok (.int l.sum) S
    | none => .bad
  | "int", [.int i] => .ok (.int i) S
  | "int", [.bl b] => .ok (.int (if b then 1 else 0)) S
  | "isinstance", [x, .ty t] => match tyOf S x with
    | some a => match L2.kitB a t with
      | some b => .ok (.bl b) S
      | none => .bad
    | none => .bad
  | _, _ => .bad
/-- methods of what is built in -/
def mthA (T m : String) (o : D) (ds : List D) (S : Store) : R D := match T, m, o, ds with
  | "list", "append", .ref n, [x] => match S[n]? with
    | some (.lst l) => if l.length < sizeLine then .ok .non (S.set n (.lst (l ++ [x]))) else .bad
    | _ => .bad
  | _, _, _, _ => .bad
/-- the receiver is of that type -/
def recvA (T : String) (S : Store) (o : D) : Option Unit := match T with
  | "list" => (seqL S o).map fun _ => ()
  | "str" => match o with
    | .str _ => some ()
    | _ => none
  | _ => none
/-- o[i] = v -/
def setA (o i v : D) (S : Store) : R Unit := match o, i with
  | .ref n, .int k => match S[n]? with
    | some (.lst l) => match L2.ixN l.length k with
      | some j => .ok () (S.set n (.lst (l.set j v)))
      | none => .bad
    | _ => .bad
  | _, _ => .bad

/-- x op= y, of ints and texts -/
def augA (op : Operator) (x y : D) (S : Store) : R D := match op, x, y with
  | .Add, .int i, .int j => .ok (.int (i + j)) S
  | .Sub, .int i, .int j => .ok (.int (i - j)) S
  | .Add, .str i, .str j => if i.length + j.length ≤ sizeLine then .ok (.str (i ++ j)) S else .bad
  | _, _, _ => .bad

/-! ### targets, what is walked -/
inductive Tg where
  | nm (i : Nat) | tp (is : List Nat)
def asgs : List Nat → List D → Env → Option Env
  | [], [], e => some e
  | i :: r, d :: ds, e => asgs r ds (e.set i (some d))
  | _, _, _ => none
def asg (t : Tg) (d : D) (e : Env) : Option Env := match t with
  | .nm i => some (e.set i (some d))
  | .tp is => match d with
    | .tup l => asgs is l e
    | _ => none
def wipe (e : Env) : List Nat → Env
  | [] => e
  | v :: vs => (wipe e vs).set v none
def rng (a : Int) (n : Nat) (c : Int) : List D := (List.range n).map fun i => .int (a + (i : Nat) * c)
def enumF : Nat → List D → List D
  | _, [] => []
  | n, d :: r => .tup [.int n, d] :: enumF (n + 1) r
def zipF : List D → List D → List D
  | a :: r, b :: s => .tup [a, b] :: zipF r s
  | _, _ => []

/-! ### the terms -/
mutual
inductive E where
  | non | bl (b : Bool) | int (i : Int) | str (x : Str) | ty (n : String) | fn (x : String)
  | var (i : Nat) | glob (x : String)
  | tup (es : Es) | lst (v : Bool) (es : Es)
  | bin (v : Bool) (op : Operator) (a b : E) | neg (a : E) | not (a : E)
  | cmp (op : CmpOp) (a b : E) | chain (o1 o2 : CmpOp) (a b c : E)
  | and (a b : E) | or (a b : E) | ife (c a b : E)
  | call (f : String) (es : Es) | blt (v : Bool) (f : String) (es : Es) | mth (T m : String) (o : E) (es : Es)
  | sub (a i : E) | slc (v : Bool) (a : E) (lo hi : Oe)
  | comp (v : Bool) (own : List Nat) (tg : Tg) (it : It) (c : Oe) (e : E)
inductive Oe where
  | none | some (e : E)
inductive Es where
  | nil | cons (e : E) (es : Es)
inductive It where
  | seq (e : E) | rng1 (a : E) | rng2 (a b : E) | enum (e : E) | zip (a b : E)
end
mutual
inductive St where
  | set (i : Nat) (e : E) | unp (is : List Nat) (e : E) | sets (a i e : E) | aug (i : Nat) (op : Operator) (e : E)
  | expr (e : E) | ret (e : E) | retN | pass | brk | cont
  | ite (c : E) (a b : Sts) | for (tg : Tg) (it : It) (b : Sts) | whl (c : E) (b : Sts)
inductive Sts where
  | nil | cons (s : St) (r : Sts)
end
/-- how what a def hands back leaves it -/
inductive Md where
  | pure | new | raw
structure Def where
  np : Nat
  n : Nat
  md : Md
  body : Sts
abbrev Prog := String → Option Def
/-- module constants -/
abbrev Globs := String → Option D

inductive F where
  | nx (e : Env) | rt (d : D) | bk (e : Env) | ct (e : Env)

/-! ### loops -/
abbrev Gd := List (Nat × List D)
def gdOk (S : Store) : Gd → Prop
  | [] => True
  | (n, l) :: r => S[n]? = some (.lst l) ∧ gdOk S r
noncomputable instance : ∀ (S : Store) (g : Gd), Decidable (gdOk S g) := fun S g => Classical.propDecidable _
def gdOf (S : Store) (d : D) : Gd := match d with
  | .ref n => match S[n]? with
    | some (.lst l) => [(n, l)]
    | _ => []
  | _ => []
noncomputable def forA (g : Gd) (tg : Tg) (b : Env → Store → R F) : List D → Env → Store → R F
  | [], e, S => if gdOk S g then .ok (.nx e) S else .bad
  | d :: r, e, S => if gdOk S g then match asg tg d e with
      | none => .bad
      | some e1 => (b e1 S).bind fun f S1 => match f with
        | .nx e2 => forA g tg b r e2 S1
        | .ct e2 => forA g tg b r e2 S1
        | .bk e2 => .ok (.nx e2) S1
        | .rt d => .ok (.rt d) S1
    else .bad
noncomputable def compA (g : Gd) (tg : Tg) (c : Env → Store → R Bool) (t : Env → Store → R D) (e0 : Env) : List D → List D → Store → R (List D)
  | [], acc, S => if gdOk S g then .ok acc S else .bad
  | d :: r, acc, S => if gdOk S g then match asg tg d e0 with
      | none => .bad
      | some e1 => (c e1 S).nox.bind fun ok S1 => if ok then (t e1 S1).nox.bind fun y S2 => if acc.length < sizeLine then compA g tg c t e0 r (acc ++ [y]) S2 else .bad
        else compA g tg c t e0 r acc S1
    else .bad
def whileA : Nat → (Env → Store → R Bool) → (Env → Store → R F) → Env → Store → R F
  | 0, _, _, _, _ => .bad
  | n + 1, c, b, e, S => (c e S).bind fun t S1 => if t then (b e S1).bind fun f S2 => match f with
      | .nx e2 => whileA n c b e2 S2
      | .ct e2 => whileA n c b e2 S2
      | .bk e2 => .ok (.nx e2) S2
      | .rt d => .ok (.rt d) S2
    else .ok (.nx e) S1

/-! ### the evaluator -/
section
variable (G : Globs) (N : Nat) (call : String → List D → Store → R D)
def tru (r : R D) : R Bool := r.bind fun d S => R.ofO (truthA S d) S
/-- what is walked must be of few kinds -/
def itemsOf (S : Store) : D → Option (List D)
  | .str z => some (z.cps.toList.map fun c => .str ⟨#[c]⟩)
  | d => seqA S d
mutual
noncomputable def evE : E → Env → Store → R D
  | .non, _, S => .ok .non S
  | .bl b, _, S => .ok (.bl b) S
  | .int i, _, S => .ok (.int i) S
  | .str x, _, S => .ok (.str x) S
  | .ty n, _, S => .ok (.ty n) S
  | .fn x, _, S => .ok (.fn x) S
  | .var i, e, S => match e[i]? with
    | some (some d) => .ok d S
    | _ => .bad
  | .glob x, _, S => R.ofO (G x) S
  | .tup es, e, S => (evEs es e S).bind fun ds S1 => mkT ds S1
  | .lst v es, e, S => (evEs es e S).bind fun ds S1 => mkL v ds S1
  | .bin v op a b, e, S => (evE a e S).bind fun x S1 => (evE b e S1).bind fun y S2 => binA v op x y S2
  | .neg a, e, S => (evE a e S).bind fun x S1 => R.ofO (negA x) S1
  | .not a, e, S => (tru (evE a e S)).bind fun t S1 => .ok (.bl (!t)) S1
  | .cmp op a b, e, S => (evE a e S).bind fun x S1 => (evE b e S1).bind fun y S2 => (R.ofO (cmpA op x y S2) S2).bind fun t S3 => .ok (.bl t) S3
  | .chain o1 o2 a b c, e, S => (evE a e S).bind fun x S1 => (evE b e S1).bind fun y S2 => (R.ofO (cmpA o1 x y S2) S2).bind fun t S3 =>
      if t then (evE c e S3).bind fun z S4 => (R.ofO (cmpA o2 y z S4) S4).bind fun u S5 => .ok (.bl u) S5 else .ok (.bl false) S3
  | .and a b, e, S => (evE a e S).bind fun x S1 => (R.ofO (truthA S1 x) S1).bind fun t S2 => if t then evE b e S2 else .ok x S2
  | .or a b, e, S => (evE a e S).bind fun x S1 => (R.ofO (truthA S1 x) S1).bind fun t S2 => if t then .ok x S2 else evE b e S2
  | .ife c a b, e, S => (tru (evE c e S)).bind fun t S1 => if t then evE a e S1 else evE b e S1
  | .call f es, e, S => (evEs es e S).bind fun ds S1 => call f ds S1
  | .blt v f es, e, S => (evEs es e S).bind fun ds S1 => bltA v f ds S1
  | .mth T m o es, e, S => (evE o e S).bind fun x S1 => (R.ofO (recvA T S1 x) S1).bind fun _ S2 => (evEs es e S2).bind fun ds S3 => mthA T m x ds S3
  | .sub a i, e, S => (evE a e S).bind fun x S1 => (evE i e S1).bind fun y S2 => R.ofO (subA S2 x y) S2
  | .slc v a lo hi, e, S => (evE a e S).bind fun x S1 => (evOe lo e S1).bind fun l S2 => (evOe hi e S2).bind fun h S3 => slcA v x l h S3
  | .comp v own tg it c t, e, S => (evIt it e S).bind fun w S1 =>
      (compA w.2 tg (fun e S => tru (evOc c e S)) (fun e S => evE t e S) (wipe e own) w.1 [] S1).bind fun l S2 => mkL v l S2
noncomputable def evOe : Oe → Env → Store → R (Option Int)
  | .none, _, S => .ok none S
  | .some a, e, S => (evE a e S).bind fun x S1 => (R.ofO (optI x) S1).bind fun i S2 => .ok (some i) S2
noncomputable def evOc : Oe → Env → Store → R D
  | .none, _, S => .ok (.bl true) S
  | .some a, e, S => evE a e S
noncomputable def evEs : Es → Env → Store → R (List D)
  | .nil, _, S => .ok [] S
  | .cons a r, e, S => (evE a e S).bind fun x S1 => (evEs r e S1).bind fun xs S2 => .ok (x :: xs) S2
noncomputable def evIt : It → Env → Store → R (List D × Gd)
  | .seq a, e, S => (evE a e S).bind fun x S1 => (R.ofO (itemsOf S1 x) S1).bind fun l S2 => .ok (l, gdOf S2 x) S2
  | .rng1 a, e, S => (evE a e S).bind fun x S1 => match x with
    | .int j => if -(2 ^ 62) ≤ j ∧ j < 2 ^ 62 then .ok (rng 0 j.toNat 1, []) S1 else .bad
    | _ => .bad
  | .rng2 a b, e, S => (evE a e S).bind fun x S1 => (evE b e S1).bind fun y S2 => match x, y with
    | .int i, .int j => if -(2 ^ 62) ≤ i ∧ i < 2 ^ 62 ∧ -(2 ^ 62) ≤ j ∧ j < 2 ^ 62 then .ok (rng i (j - i).toNat 1, []) S2 else .bad
    | _, _ => .bad
  | .enum a, e, S => (evE a e S).bind fun x S1 => (R.ofO (seqL S1 x) S1).bind fun l S2 => .ok (enumF 0 l, gdOf S2 x) S2
  | .zip a b, e, S => (evE a e S).bind fun x S1 => (evE b e S1).bind fun y S2 => (R.ofO (seqA S2 x) S2).bind fun l S3 => (R.ofO (seqA S3 y) S3).bind fun k S4 => .ok (zipF l k, gdOf S4 x ++ gdOf S4 y) S4
end
mutual
noncomputable def exS : St → Env → Store → R F
  | .set i a, e, S => (evE G call a e S).bind fun x S1 => .ok (.nx (e.set i (some x))) S1
  | .unp is a, e, S => (evE G call a e S).bind fun x S1 => match asg (.tp is) x e with
    | some e1 => .ok (.nx e1) S1
    | none => .bad
  | .sets a i b, e, S => (evE G call b e S).bind fun y S1 => (evE G call a e S1).bind fun x S2 => (evE G call i e S2).bind fun k S3 => (setA x k y S3).bind fun _ S4 => .ok (.nx e) S4
  | .aug i op a, e, S => match e[i]? with
    | some (some x) => (evE G call a e S).bind fun y S1 => (augA op x y S1).bind fun z S2 => .ok (.nx (e.set i (some z))) S2
    | _ => .bad
  | .expr a, e, S => (evE G call a e S).bind fun _ S1 => .ok (.nx e) S1
  | .ret a, e, S => (evE G call a e S).bind fun x S1 => .ok (.rt x) S1
  | .retN, _, S => .ok (.rt .non) S
  | .pass, e, S => .ok (.nx e) S
  | .brk, e, S => .ok (.bk e) S
  | .cont, e, S => .ok (.ct e) S
  | .ite c a b, e, S => (tru (evE G call c e S)).bind fun t S1 => if t then exB a e S1 else exB b e S1
  | .for tg it b, e, S => (evIt G call it e S).bind fun w S1 => forA w.2 tg (fun e S => exB b e S) w.1 e S1
  | .whl c b, e, S => whileA N (fun e S => tru (evE G call c e S)) (fun e S => exB b e S) e S
noncomputable def exB : Sts → Env → Store → R F
  | .nil, e, S => .ok (.nx e) S
  | .cons s r, e, S => (exS s e S).bind fun f S1 => match f with
    | .nx e1 => exB r e1 S1
    | f => .ok f S1
end
end

/-! ### calls -/
/-- what a value is once the refs of the callee's own are told as data; values without such stay -/
noncomputable def outD (S : Store) (n : Nat) (d : D) : Option D := if below n d = true then some d else match d with
  | .ref j => match S[j]? with
    | some (.lst l) => if belows n l = true then some (.lst l) else none
    | _ => none
  | _ => none
def oldOk (S S' : Store) : Prop := S.length ≤ S'.length ∧ ∀ i, i < S.length → S'[i]? = S[i]? ∨ ∃ o, S'[i]? = some o ∧ belowO S.length o = true
noncomputable instance : ∀ (S S' : Store), Decidable (oldOk S S') := fun _ _ => Classical.propDecidable _
noncomputable def fin (md : Md) (S : Store) (d : D) (S' : Store) : R D := match md with
  | .raw => .ok d S'
  | .pure => if oldOk S S' then match outD S' S.length d with
      | some x => .ok x (S'.take S.length)
      | none => .bad
    else .bad
  | .new => if oldOk S S' then match d with
      | .ref j => if j < S.length then .bad else match S'[j]? with
        | some (.lst l) => if belows S.length l = true then .ok (.ref S.length) (S'.take S.length ++ [.lst l]) else .bad
        | _ => .bad
      | _ => .bad
    else .bad
noncomputable def leave (md : Md) (S : Store) (r : R F) : R D := match r with
  | .ok (.rt d) S' => fin md S d S'
  | .ok (.nx _) S' => fin md S .non S'
  | .exc x S' => if oldOk S S' ∧ below S.length x = true then .exc x (S'.take S.length) else .bad
  | _ => .bad
noncomputable def callA (G : Globs) (N : Nat) (P : Prog) : Nat → String → List D → Store → R D
  | 0, _, _, _ => .bad
  | k + 1, f, ds, S => match P f with
    | none => .bad
    | some d => if ds.length = d.np then leave d.md S (exB G N (callA G N P k) d.body (ds.map some ++ List.replicate (d.n - d.np) none) S) else .bad
end Mn

/-! Mn2: how the small reading's data lie in the layer's heap. -/
namespace Mn
open PySem PySem.Spec PyProof.Rows
open L2 (V Hp HO Cx SqL SqT Rd St VK WX XK TE TA TS TT TG PE PA PS PSs PT PG Ends upd upd_same upd_ne)
abbrev Frag := PySem.W.Frag

/-- the built-in names that stand for themselves; how many arguments the defs take -/
structure Sg where
  bls : List String
  sig : String → Option Nat
structure Cfg where
  fa : String → Option Addr
  ca : String → Option Addr
  tabs : List Addr
  sg : Sg

/-- where the store's things stand; what is being made and not told yet -/
structure MM where
  ix : List Addr
  hid : List Addr
/-- a list that is data: not of the store -/
def LV (K : Frag) (m : MM) (H : Hp) (a : Addr) (vs : List V) : Prop :=
  (Rd H a (.lst vs) ∧ a ∉ m.ix ∧ a ∉ m.hid) ∨
    ∃ (o : Obj) (its : Array Value) (n : Nat), K.lookup a = some o ∧ o.cls = .type "list" ∧ o.dict = none ∧ o.data = .seq its n ∧ its.size ≤ sizeLine ∧ L2.Vals vs its.toList
theorem LV.sq {K : Frag} {m : MM} {H : Hp} {a : Addr} {vs : List V} (h : LV K m H a vs) : SqL K H a vs := by
  rcases h with h | h
  · exact .inl h.1
  · exact .inr h

mutual
inductive RV (K : Frag) (c : Cfg) (m : MM) (H : Hp) : D → V → Prop
  | non : RV K c m H .non .non
  | bl (b : Bool) : RV K c m H (.bl b) (.bl b)
  | int (i : Int) : RV K c m H (.int i) (.int i)
  | str (x : Str) : RV K c m H (.str x) (.str x)
  | tup {a : Addr} {vs : List V} {ds : List D} : SqT K H a vs → RVs K c m H ds vs → RV K c m H (.tup ds) (.ref a)
  | lst {a : Addr} {vs : List V} {ds : List D} : LV K m H a vs → RVs K c m H ds vs → RV K c m H (.lst ds) (.ref a)
  | ref {n : Nat} {a : Addr} : m.ix[n]? = some a → RV K c m H (.ref n) (.ref a)
  | fn {x : String} {a : Addr} : c.fa x = some a → RV K c m H (.fn x) (.ref a)
  | cls {x : String} {a : Addr} : c.ca x = some a → RV K c m H (.cls x) (.ref a)
  | ty (n : String) : RV K c m H (.ty n) (.ty n)
inductive RVs (K : Frag) (c : Cfg) (m : MM) (H : Hp) : List D → List V → Prop
  | nil : RVs K c m H [] []
  | cons {d : D} {v : V} {ds : List D} {vs : List V} : RV K c m H d v → RVs K c m H ds vs → RVs K c m H (d :: ds) (v :: vs)
end
section
variable {K : Frag} {c : Cfg} {m m' m2 : MM} {H H' H2 : Hp}
theorem RVs.length {ds : List D} {vs : List V} (h : RVs K c m H ds vs) : ds.length = vs.length := by
  induction ds generalizing vs with
  | nil => cases h; rfl
  | cons d ds ih =>
    cases h with
    | cons h1 h2 => simp [ih h2]
theorem RVs.get : ∀ {ds : List D} {vs : List V} {i : Nat} {v : V}, RVs K c m H ds vs → vs[i]? = some v → ∃ d, ds[i]? = some d ∧ RV K c m H d v
  | _, _, _, _, .nil, e => by simp at e
  | _, _, 0, _, .cons h _, e => by simp at e; subst e; exact ⟨_, rfl, h⟩
  | _, _, i + 1, _, .cons _ t, e => by
    obtain ⟨d, h1, h2⟩ := RVs.get (i := i) t (by simpa using e)
    exact ⟨d, by simpa using h1, h2⟩
theorem RVs.getD : ∀ {ds : List D} {vs : List V} {i : Nat} {d : D}, RVs K c m H ds vs → ds[i]? = some d → ∃ v, vs[i]? = some v ∧ RV K c m H d v
  | _, _, _, _, .nil, e => by simp at e
  | _, _, 0, _, .cons h _, e => by simp at e; subst e; exact ⟨_, rfl, h⟩
  | _, _, i + 1, _, .cons _ t, e => by
    obtain ⟨d, h1, h2⟩ := RVs.getD (i := i) t (by simpa using e)
    exact ⟨d, by simpa using h1, h2⟩
theorem RVs.append : ∀ {ds es : List D} {vs us : List V}, RVs K c m H ds vs → RVs K c m H es us → RVs K c m H (ds ++ es) (vs ++ us)
  | _, _, _, _, .nil, h => h
  | _, _, _, _, .cons h t, h2 => .cons h (RVs.append t h2)
theorem RVs.take : ∀ {ds : List D} {vs : List V} (n : Nat), RVs K c m H ds vs → RVs K c m H (ds.take n) (vs.take n)
  | _, _, 0, _ => .nil
  | _, _, _ + 1, .nil => .nil
  | _, _, n + 1, .cons h t => .cons h (RVs.take n t)
theorem RVs.drop : ∀ {ds : List D} {vs : List V} (n : Nat), RVs K c m H ds vs → RVs K c m H (ds.drop n) (vs.drop n)
  | _, _, 0, h => h
  | _, _, _ + 1, .nil => .nil
  | _, _, n + 1, .cons _ t => RVs.drop n t
theorem RVs.set {d : D} {v : V} (r : RV K c m H d v) : ∀ {ds : List D} {vs : List V} (i : Nat), RVs K c m H ds vs → RVs K c m H (ds.set i d) (vs.set i v)
  | _, _, _, .nil => .nil
  | _, _, 0, .cons _ t => .cons r t
  | _, _, i + 1, .cons h t => .cons h (RVs.set r i t)
theorem RVs.rep {ds : List D} {vs : List V} (h : RVs K c m H ds vs) : ∀ k : Nat, RVs K c m H (List.replicate k ds).flatten (List.replicate k vs).flatten
  | 0 => .nil
  | k + 1 => by
    rw [List.replicate_succ, List.replicate_succ, List.flatten_cons, List.flatten_cons]
    exact h.append (RVs.rep h k)
theorem RVs.emp {ds : List D} {vs : List V} (h : RVs K c m H ds vs) : ds.isEmpty = vs.isEmpty := by
  cases h <;> rfl

/-! ### objects, the whole -/
inductive RO (K : Frag) (c : Cfg) (m : MM) (H : Hp) : O → HO → Prop
  | lst {ds : List D} {vs : List V} : RVs K c m H ds vs → RO K c m H (.lst ds) (.lst vs)

structure Ext (m : MM) (H : Hp) (m' : MM) (H' : Hp) : Prop where
  pre : ∃ r, m'.ix = m.ix ++ r ∧ ∀ a ∈ r, H a = none
  hid : (∀ b ∈ m.hid, b ∈ m'.hid) ∧ ∀ b ∈ m'.hid, b ∈ m.hid ∨ H b = none
  keep : ∀ a u, H a = some u → a ∉ m.ix → (∀ ps, u ≠ .tbl ps) → H' a = some u
  stay : ∀ a, H' a = none → H a = none
structure Sim (K : Frag) (c : Cfg) (m : MM) (H : Hp) (S : Store) : Prop where
  len : m.ix.length = S.length
  nd : m.ix.Nodup
  hid : ∀ a ∈ m.hid, H a ≠ none ∧ a ∉ m.ix
  obj : ∀ (n : Nat) (o : O), S[n]? = some o → ∃ (a : Addr) (u : HO), m.ix[n]? = some a ∧ H a = some u ∧ RO K c m H o u
  tab : ∀ P ∈ c.tabs, ∃ ps : Array Value, H P = some (.tbl ps) ∧ TriplesOk ps.toList
theorem Ext.refl : Ext m H m H := ⟨⟨[], by simp, by simp⟩, ⟨fun _ h => h, fun _ h => .inl h⟩, fun _ _ h _ _ => h, fun _ h => h⟩
theorem Ext.trans (a : Ext m H m' H') (b : Ext m' H' m2 H2) : Ext m H m2 H2 := by
  obtain ⟨r, e1, hr⟩ := a.pre
  obtain ⟨r2, e2, hr2⟩ := b.pre
  refine ⟨⟨r ++ r2, by rw [e2, e1]; simp, fun x hx => ?_⟩, ⟨fun x hx => b.hid.1 x (a.hid.1 x hx), fun x hx => (b.hid.2 x hx).elim (a.hid.2 x) fun h => .inr (a.stay x h)⟩, fun x u h hm ht => ?_, fun x h => a.stay x (b.stay x h)⟩
  · rcases List.mem_append.mp hx with h | h
    · exact hr x h
    · exact a.stay x (hr2 x h)
  · refine b.keep x u (a.keep x u h hm ht) (fun h2 => ?_) ht
    rw [e1] at h2
    rcases List.mem_append.mp h2 with h3 | h3
    · exact hm h3
    · rw [hr x h3] at h; cases h
theorem Sim.mem {S : Store} (s : Sim K c m H S) {a : Addr} (h : a ∈ m.ix) : ∃ o u, H a = some u ∧ RO K c m H o u := by
  obtain ⟨n, hn⟩ := List.getElem?_of_mem h
  have hl : n < S.length := by
    rw [← s.len]
    exact (List.getElem?_eq_some_iff.mp hn).1
  obtain ⟨a', u, h1, h2, h3⟩ := s.obj n _ (List.getElem?_eq_getElem hl)
  rw [hn] at h1; cases h1
  exact ⟨_, u, h2, h3⟩
theorem Sim.out {S : Store} (s : Sim K c m H S) {a : Addr} {u : HO} (h : H a = some u) (hk : ∀ vs, u ≠ .lst vs) : a ∉ m.ix := fun hm => by
  obtain ⟨o, u', h2, h3⟩ := s.mem hm
  rw [h] at h2; cases h2
  cases h3
  exact hk _ rfl
theorem Sim.at {S : Store} (s : Sim K c m H S) {n : Nat} {ds : List D} (h : S[n]? = some (.lst ds)) : ∃ a vs, m.ix[n]? = some a ∧ H a = some (.lst vs) ∧ RVs K c m H ds vs := by
  obtain ⟨a, u, h1, h2, h3⟩ := s.obj n _ h
  cases h3 with
  | lst h3 => exact ⟨a, _, h1, h2, h3⟩
theorem Ext.rd {S : Store} (e : Ext m H m' H') {a : Addr} {u : HO} (h : Rd H a u) (hm : a ∉ m.ix) (hu : ∀ ps, u ≠ .tbl ps) : Rd H' a u := by
  rcases h with h | ⟨o, h⟩
  · exact .inl (e.keep a _ h hm hu)
  · exact .inr ⟨o, e.keep a _ h hm fun ps z => by cases z⟩
theorem Rd.some {a : Addr} {u : HO} (h : Rd H a u) : ∃ x, H a = some x := by
  rcases h with h | ⟨o, h⟩ <;> exact ⟨_, h⟩
theorem Ext.tup {S : Store} (s : Sim K c m H S) (e : Ext m H m' H') {a : Addr} {vs : List V} (h : SqT K H a vs) : SqT K H' a vs := by
  rcases h with h | h
  · refine .inl (e.rd (S := S) h ?_ fun ps z => by cases z)
    rcases h with h | ⟨o, h⟩
    · exact s.out h fun vs z => by cases z
    · exact s.out h fun vs z => by cases z
  · exact .inr h
theorem Ext.lv (e : Ext m H m' H') {a : Addr} {vs : List V} (h : LV K m H a vs) : LV K m' H' a vs := by
  rcases h with ⟨h, hm, hh⟩ | h
  · refine .inl ⟨e.rd (S := []) h hm (fun ps z => by cases z), fun h2 => ?_, fun h2 => ?_⟩
    obtain ⟨r, e1, hr⟩ := e.pre
    rw [e1] at h2
    rcases List.mem_append.mp h2 with h3 | h3
    · exact hm h3
    · obtain ⟨x, hx⟩ := Rd.some h
      rw [hr a h3] at hx; cases hx
    · obtain ⟨x, hx⟩ := Rd.some h
      rcases e.hid.2 a h2 with z | z
      · exact hh z
      · rw [z] at hx; cases hx
  · exact .inr h
mutual
theorem RV.mono {S : Store} (s : Sim K c m H S) (e : Ext m H m' H') : ∀ {d : D} {v : V}, RV K c m H d v → RV K c m' H' d v
  | _, _, .non => .non
  | _, _, .bl b => .bl b
  | _, _, .int i => .int i
  | _, _, .str x => .str x
  | _, _, .tup h t => .tup (e.tup s h) (RVs.mono s e t)
  | _, _, .lst h t => .lst (e.lv h) (RVs.mono s e t)
  | _, _, .ref h => .ref (by
    obtain ⟨r, e1, _⟩ := e.pre
    rw [e1, List.getElem?_append_left (List.getElem?_eq_some_iff.mp h).1]
    exact h)
  | _, _, .fn h => .fn h
  | _, _, .cls h => .cls h
  | _, _, .ty n => .ty n
theorem RVs.mono {S : Store} (s : Sim K c m H S) (e : Ext m H m' H') : ∀ {ds : List D} {vs : List V}, RVs K c m H ds vs → RVs K c m' H' ds vs
  | _, _, .nil => .nil
  | _, _, .cons h t => .cons (RV.mono s e h) (RVs.mono s e t)
end

/-! ### the slots -/
structure EnvR (K : Frag) (c : Cfg) (m : MM) (H : Hp) (e : Env) (σ : L2.St) : Prop where
  len : e.length = σ.length
  at_ : ∀ (i : Nat) (d : D), e[i]? = some (some d) → ∃ v, σ[i]? = some (some v) ∧ RV K c m H d v
theorem EnvR.mono {S : Store} {e : Env} {σ : L2.St} (r : EnvR K c m H e σ) (s : Sim K c m H S) (x : Ext m H m' H') : EnvR K c m' H' e σ :=
  ⟨r.len, fun i d h => let ⟨v, h1, h2⟩ := r.at_ i d h; ⟨v, h1, h2.mono s x⟩⟩
theorem EnvR.set {e : Env} {σ : L2.St} {d : D} {v : V} (r : EnvR K c m H e σ) (h : RV K c m H d v) (i : Nat) : EnvR K c m H (e.set i (some d)) (σ.set i (some v)) := by
  refine ⟨by simp [r.len], fun j y hj => ?_⟩
  by_cases e1 : i = j
  · subst e1
    have hl : i < e.length := by
      have := (List.getElem?_eq_some_iff.mp hj).1
      simpa using this
    rw [List.getElem?_set_self hl] at hj
    cases hj
    exact ⟨v, List.getElem?_set_self (by rw [← r.len]; exact hl), h⟩
  · rw [List.getElem?_set_ne e1] at hj ⊢
    exact r.at_ j y hj
theorem EnvR.none {e : Env} {σ : L2.St} (r : EnvR K c m H e σ) (i : Nat) : EnvR K c m H (e.set i Option.none) (σ.set i Option.none) := by
  refine ⟨by simp [r.len], fun j y hj => ?_⟩
  by_cases e1 : i = j
  · subst e1
    have hl : i < e.length := by
      have := (List.getElem?_eq_some_iff.mp hj).1
      simpa using this
    rw [List.getElem?_set_self hl] at hj
    cases hj
  · rw [List.getElem?_set_ne e1] at hj ⊢
    exact r.at_ j y hj
theorem EnvR.wipe {e : Env} {σ : L2.St} (r : EnvR K c m H e σ) : ∀ vs : List Nat, EnvR K c m H (wipe e vs) (L2.wipe σ vs)
  | [] => r
  | v :: vs => (EnvR.wipe r vs).none v

/-! ### what a reading comes to -/
/-- an exception as data -/
inductive RX (K : Frag) (c : Cfg) (m : MM) (H : Hp) : D → Value → Option Addr → Prop
  | own {x : String} {C : Addr} : c.ca x = some C → RX K c m H (.exn x []) (.ref C) Option.none

def Aft {α : Type} (K : Frag) (c : Cfg) (W : WX) (σ : L2.St) (m : MM) (H : Hp) (r : R α) (k : α → Store → MM → Hp → Prop) : Prop := match r with
  | .ok a S' => ∀ m' H', Ext m H m' H' → Sim K c m' H' S' → k a S' m' H'
  | .exc x S' => ∀ m' H' cls dx, Ext m H m' H' → Sim K c m' H' S' → RX K c m' H' x cls dx → W cls dx σ H'
  | .bad => False
theorem Aft.shift {α : Type} {W : WX} {σ : L2.St} {r : R α} {k : α → Store → MM → Hp → Prop} (h : Aft K c W σ m H r k) (e : Ext m H m' H') : Aft K c W σ m' H' r k := by
  cases r with
  | ok a S => exact fun m2 H2 e2 s2 => h m2 H2 (e.trans e2) s2
  | exc x S => exact fun m2 H2 cls dx e2 s2 r2 => h m2 H2 cls dx (e.trans e2) s2 r2
  | bad => exact h
theorem Aft.bind {α β : Type} {W : WX} {σ : L2.St} {r : R α} {f : α → Store → R β} {k : β → Store → MM → Hp → Prop} (h : Aft K c W σ m H (r.bind f) k) :
    Aft K c W σ m H r (fun a S1 m1 H1 => Aft K c W σ m1 H1 (f a S1) k) := by
  cases r with
  | ok a S => exact fun m1 H1 e1 s1 => Aft.shift h e1
  | exc x S => exact h
  | bad => exact h
theorem Aft.imp {α : Type} {W : WX} {σ : L2.St} {r : R α} {k k' : α → Store → MM → Hp → Prop} (h : Aft K c W σ m H r k) (hk : ∀ a S' m' H', Ext m H m' H' → Sim K c m' H' S' → k a S' m' H' → k' a S' m' H') : Aft K c W σ m H r k' := by
  cases r with
  | ok a S => exact fun m1 H1 e1 s1 => hk _ _ _ _ e1 s1 (h m1 H1 e1 s1)
  | exc x S => exact h
  | bad => exact h
theorem Aft.ofO {α : Type} {W : WX} {σ : L2.St} {o : Option α} {S : Store} {k : α → Store → MM → Hp → Prop} (h : Aft K c W σ m H (R.ofO o S) k) (s : Sim K c m H S) : ∃ a, o = some a ∧ k a S m H := by
  cases o with
  | none => exact h.elim
  | some a => exact ⟨a, rfl, h m H .refl s⟩
theorem Aft.now {α : Type} {W : WX} {σ : L2.St} {a : α} {S : Store} {k : α → Store → MM → Hp → Prop} (h : Aft K c W σ m H (.ok a S) k) (s : Sim K c m H S) : k a S m H := h m H .refl s
end

/-- an expression's reading by the evaluator -/
def tE (K : Frag) (c : Cfg) (W : WX) (f : Env → Store → R D) : TE := fun σ H Q => ∃ (e : Env) (m : MM) (S : Store), EnvR K c m H e σ ∧ Sim K c m H S ∧ Aft K c W σ m H (f e S) fun d _ m' H' => ∀ v, RV K c m' H' d v → Q v H'
def tT (K : Frag) (c : Cfg) (W : WX) (f : Env → Store → R D) : TT := fun σ H Q => ∃ (e : Env) (m : MM) (S : Store), EnvR K c m H e σ ∧ Sim K c m H S ∧ Aft K c W σ m H (f e S) fun d S' _ H' => ∃ b, truthA S' d = some b ∧ Q b H'
def tA (K : Frag) (c : Cfg) (W : WX) (f : Env → Store → R (List D)) : TA := fun σ H Q => ∃ (e : Env) (m : MM) (S : Store), EnvR K c m H e σ ∧ Sim K c m H S ∧ Aft K c W σ m H (f e S) fun ds _ m' H' => ∀ vs, RVs K c m' H' ds vs → Q vs H'
theorem PE.imp {X : Cx} {e : Expr} {t t' : TE} (h : PE X e t) (i : ∀ σ H Q, t' σ H Q → t σ H Q) : PE X e t' := ⟨fun pins s σ H Q I q => h.run pins s σ H Q I (i _ _ _ q)⟩
theorem PT.imp {X : Cx} {e : Expr} {t t' : TT} (h : PT X e t) (i : ∀ σ H Q, t' σ H Q → t σ H Q) : PT X e t' := ⟨fun pins s σ H Q I q => h.run pins s σ H Q I (i _ _ _ q)⟩
theorem PA.imp {X : Cx} {e : List Expr} {t t' : TA} (h : PA X e t) (i : ∀ σ H Q, t' σ H Q → t σ H Q) : PA X e t' := ⟨fun p pins s σ H Q I q => h.run p pins s σ H Q I (i _ _ _ q)⟩
theorem PS.imp {X : Cx} {e : Stmt} {t t' : TS} (h : PS X e t) (i : ∀ D σ H, t' D σ H → t D σ H) : PS X e t' := ⟨fun pins s σ H Q I q => h.run pins s σ H Q I (i _ _ _ q)⟩
theorem PSs.imp {X : Cx} {e : List Stmt} {t t' : TS} (h : PSs X e t) (i : ∀ D σ H, t' D σ H → t D σ H) : PSs X e t' := ⟨fun pins s σ H Q I q => h.run pins s σ H Q I (i _ _ _ q)⟩

/-! ### the store grows, is written -/
section
variable {K : Frag} {c : Cfg} {m m' m2 : MM} {H H' H2 : Hp} {S : Store}
theorem Ext.fresh {p : Addr} {o : HO} (hp : H p = none) (s : Sim K c m H S) : Ext m H m (upd H p o) :=
  ⟨⟨[], by simp, by simp⟩, ⟨fun _ h => h, fun _ h => .inl h⟩, fun a u h _ _ => by rw [upd_ne (L2.ne_of_none h hp)]; exact h, fun a h => by
    by_cases e : a = p
    · subst e; exact hp
    · rw [upd_ne e] at h; exact h⟩
theorem upd_some {p a : Addr} {o : HO} (h : H a ≠ none) : upd H p o a ≠ none := by
  by_cases e : a = p
  · subst e; rw [upd_same]; simp
  · rw [upd_ne e]; exact h
/-- a thing that the store doesn't know is made -/
theorem Sim.fresh {p : Addr} {o : HO} (s : Sim K c m H S) (hp : H p = none) : Sim K c m (upd H p o) S := by
  have e := Ext.fresh (o := o) hp s
  refine ⟨s.len, s.nd, fun a ha => ⟨upd_some (s.hid a ha).1, (s.hid a ha).2⟩, fun n ob h => ?_, fun P hP => ?_⟩
  · obtain ⟨a, u, h1, h2, h3⟩ := s.obj n ob h
    refine ⟨a, u, h1, by rw [upd_ne (L2.ne_of_none h2 hp)]; exact h2, ?_⟩
    cases h3 with
    | lst h3 => exact .lst (h3.mono s e)
  · obtain ⟨ps, h1, h2⟩ := s.tab P hP
    exact ⟨ps, by rw [upd_ne (L2.ne_of_none h1 hp)]; exact h1, h2⟩
theorem RV.newTup {p : Addr} {ds : List D} {vs : List V} (s : Sim K c m H S) (hp : H p = none) (r : RVs K c m H ds vs) : RV K c m (upd H p (.tup vs)) (.tup ds) (.ref p) :=
  .tup (SqT.of upd_same) (r.mono s (Ext.fresh hp s))
theorem Sim.none_out (s : Sim K c m H S) {p : Addr} (hp : H p = none) : p ∉ m.ix ∧ p ∉ m.hid :=
  ⟨(fun h => by
    obtain ⟨o, u, h2, _⟩ := s.mem h
    rw [hp] at h2
    cases h2), fun h => (s.hid p h).1 hp⟩
theorem RV.newLst {p : Addr} {ds : List D} {vs : List V} (s : Sim K c m H S) (hp : H p = none) (r : RVs K c m H ds vs) : RV K c m (upd H p (.lst vs)) (.lst ds) (.ref p) :=
  .lst (.inl ⟨.inl upd_same, s.none_out hp⟩) (r.mono s (Ext.fresh hp s))
/-- a list is put into the store -/
theorem Sim.push {p : Addr} {ds : List D} {vs : List V} (s : Sim K c m H S) (hp : H p = none) (r : RVs K c m H ds vs) : Ext m H ⟨m.ix ++ [p], m.hid⟩ (upd H p (.lst vs)) ∧ Sim K c ⟨m.ix ++ [p], m.hid⟩ (upd H p (.lst vs)) (S ++ [.lst ds]) := by
  obtain ⟨hpm, hph⟩ := s.none_out hp
  have e : Ext m H ⟨m.ix ++ [p], m.hid⟩ (upd H p (.lst vs)) := ⟨⟨[p], rfl, by simpa using hp⟩, ⟨fun _ h => h, fun _ h => .inl h⟩, fun a u h _ _ => by rw [upd_ne (L2.ne_of_none h hp)]; exact h, fun a h => by
    by_cases e : a = p
    · subst e; exact hp
    · rw [upd_ne e] at h; exact h⟩
  refine ⟨e, by simp [s.len], ?_, fun a ha => ⟨upd_some (s.hid a ha).1, fun h => ?_⟩, fun n o h => ?_, fun P hP => ?_⟩
  · rw [List.nodup_append]
    exact ⟨s.nd, by simp, fun a ha b hb => by
      have : b = p := by simpa using hb
      subst this
      exact fun z => hpm (z ▸ ha)⟩
  · rcases List.mem_append.mp h with h | h
    · exact (s.hid a ha).2 h
    · have : a = p := by simpa using h
      subst this
      exact hph ha
  · by_cases hn : n < S.length
    · rw [List.getElem?_append_left hn] at h
      obtain ⟨a, u, h1, h2, h3⟩ := s.obj n o h
      refine ⟨a, u, ?_, by rw [upd_ne (L2.ne_of_none h2 hp)]; exact h2, ?_⟩
      · show (m.ix ++ [p])[n]? = some a
        rw [List.getElem?_append_left (by rw [s.len]; exact hn)]
        exact h1
      · cases h3 with
        | lst h3 => exact .lst (h3.mono s e)
    · have hn2 : n = S.length := by
        have := (List.getElem?_eq_some_iff.mp h).1
        simp at this
        omega
      subst hn2
      rw [List.getElem?_append_right (Nat.le_refl _)] at h
      simp at h
      subst h
      refine ⟨p, _, ?_, upd_same, .lst (r.mono s e)⟩
      show (m.ix ++ [p])[S.length]? = some p
      rw [List.getElem?_append_right (by rw [s.len]; exact Nat.le_refl _), s.len]
      simp
  · obtain ⟨ps, h1, h2⟩ := s.tab P hP
    exact ⟨ps, by rw [upd_ne (L2.ne_of_none h1 hp)]; exact h1, h2⟩
/-- a list of the store is written -/
theorem Sim.write {n : Nat} {a : Addr} {ds es : List D} {vs us : List V} (s : Sim K c m H S) (hn : S[n]? = some (.lst ds)) (ha : m.ix[n]? = some a) (hH : H a = some (.lst vs)) (r : RVs K c m H es us) :
    Ext m H m (upd H a (.lst us)) ∧ Sim K c m (upd H a (.lst us)) (S.set n (.lst es)) := by
  have e : Ext m H m (upd H a (.lst us)) := ⟨⟨[], by simp, by simp⟩, ⟨fun _ h => h, fun _ h => .inl h⟩, fun b u h hb _ => by
      rw [upd_ne (fun z => hb (by rw [z]; exact List.mem_of_getElem? ha))]; exact h, fun b h => by
    by_cases e : b = a
    · subst e; rw [upd_same] at h; cases h
    · rw [upd_ne e] at h; exact h⟩
  refine ⟨e, by simp [s.len], s.nd, fun a ha => ⟨upd_some (s.hid a ha).1, (s.hid a ha).2⟩, fun k o h => ?_, fun P hP => ?_⟩
  · by_cases hk : n = k
    · subst hk
      have hl : n < S.length := (List.getElem?_eq_some_iff.mp hn).1
      rw [List.getElem?_set_self hl] at h
      cases h
      exact ⟨a, _, ha, upd_same, .lst (r.mono s e)⟩
    · rw [List.getElem?_set_ne hk] at h
      obtain ⟨b, u, h1, h2, h3⟩ := s.obj k o h
      have hb : b ≠ a := fun z => by
        subst z
        obtain ⟨l1, q1⟩ := List.getElem?_eq_some_iff.mp ha
        obtain ⟨l2, q2⟩ := List.getElem?_eq_some_iff.mp h1
        exact hk ((List.getElem_inj s.nd).mp (q1.trans q2.symm))
      refine ⟨b, u, h1, by rw [upd_ne hb]; exact h2, ?_⟩
      cases h3 with
      | lst h3 => exact .lst (h3.mono s e)
  · obtain ⟨ps, h1, h2⟩ := s.tab P hP
    refine ⟨ps, ?_, h2⟩
    rw [upd_ne (fun z => by rw [← z, h1] at hH; cases hH)]
    exact h1
/-- mkL at a new place -/
theorem mkL_new {W : WX} {σ : L2.St} {v : Bool} {ds : List D} {vs : List V} {Q : VK} (s : Sim K c m H S) (r : RVs K c m H ds vs) (h : Aft K c W σ m H (mkL v ds S) fun d _ m' H' => ∀ v, RV K c m' H' d v → Q v H') :
    vs.length ≤ sizeLine ∧ ∀ p, H p = none → Q (.ref p) (upd H p (.lst vs)) := by
  unfold mkL at h
  split at h
  · rename_i hz
    refine ⟨by rw [← r.length]; exact hz, fun p hp => ?_⟩
    cases v with
    | true => exact h m _ (Ext.fresh hp s) (s.fresh hp) _ (RV.newLst s hp r)
    | false =>
      obtain ⟨e, s'⟩ := s.push hp r
      refine h _ _ e s' _ (.ref ?_)
      show (m.ix ++ [p])[S.length]? = some p
      rw [List.getElem?_append_right (by rw [s.len]; exact Nat.le_refl _), s.len]
      simp
  · exact h.elim

/-! ### hiding -/
abbrev MM.hide (m : MM) (B : Addr) : MM := ⟨m.ix, B :: m.hid⟩
mutual
theorem RV.unhide {h' : List Addr} (hh : ∀ b ∈ h', b ∈ m.hid) : ∀ {d : D} {v : V}, RV K c m H d v → RV K c ⟨m.ix, h'⟩ H d v
  | _, _, .non => .non
  | _, _, .bl b => .bl b
  | _, _, .int i => .int i
  | _, _, .str x => .str x
  | _, _, .tup h t => .tup h (RVs.unhide hh t)
  | _, _, .lst h t => .lst (by
    rcases h with ⟨h1, h2, h3⟩ | h
    · exact .inl ⟨h1, h2, fun z => h3 (hh _ z)⟩
    · exact .inr h) (RVs.unhide hh t)
  | _, _, .ref h => .ref h
  | _, _, .fn h => .fn h
  | _, _, .cls h => .cls h
  | _, _, .ty n => .ty n
theorem RVs.unhide {h' : List Addr} (hh : ∀ b ∈ h', b ∈ m.hid) : ∀ {ds : List D} {vs : List V}, RVs K c m H ds vs → RVs K c ⟨m.ix, h'⟩ H ds vs
  | _, _, .nil => .nil
  | _, _, .cons h t => .cons (RV.unhide hh h) (RVs.unhide hh t)
end
mutual
/-- what is hidden changes -/
theorem RV.other {B : Addr} {o : HO} (hm : B ∈ m.hid) (hT : ∀ vs, H B ≠ some (.tup vs) ∧ ∀ o', H B ≠ some (.frz o' (.tup vs))) : ∀ {d : D} {v : V}, RV K c m H d v → RV K c m (upd H B o) d v
  | _, _, .non => .non
  | _, _, .bl b => .bl b
  | _, _, .int i => .int i
  | _, _, .str x => .str x
  | _, _, .tup h t => .tup (by
    rcases h with (h | ⟨o', h⟩) | h
    · exact .inl (.inl (by rw [upd_ne (fun z => (hT _).1 (by rw [← z]; exact h))]; exact h))
    · exact .inl (.inr ⟨o', by rw [upd_ne (fun z => (hT _).2 o' (by rw [← z]; exact h))]; exact h⟩)
    · exact .inr h) (RVs.other hm hT t)
  | _, _, .lst (a := a) h t => .lst (by
    rcases h with ⟨h1, h2, h3⟩ | h
    · have ne : a ≠ B := fun z => h3 (by rw [z]; exact hm)
      refine .inl ⟨?_, h2, h3⟩
      rcases h1 with h1 | ⟨o', h1⟩
      · exact .inl (by rw [upd_ne ne]; exact h1)
      · exact .inr ⟨o', by rw [upd_ne ne]; exact h1⟩
    · exact .inr h) (RVs.other hm hT t)
  | _, _, .ref h => .ref h
  | _, _, .fn h => .fn h
  | _, _, .cls h => .cls h
  | _, _, .ty n => .ty n
theorem RVs.other {B : Addr} {o : HO} (hm : B ∈ m.hid) (hT : ∀ vs, H B ≠ some (.tup vs) ∧ ∀ o', H B ≠ some (.frz o' (.tup vs))) : ∀ {ds : List D} {vs : List V}, RVs K c m H ds vs → RVs K c m (upd H B o) ds vs
  | _, _, .nil => .nil
  | _, _, .cons h t => .cons (RV.other hm hT h) (RVs.other hm hT t)
end
theorem Sim.unhide {h' : List Addr} (hh : ∀ b ∈ h', b ∈ m.hid) (s : Sim K c m H S) : Sim K c ⟨m.ix, h'⟩ H S := by
  refine ⟨s.len, s.nd, fun a ha => s.hid a (hh a ha), fun n o h => ?_, s.tab⟩
  obtain ⟨a, u, h1, h2, h3⟩ := s.obj n o h
  refine ⟨a, u, h1, h2, ?_⟩
  cases h3 with
  | lst h3 => exact .lst (h3.unhide hh)
/-- B is made, and not told -/
theorem Sim.tohide {B : Addr} {o : HO} (s : Sim K c m H S) (hB : H B = none) : Ext m H (m.hide B) (upd H B o) ∧ Sim K c (m.hide B) (upd H B o) S := by
  have e : Ext m H (m.hide B) (upd H B o) := ⟨⟨[], by simp, by simp⟩, ⟨fun b h => List.mem_cons_of_mem _ h, fun b h => by
      rcases List.mem_cons.mp h with h | h
      · exact .inr (by rw [h]; exact hB)
      · exact .inl h⟩, fun a u h _ _ => by rw [upd_ne (L2.ne_of_none h hB)]; exact h, fun a h => by
    by_cases e : a = B
    · subst e; exact hB
    · rw [upd_ne e] at h; exact h⟩
  refine ⟨e, s.len, s.nd, fun a ha => ?_, fun n ob h => ?_, fun P hP => ?_⟩
  · rcases List.mem_cons.mp ha with z | z
    · rw [z, upd_same]
      exact ⟨by simp, (s.none_out hB).1⟩
    · exact ⟨upd_some (s.hid a z).1, (s.hid a z).2⟩
  · obtain ⟨a, u, h1, h2, h3⟩ := s.obj n ob h
    refine ⟨a, u, h1, by rw [upd_ne (L2.ne_of_none h2 hB)]; exact h2, ?_⟩
    cases h3 with
    | lst h3 => exact .lst (h3.mono s e)
  · obtain ⟨ps, h1, h2⟩ := s.tab P hP
    exact ⟨ps, by rw [upd_ne (L2.ne_of_none h1 hB)]; exact h1, h2⟩
theorem Sim.other {B : Addr} {o : HO} {vs : List V} (s : Sim K c m H S) (hm : B ∈ m.hid) (hB : H B = some (.lst vs)) : Sim K c m (upd H B o) S := by
  have hT : ∀ vs, H B ≠ some (.tup vs) ∧ ∀ o', H B ≠ some (.frz o' (.tup vs)) := fun us => ⟨by rw [hB]; simp, fun o' => by rw [hB]; simp⟩
  refine ⟨s.len, s.nd, fun a ha => ⟨upd_some (s.hid a ha).1, (s.hid a ha).2⟩, fun n ob h => ?_, fun P hP => ?_⟩
  · obtain ⟨a, u, h1, h2, h3⟩ := s.obj n ob h
    have ne : a ≠ B := fun z => (s.hid B hm).2 (by rw [← z]; exact List.mem_of_getElem? h1)
    refine ⟨a, u, h1, by rw [upd_ne ne]; exact h2, ?_⟩
    cases h3 with
    | lst h3 => exact .lst (h3.other hm hT)
  · obtain ⟨ps, h1, h2⟩ := s.tab P hP
    refine ⟨ps, ?_, h2⟩
    rw [upd_ne (fun z => by rw [← z, h1] at hB; cases hB)]
    exact h1
mutual
/-- B is told as a thing of the store -/
theorem RV.adopt {B : Addr} {h' : List Addr} (hm : B ∈ m.hid) (hh : ∀ b ∈ h', b ∈ m.hid) : ∀ {d : D} {v : V}, RV K c m H d v → RV K c ⟨m.ix ++ [B], h'⟩ H d v
  | _, _, .non => .non
  | _, _, .bl b => .bl b
  | _, _, .int i => .int i
  | _, _, .str x => .str x
  | _, _, .tup h t => .tup h (RVs.adopt hm hh t)
  | _, _, .lst h t => .lst (by
    rcases h with ⟨h1, h2, h3⟩ | h
    · refine .inl ⟨h1, fun z => ?_, fun z => h3 (hh _ z)⟩
      rcases List.mem_append.mp z with z | z
      · exact h2 z
      · have e := List.mem_singleton.mp z
        exact h3 (e ▸ hm)
    · exact .inr h) (RVs.adopt hm hh t)
  | _, _, .ref h => .ref (by
    show (m.ix ++ [B])[_]? = _
    rw [List.getElem?_append_left (List.getElem?_eq_some_iff.mp h).1]
    exact h)
  | _, _, .fn h => .fn h
  | _, _, .cls h => .cls h
  | _, _, .ty n => .ty n
theorem RVs.adopt {B : Addr} {h' : List Addr} (hm : B ∈ m.hid) (hh : ∀ b ∈ h', b ∈ m.hid) : ∀ {ds : List D} {vs : List V}, RVs K c m H ds vs → RVs K c ⟨m.ix ++ [B], h'⟩ H ds vs
  | _, _, .nil => .nil
  | _, _, .cons h t => .cons (RV.adopt hm hh h) (RVs.adopt hm hh t)
end
theorem Sim.adopt {B : Addr} {h' : List Addr} {ds : List D} {vs : List V} (s : Sim K c m H S) (hm : B ∈ m.hid) (hh : ∀ b ∈ h', b ∈ m.hid) (hn : B ∉ h') (hB : H B = some (.lst vs)) (r : RVs K c m H ds vs) : Sim K c ⟨m.ix ++ [B], h'⟩ H (S ++ [.lst ds]) := by
  have hpm : B ∉ m.ix := (s.hid B hm).2
  refine ⟨by simp [s.len], ?_, fun a ha => ⟨(s.hid a (hh a ha)).1, fun h => ?_⟩, fun n o h => ?_, s.tab⟩
  · show (m.ix ++ [B]).Nodup
    rw [List.nodup_append]
    exact ⟨s.nd, by simp, fun a ha b hb => by
      have : b = B := by simpa using hb
      subst this
      exact fun z => hpm (z ▸ ha)⟩
  · rcases List.mem_append.mp h with h | h
    · exact (s.hid a (hh a ha)).2 h
    · have : a = B := by simpa using h
      subst this
      exact hn ha
  · by_cases hn : n < S.length
    · rw [List.getElem?_append_left hn] at h
      obtain ⟨a, u, h1, h2, h3⟩ := s.obj n o h
      refine ⟨a, u, ?_, h2, ?_⟩
      · show (m.ix ++ [B])[n]? = some a
        rw [List.getElem?_append_left (by rw [s.len]; exact hn)]
        exact h1
      · cases h3 with
        | lst h3 => exact .lst (h3.adopt hm hh)
    · have hn2 : n = S.length := by
        have := (List.getElem?_eq_some_iff.mp h).1
        simp at this
        omega
      subst hn2
      rw [List.getElem?_append_right (Nat.le_refl _)] at h
      simp at h
      subst h
      refine ⟨B, _, ?_, hB, .lst (r.adopt hm hh)⟩
      show (m.ix ++ [B])[S.length]? = some B
      rw [List.getElem?_append_right (by rw [s.len]; exact Nat.le_refl _), s.len]
      simp
theorem Ext.other {B : Addr} {o : HO} (e : Ext m H m' H') (hB : H B = none) (h' : H' B ≠ none) : Ext m H m' (upd H' B o) :=
  ⟨e.pre, e.hid, fun a u h hm ht => by
    rw [upd_ne (L2.ne_of_none h hB)]
    exact e.keep a u h hm ht, fun a h => by
    by_cases e1 : a = B
    · subst e1; exact hB
    · rw [upd_ne e1] at h; exact e.stay a h⟩
theorem Aft.nox {α : Type} {W W' : WX} {σ σ' : L2.St} {r : R α} {k : α → Store → MM → Hp → Prop} (h : Aft K c W σ m H r.nox k) : Aft K c W' σ' m H r k := by
  cases r with
  | ok a S => exact h
  | exc x S => exact h.elim
  | bad => exact h
theorem Aft.if_ {α : Type} {W : WX} {σ : L2.St} {p : Prop} [Decidable p] {r : R α} {k : α → Store → MM → Hp → Prop} (h : Aft K c W σ m H (if p then r else .bad) k) : p ∧ Aft K c W σ m H r k := by
  split at h
  · rename_i hp
    exact ⟨hp, h⟩
  · exact h.elim
theorem Aft.bind0 {α β : Type} {W : WX} {σ : L2.St} {r : R α} {f : α → Store → R β} {k : β → Store → MM → Hp → Prop} (h : Aft K c W σ m H (r.bind f) k) :
    Aft K c W σ m H r (fun a S1 _ _ => Aft K c W σ m H (f a S1) k) := by
  cases r with
  | ok a S => exact fun m1 H1 e1 s1 => h
  | exc x S => exact h
  | bad => exact h
end
end Mn

/-! Mn3: the layer's rules for single expressions, by the evaluator. -/
namespace Mn
open PySem PySem.Spec PyProof.Rows
open L2 (V Hp HO Cx SqL SqT Rd St VK WX XK TE TA TS TT TG PE PA PS PSs PT PG Ends upd upd_same upd_ne OpR R2 Inv)

/-! ### rules that the layer lacks -/
section
variable {X : Cx}
/-- list + list, of any kind of list -/
def rCatL (K : Frag) : R2 := fun x y H Q => ∃ l b xs zs, x = .ref l ∧ y = .ref b ∧ SqL K H l xs ∧ SqL K H b zs ∧ xs.length + zs.length ≤ sizeLine ∧ ∀ p, H p = none → Q (.ref p) (upd H p (.lst (xs ++ zs)))
theorem op_catL : OpR X (binaryOp .Add) (rCatL X.K) := by
  intro pins s σ H x y v u Q I rx ry h
  obtain ⟨l, b, xs, zs, rfl, rfl, hH, hB, hz, q⟩ := h
  cases rx
  cases ry
  obtain ⟨its, r, pl, z⟩ := I.list hH
  obtain ⟨its2, r2, pl2, z2⟩ := I.list hB
  obtain ⟨⟨cls, dd, data, sl⟩, ho, hc, n, hd⟩ := id pl.isList
  obtain ⟨⟨cls2, dd2, data2, sl2⟩, ho2, hc2, n2, hd2⟩ := id pl2.isList
  simp only at hc hd hc2 hd2
  subst hc hd hc2 hd2
  have e : its.toArray ++ its2.toArray = (its ++ its2).toArray := by simp
  refine concat_meets ⟨_, ho, rfl⟩ ⟨_, ho2, rfl⟩ noFill_list_add seq_list_add PySem.F.slot_list_add PySem.F.entry_list_add (PySem.F.args_list_add_2 _ _) (list_addW l b its.toArray its2.toArray n n2 dd dd2 sl sl2 ?_) ⟨ho, ho2, ?_⟩
  · rw [List.size_toArray, List.size_toArray, ← r.length, ← r2.length]
    exact hz
  · rw [e]
    exact ⟨.ref _, _, I.lnew (t' := s.toks) (r.append r2) (by rw [List.length_append]; omega), rfl, q _ I.fresh⟩
end

/-- tuple * int: by nothing, or by one, it is the tuple itself -/
theorem tuple_mul1 (l : Addr) (items : Array Value) (n : Nat) (dd : Option Addr) (sl : Array (Option Value)) (x : Int) (u : Tok) (c0 : (decide (x < -(2 ^ 63)) || decide (x ≥ 2 ^ 63)) = false) (c1 : (items.isEmpty || x == 1) = true) :
    Meets (Builtin.«tuple.__mul__» ⟨[.ref l, .int x u], []⟩) (fun _ R s => s.heap.get? l = some { cls := .type "tuple", dict := dd, data := .seq items n, slots := sl } ∧
      R (.ok (.ret (Value.ref l))) { s with heap := s.heap, toks := s.toks }) :=
  .of_wp fun prog w A R s h => by
    obtain ⟨hp, g, d, tk, os⟩ := s
    obtain ⟨hl, h⟩ := h
    have f1 := AutoSeq1.idx_int
    wp_walk using wpAny_loadPart' hl
    repeat (first
      | (refine wpAny_ite_false (decide_eq_false (by rw [c0]; exact Bool.false_ne_true)) ?_; wp_walk using wpAny_loadPart' hl)
      | (refine wpAny_ite_true (decide_eq_true (by rw [c1])) ?_; wp_walk using wpAny_loadPart' hl))
    exact ⟨_, rfl, h⟩
section
variable {X : Cx}
def rRepT1 (K : Frag) : R2 := fun x y H Q => ∃ l k xs, x = .ref l ∧ y = .int k ∧ SqT K H l xs ∧ (xs = [] ∨ k = 1) ∧ -(2 ^ 63) ≤ k ∧ k < 2 ^ 63 ∧ Q (.ref l) H
theorem op_repT1 : OpR X (binaryOp .Mult) (rRepT1 X.K) := by
  intro pins s σ H x y v u Q I rx ry h
  obtain ⟨l, k, xs, rfl, rfl, hT, hne, h1, h2, q⟩ := h
  cases rx
  obtain ⟨t, rfl⟩ := ry
  obtain ⟨its, r, ⟨⟨cls, dd, data, sl⟩, ho, hc, n, hd⟩, hs⟩ := I.tuple hT
  simp only at hc hd
  subst hc hd
  have c0 : (decide (k < -(2 ^ 63)) || decide (k ≥ 2 ^ 63)) = false := by
    simp only [Bool.or_eq_false_iff, decide_eq_false_iff_not]
    omega
  have c1 : (its.toArray.isEmpty || k == 1) = true := by
    rcases hne with e | e
    · subst e
      cases r
      rfl
    · subst e
      simp
  exact wpAny_binaryOp_repeat_ref (T := "tuple") (U := "int") (by decide) ⟨_, ho, rfl⟩ (fun s' => typeIs_int s' k t) L2.noFill_tuple_mul F.fills_int_mul F.slot_int_rmul L2.repeat_tuple F.slot_int_index.lookup
    (call_meets F.slot_int_rmul (typeIs_int s k t) F.entry_int_rmul (F.args_int_rmul_2 _ _) (L2.int_rmul_tuple k t l its.toArray n dd sl)
      ⟨ho, rfl, ⟨_, ho, rfl⟩, call_meets F.slot_tuple_mul ⟨_, ho, rfl⟩ F.entry_tuple_mul (F.args_tuple_mul_2 _ _) (tuple_mul1 l its.toArray n dd sl k t c0 c1) ⟨ho, .ref l, H, I.tok _, rfl, q⟩⟩)
theorem int_rmul_listW (a : Int) (t : Tok) (l : Addr) (items : Array Value) (n : Nat) (dd : Option Addr) (sl : Array (Option Value)) :
    Meets (Builtin.«int.__rmul__» ⟨[.int a t, .ref l], []⟩) (fun _ R s => s.heap.get? l = some { cls := .type "list", dict := dd, data := .seq items n, slots := sl } ∧ R (.ok (.ret Value.notImplemented)) s) :=
  .of_wp fun prog w A R s h => by obtain ⟨hp, g, d, tk, os⟩ := s; obtain ⟨hl, h⟩ := h; wp_walk using wpAny_loadPart' hl; exact ⟨_, rfl, h⟩
theorem list_mulW (l : Addr) (items : Array Value) (n : Nat) (dd : Option Addr) (sl : Array (Option Value)) (x : Int) (u : Tok) (hc0 : ¬(!Builtin.List.listFitsIndex x) = true) (hc1 : ¬items.size * x.toNat > (2 ^ 63 - 1) / 8) (hc2 : ¬Builtin.List.listTooLong (items.size * x.toNat) = true) :
    Meets (Builtin.«list.__mul__» ⟨[.ref l, .int x u], []⟩) (fun _ R s => s.heap.get? l = some { cls := .type "list", dict := dd, data := .seq items n, slots := sl } ∧ R (.ok (.ret (Value.ref s.heap.objs.size))) { s with heap := s.heap.push { cls := Value.type "list", data := Data.seq (List.foldl (fun x1 x2 => x1 ++ x2) #[] (List.replicate (if items.isEmpty = true then 0 else x.toNat) items)) }, toks := s.toks }) :=
  .of_wp fun prog w A R s h => by
    obtain ⟨hp, g, d, tk, os⟩ := s; obtain ⟨hl, h⟩ := h
    have hsz := AutoListH.joined_fits hc2
    wp_walk using wpAny_loadPart' hl
    refine wpAny_ite_false (decide_eq_false (Nat.not_lt.mpr hsz)) ?_; wp_walk using wpAny_loadPart' hl; exact ⟨_, rfl, h⟩
def rRepL (K : Frag) : R2 := fun x y H Q => ∃ l k xs, x = .ref l ∧ y = .int k ∧ SqL K H l xs ∧ -(2 ^ 63) ≤ k ∧ k < 2 ^ 63 ∧ xs.length * k.toNat ≤ sizeLine ∧
  ∀ p, H p = none → Q (.ref p) (upd H p (.lst (List.replicate k.toNat xs).flatten))
theorem op_repL : OpR X (binaryOp .Mult) (rRepL X.K) := by
  intro pins s σ H x y v u Q I rx ry h
  obtain ⟨l, k, xs, rfl, rfl, hH, h1, h2, hz, q⟩ := h
  cases rx
  obtain ⟨t, rfl⟩ := ry
  obtain ⟨its, r, pl, z⟩ := I.list hH
  obtain ⟨⟨cls, dd, data, sl⟩, e, hc, n, hd⟩ := id pl.isList
  simp only at hc hd
  subst hc hd
  have hl : xs.length = its.length := r.length
  have hlen : its.toArray.size * k.toNat ≤ sizeLine := by rw [List.size_toArray, ← hl]; exact hz
  have hcap : ¬ its.toArray.size * k.toNat > (2 ^ 63 - 1) / 8 := by
    have : (sizeLine : Nat) ≤ (2 ^ 63 - 1) / 8 := by decide
    omega
  have hfit : ¬ (!Builtin.List.listFitsIndex k) = true := by
    rw [fitsIndex_both h1 h2]
    exact Bool.false_ne_true
  have hlong : ¬ Builtin.List.listTooLong (its.toArray.size * k.toNat) = true := by
    rw [L2.notLongL hlen]
    exact Bool.false_ne_true
  have hnew : List.foldl (fun x1 x2 => x1 ++ x2) #[] (List.replicate (if its.toArray.isEmpty = true then 0 else k.toNat) its.toArray) = (List.replicate k.toNat its).flatten.toArray := by
    have f0 : ∀ m : Nat, List.foldl (fun x1 x2 => x1 ++ x2) #[] (List.replicate m its.toArray) = (List.replicate m its).flatten.toArray := fun m => by
      have := L2.foldl_rep its m []
      rw [List.nil_append] at this
      exact this
    rw [f0]
    cases its with
    | nil => simp
    | cons a r' => rw [if_neg (by simp)]
  refine wpAny_binaryOp_repeat_ref (T := "list") (U := "int") (by decide) ⟨_, e, rfl⟩ (fun s' => typeIs_int s' k t) noFill_list_mul F.fills_int_mul F.slot_int_rmul repeat_list F.slot_int_index.lookup
    (call_meets F.slot_int_rmul (typeIs_int s k t) F.entry_int_rmul (F.args_int_rmul_2 _ _) (int_rmul_listW k t l its.toArray n dd sl)
      ⟨e, rfl, ⟨_, e, rfl⟩, call_meets F.slot_list_mul ⟨_, e, rfl⟩ F.entry_list_mul (F.args_list_mul_2 _ _) (list_mulW l its.toArray n dd sl k t hfit hcap hlong) ⟨e, ?_⟩⟩)
  rw [hnew]
  exact ⟨.ref _, _, I.lnew (t' := s.toks) (r.rep k.toNat) (by rw [PyProof.Rows.lm_len_rep_flat, Nat.mul_comm]; exact hz), rfl, q _ I.fresh⟩
end

/-! ### two values, one operator -/
section
variable {X : Cx} {c : Cfg} {W : WX}
theorem tE_op {fa fb : Env → Store → R D} {g : D → D → Store → R D} {r : R2}
    (hr : ∀ (m : MM) (H : Hp) (S : Store) (x y : D) (u v : V) (σ : L2.St) (Q : VK), Sim X.K c m H S → RV X.K c m H x u → RV X.K c m H y v → Aft X.K c W σ m H (g x y S) (fun d _ m' H' => ∀ v, RV X.K c m' H' d v → Q v H') → r u v H Q) :
    ∀ σ H Q, tE X.K c W (fun e S => (fa e S).bind fun x S1 => (fb e S1).bind fun y S2 => g x y S2) σ H Q → L2.tOp r (tE X.K c W fa) (tE X.K c W fb) σ H Q := by
  rintro σ H Q ⟨e, m, S, re, s, h⟩
  refine ⟨e, m, S, re, s, h.bind.imp fun x S1 m1 H1 e1 s1 h1 u ru => ⟨e, m1, S1, re.mono s e1, s1, h1.bind.imp fun y S2 m2 H2 e2 s2 h2 v rv => hr m2 H2 S2 x y u v σ Q s2 (ru.mono s1 e2) rv h2⟩⟩

theorem op_of {fa fb : Env → Store → R D} {r : R2} {P : D → D → Store → MM → Hp → Prop} {e : Env} {m : MM} {H : Hp} {S : Store} {σ : L2.St} {Q : VK} (re : EnvR X.K c m H e σ) (s : Sim X.K c m H S)
    (h : Aft X.K c W σ m H (fa e S) fun x S1 m1 H1 => Aft X.K c W σ m1 H1 (fb e S1) fun y S2 m2 H2 => P x y S2 m2 H2)
    (hr : ∀ (m2 : MM) (H2 : Hp) (S2 : Store) (x y : D) (u v : V), Ext m H m2 H2 → Sim X.K c m2 H2 S2 → RV X.K c m2 H2 x u → RV X.K c m2 H2 y v → P x y S2 m2 H2 → r u v H2 Q) :
    L2.tOp r (tE X.K c W fa) (tE X.K c W fb) σ H Q :=
  ⟨e, m, S, re, s, h.imp fun x S1 m1 H1 e1 s1 h1 u ru => ⟨e, m1, S1, re.mono s e1, s1, h1.imp fun y S2 m2 H2 e2 s2 h2 v rv => hr m2 H2 S2 x y u v (e1.trans e2) s2 (ru.mono s1 e2) rv h2⟩⟩

/-- the operators' rule -/
def rBin (X : Cx) (op : Operator) : R2 := match op with
  | .Add => fun x y H Q => L2.rI0 (fun i j => .int (i + j)) x y H Q ∨ (∃ i j, x = .str i ∧ y = .str j ∧ i.length + j.length ≤ sizeLine ∧ Q (.str (i ++ j)) H) ∨ L2.rCatA X.K x y H Q ∨ rCatL X.K x y H Q
  | .Sub => L2.rI0 fun i j => .int (i - j)
  | .Mult => fun x y H Q => L2.rI L2.CMul (fun i j => .int (i * j)) x y H Q ∨ L2.rRepT X.K x y H Q ∨ rRepT1 X.K x y H Q ∨ rRepL X.K x y H Q
  | .FloorDiv => L2.rI L2.CDiv fun i j => .int (i / j)
  | .Mod => L2.rI (fun _ j => 0 < j) fun i j => .int (i % j)
  | .Pow => L2.rI L2.CPow fun i j => .int (i ^ j.toNat)
  | .LShift => L2.rI L2.CPow fun i j => .int (i * 2 ^ j.toNat)
  | .RShift => L2.rI (fun _ j => 0 ≤ j) fun i j => .int (i / 2 ^ j.toNat)
  | .BitAnd => L2.rI0 fun i j => .int (Builtin.bitAnd i j)
  | _ => fun _ _ _ _ => False
theorem or_bin (X : Cx) (op : Operator) : OpR X (binaryOp op) (rBin X op) := by
  cases op
  case Add => exact L2.op_add.or (L2.op_add_str.or (L2.op_catA.or op_catL))
  case Sub => exact L2.op_sub
  case Mult => exact L2.op_mul.or (L2.op_repT.or (op_repT1.or op_repL))
  case FloorDiv => exact L2.op_fdiv
  case Mod => exact L2.op_mod
  case Pow => exact L2.op_pow
  case LShift => exact L2.op_shl
  case RShift => exact L2.op_shr
  case BitAnd => exact L2.op_and
  all_goals exact fun _ _ _ _ _ _ _ _ _ _ _ _ h => h.elim

/-- what a list of the reading is -/
theorem seqL_sq {m : MM} {H : Hp} {S : Store} {x : D} {u : V} {l : List D} (s : Sim X.K c m H S) (r : RV X.K c m H x u) (h : seqL S x = some l) : ∃ a vs, u = .ref a ∧ SqL X.K H a vs ∧ RVs X.K c m H l vs := by
  cases r with
  | lst h1 h2 =>
    simp only [seqL, Option.some.injEq] at h
    subst h
    exact ⟨_, _, rfl, h1.sq, h2⟩
  | @ref n a h1 =>
    simp only [seqL] at h
    cases e : S[n]? with
    | none => rw [e] at h; cases h
    | some o =>
      rw [e] at h
      cases o with
      | lst k =>
        simp only [Option.some.injEq] at h
        subst h
        obtain ⟨a', vs, h2, h3, h4⟩ := s.at e
        rw [h1] at h2; cases h2
        exact ⟨_, _, rfl, SqL.of h3, h4⟩
      | ins _ _ => cases h
  | _ => simp [seqL] at h
theorem seqT_sq {m : MM} {H : Hp} {x : D} {u : V} {l : List D} (r : RV X.K c m H x u) (h : seqT x = some l) : ∃ a vs, u = .ref a ∧ SqT X.K H a vs ∧ RVs X.K c m H l vs := by
  cases r with
  | tup h1 h2 =>
    simp only [seqT, Option.some.injEq] at h
    subst h
    exact ⟨_, _, rfl, h1, h2⟩
  | _ => simp [seqT] at h
theorem seqA_sq {m : MM} {H : Hp} {S : Store} {x : D} {u : V} {l : List D} (s : Sim X.K c m H S) (r : RV X.K c m H x u) (h : seqA S x = some l) : ∃ a vs, u = .ref a ∧ (SqL X.K H a vs ∨ SqT X.K H a vs) ∧ RVs X.K c m H l vs := by
  unfold seqA at h
  split at h
  · obtain ⟨a, vs, h1, h2, h3⟩ := seqT_sq (x := .tup _) r h
    exact ⟨a, vs, h1, .inr h2, h3⟩
  · obtain ⟨a, vs, h1, h2, h3⟩ := seqL_sq s r h
    exact ⟨a, vs, h1, .inl h2, h3⟩
/-- a tuple is made -/
theorem mkT_new {m : MM} {H : Hp} {S : Store} {σ : L2.St} {ds : List D} {vs : List V} {Q : VK} (s : Sim X.K c m H S) (r : RVs X.K c m H ds vs) (h : Aft X.K c W σ m H (mkT ds S) fun d _ m' H' => ∀ v, RV X.K c m' H' d v → Q v H') :
    vs.length ≤ sizeLine ∧ ∀ p, H p = none → Q (.ref p) (upd H p (.tup vs)) := by
  unfold mkT at h
  split at h
  · rename_i hz
    exact ⟨by rw [← r.length]; exact hz, fun p hp => h m _ (Ext.fresh hp s) (s.fresh hp) _ (RV.newTup s hp r)⟩
  · exact h.elim
theorem Aft.okv {m : MM} {H : Hp} {S : Store} {σ : L2.St} {d : D} {Q : VK} (h : Aft X.K c W σ m H (.ok d S) fun d _ m' H' => ∀ v, RV X.K c m' H' d v → Q v H') (s : Sim X.K c m H S) {v : V} (r : RV X.K c m H d v) : Q v H := h m H .refl s v r
theorem add_ok {v : Bool} {m : MM} {H : Hp} {S : Store} {x y : D} {u w : V} {σ : L2.St} {Q : VK} (s : Sim X.K c m H S) (rx : RV X.K c m H x u) (ry : RV X.K c m H y w)
    (h : Aft X.K c W σ m H (addA v S x y) (fun d _ m' H' => ∀ v, RV X.K c m' H' d v → Q v H')) : rBin X .Add u w H Q := by
  unfold addA at h
  split at h
  · cases rx; cases ry
    exact .inl ⟨_, _, rfl, rfl, h.okv s (.int _)⟩
  · cases rx; cases ry
    obtain ⟨hz, h⟩ := Aft.if_ h
    exact .inr (.inl ⟨_, _, rfl, rfl, hz, h.okv s (.str _)⟩)
  · cases rx with
    | tup h1 h2 =>
      cases ry with
      | tup h3 h4 =>
        obtain ⟨hz, h⟩ := Aft.if_ h
        refine .inr (.inr (.inl ⟨_, _, _, _, rfl, rfl, h1, h3, by rw [← h2.length, ← h4.length]; exact hz, fun e => ?_, fun e1 e2 => ?_, fun e1 e2 p hp => ?_⟩))
        · subst e
          cases h2
          exact h.okv s (.tup h3 h4)
        · subst e2
          cases h4
          rw [List.append_nil] at h
          exact h.okv s (.tup h1 h2)
        · exact h m _ (Ext.fresh hp s) (s.fresh hp) _ (RV.newTup s hp (h2.append h4))
  · split at h
    · rename_i a b ha hb
      obtain ⟨p, vs, rfl, h1, h2⟩ := seqL_sq s rx ha
      obtain ⟨q, us, rfl, h3, h4⟩ := seqL_sq s ry hb
      obtain ⟨hz, hq⟩ := mkL_new s (h2.append h4) h
      exact .inr (.inr (.inr ⟨p, q, vs, us, rfl, rfl, h1, h3, by rw [← List.length_append]; exact hz, hq⟩))
    · exact h.elim
theorem rep_nil {α : Type} (k : Nat) : (List.replicate k ([] : List α)).flatten = [] := by
  induction k with
  | zero => rfl
  | succ k ih => rw [List.replicate_succ, List.flatten_cons, ih]; rfl
theorem rep_one {α : Type} (l : List α) : (List.replicate 1 l).flatten = l := by simp
theorem mul_ok {v : Bool} {m : MM} {H : Hp} {S : Store} {x y : D} {u w : V} {σ : L2.St} {Q : VK} (s : Sim X.K c m H S) (rx : RV X.K c m H x u) (ry : RV X.K c m H y w)
    (h : Aft X.K c W σ m H (mulA v S x y) (fun d _ m' H' => ∀ v, RV X.K c m' H' d v → Q v H')) : rBin X .Mult u w H Q := by
  unfold mulA at h
  split at h
  · cases rx; cases ry
    obtain ⟨hz, h⟩ := Aft.if_ h
    exact .inl ⟨_, _, rfl, rfl, hz, h.okv s (.int _)⟩
  · rename_i a k
    cases ry
    obtain ⟨⟨z1, z2, z3⟩, h⟩ := Aft.if_ h
    cases rx with
    | tup h1 h2 =>
      rename_i p vs
      by_cases hv : vs = [] ∨ k = 1
      · refine .inr (.inr (.inl ⟨p, k, vs, rfl, rfl, h1, hv, by omega, by omega, h.okv s ?_⟩))
        have e : rep k a = a := by
          unfold rep
          rcases hv with hv | hv
          · subst hv
            cases h2
            exact rep_nil _
          · subst hv
            exact rep_one a
        rw [e]
        exact .tup h1 h2
      · refine .inr (.inl ⟨p, k, vs, rfl, rfl, h1, fun e => hv (.inl e), ?_, z2, by rw [← h2.length]; exact z3, fun q hq => h m _ (Ext.fresh hq s) (s.fresh hq) _ (RV.newTup s hq (h2.rep _))⟩)
        have : k ≠ 1 := fun e => hv (.inr e)
        omega
  · cases ry
    split at h
    · rename_i l hl
      obtain ⟨⟨z1, z2, z3⟩, h⟩ := Aft.if_ h
      obtain ⟨p, vs, rfl, h1, h2⟩ := seqL_sq s rx hl
      obtain ⟨hz, hq⟩ := mkL_new s (h2.rep _) h
      exact .inr (.inr (.inr ⟨p, _, vs, rfl, rfl, h1, z1, z2, by rw [← h2.length]; exact z3, hq⟩))
    · exact h.elim
  · exact h.elim
theorem ari_ok {op : Operator} {m : MM} {H : Hp} {S : Store} {i j : Int} {σ : L2.St} {Q : VK} (s : Sim X.K c m H S)
    (h : Aft X.K c W σ m H (R.ofO ((ariA op i j).map D.int) S) (fun d _ m' H' => ∀ v, RV X.K c m' H' d v → Q v H')) (h1 : op ≠ .Add) (h2 : op ≠ .Mult) : rBin X op (.int i) (.int j) H Q := by
  cases op <;> simp only [ariA, Option.map_some, Option.map_none, R.ofO, ne_eq, not_true_eq_false, reduceCtorEq, not_false_eq_true] at h h1 h2
  case Sub => exact ⟨_, _, rfl, rfl, h.okv s (.int _)⟩
  case BitAnd => exact ⟨_, _, rfl, rfl, h.okv s (.int _)⟩
  all_goals first
    | exact h.elim
    | (split at h
       · rename_i hz
         split at hz
         · rename_i hc
           cases hz
           exact ⟨_, _, rfl, rfl, hc, h.okv s (.int _)⟩
         · cases hz
       · exact h.elim)
theorem bin_ok {v : Bool} {op : Operator} (m : MM) (H : Hp) (S : Store) (x y : D) (u w : V) (σ : L2.St) (Q : VK) (s : Sim X.K c m H S) (rx : RV X.K c m H x u) (ry : RV X.K c m H y w)
    (h : Aft X.K c W σ m H (binA v op x y S) (fun d _ m' H' => ∀ v, RV X.K c m' H' d v → Q v H')) : rBin X op u w H Q := by
  unfold binA at h
  split at h
  · exact add_ok s rx ry h
  · exact mul_ok s rx ry h
  · rename_i h1 h2
    split at h
    · cases rx; cases ry
      exact ari_ok s h h1 h2
    · exact h.elim
theorem pe_binE {v : Bool} {op : Operator} {a b : Expr} {fa fb : Env → Store → R D} {pos : Pos} (ha : PE X a (tE X.K c W fa)) (hb : PE X b (tE X.K c W fb)) :
    PE X (.BinOp a op b pos) (tE X.K c W fun e S => (fa e S).bind fun x S1 => (fb e S1).bind fun y S2 => binA v op x y S2) :=
  PE.imp (L2.pe_op (or_bin X op) ha hb) (tE_op (g := binA v op) bin_ok)
end
end Mn

/-! Mn4: comparisons, truth, displays, names. -/
namespace Mn
open PySem PySem.Spec PyProof.Rows
open L2 (V Hp HO Cx SqL SqT Rd St VK WX XK TE TA TS TT TG PE PA PS PSs PT PG Ends upd upd_same upd_ne OpR R2 Inv Dp DpAll UnR)

section
variable {X : Cx}
/-- x in a tuple of data of any depth -/
def rInT (K : Frag) (neg : Bool) : R2 := fun x y H Q => ∃ d ds, Dp K H x d ∧ Dp K H y (.tuple ds) ∧ SeqAt.shaped d = true ∧ SeqAt.shaped (.list ds) = true ∧ Q (.bl (if neg then !(ds.any fun z => PyData.eqv z d) else ds.any fun z => PyData.eqv z d)) H
theorem op_inT (hu : X.A.units + 65 < cLine) : OpR X (compareOp .In) (rInT X.K false) := by
  intro pins s σ H x y v u Q I rx ry h
  obtain ⟨d, ds, hd, he, sd, se, q⟩ := h
  obtain ⟨as, r1⟩ := Dp.reads I d x v hd rx
  obtain ⟨bs, r2⟩ := Dp.reads I (.tuple ds) y u he ry
  exact SeqAt.in_tuple_reads r2 r1 (SeqAt.canLay_of_shaped se) (SeqAt.canLay_of_shaped sd) (room_in_shaped sd hu) ⟨.bl _, H, I, rfl, q⟩
theorem op_notInT (hu : X.A.units + 65 < cLine) : OpR X (compareOp .NotIn) (rInT X.K true) := by
  intro pins s σ H x y v u Q I rx ry h
  obtain ⟨d, ds, hd, he, sd, se, q⟩ := h
  obtain ⟨as, r1⟩ := Dp.reads I d x v hd rx
  obtain ⟨bs, r2⟩ := Dp.reads I (.tuple ds) y u he ry
  exact SeqAt.notIn_tuple_reads r2 r1 (SeqAt.canLay_of_shaped se) (SeqAt.canLay_of_shaped sd) (room_in_shaped sd hu) ⟨.bl _, H, I, rfl, q⟩
end

section
variable {K : Frag} {c : Cfg} {m : MM} {H : Hp} {S : Store}
mutual
theorem pyG_dp : ∀ {d : D} {v : V} {p : PyData}, RV K c m H d v → pyG d = some p → Dp K H v p
  | _, _, _, .non, h => by simp only [pyG, Option.some.injEq] at h; subst h; exact .non
  | _, _, _, .bl b, h => by simp only [pyG, Option.some.injEq] at h; subst h; exact .bl b
  | _, _, _, .int b, h => by simp only [pyG, Option.some.injEq] at h; subst h; exact .int b
  | _, _, _, .str b, h => by simp only [pyG, Option.some.injEq] at h; subst h; exact .str b
  | .tup ds, _, _, .tup h1 h2, h => by
    simp only [pyG] at h
    cases e : pyGs ds with
    | none => rw [e] at h; cases h
    | some ps =>
      rw [e] at h
      cases h
      exact .tup h1 (pyGs_dp h2 e)
  | .lst ds, _, _, .lst h1 h2, h => by
    simp only [pyG] at h
    cases e : pyGs ds with
    | none => rw [e] at h; cases h
    | some ps =>
      rw [e] at h
      cases h
      exact .lst h1.sq (pyGs_dp h2 e)
  | _, _, _, .ref _, h => by simp [pyG] at h
  | _, _, _, .fn _, h => by simp [pyG] at h
  | _, _, _, .cls _, h => by simp [pyG] at h
  | _, _, _, .ty _, h => by simp [pyG] at h
theorem pyGs_dp : ∀ {ds : List D} {vs : List V} {ps : List PyData}, RVs K c m H ds vs → pyGs ds = some ps → DpAll K H vs ps
  | _, _, _, .nil, h => by simp only [pyGs, Option.some.injEq] at h; subst h; exact .nil
  | d :: ds, _, _, .cons h1 h2, h => by
    simp only [pyGs] at h
    cases e : pyG d with
    | none => rw [e] at h; cases h
    | some p =>
      cases e2 : pyGs ds with
      | none => rw [e, e2] at h; cases h
      | some ps =>
        rw [e, e2] at h
        cases h
        exact .cons (pyG_dp h1 e) (pyGs_dp h2 e2)
end
theorem py_dp {d : D} {v : V} {p : PyData} (s : Sim K c m H S) (r : RV K c m H d v) (h : py S d = some p) : Dp K H v p := by
  unfold py at h
  split at h
  · split at h
    · rename_i n l e
      obtain ⟨a, vs, h1, h2, h3⟩ := s.at e
      cases r with
      | ref h4 =>
        rw [h1] at h4; cases h4
        cases e2 : pyGs l with
        | none => rw [e2] at h; cases h
        | some ps =>
          rw [e2] at h
          cases h
          exact .lst (SqL.of h2) (pyGs_dp h3 e2)
    · cases h
  · exact pyG_dp r h
theorem truthA_tru {d : D} {v : V} {b : Bool} (s : Sim K c m H S) (r : RV K c m H d v) (h : truthA S d = some b) : L2.TruV K v H b := by
  cases r with
  | non => simp only [truthA, Option.some.injEq] at h; exact h.symm
  | bl b => simp only [truthA, Option.some.injEq] at h; exact h.symm
  | int b => simp only [truthA, Option.some.injEq] at h; exact h.symm
  | str x =>
    simp only [truthA] at h
    split at h
    · rename_i hz
      cases h
      exact ⟨hz, rfl⟩
    · cases h
  | tup h1 h2 =>
    simp only [truthA, Option.some.injEq] at h
    exact .inr (.inl ⟨_, h1, by rw [← h, h2.emp]⟩)
  | lst h1 h2 =>
    simp only [truthA, Option.some.injEq] at h
    exact .inl ⟨_, h1.sq, by rw [← h, h2.emp]⟩
  | @ref n a h1 =>
    simp only [truthA] at h
    split at h
    · rename_i l e
      obtain ⟨a', vs, h2, h3, h4⟩ := s.at e
      rw [h1] at h2; cases h2
      simp only [Option.some.injEq] at h
      exact .inl ⟨_, SqL.of h3, by rw [← h, h4.emp]⟩
    · cases h
  | _ => simp [truthA] at h
end

/-! ### comparisons -/
def rCmp (X : Cx) (op : CmpOp) : R2 := match op with
  | .Eq => L2.rEqD X.K
  | .NotEq => L2.rNeD X.K
  | .In => fun x y H Q => (∃ i j, x = .str i ∧ y = .str j ∧ Q (.bl (!(Builtin.Str.occurrences j i 0 j.length 1).isEmpty)) H) ∨ L2.rInD X.K x y H Q ∨ rInT X.K false x y H Q
  | .NotIn => fun x y H Q => (∃ i j, x = .str i ∧ y = .str j ∧ Q (.bl (!(!(Builtin.Str.occurrences j i 0 j.length 1).isEmpty))) H) ∨ L2.rNotInD X.K x y H Q ∨ rInT X.K true x y H Q
  | .Is => fun x y H Q => (∃ a b, x = .bl a ∧ y = .bl b ∧ Q (.bl (decide (a = b))) H) ∨ (y = .non ∧ Q (.bl (decide (x = .non))) H)
  | .IsNot => fun x y H Q => (∃ a b, x = .bl a ∧ y = .bl b ∧ Q (.bl (!decide (a = b))) H) ∨ (y = .non ∧ Q (.bl (!decide (x = .non))) H)
  | .Lt => L2.rI0 fun i j => .bl (decide (i < j))
  | .LtE => L2.rI0 fun i j => .bl (decide (i ≤ j))
  | .Gt => L2.rI0 fun i j => .bl (decide (j < i))
  | .GtE => L2.rI0 fun i j => .bl (decide (j ≤ i))
theorem or_cmp (X : Cx) (hu : X.A.units + 65 < cLine) (op : CmpOp) : OpR X (compareOp op) (rCmp X op) := by
  cases op
  case Eq => exact L2.op_eqD (Nat.lt_of_le_of_lt (by omega) hu)
  case NotEq => exact L2.op_neD (Nat.lt_of_le_of_lt (by omega) hu)
  case In => exact L2.op_in_str.or ((L2.op_inD hu).or (op_inT hu))
  case NotIn => exact L2.op_notin_str.or ((L2.op_notInD hu).or (op_notInT hu))
  case Is => exact L2.op_is_bl.or L2.op_isN
  case IsNot => exact L2.op_isnot_bl.or L2.op_notN
  case Lt => exact L2.op_lt
  case LtE => exact L2.op_le
  case Gt => exact L2.op_gt
  case GtE => exact L2.op_ge
section
variable {X : Cx} {c : Cfg} {W : WX}
theorem eqA_ok {m : MM} {H : Hp} {S : Store} {x y : D} {u w : V} {b : Bool} (s : Sim X.K c m H S) (rx : RV X.K c m H x u) (ry : RV X.K c m H y w) (h : eqA S x y = some b) :
    ∃ d e, Dp X.K H u d ∧ Dp X.K H w e ∧ SeqAt.shaped d = true ∧ SeqAt.shaped e = true ∧ b = PyData.eqv d e := by
  unfold eqA at h
  cases h1 : py S x with
  | none => rw [h1] at h; cases h
  | some p =>
    cases h2 : py S y with
    | none => rw [h1, h2] at h; cases h
    | some q =>
      rw [h1, h2] at h
      simp only [Option.bind_some] at h
      split at h
      · rename_i hz
        cases h
        exact ⟨p, q, py_dp s rx h1, py_dp s ry h2, hz.1, hz.2, rfl⟩
      · cases h
theorem inA_ok {m : MM} {H : Hp} {S : Store} {x y : D} {u w : V} {b : Bool} (s : Sim X.K c m H S) (rx : RV X.K c m H x u) (ry : RV X.K c m H y w) (h : inA S x y = some b) :
    (∃ i j, u = .str i ∧ w = .str j ∧ b = (!(Builtin.Str.occurrences j i 0 j.length 1).isEmpty)) ∨
    (∃ d ds, Dp X.K H u d ∧ Dp X.K H w (.list ds) ∧ SeqAt.shaped d = true ∧ SeqAt.shaped (.list ds) = true ∧ b = ds.any fun z => PyData.eqv z d) ∨
    (∃ d ds, Dp X.K H u d ∧ Dp X.K H w (.tuple ds) ∧ SeqAt.shaped d = true ∧ SeqAt.shaped (.list ds) = true ∧ b = ds.any fun z => PyData.eqv z d) := by
  unfold inA at h
  split at h
  · split at h
    · cases rx; cases ry
      cases h
      exact .inl ⟨_, _, rfl, rfl, rfl⟩
    · cases h
  · cases h1 : py S x with
    | none => rw [h1] at h; cases h
    | some p =>
      rw [h1] at h
      simp only [Option.bind_some] at h
      split at h
      · rename_i l _
        cases h2 : pyGs l with
        | none => rw [h2] at h; cases h
        | some ps =>
          rw [h2] at h
          simp only [Option.bind_some] at h
          split at h
          · rename_i hz
            cases h
            refine .inr (.inr ⟨p, ps, py_dp s rx h1, pyG_dp ry (by simp only [pyG, h2, Option.map_some]), hz.1, hz.2, rfl⟩)
          · cases h
      · cases h2 : py S y with
        | none => rw [h2] at h; cases h
        | some q =>
          rw [h2] at h
          simp only [Option.bind_some] at h
          split at h
          · split at h
            · rename_i hz
              cases h
              exact .inr (.inl ⟨p, _, py_dp s rx h1, py_dp s ry h2, hz.1, hz.2, rfl⟩)
            · cases h
          · cases h
theorem isN_ok {m : MM} {H : Hp} {x : D} {u : V} (rx : RV X.K c m H x u) : decide (u = V.non) = (match x with | .non => true | _ => false) := by
  cases rx <;> simp
theorem cmpA_ok {op : CmpOp} {m : MM} {H : Hp} {S : Store} {x y : D} {u w : V} {b : Bool} {Q : VK} (s : Sim X.K c m H S) (rx : RV X.K c m H x u) (ry : RV X.K c m H y w) (h : cmpA op x y S = some b)
    (q : Q (.bl b) H) : rCmp X op u w H Q := by
  have eqq : ∀ {b : Bool}, eqA S x y = some b → ∃ d e, Dp X.K H u d ∧ Dp X.K H w e ∧ SeqAt.shaped d = true ∧ SeqAt.shaped e = true ∧ b = PyData.eqv d e := fun h => eqA_ok s rx ry h
  cases op
  case Eq =>
    obtain ⟨d, e, h1, h2, h3, h4, rfl⟩ := eqq h
    exact ⟨d, e, h1, h2, h3, h4, q⟩
  case NotEq =>
    simp only [cmpA] at h
    cases e : eqA S x y with
    | none => rw [e] at h; cases h
    | some b' =>
      rw [e] at h
      cases h
      obtain ⟨d, e2, h1, h2, h3, h4, rfl⟩ := eqq e
      exact ⟨d, e2, h1, h2, h3, h4, q⟩
  case In =>
    rcases inA_ok s rx ry h with ⟨i, j, h1, h2, rfl⟩ | ⟨d, ds, h1, h2, h3, h4, rfl⟩ | ⟨d, ds, h1, h2, h3, h4, rfl⟩
    · exact .inl ⟨i, j, h1, h2, q⟩
    · exact .inr (.inl ⟨d, ds, h1, h2, h3, h4, q⟩)
    · exact .inr (.inr ⟨d, ds, h1, h2, h3, h4, q⟩)
  case NotIn =>
    simp only [cmpA] at h
    cases e : inA S x y with
    | none => rw [e] at h; cases h
    | some b' =>
      rw [e] at h
      cases h
      rcases inA_ok s rx ry e with ⟨i, j, h1, h2, rfl⟩ | ⟨d, ds, h1, h2, h3, h4, rfl⟩ | ⟨d, ds, h1, h2, h3, h4, rfl⟩
      · exact .inl ⟨i, j, h1, h2, q⟩
      · exact .inr (.inl ⟨d, ds, h1, h2, h3, h4, q⟩)
      · exact .inr (.inr ⟨d, ds, h1, h2, h3, h4, q⟩)
  case Is =>
    simp only [cmpA] at h
    split at h
    · cases rx; cases ry; cases h
      exact .inl ⟨_, _, rfl, rfl, q⟩
    · cases ry; cases h
      refine .inr ⟨rfl, ?_⟩
      rw [isN_ok rx]
      cases x <;> exact q
    · cases h
  case IsNot =>
    simp only [cmpA] at h
    split at h
    · cases rx; cases ry; cases h
      exact .inl ⟨_, _, rfl, rfl, q⟩
    · cases ry; cases h
      refine .inr ⟨rfl, ?_⟩
      rw [isN_ok rx]
      cases x <;> exact q
    · cases h
  all_goals
    simp only [cmpA] at h
    split at h
    · cases rx; cases ry
      simp only [ordA, Option.some.injEq] at h
      subst h
      exact ⟨_, _, rfl, rfl, q⟩
    · cases h
/-- a comparison's step -/
theorem Aft.cmp {op : CmpOp} {m : MM} {H : Hp} {S : Store} {σ : L2.St} {x y : D} {u w : V} {k : D → Store → MM → Hp → Prop} (s : Sim X.K c m H S) (rx : RV X.K c m H x u) (ry : RV X.K c m H y w)
    (h : Aft X.K c W σ m H ((R.ofO (cmpA op x y S) S).bind fun t S3 => .ok (.bl t) S3) k) : ∃ b, cmpA op x y S = some b ∧ k (.bl b) S m H := by
  obtain ⟨b, hb, h⟩ := h.bind.ofO s
  exact ⟨b, hb, h.now s⟩
theorem cmp_ok {op : CmpOp} (m : MM) (H : Hp) (S : Store) (x y : D) (u w : V) (σ : L2.St) (Q : VK) (s : Sim X.K c m H S) (rx : RV X.K c m H x u) (ry : RV X.K c m H y w)
    (h : Aft X.K c W σ m H ((R.ofO (cmpA op x y S) S).bind fun t S3 => .ok (.bl t) S3) (fun d _ m' H' => ∀ v, RV X.K c m' H' d v → Q v H')) : rCmp X op u w H Q := by
  obtain ⟨b, hb, h⟩ := Aft.cmp s rx ry h
  exact cmpA_ok s rx ry hb (h _ (.bl b))
theorem pe_cmpE {op : CmpOp} {a b : Expr} {fa fb : Env → Store → R D} {pos : Pos} (hu : X.A.units + 65 < cLine) (ha : PE X a (tE X.K c W fa)) (hb : PE X b (tE X.K c W fb)) (hm : behindInMarks op b = false) :
    PE X (.Compare a [op] [b] pos) (tE X.K c W fun e S => (fa e S).bind fun x S1 => (fb e S1).bind fun y S2 => (R.ofO (cmpA op x y S2) S2).bind fun t S3 => .ok (.bl t) S3) :=
  PE.imp (L2.pe_cmpR (or_cmp X hu op) ha hb hm) (tE_op (g := fun x y S2 => (R.ofO (cmpA op x y S2) S2).bind fun t S3 => .ok (.bl t) S3) cmp_ok)
theorem pt_cmpE {op : CmpOp} {a b : Expr} {fa fb : Env → Store → R D} {pos : Pos} (hu : X.A.units + 65 < cLine) (ha : PE X a (tE X.K c W fa)) (hb : PE X b (tE X.K c W fb)) (hm : behindInMarks op b = false) :
    PT X (.Compare a [op] [b] pos) (tT X.K c W fun e S => (fa e S).bind fun x S1 => (fb e S1).bind fun y S2 => (R.ofO (cmpA op x y S2) S2).bind fun t S3 => .ok (.bl t) S3) := by
  refine PT.imp (L2.pt_cmpR (or_cmp X hu op) ha hb hm) fun σ H Q h => ?_
  obtain ⟨e, m, S, re, s, h⟩ := h
  refine op_of re s (h.bind.imp fun x S1 m1 H1 e1 s1 h1 => h1.bind) fun m2 H2 S2 x y u v e2 s2 rx ry p => ?_
  obtain ⟨b, hb, b', hb', p⟩ := Aft.cmp s2 rx ry p
  cases hb'
  exact cmpA_ok s2 rx ry hb ⟨b, rfl, p⟩
/-- a op1 b op2 c -/
theorem chain_of {o1 o2 : CmpOp} {fa fb fc : Env → Store → R D} {e : Env} {m : MM} {H : Hp} {S : Store} {σ : L2.St} {Q : VK} {k : D → Store → MM → Hp → Prop} (re : EnvR X.K c m H e σ) (s : Sim X.K c m H S)
    (h : Aft X.K c W σ m H ((fa e S).bind fun x S1 => (fb e S1).bind fun y S2 => (R.ofO (cmpA o1 x y S2) S2).bind fun t S3 =>
      if t = true then (fc e S3).bind fun z S4 => (R.ofO (cmpA o2 y z S4) S4).bind fun u S5 => .ok (.bl u) S5 else .ok (.bl false) S3) k)
    (hk : ∀ (b : Bool) (m' : MM) (H' : Hp) (S' : Store), k (.bl b) S' m' H' → Q (.bl b) H') :
    L2.tChain (rCmp X o1) (rCmp X o2) (tE X.K c W fa) (tE X.K c W fb) (tE X.K c W fc) σ H Q := by
  refine ⟨e, m, S, re, s, h.bind.imp fun x S1 m1 H1 e1 s1 h1 u ru => ⟨e, m1, S1, re.mono s e1, s1, h1.bind.imp fun y S2 m2 H2 e2 s2 h2 v rv => ?_⟩⟩
  obtain ⟨b, hb, h2⟩ := h2.bind.ofO s2
  refine cmpA_ok s2 (ru.mono s1 e2) rv hb ⟨b, rfl, ?_⟩
  cases b with
  | false =>
    simp only [Bool.false_eq_true, if_false] at h2 ⊢
    exact hk _ _ _ _ (h2.now s2)
  | true =>
    simp only [if_true] at h2 ⊢
    refine ⟨e, m2, S2, (re.mono s e1).mono s1 e2, s2, h2.bind.imp fun z S4 m4 H4 e4 s4 h4 w rw_ => ?_⟩
    obtain ⟨b, hb, h4⟩ := Aft.cmp s4 (rv.mono s2 e4) rw_ h4
    exact cmpA_ok s4 (rv.mono s2 e4) rw_ hb (hk _ _ _ _ h4)
theorem pe_chainE {o1 o2 : CmpOp} {a b d : Expr} {fa fb fc : Env → Store → R D} {pos : Pos} (hu : X.A.units + 65 < cLine) (ha : PE X a (tE X.K c W fa)) (hb : PE X b (tE X.K c W fb)) (hc : PE X d (tE X.K c W fc)) (hm : behindInMarks o2 d = false) :
    PE X (.Compare a [o1, o2] [b, d] pos) (tE X.K c W fun e S => (fa e S).bind fun x S1 => (fb e S1).bind fun y S2 => (R.ofO (cmpA o1 x y S2) S2).bind fun t S3 =>
      if t = true then (fc e S3).bind fun z S4 => (R.ofO (cmpA o2 y z S4) S4).bind fun u S5 => .ok (.bl u) S5 else .ok (.bl false) S3) := by
  refine PE.imp (L2.pe_chain (or_cmp X hu o1) (or_cmp X hu o2) ha hb hc (by simp only [lastMarks]; exact hm)) fun σ H Q h => ?_
  obtain ⟨e, m, S, re, s, h⟩ := h
  exact chain_of re s h fun b m' H' S' q => q _ (.bl b)
theorem pt_chainE {o1 o2 : CmpOp} {a b d : Expr} {fa fb fc : Env → Store → R D} {pos : Pos} (hu : X.A.units + 65 < cLine) (ha : PE X a (tE X.K c W fa)) (hb : PE X b (tE X.K c W fb)) (hc : PE X d (tE X.K c W fc)) (hm : behindInMarks o2 d = false) :
    PT X (.Compare a [o1, o2] [b, d] pos) (tT X.K c W fun e S => (fa e S).bind fun x S1 => (fb e S1).bind fun y S2 => (R.ofO (cmpA o1 x y S2) S2).bind fun t S3 =>
      if t = true then (fc e S3).bind fun z S4 => (R.ofO (cmpA o2 y z S4) S4).bind fun u S5 => .ok (.bl u) S5 else .ok (.bl false) S3) := by
  refine PT.imp (L2.pt_chain (or_cmp X hu o1) (or_cmp X hu o2) ha hb hc (by simp only [lastMarks]; exact hm)) fun σ H Q h => ?_
  obtain ⟨e, m, S, re, s, h⟩ := h
  refine chain_of re s h fun b m' H' S' q => ?_
  obtain ⟨b', hb', q⟩ := q
  cases hb'
  exact ⟨b, rfl, q⟩

/-! ### not, and, or, if else -/
theorem pe_negE {a : Expr} {fa : Env → Store → R D} {pos : Pos} (ha : PE X a (tE X.K c W fa)) : PE X (.UnaryOp .USub a pos) (tE X.K c W fun e S => (fa e S).bind fun x S1 => R.ofO (negA x) S1) := by
  refine PE.imp (L2.pe_un L2.un_neg ha) fun σ H Q h => ?_
  obtain ⟨e, m, S, re, s, h⟩ := h
  refine ⟨e, m, S, re, s, h.bind.imp fun x S1 m1 H1 e1 s1 h1 v rv => ?_⟩
  obtain ⟨d, hd, h1⟩ := h1.ofO s1
  cases rv <;> simp only [negA, reduceCtorEq, Option.some.injEq] at hd
  subst hd
  exact ⟨_, rfl, h1 _ (.int _)⟩
theorem pe_notE {a : Expr} {fa : Env → Store → R D} {pos : Pos} (ha : PE X a (tE X.K c W fa)) : PE X (.UnaryOp .Not a pos) (tE X.K c W fun e S => (tru (fa e S)).bind fun t S1 => .ok (.bl (!t)) S1) := by
  refine PE.imp (L2.pe_notT ha) fun σ H Q h => ?_
  obtain ⟨e, m, S, re, s, h⟩ := h
  refine ⟨e, m, S, re, s, (Aft.bind h).bind.imp fun x S1 m1 H1 e1 s1 h1 v rv => ?_⟩
  obtain ⟨b, hb, h1⟩ := h1.ofO s1
  exact ⟨b, truthA_tru s1 rv hb, h1.now s1 _ (.bl _)⟩
theorem pt_notE {a : Expr} {fa : Env → Store → R D} {pos : Pos} (ha : PT X a (tT X.K c W fa)) : PT X (.UnaryOp .Not a pos) (tT X.K c W fun e S => (tru (fa e S)).bind fun t S1 => .ok (.bl (!t)) S1) := by
  refine PT.imp (L2.pt_not ha) fun σ H Q h => ?_
  obtain ⟨e, m, S, re, s, h⟩ := h
  refine ⟨e, m, S, re, s, (Aft.bind h).bind.imp fun x S1 m1 H1 e1 s1 h1 => ?_⟩
  obtain ⟨b, hb, h1⟩ := h1.ofO s1
  obtain ⟨b', hb', h1⟩ := h1.now s1
  cases hb'
  exact ⟨b, hb, h1⟩
theorem pe_andE {a b : Expr} {rest : List Expr} {fa fb : Env → Store → R D} {pos : Pos} (ha : PE X a (tE X.K c W fa)) (hb : PE X (.BoolOp .And (b :: rest) pos) (tE X.K c W fb)) :
    PE X (.BoolOp .And (a :: b :: rest) pos) (tE X.K c W fun e S => (fa e S).bind fun x S1 => (R.ofO (truthA S1 x) S1).bind fun t S2 => if t = true then fb e S2 else .ok x S2) := by
  refine PE.imp (L2.pe_andT ha hb) fun σ H Q h => ?_
  obtain ⟨e, m, S, re, s, h⟩ := h
  refine ⟨e, m, S, re, s, h.bind.imp fun x S1 m1 H1 e1 s1 h1 v rv => ?_⟩
  obtain ⟨b, hb, h1⟩ := h1.bind.ofO s1
  refine ⟨b, truthA_tru s1 rv hb, ?_⟩
  cases b with
  | false =>
    simp only [Bool.false_eq_true, if_false] at h1 ⊢
    exact h1.now s1 _ rv
  | true =>
    simp only [if_true] at h1 ⊢
    exact ⟨e, m1, S1, re.mono s e1, s1, h1⟩
theorem pe_orE {a b : Expr} {rest : List Expr} {fa fb : Env → Store → R D} {pos : Pos} (ha : PE X a (tE X.K c W fa)) (hb : PE X (.BoolOp .Or (b :: rest) pos) (tE X.K c W fb)) :
    PE X (.BoolOp .Or (a :: b :: rest) pos) (tE X.K c W fun e S => (fa e S).bind fun x S1 => (R.ofO (truthA S1 x) S1).bind fun t S2 => if t = true then .ok x S2 else fb e S2) := by
  refine PE.imp (L2.pe_orT ha hb) fun σ H Q h => ?_
  obtain ⟨e, m, S, re, s, h⟩ := h
  refine ⟨e, m, S, re, s, h.bind.imp fun x S1 m1 H1 e1 s1 h1 v rv => ?_⟩
  obtain ⟨b, hb, h1⟩ := h1.bind.ofO s1
  refine ⟨b, truthA_tru s1 rv hb, ?_⟩
  cases b with
  | true =>
    simp only [if_true] at h1 ⊢
    exact h1.now s1 _ rv
  | false =>
    simp only [Bool.false_eq_true, if_false] at h1 ⊢
    exact ⟨e, m1, S1, re.mono s e1, s1, h1⟩
theorem pw_andE {a b : Expr} {rest : List Expr} {fa fb : Env → Store → R D} {pos : Pos} (ha : PT X a (tT X.K c W fa)) (hb : L2.PW X (.BoolOp .And (b :: rest) pos) (tT X.K c W fb)) :
    L2.PW X (.BoolOp .And (a :: b :: rest) pos) (tT X.K c W fun e S => (fa e S).bind fun x S1 => (R.ofO (truthA S1 x) S1).bind fun t S2 => if t = true then fb e S2 else .ok x S2) := by
  have h0 := L2.pw_and ha hb
  refine ⟨fun whole pins s σ H Q I h => h0.run whole pins s σ H Q I ?_⟩
  obtain ⟨e, m, S, re, s, h⟩ := h
  refine ⟨e, m, S, re, s, h.bind.imp fun x S1 m1 H1 e1 s1 h1 => ?_⟩
  obtain ⟨b, hb, h1⟩ := h1.bind.ofO s1
  refine ⟨b, hb, ?_⟩
  cases b with
  | false =>
    simp only [Bool.false_eq_true, if_false] at h1 ⊢
    obtain ⟨b', hb', h1⟩ := h1.now s1
    rw [hb] at hb'
    cases hb'
    exact h1
  | true =>
    simp only [if_true] at h1 ⊢
    exact ⟨e, m1, S1, re.mono s e1, s1, h1⟩
theorem pw_orE {a b : Expr} {rest : List Expr} {fa fb : Env → Store → R D} {pos : Pos} (ha : PT X a (tT X.K c W fa)) (hb : L2.PW X (.BoolOp .Or (b :: rest) pos) (tT X.K c W fb)) :
    L2.PW X (.BoolOp .Or (a :: b :: rest) pos) (tT X.K c W fun e S => (fa e S).bind fun x S1 => (R.ofO (truthA S1 x) S1).bind fun t S2 => if t = true then .ok x S2 else fb e S2) := by
  have h0 := L2.pw_or ha hb
  refine ⟨fun whole pins s σ H Q I h => h0.run whole pins s σ H Q I ?_⟩
  obtain ⟨e, m, S, re, s, h⟩ := h
  refine ⟨e, m, S, re, s, h.bind.imp fun x S1 m1 H1 e1 s1 h1 => ?_⟩
  obtain ⟨b, hb, h1⟩ := h1.bind.ofO s1
  refine ⟨b, hb, ?_⟩
  cases b with
  | true =>
    simp only [if_true] at h1 ⊢
    obtain ⟨b', hb', h1⟩ := h1.now s1
    rw [hb] at hb'
    cases hb'
    exact h1
  | false =>
    simp only [Bool.false_eq_true, if_false] at h1 ⊢
    exact ⟨e, m1, S1, re.mono s e1, s1, h1⟩
theorem pe_ifeE {a b d : Expr} {fa fb fc : Env → Store → R D} {pos : Pos} (hc : PT X d (tT X.K c W fc)) (ha : PE X a (tE X.K c W fa)) (hb : PE X b (tE X.K c W fb)) :
    PE X (.IfExp d a b pos) (tE X.K c W fun e S => (tru (fc e S)).bind fun t S1 => if t = true then fa e S1 else fb e S1) := by
  refine PE.imp (L2.pe_ifExp hc ha hb) fun σ H Q h => ?_
  obtain ⟨e, m, S, re, s, h⟩ := h
  refine ⟨e, m, S, re, s, (Aft.bind h).bind.imp fun x S1 m1 H1 e1 s1 h1 => ?_⟩
  obtain ⟨b, hb, h1⟩ := h1.ofO s1
  refine ⟨b, hb, ?_⟩
  cases b with
  | true =>
    simp only [if_true] at h1 ⊢
    exact ⟨e, m1, S1, re.mono s e1, s1, h1⟩
  | false =>
    simp only [Bool.false_eq_true, if_false] at h1 ⊢
    exact ⟨e, m1, S1, re.mono s e1, s1, h1⟩
/-- a value's truth as a test -/
theorem pt_plainE {a : Expr} {fa : Env → Store → R D} (ha : PE X a (tE X.K c W fa)) (he : ∀ whole, isTrue a X.env whole = (do let v ← whole; standAt a.pos; holding [v] (truthy v))) : PT X a (tT X.K c W fa) := by
  refine PT.imp (L2.pt_truth ha he) fun σ H Q h => ?_
  obtain ⟨e, m, S, re, s, h⟩ := h
  refine ⟨e, m, S, re, s, h.imp fun x S1 m1 H1 e1 s1 h1 v rv => ?_⟩
  obtain ⟨b, hb, h1⟩ := h1
  exact ⟨b, truthA_tru s1 rv hb, h1⟩

/-! ### names, constants, displays -/
theorem pe_kE {a : Expr} {d : D} {v : V} (h : PE X a (L2.tC v)) (r : ∀ (m : MM) (H : Hp), RV X.K c m H d v) : PE X a (tE X.K c W fun _ S => .ok d S) := by
  refine PE.imp h fun σ H Q h => ?_
  obtain ⟨e, m, S, re, s, h⟩ := h
  exact h.okv s (r _ _)
theorem pe_varE {a : Expr} {i : Nat} (h : PE X a (L2.tVar i)) : PE X a (tE X.K c W fun e S => match e[i]? with
    | some (some d) => .ok d S
    | _ => .bad) := by
  refine PE.imp h fun σ H Q h => ?_
  obtain ⟨e, m, S, re, s, h⟩ := h
  dsimp only at h
  split at h
  · rename_i d hd
    obtain ⟨v, h1, h2⟩ := re.at_ _ _ hd
    exact ⟨v, h1, h.okv s h2⟩
  · exact h.elim
theorem pa_nilE : PA X [] (tA X.K c W fun _ S => .ok [] S) := by
  refine PA.imp L2.pa_nil fun σ H Q h => ?_
  obtain ⟨e, m, S, re, s, h⟩ := h
  exact h m H .refl s _ .nil
theorem pa_consE {a : Expr} {es : List Expr} {fa : Env → Store → R D} {fs : Env → Store → R (List D)} (ha : PE X a (tE X.K c W fa)) (hs : PA X es (tA X.K c W fs)) (hst : starEach (a :: es) X.env = (false, eval a X.env) :: starEach es X.env) :
    PA X (a :: es) (tA X.K c W fun e S => (fa e S).bind fun x S1 => (fs e S1).bind fun xs S2 => .ok (x :: xs) S2) := by
  refine PA.imp (L2.pa_cons ha hs hst) fun σ H Q h => ?_
  obtain ⟨e, m, S, re, s, h⟩ := h
  refine ⟨e, m, S, re, s, h.bind.imp fun x S1 m1 H1 e1 s1 h1 v rv => ⟨e, m1, S1, re.mono s e1, s1, h1.bind.imp fun xs S2 m2 H2 e2 s2 h2 vs rvs => ?_⟩⟩
  exact h2 m2 H2 .refl s2 _ (.cons (rv.mono s1 e2) rvs)
theorem pe_tupE {es : List Expr} {fs : Env → Store → R (List D)} {k : Nat} {pos : Pos} (h : PA X es (tA X.K c W fs)) : PE X (.Tuple es k pos) (tE X.K c W fun e S => (fs e S).bind fun ds S1 => mkT ds S1) := by
  refine PE.imp (L2.pe_tup h) fun σ H Q h => ?_
  obtain ⟨e, m, S, re, s, h⟩ := h
  exact ⟨e, m, S, re, s, h.bind.imp fun ds S1 m1 H1 e1 s1 h1 vs rvs => mkT_new s1 rvs h1⟩
theorem pe_lstE {v : Bool} {es : List Expr} {fs : Env → Store → R (List D)} {pos : Pos} (h : PA X es (tA X.K c W fs)) : PE X (.List es pos) (tE X.K c W fun e S => (fs e S).bind fun ds S1 => mkL v ds S1) := by
  refine PE.imp (L2.pe_lst h) fun σ H Q h => ?_
  obtain ⟨e, m, S, re, s, h⟩ := h
  exact ⟨e, m, S, re, s, h.bind.imp fun ds S1 m1 H1 e1 s1 h1 vs rvs => mkL_new s1 rvs h1⟩
end
end Mn

/-! Mn5: subscripts, slices, what is built in, calls of defs. -/
namespace Mn
open PySem PySem.Spec PyProof.Rows
open L2 (V Hp HO Cx SqL SqT Rd St VK WX XK TE TA TS TT TG PE PA PS PSs PT PG Ends upd upd_same upd_ne OpR R2 Inv Dp DpAll UnR CallR)

section
variable {X : Cx} {c : Cfg} {W : WX}
theorem tB_of {fs : Env → Store → R (List D)} {g : List D → Store → R D} {r : List V → Hp → VK → Prop}
    (hr : ∀ (m : MM) (H : Hp) (S : Store) (ds : List D) (vs : List V) (σ : L2.St) (Q : VK), Sim X.K c m H S → RVs X.K c m H ds vs → Aft X.K c W σ m H (g ds S) (fun d _ m' H' => ∀ v, RV X.K c m' H' d v → Q v H') → r vs H Q) :
    ∀ σ H Q, tE X.K c W (fun e S => (fs e S).bind fun ds S1 => g ds S1) σ H Q → L2.tCB r (tA X.K c W fs) σ H Q := by
  rintro σ H Q ⟨e, m, S, re, s, h⟩
  exact ⟨e, m, S, re, s, h.bind.imp fun ds S1 m1 H1 e1 s1 h1 vs rvs => hr m1 H1 S1 ds vs σ Q s1 rvs h1⟩

/-! ### subscripts -/
theorem atI_rv {m : MM} {H : Hp} {l : List D} {vs : List V} {i : Int} {d : D} (r : RVs X.K c m H l vs) (h : L2.atI l i = some d) : ∃ v, L2.atI vs i = some v ∧ RV X.K c m H d v := by
  unfold L2.atI at h ⊢
  rw [← r.length]
  cases e : L2.ixN l.length i with
  | none => rw [e] at h; cases h
  | some j =>
    rw [e] at h
    simp only [Option.bind_some] at h ⊢
    exact r.getD h
theorem sub_ok (m : MM) (H : Hp) (S : Store) (x y : D) (u w : V) (σ : L2.St) (Q : VK) (s : Sim X.K c m H S) (rx : RV X.K c m H x u) (ry : RV X.K c m H y w)
    (h : Aft X.K c W σ m H (R.ofO (subA S x y) S) (fun d _ m' H' => ∀ v, RV X.K c m' H' d v → Q v H')) : L2.rIx X.K u w H Q := by
  obtain ⟨d, hd, hq⟩ := h.ofO s
  unfold subA at hd
  split at hd
  · rename_i i
    cases ry
    split at hd
    · rename_i z
      cases rx
      split at hd
      · rename_i hz
        cases e : L2.atI z.cps.toList i with
        | none => rw [e] at hd; cases hd
        | some cc =>
          rw [e] at hd
          cases hd
          exact .inr (.inr ⟨z, i, cc, rfl, rfl, hz, e, hq _ (.str _)⟩)
      · cases hd
    · cases e : seqA S x with
      | none => rw [e] at hd; cases hd
      | some l =>
        rw [e] at hd
        simp only [Option.bind_some] at hd
        obtain ⟨a, vs, rfl, h1, h2⟩ := seqA_sq s rx e
        obtain ⟨v, h3, h4⟩ := atI_rv h2 hd
        rcases h1 with h1 | h1
        · exact .inl ⟨a, vs, i, v, rfl, rfl, h1, h3, hq _ h4⟩
        · exact .inr (.inl ⟨a, vs, i, v, rfl, rfl, h1, h3, hq _ h4⟩)
  · cases hd
theorem pe_subE {a b : Expr} {fa fb : Env → Store → R D} {pos : Pos} (ha : PE X a (tE X.K c W fa)) (hb : PE X b (tE X.K c W fb)) (hs : L2.PlainIx b) :
    PE X (.Subscript a b pos) (tE X.K c W fun e S => (fa e S).bind fun x S1 => (fb e S1).bind fun y S2 => R.ofO (subA S2 x y) S2) :=
  PE.imp (L2.pe_ix L2.ix_seq ha hb hs) (tE_op (g := fun x y S2 => R.ofO (subA S2 x y) S2) sub_ok)

/-! ### slices -/
def tO (K : Frag) (c : Cfg) (W : WX) (f : Env → Store → R (Option Int)) : L2.TO := fun σ H Q => ∃ (e : Env) (m : MM) (S : Store), EnvR K c m H e σ ∧ Sim K c m H S ∧ Aft K c W σ m H (f e S) fun i _ _ H' => Q i H'
theorem po_noneE : L2.PO X none (tO X.K c W fun _ S => .ok none S) := by
  have h0 := L2.po_none (X := X)
  refine ⟨fun pins s σ H Q I h => h0.run pins s σ H Q I ?_⟩
  obtain ⟨e, m, S, re, s, h⟩ := h
  exact h.now s
theorem po_someE {a : Expr} {fa : Env → Store → R D} (ha : PE X a (tE X.K c W fa)) : L2.PO X (some a) (tO X.K c W fun e S => (fa e S).bind fun x S1 => (R.ofO (optI x) S1).bind fun i S2 => .ok (some i) S2) := by
  have h0 := L2.po_some ha
  refine ⟨fun pins s σ H Q I h => h0.run pins s σ H Q I ?_⟩
  obtain ⟨e, m, S, re, s, h⟩ := h
  refine ⟨e, m, S, re, s, h.bind.imp fun x S1 m1 H1 e1 s1 h1 v rv => ?_⟩
  obtain ⟨i, hi, h1⟩ := h1.bind.ofO s1
  cases rv <;> simp only [optI, reduceCtorEq, Option.some.injEq] at hi
  subst hi
  exact ⟨_, rfl, h1.now s1⟩
theorem cut_rv {m : MM} {H : Hp} {l : List D} {vs : List V} (r : RVs X.K c m H l vs) (lo hi : Option Int) : RVs X.K c m H (cutA l lo hi) (L2.cutV vs lo hi) := by
  unfold cutA L2.cutV
  rw [← r.length]
  exact (r.drop _).take _
theorem slc_ok {v : Bool} {m : MM} {H : Hp} {S : Store} {x : D} {i j : Option Int} {u : V} {σ : L2.St} {Q : VK} (s : Sim X.K c m H S) (rx : RV X.K c m H x u)
    (h : Aft X.K c W σ m H (slcA v x i j S) (fun d _ m' H' => ∀ v, RV X.K c m' H' d v → Q v H')) : L2.rSlA X.K u i j H Q ∨ L2.rSlL X.K u i j H Q := by
  unfold slcA at h
  split at h
  · cases rx with
    | tup h1 h2 =>
      rename_i l a vs
      refine .inl ⟨a, vs, rfl, h1, fun hw => ?_, fun hw p hp => ?_⟩
      · have e : cutA l i j = l := by
          unfold cutA
          rw [h2.length, hw.1, hw.2, List.drop_zero, Nat.sub_zero, ← h2.length, List.take_length]
        rw [e] at h
        exact h.okv s (.tup h1 h2)
      · exact h m _ (Ext.fresh hp s) (s.fresh hp) _ (RV.newTup s hp (cut_rv h2 i j))
  · split at h
    · rename_i l e
      obtain ⟨a, vs, rfl, h1, h2⟩ := seqL_sq s rx e
      obtain ⟨hz, hq⟩ := mkL_new s (cut_rv h2 i j) h
      exact .inr ⟨a, vs, rfl, h1, hq⟩
    · exact h.elim
theorem pe_slcE {v : Bool} {a : Expr} {lo hi : Option Expr} {fa : Env → Store → R D} {fl fh : Env → Store → R (Option Int)} {p2 pos : Pos} (ha : PE X a (tE X.K c W fa)) (hl : L2.PO X lo (tO X.K c W fl)) (hh : L2.PO X hi (tO X.K c W fh)) :
    PE X (.Subscript a (.Slice lo hi none p2) pos) (tE X.K c W fun e S => (fa e S).bind fun x S1 => (fl e S1).bind fun l S2 => (fh e S2).bind fun h S3 => slcA v x l h S3) := by
  refine PE.imp (L2.pe_slice (L2.sl_tupA.or L2.sl_list) ha hl hh) fun σ H Q h => ?_
  obtain ⟨e, m, S, re, s, h⟩ := h
  exact ⟨e, m, S, re, s, h.bind.imp fun x S1 m1 H1 e1 s1 h1 u ru => ⟨e, m1, S1, re.mono s e1, s1, h1.bind.imp fun l S2 m2 H2 e2 s2 h2 =>
    ⟨e, m2, S2, (re.mono s e1).mono s1 e2, s2, h2.bind.imp fun h S3 m3 H3 e3 s3 h3 => slc_ok s3 ((ru.mono s1 e2).mono s2 e3) h3⟩⟩⟩

/-! ### what is built in -/
def rBlt (X : Cx) (f : String) : List V → Hp → VK → Prop := match f with
  | "len" => fun xs H Q => (∃ p ys, xs = [.ref p] ∧ (SqL X.K H p ys ∨ SqT X.K H p ys) ∧ Q (.int ys.length) H) ∨ (∃ z : Str, xs = [.str z] ∧ z.length ≤ sizeLine ∧ Q (.int z.length) H)
  | "max" => fun xs H Q => ∃ i j, xs = [.int i, .int j] ∧ Q (.int (if j > i then j else i)) H
  | "min" => fun xs H Q => ∃ i j, xs = [.int i, .int j] ∧ Q (.int (if j < i then j else i)) H
  | "sum" => L2.rSum X.K
  | "isinstance" => L2.rIsi X.K
  | _ => fun _ _ _ => False
def isBlt (f : String) : Bool := ["len", "max", "min", "sum", "isinstance"].contains f
theorem cr_blt (X : Cx) (hc : X.calm = true) (f : String) : CallR X (.builtin f) (rBlt X f) := by
  unfold rBlt
  split
  · exact L2.call_len_seq.or L2.call_len_str
  · exact L2.call_max2 hc
  · exact L2.call_min2 hc
  · exact L2.cr_sum hc
  · exact L2.call_isi
  · exact fun _ _ _ _ _ _ _ _ _ h => h.elim
def rTy (X : Cx) (f : String) : List V → Hp → VK → Prop := match f with
  | "tuple" => fun xs H Q => ∃ p ys, xs = [.ref p] ∧ ((SqL X.K H p ys ∧ ∀ l, H l = none → Q (.ref l) (upd H l (.tup ys))) ∨ (SqT X.K H p ys ∧ Q (.ref p) H))
  | "list" => fun xs H Q => ∃ p ys, xs = [.ref p] ∧ (SqL X.K H p ys ∨ SqT X.K H p ys) ∧ ∀ l, H l = none → Q (.ref l) (upd H l (.lst ys))
  | "int" => fun xs H Q => (∃ i, xs = [.int i] ∧ Q (.int i) H) ∨ ∃ k, xs = [.bl k] ∧ Q (.int (if k then 1 else 0)) H
  | _ => fun _ _ _ => False
def isTy (f : String) : Bool := ["tuple", "list", "int"].contains f
theorem cr_ty (X : Cx) (f : String) : CallR X (.type f) (rTy X f) := by
  unfold rTy
  split
  · exact L2.call_tuple_of
  · exact L2.call_list_of
  · exact L2.call_int1
  · exact fun _ _ _ _ _ _ _ _ _ h => h.elim
theorem intsOf_rv {m : MM} {H : Hp} : ∀ {ds : List D} {ns : List Int} {vs : List V}, intsOf ds = some ns → RVs X.K c m H ds vs → vs = ns.map V.int
  | [], _, _, h, .nil => by simp only [intsOf, Option.some.injEq] at h; subst h; rfl
  | d :: ds, _, _, h, .cons h1 h2 => by
    cases d <;> simp only [intsOf, reduceCtorEq] at h
    cases h1
    cases e : intsOf ds with
    | none => rw [e] at h; cases h
    | some ns =>
      rw [e] at h
      cases h
      rw [intsOf_rv e h2]
      rfl
theorem tyOf_tyx {m : MM} {H : Hp} {S : Store} {d : D} {v : V} {t : String} (s : Sim X.K c m H S) (r : RV X.K c m H d v) (h : tyOf S d = some t) : L2.TyX X.K H v (.type t) := by
  cases r with
  | non => cases h; exact .base .non
  | bl b => cases h; exact .base (.bl b)
  | int b => cases h; exact .base (.int b)
  | str b => cases h; exact .base (.str b)
  | tup h1 h2 =>
    cases h
    rcases h1 with (h1 | ⟨o, h1⟩) | ⟨o, its, n, h1, h3, _⟩
    · exact .base (.tup h1)
    · exact .fTuple h1
    · exact .kTuple h1 h3
  | lst h1 h2 =>
    cases h
    rcases h1 with ⟨h1 | ⟨o, h1⟩, _⟩ | ⟨o, its, n, h1, h3, _⟩
    · exact .base (.lst h1)
    · exact .base (.frz h1)
    · exact .kList h1 h3
  | ref h1 =>
    simp only [tyOf] at h
    split at h
    · rename_i l e
      obtain ⟨a, vs, h2, h3, h4⟩ := s.at e
      rw [h1] at h2; cases h2
      cases h
      exact .base (.lst h3)
    · cases h
  | _ => simp [tyOf] at h
theorem blt_ok {v : Bool} {f : String} (hf : isBlt f = true) (m : MM) (H : Hp) (S : Store) (ds : List D) (vs : List V) (σ : L2.St) (Q : VK) (s : Sim X.K c m H S) (r : RVs X.K c m H ds vs)
    (h : Aft X.K c W σ m H (bltA v f ds S) (fun d _ m' H' => ∀ v, RV X.K c m' H' d v → Q v H')) : rBlt X f vs H Q := by
  unfold bltA at h
  split at h
  · -- len
    cases r with
    | cons r1 r2 =>
      cases r2
      split at h
      · cases r1
        obtain ⟨hz, h⟩ := Aft.if_ h
        exact .inr ⟨_, rfl, hz, h.okv s (.int _)⟩
      · split at h
        · rename_i l e
          obtain ⟨a, us, rfl, h1, h2⟩ := seqA_sq s r1 e
          refine .inl ⟨a, us, rfl, h1, ?_⟩
          rw [← h2.length]
          exact h.okv s (.int _)
        · exact h.elim
  · exact absurd hf (by decide)
  · exact absurd hf (by decide)
  · cases r with
    | cons r1 r2 =>
      cases r2 with
      | cons r2 r3 =>
        cases r3; cases r1; cases r2
        exact ⟨_, _, rfl, h.okv s (.int _)⟩
  · cases r with
    | cons r1 r2 =>
      cases r2 with
      | cons r2 r3 =>
        cases r3; cases r1; cases r2
        exact ⟨_, _, rfl, h.okv s (.int _)⟩
  · rename_i x
    cases r with
    | cons r1 r2 =>
      cases r2
      split at h
      · rename_i ns e
        cases e1 : seqL S x with
        | none => rw [e1] at e; cases e
        | some l =>
          rw [e1] at e
          obtain ⟨a, us, rfl, h1, h2⟩ := seqL_sq s r1 e1
          have e2 := intsOf_rv e h2
          subst e2
          exact ⟨a, ns, rfl, h1, h.okv s (.int _)⟩
      · exact h.elim
  · exact absurd hf (by decide)
  · exact absurd hf (by decide)
  · cases r with
    | cons r1 r2 =>
      cases r2 with
      | cons r2 r3 =>
        cases r3; cases r2
        split at h
        · rename_i a e
          split at h
          · rename_i b e2
            exact ⟨_, _, _, _, b, rfl, .ty _, tyOf_tyx s r1 e, L2.kit_ty e2, h.okv s (.bl _)⟩
          · exact h.elim
        · exact h.elim
  · exact h.elim
theorem ty_ok {v : Bool} {f : String} (hf : isTy f = true) (m : MM) (H : Hp) (S : Store) (ds : List D) (vs : List V) (σ : L2.St) (Q : VK) (s : Sim X.K c m H S) (r : RVs X.K c m H ds vs)
    (h : Aft X.K c W σ m H (bltA v f ds S) (fun d _ m' H' => ∀ v, RV X.K c m' H' d v → Q v H')) : rTy X f vs H Q := by
  unfold bltA at h
  split at h
  · exact absurd hf (by decide)
  · cases r with
    | cons r1 r2 =>
      cases r2
      split at h
      · obtain ⟨a, us, rfl, h1, h2⟩ := seqT_sq (x := .tup _) r1 rfl
        exact ⟨a, us, rfl, .inr ⟨h1, h.okv s r1⟩⟩
      · split at h
        · rename_i l e
          obtain ⟨a, us, rfl, h1, h2⟩ := seqL_sq s r1 e
          exact ⟨a, us, rfl, .inl ⟨h1, (mkT_new s h2 h).2⟩⟩
        · exact h.elim
  · cases r with
    | cons r1 r2 =>
      cases r2
      split at h
      · rename_i l e
        obtain ⟨a, us, rfl, h1, h2⟩ := seqA_sq s r1 e
        exact ⟨a, us, rfl, h1, (mkL_new s h2 h).2⟩
      · exact h.elim
  · exact absurd hf (by decide)
  · exact absurd hf (by decide)
  · exact absurd hf (by decide)
  · cases r with
    | cons r1 r2 =>
      cases r2; cases r1
      exact .inl ⟨_, rfl, h.okv s (.int _)⟩
  · cases r with
    | cons r1 r2 =>
      cases r2; cases r1
      exact .inr ⟨_, rfl, h.okv s (.int _)⟩
  · exact absurd hf (by decide)
  · exact h.elim
theorem pe_bltE {v : Bool} {f : String} {e : Expr} {es : List Expr} {fs : Env → Store → R (List D)} {p pos : Pos} (hf : isBlt f = true) (hc : X.calm = true) (hg : L2.Gl X (Str.ofString f)) (hm : X.mg (Str.ofString f) = none) (hv : bootBuiltins (Str.ofString f) = some (.builtin f))
    (ha : PA X (e :: es) (tA X.K c W fs)) (hn : Str.ofString f ≠ "__name__") (hdb : (Str.ofString f == ("__debug__" : Str)) = false) (he : starEach (e :: es) X.env = (false, eval e X.env) :: starEach es X.env) (hpl : (backTo pos (starEach es X.env)).any (·.1) = false) :
    PE X (.Call (.Name (Str.ofString f) p) (e :: es) [] pos) (tE X.K c W fun e S => (fs e S).bind fun ds S1 => bltA v f ds S1) :=
  PE.imp (L2.pe_callB (cr_blt X hc f) hg hm hv ha hn hdb he hpl) (tB_of (g := bltA v f) (blt_ok hf))
theorem pe_tyE {v : Bool} {f : String} {e : Expr} {es : List Expr} {fs : Env → Store → R (List D)} {p pos : Pos} (hf : isTy f = true) (hg : L2.Gl X (Str.ofString f)) (hm : X.mg (Str.ofString f) = none) (hv : bootBuiltins (Str.ofString f) = some (.type f))
    (ha : PA X (e :: es) (tA X.K c W fs)) (hn : Str.ofString f ≠ "__name__") (hdb : (Str.ofString f == ("__debug__" : Str)) = false) (he : starEach (e :: es) X.env = (false, eval e X.env) :: starEach es X.env) (hpl : (backTo pos (starEach es X.env)).any (·.1) = false) :
    PE X (.Call (.Name (Str.ofString f) p) (e :: es) [] pos) (tE X.K c W fun e S => (fs e S).bind fun ds S1 => bltA v f ds S1) :=
  PE.imp (L2.pe_callTy (cr_ty X f) hg hm hv ha hn hdb he hpl) (tB_of (g := bltA v f) (ty_ok hf))
end
end Mn

/-! Mn6: methods, stores, calls; what is walked. -/
namespace Mn
open PySem PySem.Spec PyProof.Rows
open L2 (V Hp HO Cx SqL SqT Rd St VK WX XK TE TA TS TT TG TI PE PA PS PSs PT PG PI Ends upd upd_same upd_ne OpR R2 Inv Dp DpAll UnR CallR Walk)

section
variable {X : Cx} {c : Cfg} {W : WX}
/-! ### methods -/
theorem recvA_ty {m : MM} {H : Hp} {S : Store} {T : String} {o : D} {u : V} {z : Unit} (s : Sim X.K c m H S) (r : RV X.K c m H o u) (h : recvA T S o = some z) : L2.tyV X.K T u H := by
  unfold recvA at h
  split at h
  · cases e : seqL S o with
    | none => rw [e] at h; cases h
    | some l =>
      obtain ⟨a, vs, rfl, h1, h2⟩ := seqL_sq s r e
      exact .inl ⟨rfl, vs, h1⟩
  · split at h
    · cases r; rfl
    · cases h
  · cases h
theorem tBM_of {fo : Env → Store → R D} {fs : Env → Store → R (List D)} {T : String} {g : D → List D → Store → R D} {r : V → List V → Hp → VK → Prop}
    (hr : ∀ (m : MM) (H : Hp) (S : Store) (o : D) (u : V) (ds : List D) (vs : List V) (σ : L2.St) (Q : VK), Sim X.K c m H S → RV X.K c m H o u → RVs X.K c m H ds vs → Aft X.K c W σ m H (g o ds S) (fun d _ m' H' => ∀ v, RV X.K c m' H' d v → Q v H') → r u vs H Q) :
    ∀ σ H Q, tE X.K c W (fun e S => (fo e S).bind fun x S1 => (R.ofO (recvA T S1 x) S1).bind fun _ S2 => (fs e S2).bind fun ds S3 => g x ds S3) σ H Q → L2.tBM X.K T r (tE X.K c W fo) (tA X.K c W fs) σ H Q := by
  rintro σ H Q ⟨e, m, S, re, s, h⟩
  refine ⟨e, m, S, re, s, h.bind.imp fun x S1 m1 H1 e1 s1 h1 u ru => ?_⟩
  obtain ⟨z, hz, h1⟩ := h1.bind.ofO s1
  exact ⟨recvA_ty s1 ru hz, e, m1, S1, re.mono s e1, s1, h1.bind.imp fun ds S2 m2 H2 e2 s2 h2 vs rvs => hr m2 H2 S2 x u ds vs σ Q s2 (ru.mono s1 e2) rvs h2⟩
theorem append_ok (m : MM) (H : Hp) (S : Store) (o : D) (u : V) (ds : List D) (vs : List V) (σ : L2.St) (Q : VK) (s : Sim X.K c m H S) (ro : RV X.K c m H o u) (r : RVs X.K c m H ds vs)
    (h : Aft X.K c W σ m H (mthA "list" "append" o ds S) (fun d _ m' H' => ∀ v, RV X.K c m' H' d v → Q v H')) : L2.rAppend u vs H Q := by
  unfold mthA at h
  split at h
  · rename_i n x _ _
    cases ro with
    | ref h1 =>
      cases r with
      | cons r1 r2 =>
        cases r2
        split at h
        · rename_i l e
          obtain ⟨hz, h⟩ := Aft.if_ h
          obtain ⟨a, us, h2, h3, h4⟩ := s.at e
          rw [h1] at h2; cases h2
          obtain ⟨e2, s2⟩ := s.write e h1 h3 (h4.append (.cons r1 .nil))
          exact ⟨_, us, _, rfl, rfl, h3, by rw [← h4.length]; exact hz, h _ _ e2 s2 _ .non⟩
        · exact h.elim
  · exact h.elim
theorem pe_appendE {o a : Expr} {fo : Env → Store → R D} {fs : Env → Store → R (List D)} {apos cpos : Pos} (ho : PE X o (tE X.K c W fo)) (ha : PA X [a] (tA X.K c W fs)) (hbase : attributeBase o "append" X.env (eval o X.env) = eval o X.env)
    (hline : (apos.endLine == cpos.line) = true) (hs : starEach [a] X.env = [(false, eval a X.env)]) :
    PE X (.Call (.Attribute o "append" apos) [a] [] cpos) (tE X.K c W fun e S => (fo e S).bind fun x S1 => (R.ofO (recvA "list" S1 x) S1).bind fun _ S2 => (fs e S2).bind fun ds S3 => mthA "list" "append" x ds S3) := by
  refine PE.imp (L2.pe_bm PySem.F.plainAttrs_list PySem.F.slot_list_append PySem.F.type_list_append L2.mt_append ho ha hbase ?_ hline ?_ ?_) (tBM_of append_ok)
  · rw [hs]; rfl
  · rw [hs]; rfl
  · rfl
/-! ### o[i] = v -/
theorem set_rv {m : MM} {H : Hp} {S : Store} {x k y : D} {u i w : V} {σ : L2.St} {P : Hp → Prop} (s : Sim X.K c m H S) (rx : RV X.K c m H x u) (rk : RV X.K c m H k i) (ry : RV X.K c m H y w)
    (h : Aft X.K c W σ m H (setA x k y S) (fun _ _ _ H' => P H')) : L2.rSetL u i w H P := by
  unfold setA at h
  split at h
  · cases rx with
    | ref h1 =>
      cases rk
      split at h
      · rename_i l e
        split at h
        · rename_i j hj
          obtain ⟨a, us, h2, h3, h4⟩ := s.at e
          rw [h1] at h2; cases h2
          obtain ⟨e2, s2⟩ := s.write e h1 h3 (h4.set ry j)
          exact ⟨_, us, _, j, rfl, rfl, h3, by rw [← h4.length]; exact hj, h _ _ e2 s2⟩
        · exact h.elim
      · exact h.elim
  · exact h.elim

/-! ### calls of defs -/
/-- what a def of the reading promises -/
def spG (K : Frag) (c : Cfg) (f : List D → Store → R D) (n : Nat) : L2.Sp := fun vs H Q E => vs.length = n ∧ ∃ (m : MM) (S : Store) (ds : List D), RVs K c m H ds vs ∧ Sim K c m H S ∧
  Aft K c (fun cls dx _ H' => E cls dx H') [] m H (f ds S) fun d _ m' H' => ∀ v, RV K c m' H' d v → Q v H'
theorem pe_callE {k n : Nat} {f : Addr} {fd : FuncData} {ps : List Str} {x : Str} {e : Expr} {es : List Expr} {call : List D → Store → R D} {fs : Env → Store → R (List D)} {p pos : Pos} (F : L2.FnOk X.prog X.w X.K X.mg X.base (L2.CX X.prog X.w) k f fd ps (spG X.K c call n)) (hr : L2.Room k X.A) (tk : L2.Takes X W)
    (hg : L2.Gl X x) (hm : X.mg x = some (.ref f)) (hk : PySem.W.keepIn X.K (.ref f) = true) (hb : L2.Binds X.K fd ps []) (ha : PA X (e :: es) (tA X.K c W fs)) (hn : ∀ e S, ∀ ds S', fs e S = .ok ds S' → ds.length = n)
    (hdb : (x == ("__debug__" : Str)) = false) (he : starEach (e :: es) X.env = (false, eval e X.env) :: starEach es X.env) (hpl : (backTo pos (starEach es X.env)).any (·.1) = false) :
    PE X (.Call (.Name x p) (e :: es) [] pos) (tE X.K c W fun e S => (fs e S).bind fun ds S1 => call ds S1) := by
  refine PE.imp (L2.pe_callS F hr hg hm hk hb (fun σ => L2.passAt tk σ) ha hdb he hpl) fun σ H Q h => ?_
  obtain ⟨e, m, S, re, s, h⟩ := h
  have hl : ∀ ds S', fs e S = .ok ds S' → ds.length = n := hn e S
  refine ⟨e, m, S, re, s, ?_⟩
  dsimp only at h
  revert h hl
  generalize fs e S = r
  intro h hl
  cases r with
  | bad => exact h
  | exc x S1 => exact h
  | ok ds S1 =>
    intro m1 H1 e1 s1 vs rvs
    have h1 : Aft X.K c W σ m1 H1 (call ds S1) _ := Aft.shift h e1
    refine ⟨by rw [← rvs.length]; exact hl ds S1 rfl, m1, S1, ds, rvs, s1, ?_⟩
    revert h1
    generalize call ds S1 = r
    intro h1
    cases r <;> exact h1
theorem pe_call0E {k : Nat} {f : Addr} {fd : FuncData} {ps : List Str} {x : Str} {call : List D → Store → R D} {p pos : Pos} (F : L2.FnOk X.prog X.w X.K X.mg X.base (L2.CX X.prog X.w) k f fd ps (spG X.K c call 0)) (hr : L2.Room k X.A) (tk : L2.Takes X W)
    (hg : L2.Gl X x) (hm : X.mg x = some (.ref f)) (hk : PySem.W.keepIn X.K (.ref f) = true) (hb : L2.Binds X.K fd ps []) (hdb : (x == ("__debug__" : Str)) = false) :
    PE X (.Call (.Name x p) [] [] pos) (tE X.K c W fun e S => call [] S) := by
  refine ⟨fun pins s σ H Q I h => ?_⟩
  refine wpAny_Call_Name_kw (L2.ld_glob I hg hm ?_ hdb)
  obtain ⟨e, m, S, re, sm, h⟩ := h
  refine PySem.W.callWith_K0 I.kIn hk (L2.run_fnS (us := []) F hr hb (L2.passAt tk σ) I .nil ⟨rfl, m, S, [], .nil, sm, ?_⟩)
  dsimp only at h
  revert h
  generalize call [] S = r
  intro h
  cases r <;> exact h

/-! ### what is walked -/
/-- J goes along the data l while the guard holds -/
structure Along (X : Cx) (c : Cfg) (J : L2.It) (l : List D) (g : Gd) (m : MM) (H : Hp) : Prop where
  go : ∀ (i : Nat) (d : D) (m2 : MM) (H2 : Hp) (S2 : Store), Ext m H m2 H2 → Sim X.K c m2 H2 S2 → gdOk S2 g → l[i]? = some d →
    J.go i H2 ∧ ∀ x H3, J.yld i H2 x H3 → Ext m2 H2 m2 H3 ∧ Sim X.K c m2 H3 S2 ∧ RV X.K c m2 H3 d x
  stop : ∀ (m2 : MM) (H2 : Hp) (S2 : Store), Ext m H m2 H2 → Sim X.K c m2 H2 S2 → gdOk S2 g → J.stop l.length H2
def tI (X : Cx) (c : Cfg) (W : WX) (f : Env → Store → R (List D × Gd)) : TI := fun σ H R => ∃ (e : Env) (m : MM) (S : Store), EnvR X.K c m H e σ ∧ Sim X.K c m H S ∧ Aft X.K c W σ m H (f e S) fun w _ m' H' => ∀ J, Along X c J w.1 w.2 m' H' → R J H'
theorem PI.imp {tg e : Expr} {t t' : TI} (h : PI X tg e t) (i : ∀ σ H R, t' σ H R → t σ H R) : PI X tg e t' := ⟨fun pins s σ H R I q => h.run pins s σ H R I (i _ _ _ q)⟩
/-- anything that is a list, a tuple, a text -/
def iAny (K : Frag) (tl : TE) : TI := fun σ H R => tl σ H fun x H1 => (∃ a, x = .ref a ∧ (∃ xs, SqL K H1 a xs) ∧ R (L2.Itl K a) H1) ∨ (∃ a, x = .ref a ∧ (∃ xs, SqT K H1 a xs) ∧ R (L2.Itt K a) H1) ∨ ∃ z, x = .str z ∧ R (L2.Its z) H1
theorem pi_any {tg l : Expr} {tl : TE} (hl : PE X l tl) : PI X tg l (iAny X.K tl) := by
  refine ⟨fun pins s σ H R I h => ?_⟩
  refine L2.thn (hl.run pins s σ H _ I h) fun v s1 ⟨x, H1, I1, r1, q1⟩ => ?_
  rcases q1 with ⟨a, rfl, ⟨xs, hq⟩, q⟩ | ⟨a, rfl, ⟨xs, hq⟩, q⟩ | ⟨z, rfl, q⟩
  · cases r1
    obtain ⟨its, rv, p, hz⟩ := I1.list hq
    refine wpAny_pyIter_list p.isList ?_
    refine ⟨s1.heap.objs.size, [s1.heap.objs.size], _, _, H1, rfl, I1.kept (t' := s1.toks) fun b o e => Heap.get?_push_of_some _ e, L2.turn_list a _, ⟨_, Heap.get?_push_size _ rfl, rfl, rfl⟩, fun b hb => ?_, q⟩
    have e : b = s1.heap.objs.size := by simpa using hb
    subst e
    exact I1.fpOk (Nat.le_refl _) (I1.hok.fresh (Nat.le_refl _))
  · cases r1
    obtain ⟨its, rv, p, hz⟩ := I1.tuple hq
    refine wpAny_pyIter_tuple (show s1.heap.IsTuple a its.toArray from p) ?_
    refine ⟨s1.heap.objs.size, [s1.heap.objs.size], _, _, H1, rfl, I1.kept (t' := s1.toks) fun b o e => Heap.get?_push_of_some _ e, L2.turn_tuple a _, ⟨_, Heap.get?_push_size _ rfl, rfl, rfl⟩, fun b hb => ?_, q⟩
    have e : b = s1.heap.objs.size := by simpa using hb
    subst e
    exact I1.fpOk (Nat.le_refl _) (I1.hok.fresh (Nat.le_refl _))
  · obtain ⟨t, rfl⟩ := r1
    cases ha : z.cps.all (· < 128)
    · exact wpAny_pyIter_wide ha (L2.pi_one (tk := s1.toks) I1 _ (L2.turn_str _ z t "str_iterator" (.inr rfl)) ⟨_, Heap.get?_push_size _ rfl, rfl, rfl⟩ q)
    · exact wpAny_pyIter_ascii ha (L2.pi_one (tk := s1.toks) I1 _ (L2.turn_str _ z t "str_ascii_iterator" (.inl rfl)) ⟨_, Heap.get?_push_size _ rfl, rfl, rfl⟩ q)
/-- the list stays as it was while the guard holds -/
theorem guard_sq {m m2 : MM} {H H2 : Hp} {S S2 : Store} {x : D} {u : V} {l : List D} (s : Sim X.K c m H S) (r : RV X.K c m H x u) (h : seqL S x = some l) (e : Ext m H m2 H2) (s2 : Sim X.K c m2 H2 S2) (g : gdOk S2 (gdOf S x)) :
    ∃ a vs, u = .ref a ∧ SqL X.K H2 a vs ∧ RVs X.K c m2 H2 l vs := by
  refine seqL_sq (S := S2) s2 (r.mono s e) ?_
  cases x with
  | lst k => exact h
  | ref n =>
    simp only [seqL] at h
    simp only [gdOf] at g
    cases e1 : S[n]? with
    | none => rw [e1] at h; cases h
    | some o =>
      rw [e1] at h g
      cases o with
      | lst k =>
        cases h
        simp only [gdOk] at g
        simp only [seqL, g.1]
      | ins _ _ => cases h
  | _ => simp [seqL] at h
theorem along_list {m : MM} {H : Hp} {S : Store} {x : D} {a : Addr} {l : List D} {g : Gd} (s : Sim X.K c m H S) (r : RV X.K c m H x (.ref a)) (h : seqL S x = some l) (hg : ∀ S2, gdOk S2 g → gdOk S2 (gdOf S x)) : Along X c (L2.Itl X.K a) l g m H where
  go := fun i d m2 H2 S2 e s2 g hd => by
    obtain ⟨a', vs, e1, h1, h2⟩ := guard_sq s r h e s2 (hg _ g)
    cases e1
    obtain ⟨v, hv, rv⟩ := h2.getD hd
    refine ⟨⟨vs, v, h1, hv⟩, fun y H3 hy => ?_⟩
    obtain ⟨rfl, hy⟩ := hy
    have := hy vs h1
    rw [hv] at this; cases this
    exact ⟨.refl, s2, rv⟩
  stop := fun m2 H2 S2 e s2 g => by
    obtain ⟨a', vs, e1, h1, h2⟩ := guard_sq s r h e s2 (hg _ g)
    cases e1
    exact ⟨vs, h1, by rw [h2.length]; exact Nat.le_refl _⟩
theorem along_tup {m : MM} {H : Hp} {S : Store} {a : Addr} {vs : List V} {l : List D} {g : Gd} (s : Sim X.K c m H S) (h1 : SqT X.K H a vs) (h2 : RVs X.K c m H l vs) : Along X c (L2.Itt X.K a) l g m H where
  go := fun i d m2 H2 S2 e s2 g hd => by
    have h3 := e.tup s h1
    obtain ⟨v, hv, rv⟩ := (h2.mono s e).getD hd
    refine ⟨⟨vs, v, h3, hv⟩, fun y H3 hy => ?_⟩
    obtain ⟨rfl, hy⟩ := hy
    have := hy vs h3
    rw [hv] at this; cases this
    exact ⟨.refl, s2, rv⟩
  stop := fun m2 H2 S2 e s2 g => ⟨vs, e.tup s h1, by rw [h2.length]; exact Nat.le_refl _⟩
theorem along_str {m : MM} {H : Hp} {z : Str} {g : Gd} : Along X c (L2.Its z) (z.cps.toList.map fun c => .str ⟨#[c]⟩) g m H where
  go := fun i d m2 H2 S2 e s2 g hd => by
    have W := L2.walk_str (z := z)
    rw [List.getElem?_map] at hd
    cases e1 : z.cps.toList[i]? with
    | none => rw [e1] at hd; cases hd
    | some cc =>
      rw [e1] at hd
      cases hd
      have hi : i < z.cps.size := by
        have := (List.getElem?_eq_some_iff.mp e1).1
        simpa using this
      refine ⟨W.goes i H2 hi trivial, fun y H3 hy => ?_⟩
      obtain ⟨rfl, c', hc, rfl⟩ := W.yields i H2 y H3 hi trivial hy
      rw [Array.getElem?_toList] at e1
      rw [e1] at hc; cases hc
      exact ⟨.refl, s2, .str _⟩
  stop := fun m2 H2 S2 e s2 g => by
    have W := L2.walk_str (z := z)
    rw [List.length_map, Array.length_toList]
    exact W.stops H2 trivial
theorem along_rng {m : MM} {H : Hp} {lo : Int} {n : Nat} {g : Gd} : Along X c (L2.Itr lo n) (rng lo n 1) g m H where
  go := fun i d m2 H2 S2 e s2 g hd => by
    unfold rng at hd
    rw [List.getElem?_map] at hd
    cases e1 : (List.range n)[i]? with
    | none => rw [e1] at hd; cases hd
    | some j =>
      rw [e1] at hd
      cases hd
      obtain ⟨hi, hj⟩ := List.getElem?_eq_some_iff.mp e1
      rw [List.getElem_range] at hj
      subst hj
      rw [List.length_range] at hi
      refine ⟨hi, fun y H3 hy => ?_⟩
      obtain ⟨rfl, rfl⟩ := hy
      show _ ∧ _ ∧ RV X.K c m2 _ (.int (lo + (i : Nat) * 1)) _
      rw [Int.mul_one]
      exact ⟨.refl, s2, .int _⟩
  stop := fun m2 H2 S2 e s2 g => by
    unfold rng
    rw [List.length_map, List.length_range]
    exact Nat.le_refl n
theorem pi_seqE {tg a : Expr} {fa : Env → Store → R D} (ha : PE X a (tE X.K c W fa)) : PI X tg a (tI X c W fun e S => (fa e S).bind fun x S1 => (R.ofO (itemsOf S1 x) S1).bind fun l S2 => .ok (l, gdOf S2 x) S2) := by
  refine PI.imp (pi_any ha) fun σ H R h => ?_
  obtain ⟨e, m, S, re, s, h⟩ := h
  refine ⟨e, m, S, re, s, h.bind.imp fun x S1 m1 H1 e1 s1 h1 v rv => ?_⟩
  obtain ⟨l, hl, h1⟩ := h1.bind.ofO s1
  have h1 := h1.now s1
  unfold itemsOf at hl
  split at hl
  · cases rv
    cases hl
    exact .inr (.inr ⟨_, rfl, h1 _ along_str⟩)
  · unfold seqA at hl
    split at hl
    · cases hl
      obtain ⟨a, vs, rfl, h2, h3⟩ := seqT_sq (x := .tup _) rv rfl
      exact .inr (.inl ⟨a, rfl, ⟨vs, h2⟩, h1 _ (along_tup s1 h2 h3)⟩)
    · obtain ⟨a, vs, rfl, h2, h3⟩ := seqL_sq s1 rv hl
      exact .inl ⟨a, rfl, ⟨vs, h2⟩, h1 _ (along_list s1 rv hl fun _ g => g)⟩
theorem pi_rng1E {tg a : Expr} {fa : Env → Store → R D} {p pos : Pos} (hg : L2.Gl X "range") (hm : X.mg "range" = none) (ha : PE X a (tE X.K c W fa)) (hs : starEach [a] X.env = [(false, eval a X.env)]) :
    PI X tg (.Call (.Name "range" p) [a] [] pos) (tI X c W fun e S => (fa e S).bind fun x S1 => match x with
      | .int j => if -(2 ^ 62) ≤ j ∧ j < 2 ^ 62 then .ok (rng 0 j.toNat 1, []) S1 else .bad
      | _ => .bad) := by
  refine PI.imp (L2.pi_range1 hg hm (L2.pa_cons ha L2.pa_nil hs) hs) fun σ H R h => ?_
  obtain ⟨e, m, S, re, s, h⟩ := h
  refine ⟨e, m, S, re, s, h.bind.imp fun x S1 m1 H1 e1 s1 h1 v rv => ?_⟩
  split at h1
  · cases rv
    obtain ⟨hz, h1⟩ := Aft.if_ h1
    exact ⟨_, rfl, hz.1, hz.2, h1.now s1 _ along_rng⟩
  · exact h1.elim
theorem pi_rng2E {tg a b : Expr} {fa fb : Env → Store → R D} {p pos : Pos} (hg : L2.Gl X "range") (hm : X.mg "range" = none) (ha : PE X a (tE X.K c W fa)) (hb : PE X b (tE X.K c W fb)) (hs : starEach [a, b] X.env = [(false, eval a X.env), (false, eval b X.env)]) (hs2 : starEach [b] X.env = [(false, eval b X.env)]) :
    PI X tg (.Call (.Name "range" p) [a, b] [] pos) (tI X c W fun e S => (fa e S).bind fun x S1 => (fb e S1).bind fun y S2 => match x, y with
      | .int i, .int j => if -(2 ^ 62) ≤ i ∧ i < 2 ^ 62 ∧ -(2 ^ 62) ≤ j ∧ j < 2 ^ 62 then .ok (rng i (j - i).toNat 1, []) S2 else .bad
      | _, _ => .bad) := by
  refine PI.imp (L2.pi_range2 hg hm (L2.pa_cons ha (L2.pa_cons hb L2.pa_nil hs2) (by rw [hs, hs2])) hs hs2) fun σ H R h => ?_
  obtain ⟨e, m, S, re, s, h⟩ := h
  refine ⟨e, m, S, re, s, h.bind.imp fun x S1 m1 H1 e1 s1 h1 u ru => ⟨e, m1, S1, re.mono s e1, s1, h1.bind.imp fun y S2 m2 H2 e2 s2 h2 v rv => ?_⟩⟩
  split at h2
  · cases ru; cases rv
    obtain ⟨hz, h2⟩ := Aft.if_ h2
    exact ⟨_, _, rfl, hz, h2.now s2 _ along_rng⟩
  · exact h2.elim
theorem along_enum {m : MM} {H : Hp} {S : Store} {x : D} {a : Addr} {l : List D} {g : Gd} (s : Sim X.K c m H S) (r : RV X.K c m H x (.ref a)) (h : seqL S x = some l) (hg : ∀ S2, gdOk S2 g → gdOk S2 (gdOf S x)) : Along X c (L2.Ite X.K a) (enumF 0 l) g m H := by
  have el : ∀ (l : List D) (n : Nat), (enumF n l).length = l.length := by
    intro l
    induction l with
    | nil => intro n; rfl
    | cons d r ih => intro n; simp [enumF, ih]
  have eg : ∀ (l : List D) (n i : Nat), (enumF n l)[i]? = l[i]?.map fun d => .tup [.int ((n + i : Nat) : Int), d] := by
    intro l
    induction l with
    | nil => intro n i; simp [enumF]
    | cons d r ih =>
      intro n i
      cases i with
      | zero => simp [enumF]
      | succ i =>
        simp only [enumF, List.getElem?_cons_succ]
        rw [ih, show n + 1 + i = n + (i + 1) by omega]
  refine ⟨fun i d m2 H2 S2 e s2 g hd => ?_, fun m2 H2 S2 e s2 g => ?_⟩
  · obtain ⟨a', vs, e1, h1, h2⟩ := guard_sq s r h e s2 (hg _ g)
    cases e1
    rw [eg, Nat.zero_add] at hd
    cases e1 : l[i]? with
    | none => rw [e1] at hd; cases hd
    | some d' =>
      rw [e1] at hd
      cases hd
      obtain ⟨v, hv, rv⟩ := h2.getD e1
      refine ⟨⟨vs, v, h1, hv⟩, fun y H3 hy => ?_⟩
      obtain ⟨T, x', rfl, hT, rfl, hy⟩ := hy
      have := hy vs h1
      rw [hv] at this; cases this
      exact ⟨Ext.fresh hT s2, s2.fresh hT, RV.newTup s2 hT (.cons (.int _) (.cons rv .nil))⟩
  · obtain ⟨a', vs, e1, h1, h2⟩ := guard_sq s r h e s2 (hg _ g)
    cases e1
    exact ⟨vs, h1, by rw [el, h2.length]; exact Nat.le_refl _⟩
end
end Mn

/-! Mn7: targets, comprehensions, loops. -/
namespace Mn
open PySem PySem.Spec PyProof.Rows
open L2 (V Hp HO Cx SqL SqT Rd St VK WX XK TE TA TS TT TG TI PE PA PS PSs PT PG PI Ends upd upd_same upd_ne OpR R2 Inv Dp DpAll UnR CallR Walk)

/-! ### targets -/
def setsS : List Nat → List V → L2.St → L2.St
  | i :: r, v :: vs, σ => setsS r vs (σ.set i (some v))
  | _, _, σ => σ
section
variable {X : Cx} {c : Cfg} {W : WX}
theorem asgs_env {m : MM} {H : Hp} : ∀ {is : List Nat} {ds : List D} {vs : List V} {e e' : Env} {σ : L2.St}, asgs is ds e = some e' → RVs X.K c m H ds vs → EnvR X.K c m H e σ → EnvR X.K c m H e' (setsS is vs σ) ∧ is.length = vs.length
  | [], _, _, _, _, _, h, .nil, re => by
    simp only [asgs, Option.some.injEq] at h
    subst h
    exact ⟨re, rfl⟩
  | [], _, _, _, _, _, h, .cons _ _, re => by simp [asgs] at h
  | i :: r, _, _, _, _, _, h, .nil, re => by simp [asgs] at h
  | i :: r, _, _, _, _, _, h, .cons h1 h2, re => by
    simp only [asgs] at h
    obtain ⟨h3, h4⟩ := asgs_env h h2 (re.set h1 i)
    exact ⟨h3, by simp [h4]⟩
theorem wipe_set {own : List Nat} {i : Nat} (hi : i ∈ own) : ∀ (σ : L2.St) (v : Option V), L2.wipe (σ.set i v) own = L2.wipe σ own := by
  induction own with
  | nil => cases hi
  | cons o r ih =>
    intro σ v
    unfold L2.wipe
    by_cases h : i ∈ r
    · rw [ih h]
    · have e : i = o := (List.mem_cons.mp hi).resolve_right h
      subst e
      have z : ∀ (r : List Nat) (σ : L2.St), i ∉ r → L2.wipe (σ.set i v) r = (L2.wipe σ r).set i v := by
        intro r
        induction r with
        | nil => intro σ _; rfl
        | cons a r ih2 =>
          intro σ hr
          unfold L2.wipe
          rw [ih2 σ fun z => hr (List.mem_cons_of_mem _ z)]
          rw [List.set_comm]
          exact fun z => hr (by rw [z]; exact List.mem_cons_self)
      rw [z r σ h, List.set_set]
theorem wipe_none : ∀ (own : List Nat) (σ : L2.St) (i : Nat), i ∈ own → (L2.wipe σ own).set i none = L2.wipe σ own
  | [], _, _, h => by cases h
  | o :: r, σ, i, h => by
    show ((L2.wipe σ r).set o none).set i none = (L2.wipe σ r).set o none
    by_cases e : i = o
    · subst e; rw [List.set_set]
    · have hr : i ∈ r := (List.mem_cons.mp h).resolve_left e
      rw [List.set_comm _ _ (fun z => e z.symm), wipe_none r σ i hr]
theorem wipe_idem' : ∀ (own r : List Nat) (σ : L2.St), (∀ i ∈ r, i ∈ own) → L2.wipe (L2.wipe σ own) r = L2.wipe σ own
  | _, [], _, _ => rfl
  | own, o :: r, σ, h => by
    show (L2.wipe (L2.wipe σ own) r).set o none = _
    rw [wipe_idem' own r σ fun i hi => h i (List.mem_cons_of_mem _ hi)]
    exact wipe_none own σ o (h o List.mem_cons_self)
theorem wipe_idem (own : List Nat) (σ : L2.St) : L2.wipe (L2.wipe σ own) own = L2.wipe σ own := wipe_idem' own own σ fun _ h => h
theorem wipe_sets {own : List Nat} : ∀ (is : List Nat) (vs : List V) (σ : L2.St), (∀ i ∈ is, i ∈ own) → L2.wipe (setsS is vs σ) own = L2.wipe σ own
  | [], _, _, _ => rfl
  | _ :: _, [], _, _ => rfl
  | i :: r, v :: vs, σ, h => by
    show L2.wipe (setsS r vs (σ.set i (some v))) own = _
    rw [wipe_sets r vs _ fun j hj => h j (List.mem_cons_of_mem _ hj)]
    exact wipe_set (h i List.mem_cons_self) σ _
def Tg.slots : Tg → List Nat
  | .nm i => [i]
  | .tp is => is
/-- a target's rule: what it asks of a value that is the datum -/
def TgOk (X : Cx) (c : Cfg) (tg : Tg) (g : TG) : Prop := ∀ (m : MM) (H : Hp) (d : D) (x : V) (e e' : Env) (σ : L2.St) (Q : L2.St → Hp → Prop), asg tg d e = some e' → RV X.K c m H d x → EnvR X.K c m H e σ →
  (∀ σ', EnvR X.K c m H e' σ' → (∀ own : List Nat, (∀ i ∈ tg.slots, i ∈ own) → L2.wipe σ' own = L2.wipe σ own) → Q σ' H) → g x σ H Q
theorem tg_nm (i : Nat) : TgOk X c (.nm i) (L2.gName i) := fun m H d x e e' σ Q h r re q => by
  simp only [asg, Option.some.injEq] at h
  subst h
  exact q _ (re.set r i) fun own ho => wipe_set (ho i (by simp [Tg.slots])) σ _
def gNames : List Nat → L2.TGs
  | [] => L2.gNil
  | i :: r => L2.gCons (L2.gName i) (gNames r)
theorem gNames_of : ∀ (is : List Nat) (vs : List V) (σ : L2.St) (H : Hp) (Q : L2.St → Hp → Prop), is.length = vs.length → Q (setsS is vs σ) H → gNames is vs σ H Q
  | [], [], _, _, _, _, q => ⟨rfl, q⟩
  | i :: r, v :: vs, σ, H, Q, h, q => ⟨v, vs, rfl, gNames_of r vs _ H Q (by simpa using h) q⟩
  | [], _ :: _, _, _, _, h, _ => by simp at h
  | _ :: _, [], _, _, _, h, _ => by simp at h
theorem tg_tp (is : List Nat) : TgOk X c (.tp is) (L2.gTup X.K is.length (gNames is)) := fun m H d x e e' σ Q h r re q => by
  simp only [asg] at h
  split at h
  · rename_i l
    obtain ⟨a, vs, rfl, h1, h2⟩ := seqT_sq (x := .tup l) r rfl
    obtain ⟨h3, h4⟩ := asgs_env h h2 re
    exact ⟨a, vs, rfl, h1, h4.symm, gNames_of is vs σ H Q h4 (q _ h3 fun own ho => wipe_sets is vs σ ho)⟩
  · cases h

/-! ### comprehensions -/
theorem compA_nil {α : Type} {g : Gd} {tg : Tg} {fc : Env → Store → R Bool} {ft : Env → Store → R D} {e0 : Env} {acc : List D} {S : Store} : compA g tg fc ft e0 [] acc S = if gdOk S g then .ok acc S else .bad := rfl
theorem lc_read {own : List Nat} {tg : Tg} {gt : TG} {v : Bool} {fi : Env → Store → R (List D × Gd)} {fc ft : Env → Store → R D} (ht : TgOk X c tg gt) (ho : ∀ i ∈ tg.slots, i ∈ own) :
    ∀ σ H Q, tE X.K c W (fun e S => (fi e S).bind fun w S1 => (compA w.2 tg (fun e S => tru (fc e S)) ft (wipe e own) w.1 [] S1).bind fun l S2 => mkL v l S2) σ H Q →
      L2.tLc (tI X c W fi) gt (tT X.K c (fun _ _ _ _ => False) fc) (tE X.K c (fun _ _ _ _ => False) ft) own σ H Q := by
  rintro σ H Q ⟨e, m, S, re, s, h⟩
  refine ⟨e, m, S, re, s, h.bind.imp fun w S1 m1 H1 e1 s1 h1 J al B hB => ?_⟩
  have re1 := re.mono s e1
  clear h
  obtain ⟨eB, sB⟩ := s1.tohide (o := .lst []) hB
  have h0 := Aft.bind0 h1
  have hBh : B ∉ m1.hid := (s1.none_out hB).2
  refine ⟨fun i n H => n = w.1.length - i ∧ i ≤ w.1.length ∧ ∃ (m2 : MM) (S2 : Store) (acc : List D) (accV : List V), Ext m1 H1 m2 H ∧ Sim X.K c m2 H S2 ∧ B ∈ m2.hid ∧ H B = some (.lst accV) ∧ RVs X.K c m2 H acc accV ∧
      Aft X.K c W σ m1 H1 (compA w.2 tg (fun e S => tru (fc e S)) ft (wipe e own) (w.1.drop i) acc S2) (fun a S1 _ _ => Aft X.K c W σ m1 H1 (mkL v a S1) fun d _ m' H' => ∀ v, RV X.K c m' H' d v → Q v H'),
    ⟨w.1.length, by simp, Nat.zero_le _, m1.hide B, S1, [], [], eB, sB, List.mem_cons_self, upd_same, .nil, h0⟩, ?_⟩
  rintro i n H ⟨rfl, hi, m2, S2, acc, accV, e2, s2, hb, hBv, ra, hA⟩
  by_cases hlt : i < w.1.length
  · rw [List.drop_eq_getElem_cons hlt] at hA
    obtain ⟨hgd, hA⟩ := Aft.if_ (show Aft X.K c W σ m1 H1 (if gdOk S2 w.2 then _ else .bad) _ from hA)
    cases ha : asg tg w.1[i] (wipe e own) with
    | none => rw [ha] at hA; exact hA.elim
    | some e3 =>
      rw [ha] at hA
      dsimp only at hA
      obtain ⟨hgo, hyl⟩ := al.go i w.1[i] m2 H S2 e2 s2 hgd (List.getElem?_eq_getElem hlt)
      refine .inr ⟨hgo, _, fun H' hN => ⟨w.1.length - (i + 1), by omega, hN⟩, fun x H3 hy => ?_⟩
      obtain ⟨e4, s4, rd⟩ := hyl x H3 hy
      have e5 := e2.trans e4
      refine ht m2 H3 w.1[i] x (wipe e own) e3 (L2.wipe σ own) _ ha rd ((re1.mono s1 e5).wipe own) fun σ' re' hw => ⟨?_, ?_⟩
      · rw [hw own ho]
        exact wipe_idem own σ
      · have hc := (Aft.bind0 hA).shift e5
        refine ⟨e3, m2, S2, re', s4, Aft.imp (Aft.bind0 (show Aft X.K c (fun _ _ _ _ => False) σ' m2 H3 (tru (fc e3 S2)) _ from hc.nox)) fun d S5 m5 H5 e6 s5 hd => ?_⟩
        have e7 := e5.trans e6
        have hB5 : H5 B = some (.lst accV) := (e4.trans e6).keep B _ hBv (s2.hid B hb).2 fun ps z => by cases z
        have hb5 : B ∈ m5.hid := (e4.trans e6).hid.1 B hb
        have ra5 := ra.mono s2 (e4.trans e6)
        obtain ⟨b, htr, hd⟩ := (Aft.shift hd e6).ofO s5
        refine ⟨b, htr, ?_⟩
        cases b with
        | false =>
          simp only [Bool.false_eq_true, if_false] at hd ⊢
          exact ⟨(by first | rfl | trivial), hlt, m5, S5, acc, accV, e7, s5, hb5, hB5, ra5, hd⟩
        | true =>
          simp only [if_true] at hd ⊢
          refine ⟨e3, m5, S5, re'.mono s4 e6, s5, Aft.imp ((Aft.bind0 hd).shift e7).nox fun y S8 m8 H8 e8 s8 hz yv ry => ?_⟩
          obtain ⟨hzl, hz⟩ := Aft.if_ hz
          have hB8 : H8 B = some (.lst accV) := e8.keep B _ hB5 (s5.hid B hb5).2 fun ps z => by cases z
          have hb8 : B ∈ m8.hid := e8.hid.1 B hb5
          have ra8 := ra5.mono s5 e8
          refine ⟨accV, hB8, by rw [← ra8.length]; exact hzl, (by first | rfl | trivial), hlt, m8, S8, acc ++ [y], accV ++ [yv], (e7.trans e8).other hB (by rw [hB8]; simp), s8.other hb8 hB8, hb8, upd_same, ?_, hz⟩
          have hT : ∀ vs, H8 B ≠ some (.tup vs) ∧ ∀ o', H8 B ≠ some (.frz o' (.tup vs)) := fun us => ⟨by rw [hB8]; simp, fun o' => by rw [hB8]; simp⟩
          exact (ra8.append (.cons ry .nil)).other hb8 hT
  · have ei : i = w.1.length := by omega
    subst ei
    rw [List.drop_length] at hA
    obtain ⟨hgd, hA⟩ := Aft.if_ (show Aft X.K c W σ m1 H1 (if gdOk S2 w.2 then .ok acc S2 else .bad) _ from hA)
    refine .inl ⟨al.stop m2 H S2 e2 s2 hgd, ?_⟩
    have hh : ∀ b ∈ m1.hid, b ∈ m2.hid := e2.hid.1
    have e9 : Ext m1 H1 ⟨m2.ix, m1.hid⟩ H := ⟨e2.pre, ⟨fun _ h => h, fun _ h => .inl h⟩, e2.keep, e2.stay⟩
    have hA := hA _ _ e9 (s2.unhide hh)
    dsimp only at hA
    unfold mkL at hA
    obtain ⟨hz, hA⟩ := Aft.if_ hA
    · cases v with
      | true => exact hA _ _ e9 (s2.unhide hh) _ (.lst (.inl ⟨.inl hBv, (s2.hid B hb).2, hBh⟩) (ra.unhide hh))
      | false =>
        obtain ⟨r, hr1, hr2⟩ := e2.pre
        have e10 : Ext m1 H1 ⟨m2.ix ++ [B], m1.hid⟩ H := ⟨⟨r ++ [B], by rw [hr1]; simp, fun a h => by
          rcases List.mem_append.mp h with h | h
          · exact hr2 a h
          · rw [List.mem_singleton.mp h]; exact hB⟩, ⟨fun _ h => h, fun _ h => .inl h⟩, e2.keep, e2.stay⟩
        refine hA _ _ e10 (s2.adopt hb hh hBh hBv ra) _ (.ref ?_)
        show (m2.ix ++ [B])[S2.length]? = some B
        rw [List.getElem?_append_right (by rw [s2.len]; exact Nat.le_refl _), s2.len]
        simp
end
end Mn

/-! Mn8: statements. -/
namespace Mn
open PySem PySem.Spec PyProof.Rows
open L2 (V Hp HO Cx SqL SqT Rd St VK WX XK TE TA TS TT TG TI PE PA PS PSs PT PG PI Ends upd upd_same upd_ne OpR R2 Inv Dp DpAll UnR CallR Walk)

/-- the wish leans on no slot -/
def CW (W : WX) : Prop := ∀ cls dx σ σ' H, W cls dx σ H → W cls dx σ' H
def FlowR (K : Frag) (c : Cfg) (D : Ends) (r : F) (m : MM) (H : Hp) : Prop := match r with
  | .nx e => ∀ σ, EnvR K c m H e σ → D.nx σ H
  | .rt d => ∀ v, RV K c m H d v → D.rt v H
  | .bk e => ∀ σ, EnvR K c m H e σ → D.bk σ H
  | .ct e => ∀ σ, EnvR K c m H e σ → D.ct σ H
def tS (K : Frag) (c : Cfg) (W : WX) (f : Env → Store → R F) : TS := fun D σ H => ∃ (e : Env) (m : MM) (S : Store), EnvR K c m H e σ ∧ Sim K c m H S ∧ Aft K c W σ m H (f e S) fun r _ m' H' => FlowR K c D r m' H'
section
variable {X : Cx} {c : Cfg} {W : WX}
theorem Aft.cst {α : Type} {K : Frag} {m : MM} {H : Hp} {σ σ' : L2.St} {r : R α} {k : α → Store → MM → Hp → Prop} (hW : CW W) (h : Aft K c W σ m H r k) : Aft K c W σ' m H r k := by
  cases r with
  | ok a S => exact h
  | exc x S => exact fun m' H' cls dx e s r => hW _ _ _ _ _ (h m' H' cls dx e s r)
  | bad => exact h

/-! ### blocks -/
theorem pss_nilE : PSs X [] (tS X.K c W fun e S => .ok (.nx e) S) := by
  refine PSs.imp L2.pss_nil fun D σ H h => ?_
  obtain ⟨e, m, S, re, s, h⟩ := h
  exact h.now s σ re
theorem pss_consE {st : Stmt} {rest : List Stmt} {f g : Env → Store → R F} (hW : CW W) (h1 : PS X st (tS X.K c W f)) (h2 : PSs X rest (tS X.K c W g)) :
    PSs X (st :: rest) (tS X.K c W fun e S => (f e S).bind fun r S1 => match r with
      | .nx e1 => g e1 S1
      | r => .ok r S1) := by
  refine PSs.imp (L2.pss_cons h1 h2) fun D σ H h => ?_
  obtain ⟨e, m, S, re, s, h⟩ := h
  refine ⟨e, m, S, re, s, h.bind.imp fun r S1 m1 H1 e1 s1 h1 => ?_⟩
  cases r with
  | nx e2 => exact fun σ' re' => ⟨e2, m1, S1, re', s1, Aft.cst hW h1⟩
  | rt d => exact (show Aft X.K c W σ m1 H1 (.ok (F.rt d) S1) _ from h1).now s1
  | bk d => exact (show Aft X.K c W σ m1 H1 (.ok (F.bk d) S1) _ from h1).now s1
  | ct d => exact (show Aft X.K c W σ m1 H1 (.ok (F.ct d) S1) _ from h1).now s1

/-! ### small ones -/
theorem ps_setE {i : Nat} {x : Str} {a : Expr} {fa : Env → Store → R D} {pos pos' : Pos} (hN : X.N.Nodup) (hi : X.N[i]? = some x) (hx : L2.Loc X.env.scope x) (ha : PE X a (tE X.K c W fa)) (hs : swapsWith a (some (.Name x pos')) pos.line X.env = pure false)
    (hf : X.fn x = true ∨ X.env.scope.names.lookup x = some .local) :
    PS X (.Assign [.Name x pos'] a pos) (tS X.K c W fun e S => (fa e S).bind fun d S1 => .ok (.nx (e.set i (some d))) S1) := by
  refine PS.imp (L2.ps_set (i := i) hN hi hx ha hs hf) fun D σ H h => ?_
  obtain ⟨e, m, S, re, s, h⟩ := h
  exact ⟨e, m, S, re, s, h.bind.imp fun d S1 m1 H1 e1 s1 h1 v rv => (h1.now s1) _ ((re.mono s e1).set rv i)⟩
theorem set_of {i : Nat} {fa : Env → Store → R D} {te : TE} (ht : ∀ σ H Q, tE X.K c W fa σ H Q → te σ H Q) :
    ∀ D σ H, tS X.K c W (fun e S => (fa e S).bind fun d S1 => .ok (.nx (e.set i (some d))) S1) D σ H → L2.tAsg te (L2.gName i) D σ H := by
  rintro D σ H ⟨e, m, S, re, s, h⟩
  exact ht _ _ _ ⟨e, m, S, re, s, h.bind.imp fun d S1 m1 H1 e1 s1 h1 v rv => (h1.now s1) _ ((re.mono s e1).set rv i)⟩
theorem unp_of {tg : Tg} {gt : TG} {fa : Env → Store → R D} (ht : TgOk X c tg gt) :
    ∀ D σ H, tS X.K c W (fun e S => (fa e S).bind fun x S1 => match asg tg x e with
      | some e1 => .ok (.nx e1) S1
      | none => .bad) D σ H → L2.tAsg (tE X.K c W fa) gt D σ H := by
  rintro D σ H ⟨e, m, S, re, s, h⟩
  refine ⟨e, m, S, re, s, h.bind.imp fun x S1 m1 H1 e1 s1 h1 v rv => ?_⟩
  cases ha : asg tg x e with
  | none => rw [ha] at h1; exact h1.elim
  | some e2 =>
    rw [ha] at h1
    exact ht m1 H1 x v e e2 σ _ ha rv (re.mono s e1) fun σ' re' _ => h1.now s1 σ' re'
theorem sets_of {fa fi fb : Env → Store → R D} :
    ∀ D σ H, tS X.K c W (fun e S => (fb e S).bind fun y S1 => (fa e S1).bind fun x S2 => (fi e S2).bind fun k S3 => (setA x k y S3).bind fun _ S4 => .ok (.nx e) S4) D σ H →
      L2.tAsg (tE X.K c W fb) (L2.gSub (tE X.K c W fa) (tE X.K c W fi) L2.rSetL) D σ H := by
  rintro D σ H ⟨e, m, S, re, s, h⟩
  refine ⟨e, m, S, re, s, h.bind.imp fun y S1 m1 H1 e1 s1 h1 w rw_ => ⟨e, m1, S1, re.mono s e1, s1, h1.bind.imp fun x S2 m2 H2 e2 s2 h2 u ru => ⟨e, m2, S2, (re.mono s e1).mono s1 e2, s2, h2.bind.imp fun k S3 m3 H3 e3 s3 h3 i ri => ?_⟩⟩⟩
  refine set_rv s3 (ru.mono s2 e3) ri ((rw_.mono s1 e2).mono s2 e3) (h3.bind.imp fun _ S4 m4 H4 e4 s4 h4 => ?_)
  exact h4.now s4 σ ((((re.mono s e1).mono s1 e2).mono s2 e3).mono s3 e4)
theorem ps_exprE {a : Expr} {fa : Env → Store → R D} {pos : Pos} (ha : PE X a (tE X.K c W fa)) (hs : swapsWith a none pos.line X.env = pure false) : PS X (.Expr a pos) (tS X.K c W fun e S => (fa e S).bind fun _ S1 => .ok (.nx e) S1) := by
  refine PS.imp (L2.ps_expr ha hs) fun D σ H h => ?_
  obtain ⟨e, m, S, re, s, h⟩ := h
  exact ⟨e, m, S, re, s, h.bind.imp fun d S1 m1 H1 e1 s1 h1 v rv => (h1.now s1) σ (re.mono s e1)⟩
theorem ps_retE {a : Expr} {fa : Env → Store → R D} {pos : Pos} (ha : PE X a (tE X.K c W fa)) : PS X (.Return (some a) pos) (tS X.K c W fun e S => (fa e S).bind fun d S1 => .ok (.rt d) S1) := by
  refine PS.imp (L2.ps_ret ha) fun D σ H h => ?_
  obtain ⟨e, m, S, re, s, h⟩ := h
  exact ⟨e, m, S, re, s, h.bind.imp fun d S1 m1 H1 e1 s1 h1 v rv => (h1.now s1) v rv⟩
theorem ps_retNE {pos : Pos} : PS X (.Return none pos) (tS X.K c W fun _ S => .ok (.rt .non) S) := by
  refine PS.imp L2.ps_retN fun D σ H h => ?_
  obtain ⟨e, m, S, re, s, h⟩ := h
  exact h.now s _ .non
theorem ps_passE {pos : Pos} : PS X (.Pass pos) (tS X.K c W fun e S => .ok (.nx e) S) := by
  refine PS.imp L2.ps_pass fun D σ H h => ?_
  obtain ⟨e, m, S, re, s, h⟩ := h
  exact h.now s _ re
theorem ps_brkE {pos : Pos} : PS X (.Break pos) (tS X.K c W fun e S => .ok (.bk e) S) := by
  refine PS.imp L2.ps_break fun D σ H h => ?_
  obtain ⟨e, m, S, re, s, h⟩ := h
  exact h.now s _ re
theorem ps_contE {pos : Pos} : PS X (.Continue pos) (tS X.K c W fun e S => .ok (.ct e) S) := by
  refine PS.imp L2.ps_continue fun D σ H h => ?_
  obtain ⟨e, m, S, re, s, h⟩ := h
  exact h.now s _ re
theorem ps_iteE {d : Expr} {a b : List Stmt} {fc : Env → Store → R D} {fa fb : Env → Store → R F} {pos : Pos} (hW : CW W) (hc : PT X d (tT X.K c W fc)) (ha : PSs X a (tS X.K c W fa)) (hb : PSs X b (tS X.K c W fb)) :
    PS X (.If d a b pos) (tS X.K c W fun e S => (tru (fc e S)).bind fun t S1 => if t = true then fa e S1 else fb e S1) := by
  refine PS.imp (L2.ps_if hc ha hb) fun D σ H h => ?_
  obtain ⟨e, m, S, re, s, h⟩ := h
  refine ⟨e, m, S, re, s, (Aft.bind h).bind.imp fun x S1 m1 H1 e1 s1 h1 => ?_⟩
  obtain ⟨b, hb, h1⟩ := h1.ofO s1
  refine ⟨b, hb, ?_⟩
  cases b with
  | true =>
    simp only [if_true] at h1 ⊢
    exact ⟨e, m1, S1, re.mono s e1, s1, h1⟩
  | false =>
    simp only [Bool.false_eq_true, if_false] at h1 ⊢
    exact ⟨e, m1, S1, re.mono s e1, s1, h1⟩

/-! ### op= -/
def rAug (X : Cx) (op : Operator) : L2.TIp := match op with
  | .Add => fun x y H Q => L2.rI0 (fun i j => .int (i + j)) x y H Q ∨ (∃ i j, x = .str i ∧ y = .str j ∧ i.length + j.length ≤ sizeLine ∧ Q (.str (i ++ j)) H)
  | .Sub => L2.rI0 fun i j => .int (i - j)
  | _ => fun _ _ _ _ => False
theorem or_aug (X : Cx) (op : Operator) : L2.PIp X op (rAug X op) := by
  cases op
  case Add => exact L2.iop_add.or L2.iop_add_str
  case Sub => exact L2.iop_sub
  all_goals exact fun _ _ _ _ _ _ _ _ _ _ _ _ h => h.elim
theorem ps_augE {i : Nat} {x : Str} {a : Expr} {fa : Env → Store → R D} {op : Operator} {pos pos' : Pos} (hN : X.N.Nodup) (hi : X.N[i]? = some x) (hx : L2.Loc X.env.scope x) (ha : PE X a (tE X.K c W fa)) (hf : X.fn x = true ∨ X.env.scope.names.lookup x = some .local) :
    PS X (.AugAssign (.Name x pos') op a pos) (tS X.K c W fun e S => match e[i]? with
      | some (some x) => (fa e S).bind fun y S1 => (augA op x y S1).bind fun z S2 => .ok (.nx (e.set i (some z))) S2
      | _ => .bad) := by
  refine PS.imp (L2.ps_aug (i := i) hN hi hx ha (or_aug X op) hf) fun D σ H h => ?_
  obtain ⟨e, m, S, re, s, h⟩ := h
  dsimp only at h
  split at h
  · rename_i d hd
    obtain ⟨v, h1, rv⟩ := re.at_ _ _ hd
    refine ⟨v, h1, e, m, S, re, s, h.bind.imp fun y S1 m1 H1 e1 s1 h2 w rw_ => ?_⟩
    have rv1 := rv.mono s e1
    have re1 := re.mono s e1
    clear h re
    have h3 := h2.bind
    unfold augA at h3
    split at h3
    · cases rv1; cases rw_
      exact .inl ⟨_, _, rfl, rfl, (h3.now s1).now s1 _ (re1.set (.int _) i)⟩
    · cases rv1; cases rw_
      exact ⟨_, _, rfl, rfl, (h3.now s1).now s1 _ (re1.set (.int _) i)⟩
    · cases rv1; cases rw_
      obtain ⟨hz, h3⟩ := Aft.if_ h3
      exact .inr ⟨_, _, rfl, rfl, hz, (h3.now s1).now s1 _ (re1.set (.str _) i)⟩
    · exact h3.elim
  · exact h.elim

/-! ### loops -/
theorem ps_forE {tg iter : Expr} {body : List Stmt} {tgE : Tg} {gt : TG} {fi : Env → Store → R (List D × Gd)} {fb : Env → Store → R F} {pos : Pos} (hW : CW W) (hp : PassesOwn (model X.prog X.w) X.A X.env X.xe) (hc : X.calm = true) (hi : PI X tg iter (tI X c W fi)) (hg : PG X tg gt)
    (ht : TgOk X c tgE gt) (hb : PSs X body (tS X.K c W fb)) (hs : ∀ x, foldedSetIterable iter X.env x = pure x) :
    PS X (.For tg iter body [] pos) (tS X.K c W fun e S => (fi e S).bind fun w S1 => forA w.2 tgE fb w.1 e S1) := by
  refine PS.imp (L2.ps_for hp hc hi hg hb hs) fun D σ H h => ?_
  obtain ⟨e, m, S, re, s, h⟩ := h
  refine ⟨e, m, S, re, s, h.bind.imp fun w S1 m1 H1 e1 s1 h1 J al => ?_⟩
  have re1 := re.mono s e1
  clear h
  refine ⟨fun i n σ' H' => n = w.1.length - i ∧ i ≤ w.1.length ∧ ∃ (e2 : Env) (m2 : MM) (S2 : Store), EnvR X.K c m2 H' e2 σ' ∧ Ext m1 H1 m2 H' ∧ Sim X.K c m2 H' S2 ∧ Aft X.K c W σ m2 H' (forA w.2 tgE fb (w.1.drop i) e2 S2) (fun r _ m' H' => FlowR X.K c D r m' H'),
    ⟨w.1.length, by simp, Nat.zero_le _, e, m1, S1, re1, .refl, s1, h1⟩, ?_⟩
  rintro i n σ2 H2 ⟨rfl, hi, e2, m2, S2, re2, x2, s2, hA⟩
  by_cases hlt : i < w.1.length
  · rw [List.drop_eq_getElem_cons hlt] at hA
    obtain ⟨hgd, hA⟩ := Aft.if_ (show Aft X.K c W σ m2 H2 (if gdOk S2 w.2 then _ else .bad) _ from hA)
    cases ha : asg tgE w.1[i] e2 with
    | none => rw [ha] at hA; exact hA.elim
    | some e3 =>
      rw [ha] at hA
      dsimp only at hA
      obtain ⟨hgo, hyl⟩ := al.go i w.1[i] m2 H2 S2 x2 s2 hgd (List.getElem?_eq_getElem hlt)
      refine .inr ⟨hgo, _, fun σ' H' hN => ⟨w.1.length - (i + 1), by omega, hN⟩, fun x H3 hy => ?_⟩
      obtain ⟨e4, s4, rd⟩ := hyl x H3 hy
      refine ht m2 H3 w.1[i] x e2 e3 σ2 _ ha rd (re2.mono s2 e4) fun σ' re' _ => ⟨e3, m2, S2, re', s4, Aft.cst (σ := σ) hW ?_⟩
      refine Aft.imp ((Aft.bind hA).shift e4) fun r S5 m5 H5 e5 s5 h5 => ?_
      have x5 := (x2.trans e4).trans e5
      cases r with
      | nx e6 => exact fun σ6 re6 => ⟨rfl, hlt, e6, m5, S5, re6, x5, s5, h5⟩
      | ct e6 => exact fun σ6 re6 => ⟨rfl, hlt, e6, m5, S5, re6, x5, s5, h5⟩
      | bk e6 => exact fun σ6 re6 => (show Aft X.K c W σ m5 H5 (.ok (F.nx e6) S5) _ from h5).now s5 σ6 re6
      | rt d => exact fun v rv => (show Aft X.K c W σ m5 H5 (.ok (F.rt d) S5) _ from h5).now s5 v rv
  · have ei : i = w.1.length := by omega
    subst ei
    rw [List.drop_length] at hA
    obtain ⟨hgd, hA⟩ := Aft.if_ (show Aft X.K c W σ m2 H2 (if gdOk S2 w.2 then .ok (F.nx e2) S2 else .bad) _ from hA)
    exact .inl ⟨al.stop m2 H2 S2 x2 s2 hgd, hA.now s2 σ2 re2⟩
theorem ps_whlE {N : Nat} {t : Expr} {body : List Stmt} {fc : Env → Store → R D} {fb : Env → Store → R F} {pos : Pos} (hW : CW W) (hp : PassesOwn (model X.prog X.w) X.A X.env X.xe) (hc : PT X t (tT X.K c W fc)) (hb : PSs X body (tS X.K c W fb)) :
    PS X (.While t body [] pos) (tS X.K c W fun e S => whileA N (fun e S => tru (fc e S)) fb e S) := by
  refine PS.imp (L2.ps_while hp hc hb) fun D σ H h => ?_
  refine ⟨fun n σ' H' => tS X.K c W (fun e S => whileA n (fun e S => tru (fc e S)) fb e S) D σ' H', ⟨N, h⟩, ?_⟩
  rintro n σ1 H1 ⟨e, m, S, re, s, h⟩
  cases n with
  | zero => exact h.elim
  | succ n =>
    have h := Aft.bind (show Aft X.K c W σ1 m H1 ((tru (fc e S)).bind _) _ from h)
    refine ⟨e, m, S, re, s, (Aft.bind (show Aft X.K c W σ1 m H1 (tru (fc e S)) _ from h)).imp fun x S1 m1 H1 e1 s1 h1 => ?_⟩
    obtain ⟨b, hb, h1⟩ := h1.ofO s1
    refine ⟨b, hb, ?_⟩
    cases b with
    | false =>
      simp only [Bool.false_eq_true, if_false] at h1 ⊢
      exact h1.now s1 _ (re.mono s e1)
    | true =>
      simp only [if_true] at h1 ⊢
      refine ⟨_, fun σ' H' hN => ⟨n, Nat.lt_succ_self n, hN⟩, e, m1, S1, re.mono s e1, s1, Aft.imp (Aft.bind h1) fun r S5 m5 H5 e5 s5 h5 => ?_⟩
      cases r with
      | nx e6 => exact fun σ6 re6 => ⟨e6, m5, S5, re6, s5, Aft.cst hW h5⟩
      | ct e6 => exact fun σ6 re6 => ⟨e6, m5, S5, re6, s5, Aft.cst hW h5⟩
      | bk e6 => exact fun σ6 re6 => (show Aft X.K c W σ1 m5 H5 (.ok (F.nx e6) S5) _ from h5).now s5 σ6 re6
      | rt d => exact fun v rv => (show Aft X.K c W σ1 m5 H5 (.ok (F.rt d) S5) _ from h5).now s5 v rv
end
end Mn

/-! Mn9: a def by its body. -/
namespace Mn
open PySem PySem.Spec PyProof.Rows
open L2 (V Hp HO Cx SqL SqT Rd St VK WX XK TE TA TS TT TG TI PE PA PS PSs PT PG PI Ends upd upd_same upd_ne OpR R2 Inv Dp DpAll UnR CallR Walk)

section
variable {K : Frag} {c : Cfg} {m m' m2 : MM} {H H' H2 : Hp} {S S' : Store}
mutual
theorem RV.blw : ∀ {d : D} {v : V}, RV K c m H d v → below m.ix.length d = true
  | _, _, .non => rfl
  | _, _, .bl b => rfl
  | _, _, .int i => rfl
  | _, _, .str x => rfl
  | _, _, .tup _ t => RVs.blw t
  | _, _, .lst _ t => RVs.blw t
  | _, _, .ref h => by
    simp only [Mn.below, decide_eq_true_eq]
    exact (List.getElem?_eq_some_iff.mp h).1
  | _, _, .fn h => rfl
  | _, _, .cls h => rfl
  | _, _, .ty n => rfl
theorem RVs.blw : ∀ {ds : List D} {vs : List V}, RVs K c m H ds vs → belows m.ix.length ds = true
  | _, _, .nil => rfl
  | _, _, .cons h t => by simp only [belows, RV.blw h, RVs.blw t, Bool.and_self]
end
mutual
theorem RV.sub {n : Nat} (hix : ∀ i, i < n → m2.ix[i]? = m.ix[i]?) (hs : ∀ a ∈ m2.ix, a ∈ m.ix) (hh : ∀ a ∈ m2.hid, a ∈ m.hid) : ∀ {d : D} {v : V}, RV K c m H d v → Mn.below n d = true → RV K c m2 H d v
  | _, _, .non, _ => .non
  | _, _, .bl b, _ => .bl b
  | _, _, .int i, _ => .int i
  | _, _, .str x, _ => .str x
  | _, _, .tup h t, b => .tup h (RVs.sub hix hs hh t b)
  | _, _, .lst h t, b => .lst (by
    rcases h with ⟨h1, h2, h3⟩ | h
    · exact .inl ⟨h1, fun z => h2 (hs _ z), fun z => h3 (hh _ z)⟩
    · exact .inr h) (RVs.sub hix hs hh t b)
  | _, _, .ref h, b => .ref (by
    simp only [Mn.below, decide_eq_true_eq] at b
    rw [hix _ b]
    exact h)
  | _, _, .fn h, _ => .fn h
  | _, _, .cls h, _ => .cls h
  | _, _, .ty n, _ => .ty n
theorem RVs.sub {n : Nat} (hix : ∀ i, i < n → m2.ix[i]? = m.ix[i]?) (hs : ∀ a ∈ m2.ix, a ∈ m.ix) (hh : ∀ a ∈ m2.hid, a ∈ m.hid) : ∀ {ds : List D} {vs : List V}, RVs K c m H ds vs → belows n ds = true → RVs K c m2 H ds vs
  | _, _, .nil, _ => .nil
  | _, _, .cons h t, b => by
    simp only [belows, Bool.and_eq_true] at b
    exact .cons (RV.sub hix hs hh h b.1) (RVs.sub hix hs hh t b.2)
end
theorem RO.blw {o : O} {u : HO} (r : RO K c m H o u) : belowO m.ix.length o = true := by
  cases r with
  | lst h => exact h.blw
theorem RO.sub {n : Nat} (hix : ∀ i, i < n → m2.ix[i]? = m.ix[i]?) (hs : ∀ a ∈ m2.ix, a ∈ m.ix) (hh : ∀ a ∈ m2.hid, a ∈ m.hid) {o : O} {u : HO} (r : RO K c m H o u) (b : belowO n o = true) : RO K c m2 H o u := by
  cases r with
  | lst h => exact .lst (h.sub hix hs hh b)
/-- what is left behind a call: the things that were there -/
theorem Sim.left (s0 : Sim K c m H S) (e : Ext m H m' H') (s : Sim K c m' H' S') (ok : oldOk S S') :
    Ext m H ⟨m.ix, m'.hid⟩ H' ∧ Sim K c ⟨m.ix, m'.hid⟩ H' (S'.take S.length) ∧ (∀ i, i < S.length → m.ix[i]? = m'.ix[i]?) ∧ (∀ a ∈ m.ix, a ∈ m'.ix) := by
  obtain ⟨r, hr1, hr2⟩ := e.pre
  have hix : ∀ i, i < S.length → m.ix[i]? = m'.ix[i]? := fun i hi => by
    rw [hr1, List.getElem?_append_left (by rw [s0.len]; exact hi)]
  have hs : ∀ a ∈ m.ix, a ∈ m'.ix := fun a ha => by rw [hr1]; exact List.mem_append_left _ ha
  refine ⟨⟨⟨[], by simp, by simp⟩, e.hid, e.keep, e.stay⟩, ⟨by simp [s0.len, ok.1], s0.nd, fun a ha => ⟨(s.hid a ha).1, fun z => (s.hid a ha).2 (hs a z)⟩, fun i o h => ?_, s.tab⟩, hix, hs⟩
  have hi : i < S.length := by
    have := (List.getElem?_eq_some_iff.mp h).1
    simp at this
    omega
  rw [List.getElem?_take_of_lt hi] at h
  obtain ⟨a, u, h1, h2, h3⟩ := s.obj i o h
  refine ⟨a, u, by rw [← h1]; exact hix i hi, h2, RO.sub (m := m') (m2 := ⟨m.ix, m'.hid⟩) (n := S.length) hix hs (fun _ h => h) h3 ?_⟩
  rcases ok.2 i hi with z | ⟨o', z, b⟩
  · rw [h] at z
    obtain ⟨a', u', _, _, q3⟩ := s0.obj i o z.symm
    rw [← s0.len]
    exact q3.blw
  · rw [h] at z
    cases z
    exact b
theorem Sim.leftNew {j : Nat} {l : List D} (s0 : Sim K c m H S) (e : Ext m H m' H') (s : Sim K c m' H' S') (ok : oldOk S S') (hj : S.length ≤ j) (hl : S'[j]? = some (.lst l)) (hb : belows S.length l = true) :
    ∃ a, m'.ix[j]? = some a ∧ Ext m H ⟨m.ix ++ [a], m'.hid⟩ H' ∧ Sim K c ⟨m.ix ++ [a], m'.hid⟩ H' (S'.take S.length ++ [.lst l]) := by
  obtain ⟨e1, s1, hix, hs⟩ := s0.left e s ok
  obtain ⟨r, hr1, hr2⟩ := e.pre
  obtain ⟨a, vs, h1, h2, h3⟩ := s.at hl
  have har : a ∈ r := by
    rw [hr1, List.getElem?_append_right (by rw [s0.len]; exact hj)] at h1
    exact List.mem_of_getElem? h1
  have ham : a ∉ m.ix := fun z => by
    have nd := s.nd
    rw [hr1, List.nodup_append] at nd
    exact nd.2.2 a z a har rfl
  have ham' : a ∈ m'.ix := List.mem_of_getElem? h1
  have hahid : a ∉ m'.hid := fun z => (s.hid a z).2 ham'
  have hix2 : ∀ i, i < S.length → (m.ix ++ [a])[i]? = m'.ix[i]? := fun i hi => by
    rw [List.getElem?_append_left (by rw [s0.len]; exact hi)]
    exact hix i hi
  have hs2 : ∀ b ∈ m.ix ++ [a], b ∈ m'.ix := fun b hb => by
    rcases List.mem_append.mp hb with z | z
    · exact hs b z
    · rw [List.mem_singleton.mp z]; exact ham'
  have hlen : (S'.take S.length).length = S.length := by simp [ok.1]
  refine ⟨a, h1, ⟨⟨[a], rfl, by simpa using hr2 a har⟩, e.hid, e.keep, e.stay⟩, by simp [s0.len, ok.1], ?_, fun b hb => ⟨(s.hid b hb).1, fun z => ?_⟩, fun i o h => ?_, s.tab⟩
  · show (m.ix ++ [a]).Nodup
    rw [List.nodup_append]
    exact ⟨s0.nd, by simp, fun x hx y hy => by
      have : y = a := by simpa using hy
      subst this
      exact fun z => ham (z ▸ hx)⟩
  · exact (s.hid b hb).2 (hs2 b z)
  · by_cases hi : i < S.length
    · rw [List.getElem?_append_left (by rw [hlen]; exact hi)] at h
      obtain ⟨b, u, q1, q2, q3⟩ := s1.obj i o h
      refine ⟨b, u, ?_, q2, ?_⟩
      · show (m.ix ++ [a])[i]? = some b
        rw [List.getElem?_append_left (by rw [s0.len]; exact hi)]
        exact q1
      · rw [List.getElem?_take_of_lt hi] at h
        obtain ⟨b', u', p1, p2, p3⟩ := s.obj i o h
        have eb : b = b' := by
          rw [← hix i hi, q1] at p1
          exact Option.some.inj p1
        subst eb
        rw [q2] at p2
        cases p2
        have q4 := q3.blw
        rw [show (⟨m.ix, m'.hid⟩ : MM).ix.length = S.length from s0.len] at q4
        exact RO.sub (m := m') (m2 := ⟨m.ix ++ [a], m'.hid⟩) (n := S.length) hix2 hs2 (fun _ h => h) p3 q4
    · have hi2 : i = S.length := by
        have := (List.getElem?_eq_some_iff.mp h).1
        simp [ok.1] at this
        omega
      subst hi2
      rw [List.getElem?_append_right (by rw [hlen]; exact Nat.le_refl _), hlen] at h
      simp at h
      subst h
      refine ⟨a, _, ?_, h2, .lst (RVs.sub (m := m') (m2 := ⟨m.ix ++ [a], m'.hid⟩) (n := S.length) hix2 hs2 (fun _ h => h) h3 hb)⟩
      show (m.ix ++ [a])[S.length]? = some a
      rw [List.getElem?_append_right (by rw [s0.len]; exact Nat.le_refl _), s0.len]
      simp
theorem fin_ok {W : WX} {σ : L2.St} {md : Md} {d : D} {Q : VK} (s0 : Sim K c m H S) (h : Aft K c W σ m H (fin md S d S') fun d _ m' H' => ∀ v, RV K c m' H' d v → Q v H') (e : Ext m H m' H') (s : Sim K c m' H' S') {v : V} (r : RV K c m' H' d v) : Q v H' := by
  unfold fin at h
  split at h
  · exact h m' H' e s v r
  · obtain ⟨ok, h⟩ := Aft.if_ h
    obtain ⟨e1, s1, hix, hs⟩ := s0.left e s ok
    split at h
    · rename_i x hx
      refine h _ _ e1 s1 v ?_
      unfold outD at hx
      split at hx
      · rename_i hb
        cases hx
        exact RV.sub (m := m') (m2 := ⟨m.ix, m'.hid⟩) (n := S.length) hix hs (fun _ h => h) r hb
      · rename_i hb
        split at hx
        · split at hx
          · split at hx
            · rename_i j _ l hl hbl
              cases hx
              cases r with
              | ref hj =>
                rename_i a
                obtain ⟨a', vs, h1, h2, h3⟩ := s.at hl
                rw [hj] at h1
                cases h1
                refine .lst (.inl ⟨.inl h2, fun z => ?_, fun z => (s.hid _ z).2 (List.mem_of_getElem? hj)⟩) (RVs.sub (m := m') (m2 := ⟨m.ix, m'.hid⟩) (n := S.length) hix hs (fun _ h => h) h3 hbl)
                obtain ⟨i, hi⟩ := List.getElem?_of_mem (show a ∈ m.ix from z)
                have hil : i < S.length := by
                  have := (List.getElem?_eq_some_iff.mp hi).1
                  rw [s0.len] at this
                  exact this
                rw [hix i hil] at hi
                obtain ⟨l1, q1⟩ := List.getElem?_eq_some_iff.mp hi
                obtain ⟨l2, q2⟩ := List.getElem?_eq_some_iff.mp hj
                have eij : i = j := (List.getElem_inj s.nd).mp (q1.trans q2.symm)
                subst eij
                simp only [Mn.below, decide_eq_true_eq] at hb
                exact hb hil
            · cases hx
          · cases hx
        · cases hx
    · exact h.elim
  · obtain ⟨ok, h⟩ := Aft.if_ h
    split at h
    · split at h
      · exact h.elim
      · rename_i j hj
        split at h
        · rename_i l hl
          obtain ⟨hbl, h⟩ := Aft.if_ h
          obtain ⟨a, ha, e1, s1⟩ := s0.leftNew e s ok (by omega) hl hbl
          cases r with
          | ref hj2 =>
            rw [ha] at hj2
            cases hj2
            refine h _ _ e1 s1 _ (.ref ?_)
            show (m.ix ++ [a])[S.length]? = some a
            rw [List.getElem?_append_right (by rw [s0.len]; exact Nat.le_refl _), s0.len]
            simp
        · exact h.elim
    · exact h.elim
theorem leave_ok {W : WX} {σ : L2.St} {md : Md} {r : R F} {Q : VK} (s0 : Sim K c m H S) (h : Aft K c W σ m H (leave md S r) fun d _ m' H' => ∀ v, RV K c m' H' d v → Q v H') :
    Aft K c W σ m H r fun r _ m' H' => FlowR K c { nx := fun _ H' => Q .non H', rt := Q } r m' H' := by
  unfold leave at h
  split at h
  · exact fun m' H' e s v rv => fin_ok s0 h e s rv
  · exact fun m' H' e s σ' _ => fin_ok s0 h e s .non
  · obtain ⟨⟨ok, hb⟩, h⟩ := Aft.if_ h
    intro m' H' cls dx e s rx
    obtain ⟨e1, s1, _, _⟩ := s0.left e s ok
    refine h _ _ cls dx e1 s1 ?_
    cases rx with
    | own hc => exact .own hc
  · exact h.elim
end

/-- the parameters at a def's entry -/
theorem start_env {K : Frag} {c : Cfg} {m : MM} {H : Hp} {N : List Str} {ds : List D} {vs : List V} (r : RVs K c m H ds vs) : EnvR K c m H (ds.map some ++ List.replicate (N.length - ds.length) none) (L2.start N vs) := by
  refine ⟨by simp [L2.start, r.length], fun i d h => ?_⟩
  by_cases hi : i < ds.length
  · rw [List.getElem?_append_left (by simpa using hi), List.getElem?_map] at h
    cases e : ds[i]? with
    | none => rw [e] at h; cases h
    | some d' =>
      rw [e] at h
      simp only [Option.map_some, Option.some.injEq] at h
      subst h
      obtain ⟨v, h1, h2⟩ := r.getD e
      refine ⟨v, ?_, h2⟩
      unfold L2.start
      rw [List.getElem?_append_left (by
        have := (List.getElem?_eq_some_iff.mp h1).1
        simpa using this), List.getElem?_map, h1]
      rfl
  · rw [List.getElem?_append_right (by simpa using hi), List.getElem?_replicate] at h
    split at h <;> simp at h
section
variable {P : Program} {w : World} {K : Frag} {mg : Str → Option Value} {base : Heap}
/-- a def, by its body -/
theorem fn_okE {c : Cfg} {G : Globs} {fuel : Nat} {Pg : Prog} {k : Nat} {name : String} {d : Def} {x qual : Str} {st : Stmt} {f : Addr} {fd : FuncData} {N ps : List Str} (F : L2.Fun K x qual st f fd) (Sc : L2.FnScope N ps (L2.defScope st)) (hP : Pg name = some d) (hn : d.n = N.length) (hp : d.np = ps.length)
    (hbody : ∀ (cdv : Value) (A : Around) (outer : List PySem.Env) (s : Shared) (H : Hp) (E : XK), L2.Room k (A.deeper (envOfC qual (L2.defScope st) s.heap.objs.size f cdv)) →
      PSs (L2.cxOf (L2.CX P w) P w K mg base N qual (L2.defScope st) f cdv A outer s H E) (L2.defBody st) (tS K c (fun cls dx _ H' => E cls dx H') fun e S => exB G fuel (callA G fuel Pg k) d.body e S)) :
    L2.FnOk P w K mg base (L2.CX P w) (k + 1) f fd ps (spG K c (fun ds S => callA G fuel Pg (k + 1) name ds S) ps.length) := by
  refine F.okX Sc (fun vs H Q E h => h.1) (fun cdv A outer s H vs Q E hr h => ?_)
  obtain ⟨hl, m, S, ds, rds, sm, h⟩ := h
  refine ⟨_, hbody cdv A outer s H E hr, ?_⟩
  have h : Aft K c (fun cls dx _ H' => E cls dx H') [] m H (callA G fuel Pg (k + 1) name ds S) _ := h
  unfold callA at h
  rw [hP] at h
  dsimp only at h
  obtain ⟨hlen, h⟩ := Aft.if_ h
  refine ⟨ds.map some ++ List.replicate (d.n - d.np) none, m, S, ?_, sm, Aft.cst (σ := []) (fun _ _ _ _ _ h => h) (leave_ok sm h)⟩
  rw [hn, ← hlen]
  exact start_env rds
end
end Mn

/-! Mn10: a look that the reading's terms are the text's, and that this is enough. -/
namespace Mn
open PySem PySem.Spec PyProof.Rows
open L2 (V Hp HO Cx SqL SqT Rd St VK WX XK TE TA TS TT TG TI PE PA PS PSs PT PG PI Ends upd upd_same upd_ne OpR R2 Inv Dp DpAll UnR CallR Walk)

/-! ### forms -/
def notStar : Expr → Bool
  | .Starred .. => false
  | _ => true
def notSet : Expr → Bool
  | .Set .. => false
  | _ => true
def notCut : Expr → Bool
  | .Slice .. => false
  | _ => true
def noComp : Expr → Bool
  | .ListComp .. => false
  | .SetComp .. => false
  | .DictComp .. => false
  | _ => true
def plainT : Expr → Bool
  | .UnaryOp .Not _ _ => false
  | .BoolOp .. => false
  | .IfExp .. => false
  | .Compare .. => false
  | _ => true
def baseOk : Expr → Bool
  | .Name .. => true
  | .Attribute .. => true
  | .Subscript .. => true
  | .Constant .. => true
  | _ => false
theorem star_cons {e : Expr} {es : List Expr} {env : PySem.Env} (h : notStar e = true) : starEach (e :: es) env = (false, eval e env) :: starEach es env := by
  cases e <;> first | rfl | (cases h; done)
theorem star_any {env : PySem.Env} {pos : Pos} : ∀ {es : List Expr}, es.all notStar = true → (backTo pos (starEach es env)).any (·.1) = false
  | [], _ => rfl
  | e :: es, h => by
    simp only [List.all_cons, Bool.and_eq_true] at h
    rw [star_cons h.1]
    have ih := star_any (env := env) (pos := pos) h.2
    unfold backTo at ih ⊢
    simp only [List.map_cons, List.any_cons, Bool.false_or]
    exact ih
theorem isTrue_plainT {e : Expr} {env : PySem.Env} (h : plainT e = true) (whole : Sem Value) : isTrue e env whole = (do let v ← whole; standAt e.pos; holding [v] (truthy v)) := by
  cases e with
  | UnaryOp op a p => cases op <;> first | rfl | (cases h; done)
  | BoolOp => cases h
  | IfExp => cases h
  | Compare => cases h
  | _ => rfl
theorem swaps_no {e : Expr} {t : Option Expr} {l : Nat} {env : PySem.Env} (h : noComp e = true) : swapsWith e t l env = pure false := by
  cases e <;> first | rfl | (cases h; done)
theorem folded_no {e : Expr} {env : PySem.Env} (h : notSet e = true) (x : Value) : foldedSetIterable e env x = pure x := by
  cases e <;> first | rfl | (cases h; done)
theorem base_ok {o : Expr} {a : Str} {env : PySem.Env} (h : baseOk o = true) : attributeBase o a env (eval o env) = eval o env := by
  cases o <;> first | rfl | (cases h; done)
theorem plainIx {b : Expr} (h : notCut b = true) : L2.PlainIx b := by
  intro o i
  cases b <;> first | rfl | (cases h; done)
theorem noMark {op : CmpOp} {b : Expr} (h : notSet b = true) : behindInMarks op b = false := by
  cases b <;> first | rfl | (cases h; done)

/-! ### names -/
def visIn (sc : Scope) (x : Str) : Bool := match sc.names.lookup x with
  | some .local => true
  | some .cell => true
  | some .free => true
  | _ => false
theorem vis_of {sc : Scope} {x : Str} (h : visIn sc x = true) : L2.Vis sc x := by
  unfold visIn at h
  split at h
  · exact .inl (by assumption)
  · exact .inr (.inl (by assumption))
  · exact .inr (.inr (by assumption))
  · cases h
def okName (x : Str) : Bool := !(x == ("__debug__" : Str)) && !(x == ("__classdict__" : Str)) && !(x == ("__name__" : Str))
theorem okName_db {x : Str} (h : okName x = true) : (x == ("__debug__" : Str)) = false ∧ (x == ("__classdict__" : Str)) = false ∧ x ≠ "__name__" := by
  unfold okName at h
  simp only [Bool.and_eq_true, Bool.not_eq_true'] at h
  exact ⟨h.1.1, h.1.2, fun e => by rw [e] at h; exact absurd h.2 (by decide)⟩
def isVar (N : List Str) (sc : Scope) (i : Nat) (x : Str) : Bool := decide (N[i]? = some x) && visIn sc x && okName x
def isGl (sc : Scope) (x : String) (y : Str) : Bool := decide (y = Str.ofString x) && decide (sc.names.lookup y = some NameKind.globalImplicit) && okName y
/-- a builtin of that name -/
def bootOk : String → Bool
  | "len" | "max" | "min" | "sum" | "isinstance" | "tuple" | "list" | "int" => true
  | _ => false
theorem boot_blt {f : String} (h : isBlt f = true) : bootBuiltins (Str.ofString f) = some (.builtin f) := by
  unfold isBlt at h
  simp only [List.contains_iff_mem, List.mem_cons, List.not_mem_nil, or_false] at h
  rcases h with rfl | rfl | rfl | rfl | rfl
  · exact boot_len
  · exact boot_max
  · exact boot_min
  · exact boot_sum
  · exact boot_isinstance
theorem boot_ty {f : String} (h : isTy f = true) : bootBuiltins (Str.ofString f) = some (.type f) := by
  unfold isTy at h
  simp only [List.contains_iff_mem, List.mem_cons, List.not_mem_nil, or_false] at h
  rcases h with rfl | rfl | rfl
  · exact boot_tuple
  · exact boot_list
  · exact boot_int
def isTyN (f : String) : Bool := ["tuple", "list", "int", "str", "bool", "dict"].contains f
theorem boot_tyN {f : String} (h : isTyN f = true) : bootBuiltins (Str.ofString f) = some (.type f) := by
  unfold isTyN at h
  simp only [List.contains_iff_mem, List.mem_cons, List.not_mem_nil, or_false] at h
  rcases h with rfl | rfl | rfl | rfl | rfl | rfl
  · exact boot_tuple
  · exact boot_list
  · exact boot_int
  · exact boot_str
  · exact boot_bool
  · exact boot_dict

/-! ### the look -/
def Es.len : Es → Nat
  | .nil => 0
  | .cons _ r => r.len + 1
section
variable (c : Sg) (N : List Str)
def ckTg (sc : Scope) (t : Tg) (e : Expr) : Bool := match t, e with
  | .nm i, .Name x _ => decide (N[i]? = some x) && (decide (sc.names.lookup x = some NameKind.local) || decide (sc.names.lookup x = some NameKind.cell))
  | .tp is, .Tuple es _ _ => decide (is.length = es.length) && (is.zip es).all fun p => match p.2 with
      | .Name x _ => decide (N[p.1]? = some x) && (decide (sc.names.lookup x = some NameKind.local) || decide (sc.names.lookup x = some NameKind.cell))
      | _ => false
  | _, _ => false
def ckOwn (own : List Nat) : List (Str × Nat) := own.filterMap fun i => (N[i]?).map fun x => (x, i)
mutual
def ckE : Nat → Scope → E → Expr → Bool
  | 0, _, _, _ => false
  | n + 1, sc, me, e => match me, e with
    | .non, .Constant .none _ _ => true
    | .bl b, .Constant (.bool b') _ _ => decide (b = b')
    | .int i, .Constant (.int j) _ _ => decide (i = j)
    | .str x, .Constant (.str y) _ _ => decide (x = y)
    | .ty t, .Name x _ => isGl sc t x && isTyN t && c.bls.contains t
    | .var i, .Name x _ => isVar N sc i x
    | .glob x, .Name y _ => isGl sc x y
    | .tup es, .Tuple l _ _ => ckEs n sc es l
    | .lst _ es, .List l _ => ckEs n sc es l
    | .bin _ op a b, .BinOp x o y _ => decide (op = o) && ckE n sc a x && ckE n sc b y
    | .neg a, .UnaryOp .USub x _ => ckE n sc a x
    | .not a, .UnaryOp .Not x _ => ckE n sc a x
    | .cmp op a b, .Compare x [o] [y] _ => decide (op = o) && ckE n sc a x && ckE n sc b y && notSet y
    | .chain o1 o2 a b d, .Compare x [p, q] [y, z] _ => decide (o1 = p) && decide (o2 = q) && ckE n sc a x && ckE n sc b y && ckE n sc d z && notSet z
    | .and a b, .BoolOp .And l _ => ckBs n sc true (.and a b) l
    | .or a b, .BoolOp .Or l _ => ckBs n sc false (.or a b) l
    | .ife d a b, .IfExp z x y _ => ckT n sc d z && ckE n sc a x && ckE n sc b y
    | .call f es, .Call (.Name x _) l [] _ => isGl sc f x && decide (c.sig f = some es.len) && ckEs n sc es l
    | .blt _ f es, .Call (.Name x _) (y :: l) [] _ => isGl sc f x && (isBlt f || isTy f) && c.bls.contains f && ckEs n sc es (y :: l)
    | .mth T m o es, .Call (.Attribute x y ap) [z] [] cp => decide (T = "list") && decide (m = "append") && decide (y = Str.ofString "append") && baseOk x && decide (ap.endLine = cp.line) && ckE n sc o x && ckEs n sc es [z]
    | .sub a i, .Subscript x y _ => ckE n sc a x && ckE n sc i y && notCut y
    | .slc _ a lo hi, .Subscript x (.Slice l h none _) _ => ckE n sc a x && ckO n sc lo l && ckO n sc hi h
    | .comp _ own tg it d e, .ListComp elt [⟨t, iter, ifs, 0⟩] scope _ =>
      L2.blkC N sc scope (ckOwn N own) && decide ((ckOwn N own).map (·.2) = own) && tg.slots.all (own.contains ·) && ckTg N scope tg t && ckI n sc it t iter && notSet iter && ckC n (L2.relS scope sc) d ifs && ckE n (L2.relS scope sc) e elt
    | _, _ => false
/-- what stands side by side of and, or -/
def ckBs : Nat → Scope → Bool → E → List Expr → Bool
  | 0, _, _, _, _ => false
  | n + 1, sc, b, me, l => match b, me, l with
    | _, e, [x] => ckE n sc e x
    | true, .and a b, x :: y :: r => ckE n sc a x && ckBs n sc true b (y :: r)
    | false, .or a b, x :: y :: r => ckE n sc a x && ckBs n sc false b (y :: r)
    | _, _, _ => false
def ckBt : Nat → Scope → Bool → E → List Expr → Bool
  | 0, _, _, _, _ => false
  | n + 1, sc, b, me, l => match b, me, l with
    | _, e, [x] => ckT n sc e x
    | true, .and a b, x :: y :: r => ckT n sc a x && ckBt n sc true b (y :: r)
    | false, .or a b, x :: y :: r => ckT n sc a x && ckBt n sc false b (y :: r)
    | _, _, _ => false
def ckT : Nat → Scope → E → Expr → Bool
  | 0, _, _, _ => false
  | n + 1, sc, me, e => match me, e with
    | .not a, .UnaryOp .Not x _ => ckT n sc a x
    | .and a b, .BoolOp .And l _ => ckBt n sc true (.and a b) l
    | .or a b, .BoolOp .Or l _ => ckBt n sc false (.or a b) l
    | .cmp op a b, .Compare x [o] [y] _ => decide (op = o) && ckE n sc a x && ckE n sc b y && notSet y
    | .chain o1 o2 a b d, .Compare x [p, q] [y, z] _ => decide (o1 = p) && decide (o2 = q) && ckE n sc a x && ckE n sc b y && ckE n sc d z && notSet z
    | a, x => plainT x && ckE n sc a x
def ckEs : Nat → Scope → Es → List Expr → Bool
  | 0, _, _, _ => false
  | n + 1, sc, es, l => match es, l with
    | .nil, [] => true
    | .cons a r, x :: l => notStar x && ckE n sc a x && ckEs n sc r l
    | _, _ => false
def ckO : Nat → Scope → Oe → Option Expr → Bool
  | 0, _, _, _ => false
  | n + 1, sc, o, l => match o, l with
    | .none, none => true
    | .some a, some x => ckE n sc a x
    | _, _ => false
def ckC : Nat → Scope → Oe → List Expr → Bool
  | 0, _, _, _ => false
  | n + 1, sc, o, l => match o, l with
    | .none, [] => true
    | .some a, [x] => ckT n sc a x
    | _, _ => false
def ckI : Nat → Scope → It → Expr → Expr → Bool
  | 0, _, _, _, _ => false
  | n + 1, sc, it, tg, e => match it, tg, e with
    | .seq a, _, x => ckE n sc a x
    | .rng1 a, _, .Call (.Name f _) [x] [] _ => isGl sc "range" f && c.bls.contains "range" && notStar x && ckE n sc a x
    | .rng2 a b, _, .Call (.Name f _) [x, y] [] _ => isGl sc "range" f && c.bls.contains "range" && notStar x && notStar y && ckE n sc a x && ckE n sc b y
    | .enum a, .Tuple _ _ _, .Call (.Name f _) [x] [] _ => isGl sc "enumerate" f && c.bls.contains "enumerate" && notStar x && ckE n sc a x
    | _, _, _ => false
end
end

/-! ### where an expression stands -/
structure Cy (c : Cfg) (G : Globs) (N : List Str) (k : Nat) (call : String → List D → Store → R D) (sc : Scope) (X : Cx) (W : WX) : Prop where
  hN : X.N = N
  hs : X.env.scope = sc
  calm : X.calm = true
  nd : X.N.Nodup
  room : L2.Room k X.A
  un : X.A.units + 65 < cLine
  tk : L2.Takes X W
  fns : ∀ f a, c.sg.sig f = some a → ∃ (ad : Addr) (fd : FuncData) (ps : List Str), L2.FnOk X.prog X.w X.K X.mg X.base (L2.CX X.prog X.w) k ad fd ps (spG X.K c (fun ds S => call f ds S) a) ∧ X.mg (Str.ofString f) = some (.ref ad) ∧ PySem.W.keepIn X.K (.ref ad) = true ∧ L2.Binds X.K fd ps []
  bls : ∀ f, c.sg.bls.contains f = true → X.mg (Str.ofString f) = none
  globs : ∀ x d, G x = some d → ∃ (u : Value) (v : V), X.mg (Str.ofString x) = some u ∧ L2.RelV v u ∧ ∀ (m : MM) (H : Hp), RV X.K c m H d v
section
variable {c : Cfg} {G : Globs} {N : List Str} {k fuel : Nat} {call : String → List D → Store → R D} {sc : Scope} {X : Cx} {W : WX}
/-- within a comprehension -/
theorem Cy.blk (y : Cy c G N k call sc X W) (s : Shared) (H : Hp) (scope : Scope) (cl : List (Str × Addr)) (C : Addr) (fp : List Addr) :
    Cy c G N k call (L2.relS scope sc) (X.blk s H scope (compEnvC scope cl C X.env) fp) (fun _ _ _ _ => False) where
  hN := y.hN
  hs := by
    have := y.hs
    show relabel scope X.env = _
    unfold relabel L2.relS PySem.Env.kindOf
    rw [this]
  calm := y.calm
  nd := y.nd
  room := y.room
  un := y.un
  tk := L2.takes0
  fns := y.fns
  bls := y.bls
  globs := y.globs
theorem gl_of (y : Cy c G N k call sc X W) {f : String} {x : Str} (h : isGl sc f x = true) : x = Str.ofString f ∧ L2.Gl X (Str.ofString f) ∧ (Str.ofString f == ("__debug__" : Str)) = false ∧ Str.ofString f ≠ "__name__" := by
  unfold isGl at h
  simp only [Bool.and_eq_true, decide_eq_true_eq] at h
  obtain ⟨⟨rfl, h1⟩, h2⟩ := h
  obtain ⟨h3, _, h4⟩ := okName_db h2
  exact ⟨rfl, by
    show X.env.kindOf _ = _
    unfold PySem.Env.kindOf
    rw [y.hs]
    exact h1, h3, h4⟩
theorem evEs_len : ∀ (es : Es) (e : Env) (S : Store) (ds : List D) (S' : Store), evEs G call es e S = .ok ds S' → ds.length = es.len
  | .nil, e, S, ds, S', h => by
    simp only [evEs, R.ok.injEq] at h
    rw [← h.1]
    rfl
  | .cons a r, e, S, ds, S', h => by
    simp only [evEs] at h
    cases h1 : evE G call a e S with
    | bad => rw [h1] at h; cases h
    | exc x S1 => rw [h1] at h; cases h
    | ok x S1 =>
      rw [h1] at h
      dsimp only [R.bind] at h
      cases h2 : evEs G call r e S1 with
      | bad => rw [h2] at h; cases h
      | exc x S1 => rw [h2] at h; cases h
      | ok xs S2 =>
        rw [h2] at h
        dsimp only [R.bind] at h
        cases h
        simp [Es.len, evEs_len r e S1 xs _ h2]
end
end Mn

/-! Mn11: the look is enough: expressions. -/
namespace Mn
open PySem PySem.Spec PyProof.Rows
open L2 (V Hp HO Cx SqL SqT Rd St VK WX XK TE TA TS TT TG TI PE PA PS PSs PT PG PI Ends upd upd_same upd_ne OpR R2 Inv Dp DpAll UnR CallR Walk)

structure Snd (c : Cfg) (G : Globs) (N : List Str) (k : Nat) (call : String → List D → Store → R D) (n : Nat) : Prop where
  E : ∀ {sc : Scope} {X : Cx} {W : WX}, Cy c G N k call sc X W → ∀ {me : E} {e : Expr}, ckE c.sg N n sc me e = true → PE X e (tE X.K c W (evE G call me))
  Bs : ∀ {sc : Scope} {X : Cx} {W : WX}, Cy c G N k call sc X W → ∀ {b : Bool} {me : Mn.E} {l : List Expr} {pos : Pos}, ckBs c.sg N n sc b me l = true → PE X (.BoolOp (if b = true then .And else .Or) l pos) (tE X.K c W (evE G call me))
  Bt : ∀ {sc : Scope} {X : Cx} {W : WX}, Cy c G N k call sc X W → ∀ {b : Bool} {me : Mn.E} {l : List Expr} {pos : Pos}, ckBt c.sg N n sc b me l = true → L2.PW X (.BoolOp (if b = true then .And else .Or) l pos) (tT X.K c W (evE G call me))
  T : ∀ {sc : Scope} {X : Cx} {W : WX}, Cy c G N k call sc X W → ∀ {me : Mn.E} {e : Expr}, ckT c.sg N n sc me e = true → PT X e (tT X.K c W (evE G call me))
  Es : ∀ {sc : Scope} {X : Cx} {W : WX}, Cy c G N k call sc X W → ∀ {es : Es} {l : List Expr}, ckEs c.sg N n sc es l = true → PA X l (tA X.K c W (evEs G call es)) ∧ l.all notStar = true
  O : ∀ {sc : Scope} {X : Cx} {W : WX}, Cy c G N k call sc X W → ∀ {o : Oe} {l : Option Expr}, ckO c.sg N n sc o l = true → L2.PO X l (tO X.K c W (evOe G call o))
  C : ∀ {sc : Scope} {X : Cx} {W : WX}, Cy c G N k call sc X W → ∀ {o : Oe} {l : List Expr}, ckC c.sg N n sc o l = true → L2.PTs X l (tT X.K c W (evOc G call o))
  I : ∀ {sc : Scope} {X : Cx} {W : WX}, Cy c G N k call sc X W → ∀ {it : It} {tg e : Expr}, ckI c.sg N n sc it tg e = true → PI X tg e (tI X c W (evIt G call it))

section
variable {c : Cfg} {G : Globs} {N : List Str} {k : Nat} {call : String → List D → Store → R D} {n : Nat} {sc : Scope} {X : Cx} {W : WX}
theorem pe_globE (y : Cy c G N k call sc X W) {x : String} {z : Str} {pos : Pos} (h : isGl sc x z = true) : PE X (.Name z pos) (tE X.K c W (evE G call (.glob x))) := by
  obtain ⟨rfl, hg, hdb, hn⟩ := gl_of y h
  cases e : G x with
  | none =>
    refine ⟨fun pins s σ H Q I h => ?_⟩
    obtain ⟨e1, m, S, re, sm, h⟩ := h
    simp only [evE, e] at h
    exact h.elim
  | some d =>
    obtain ⟨u, v, h1, h2, h3⟩ := y.globs x d e
    refine PE.imp (L2.pe_glob hg h1 h2 hdb) fun σ H Q h => ?_
    obtain ⟨e1, m, S, re, sm, h⟩ := h
    simp only [evE, e] at h
    exact h.now sm _ (h3 _ _)
/-- a target that is stored where a comprehension runs -/
theorem pg_blk (y : Cy c G N k call sc X W) {scope : Scope} {t : Tg} {e : Expr} (h : ckTg N scope t e = true) :
    ∃ g, TgOk X c t g ∧ ∀ (s : Shared) (H : Hp) (C : Addr) (cl : List (Str × Addr)) (fp : List Addr), PG (X.blk s H scope (compEnvC scope cl C X.env) fp) e g := by
  have nm : ∀ {i : Nat} {x : Str} {p : Pos}, (decide (N[i]? = some x) && (decide (scope.names.lookup x = some NameKind.local) || decide (scope.names.lookup x = some NameKind.cell))) = true →
      ∀ (s : Shared) (H : Hp) (C : Addr) (cl : List (Str × Addr)) (fp : List Addr), PG (X.blk s H scope (compEnvC scope cl C X.env) fp) (.Name x p) (L2.gName i) := by
    intro i x p h s H C cl fp
    simp only [Bool.and_eq_true, Bool.or_eq_true, decide_eq_true_eq] at h
    have hi : (X.blk s H scope (compEnvC scope cl C X.env) fp).N[i]? = some x := by
      show X.N[i]? = some x
      rw [y.hN]
      exact h.1
    rcases h.2 with h2 | h2
    · have hl : (X.blk s H scope (compEnvC scope cl C X.env) fp).env.scope.names.lookup x = some .local := L2.lookup_relS_keep (sc := X.env.scope) (by decide) h2
      exact L2.pg_name y.nd hi (.inl hl) (.inr hl)
    · have hl : (X.blk s H scope (compEnvC scope cl C X.env) fp).env.scope.names.lookup x = some .cell := L2.lookup_relS_keep (sc := X.env.scope) (by decide) h2
      exact L2.pg_name y.nd hi (.inr hl) (.inl (by
        show (scope.names.lookup x == some .cell) = true
        rw [h2]
        rfl))
  unfold ckTg at h
  split at h
  · exact ⟨_, tg_nm _, nm h⟩
  · rename_i is es kk p
    simp only [Bool.and_eq_true, decide_eq_true_eq] at h
    refine ⟨_, tg_tp is, fun s H C cl fp => ?_⟩
    have hes : ∀ (is : List Nat) (es : List Expr), is.length = es.length → ((is.zip es).all fun p => match p.2 with
        | .Name x _ => decide (N[p.1]? = some x) && (decide (scope.names.lookup x = some NameKind.local) || decide (scope.names.lookup x = some NameKind.cell))
        | _ => false) = true → L2.PGs (X.blk s H scope (compEnvC scope cl C X.env) fp) es (gNames is) ∧ (assignEach es (X.blk s H scope (compEnvC scope cl C X.env) fp).env).length = is.length ∧ (assignEach es (X.blk s H scope (compEnvC scope cl C X.env) fp).env).findIdx? (·.1) = none := by
      intro is
      induction is with
      | nil =>
        intro es hl _
        cases es with
        | nil => exact ⟨L2.pgs_nil, rfl, rfl⟩
        | cons _ _ => simp at hl
      | cons i r ih =>
        intro es hl hz
        cases es with
        | nil => simp at hl
        | cons e es =>
          simp only [List.zip_cons_cons, List.all_cons, Bool.and_eq_true] at hz
          obtain ⟨h1, h2, h3⟩ := ih es (by simpa using hl) hz.2
          cases e with
          | Name x p =>
            refine ⟨L2.pgs_cons (nm hz.1 s H C cl fp) h1, ?_, ?_⟩
            · show ((false, _) :: assignEach es _).length = _
              simp only [List.length_cons, h2]
            · show ((false, _) :: assignEach es _).findIdx? _ = _
              simp only [List.findIdx?_cons, Bool.false_eq_true, if_false, h3, Option.map_none]
          | _ => exact absurd hz.1 (by simp)
    obtain ⟨h1, h2, h3⟩ := hes is es h.1 h.2
    exact L2.pg_tup y.calm h1 h2 h3
  · cases h
end

section
variable {c : Cfg} {G : Globs} {N : List Str} {k : Nat} {call : String → List D → Store → R D} {n : Nat}
/-- a list comprehension's parts -/
theorem lc_parts (S : Snd c G N k call n) {sc : Scope} {X : Cx} {W : WX} (y : Cy c G N k call sc X W) {v : Bool} {own : List Nat} {tg : Tg} {it : It} {d : Oe} {e : Mn.E} {elt t iter : Expr} {ifs : List Expr} {scope : Scope}
    (h : (L2.blkC N sc scope (ckOwn N own) && decide ((ckOwn N own).map (·.2) = own) && tg.slots.all (own.contains ·) && ckTg N scope tg t && ckI c.sg N n sc it t iter && notSet iter && ckC c.sg N n (L2.relS scope sc) d ifs && ckE c.sg N n (L2.relS scope sc) e elt) = true) :
    ∃ gt, (∀ σ H Q, tE X.K c W (evE G call (.comp v own tg it d e)) σ H Q → L2.tLc (tI X c W (evIt G call it)) gt (tT X.K c (fun _ _ _ _ => False) (evOc G call d)) (tE X.K c (fun _ _ _ _ => False) (evE G call e)) ((ckOwn N own).map (·.2)) σ H Q) ∧
      L2.BlkOk X.N X.env.scope scope (ckOwn N own) ∧ PI X t iter (tI X c W (evIt G call it)) ∧ (∀ (s : Shared) (H : Hp) (C : Addr) (cl : List (Str × Addr)) (fp : List Addr), PG (X.blk s H scope (compEnvC scope cl C X.env) fp) t gt) ∧
      (∀ (s : Shared) (H : Hp) (C : Addr) (cl : List (Str × Addr)) (fp : List Addr), L2.PTs (X.blk s H scope (compEnvC scope cl C X.env) fp) ifs (tT X.K c (fun _ _ _ _ => False) (evOc G call d))) ∧
      (∀ (s : Shared) (H : Hp) (C : Addr) (cl : List (Str × Addr)) (fp : List Addr), PE (X.blk s H scope (compEnvC scope cl C X.env) fp) elt (tE X.K c (fun _ _ _ _ => False) (evE G call e))) ∧
      ∀ x, foldedSetIterable iter X.env x = pure x := by
  simp only [Bool.and_eq_true, decide_eq_true_eq] at h
  obtain ⟨⟨⟨⟨⟨⟨⟨h1, h2⟩, h3⟩, h4⟩, h5⟩, h6⟩, h7⟩, h8⟩ := h
  obtain ⟨gt, ht, hg⟩ := pg_blk y h4
  refine ⟨gt, fun σ H Q q => ?_, ?_, S.I y h5, hg, fun s H C cl fp => S.C (y.blk s H scope cl C fp) h7, fun s H C cl fp => S.E (y.blk s H scope cl C fp) h8, folded_no h6⟩
  · rw [h2]
    exact lc_read (v := v) ht (fun i hi => by simpa using List.all_eq_true.mp h3 i hi) σ H Q q
  · rw [y.hN, y.hs]
    exact L2.blkOk_by h1

theorem snd : ∀ n, Snd c G N k call n := by
  intro n
  induction n with
  | zero =>
    constructor <;> intros <;> rename_i h <;> (first | (simp [ckE] at h; done) | (simp [ckBs] at h; done) | (simp [ckBt] at h; done) | (simp [ckT] at h; done) | (simp [ckEs] at h; done) | (simp [ckO] at h; done) | (simp [ckC] at h; done) | (simp [ckI] at h; done))
  | succ n S =>
    constructor
    · -- E
      intro sc X W y me e h
      unfold ckE at h
      split at h
      · exact pe_kE L2.pe_non fun _ _ => .non
      · simp only [decide_eq_true_eq] at h
        subst h
        exact pe_kE L2.pe_bl fun _ _ => .bl _
      · simp only [decide_eq_true_eq] at h
        subst h
        exact pe_kE L2.pe_int fun _ _ => .int _
      · simp only [decide_eq_true_eq] at h
        subst h
        exact pe_kE L2.pe_str fun _ _ => .str _
      · simp only [Bool.and_eq_true] at h
        obtain ⟨rfl, hg, hdb, hn⟩ := gl_of y h.1.1
        exact pe_kE (L2.pe_bltn (v := .ty _) hg (y.bls _ h.2) (boot_tyN h.1.2) rfl hn hdb) fun _ _ => .ty _
      · simp only [isVar, Bool.and_eq_true, decide_eq_true_eq] at h
        obtain ⟨h1, h2, _⟩ := okName_db h.2
        exact pe_varE (L2.pe_var (by rw [y.hN]; exact h.1.1) (by rw [y.hs]; exact vis_of h.1.2) h1 h2)
      · exact pe_globE y h
      · exact pe_tupE (S.Es y h).1
      · exact pe_lstE (S.Es y h).1
      · simp only [Bool.and_eq_true, decide_eq_true_eq] at h
        obtain ⟨⟨rfl, h1⟩, h2⟩ := h
        exact pe_binE (S.E y h1) (S.E y h2)
      · exact pe_negE (S.E y h)
      · exact pe_notE (S.E y h)
      · simp only [Bool.and_eq_true, decide_eq_true_eq] at h
        obtain ⟨⟨⟨rfl, h1⟩, h2⟩, h3⟩ := h
        exact pe_cmpE y.un (S.E y h1) (S.E y h2) (noMark h3)
      · simp only [Bool.and_eq_true, decide_eq_true_eq] at h
        obtain ⟨⟨⟨⟨⟨rfl, rfl⟩, h1⟩, h2⟩, h3⟩, h4⟩ := h
        exact pe_chainE y.un (S.E y h1) (S.E y h2) (S.E y h3) (noMark h4)
      · exact S.Bs (b := true) y h
      · exact S.Bs (b := false) y h
      · simp only [Bool.and_eq_true] at h
        exact pe_ifeE (S.T y h.1.1) (S.E y h.1.2) (S.E y h.2)
      · rename_i f es x _ l _
        simp only [Bool.and_eq_true, decide_eq_true_eq] at h
        obtain ⟨⟨h1, h2⟩, h3⟩ := h
        obtain ⟨rfl, hg, hdb, hn⟩ := gl_of y h1
        obtain ⟨ad, fd, ps, F, hm, hk, hb⟩ := y.fns f _ h2
        obtain ⟨hp, hst⟩ := S.Es y h3
        cases l with
        | nil =>
          cases es with
          | nil => exact pe_call0E (call := fun ds S => call f ds S) F y.room y.tk hg hm hk hb hdb
          | cons a r => cases n <;> simp [ckEs] at h3
        | cons z l =>
          simp only [List.all_cons, Bool.and_eq_true] at hst
          exact pe_callE (call := fun ds S => call f ds S) F y.room y.tk hg hm hk hb hp (fun e S ds S' q => evEs_len es e S ds S' q) hdb (star_cons hst.1) (star_any hst.2)
      · rename_i v f es x z l _ _
        simp only [Bool.and_eq_true, Bool.or_eq_true] at h
        obtain ⟨⟨⟨h1, h2⟩, h3⟩, h4⟩ := h
        obtain ⟨rfl, hg, hdb, hn⟩ := gl_of y h1
        obtain ⟨hp, hst⟩ := S.Es y h4
        simp only [List.all_cons, Bool.and_eq_true] at hst
        rcases h2 with h2 | h2
        · exact pe_bltE h2 y.calm hg (y.bls _ h3) (boot_blt h2) hp hn hdb (star_cons hst.1) (star_any hst.2)
        · exact pe_tyE h2 hg (y.bls _ h3) (boot_ty h2) hp hn hdb (star_cons hst.1) (star_any hst.2)
      · simp only [Bool.and_eq_true, decide_eq_true_eq] at h
        obtain ⟨⟨⟨⟨⟨⟨rfl, rfl⟩, rfl⟩, h1⟩, h2⟩, h3⟩, h4⟩ := h
        obtain ⟨hp, hst⟩ := S.Es y h4
        simp only [List.all_cons, Bool.and_eq_true] at hst
        exact pe_appendE (S.E y h3) hp (base_ok h1) (by simpa using h2) (star_cons hst.1)
      · simp only [Bool.and_eq_true] at h
        exact pe_subE (S.E y h.1.1) (S.E y h.1.2) (plainIx h.2)
      · simp only [Bool.and_eq_true] at h
        exact pe_slcE (S.E y h.1.1) (S.O y h.1.2) (S.O y h.2)
      · rename_i v own tg it d e elt t iter ifs scope _
        obtain ⟨gt, q, ok, pi, hg, hts, he, hf⟩ := lc_parts (v := v) S y h
        exact PE.imp (L2.pe_lc y.calm y.nd pi ok hg hts he hf) q
      · cases h
    · -- Bs
      intro sc X W y b me l pos h
      unfold ckBs at h
      split at h
      · exact L2.pe_one (S.E y h)
      · simp only [Bool.and_eq_true] at h
        exact pe_andE (S.E y h.1) (S.Bs (b := true) y h.2)
      · simp only [Bool.and_eq_true] at h
        exact pe_orE (S.E y h.1) (S.Bs (b := false) y h.2)
      · cases h
    · -- Bt
      intro sc X W y b me l pos h
      unfold ckBt at h
      split at h
      · cases b
        · exact L2.pw_or1 (S.T y h)
        · exact L2.pw_and1 (S.T y h)
      · simp only [Bool.and_eq_true] at h
        exact pw_andE (S.T y h.1) (S.Bt (b := true) y h.2)
      · simp only [Bool.and_eq_true] at h
        exact pw_orE (S.T y h.1) (S.Bt (b := false) y h.2)
      · cases h
    · -- T
      intro sc X W y me e h
      unfold ckT at h
      split at h
      · exact pt_notE (S.T y h)
      · exact (S.Bt (b := true) y h).pt
      · exact (S.Bt (b := false) y h).pt
      · simp only [Bool.and_eq_true, decide_eq_true_eq] at h
        obtain ⟨⟨⟨rfl, h1⟩, h2⟩, h3⟩ := h
        exact pt_cmpE y.un (S.E y h1) (S.E y h2) (noMark h3)
      · simp only [Bool.and_eq_true, decide_eq_true_eq] at h
        obtain ⟨⟨⟨⟨⟨rfl, rfl⟩, h1⟩, h2⟩, h3⟩, h4⟩ := h
        exact pt_chainE y.un (S.E y h1) (S.E y h2) (S.E y h3) (noMark h4)
      · simp only [Bool.and_eq_true] at h
        exact pt_plainE (S.E y h.2) (isTrue_plainT h.1)
    · -- Es
      intro sc X W y es l h
      unfold ckEs at h
      split at h
      · exact ⟨pa_nilE, rfl⟩
      · simp only [Bool.and_eq_true] at h
        obtain ⟨hp, hst⟩ := S.Es y h.2
        exact ⟨pa_consE (S.E y h.1.2) hp (star_cons h.1.1), by simp only [List.all_cons, h.1.1, hst, Bool.and_self]⟩
      · cases h
    · -- O
      intro sc X W y o l h
      unfold ckO at h
      split at h
      · exact po_noneE
      · exact po_someE (S.E y h)
      · cases h
    · -- C
      intro sc X W y o l h
      unfold ckC at h
      split at h
      · have h0 := L2.pts_nil (X := X)
        refine ⟨fun pins s σ H Q I q => h0.run pins s σ H Q I ?_⟩
        obtain ⟨e, m, S, re, sm, q⟩ := q
        obtain ⟨b, hb, q⟩ := (show Aft X.K c W σ m H (.ok (D.bl true) S) _ from q).now sm
        cases hb
        exact q
      · exact L2.pts_one (S.T y h)
      · cases h
    · -- I
      intro sc X W y it tg e h
      unfold ckI at h
      split at h
      · exact pi_seqE (S.E y h)
      · simp only [Bool.and_eq_true] at h
        obtain ⟨⟨⟨h1, h2⟩, h3⟩, h4⟩ := h
        obtain ⟨rfl, hg, hdb, hn⟩ := gl_of y h1
        exact pi_rng1E hg (y.bls _ h2) (S.E y h4) (star_cons h3)
      · simp only [Bool.and_eq_true] at h
        obtain ⟨⟨⟨⟨⟨h1, h2⟩, h3⟩, h4⟩, h5⟩, h6⟩ := h
        obtain ⟨rfl, hg, hdb, hn⟩ := gl_of y h1
        exact pi_rng2E hg (y.bls _ h2) (S.E y h5) (S.E y h6) (by rw [star_cons h3, star_cons h4]; rfl) (star_cons h4)
      · simp only [Bool.and_eq_true] at h
        obtain ⟨⟨⟨h1, h2⟩, h3⟩, h4⟩ := h
        obtain ⟨rfl, hg, hdb, hn⟩ := gl_of y h1
        refine PI.imp (L2.pi_enum hg (y.bls _ h2) (L2.pa_cons (S.E y h4) L2.pa_nil (star_cons h3)) (star_cons h3)) fun σ H R q => ?_
        obtain ⟨e, m, S, re, s, q⟩ := q
        refine ⟨e, m, S, re, s, (Aft.bind (show Aft X.K c W σ m H ((evE G call _ e S).bind _) _ from q)).imp fun x S1 m1 H1 e1 s1 q1 v rv => ?_⟩
        obtain ⟨l, hl, q1⟩ := q1.bind.ofO s1
        obtain ⟨a, vs, rfl, h5, h6⟩ := seqL_sq s1 rv hl
        exact ⟨a, vs, rfl, h5, q1.now s1 _ (along_enum s1 rv hl fun _ g => g)⟩
      · cases h
end
end Mn

/-! Mn12: the look is enough: statements; a whole program. -/
namespace Mn
open PySem PySem.Spec PyProof.Rows
open L2 (V Hp HO Cx SqL SqT Rd St VK WX XK TE TA TS TT TG TI PE PA PS PSs PT PG PI Ends upd upd_same upd_ne OpR R2 Inv Dp DpAll UnR CallR Walk)

def locIn (sc : Scope) (x : Str) : Bool := decide (sc.names.lookup x = some NameKind.local) || decide (sc.names.lookup x = some NameKind.cell)
theorem loc_of {sc : Scope} {x : Str} (h : locIn sc x = true) : L2.Loc sc x := by
  unfold locIn at h
  simp only [Bool.or_eq_true, decide_eq_true_eq] at h
  exact h
def notTup : Expr → Bool
  | .Tuple .. => false
  | .List .. => false
  | _ => true
theorem swapped_no {ts : List Expr} {k : Nat} {p : Pos} {v : Expr} {env : PySem.Env} (h : notTup v = true) : swappedStores [.Tuple ts k p] v env = pure none := by
  cases v <;> first | rfl | (cases h; done)
/-- a comprehension that is given to a name at once -/
def swHere (sc scope : Scope) (x : Str) (p q : Pos) : Bool := decide (sc.names.lookup x = some NameKind.local) && (p.line == q.line) && !(scope.names.any fun (n, k) => n == x && (k == .local || k == .cell))
theorem swaps_cell {elt : Expr} {gs : List Comprehension} {scope : Scope} {pos py : Pos} {y : Str} {l : Nat} {env : PySem.Env} (hy : env.scope.names.lookup y = some .cell) : swapsWith (.ListComp elt gs scope pos) (some (.Name y py)) l env = pure false := by
  have ky : env.kindOf y = some .cell := hy
  have z : (NameKind.cell == NameKind.local) = false := rfl
  unfold swapsWith
  simp only [ky, Option.some_beq_some, z, Bool.and_false, Bool.false_and]
theorem sole_no {e t : Expr} {l : Nat} {env : PySem.Env} (h : noComp e = true) : swapsWithSole [t] e l env = pure false := by
  show swapsWith e (some t) l env = _
  exact swaps_no h
theorem asg_sub {o i : Expr} {p : Pos} {env : PySem.Env} (h : notCut i = true) (v : Value) : assign (.Subscript o i p) env v = (do
    let ov ← holding [v] (eval o env)
    let iv ← holding [v, ov] (eval i env)
    standAt p
    holding [v, ov, iv] (setItem ov iv v)
    release [v, ov, iv] []) := by
  cases i <;> first | rfl | (cases h; done)
section
variable (c : Sg) (N : List Str)
def ckTs (sc : Scope) (t : Tg) (e : Expr) : Bool := match t, e with
  | .nm i, .Name x _ => decide (N[i]? = some x) && locIn sc x
  | .tp is, .Tuple es _ _ => decide (is.length = es.length) && (is.zip es).all fun p => match p.2 with
      | .Name x _ => decide (N[p.1]? = some x) && locIn sc x
      | _ => false
  | _, _ => false
mutual
def ckS : Nat → Scope → St → Stmt → Bool
  | 0, _, _, _ => false
  | n + 1, sc, me, st => match me, st with
    | .set i e, .Assign [.Name x p] v pos => decide (N[i]? = some x) && locIn sc x && (match v with
        | .ListComp _ _ scope q => decide (sc.names.lookup x = some NameKind.cell) || swHere sc scope x p q
        | v => noComp v) && ckE c N n sc e v
    | .unp is e, .Assign [.Tuple es k p] v pos => ckTs N sc (.tp is) (.Tuple es k p) && notTup v && noComp v && ckE c N n sc e v
    | .sets a i b, .Assign [.Subscript x y p] v pos => noComp v && ckE c N n sc a x && ckE c N n sc i y && ckE c N n sc b v && notCut y
    | .aug i op e, .AugAssign (.Name x p) o v pos => decide (op = o) && decide (N[i]? = some x) && locIn sc x && ckE c N n sc e v
    | .expr e, .Expr v pos => noComp v && ckE c N n sc e v
    | .ret e, .Return (some v) pos => ckE c N n sc e v
    | .retN, .Return none pos => true
    | .pass, .Pass _ => true
    | .brk, .Break _ => true
    | .cont, .Continue _ => true
    | .ite d a b, .If x y z _ => ckT c N n sc d x && ckSs n sc a y && ckSs n sc b z
    | .for tg it b, .For t iter body [] _ => ckTs N sc tg t && ckI c N n sc it t iter && notSet iter && ckSs n sc b body
    | .whl d b, .While x body [] _ => ckT c N n sc d x && ckSs n sc b body
    | _, _ => false
def ckSs : Nat → Scope → Sts → List Stmt → Bool
  | 0, _, _, _ => false
  | n + 1, sc, me, l => match me, l with
    | .nil, [] => true
    | .cons s r, st :: l => ckS n sc s st && ckSs n sc r l
    | _, _ => false
end
end

/-- where a statement stands -/
structure Cs (c : Cfg) (G : Globs) (N : List Str) (k : Nat) (call : String → List D → Store → R D) (sc : Scope) (X : Cx) (W : WX) : Prop where
  y : Cy c G N k call sc X W
  hf : ∀ x, X.fn x = true
  kind : X.env.scope.kind = .function
  hp : PassesOwn (model X.prog X.w) X.A X.env X.xe
  cw : CW W
section
variable {c : Cfg} {G : Globs} {N : List Str} {k fuel : Nat} {call : String → List D → Store → R D} {sc : Scope} {X : Cx} {W : WX}
theorem pg_def (y : Cs c G N k call sc X W) {t : Tg} {e : Expr} (h : ckTs N sc t e = true) : ∃ g, TgOk X c t g ∧ PG X e g ∧ (∀ is, t = .tp is → g = L2.gTup X.K is.length (gNames is)) := by
  have nm : ∀ {i : Nat} {x : Str} {p : Pos}, (decide (N[i]? = some x) && locIn sc x) = true → PG X (.Name x p) (L2.gName i) := by
    intro i x p h
    simp only [Bool.and_eq_true, decide_eq_true_eq] at h
    exact L2.pg_name y.y.nd (by rw [y.y.hN]; exact h.1) (by rw [y.y.hs]; exact loc_of h.2) (.inl (y.hf x))
  unfold ckTs at h
  split at h
  · exact ⟨_, tg_nm _, nm h, fun is e => by cases e⟩
  · rename_i is es kk p
    simp only [Bool.and_eq_true, decide_eq_true_eq] at h
    refine ⟨_, tg_tp is, ?_, fun is e => by cases e; rfl⟩
    have hes : ∀ (is : List Nat) (es : List Expr), is.length = es.length → ((is.zip es).all fun p => match p.2 with
        | .Name x _ => decide (N[p.1]? = some x) && locIn sc x
        | _ => false) = true → L2.PGs X es (gNames is) ∧ (assignEach es X.env).length = is.length ∧ (assignEach es X.env).findIdx? (·.1) = none := by
      intro is
      induction is with
      | nil =>
        intro es hl _
        cases es with
        | nil => exact ⟨L2.pgs_nil, rfl, rfl⟩
        | cons _ _ => simp at hl
      | cons i r ih =>
        intro es hl hz
        cases es with
        | nil => simp at hl
        | cons e es =>
          simp only [List.zip_cons_cons, List.all_cons, Bool.and_eq_true] at hz
          obtain ⟨h1, h2, h3⟩ := ih es (by simpa using hl) (by simpa using hz.2)
          cases e with
          | Name x p =>
            refine ⟨L2.pgs_cons (nm (by simpa using hz.1)) h1, ?_, ?_⟩
            · show ((false, _) :: assignEach es _).length = _
              simp only [List.length_cons, h2]
            · show ((false, _) :: assignEach es _).findIdx? _ = _
              simp only [List.findIdx?_cons, Bool.false_eq_true, if_false, h3, Option.map_none]
          | _ => exact absurd hz.1 (by simp)
    obtain ⟨h1, h2, h3⟩ := hes is es h.1 h.2
    exact L2.pg_tup y.y.calm h1 h2 h3
  · cases h
theorem ckE_comp {n : Nat} {e : Mn.E} {elt : Expr} {gs : List Comprehension} {scope : Scope} {q : Pos} (h : ckE c.sg N (n + 1) sc e (.ListComp elt gs scope q) = true) : ∃ vv own tg it d ee t iter ifs, e = .comp vv own tg it d ee ∧ gs = [⟨t, iter, ifs, 0⟩] ∧
    (L2.blkC N sc scope (ckOwn N own) && decide ((ckOwn N own).map (·.2) = own) && tg.slots.all (own.contains ·) && ckTg N scope tg t && ckI c.sg N n sc it t iter && notSet iter && ckC c.sg N n (L2.relS scope sc) d ifs && ckE c.sg N n (L2.relS scope sc) ee elt) = true := by
  unfold ckE at h
  split at h
  all_goals first
    | (cases h; done)
    | (rename_i he; cases he; done)
    | (rename_i he; cases he; exact ⟨_, _, _, _, _, _, _, _, _, rfl, rfl, h⟩)
theorem snds : ∀ n, (∀ {sc : Scope} {X : Cx} {W : WX}, Cs c G N k call sc X W → ∀ {me : Mn.St} {st : Stmt}, ckS c.sg N n sc me st = true → PS X st (tS X.K c W (exS G fuel call me))) ∧
    (∀ {sc : Scope} {X : Cx} {W : WX}, Cs c G N k call sc X W → ∀ {me : Sts} {l : List Stmt}, ckSs c.sg N n sc me l = true → PSs X l (tS X.K c W (exB G fuel call me))) := by
  intro n
  induction n with
  | zero =>
    refine ⟨?_, ?_⟩
    · intro sc X W y me st h
      simp [ckS] at h
    · intro sc X W y me l h
      simp [ckSs] at h
  | succ n ih =>
    obtain ⟨ihS, ihB⟩ := ih
    have SE := @snd c G N k call n
    refine ⟨?_, ?_⟩
    · intro sc X W y me st h
      unfold ckS at h
      split at h
      · rename_i i e x p v pos
        simp only [Bool.and_eq_true, decide_eq_true_eq] at h
        obtain ⟨⟨⟨h1, h2⟩, h3⟩, h4⟩ := h
        have hi : X.N[i]? = some x := by rw [y.y.hN]; exact h1
        have hx : L2.Loc X.env.scope x := by rw [y.y.hs]; exact loc_of h2
        split at h3
        · rename_i elt gs scope q
          simp only [Bool.or_eq_true, decide_eq_true_eq] at h3
          rcases h3 with h3 | h3
          · exact ps_setE y.y.nd hi hx (SE.E y.y h4) (swaps_cell (by rw [y.y.hs]; exact h3)) (.inl (y.hf x))
          · simp only [swHere, Bool.and_eq_true, decide_eq_true_eq, Bool.not_eq_true'] at h3
            obtain ⟨⟨h5, h6⟩, h7⟩ := h3
            cases n with
            | zero => simp [ckE] at h4
            | succ n =>
              obtain ⟨vv, own, tg, it, d, ee, t, iter, ifs, rfl, rfl, h4⟩ := ckE_comp h4
              obtain ⟨gt, qq, ok, pi, hg, hts, he2, hf⟩ := lc_parts (v := vv) (@snd c G N k call n) y.y h4
              have hloc : X.env.scope.names.lookup x = some .local := by rw [y.y.hs]; exact h5
              exact PS.imp (L2.ps_setLc (i := i) y.y.calm y.y.nd hi hloc (L2.sw_true y.kind hloc h6 h7) pi ok hg hts he2 hf) (set_of (i := i) qq)
        · exact ps_setE y.y.nd hi hx (SE.E y.y h4) (swaps_no h3) (.inl (y.hf x))
      · rename_i is e es kk p v pos
        simp only [Bool.and_eq_true] at h
        obtain ⟨⟨⟨h1, h2⟩, h3⟩, h4⟩ := h
        obtain ⟨g, ht, hg, _⟩ := pg_def y h1
        exact PS.imp (L2.ps_asg (SE.E y.y h4) hg (sole_no h3) (swapped_no h2) rfl) (unp_of ht)
      · rename_i a i b x z p v pos
        simp only [Bool.and_eq_true] at h
        obtain ⟨⟨⟨⟨h1, h2⟩, h3⟩, h4⟩, h5⟩ := h
        exact PS.imp (L2.ps_asg (SE.E y.y h4) (L2.pg_sub (SE.E y.y h2) (SE.E y.y h3) L2.set_list (asg_sub h5)) (sole_no h1) rfl rfl) sets_of
      · simp only [Bool.and_eq_true, decide_eq_true_eq] at h
        obtain ⟨⟨⟨rfl, h1⟩, h2⟩, h3⟩ := h
        exact ps_augE y.y.nd (by rw [y.y.hN]; exact h1) (by rw [y.y.hs]; exact loc_of h2) (SE.E y.y h3) (.inl (y.hf _))
      · simp only [Bool.and_eq_true] at h
        exact ps_exprE (SE.E y.y h.2) (swaps_no h.1)
      · exact ps_retE (SE.E y.y h)
      · exact ps_retNE
      · exact ps_passE
      · exact ps_brkE
      · exact ps_contE
      · simp only [Bool.and_eq_true] at h
        exact ps_iteE y.cw (SE.T y.y h.1.1) (ihB y h.1.2) (ihB y h.2)
      · simp only [Bool.and_eq_true] at h
        obtain ⟨⟨⟨h1, h2⟩, h3⟩, h4⟩ := h
        obtain ⟨g, ht, hg, _⟩ := pg_def y h1
        exact ps_forE y.cw y.hp y.y.calm (SE.I y.y h2) hg ht (ihB y h4) (folded_no h3)
      · simp only [Bool.and_eq_true] at h
        exact ps_whlE y.cw y.hp (SE.T y.y h.1) (ihB y h.2)
      · cases h
    · intro sc X W y me l h
      unfold ckSs at h
      split at h
      · exact pss_nilE
      · simp only [Bool.and_eq_true] at h
        exact pss_consE y.cw (ihS y h.1) (ihB y h.2)
      · cases h
end

/-! ### a whole program -/
/-- a def of the text, by its term -/
structure DefOk (c : Cfg) (fuel : Nat) (K : Frag) (mg : Str → Option Value) (name : String) (d : Def) : Prop where
  ex : ∃ (qual : Str) (st : Stmt) (f : Addr) (fd : FuncData) (N ps : List Str), L2.Fun K (Str.ofString name) qual st f fd ∧ L2.FnScope N ps (L2.defScope st) ∧ d.n = N.length ∧ d.np = ps.length ∧
    ckSs c.sg N fuel (L2.defScope st) d.body (L2.defBody st) = true ∧ mg (Str.ofString name) = some (.ref f) ∧ L2.Binds K fd ps []
structure ProgOk (c : Cfg) (G : Globs) (Pg : Prog) (K : Frag) (mg : Str → Option Value) : Prop where
  defs : ∀ name d, Pg name = some d → ∃ fuel, DefOk c fuel K mg name d
  sig : ∀ f a, c.sg.sig f = some a → ∃ d, Pg f = some d ∧ d.np = a
  bls : ∀ f, c.sg.bls.contains f = true → mg (Str.ofString f) = none
  globs : ∀ x d, G x = some d → ∃ (u : Value) (v : V), mg (Str.ofString x) = some u ∧ L2.RelV v u ∧ ∀ (m : MM) (H : Hp), RV K c m H d v
theorem prog_ok {P : Program} {w : World} {K : Frag} {mg : Str → Option Value} {base : Heap} {c : Cfg} {G : Globs} {fuel : Nat} {Pg : Prog} (ok : ProgOk c G Pg K mg) : ∀ (k : Nat) (name : String) (d : Def), Pg name = some d →
    ∃ (f : Addr) (fd : FuncData) (ps : List Str), L2.FnOk P w K mg base (L2.CX P w) k f fd ps (spG K c (fun ds S => callA G fuel Pg k name ds S) d.np) ∧ mg (Str.ofString name) = some (.ref f) ∧ PySem.W.keepIn K (.ref f) = true ∧ L2.Binds K fd ps [] ∧ d.np = ps.length := by
  intro k
  induction k with
  | zero =>
    intro name d hd
    obtain ⟨fl, qual, st, f, fd, N, ps, F, Sc, h1, h2, h3, h4, h5⟩ := ok.defs name d hd
    refine ⟨f, fd, ps, ⟨fun vs H Q E h => by rw [← h2]; exact h.1, fun A outer s H args us vs Q E hr he hb hv h => ?_⟩, h4, F.kp, h5, h2⟩
    obtain ⟨_, m, S, ds, _, _, h⟩ := h
    exact (show False from h).elim
  | succ k ih =>
    intro name d hd
    obtain ⟨fl, qual, st, f, fd, N, ps, F, Sc, h1, h2, h3, h4, h5⟩ := ok.defs name d hd
    refine ⟨f, fd, ps, ?_, h4, F.kp, h5, h2⟩
    rw [h2]
    refine fn_okE F Sc hd h1 h2 fun cdv A outer s H E hr => ?_
    refine (snds (c := c) (G := G) (N := N) (k := k) (fuel := fuel) (call := callA G fuel Pg k) fl).2 (sc := L2.defScope st) ⟨⟨rfl, rfl, rfl, Sc.nd, hr, ?_, L2.takes_of rfl rfl rfl rfl, fun f a hf => ?_, ok.bls, ok.globs⟩, fun _ => rfl, Sc.kind, L2.passes_of rfl, fun _ _ _ _ _ h => h⟩ h3
    · have := hr.un
      show (A.deeper _).units + 65 < cLine
      omega
    · obtain ⟨d', hd', rfl⟩ := ok.sig f a hf
      obtain ⟨f', fd', ps', F', g1, g2, g3, _⟩ := ih f d' hd'
      exact ⟨f', fd', ps', F', g1, g2, g3⟩

theorem prog_fn {P : Program} {w : World} {K : Frag} {mg : Str → Option Value} {base : Heap} {c : Cfg} {G : Globs} {fuel : Nat} {Pg : Prog} (ok : ProgOk c G Pg K mg) (k : Nat) {name : String} {d : Def} (hd : Pg name = some d) {qual : Str} {st : Stmt} {f : Addr} {fd : FuncData} {N ps : List Str} {fl : Nat}
    (F : L2.Fun K (Str.ofString name) qual st f fd) (Sc : L2.FnScope N ps (L2.defScope st)) (h1 : d.n = N.length) (h2 : d.np = ps.length) (h3 : ckSs c.sg N fl (L2.defScope st) d.body (L2.defBody st) = true) :
    L2.FnOk P w K mg base (L2.CX P w) (k + 1) f fd ps (spG K c (fun ds S => callA G fuel Pg (k + 1) name ds S) d.np) := by
  rw [h2]
  refine fn_okE F Sc hd h1 h2 fun cdv A outer s H E hr => ?_
  refine (snds (c := c) (G := G) (N := N) (k := k) (fuel := fuel) (call := callA G fuel Pg k) fl).2 (sc := L2.defScope st) ⟨⟨rfl, rfl, rfl, Sc.nd, hr, ?_, L2.takes_of rfl rfl rfl rfl, fun f a hf => ?_, ok.bls, ok.globs⟩, fun _ => rfl, Sc.kind, L2.passes_of rfl, fun _ _ _ _ _ h => h⟩ h3
  · have := hr.un
    show (A.deeper _).units + 65 < cLine
    omega
  · obtain ⟨d', hd', rfl⟩ := ok.sig f a hf
    obtain ⟨f', fd', ps', F', g1, g2, g3, _⟩ := prog_ok ok k f d' hd'
    exact ⟨f', fd', ps', F', g1, g2, g3⟩

/-! ### the law -/
def spLaw (K : Frag) : L2.Sp := fun vs H Q _ => ∃ (a : Addr) (ns : List Int), vs = [.ref a] ∧ SqL K H a (ns.map V.int) ∧ ns.length ≤ 63 ∧ ∀ H', Q (.bl true) H'
theorem ints_rv {K : Frag} {c : Cfg} {m : MM} {H : Hp} : ∀ ns : List Int, RVs K c m H (ns.map D.int) (ns.map V.int)
  | [] => .nil
  | n :: r => .cons (.int n) (ints_rv r)
theorem law_of {K : Frag} {c : Cfg} (ht : c.tabs = []) {f : List D → Store → R D} (hf : ∀ ns : List Int, ns.length ≤ 63 → ∃ S', f [.lst (ns.map .int)] [] = .ok (.bl true) S') (vs : List V) (H : Hp) (Q : VK) (E : XK) (h : spLaw K vs H Q E) : spG K c f 1 vs H Q E := by
  obtain ⟨a, ns, rfl, hs, hl, q⟩ := h
  obtain ⟨S', e⟩ := hf ns hl
  refine ⟨rfl, ⟨[], []⟩, [], [.lst (ns.map .int)], .cons (.lst ?_ (ints_rv ns)) .nil, ⟨rfl, .nil, (fun a h => by cases h), (fun n o h => by simp at h), (fun P hP => by rw [ht] at hP; cases hP)⟩, ?_⟩
  · rcases hs with h | h
    · exact .inl ⟨h, by simp, by simp⟩
    · exact .inr h
  · rw [e]
    intro m' H' _ _ v rv
    cases rv
    exact q H'
end Mn

/-! Mx: the pure side: what an evaluation comes to. -/
namespace Mn
open PySem
/-- not by the simplifier's own looking -/
theorem nr {α : Sort _} {a b : α} (h : a = b) : a = b := h

/-! ### evaluations that come to something -/
def Sat {α : Type} (r : R α) (Q : α → Store → Prop) : Prop := ∃ a S, r = .ok a S ∧ Q a S
section
variable {α β : Type}
theorem Sat.ok {a : α} {S : Store} {Q : α → Store → Prop} (h : Q a S) : Sat (.ok a S) Q := ⟨a, S, rfl, h⟩
theorem Sat.bind {r : R α} {f : α → Store → R β} {P : α → Store → Prop} {Q : β → Store → Prop} (h : Sat r P) (g : ∀ a S, P a S → Sat (f a S) Q) : Sat (r.bind f) Q := by
  obtain ⟨a, S, rfl, p⟩ := h
  exact g a S p
theorem Sat.imp {r : R α} {P Q : α → Store → Prop} (h : Sat r P) (g : ∀ a S, P a S → Q a S) : Sat r Q := by
  obtain ⟨a, S, e, p⟩ := h
  exact ⟨a, S, e, g a S p⟩
theorem Sat.nox {r : R α} {P : α → Store → Prop} (h : Sat r P) : Sat r.nox P := by
  obtain ⟨a, S, rfl, p⟩ := h
  exact ⟨a, S, rfl, p⟩
theorem Sat.eq {r : R α} {a : α} {S : Store} (h : Sat r fun b T => b = a ∧ T = S) : r = .ok a S := by
  obtain ⟨b, T, e, rfl, rfl⟩ := h
  exact e
theorem R.bind_ok {a : α} {S : Store} {f : α → Store → R β} : (R.ok a S).bind f = f a S := nr rfl
theorem ofO_some {a : α} {S : Store} : R.ofO (some a) S = .ok a S := nr rfl
theorem nox_ok {a : α} {S : Store} : (R.ok a S).nox = .ok a S := nr rfl
end

/-! ### comparing -/
mutual
def gd : D → Nat → Bool
  | .non, _ => true
  | .int _, _ => true
  | .str x, _ => PyData.strOk x
  | .tup l, k => match k with
    | 0 => false
    | k + 1 => gds l k
  | .lst l, k => match k with
    | 0 => false
    | k + 1 => gds l k
  | _, _ => false
def gds : List D → Nat → Bool
  | [], _ => true
  | d :: r, k => gd d k && gds r k
end
mutual
theorem gd_py : ∀ (d : D) (k : Nat), gd d k = true → ∃ p, pyG d = some p ∧ p.canLay0 = true ∧ p.depth ≤ k
  | .non, k, _ => ⟨.none, by simp [pyG], by simp [PyData.canLay0], by simp [PyData.depth]⟩
  | .bl _, k, h => by simp [gd] at h
  | .int i, k, _ => ⟨.int i, by simp [pyG], by simp [PyData.canLay0], by simp [PyData.depth]⟩
  | .str x, k, h => ⟨.str x, by simp [pyG], by simpa [PyData.canLay0, gd] using h, by simp [PyData.depth]⟩
  | .tup l, 0, h => by simp [gd] at h
  | .tup l, k + 1, h => by
    obtain ⟨ps, h1, h2, h3⟩ := gds_py l k (by simpa [gd] using h)
    exact ⟨.tuple ps, by simp [pyG, h1], by simpa [PyData.canLay0] using h2, by simp [PyData.depth]; exact h3⟩
  | .lst l, 0, h => by simp [gd] at h
  | .lst l, k + 1, h => by
    obtain ⟨ps, h1, h2, h3⟩ := gds_py l k (by simpa [gd] using h)
    exact ⟨.list ps, by simp [pyG, h1], by simpa [PyData.canLay0] using h2, by simp [PyData.depth]; exact h3⟩
  | .ref _, k, h => by simp [gd] at h
  | .fn _, k, h => by simp [gd] at h
  | .cls _, k, h => by simp [gd] at h
  | .ty _, k, h => by simp [gd] at h
  | .exn _ _, k, h => by simp [gd] at h
theorem gds_py : ∀ (l : List D) (k : Nat), gds l k = true → ∃ ps, pyGs l = some ps ∧ PyData.canLayAll0 ps = true ∧ PyData.depthAll ps ≤ k
  | [], k, _ => ⟨[], by simp [pyGs], by simp [PyData.canLayAll0], by simp [PyData.depthAll]⟩
  | d :: r, k, h => by
    simp only [gds, Bool.and_eq_true] at h
    obtain ⟨p, h1, h2, h3⟩ := gd_py d k h.1
    obtain ⟨ps, g1, g2, g3⟩ := gds_py r k h.2
    exact ⟨p :: ps, by simp [pyGs, h1, g1], by simp [PyData.canLayAll0, h2, g2], by
      simp only [PyData.depthAll]
      exact Nat.max_le.mpr ⟨h3, g3⟩⟩
end
mutual
theorem gd_eqv : ∀ (d e : D) (k j : Nat), gd d k = true → gd e j = true → ∀ p q, pyG d = some p → pyG e = some q → (PyData.eqv p q = true ↔ d = e)
  | .non, e, k, j, _, h, p, q, hp, hq => by
    simp only [pyG, Option.some.injEq] at hp
    subst hp
    cases e <;> simp_all [gd, pyG] <;> (try subst hp) <;> (try subst hq) <;> (try (obtain ⟨_, _, rfl⟩ := hq)) <;> (try subst q) <;> (try simp [PyData.eqv])
  | .bl _, e, k, j, h, _, p, q, hp, hq => by simp [gd] at h
  | .int i, e, k, j, _, h, p, q, hp, hq => by
    cases e <;> simp_all [gd, pyG] <;> (try subst hp) <;> (try subst hq) <;> (try (obtain ⟨_, _, rfl⟩ := hq)) <;> (try simp [PyData.eqv])
  | .str x, e, k, j, _, h, p, q, hp, hq => by
    cases e <;> simp_all [gd, pyG] <;> (try subst hp) <;> (try subst hq) <;> (try (obtain ⟨_, _, rfl⟩ := hq)) <;> (try simp [PyData.eqv])
  | .tup l, e, 0, j, h, _, p, q, hp, hq => by simp [gd] at h
  | .tup l, e, k + 1, j, h, h', p, q, hp, hq => by
    cases e with
    | tup m =>
      cases j with
      | zero => simp [gd] at h'
      | succ j =>
        simp only [gd] at h h'
        simp only [pyG, Option.map_eq_some_iff] at hp hq
        obtain ⟨ps, hp, rfl⟩ := hp
        obtain ⟨qs, hq, rfl⟩ := hq
        simp only [PyData.eqv, D.tup.injEq]
        exact gds_eqv l m k j h h' ps qs hp hq
    | _ => simp_all [gd, pyG] <;> (try subst hq) <;> (try (obtain ⟨_, _, rfl⟩ := hq)) <;> (try (obtain ⟨_, _, rfl⟩ := hp)) <;> simp [PyData.eqv]
  | .lst l, e, 0, j, h, _, p, q, hp, hq => by simp [gd] at h
  | .lst l, e, k + 1, j, h, h', p, q, hp, hq => by
    cases e with
    | lst m =>
      cases j with
      | zero => simp [gd] at h'
      | succ j =>
        simp only [gd] at h h'
        simp only [pyG, Option.map_eq_some_iff] at hp hq
        obtain ⟨ps, hp, rfl⟩ := hp
        obtain ⟨qs, hq, rfl⟩ := hq
        simp only [PyData.eqv, D.lst.injEq]
        exact gds_eqv l m k j h h' ps qs hp hq
    | _ => simp_all [gd, pyG] <;> (try subst hq) <;> (try (obtain ⟨_, _, rfl⟩ := hq)) <;> (try (obtain ⟨_, _, rfl⟩ := hp)) <;> simp [PyData.eqv]
  | .ref _, e, k, j, h, _, p, q, hp, hq => by simp [gd] at h
  | .fn _, e, k, j, h, _, p, q, hp, hq => by simp [gd] at h
  | .cls _, e, k, j, h, _, p, q, hp, hq => by simp [gd] at h
  | .ty _, e, k, j, h, _, p, q, hp, hq => by simp [gd] at h
  | .exn _ _, e, k, j, h, _, p, q, hp, hq => by simp [gd] at h
theorem gds_eqv : ∀ (d e : List D) (k j : Nat), gds d k = true → gds e j = true → ∀ p q, pyGs d = some p → pyGs e = some q → (PyData.eqvAll p q = true ↔ d = e)
  | [], [], k, j, _, _, p, q, hp, hq => by
    simp [pyGs] at hp hq
    subst hp hq
    simp [PyData.eqvAll]
  | [], e :: es, k, j, _, h, p, q, hp, hq => by
    simp only [gds, Bool.and_eq_true] at h
    obtain ⟨b, h1, _⟩ := gd_py e j h.1
    obtain ⟨bs, g1, _⟩ := gds_py es j h.2
    simp [pyGs, h1, g1] at hp hq
    subst hp hq
    simp [PyData.eqvAll]
  | e :: es, [], k, j, h, _, p, q, hp, hq => by
    simp only [gds, Bool.and_eq_true] at h
    obtain ⟨b, h1, _⟩ := gd_py e k h.1
    obtain ⟨bs, g1, _⟩ := gds_py es k h.2
    simp [pyGs, h1, g1] at hp hq
    subst hp hq
    simp [PyData.eqvAll]
  | d :: ds, e :: es, k, j, h, h', p, q, hp, hq => by
    simp only [gds, Bool.and_eq_true] at h h'
    obtain ⟨b, h1, _⟩ := gd_py e j h'.1
    obtain ⟨bs, g1, _⟩ := gds_py es j h'.2
    obtain ⟨a, h2, _⟩ := gd_py d k h.1
    obtain ⟨as, g2, _⟩ := gds_py ds k h.2
    simp [pyGs, h1, g1, h2, g2] at hp hq
    subst hp hq
    simp only [PyData.eqvAll, Bool.and_eq_true, List.cons.injEq, gd_eqv d e k j h.1 h'.1 a b h2 h1, gds_eqv ds es k j h.2 h'.2 as bs g2 g1]
end
noncomputable instance decD : DecidableEq D := fun _ _ => Classical.propDecidable _
theorem py_gd {S : Store} {d : D} {k : Nat} (h : gd d k = true) : py S d = pyG d := by
  cases d <;> first | rfl | simp [gd] at h
theorem eqA_gd {S : Store} {d e : D} (hd : gd d 64 = true) (he : gd e 64 = true) : eqA S d e = some (decide (d = e)) := by
  obtain ⟨p, h1, h2, h3⟩ := gd_py d 64 hd
  obtain ⟨q, g1, g2, g3⟩ := gd_py e 64 he
  have sp : SeqAt.shaped p = true := by simp [SeqAt.shaped, h2, h3]
  have sq : SeqAt.shaped q = true := by simp [SeqAt.shaped, g2, g3]
  have r := gd_eqv d e 64 64 hd he p q h1 g1
  unfold eqA
  rw [py_gd hd, py_gd he, h1, g1]
  simp only [Option.bind_some, sp, sq, and_self, if_true, Option.some.injEq]
  by_cases x : d = e
  · rw [decide_eq_true x, r.mpr x]
  · rw [decide_eq_false x]
    cases y : p.eqv q with
    | true => exact absurd (r.mp y) x
    | false => rfl
theorem eqA_bl {S : Store} (a b : Bool) : eqA S (.bl a) (.bl b) = some (a == b) := by
  cases a <;> cases b <;> rfl
mutual
theorem gd_mono : ∀ (d : D) (k j : Nat), gd d k = true → k ≤ j → gd d j = true
  | .non, k, j, h, _ => by simp [gd]
  | .bl _, k, j, h, _ => by simp [gd] at h
  | .int _, k, j, h, _ => by simp [gd]
  | .str _, k, j, h, _ => by simpa [gd] using h
  | .tup l, 0, j, h, _ => by simp [gd] at h
  | .tup l, k + 1, 0, h, hj => by omega
  | .tup l, k + 1, j + 1, h, hj => by
    simp only [gd] at h ⊢
    exact gds_mono l k j h (by omega)
  | .lst l, 0, j, h, _ => by simp [gd] at h
  | .lst l, k + 1, 0, h, hj => by omega
  | .lst l, k + 1, j + 1, h, hj => by
    simp only [gd] at h ⊢
    exact gds_mono l k j h (by omega)
  | .ref _, k, j, h, _ => by simp [gd] at h
  | .fn _, k, j, h, _ => by simp [gd] at h
  | .cls _, k, j, h, _ => by simp [gd] at h
  | .ty _, k, j, h, _ => by simp [gd] at h
  | .exn _ _, k, j, h, _ => by simp [gd] at h
theorem gds_mono : ∀ (d : List D) (k j : Nat), gds d k = true → k ≤ j → gds d j = true
  | [], k, j, _, _ => by simp [gds]
  | d :: r, k, j, h, hj => by
    simp only [gds, Bool.and_eq_true] at h ⊢
    exact ⟨gd_mono d k j h.1 hj, gds_mono r k j h.2 hj⟩
end
theorem gds_of {l : List D} {k : Nat} (h : ∀ d ∈ l, gd d k = true) : gds l k = true := by
  induction l with
  | nil => simp [gds]
  | cons d r ih =>
    simp only [gds, Bool.and_eq_true]
    exact ⟨h d (by simp), ih fun x hx => h x (by simp [hx])⟩
theorem gds_mem {l : List D} {k : Nat} (h : gds l k = true) : ∀ d ∈ l, gd d k = true := by
  induction l with
  | nil => simp
  | cons d r ih =>
    simp only [gds, Bool.and_eq_true] at h
    intro x hx
    rcases List.mem_cons.mp hx with rfl | hx
    · exact h.1
    · exact ih h.2 x hx
mutual
/-- what may be compared holds no refs -/
theorem gd_below : ∀ (d : D) (k n : Nat), gd d k = true → below n d = true
  | .non, k, n, h => by simp [below]
  | .bl _, k, n, h => by simp [below]
  | .int _, k, n, h => by simp [below]
  | .str _, k, n, h => by simp [below]
  | .tup l, 0, n, h => by simp [gd] at h
  | .tup l, k + 1, n, h => by
    simp only [gd, below] at h ⊢
    exact gds_below l k n h
  | .lst l, 0, n, h => by simp [gd] at h
  | .lst l, k + 1, n, h => by
    simp only [gd, below] at h ⊢
    exact gds_below l k n h
  | .ref _, k, n, h => by simp [gd] at h
  | .fn _, k, n, h => by simp [gd] at h
  | .cls _, k, n, h => by simp [gd] at h
  | .ty _, k, n, h => by simp [gd] at h
  | .exn _ _, k, n, h => by simp [gd] at h
theorem gds_below : ∀ (d : List D) (k n : Nat), gds d k = true → belows n d = true
  | [], k, n, _ => by simp [belows]
  | d :: r, k, n, h => by
    simp only [gds, belows, Bool.and_eq_true] at h ⊢
    exact ⟨gd_below d k n h.1, gds_below r k n h.2⟩
end

/-! ### leaving a def -/
theorem oldOk_refl (S : Store) : oldOk S S := ⟨Nat.le_refl _, fun i h => .inl rfl⟩
theorem oldOk_set {S : Store} {a : Nat} {o : O} (h : belowO S.length o = true) : oldOk S (S.set a o) := by
  refine ⟨by simp, fun i hi => ?_⟩
  by_cases e : a = i
  · subst e
    exact .inr ⟨o, by simp [hi], h⟩
  · exact .inl (by simp [List.getElem?_set_ne e])
theorem outD_below {S : Store} {n : Nat} {d : D} (h : below n d = true) : outD S n d = some d := by
  unfold outD
  rw [if_pos h]
/-- a def that hands back data and keeps the store as long as it was -/
theorem leave_rt {S S' : Store} {d : D} (h : oldOk S S') (hl : S'.length = S.length) (hd : below S.length d = true) : leave .pure S (.ok (.rt d) S') = .ok d S' := by
  show fin .pure S d S' = _
  unfold fin
  rw [if_pos h, outD_below hd]
  show R.ok d (S'.take S.length) = _
  rw [← hl, List.take_length]
theorem leave_same {S : Store} {d : D} (hd : below S.length d = true) : leave .pure S (.ok (.rt d) S) = .ok d S := leave_rt (oldOk_refl S) rfl hd
theorem leave_new {S : Store} {l : List D} (h : belows S.length l = true) : leave .new S (.ok (.rt (.ref S.length)) (S ++ [.lst l])) = .ok (.ref S.length) (S ++ [.lst l]) := by
  show fin .new S (.ref S.length) (S ++ [.lst l]) = _
  unfold fin
  have o : oldOk S (S ++ [.lst l]) := ⟨by simp, fun i hi => .inl (by simp [List.getElem?_append_left hi])⟩
  simp [h, o]
theorem Sat.leave {S : Store} {r : R F} {Q : D → Store → Prop} (h : Sat r fun f S' => ∃ d, f = .rt d ∧ oldOk S S' ∧ S'.length = S.length ∧ below S.length d = true ∧ Q d S') : Sat (leave .pure S r) Q := by
  obtain ⟨f, S', rfl, d, rfl, h1, h2, h3, h4⟩ := h
  rw [leave_rt h1 h2 h3]
  exact ⟨d, S', rfl, h4⟩

/-! ### single steps -/
section
variable {v : Bool} {S : Store} {i j : Int}
theorem add_i : binA v .Add (.int i) (.int j) S = .ok (.int (i + j)) S := nr rfl
theorem sub_i : binA v .Sub (.int i) (.int j) S = .ok (.int (i - j)) S := nr rfl
theorem mul_r (h : -(2 ^ 64) < j ∧ j < 2 ^ 64) : binA v .Mult (.int i) (.int j) S = .ok (.int (i * j)) S := by
  show (if (-(2 ^ 64) < i ∧ i < 2 ^ 64) ∨ (-(2 ^ 64) < j ∧ j < 2 ^ 64) then R.ok (D.int (i * j)) S else .bad) = _
  rw [if_pos (.inr h)]
theorem mul_l (h : -(2 ^ 64) < i ∧ i < 2 ^ 64) : binA v .Mult (.int i) (.int j) S = .ok (.int (i * j)) S := by
  show (if (-(2 ^ 64) < i ∧ i < 2 ^ 64) ∨ (-(2 ^ 64) < j ∧ j < 2 ^ 64) then R.ok (D.int (i * j)) S else .bad) = _
  rw [if_pos (.inl h)]
theorem mod_i (h : 0 < j) : binA v .Mod (.int i) (.int j) S = .ok (.int (i % j)) S := by
  show R.ofO ((ariA .Mod i j).map D.int) S = _
  simp [ariA, h, R.ofO]
theorem div_i (h : 0 < j ∧ j < 1073741824) : binA v .FloorDiv (.int i) (.int j) S = .ok (.int (i / j)) S := by
  show R.ofO ((ariA .FloorDiv i j).map D.int) S = _
  simp [ariA, h, R.ofO]
theorem pow_i (h : 0 ≤ j ∧ j ≤ 1000000) (h2 : -(2 ^ 64) < i ∧ i < 2 ^ 64) : binA v .Pow (.int i) (.int j) S = .ok (.int (i ^ j.toNat)) S := by
  have : i.natAbs < 2 ^ 64 := by omega
  show R.ofO ((if 0 ≤ j ∧ j ≤ 1000000 ∧ i.natAbs < 2 ^ 64 then some (i ^ j.toNat) else none).map D.int) S = _
  rw [if_pos ⟨h.1, h.2, this⟩]
  rfl
theorem ls_i : cmpA .Lt (.int i) (.int j) S = some (decide (i < j)) := nr rfl
theorem le_i : cmpA .LtE (.int i) (.int j) S = some (decide (i ≤ j)) := nr rfl
theorem gt_i : cmpA .Gt (.int i) (.int j) S = some (decide (j < i)) := nr rfl
theorem ge_i : cmpA .GtE (.int i) (.int j) S = some (decide (j ≤ i)) := nr rfl
theorem eq_i : cmpA .Eq (.int i) (.int j) S = some (decide (i = j)) := by
  show eqA S (.int i) (.int j) = _
  rw [eqA_gd (by simp [gd]) (by simp [gd])]
  simp
theorem eq_g {d e : D} (hd : gd d 64 = true) (he : gd e 64 = true) : cmpA .Eq d e S = some (decide (d = e)) := eqA_gd hd he
theorem ne_g {d e : D} (hd : gd d 64 = true) (he : gd e 64 = true) : cmpA .NotEq d e S = some (!decide (d = e)) := by
  show (eqA S d e).map _ = _
  rw [eqA_gd hd he]
  rfl
theorem ne_b {a b : Bool} : cmpA .NotEq (.bl a) (.bl b) S = some (!(a == b)) := by
  show (eqA S (.bl a) (.bl b)).map (!·) = _
  rw [eqA_bl]
  rfl
theorem tr_b {b : Bool} : truthA S (.bl b) = some b := nr rfl
theorem tr_i : truthA S (.int i) = some (i != 0) := nr rfl
theorem atI_nat {α : Type} {l : List α} {n : Nat} : L2.atI l (n : Int) = l[n]? := by
  unfold L2.atI L2.ixN
  rw [if_pos (by omega)]
  by_cases h : (n : Int) < l.length
  · rw [if_pos h]
    simp
  · rw [if_neg h]
    simp; omega
theorem atI_pos {α : Type} {l : List α} (h : 0 ≤ i) : L2.atI l i = l[i.toNat]? := by
  obtain ⟨n, rfl⟩ := Int.eq_ofNat_of_zero_le h
  rw [atI_nat]; rfl
theorem atI_neg {α : Type} {l : List α} {k : Nat} (h : k < l.length) : L2.atI l (-1 - (k : Int)) = l[l.length - 1 - k]? := by
  unfold L2.atI L2.ixN
  rw [if_neg (by omega), if_pos (by omega)]
  show l[(-1 - (k : Int) + l.length).toNat]? = _
  congr 1
  omega
theorem sub_t {l : List D} : subA S (.tup l) (.int i) = L2.atI l i := nr rfl
theorem sub_l {l : List D} : subA S (.lst l) (.int i) = L2.atI l i := nr rfl
theorem sub_r {n : Nat} {l : List D} (h : S[n]? = some (.lst l)) : subA S (.ref n) (.int i) = L2.atI l i := by
  show (seqA S (.ref n)).bind _ = _
  unfold seqA seqL
  simp [h]
theorem cut_to {l : List D} {k : Nat} : cutA l none (some (k : Int)) = l.take k := by
  unfold cutA
  rw [HT.sIx_nat, HT.sIx_none]
  simp
theorem cut_from {l : List D} {k : Nat} : cutA l (some (k : Int)) none = l.drop k := by
  unfold cutA
  rw [HT.sIx_nat, HT.sIx_none]
  by_cases h : k ≤ l.length
  · rw [Nat.min_eq_left h, List.take_of_length_le (by simp)]
  · rw [Nat.min_eq_right (by omega), List.drop_of_length_le (by omega : l.length ≤ k)]
    simp
theorem cut_mid {l : List D} {k m : Nat} : cutA l (some (k : Int)) (some ((k + m : Nat) : Int)) = (l.drop k).take m := by
  unfold cutA
  rw [HT.sIx_nat, HT.sIx_nat]
  by_cases h : k ≤ l.length
  · rw [Nat.min_eq_left h]
    by_cases h2 : k + m ≤ l.length
    · rw [Nat.min_eq_left h2]; congr 1; omega
    · rw [Nat.min_eq_right (by omega), List.take_of_length_le (by simp), List.take_of_length_le (by simp; omega)]
  · rw [Nat.min_eq_right (by omega : l.length ≤ k), List.drop_of_length_le (by omega : l.length ≤ k)]
    simp
theorem mkL_v {l : List D} (h : l.length ≤ sizeLine) : mkL true l S = .ok (.lst l) S := by
  unfold mkL
  rw [if_pos h]; rfl
theorem mkL_r {l : List D} (h : l.length ≤ sizeLine) : mkL false l S = .ok (.ref S.length) (S ++ [.lst l]) := by
  unfold mkL
  rw [if_pos h]; rfl
theorem mkT_v {l : List D} (h : l.length ≤ sizeLine) : mkT l S = .ok (.tup l) S := by
  unfold mkT
  rw [if_pos h]
theorem slc_t {l : List D} {a b : Option Int} : slcA v (.tup l) a b S = .ok (.tup (cutA l a b)) S := nr rfl
theorem slc_l {l : List D} {a b : Option Int} : slcA v (.lst l) a b S = mkL v (cutA l a b) S := nr rfl
theorem add_t {a b : List D} (h : a.length + b.length ≤ sizeLine) : binA v .Add (.tup a) (.tup b) S = .ok (.tup (a ++ b)) S := by
  show (if _ then _ else _) = _
  rw [if_pos h]
theorem add_l {a b : List D} : binA v .Add (.lst a) (.lst b) S = mkL v (a ++ b) S := nr rfl
theorem len_t {l : List D} : bltA v "len" [.tup l] S = .ok (.int l.length) S := nr rfl
theorem len_l {l : List D} : bltA v "len" [.lst l] S = .ok (.int l.length) S := nr rfl
theorem list_t {l : List D} : bltA v "list" [.tup l] S = mkL v l S := nr rfl
theorem list_l {l : List D} : bltA v "list" [.lst l] S = mkL v l S := nr rfl
theorem tuple_l {l : List D} : bltA v "tuple" [.lst l] S = mkT l S := nr rfl
theorem tuple_r {n : Nat} {l : List D} (h : S[n]? = some (.lst l)) : bltA v "tuple" [.ref n] S = mkT l S := by
  show (match seqL S (.ref n) with | some l => mkT l S | none => R.bad) = _
  unfold seqL
  simp [h]
theorem max_i : bltA v "max" [.int i, .int j] S = .ok (.int (if j > i then j else i)) S := nr rfl
theorem set_r {n k : Nat} {l : List D} {d : D} (h : S[n]? = some (.lst l)) (hk : k < l.length) : setA (.ref n) (.int (k : Int)) d S = .ok () (S.set n (.lst (l.set k d))) := by
  show (match S[n]? with | some (.lst l) => (match L2.ixN l.length (k : Int) with | some j => R.ok () (S.set n (.lst (l.set j d))) | none => .bad) | _ => .bad) = _
  rw [h]
  have : L2.ixN l.length (k : Int) = some k := by
    unfold L2.ixN
    rw [if_pos (by omega), if_pos (by omega)]
    simp
  simp only [this]
end

/-! ### loops -/
def nxQ (I : Env → Store → Prop) (Q : F → Store → Prop) (f : F) (S : Store) : Prop := match f with
  | .nx e => I e S
  | .ct e => I e S
  | .bk e => Q (.nx e) S
  | .rt d => Q (.rt d) S
theorem gdOk_nil {S : Store} : gdOk S [] := True.intro
theorem gdOf_tup {S : Store} {l : List D} : gdOf S (.tup l) = [] := nr rfl
theorem gdOf_lst {S : Store} {l : List D} : gdOf S (.lst l) = [] := nr rfl
theorem for_sat {tg : Tg} {b : Env → Store → R F} {l : List D} {Q : F → Store → Prop} (I : Nat → Env → Store → Prop)
    (step : ∀ i d e S, l[i]? = some d → I i e S → ∃ e1, asg tg d e = some e1 ∧ Sat (b e1 S) (nxQ (I (i + 1)) Q)) (hend : ∀ e S, I l.length e S → Q (.nx e) S) :
    ∀ {e S}, I 0 e S → Sat (forA [] tg b l e S) Q := by
  suffices h : ∀ (r : List D) (i : Nat) (e : Env) (S : Store), l = l.take i ++ r → i ≤ l.length → I i e S → Sat (forA [] tg b r e S) Q from fun {e S} z => h l 0 e S (by simp) (by omega) z
  intro r
  induction r with
  | nil =>
    intro i e S hl hi z
    have : i = l.length := by
      have := congrArg List.length hl
      simp at this
      omega
    subst this
    unfold forA
    rw [if_pos gdOk_nil]
    exact .ok (hend e S z)
  | cons d r ih =>
    intro i e S hl hi z
    have hi2 : (l.take i).length = i := by simp; omega
    have hd : l[i]? = some d := by
      rw [hl, List.getElem?_append_right (by omega), hi2]
      simp
    have hlt : i < l.length := (List.getElem?_eq_some_iff.mp hd).1
    have hn : l = l.take (i + 1) ++ r := by
      rw [List.take_succ, hd]
      simpa using hl
    obtain ⟨e1, h1, h2⟩ := step i d e S hd z
    unfold forA
    rw [if_pos gdOk_nil, h1]
    refine h2.bind fun f S1 hf => ?_
    cases f with
    | nx e2 => exact ih (i + 1) e2 S1 hn hlt hf
    | ct e2 => exact ih (i + 1) e2 S1 hn hlt hf
    | bk e2 => exact .ok hf
    | rt d => exact .ok hf
theorem comp_sat {tg : Tg} {c : Env → Store → R Bool} {t : Env → Store → R D} {e0 : Env} {l : List D} (I : Nat → List D → Store → Prop)
    (step : ∀ i d acc S, l[i]? = some d → I i acc S → ∃ e1, asg tg d e0 = some e1 ∧ Sat (c e1 S) fun ok S1 => if ok = true then acc.length < sizeLine ∧ Sat (t e1 S1) fun y S2 => I (i + 1) (acc ++ [y]) S2 else I (i + 1) acc S1) :
    ∀ {acc S}, I 0 acc S → Sat (compA [] tg c t e0 l acc S) (I l.length) := by
  suffices h : ∀ (r : List D) (i : Nat) (acc : List D) (S : Store), l = l.take i ++ r → i ≤ l.length → I i acc S → Sat (compA [] tg c t e0 r acc S) (I l.length) from fun {acc S} z => h l 0 acc S (by simp) (by omega) z
  intro r
  induction r with
  | nil =>
    intro i e S hl hi z
    have : i = l.length := by
      have := congrArg List.length hl
      simp at this
      omega
    subst this
    unfold compA
    rw [if_pos gdOk_nil]
    exact .ok z
  | cons d r ih =>
    intro i acc S hl hi z
    have hi2 : (l.take i).length = i := by simp; omega
    have hd : l[i]? = some d := by
      rw [hl, List.getElem?_append_right (by omega), hi2]
      simp
    have hlt : i < l.length := (List.getElem?_eq_some_iff.mp hd).1
    have hn : l = l.take (i + 1) ++ r := by
      rw [List.take_succ, hd]
      simpa using hl
    obtain ⟨e1, h1, h2⟩ := step i d acc S hd z
    unfold compA
    rw [if_pos gdOk_nil, h1]
    refine h2.nox.bind fun ok S1 hf => ?_
    by_cases ho : ok = true
    · rw [if_pos ho] at hf ⊢
      refine hf.2.nox.bind fun y S2 hy => ?_
      rw [if_pos hf.1]
      exact ih (i + 1) _ S2 hn hlt hy
    · rw [if_neg ho] at hf ⊢
      exact ih (i + 1) _ S1 hn hlt hf
theorem while_sat {c : Env → Store → R Bool} {b : Env → Store → R F} {Q : F → Store → Prop} (I : Nat → Env → Store → Prop)
    (step : ∀ m e S, I m e S → Sat (c e S) fun t S1 => if t = true then Sat (b e S1) (nxQ (fun e2 S2 => ∃ j, j < m ∧ I j e2 S2) Q) else Q (.nx e) S1) :
    ∀ n m e S, m < n → I m e S → Sat (whileA n c b e S) Q := by
  intro n
  induction n with
  | zero => intro m e S h; omega
  | succ n ih =>
    intro m e S hm z
    unfold whileA
    refine (step m e S z).bind fun t S1 ht => ?_
    by_cases h : t = true
    · rw [if_pos h] at ht ⊢
      refine ht.bind fun f S2 hf => ?_
      cases f with
      | nx e2 =>
        obtain ⟨j, hj, z⟩ := hf
        exact ih j e2 S2 (by omega) z
      | ct e2 =>
        obtain ⟨j, hj, z⟩ := hf
        exact ih j e2 S2 (by omega) z
      | bk e2 => exact .ok hf
      | rt d => exact .ok hf
    · rw [if_neg h] at ht ⊢
      exact .ok ht
theorem rng_get {a c : Int} {n i : Nat} {d : D} (h : (rng a n c)[i]? = some d) : i < n ∧ d = .int (a + i * c) := by
  unfold rng at h
  simp only [List.getElem?_map, Option.map_eq_some_iff] at h
  obtain ⟨x, hx, rfl⟩ := h
  obtain ⟨h1, h2⟩ := List.getElem?_eq_some_iff.mp hx
  simp at h1 h2
  subst h2
  exact ⟨h1, rfl⟩
theorem rng_len {a c : Int} {n : Nat} : (rng a n c).length = n := by simp [rng]
theorem sz {n : Nat} (h : n ≤ 100000) : n ≤ sizeLine := Nat.le_trans h (by decide)
theorem sz' {n : Nat} (h : n ≤ 100000) : n < sizeLine := Nat.lt_of_le_of_lt h (by decide)

/-! ### stores -/
theorem get_set {S : Store} {a : Nat} {o o' : O} (h : S[a]? = some o) : (S.set a o')[a]? = some o' := by
  have := (List.getElem?_eq_some_iff.mp h).1
  simp [this]
theorem get_set_ne {S : Store} {a b : Nat} {o' : O} (h : a ≠ b) : (S.set a o')[b]? = S[b]? := List.getElem?_set_ne h
theorem get_push {S : Store} {o : O} : (S ++ [o])[S.length]? = some o := by simp
theorem get_push_old {S : Store} {o o' : O} {a : Nat} (h : S[a]? = some o) : (S ++ [o'])[a]? = some o := by
  have := (List.getElem?_eq_some_iff.mp h).1
  rw [List.getElem?_append_left this, h]

/-! ### the evaluator, step by step -/
theorem R.bind_assoc {α β γ : Type} {r : R α} {f : α → Store → R β} {g : β → Store → R γ} : (r.bind f).bind g = r.bind fun a S => (f a S).bind g := by
  cases r <;> rfl
section
variable {G : Globs} {N : Nat} {call : String → List D → Store → R D} {e : Env} {S : Store}
noncomputable def nxK (G : Globs) (N : Nat) (call : String → List D → Store → R D) (r : Sts) (f : F) (S : Store) : R F := match f with
  | .nx e1 => exB G N call r e1 S
  | f => .ok f S
noncomputable def forB (G : Globs) (N : Nat) (call : String → List D → Store → R D) (g : Gd) (tg : Tg) (b : Sts) (l : List D) (e : Env) (S : Store) : R F := forA g tg (fun e S => exB G N call b e S) l e S
noncomputable def whlB (G : Globs) (N : Nat) (call : String → List D → Store → R D) (c : E) (b : Sts) (e : Env) (S : Store) : R F := whileA N (fun e S => tru (evE G call c e S)) (fun e S => exB G N call b e S) e S
noncomputable def cmpB (G : Globs) (call : String → List D → Store → R D) (g : Gd) (tg : Tg) (c : Oe) (t : E) (e0 : Env) (l : List D) (S : Store) : R (List D) := compA g tg (fun e S => tru (evOc G call c e S)) (fun e S => evE G call t e S) e0 l [] S
noncomputable def iteB (G : Globs) (N : Nat) (call : String → List D → Store → R D) (a b : Sts) (e : Env) (t : Bool) (S : Store) : R F := if t then exB G N call a e S else exB G N call b e S
theorem nx_nx {r : Sts} : nxK G N call r (.nx e) S = exB G N call r e S := nr rfl
theorem nx_rt {r : Sts} {d : D} : nxK G N call r (.rt d) S = .ok (.rt d) S := nr rfl
theorem nx_bk {r : Sts} : nxK G N call r (.bk e) S = .ok (.bk e) S := nr rfl
theorem nx_ct {r : Sts} : nxK G N call r (.ct e) S = .ok (.ct e) S := nr rfl
theorem ite_t {a b : Sts} : iteB G N call a b e true S = exB G N call a e S := nr rfl
theorem ite_f {a b : Sts} : iteB G N call a b e false S = exB G N call b e S := nr rfl
theorem x_nil : exB G N call .nil e S = .ok (.nx e) S := by simp only [exB]
theorem x_cons {s : St} {r : Sts} : exB G N call (.cons s r) e S = (exS G N call s e S).bind (nxK G N call r) := by
  rw [exB]
  congr 1
theorem x_set {i : Nat} {a : E} : exS G N call (.set i a) e S = (evE G call a e S).bind fun x S1 => .ok (.nx (e.set i (some x))) S1 := by rw [exS]
theorem x_unp {is : List Nat} {a : E} : exS G N call (.unp is a) e S = (evE G call a e S).bind fun x S1 => match asg (.tp is) x e with
    | some e1 => .ok (.nx e1) S1
    | none => .bad := by first | (rw [exS]; done) | (rw [exS]; rfl)
theorem x_sets {a i b : E} : exS G N call (.sets a i b) e S = (evE G call b e S).bind fun y S1 => (evE G call a e S1).bind fun x S2 => (evE G call i e S2).bind fun k S3 => (setA x k y S3).bind fun _ S4 => .ok (.nx e) S4 := by rw [exS]
theorem x_aug {i : Nat} {op : Operator} {a : E} {x : D} (h : e[i]? = some (some x)) : exS G N call (.aug i op a) e S = (evE G call a e S).bind fun y S1 => (augA op x y S1).bind fun z S2 => .ok (.nx (e.set i (some z))) S2 := by
  rw [exS, h]
theorem x_expr {a : E} : exS G N call (.expr a) e S = (evE G call a e S).bind fun _ S1 => .ok (.nx e) S1 := by rw [exS]
theorem x_ret {a : E} : exS G N call (.ret a) e S = (evE G call a e S).bind fun x S1 => .ok (.rt x) S1 := by rw [exS]
theorem x_pass : exS G N call .pass e S = .ok (.nx e) S := by rw [exS]
theorem x_brk : exS G N call .brk e S = .ok (.bk e) S := by rw [exS]
theorem x_cont : exS G N call .cont e S = .ok (.ct e) S := by rw [exS]
theorem x_ite {c : E} {a b : Sts} : exS G N call (.ite c a b) e S = (evE G call c e S).bind fun d S1 => (R.ofO (truthA S1 d) S1).bind (iteB G N call a b e) := by
  rw [exS]
  unfold tru
  rw [R.bind_assoc]
  rfl
theorem x_for {tg : Tg} {it : It} {b : Sts} : exS G N call (.for tg it b) e S = (evIt G call it e S).bind fun w S1 => forB G N call w.2 tg b w.1 e S1 := by first | (rw [exS]; done) | (rw [exS]; rfl)
theorem x_whl {c : E} {b : Sts} : exS G N call (.whl c b) e S = whlB G N call c b e S := by first | (rw [exS]; done) | (rw [exS]; rfl)
theorem v_bl {b : Bool} : evE G call (.bl b) e S = .ok (.bl b) S := by rw [evE]
theorem v_int {b : Int} : evE G call (.int b) e S = .ok (.int b) S := by rw [evE]
theorem v_str {b : Str} : evE G call (.str b) e S = .ok (.str b) S := by rw [evE]
theorem v_ty {b : String} : evE G call (.ty b) e S = .ok (.ty b) S := by rw [evE]
theorem v_non : evE G call .non e S = .ok .non S := by rw [evE]
theorem v_var {i : Nat} : evE G call (.var i) e S = match e[i]? with
    | some (some d) => .ok d S
    | _ => .bad := by first | (rw [evE]; done) | (rw [evE]; rfl)
theorem v_tup {es : Es} : evE G call (.tup es) e S = (evEs G call es e S).bind fun ds S1 => mkT ds S1 := by rw [evE]
theorem v_lst {v : Bool} {es : Es} : evE G call (.lst v es) e S = (evEs G call es e S).bind fun ds S1 => mkL v ds S1 := by rw [evE]
theorem v_bin {v : Bool} {op : Operator} {a b : E} : evE G call (.bin v op a b) e S = (evE G call a e S).bind fun x S1 => (evE G call b e S1).bind fun y S2 => binA v op x y S2 := by rw [evE]
theorem v_neg {a : E} : evE G call (.neg a) e S = (evE G call a e S).bind fun x S1 => R.ofO (negA x) S1 := by rw [evE]
theorem v_not {a : E} : evE G call (.not a) e S = (evE G call a e S).bind fun d S1 => (R.ofO (truthA S1 d) S1).bind fun t S1 => .ok (.bl (!t)) S1 := by
  rw [evE]
  unfold tru
  rw [R.bind_assoc]
theorem v_cmp {op : CmpOp} {a b : E} : evE G call (.cmp op a b) e S = (evE G call a e S).bind fun x S1 => (evE G call b e S1).bind fun y S2 => (R.ofO (cmpA op x y S2) S2).bind fun t S3 => .ok (.bl t) S3 := by rw [evE]
noncomputable def andB (G : Globs) (call : String → List D → Store → R D) (b : E) (e : Env) (x : D) (t : Bool) (S : Store) : R D := if t then evE G call b e S else .ok x S
noncomputable def orB (G : Globs) (call : String → List D → Store → R D) (b : E) (e : Env) (x : D) (t : Bool) (S : Store) : R D := if t then .ok x S else evE G call b e S
theorem v_and {a b : E} : evE G call (.and a b) e S = (evE G call a e S).bind fun x S1 => (R.ofO (truthA S1 x) S1).bind (andB G call b e x) := by first | (rw [evE]; done) | (rw [evE]; rfl)
theorem v_or {a b : E} : evE G call (.or a b) e S = (evE G call a e S).bind fun x S1 => (R.ofO (truthA S1 x) S1).bind (orB G call b e x) := by first | (rw [evE]; done) | (rw [evE]; rfl)
theorem and_t {b : E} {x : D} : andB G call b e x true S = evE G call b e S := nr rfl
theorem and_f {b : E} {x : D} : andB G call b e x false S = .ok x S := nr rfl
theorem or_t {b : E} {x : D} : orB G call b e x true S = .ok x S := nr rfl
theorem or_f {b : E} {x : D} : orB G call b e x false S = evE G call b e S := nr rfl
theorem v_ife {c a b : E} : evE G call (.ife c a b) e S = (evE G call c e S).bind fun d S1 => (R.ofO (truthA S1 d) S1).bind fun t S1 => if t then evE G call a e S1 else evE G call b e S1 := by
  rw [evE]
  unfold tru
  rw [R.bind_assoc]
theorem v_call {f : String} {es : Es} : evE G call (.call f es) e S = (evEs G call es e S).bind fun ds S1 => call f ds S1 := by rw [evE]
theorem v_blt {v : Bool} {f : String} {es : Es} : evE G call (.blt v f es) e S = (evEs G call es e S).bind fun ds S1 => bltA v f ds S1 := by rw [evE]
theorem v_mth {T m : String} {o : E} {es : Es} : evE G call (.mth T m o es) e S = (evE G call o e S).bind fun x S1 => (R.ofO (recvA T S1 x) S1).bind fun _ S2 => (evEs G call es e S2).bind fun ds S3 => mthA T m x ds S3 := by rw [evE]
theorem v_sub {a i : E} : evE G call (.sub a i) e S = (evE G call a e S).bind fun x S1 => (evE G call i e S1).bind fun y S2 => R.ofO (subA S2 x y) S2 := by rw [evE]
theorem v_slc {v : Bool} {a : E} {lo hi : Oe} : evE G call (.slc v a lo hi) e S = (evE G call a e S).bind fun x S1 => (evOe G call lo e S1).bind fun l S2 => (evOe G call hi e S2).bind fun h S3 => slcA v x l h S3 := by rw [evE]
theorem v_comp {v : Bool} {own : List Nat} {tg : Tg} {it : It} {c : Oe} {t : E} : evE G call (.comp v own tg it c t) e S = (evIt G call it e S).bind fun w S1 => (cmpB G call w.2 tg c t (wipe e own) w.1 S1).bind fun l S2 => mkL v l S2 := by first | (rw [evE]; done) | (rw [evE]; rfl)
theorem o_none : evOe G call .none e S = .ok none S := by rw [evOe]
theorem o_some {a : E} : evOe G call (.some a) e S = (evE G call a e S).bind fun x S1 => (R.ofO (optI x) S1).bind fun i S2 => .ok (some i) S2 := by rw [evOe]
theorem oc_none : evOc G call .none e S = .ok (.bl true) S := by rw [evOc]
theorem oc_some {a : E} : evOc G call (.some a) e S = evE G call a e S := by rw [evOc]
theorem s_nil : evEs G call .nil e S = .ok [] S := by rw [evEs]
theorem s_cons {a : E} {r : Es} : evEs G call (.cons a r) e S = (evE G call a e S).bind fun x S1 => (evEs G call r e S1).bind fun xs S2 => .ok (x :: xs) S2 := by rw [evEs]
theorem i_seq {a : E} : evIt G call (.seq a) e S = (evE G call a e S).bind fun x S1 => (R.ofO (itemsOf S1 x) S1).bind fun l S2 => .ok (l, gdOf S2 x) S2 := by rw [evIt]
theorem i_rng1 {a : E} : evIt G call (.rng1 a) e S = (evE G call a e S).bind fun x S1 => match x with
    | .int j => if -(2 ^ 62) ≤ j ∧ j < 2 ^ 62 then .ok (rng 0 j.toNat 1, []) S1 else .bad
    | _ => .bad := by first | (rw [evIt]; done) | (rw [evIt]; rfl)
theorem i_rng2 {a b : E} : evIt G call (.rng2 a b) e S = (evE G call a e S).bind fun x S1 => (evE G call b e S1).bind fun y S2 => match x, y with
    | .int i, .int j => if -(2 ^ 62) ≤ i ∧ i < 2 ^ 62 ∧ -(2 ^ 62) ≤ j ∧ j < 2 ^ 62 then .ok (rng i (j - i).toNat 1, []) S2 else .bad
    | _, _ => .bad := by first | (rw [evIt]; done) | (rw [evIt]; rfl)
theorem i_enum {a : E} : evIt G call (.enum a) e S = (evE G call a e S).bind fun x S1 => (R.ofO (seqL S1 x) S1).bind fun l S2 => .ok (enumF 0 l, gdOf S2 x) S2 := by rw [evIt]
theorem optI_i {i : Int} : optI (.int i) = some i := nr rfl
theorem itm_t {l : List D} : itemsOf S (.tup l) = some l := nr rfl
theorem itm_l {l : List D} : itemsOf S (.lst l) = some l := nr rfl
theorem seqL_l {l : List D} : seqL S (.lst l) = some l := nr rfl
theorem aug_i {i j : Int} : augA .Add (.int i) (.int j) S = .ok (.int (i + j)) S := nr rfl
theorem neg_i {i : Int} : negA (.int i) = some (.int (-i)) := nr rfl
end
end Mn


/-! the terms of the text's defs, and the looks at them -/
namespace K04
open PySem Mn
def d_shortest_round : Def := ⟨1, 3, .pure,
    (.cons (.set 1 (.blt true "len" (.cons (.var 0) .nil)))
      (.cons (.for (.nm 2) (.rng2 (.int 1) (.var 1)) (.cons (.ite (.and (.cmp .Eq (.bin true .Mod (.var 1) (.var 2)) (.int 0)) (.cmp .Eq (.slc true (.var 0) (.some (.var 2)) .none) (.slc true (.var 0) .none (.some (.bin true .Sub (.var 1) (.var 2)))))) (.cons (.ret (.slc true (.var 0) .none (.some (.var 2))))
      .nil) .nil)
      .nil))
      (.cons (.ret (.var 0))
      .nil)))⟩
def d_lean : Def := ⟨1, 6, .pure,
    (.cons (.unp [5, 1] (.var 0))
      (.cons (.set 1 (.call "shortest_round" (.cons (.var 1) .nil)))
      (.cons (.set 2 (.blt true "len" (.cons (.var 1) .nil)))
      (.cons (.set 3 (.int 0))
      (.cons (.whl (.and (.cmp .Lt (.var 3) (.blt true "len" (.cons (.var 5) .nil))) (.cmp .Eq (.sub (.var 5) (.bin true .Sub (.neg (.int 1)) (.var 3))) (.sub (.var 1) (.bin true .Sub (.neg (.int 1)) (.bin true .Mod (.var 3) (.var 2)))))) (.cons (.aug 3 .Add (.int 1))
      .nil))
      (.cons (.set 4 (.bin true .Sub (.var 2) (.bin true .Mod (.var 3) (.var 2))))
      (.cons (.ret (.tup (.cons (.slc true (.var 5) .none (.some (.bin true .Sub (.blt true "len" (.cons (.var 5) .nil)) (.var 3)))) (.cons (.bin true .Add (.slc true (.var 1) (.some (.var 4)) .none) (.slc true (.var 1) .none (.some (.var 4)))) .nil))))
      .nil)))))))⟩
def d_are_one : Def := ⟨2, 2, .pure,
    (.cons (.ret (.cmp .Eq (.call "lean" (.cons (.var 0) .nil)) (.call "lean" (.cons (.var 1) .nil))))
      .nil)⟩
def d__law_mixed : Def := ⟨2, 2, .pure,
    (.cons (.set 0 (.bin true .Mod (.bin true .Mult (.bin true .Add (.bin true .Add (.bin true .Mod (.var 0) (.int 2147483647)) (.bin true .Mult (.bin true .Mult (.int 7919) (.var 1)) (.var 1))) (.bin true .Mult (.int 31) (.var 1))) (.int 48271)) (.int 2147483647)))
      (.cons (.ret (.bin true .Mod (.bin true .Mult (.var 0) (.bin true .Add (.int 69621) (.bin true .Mult (.int 2) (.var 1)))) (.int 2147483629)))
      .nil))⟩
def d__law_stream : Def := ⟨2, 2, .new,
    (.cons (.ret (.lst false (.cons (.cmp .GtE (.var 0) (.bin true .Pow (.int 10) (.int 18))) (.cons (.var 0) (.cons (.int 0) (.cons (.call "_law_mixed" (.cons (.var 0) (.cons (.var 1) .nil))) .nil))))))
      .nil)⟩
def d__law_take : Def := ⟨2, 3, .pure,
    (.cons (.sets (.var 0) (.int 2) (.bin true .Add (.sub (.var 0) (.int 2)) (.int 1)))
      (.cons (.ite (.or (.not (.sub (.var 0) (.int 0))) (.or (.cmp .In (.sub (.var 0) (.int 1)) (.tup (.cons (.int 0) (.cons (.neg (.int 1)) .nil)))) (.cmp .Gt (.sub (.var 0) (.int 2)) (.int 60)))) (.cons (.ret (.bin true .Mod (.call "_law_mixed" (.cons (.call "_law_mixed" (.cons (.sub (.var 0) (.int 3)) (.cons (.sub (.var 0) (.int 2)) .nil))) (.cons (.int 7) .nil))) (.var 1)))
      .nil) .nil)
      (.cons (.set 2 (.bin true .Mod (.sub (.var 0) (.int 1)) (.var 1)))
      (.cons (.sets (.var 0) (.int 1) (.bin true .FloorDiv (.sub (.var 0) (.int 1)) (.var 1)))
      (.cons (.ret (.var 2))
      .nil)))))⟩
def d__law_turn_by : Def := ⟨1, 1, .pure,
    (.cons (.ret (.tup (.cons (.call "_law_take" (.cons (.var 0) (.cons (.int 2) .nil))) (.cons (.sub (.lst true (.cons (.int 0) (.cons (.int 0) (.cons (.int 1) .nil)))) (.call "_law_take" (.cons (.var 0) (.cons (.int 3) .nil)))) .nil))))
      .nil)⟩
def d__law_loop_by : Def := ⟨1, 4, .pure,
    (.cons (.set 1 (.comp true [3] (.nm 3) (.rng1 (.call "_law_take" (.cons (.var 0) (.cons (.int 7) .nil)))) .none (.call "_law_turn_by" (.cons (.var 0) .nil))))
      (.cons (.set 2 (.comp true [3] (.nm 3) (.rng1 (.bin true .Add (.int 1) (.call "_law_take" (.cons (.var 0) (.cons (.int 6) .nil))))) .none (.call "_law_turn_by" (.cons (.var 0) .nil))))
      (.cons (.ite (.cmp .Eq (.call "_law_take" (.cons (.var 0) (.cons (.int 3) .nil))) (.int 1)) (.cons (.set 2 (.bin true .Mult (.slc true (.var 2) .none (.some (.bin true .Add (.int 1) (.call "_law_take" (.cons (.var 0) (.cons (.int 3) .nil)))))) (.bin true .Add (.int 1) (.call "_law_take" (.cons (.var 0) (.cons (.int 3) .nil))))))
      .nil) .nil)
      (.cons (.ite (.cmp .Eq (.call "_law_take" (.cons (.var 0) (.cons (.int 3) .nil))) (.int 1)) (.cons (.set 1 (.bin true .Add (.slc true (.var 1) .none (.some (.int 2))) (.bin true .Mult (.var 2) (.int 2))))
      .nil) .nil)
      (.cons (.ret (.tup (.cons (.blt true "tuple" (.cons (.var 1) .nil)) (.cons (.blt true "tuple" (.cons (.var 2) .nil)) .nil))))
      .nil)))))⟩
def d__law_row : Def := ⟨2, 3, .pure,
    (.cons (.set 2 (.blt true "list" (.cons (.sub (.var 0) (.int 0)) .nil)))
      (.cons (.whl (.cmp .Lt (.blt true "len" (.cons (.var 2) .nil)) (.var 1)) (.cons (.set 2 (.bin true .Add (.var 2) (.blt true "list" (.cons (.sub (.var 0) (.int 1)) .nil))))
      .nil))
      (.cons (.ret (.slc true (.var 2) .none (.some (.var 1))))
      .nil)))⟩
def d__law_same : Def := ⟨2, 3, .pure,
    (.cons (.set 2 (.bin true .Add (.blt true "max" (.cons (.blt true "len" (.cons (.sub (.var 0) (.int 0)) .nil)) (.cons (.blt true "len" (.cons (.sub (.var 1) (.int 0)) .nil)) .nil))) (.bin true .Mult (.blt true "len" (.cons (.sub (.var 0) (.int 1)) .nil)) (.blt true "len" (.cons (.sub (.var 1) (.int 1)) .nil)))))
      (.cons (.ret (.cmp .Eq (.call "_law_row" (.cons (.var 0) (.cons (.var 2) .nil))) (.call "_law_row" (.cons (.var 1) (.cons (.var 2) .nil)))))
      .nil))⟩
def d__law_other : Def := ⟨2, 6, .pure,
    (.cons (.set 2 (.call "_law_take" (.cons (.var 0) (.cons (.int 9) .nil))))
      (.cons (.set 3 (.call "_law_row" (.cons (.var 1) (.cons (.bin true .Add (.bin true .Add (.blt true "len" (.cons (.sub (.var 1) (.int 0)) .nil)) (.var 2)) (.blt true "len" (.cons (.sub (.var 1) (.int 1)) .nil))) .nil))))
      (.cons (.set 4 (.blt true "tuple" (.cons (.slc true (.var 3) .none (.some (.bin true .Add (.blt true "len" (.cons (.sub (.var 1) (.int 0)) .nil)) (.var 2)))) .nil)))
      (.cons (.set 5 (.blt true "tuple" (.cons (.slc true (.var 3) (.some (.bin true .Add (.blt true "len" (.cons (.sub (.var 1) (.int 0)) .nil)) (.var 2))) .none) .nil)))
      (.cons (.ret (.tup (.cons (.var 4) (.cons (.bin true .Mult (.var 5) (.bin true .Add (.int 1) (.call "_law_take" (.cons (.var 0) (.cons (.int 3) .nil))))) .nil))))
      .nil)))))⟩
def d__law_least : Def := ⟨1, 5, .pure,
    (.cons (.set 1 (.call "_law_row" (.cons (.var 0) (.cons (.int 200) .nil))))
      (.cons (.for (.nm 2) (.rng2 (.int 1) (.bin true .Add (.blt true "len" (.cons (.sub (.var 0) (.int 1)) .nil)) (.int 1))) (.cons (.for (.nm 3) (.rng1 (.bin true .Add (.blt true "len" (.cons (.sub (.var 0) (.int 0)) .nil)) (.int 1))) (.cons (.set 4 (.tup (.cons (.blt true "tuple" (.cons (.slc true (.var 1) .none (.some (.var 3))) .nil)) (.cons (.blt true "tuple" (.cons (.slc true (.var 1) (.some (.var 3)) (.some (.bin true .Add (.var 3) (.var 2)))) .nil)) .nil))))
      (.cons (.ite (.call "_law_same" (.cons (.var 4) (.cons (.var 0) .nil))) (.cons (.ret (.var 4))
      .nil) .nil)
      .nil)))
      .nil))
      (.cons (.ret (.var 0))
      .nil)))⟩
def d_law : Def := ⟨1, 13, .pure,
    (.cons (.for (.tp [1, 2]) (.enum (.slc true (.bin true .Add (.var 0) (.lst true (.cons (.int 0) .nil))) .none (.some (.int 63)))) (.cons (.set 3 (.call "_law_stream" (.cons (.var 2) (.cons (.var 1) .nil))))
      (.cons (.set 4 (.call "_law_loop_by" (.cons (.var 3) .nil)))
      (.cons (.set 5 (.call "_law_least" (.cons (.var 4) .nil)))
      (.cons (.set 6 (.call "_law_other" (.cons (.var 3) (.cons (.var 4) .nil))))
      (.cons (.for (.nm 7) (.seq (.tup (.cons (.var 4) (.cons (.var 6) (.cons (.var 5) .nil))))) (.cons (.set 11 (.call "lean" (.cons (.var 7) .nil)))
      (.cons (.ite (.or (.cmp .NotEq (.var 11) (.var 5)) (.or (.not (.blt true "isinstance" (.cons (.var 11) (.cons (.ty "tuple") .nil)))) (.not (.blt true "isinstance" (.cons (.sub (.var 11) (.int 0)) (.cons (.ty "tuple") .nil)))))) (.cons (.ret (.bl false))
      .nil) .nil)
      .nil)))
      (.cons (.set 8 (.blt false "list" (.cons (.sub (.var 4) (.int 1)) .nil)))
      (.cons (.set 9 (.call "_law_take" (.cons (.var 3) (.cons (.blt true "len" (.cons (.var 8) .nil)) .nil))))
      (.cons (.sets (.var 8) (.var 9) (.tup (.cons (.bin true .Sub (.int 1) (.sub (.sub (.var 8) (.var 9)) (.int 0))) (.cons (.sub (.sub (.var 8) (.var 9)) (.int 1)) .nil))))
      (.cons (.set 10 (.call "_law_loop_by" (.cons (.var 3) .nil)))
      (.cons (.for (.tp [7, 12]) (.seq (.lst true (.cons (.tup (.cons (.var 4) (.cons (.var 6) .nil))) (.cons (.tup (.cons (.var 6) (.cons (.var 5) .nil))) (.cons (.tup (.cons (.var 4) (.cons (.tup (.cons (.sub (.var 4) (.int 0)) (.cons (.blt true "tuple" (.cons (.var 8) .nil)) .nil))) .nil))) (.cons (.tup (.cons (.var 10) (.cons (.var 4) .nil))) (.cons (.tup (.cons (.var 4) (.cons (.var 10) .nil))) .nil))))))) (.cons (.set 11 (.call "are_one" (.cons (.var 7) (.cons (.var 12) .nil))))
      (.cons (.ite (.or (.not (.blt true "isinstance" (.cons (.var 11) (.cons (.ty "bool") .nil)))) (.cmp .NotEq (.var 11) (.call "_law_same" (.cons (.var 7) (.cons (.var 12) .nil))))) (.cons (.ret (.bl false))
      .nil) .nil)
      .nil)))
      .nil)))))))))))
      (.cons (.ret (.bl true))
      .nil))⟩
def topS (i : Nat) : Stmt := PySem.Challenge.pw_wishkeep_k04_whole_lean_loops.main.body.getD i (.Pass ⟨0, 0, 0, 0⟩)
def Pg : Prog := fun s => match s with
  | "shortest_round" => some d_shortest_round
  | "lean" => some d_lean
  | "are_one" => some d_are_one
  | "_law_mixed" => some d__law_mixed
  | "_law_stream" => some d__law_stream
  | "_law_take" => some d__law_take
  | "_law_turn_by" => some d__law_turn_by
  | "_law_loop_by" => some d__law_loop_by
  | "_law_row" => some d__law_row
  | "_law_same" => some d__law_same
  | "_law_other" => some d__law_other
  | "_law_least" => some d__law_least
  | "law" => some d_law
  | _ => none
def sg : Sg := ⟨["bool", "enumerate", "isinstance", "len", "list", "max", "range", "tuple"], fun s => (Pg s).map (·.np)⟩
abbrev s_shortest_round : Stmt := topS 1
theorem sc_shortest_round : L2.FnScope ["turns", "many", "length"] ["turns"] (L2.defScope s_shortest_round) := ⟨rfl, rfl, rfl, by decide +kernel, rfl, by decide +kernel, by decide +kernel⟩
theorem ck_shortest_round : ckSs sg ["turns", "many", "length"] 60 (L2.defScope s_shortest_round) d_shortest_round.body (L2.defBody s_shortest_round) = true := by decide +kernel
abbrev s_lean : Stmt := topS 2
theorem sc_lean : L2.FnScope ["loop", "again", "many", "alike", "cut", "stem"] ["loop"] (L2.defScope s_lean) := ⟨rfl, rfl, rfl, by decide +kernel, rfl, by decide +kernel, by decide +kernel⟩
theorem ck_lean : ckSs sg ["loop", "again", "many", "alike", "cut", "stem"] 60 (L2.defScope s_lean) d_lean.body (L2.defBody s_lean) = true := by decide +kernel
abbrev s_are_one : Stmt := topS 3
theorem sc_are_one : L2.FnScope ["one", "other"] ["one", "other"] (L2.defScope s_are_one) := ⟨rfl, rfl, rfl, by decide +kernel, rfl, by decide +kernel, by decide +kernel⟩
theorem ck_are_one : ckSs sg ["one", "other"] 60 (L2.defScope s_are_one) d_are_one.body (L2.defBody s_are_one) = true := by decide +kernel
abbrev s__law_mixed : Stmt := topS 5
theorem sc__law_mixed : L2.FnScope ["_law_number", "_law_k"] ["_law_number", "_law_k"] (L2.defScope s__law_mixed) := ⟨rfl, rfl, rfl, by decide +kernel, rfl, by decide +kernel, by decide +kernel⟩
theorem ck__law_mixed : ckSs sg ["_law_number", "_law_k"] 60 (L2.defScope s__law_mixed) d__law_mixed.body (L2.defBody s__law_mixed) = true := by decide +kernel
abbrev s__law_stream : Stmt := topS 6
theorem sc__law_stream : L2.FnScope ["_law_cell", "_law_k"] ["_law_cell", "_law_k"] (L2.defScope s__law_stream) := ⟨rfl, rfl, rfl, by decide +kernel, rfl, by decide +kernel, by decide +kernel⟩
theorem ck__law_stream : ckSs sg ["_law_cell", "_law_k"] 60 (L2.defScope s__law_stream) d__law_stream.body (L2.defBody s__law_stream) = true := by decide +kernel
abbrev s__law_take : Stmt := topS 7
theorem sc__law_take : L2.FnScope ["_law_stream_here", "_law_many", "_law_number"] ["_law_stream_here", "_law_many"] (L2.defScope s__law_take) := ⟨rfl, rfl, rfl, by decide +kernel, rfl, by decide +kernel, by decide +kernel⟩
theorem ck__law_take : ckSs sg ["_law_stream_here", "_law_many", "_law_number"] 60 (L2.defScope s__law_take) d__law_take.body (L2.defBody s__law_take) = true := by decide +kernel
abbrev s__law_turn_by : Stmt := topS 8
theorem sc__law_turn_by : L2.FnScope ["_law_stream_here"] ["_law_stream_here"] (L2.defScope s__law_turn_by) := ⟨rfl, rfl, rfl, by decide +kernel, rfl, by decide +kernel, by decide +kernel⟩
theorem ck__law_turn_by : ckSs sg ["_law_stream_here"] 60 (L2.defScope s__law_turn_by) d__law_turn_by.body (L2.defBody s__law_turn_by) = true := by decide +kernel
abbrev s__law_loop_by : Stmt := topS 9
theorem sc__law_loop_by : L2.FnScope ["_law_stream_here", "_law_stem", "_law_around", "_law_k"] ["_law_stream_here"] (L2.defScope s__law_loop_by) := ⟨rfl, rfl, rfl, by decide +kernel, rfl, by decide +kernel, by decide +kernel⟩
theorem ck__law_loop_by : ckSs sg ["_law_stream_here", "_law_stem", "_law_around", "_law_k"] 60 (L2.defScope s__law_loop_by) d__law_loop_by.body (L2.defBody s__law_loop_by) = true := by decide +kernel
abbrev s__law_row : Stmt := topS 10
theorem sc__law_row : L2.FnScope ["_law_loop", "_law_many", "_law_row_here"] ["_law_loop", "_law_many"] (L2.defScope s__law_row) := ⟨rfl, rfl, rfl, by decide +kernel, rfl, by decide +kernel, by decide +kernel⟩
theorem ck__law_row : ckSs sg ["_law_loop", "_law_many", "_law_row_here"] 60 (L2.defScope s__law_row) d__law_row.body (L2.defBody s__law_row) = true := by decide +kernel
abbrev s__law_same : Stmt := topS 11
theorem sc__law_same : L2.FnScope ["_law_one", "_law_other_here", "_law_far"] ["_law_one", "_law_other_here"] (L2.defScope s__law_same) := ⟨rfl, rfl, rfl, by decide +kernel, rfl, by decide +kernel, by decide +kernel⟩
theorem ck__law_same : ckSs sg ["_law_one", "_law_other_here", "_law_far"] 60 (L2.defScope s__law_same) d__law_same.body (L2.defBody s__law_same) = true := by decide +kernel
abbrev s__law_other : Stmt := topS 12
theorem sc__law_other : L2.FnScope ["_law_stream_here", "_law_loop", "_law_many", "_law_row_here", "_law_stem", "_law_around"] ["_law_stream_here", "_law_loop"] (L2.defScope s__law_other) := ⟨rfl, rfl, rfl, by decide +kernel, rfl, by decide +kernel, by decide +kernel⟩
theorem ck__law_other : ckSs sg ["_law_stream_here", "_law_loop", "_law_many", "_law_row_here", "_law_stem", "_law_around"] 60 (L2.defScope s__law_other) d__law_other.body (L2.defBody s__law_other) = true := by decide +kernel
abbrev s__law_least : Stmt := topS 13
theorem sc__law_least : L2.FnScope ["_law_loop", "_law_row_here", "_law_many", "_law_begin", "_law_tried"] ["_law_loop"] (L2.defScope s__law_least) := ⟨rfl, rfl, rfl, by decide +kernel, rfl, by decide +kernel, by decide +kernel⟩
theorem ck__law_least : ckSs sg ["_law_loop", "_law_row_here", "_law_many", "_law_begin", "_law_tried"] 60 (L2.defScope s__law_least) d__law_least.body (L2.defBody s__law_least) = true := by decide +kernel
abbrev s_law : Stmt := topS 14
theorem sc_law : L2.FnScope ["_law_script", "_law_k", "_law_cell", "_law_stream_here", "_law_loop", "_law_due", "_law_other_here", "_law_one", "_law_row_here", "_law_at", "_law_strange", "_law_found", "_law_two"] ["_law_script"] (L2.defScope s_law) := ⟨rfl, rfl, rfl, by decide +kernel, rfl, by decide +kernel, by decide +kernel⟩
theorem ck_law : ckSs sg ["_law_script", "_law_k", "_law_cell", "_law_stream_here", "_law_loop", "_law_due", "_law_other_here", "_law_one", "_law_row_here", "_law_at", "_law_strange", "_law_found", "_law_two"] 60 (L2.defScope s_law) d_law.body (L2.defBody s_law) = true := by decide +kernel
end K04


/-! the end: what the top has written -/
namespace K04
open PySem PySem.Spec PyProof.Rows Mn
theorem law_all {l : PySem.W.OpenLaw} {w : World} {K : PySem.W.Frag} {h : Heap} {mg : Str → Option Value} {fa : Addr} (X : K.In h) (G : h.Ns mainGlobals mg) (hfa : mg "law" = some (.ref fa))
    {od0 an0 : Option Addr} {sl0 : Array (Option Value)} {oc0 kV0 dc0 pm0 cd0 ct0 : Value} {f0 : Addr}
    {od1 an1 : Option Addr} {sl1 : Array (Option Value)} {oc1 kV1 dc1 pm1 cd1 ct1 : Value} {f1 : Addr}
    {od2 an2 : Option Addr} {sl2 : Array (Option Value)} {oc2 kV2 dc2 pm2 cd2 ct2 : Value} {f2 : Addr}
    {od3 an3 : Option Addr} {sl3 : Array (Option Value)} {oc3 kV3 dc3 pm3 cd3 ct3 : Value} {f3 : Addr}
    {od4 an4 : Option Addr} {sl4 : Array (Option Value)} {oc4 kV4 dc4 pm4 cd4 ct4 : Value} {f4 : Addr}
    {od5 an5 : Option Addr} {sl5 : Array (Option Value)} {oc5 kV5 dc5 pm5 cd5 ct5 : Value} {f5 : Addr}
    {od6 an6 : Option Addr} {sl6 : Array (Option Value)} {oc6 kV6 dc6 pm6 cd6 ct6 : Value} {f6 : Addr}
    {od7 an7 : Option Addr} {sl7 : Array (Option Value)} {oc7 kV7 dc7 pm7 cd7 ct7 : Value} {f7 : Addr}
    {od8 an8 : Option Addr} {sl8 : Array (Option Value)} {oc8 kV8 dc8 pm8 cd8 ct8 : Value} {f8 : Addr}
    {od9 an9 : Option Addr} {sl9 : Array (Option Value)} {oc9 kV9 dc9 pm9 cd9 ct9 : Value} {f9 : Addr}
    {od10 an10 : Option Addr} {sl10 : Array (Option Value)} {oc10 kV10 dc10 pm10 cd10 ct10 : Value} {f10 : Addr}
    {od11 an11 : Option Addr} {sl11 : Array (Option Value)} {oc11 kV11 dc11 pm11 cd11 ct11 : Value} {f11 : Addr}
    {od12 an12 : Option Addr} {sl12 : Array (Option Value)} {oc12 kV12 dc12 pm12 cd12 ct12 : Value} {f12 : Addr}
    (a0 : PySem.W.nsIn K mainGlobals "shortest_round" = some (some (.ref f0))) (l0 : K.lookup f0 = some ⟨oc0, od0, .func (PySem.W.fnOf "shortest_round" "shortest_round" (L2.defArgs s_shortest_round) (L2.defBody s_shortest_round) (L2.defScope s_shortest_round) .none kV0 dc0 pm0 an0 cd0 ct0), sl0⟩) (c0 : PySem.W.codeIn K cd0 "shortest_round" = true) (k0 : PySem.W.keepIn K (.ref f0) = true)
    (a1 : PySem.W.nsIn K mainGlobals "lean" = some (some (.ref f1))) (l1 : K.lookup f1 = some ⟨oc1, od1, .func (PySem.W.fnOf "lean" "lean" (L2.defArgs s_lean) (L2.defBody s_lean) (L2.defScope s_lean) .none kV1 dc1 pm1 an1 cd1 ct1), sl1⟩) (c1 : PySem.W.codeIn K cd1 "lean" = true) (k1 : PySem.W.keepIn K (.ref f1) = true)
    (a2 : PySem.W.nsIn K mainGlobals "are_one" = some (some (.ref f2))) (l2 : K.lookup f2 = some ⟨oc2, od2, .func (PySem.W.fnOf "are_one" "are_one" (L2.defArgs s_are_one) (L2.defBody s_are_one) (L2.defScope s_are_one) .none kV2 dc2 pm2 an2 cd2 ct2), sl2⟩) (c2 : PySem.W.codeIn K cd2 "are_one" = true) (k2 : PySem.W.keepIn K (.ref f2) = true)
    (a3 : PySem.W.nsIn K mainGlobals "_law_mixed" = some (some (.ref f3))) (l3 : K.lookup f3 = some ⟨oc3, od3, .func (PySem.W.fnOf "_law_mixed" "_law_mixed" (L2.defArgs s__law_mixed) (L2.defBody s__law_mixed) (L2.defScope s__law_mixed) .none kV3 dc3 pm3 an3 cd3 ct3), sl3⟩) (c3 : PySem.W.codeIn K cd3 "_law_mixed" = true) (k3 : PySem.W.keepIn K (.ref f3) = true)
    (a4 : PySem.W.nsIn K mainGlobals "_law_stream" = some (some (.ref f4))) (l4 : K.lookup f4 = some ⟨oc4, od4, .func (PySem.W.fnOf "_law_stream" "_law_stream" (L2.defArgs s__law_stream) (L2.defBody s__law_stream) (L2.defScope s__law_stream) .none kV4 dc4 pm4 an4 cd4 ct4), sl4⟩) (c4 : PySem.W.codeIn K cd4 "_law_stream" = true) (k4 : PySem.W.keepIn K (.ref f4) = true)
    (a5 : PySem.W.nsIn K mainGlobals "_law_take" = some (some (.ref f5))) (l5 : K.lookup f5 = some ⟨oc5, od5, .func (PySem.W.fnOf "_law_take" "_law_take" (L2.defArgs s__law_take) (L2.defBody s__law_take) (L2.defScope s__law_take) .none kV5 dc5 pm5 an5 cd5 ct5), sl5⟩) (c5 : PySem.W.codeIn K cd5 "_law_take" = true) (k5 : PySem.W.keepIn K (.ref f5) = true)
    (a6 : PySem.W.nsIn K mainGlobals "_law_turn_by" = some (some (.ref f6))) (l6 : K.lookup f6 = some ⟨oc6, od6, .func (PySem.W.fnOf "_law_turn_by" "_law_turn_by" (L2.defArgs s__law_turn_by) (L2.defBody s__law_turn_by) (L2.defScope s__law_turn_by) .none kV6 dc6 pm6 an6 cd6 ct6), sl6⟩) (c6 : PySem.W.codeIn K cd6 "_law_turn_by" = true) (k6 : PySem.W.keepIn K (.ref f6) = true)
    (a7 : PySem.W.nsIn K mainGlobals "_law_loop_by" = some (some (.ref f7))) (l7 : K.lookup f7 = some ⟨oc7, od7, .func (PySem.W.fnOf "_law_loop_by" "_law_loop_by" (L2.defArgs s__law_loop_by) (L2.defBody s__law_loop_by) (L2.defScope s__law_loop_by) .none kV7 dc7 pm7 an7 cd7 ct7), sl7⟩) (c7 : PySem.W.codeIn K cd7 "_law_loop_by" = true) (k7 : PySem.W.keepIn K (.ref f7) = true)
    (a8 : PySem.W.nsIn K mainGlobals "_law_row" = some (some (.ref f8))) (l8 : K.lookup f8 = some ⟨oc8, od8, .func (PySem.W.fnOf "_law_row" "_law_row" (L2.defArgs s__law_row) (L2.defBody s__law_row) (L2.defScope s__law_row) .none kV8 dc8 pm8 an8 cd8 ct8), sl8⟩) (c8 : PySem.W.codeIn K cd8 "_law_row" = true) (k8 : PySem.W.keepIn K (.ref f8) = true)
    (a9 : PySem.W.nsIn K mainGlobals "_law_same" = some (some (.ref f9))) (l9 : K.lookup f9 = some ⟨oc9, od9, .func (PySem.W.fnOf "_law_same" "_law_same" (L2.defArgs s__law_same) (L2.defBody s__law_same) (L2.defScope s__law_same) .none kV9 dc9 pm9 an9 cd9 ct9), sl9⟩) (c9 : PySem.W.codeIn K cd9 "_law_same" = true) (k9 : PySem.W.keepIn K (.ref f9) = true)
    (a10 : PySem.W.nsIn K mainGlobals "_law_other" = some (some (.ref f10))) (l10 : K.lookup f10 = some ⟨oc10, od10, .func (PySem.W.fnOf "_law_other" "_law_other" (L2.defArgs s__law_other) (L2.defBody s__law_other) (L2.defScope s__law_other) .none kV10 dc10 pm10 an10 cd10 ct10), sl10⟩) (c10 : PySem.W.codeIn K cd10 "_law_other" = true) (k10 : PySem.W.keepIn K (.ref f10) = true)
    (a11 : PySem.W.nsIn K mainGlobals "_law_least" = some (some (.ref f11))) (l11 : K.lookup f11 = some ⟨oc11, od11, .func (PySem.W.fnOf "_law_least" "_law_least" (L2.defArgs s__law_least) (L2.defBody s__law_least) (L2.defScope s__law_least) .none kV11 dc11 pm11 an11 cd11 ct11), sl11⟩) (c11 : PySem.W.codeIn K cd11 "_law_least" = true) (k11 : PySem.W.keepIn K (.ref f11) = true)
    (a12 : PySem.W.nsIn K mainGlobals "law" = some (some (.ref f12))) (l12 : K.lookup f12 = some ⟨oc12, od12, .func (PySem.W.fnOf "law" "law" (L2.defArgs s_law) (L2.defBody s_law) (L2.defScope s_law) .none kV12 dc12 pm12 an12 cd12 ct12), sl12⟩) (c12 : PySem.W.codeIn K cd12 "law" = true) (k12 : PySem.W.keepIn K (.ref f12) = true)
    (z0 : PySem.W.nsIn K mainGlobals "bool" = some none) (z1 : PySem.W.nsIn K mainGlobals "enumerate" = some none) (z2 : PySem.W.nsIn K mainGlobals "isinstance" = some none) (z3 : PySem.W.nsIn K mainGlobals "len" = some none) (z4 : PySem.W.nsIn K mainGlobals "list" = some none) (z5 : PySem.W.nsIn K mainGlobals "max" = some none) (z6 : PySem.W.nsIn K mainGlobals "range" = some none) (z7 : PySem.W.nsIn K mainGlobals "tuple" = some none)
    (hlaw : ∀ ns : List Int, ns.length ≤ 63 → ∃ S', callA (fun _ => none) 1000000 Pg 40 "law" [.lst (ns.map .int)] [] = .ok (.bl true) S') :
    ∃ fd : FuncData, (∀ (s : Shared) (v : Value), BindsTo s fd ⟨[v], []⟩ [("_law_script", v)]) ∧ ∀ base : Heap, K.In base → base.Ns mainGlobals mg → L2.FnOk l.prog w K mg base (L2.CX l.prog w) 40 fa fd ["_law_script"] (spLaw K) := by
  have ok : ProgOk ⟨fun _ => none, fun _ => none, [], sg⟩ (fun _ => none) Pg K mg := by
    refine ⟨fun name d hd => ?_, fun f a hf => ?_, fun f hf => ?_, fun x d h => by cases h⟩
    · unfold Pg at hd
      split at hd
      · cases hd
        have F := L2.fun_mk (st := s_shortest_round) l0 c0 k0
        exact ⟨60, ⟨_, _, _, _, _, _, F, sc_shortest_round, rfl, rfl, ck_shortest_round, PySem.W.mg_of X G a0, F.binds (ps := ["turns"]) fun _ _ _ _ _ _ us hl => match us, hl with | [_], _ => rfl⟩⟩
      · cases hd
        have F := L2.fun_mk (st := s_lean) l1 c1 k1
        exact ⟨60, ⟨_, _, _, _, _, _, F, sc_lean, rfl, rfl, ck_lean, PySem.W.mg_of X G a1, F.binds (ps := ["loop"]) fun _ _ _ _ _ _ us hl => match us, hl with | [_], _ => rfl⟩⟩
      · cases hd
        have F := L2.fun_mk (st := s_are_one) l2 c2 k2
        exact ⟨60, ⟨_, _, _, _, _, _, F, sc_are_one, rfl, rfl, ck_are_one, PySem.W.mg_of X G a2, F.binds (ps := ["one", "other"]) fun _ _ _ _ _ _ us hl => match us, hl with | [_, _], _ => rfl⟩⟩
      · cases hd
        have F := L2.fun_mk (st := s__law_mixed) l3 c3 k3
        exact ⟨60, ⟨_, _, _, _, _, _, F, sc__law_mixed, rfl, rfl, ck__law_mixed, PySem.W.mg_of X G a3, F.binds (ps := ["_law_number", "_law_k"]) fun _ _ _ _ _ _ us hl => match us, hl with | [_, _], _ => rfl⟩⟩
      · cases hd
        have F := L2.fun_mk (st := s__law_stream) l4 c4 k4
        exact ⟨60, ⟨_, _, _, _, _, _, F, sc__law_stream, rfl, rfl, ck__law_stream, PySem.W.mg_of X G a4, F.binds (ps := ["_law_cell", "_law_k"]) fun _ _ _ _ _ _ us hl => match us, hl with | [_, _], _ => rfl⟩⟩
      · cases hd
        have F := L2.fun_mk (st := s__law_take) l5 c5 k5
        exact ⟨60, ⟨_, _, _, _, _, _, F, sc__law_take, rfl, rfl, ck__law_take, PySem.W.mg_of X G a5, F.binds (ps := ["_law_stream_here", "_law_many"]) fun _ _ _ _ _ _ us hl => match us, hl with | [_, _], _ => rfl⟩⟩
      · cases hd
        have F := L2.fun_mk (st := s__law_turn_by) l6 c6 k6
        exact ⟨60, ⟨_, _, _, _, _, _, F, sc__law_turn_by, rfl, rfl, ck__law_turn_by, PySem.W.mg_of X G a6, F.binds (ps := ["_law_stream_here"]) fun _ _ _ _ _ _ us hl => match us, hl with | [_], _ => rfl⟩⟩
      · cases hd
        have F := L2.fun_mk (st := s__law_loop_by) l7 c7 k7
        exact ⟨60, ⟨_, _, _, _, _, _, F, sc__law_loop_by, rfl, rfl, ck__law_loop_by, PySem.W.mg_of X G a7, F.binds (ps := ["_law_stream_here"]) fun _ _ _ _ _ _ us hl => match us, hl with | [_], _ => rfl⟩⟩
      · cases hd
        have F := L2.fun_mk (st := s__law_row) l8 c8 k8
        exact ⟨60, ⟨_, _, _, _, _, _, F, sc__law_row, rfl, rfl, ck__law_row, PySem.W.mg_of X G a8, F.binds (ps := ["_law_loop", "_law_many"]) fun _ _ _ _ _ _ us hl => match us, hl with | [_, _], _ => rfl⟩⟩
      · cases hd
        have F := L2.fun_mk (st := s__law_same) l9 c9 k9
        exact ⟨60, ⟨_, _, _, _, _, _, F, sc__law_same, rfl, rfl, ck__law_same, PySem.W.mg_of X G a9, F.binds (ps := ["_law_one", "_law_other_here"]) fun _ _ _ _ _ _ us hl => match us, hl with | [_, _], _ => rfl⟩⟩
      · cases hd
        have F := L2.fun_mk (st := s__law_other) l10 c10 k10
        exact ⟨60, ⟨_, _, _, _, _, _, F, sc__law_other, rfl, rfl, ck__law_other, PySem.W.mg_of X G a10, F.binds (ps := ["_law_stream_here", "_law_loop"]) fun _ _ _ _ _ _ us hl => match us, hl with | [_, _], _ => rfl⟩⟩
      · cases hd
        have F := L2.fun_mk (st := s__law_least) l11 c11 k11
        exact ⟨60, ⟨_, _, _, _, _, _, F, sc__law_least, rfl, rfl, ck__law_least, PySem.W.mg_of X G a11, F.binds (ps := ["_law_loop"]) fun _ _ _ _ _ _ us hl => match us, hl with | [_], _ => rfl⟩⟩
      · cases hd
        have F := L2.fun_mk (st := s_law) l12 c12 k12
        exact ⟨60, ⟨_, _, _, _, _, _, F, sc_law, rfl, rfl, ck_law, PySem.W.mg_of X G a12, F.binds (ps := ["_law_script"]) fun _ _ _ _ _ _ us hl => match us, hl with | [_], _ => rfl⟩⟩
      · cases hd
    · cases e : Pg f with
      | none => simp [sg, e] at hf
      | some d => exact ⟨d, rfl, by simpa [sg, e] using hf⟩
    · simp only [sg, List.contains_iff_mem, List.mem_cons, List.not_mem_nil, or_false] at hf
      rcases hf with rfl | rfl | rfl | rfl | rfl | rfl | rfl | rfl
      · exact PySem.W.mg_none_of X G z0
      · exact PySem.W.mg_none_of X G z1
      · exact PySem.W.mg_none_of X G z2
      · exact PySem.W.mg_none_of X G z3
      · exact PySem.W.mg_none_of X G z4
      · exact PySem.W.mg_none_of X G z5
      · exact PySem.W.mg_none_of X G z6
      · exact PySem.W.mg_none_of X G z7
  have e := hfa.symm.trans (PySem.W.mg_of X G a12)
  cases e
  have F := L2.fun_mk (st := s_law) l12 c12 k12
  have b := F.binds (ps := ["_law_script"]) fun _ _ _ _ _ _ us hl => match us, hl with | [_], _ => rfl
  refine ⟨PySem.W.fnOf "law" "law" (L2.defArgs s_law) (L2.defBody s_law) (L2.defScope s_law) .none kV12 dc12 pm12 an12 cd12 ct12, fun s v => .of_eq rfl, fun base hk hn => ?_⟩
  exact L2.FnOk.imp (prog_fn (P := l.prog) (w := w) (base := base) (fuel := 1000000) ok 39 (name := "law") (d := d_law) rfl F sc_law rfl rfl ck_law) fun vs H Q E h => law_of rfl hlaw vs H Q E h
end K04

/-! endless rows: a stem, and a round over and over -/
namespace K04
abbrev T := Int × Int
abbrev z0 : T := (0, 0)
def sq (s a : List T) (i : Nat) : T := if i < s.length then s.getD i z0 else a.getD ((i - s.length) % a.length) z0
def rowOf (f : Nat → T) (m : Nat) : List T := (List.range m).map f
theorem row_len {f : Nat → T} {m : Nat} : (rowOf f m).length = m := by simp [rowOf]
theorem row_get {f : Nat → T} {m i : Nat} (h : i < m) : (rowOf f m)[i]? = some (f i) := by simp [rowOf, h]
theorem row_getD {f : Nat → T} {m i : Nat} (h : i < m) : (rowOf f m).getD i z0 = f i := by
  rw [List.getD_eq_getElem?_getD, row_get h]; rfl
theorem row_eq {l : List T} {f : Nat → T} {m : Nat} (hl : l.length = m) (h : ∀ i, i < m → l.getD i z0 = f i) : l = rowOf f m := by
  apply List.ext_getElem?
  intro i
  by_cases hi : i < m
  · rw [row_get hi, ← h i hi, List.getD_eq_getElem?_getD]
    have : i < l.length := by omega
    rw [List.getElem?_eq_getElem this]; rfl
  · rw [List.getElem?_eq_none (by omega), List.getElem?_eq_none (by rw [row_len]; omega)]
theorem row_inj {f g : Nat → T} {m : Nat} (h : rowOf f m = rowOf g m) : ∀ i, i < m → f i = g i := by
  intro i hi
  have := congrArg (fun l => l[i]?) h
  simpa [row_get hi] using this
theorem row_take {f : Nat → T} {m k : Nat} (h : k ≤ m) : (rowOf f m).take k = rowOf f k := by
  apply List.ext_getElem?
  intro i
  by_cases hi : i < k
  · rw [List.getElem?_take_of_lt hi, row_get hi, row_get (by omega)]
  · rw [List.getElem?_eq_none (by simp; omega), List.getElem?_eq_none (by rw [row_len]; omega)]
theorem row_mid {f : Nat → T} {m b k : Nat} (h : b + k ≤ m) : ((rowOf f m).drop b).take k = rowOf (fun i => f (b + i)) k := by
  apply List.ext_getElem?
  intro i
  by_cases hi : i < k
  · rw [List.getElem?_take_of_lt hi, row_get hi, List.getElem?_drop, row_get (by omega)]
  · rw [List.getElem?_eq_none (by simp; omega), List.getElem?_eq_none (by rw [row_len]; omega)]
theorem row_add {f : Nat → T} {m k : Nat} : rowOf f (m + k) = rowOf f m ++ rowOf (fun i => f (m + i)) k := by
  apply List.ext_getElem?
  intro i
  by_cases h1 : i < m
  · rw [row_get (by omega), List.getElem?_append_left (by rw [row_len]; omega), row_get h1]
  · rw [List.getElem?_append_right (by rw [row_len]; omega), row_len]
    by_cases h2 : i < m + k
    · rw [row_get h2, row_get (by omega)]
      congr 1; congr 1; omega
    · rw [List.getElem?_eq_none (by rw [row_len]; omega), List.getElem?_eq_none (by rw [row_len]; omega)]

/-! ### periods -/
def Per (f : Nat → T) (m b : Nat) : Prop := ∀ i, b ≤ i → f (i + m) = f i
theorem Per.mono {f : Nat → T} {m b c : Nat} (h : Per f m b) (hc : b ≤ c) : Per f m c := fun i hi => h i (Nat.le_trans hc hi)
theorem Per.mul {f : Nat → T} {m b : Nat} (h : Per f m b) (k : Nat) : Per f (m * k) b := by
  induction k with
  | zero => intro i _; rfl
  | succ k ih =>
    intro i hi
    have : i + m * (k + 1) = i + m * k + m := by rw [Nat.mul_succ]; omega
    rw [this, h _ (by omega), ih i hi]
theorem Per.gcd {f : Nat → T} {b : Nat} (m n : Nat) : Per f m b → Per f n b → Per f (Nat.gcd m n) b := by
  induction m, n using Nat.gcd.induction with
  | H0 n => intro _ h; rwa [Nat.gcd_zero_left]
  | H1 m n hm ih =>
    intro h1 h2
    rw [Nat.gcd_rec]
    refine ih ?_ h1
    intro i hi
    have e := h1.mul (n / m) (i + n % m) (by omega)
    have e2 : i + n % m + m * (n / m) = i + n := by have := Nat.mod_add_div n m; omega
    rw [e2, h2 i hi] at e
    exact e.symm
theorem sq_per {s a : List T} : Per (sq s a) a.length s.length := by
  intro i hi
  unfold sq
  rw [if_neg (by omega), if_neg (by omega)]
  have : i + a.length - s.length = (i - s.length) + a.length := by omega
  rw [this, Nat.add_mod_right]
/-- what is tried is the row just where it goes so -/
theorem sq_try {f : Nat → T} {b m : Nat} (hm : 1 ≤ m) : sq (rowOf f b) (rowOf (fun i => f (b + i)) m) = f ↔ Per f m b := by
  constructor
  · intro h
    have p := sq_per (s := rowOf f b) (a := rowOf (fun i => f (b + i)) m)
    rw [h, row_len, row_len] at p
    exact p
  · intro h
    funext i
    unfold sq
    rw [row_len, row_len]
    by_cases hi : i < b
    · rw [if_pos hi, row_getD hi]
    · rw [if_neg hi, row_getD (Nat.mod_lt _ (by omega))]
      have e := h.mul ((i - b) / m) (b + (i - b) % m) (by omega)
      have e2 : b + (i - b) % m + m * ((i - b) / m) = i := by have := Nat.mod_add_div (i - b) m; omega
      rw [e2] at e
      exact e.symm
/-- far enough -/
theorem sq_far {s a s' a' : List T} (h1 : 1 ≤ a.length) (h2 : 1 ≤ a'.length) {n : Nat} (hn : n = max s.length s'.length + a.length * a'.length) : rowOf (sq s a) n = rowOf (sq s' a') n ↔ sq s a = sq s' a' := by
  constructor
  · intro h
    have e := row_inj h
    have p1 : Per (sq s a) (a.length * a'.length) (max s.length s'.length) := ((sq_per (s := s) (a := a)).mul a'.length).mono (Nat.le_max_left _ _)
    have p2 : Per (sq s' a') (a.length * a'.length) (max s.length s'.length) := by
      have := ((sq_per (s := s') (a := a')).mul a.length).mono (Nat.le_max_right s.length s'.length)
      rwa [Nat.mul_comm] at this
    have hN : 1 ≤ a.length * a'.length := Nat.mul_le_mul h1 h2
    funext i
    induction i using Nat.strongRecOn with
    | ind i ih =>
      by_cases hi : i < n
      · exact e i hi
      · have q1 := p1 (i - a.length * a'.length) (by omega)
        have q2 := p2 (i - a.length * a'.length) (by omega)
        have : i - a.length * a'.length + a.length * a'.length = i := by omega
        rw [this] at q1 q2
        rw [q1, q2]
        exact ih _ (by omega)
  · intro h
    rw [h]

/-! ### the lean one -/
structure Lean (f : Nat → T) (p q : Nat) : Prop where
  pos : 1 ≤ p
  per : Per f p q
  least : ∀ m b, 1 ≤ m → Per f m b → p ≤ m
  first : ∀ b, Per f p b → q ≤ b
theorem Lean.uniq {f : Nat → T} {p q p' q' : Nat} (h : Lean f p q) (h' : Lean f p' q') : p = p' ∧ q = q' := by
  have e : p = p' := Nat.le_antisymm (h.least p' q' h'.pos h'.per) (h'.least p q h.pos h.per)
  subst e
  exact ⟨rfl, Nat.le_antisymm (h.first q' h'.per) (h'.first q h.per)⟩

def good (a : List T) (p : Nat) : Prop := a.length % p = 0 ∧ a.drop p = a.take (a.length - p)
theorem good_at {a : List T} {p : Nat} (h : good a p) {i : Nat} (hi : i + p < a.length) : a.getD (i + p) z0 = a.getD i z0 := by
  have e := congrArg (fun l => l[i]?) h.2
  simp only [List.getElem?_drop] at e
  rw [List.getElem?_take_of_lt (by omega)] at e
  rw [List.getD_eq_getElem?_getD, List.getD_eq_getElem?_getD, ← e, Nat.add_comm]
theorem good_mod {a : List T} {p : Nat} (hp : 1 ≤ p) (h : good a p) : ∀ i, i < a.length → a.getD i z0 = a.getD (i % p) z0 := by
  intro i
  induction i using Nat.strongRecOn with
  | ind i ih =>
    intro hi
    by_cases hlt : i < p
    · rw [Nat.mod_eq_of_lt hlt]
    · have e := good_at h (i := i - p) (by omega)
      have e2 : i - p + p = i := by omega
      rw [e2] at e
      rw [e, ih (i - p) (by omega) (by omega)]
      congr 1
      rw [← Nat.mod_eq_sub_mod (by omega)]
theorem good_of {a : List T} {p : Nat} (hd : a.length % p = 0) (h : ∀ i, i + p < a.length → a.getD (i + p) z0 = a.getD i z0) : good a p := by
  refine ⟨hd, ?_⟩
  apply List.ext_getElem?
  intro i
  rw [List.getElem?_drop]
  by_cases hi : i + p < a.length
  · rw [List.getElem?_take_of_lt (by omega)]
    have := h i hi
    rw [List.getD_eq_getElem?_getD, List.getD_eq_getElem?_getD, List.getElem?_eq_getElem hi, List.getElem?_eq_getElem (by omega : i < a.length)] at this
    rw [Nat.add_comm, List.getElem?_eq_getElem hi, List.getElem?_eq_getElem (by omega : i < a.length)]
    simpa using this
  · rw [List.getElem?_eq_none (by omega), List.getElem?_eq_none (by simp; omega)]
/-- what the round says at a moment, ahead of it too -/
def hh (s ap : List T) (i : Nat) : T := ap.getD (((i : Int) - s.length) % (ap.length : Int)).toNat z0
section
variable {s a : List T} {p k : Nat}
theorem sq_hh (hp : 1 ≤ p) (hpa : p ≤ a.length) (g : good a p) {i : Nat} (hi : s.length ≤ i) : sq s a i = hh s (a.take p) i := by
  have hl : (a.take p).length = p := by simp; omega
  unfold sq hh
  rw [if_neg (by omega), hl, good_mod hp g _ (Nat.mod_lt _ (by omega))]
  have hd : p ∣ a.length := Nat.dvd_of_mod_eq_zero g.1
  rw [Nat.mod_mod_of_dvd _ hd]
  have e : (((i : Int) - s.length) % (p : Int)).toNat = (i - s.length) % p := by
    have : ((i : Int) - s.length) = ((i - s.length : Nat) : Int) := by omega
    rw [this]
    omega
  rw [e]
  rw [List.getD_eq_getElem?_getD, List.getD_eq_getElem?_getD, List.getElem?_take_of_lt (Nat.mod_lt _ (by omega))]
theorem hh_ahead (ap : List T) (hp : ap.length = p) (hp1 : 1 ≤ p) {i j : Nat} (h : i + 1 + j = s.length) : hh s ap i = ap.getD (p - 1 - j % p) z0 := by
  unfold hh
  congr 1
  rw [hp]
  have e : ((i : Int) - s.length) = -1 - (j : Int) := by omega
  rw [e]
  have h1 : j % p < p := Nat.mod_lt _ (by omega)
  have h2 := Nat.mod_add_div j p
  have : (-1 - (j : Int)) = ((p - 1 - j % p : Nat) : Int) + (p : Int) * (-((j / p : Nat) : Int) - 1) := by
    have h3 : ((p : Int) * ((j / p : Nat) : Int)) = (j : Int) - ((j % p : Nat) : Int) := by
      have : ((p * (j / p) : Nat) : Int) = (p : Int) * ((j / p : Nat) : Int) := by push_cast; rfl
      omega
    rw [Int.mul_sub, Int.mul_neg, h3, Int.mul_one]
    omega
  rw [this, Int.add_mul_emod_self_left, Int.emod_eq_of_lt (by omega) (by omega)]
  simp
theorem hh_per (ap : List T) (hp : ap.length = p) (i : Nat) : hh s ap (i + p) = hh s ap i := by
  unfold hh
  congr 2
  rw [hp]
  have : ((i + p : Nat) : Int) - s.length = ((i : Int) - s.length) + p := by omega
  rw [this, Int.add_emod_right]
/-- the lean loop is the least -/
theorem lean_of (hp : 1 ≤ p) (hpa : p ≤ a.length) (g : good a p) (hmin : ∀ m, 1 ≤ m → m < p → ¬ good a m) (hk : k ≤ s.length) (ha : ∀ j, j < k → s.getD (s.length - 1 - j) z0 = (a.take p).getD (p - 1 - j % p) z0)
    (hs : k = s.length ∨ s.getD (s.length - 1 - k) z0 ≠ (a.take p).getD (p - 1 - k % p) z0) :
    Lean (sq s a) p (s.length - k) ∧ s.take (s.length - k) = rowOf (sq s a) (s.length - k) ∧ (a.take p).drop (p - k % p) ++ (a.take p).take (p - k % p) = rowOf (fun i => sq s a (s.length - k + i)) p := by
  have hl : (a.take p).length = p := by simp; omega
  have hf : ∀ i, s.length - k ≤ i → sq s a i = hh s (a.take p) i := by
    intro i hi
    by_cases h : s.length ≤ i
    · exact sq_hh hp hpa g h
    · have e := ha (s.length - 1 - i) (by omega)
      rw [hh_ahead (j := s.length - 1 - i) _ hl hp (by omega), ← e]
      unfold sq
      rw [if_pos (by omega)]
      congr 1
      omega
  have per : Per (sq s a) p (s.length - k) := by
    intro i hi
    rw [hf i hi, hf (i + p) (by omega), hh_per _ hl]
  refine ⟨⟨hp, per, ?_, ?_⟩, ?_, ?_⟩
  · intro m b hm hb
    refine Nat.le_of_not_lt fun hlt => ?_
    have h1 : Per (sq s a) m (max b s.length) := hb.mono (Nat.le_max_left _ _)
    have h2 : Per (sq s a) a.length (max b s.length) := sq_per.mono (Nat.le_max_right _ _)
    have h3 := Per.gcd _ _ h1 h2
    have h4 : m.gcd a.length ≤ m := Nat.gcd_le_left _ (by omega)
    have h5 : 1 ≤ m.gcd a.length := Nat.gcd_pos_of_pos_left _ (by omega)
    refine hmin _ h5 (by omega) (good_of (Nat.mod_eq_zero_of_dvd (Nat.gcd_dvd_right _ _)) fun i hi => ?_)
    have e := h3 (s.length + a.length * max b s.length + i) (by
      have : 1 * max b s.length ≤ a.length * max b s.length := Nat.mul_le_mul_right _ (by omega)
      omega)
    unfold sq at e
    rw [if_neg (by omega), if_neg (by omega)] at e
    have e1 : s.length + a.length * max b s.length + i + m.gcd a.length - s.length = (i + m.gcd a.length) + a.length * max b s.length := by omega
    have e2 : s.length + a.length * max b s.length + i - s.length = i + a.length * max b s.length := by omega
    rw [e1, e2, Nat.add_mul_mod_self_left, Nat.add_mul_mod_self_left, Nat.mod_eq_of_lt hi, Nat.mod_eq_of_lt (by omega)] at e
    exact e
  · intro b hb
    refine Nat.le_of_not_lt fun hlt => ?_
    rcases hs with hs | hs
    · omega
    · refine hs ?_
      have e := hb (s.length - k - 1) (by omega)
      rw [hf _ (by omega), hh_per _ hl, hh_ahead (j := k) _ hl hp (by omega)] at e
      rw [e]
      unfold sq
      rw [if_pos (by omega)]
      congr 1
      omega
  · refine row_eq (by simp) fun i hi => ?_
    unfold sq
    rw [if_pos (by omega), List.getD_eq_getElem?_getD, List.getD_eq_getElem?_getD, List.getElem?_take_of_lt hi]
  · have hkp : k % p < p := Nat.mod_lt _ (by omega)
    refine row_eq (by simp; omega) fun i hi => ?_
    rw [hf _ (by omega)]
    unfold hh
    rw [hl]
    have hkd := Nat.mod_add_div k p
    have hx : (p : Int) * ((k / p : Nat) : Int) = (k : Int) - ((k % p : Nat) : Int) := by
      have : ((p * (k / p) : Nat) : Int) = (p : Int) * ((k / p : Nat) : Int) := by push_cast; rfl
      omega
    rw [List.getD_eq_getElem?_getD, List.getD_eq_getElem?_getD]
    by_cases h : i < k % p
    · rw [List.getElem?_append_left (by simp; omega), List.getElem?_drop]
      have : (((s.length - k + i : Nat) : Int) - s.length) = ((p - k % p + i : Nat) : Int) + (p : Int) * (-((k / p : Nat) : Int) - 1) := by
        rw [Int.mul_sub, Int.mul_neg, hx, Int.mul_one]
        omega
      rw [this, Int.add_mul_emod_self_left, Int.emod_eq_of_lt (by omega) (by omega)]
      congr 2
    · rw [List.getElem?_append_right (by simp; omega)]
      have : (((s.length - k + i : Nat) : Int) - s.length) = ((i - k % p : Nat) : Int) + (p : Int) * (-((k / p : Nat) : Int)) := by
        rw [Int.mul_neg, hx]
        omega
      rw [this, Int.add_mul_emod_self_left, Int.emod_eq_of_lt (by omega) (by omega), List.getElem?_take_of_lt (by simp; omega)]
      simp
      congr 2
      omega
end
end K04

namespace K04
open PySem Mn
noncomputable abbrev CC (k : Nat) : String → List D → Store → R D := callA (fun _ => none) 1000000 Pg k
theorem call_step {k : Nat} {f : String} {d : Def} {ds : List D} {S : Store} (h : Pg f = some d) (hl : ds.length = d.np) : CC (k + 1) f ds S = leave d.md S (exB (fun _ => none) 1000000 (CC k) d.body (ds.map some ++ List.replicate (d.n - d.np) none) S) := by
  unfold CC
  rw [callA, h]
  simp only [hl, if_true]
def mixed (n k : Int) : Int := (n % 2147483647 + 7919 * k * k + 31 * k) * 48271 % 2147483647 * (69621 + 2 * k) % 2147483629

theorem c_mixed (k : Nat) (n j : Int) (hj : 0 ≤ j ∧ j ≤ 1000000) (S : Store) : CC (k + 1) "_law_mixed" [.int n, .int j] S = .ok (.int (mixed n j)) S := by
  show leave .pure S (exB (fun _ => none) 1000000 (CC k) d__law_mixed.body [some (.int n), some (.int j)] S) = _
  simp (disch := omega) only [d__law_mixed, exB, exS, evE, R.bind_ok, add_i, mul_r, mul_l, mod_i, List.getElem?_cons_zero, List.getElem?_cons_succ, List.set_cons_zero]
  exact leave_same (by simp [below])
theorem mixed_lt (n j : Int) : 0 ≤ mixed n j ∧ mixed n j < 2147483629 := by
  unfold mixed
  constructor
  · exact Int.emod_nonneg _ (by decide)
  · exact Int.emod_lt_of_pos _ (by decide)
/-- a stream -/
def strm (b : Bool) (n c r : Int) : O := .lst [.bl b, .int n, .int c, .int r]
theorem strm_below (m : Nat) (b : Bool) (n c r : Int) : belowO m (strm b n c r) = true := by simp [strm, belowO, belows, below]
theorem c_stream (k : Nat) (n j : Int) (hj : 0 ≤ j ∧ j ≤ 1000000) (S : Store) : ∃ b r, CC (k + 2) "_law_stream" [.int n, .int j] S = .ok (.ref S.length) (S ++ [strm b n 0 r]) := by
  refine ⟨decide (10 ^ (18 : Int).toNat ≤ n), mixed n j, ?_⟩
  show leave .new S (exB (fun _ => none) 1000000 (CC (k + 1)) d__law_stream.body [some (.int n), some (.int j)] S) = _
  simp (disch := omega) only [d__law_stream, exB, exS, evE, evEs, R.bind_ok, pow_i, ge_i, ofO_some, c_mixed k n j hj, List.getElem?_cons_zero, List.getElem?_cons_succ, List.set_cons_zero]
  rw [mkL_r (sz (by simp)), R.bind_ok]
  exact leave_new (by simp [belows, below])
/-- at a: a stream that has been asked at most C times -/
def Stm (S : Store) (a : Nat) (C : Int) : Prop := ∃ b n c r, S[a]? = some (strm b n c r) ∧ 0 ≤ c ∧ c ≤ C
def Upd (S : Store) (a : Nat) (S' : Store) (C : Int) : Prop := ∃ b n c r, S' = S.set a (strm b n c r) ∧ 0 ≤ c ∧ c ≤ C
theorem Upd.stm {S S' : Store} {a : Nat} {C C' : Int} (h : Upd S a S' C) (hs : Stm S a C') : Stm S' a C := by
  obtain ⟨b, n, c, r, rfl, h1⟩ := h
  obtain ⟨_, _, _, _, e, _⟩ := hs
  exact ⟨b, n, c, r, get_set e, h1⟩
theorem Upd.trans {S S' S'' : Store} {a : Nat} {C C' : Int} (h : Upd S a S' C) (h' : Upd S' a S'' C') : Upd S a S'' C' := by
  obtain ⟨_, _, _, _, rfl, _⟩ := h
  obtain ⟨b, n, c, r, rfl, h1⟩ := h'
  exact ⟨b, n, c, r, by rw [List.set_set], h1⟩
theorem Upd.old {S S' : Store} {a : Nat} {C : Int} (h : Upd S a S' C) : oldOk S S' := by
  obtain ⟨b, n, c, r, rfl, _⟩ := h
  exact oldOk_set (strm_below _ _ _ _ _)
theorem Upd.len {S S' : Store} {a : Nat} {C : Int} (h : Upd S a S' C) : S'.length = S.length := by
  obtain ⟨b, n, c, r, rfl, _⟩ := h
  simp
theorem Upd.at {S S' : Store} {a b : Nat} {C : Int} (h : Upd S a S' C) (hb : a ≠ b) : S'[b]? = S[b]? := by
  obtain ⟨_, n, c, r, rfl, _⟩ := h
  exact get_set_ne hb
theorem Upd.refl {S : Store} {a : Nat} {C : Int} (h : Stm S a C) : Upd S a S C := by
  obtain ⟨b, n, c, r, e, h1⟩ := h
  refine ⟨b, n, c, r, ?_, h1⟩
  obtain ⟨hl, e2⟩ := List.getElem?_eq_some_iff.mp e
  rw [← e2, List.set_getElem_self]
theorem Upd.weak {S S' : Store} {a : Nat} {C C' : Int} (h : Upd S a S' C) (hc : C ≤ C') : Upd S a S' C' := by
  obtain ⟨b, n, c, r, e, h1, h2⟩ := h
  exact ⟨b, n, c, r, e, h1, by omega⟩
theorem Stm.weak {S : Store} {a : Nat} {C C' : Int} (h : Stm S a C) (hc : C ≤ C') : Stm S a C' := by
  obtain ⟨b, n, c, r, e, h1, h2⟩ := h
  exact ⟨b, n, c, r, e, h1, by omega⟩

theorem at4_0 {a b c d : D} : L2.atI [a, b, c, d] 0 = some a := nr rfl
theorem at4_1 {a b c d : D} : L2.atI [a, b, c, d] 1 = some b := nr rfl
theorem at4_2 {a b c d : D} : L2.atI [a, b, c, d] 2 = some c := nr rfl
theorem at4_3 {a b c d : D} : L2.atI [a, b, c, d] 3 = some d := nr rfl
theorem in2 {S : Store} {n : Int} : cmpA .In (.int n) (.tup [.int 0, .int (-1)]) S = some (decide (n = 0 ∨ n = -1)) := by
  show (if SeqAt.shaped (.int n) = true ∧ SeqAt.shaped (.list [.int 0, .int (-1)]) = true then some ([PyData.int 0, .int (-1)].any fun z => PyData.eqv z (.int n)) else none) = _
  rw [if_pos ⟨rfl, by decide⟩]
  congr 1
  rw [Bool.eq_iff_iff]
  simp [PyData.eqv]
  omega
theorem c_take (k : Nat) (S : Store) (a : Nat) (m C : Int) (hm : 0 < m ∧ m < 1073741824) (h : Stm S a C) (hC : C < 1000000) :
    Sat (CC (k + 2) "_law_take" [.ref a, .int m] S) fun d S' => ∃ v, d = .int v ∧ 0 ≤ v ∧ v < m ∧ Upd S a S' (C + 1) := by
  obtain ⟨b, n, c, r, e, h1, h2⟩ := h
  show Sat (leave .pure S (exB (fun _ => none) 1000000 (CC (k + 1)) d__law_take.body [some (.ref a), some (.int m), none] S)) _
  have e' : S[a]? = some (.lst [.bl b, .int n, .int c, .int r]) := e
  have s2 : ∀ d, setA (.ref a) (.int 2) d S = .ok () (S.set a (.lst [.bl b, .int n, d, .int r])) := fun d => set_r (k := 2) e' (by simp)
  have g1 : (S.set a (.lst [.bl b, .int n, .int (c + 1), .int r]))[a]? = some (.lst [.bl b, .int n, .int (c + 1), .int r]) := get_set e
  have s1 : ∀ d, setA (.ref a) (.int 1) d (S.set a (.lst [.bl b, .int n, .int (c + 1), .int r])) = .ok () (S.set a (.lst [.bl b, d, .int (c + 1), .int r])) := fun d => by
    have := set_r (k := 1) (d := d) g1 (by simp)
    rwa [List.set_set] at this
  have i1 : 0 ≤ c + 1 ∧ c + 1 ≤ 1000000 := by omega
  have fin : ∀ (v : Int) (n' : Int), 0 ≤ v → v < m → Sat (leave .pure S (.ok (.rt (.int v)) (S.set a (.lst [.bl b, .int n', .int (c + 1), .int r])))) fun d S' => ∃ v, d = .int v ∧ 0 ≤ v ∧ v < m ∧ Upd S a S' (C + 1) := fun v n' hv hv2 =>
    Sat.leave (.ok ⟨_, rfl, oldOk_set (strm_below _ _ _ _ _), by simp, by simp [below], v, rfl, hv, hv2, b, n', c + 1, r, rfl, by omega, by omega⟩)
  simp (disch := omega) only [d__law_take, exB, exS, evE, evEs, R.bind_ok, add_i, mod_i, div_i, sub_r e', at4_2, at4_0, ofO_some, s2, List.getElem?_cons_zero, List.getElem?_cons_succ, List.set_cons_zero, List.set_cons_succ, sub_r g1, tr_b, tru]
  have seven : (0 : Int) ≤ 7 ∧ (7 : Int) ≤ 1000000 := by decide
  have two : [D.int 0, D.int (-1)].length ≤ sizeLine := sz (by simp)
  have f1 : ∀ x : Int, 0 ≤ x % m := fun x => Int.emod_nonneg _ (by omega)
  have f2 : ∀ x : Int, x % m < m := fun x => Int.emod_lt_of_pos _ hm.1
  cases b with
  | false =>
    simp only [d__law_take, exB, exS, evE, evEs, R.bind_ok, tr_b, ofO_some, at4_0, at4_1, at4_2, at4_3, sub_r g1, List.getElem?_cons_zero, List.getElem?_cons_succ, List.set_cons_zero, List.set_cons_succ, if_true, negA, Bool.not_false, Bool.not_true, Bool.false_eq_true, if_false, c_mixed k _ _ i1, c_mixed k _ 7 seven, mod_i hm.1, div_i hm, s1, in2, gt_i, mkT_v two]
    exact fin _ _ (f1 _) (f2 _)
  | true =>
    simp only [d__law_take, exB, exS, evE, evEs, R.bind_ok, tr_b, ofO_some, at4_0, at4_1, at4_2, at4_3, sub_r g1, List.getElem?_cons_zero, List.getElem?_cons_succ, List.set_cons_zero, List.set_cons_succ, if_true, negA, Bool.not_false, Bool.not_true, Bool.false_eq_true, if_false, c_mixed k _ _ i1, c_mixed k _ 7 seven, mod_i hm.1, div_i hm, s1, in2, gt_i, mkT_v two]
    by_cases hn : n = 0 ∨ n = -1
    · simp only [decide_eq_true hn, d__law_take, exB, exS, evE, evEs, R.bind_ok, tr_b, ofO_some, at4_0, at4_1, at4_2, at4_3, sub_r g1, List.getElem?_cons_zero, List.getElem?_cons_succ, List.set_cons_zero, List.set_cons_succ, if_true, negA, Bool.not_false, Bool.not_true, Bool.false_eq_true, if_false, c_mixed k _ _ i1, c_mixed k _ 7 seven, mod_i hm.1, div_i hm, s1, in2, gt_i, mkT_v two]
      exact fin _ _ (f1 _) (f2 _)
    · simp only [decide_eq_false hn, d__law_take, exB, exS, evE, evEs, R.bind_ok, tr_b, ofO_some, at4_0, at4_1, at4_2, at4_3, sub_r g1, List.getElem?_cons_zero, List.getElem?_cons_succ, List.set_cons_zero, List.set_cons_succ, if_true, negA, Bool.not_false, Bool.not_true, Bool.false_eq_true, if_false, c_mixed k _ _ i1, c_mixed k _ 7 seven, mod_i hm.1, div_i hm, s1, in2, gt_i, mkT_v two]
      by_cases hc : 60 < c + 1
      · simp only [decide_eq_true hc, d__law_take, exB, exS, evE, evEs, R.bind_ok, tr_b, ofO_some, at4_0, at4_1, at4_2, at4_3, sub_r g1, List.getElem?_cons_zero, List.getElem?_cons_succ, List.set_cons_zero, List.set_cons_succ, if_true, negA, Bool.not_false, Bool.not_true, Bool.false_eq_true, if_false, c_mixed k _ _ i1, c_mixed k _ 7 seven, mod_i hm.1, div_i hm, s1, in2, gt_i, mkT_v two]
        exact fin _ _ (f1 _) (f2 _)
      · simp only [decide_eq_false hc, d__law_take, exB, exS, evE, evEs, R.bind_ok, tr_b, ofO_some, at4_0, at4_1, at4_2, at4_3, sub_r g1, List.getElem?_cons_zero, List.getElem?_cons_succ, List.set_cons_zero, List.set_cons_succ, if_true, negA, Bool.not_false, Bool.not_true, Bool.false_eq_true, if_false, c_mixed k _ _ i1, c_mixed k _ 7 seven, mod_i hm.1, div_i hm, s1, in2, gt_i, mkT_v two]
        exact fin _ _ (f1 _) (f2 _)
end K04

namespace K04
open PySem Mn
def tn (t : T) : D := .tup [.int t.1, .int t.2]
theorem tn_inj {t u : T} (h : tn t = tn u) : t = u := by
  obtain ⟨a, b⟩ := t
  obtain ⟨c, d⟩ := u
  simp only [tn, D.tup.injEq, List.cons.injEq, D.int.injEq, and_true] at h
  exact Prod.ext h.1 h.2
theorem map_inj {l m : List T} (h : l.map tn = m.map tn) : l = m := (List.map_inj_right fun _ _ => tn_inj).mp h
theorem gd_tn (t : T) (k : Nat) : gd (tn t) (k + 1) = true := by simp [tn, gd, gds]
theorem gds_tn (l : List T) (k : Nat) : gds (l.map tn) (k + 1) = true := gds_of fun d hd => by
  obtain ⟨t, _, rfl⟩ := List.mem_map.mp hd
  exact gd_tn t k
def loopD (s a : List T) : D := .tup [.tup (s.map tn), .tup (a.map tn)]
theorem gd_loop (s a : List T) : gd (loopD s a) 64 = true := by
  simp [loopD, gd, gds, gds_tn]
theorem loop_inj {s a s' a' : List T} (h : loopD s a = loopD s' a') : s = s' ∧ a = a' := by
  simp only [loopD, D.tup.injEq, List.cons.injEq, and_true] at h
  exact ⟨map_inj h.1, map_inj h.2⟩

theorem Stm.nn {S : Store} {a : Nat} {C : Int} (h : Stm S a C) : 0 ≤ C := by
  obtain ⟨_, _, c, _, _, h1, h2⟩ := h
  omega
theorem at3 {v : Int} (h0 : 0 ≤ v) (h1 : v < 3) : ∃ b : Int, L2.atI [D.int 0, D.int 0, D.int 1] v = some (.int b) := by
  have : v = 0 ∨ v = 1 ∨ v = 2 := by omega
  rcases this with rfl | rfl | rfl
  · exact ⟨0, rfl⟩
  · exact ⟨0, rfl⟩
  · exact ⟨1, rfl⟩
theorem c_turn (k : Nat) (S : Store) (a : Nat) (C : Int) (h : Stm S a C) (hC : C < 100000) :
    Sat (CC (k + 3) "_law_turn_by" [.ref a] S) fun d S' => ∃ t, d = tn t ∧ Upd S a S' (C + 2) := by
  show Sat (leave .pure S (exB (fun _ => none) 1000000 (CC (k + 2)) d__law_turn_by.body [some (.ref a)] S)) _
  refine Sat.leave ?_
  simp only [d__law_turn_by, x_nil, x_cons, x_set, x_unp, x_sets, x_expr, x_ret, x_pass, x_brk, x_cont, x_ite, x_for, x_whl, v_bl, v_int, v_str, v_ty, v_non, v_var, v_tup, v_lst, v_bin, v_neg, v_not, v_cmp, v_and, v_or, v_ife, v_call, v_blt, v_mth, v_sub, v_slc, v_comp, o_none, o_some, s_nil, s_cons, i_seq, i_rng1, i_rng2, i_enum, nx_nx, nx_rt, nx_bk, nx_ct, ite_t, ite_f, and_t, and_f, or_t, or_f, R.bind_ok, R.bind_assoc, ofO_some, tr_b, optI_i, itm_t, itm_l, seqL_l, gdOf_tup, gdOf_lst, neg_i, aug_i, add_i, sub_i, slc_t, slc_l, add_l, len_t, len_l, list_t, list_l, tuple_l, max_i, ls_i, le_i, gt_i, ge_i, sub_t, sub_l, List.getElem?_cons_zero, List.getElem?_cons_succ, List.set_cons_zero, List.set_cons_succ, Bool.not_true, Bool.not_false]
  refine (c_take k S a 2 C (by decide) h (by omega)).bind fun d S1 ⟨v, hd, hv0, hv1, u1⟩ => ?_
  subst hd
  simp only [x_nil, x_cons, x_set, x_unp, x_sets, x_expr, x_ret, x_pass, x_brk, x_cont, x_ite, x_for, x_whl, v_bl, v_int, v_str, v_ty, v_non, v_var, v_tup, v_lst, v_bin, v_neg, v_not, v_cmp, v_and, v_or, v_ife, v_call, v_blt, v_mth, v_sub, v_slc, v_comp, o_none, o_some, s_nil, s_cons, i_seq, i_rng1, i_rng2, i_enum, nx_nx, nx_rt, nx_bk, nx_ct, ite_t, ite_f, and_t, and_f, or_t, or_f, R.bind_ok, R.bind_assoc, ofO_some, tr_b, optI_i, itm_t, itm_l, seqL_l, gdOf_tup, gdOf_lst, neg_i, aug_i, add_i, sub_i, slc_t, slc_l, add_l, len_t, len_l, list_t, list_l, tuple_l, max_i, ls_i, le_i, gt_i, ge_i, sub_t, sub_l, List.getElem?_cons_zero, List.getElem?_cons_succ, List.set_cons_zero, List.set_cons_succ, Bool.not_true, Bool.not_false, mkL_v (l := [D.int 0, D.int 0, D.int 1]) (sz (by simp))]
  refine (c_take k S1 a 3 (C + 1) (by decide) (u1.stm h) (by omega)).bind fun d S2 ⟨w, hd, hw0, hw1, u2⟩ => ?_
  subst hd
  obtain ⟨b, hb⟩ := at3 hw0 hw1
  simp only [x_nil, x_cons, x_set, x_unp, x_sets, x_expr, x_ret, x_pass, x_brk, x_cont, x_ite, x_for, x_whl, v_bl, v_int, v_str, v_ty, v_non, v_var, v_tup, v_lst, v_bin, v_neg, v_not, v_cmp, v_and, v_or, v_ife, v_call, v_blt, v_mth, v_sub, v_slc, v_comp, o_none, o_some, s_nil, s_cons, i_seq, i_rng1, i_rng2, i_enum, nx_nx, nx_rt, nx_bk, nx_ct, ite_t, ite_f, and_t, and_f, or_t, or_f, R.bind_ok, R.bind_assoc, ofO_some, tr_b, optI_i, itm_t, itm_l, seqL_l, gdOf_tup, gdOf_lst, neg_i, aug_i, add_i, sub_i, slc_t, slc_l, add_l, len_t, len_l, list_t, list_l, tuple_l, max_i, ls_i, le_i, gt_i, ge_i, sub_t, sub_l, List.getElem?_cons_zero, List.getElem?_cons_succ, List.set_cons_zero, List.set_cons_succ, Bool.not_true, Bool.not_false, hb, mkT_v (l := [D.int v, D.int b]) (sz (by simp))]
  exact .ok ⟨_, rfl, (u1.trans u2).old, (u1.trans u2).len, by simp [below, belows], (v, b), rfl, (u1.trans u2).weak (by omega)⟩
theorem c_turns (k : Nat) (S : Store) (a n : Nat) (C : Int) (e0 : Mn.Env) (he : e0[0]? = some (some (.ref a))) (h : Stm S a C) (hC : C + 2 * n < 100000) :
    Sat (cmpB (fun _ => none) (CC (k + 3)) [] (.nm 3) .none (.call "_law_turn_by" (.cons (.var 0) .nil)) e0 (rng 0 n 1) S) fun l S' => ∃ ts : List T, l = ts.map tn ∧ ts.length = n ∧ Upd S a S' (C + 2 * n) := by
  have nn := h.nn
  have z := comp_sat (tg := .nm 3) (c := fun e S => tru (evOc (fun _ => none) (CC (k + 3)) .none e S)) (t := fun e S => evE (fun _ => none) (CC (k + 3)) (.call "_law_turn_by" (.cons (.var 0) .nil)) e S) (e0 := e0) (l := rng 0 n 1)
    (fun i acc S' => ∃ ts : List T, acc = ts.map tn ∧ ts.length = i ∧ Upd S a S' (C + 2 * i)) (fun i d acc S' hd hI => by
      obtain ⟨ts, rfl, hl, u⟩ := hI
      obtain ⟨hi, rfl⟩ := rng_get hd
      refine ⟨_, rfl, ?_⟩
      simp only [oc_none, tru, R.bind_ok, tr_b, ofO_some]
      refine .ok ?_
      rw [if_pos rfl]
      refine ⟨sz' (by simp; omega), ?_⟩
      have e1 : (e0.set 3 (some (D.int (0 + (i : Int) * 1))))[0]? = some (some (.ref a)) := by rw [List.getElem?_set_ne (by decide), he]
      simp only [v_call, s_cons, s_nil, v_var, e1, R.bind_ok, R.bind_assoc]
      refine (c_turn k S' a _ (u.stm h) (by omega)).imp fun d S2 ⟨t, hd, u2⟩ => ⟨ts ++ [t], by simp [hd], by simp [hl], (u.trans u2).weak (by push_cast; omega)⟩) (acc := []) (S := S) ⟨[], rfl, rfl, Upd.refl h |>.weak (by omega)⟩
  rw [rng_len] at z
  exact z
def rept (k : Nat) (l : List T) : List T := (List.replicate k l).flatten
theorem rep_map (k : Int) (l : List T) : rep k (l.map tn) = (rept k.toNat l).map tn := by
  simp [rep, rept, List.map_flatten]
theorem rept_len (k : Nat) (l : List T) : (rept k l).length = k * l.length := by
  simp [rept]
theorem mul_ll {S : Store} {l : List D} {k : Int} (h : -(2 ^ 63) ≤ k ∧ k < 2 ^ 63) (h2 : l.length * k.toNat ≤ sizeLine) : binA true .Mult (.lst l) (.int k) S = mkL true (rep k l) S := by
  show (if -(2 ^ 63) ≤ k ∧ k < 2 ^ 63 ∧ l.length * k.toNat ≤ sizeLine then mkL true (rep k l) S else R.bad) = _
  rw [if_pos ⟨h.1, h.2, h2⟩]
theorem mul_tt {S : Store} {l : List D} {k : Int} (h : 1 ≤ k ∧ k ≤ 1000) (h2 : l.length ≤ 1000) : binA true .Mult (.tup l) (.int k) S = .ok (.tup (rep k l)) S := by
  show (if 1 ≤ k ∧ k ≤ 1000 ∧ l.length ≤ 1000 then R.ok (D.tup (rep k l)) S else R.bad) = _
  rw [if_pos ⟨h.1, h.2, h2⟩]
theorem rng_ok {α : Type} {j : Int} (h0 : 0 ≤ j) (h1 : j < 1000) {x y : α} : (if -(2 ^ 62) ≤ j ∧ j < 2 ^ 62 then x else y) = x := if_pos ⟨by omega, by omega⟩
theorem cut_m {l : List T} {v : Int} (h : 0 ≤ v) : cutA (l.map tn) none (some v) = (l.take v.toNat).map tn := by
  obtain ⟨n, rfl⟩ := Int.eq_ofNat_of_zero_le h
  rw [cut_to, List.map_take]; rfl
theorem c_loop (k : Nat) (S : Store) (a : Nat) (C : Int) (h : Stm S a C) (hC : C < 50000) :
    Sat (CC (k + 4) "_law_loop_by" [.ref a] S) fun d S' => ∃ s ar : List T, d = loopD s ar ∧ s.length ≤ 20 ∧ 1 ≤ ar.length ∧ ar.length ≤ 9 ∧ Upd S a S' (C + 40) := by
  show Sat (leave .pure S (exB (fun _ => none) 1000000 (CC (k + 3)) d__law_loop_by.body [some (.ref a), none, none, none] S)) _
  refine Sat.leave ?_
  simp only [d__law_loop_by, x_nil, x_cons, x_set, x_unp, x_sets, x_expr, x_ret, x_pass, x_brk, x_cont, x_ite, x_for, x_whl, v_bl, v_int, v_str, v_ty, v_non, v_var, v_tup, v_lst, v_bin, v_neg, v_not, v_cmp, v_and, v_or, v_ife, v_call, v_blt, v_mth, v_sub, v_slc, v_comp, o_none, o_some, s_nil, s_cons, i_seq, i_rng1, i_rng2, i_enum, nx_nx, nx_rt, nx_bk, nx_ct, ite_t, ite_f, and_t, and_f, or_t, or_f, R.bind_ok, R.bind_assoc, ofO_some, tr_b, optI_i, itm_t, itm_l, seqL_l, gdOf_tup, gdOf_lst, neg_i, aug_i, add_i, sub_i, slc_t, slc_l, add_l, len_t, len_l, list_t, list_l, tuple_l, max_i, ls_i, le_i, gt_i, ge_i, sub_t, sub_l, List.getElem?_cons_zero, List.getElem?_cons_succ, List.set_cons_zero, List.set_cons_succ, Bool.not_true, Bool.not_false]
  refine (c_take (k + 1) S a 7 C (by decide) h (by omega)).bind fun d S1 ⟨v, hd, hv0, hv1, u1⟩ => ?_
  subst hd
  simp only [x_nil, x_cons, x_set, x_unp, x_sets, x_expr, x_ret, x_pass, x_brk, x_cont, x_ite, x_for, x_whl, v_bl, v_int, v_str, v_ty, v_non, v_var, v_tup, v_lst, v_bin, v_neg, v_not, v_cmp, v_and, v_or, v_ife, v_call, v_blt, v_mth, v_sub, v_slc, v_comp, o_none, o_some, s_nil, s_cons, i_seq, i_rng1, i_rng2, i_enum, nx_nx, nx_rt, nx_bk, nx_ct, ite_t, ite_f, and_t, and_f, or_t, or_f, R.bind_ok, R.bind_assoc, ofO_some, tr_b, optI_i, itm_t, itm_l, seqL_l, gdOf_tup, gdOf_lst, neg_i, aug_i, add_i, sub_i, slc_t, slc_l, add_l, len_t, len_l, list_t, list_l, tuple_l, max_i, ls_i, le_i, gt_i, ge_i, sub_t, sub_l, List.getElem?_cons_zero, List.getElem?_cons_succ, List.set_cons_zero, List.set_cons_succ, Bool.not_true, Bool.not_false, rng_ok hv0 (by omega : v < 1000)]
  refine (c_turns k S1 a v.toNat (C + 1) _ rfl (u1.stm h) (by omega)).bind fun l S2 ⟨s, hl, hs, u2⟩ => ?_
  subst hl
  have u2 := (u1.trans u2).weak (C' := C + 13) (by omega)
  simp only [x_nil, x_cons, x_set, x_unp, x_sets, x_expr, x_ret, x_pass, x_brk, x_cont, x_ite, x_for, x_whl, v_bl, v_int, v_str, v_ty, v_non, v_var, v_tup, v_lst, v_bin, v_neg, v_not, v_cmp, v_and, v_or, v_ife, v_call, v_blt, v_mth, v_sub, v_slc, v_comp, o_none, o_some, s_nil, s_cons, i_seq, i_rng1, i_rng2, i_enum, nx_nx, nx_rt, nx_bk, nx_ct, ite_t, ite_f, and_t, and_f, or_t, or_f, R.bind_ok, R.bind_assoc, ofO_some, tr_b, optI_i, itm_t, itm_l, seqL_l, gdOf_tup, gdOf_lst, neg_i, aug_i, add_i, sub_i, slc_t, slc_l, add_l, len_t, len_l, list_t, list_l, tuple_l, max_i, ls_i, le_i, gt_i, ge_i, sub_t, sub_l, List.getElem?_cons_zero, List.getElem?_cons_succ, List.set_cons_zero, List.set_cons_succ, Bool.not_true, Bool.not_false, mkL_v (l := s.map tn) (sz (by simp; omega))]
  refine (c_take (k + 1) S2 a 6 (C + 13) (by decide) (u2.stm h) (by omega)).bind fun d S3 ⟨w, hd, hw0, hw1, u3⟩ => ?_
  subst hd
  have u3 := u2.trans u3
  simp only [x_nil, x_cons, x_set, x_unp, x_sets, x_expr, x_ret, x_pass, x_brk, x_cont, x_ite, x_for, x_whl, v_bl, v_int, v_str, v_ty, v_non, v_var, v_tup, v_lst, v_bin, v_neg, v_not, v_cmp, v_and, v_or, v_ife, v_call, v_blt, v_mth, v_sub, v_slc, v_comp, o_none, o_some, s_nil, s_cons, i_seq, i_rng1, i_rng2, i_enum, nx_nx, nx_rt, nx_bk, nx_ct, ite_t, ite_f, and_t, and_f, or_t, or_f, R.bind_ok, R.bind_assoc, ofO_some, tr_b, optI_i, itm_t, itm_l, seqL_l, gdOf_tup, gdOf_lst, neg_i, aug_i, add_i, sub_i, slc_t, slc_l, add_l, len_t, len_l, list_t, list_l, tuple_l, max_i, ls_i, le_i, gt_i, ge_i, sub_t, sub_l, List.getElem?_cons_zero, List.getElem?_cons_succ, List.set_cons_zero, List.set_cons_succ, Bool.not_true, Bool.not_false, rng_ok (by omega : 0 ≤ 1 + w) (by omega : 1 + w < 1000)]
  refine (c_turns k S3 a (1 + w).toNat (C + 13 + 1) _ rfl (u3.stm h) (by omega)).bind fun l S4 ⟨ar, hl, har, u4⟩ => ?_
  subst hl
  have u4 := (u3.trans u4).weak (C' := C + 26) (by omega)
  simp only [x_nil, x_cons, x_set, x_unp, x_sets, x_expr, x_ret, x_pass, x_brk, x_cont, x_ite, x_for, x_whl, v_bl, v_int, v_str, v_ty, v_non, v_var, v_tup, v_lst, v_bin, v_neg, v_not, v_cmp, v_and, v_or, v_ife, v_call, v_blt, v_mth, v_sub, v_slc, v_comp, o_none, o_some, s_nil, s_cons, i_seq, i_rng1, i_rng2, i_enum, nx_nx, nx_rt, nx_bk, nx_ct, ite_t, ite_f, and_t, and_f, or_t, or_f, R.bind_ok, R.bind_assoc, ofO_some, tr_b, optI_i, itm_t, itm_l, seqL_l, gdOf_tup, gdOf_lst, neg_i, aug_i, add_i, sub_i, slc_t, slc_l, add_l, len_t, len_l, list_t, list_l, tuple_l, max_i, ls_i, le_i, gt_i, ge_i, sub_t, sub_l, List.getElem?_cons_zero, List.getElem?_cons_succ, List.set_cons_zero, List.set_cons_succ, Bool.not_true, Bool.not_false, mkL_v (l := ar.map tn) (sz (by simp; omega))]
  refine (c_take (k + 1) S4 a 3 (C + 26) (by decide) (u4.stm h) (by omega)).bind fun d S5 ⟨x, hd, hx0, hx1, u5⟩ => ?_
  subst hd
  have u5 := u4.trans u5
  simp only [x_nil, x_cons, x_set, x_unp, x_sets, x_expr, x_ret, x_pass, x_brk, x_cont, x_ite, x_for, x_whl, v_bl, v_int, v_str, v_ty, v_non, v_var, v_tup, v_lst, v_bin, v_neg, v_not, v_cmp, v_and, v_or, v_ife, v_call, v_blt, v_mth, v_sub, v_slc, v_comp, o_none, o_some, s_nil, s_cons, i_seq, i_rng1, i_rng2, i_enum, nx_nx, nx_rt, nx_bk, nx_ct, ite_t, ite_f, and_t, and_f, or_t, or_f, R.bind_ok, R.bind_assoc, ofO_some, tr_b, optI_i, itm_t, itm_l, seqL_l, gdOf_tup, gdOf_lst, neg_i, aug_i, add_i, sub_i, slc_t, slc_l, add_l, len_t, len_l, list_t, list_l, tuple_l, max_i, ls_i, le_i, gt_i, ge_i, sub_t, sub_l, List.getElem?_cons_zero, List.getElem?_cons_succ, List.set_cons_zero, List.set_cons_succ, Bool.not_true, Bool.not_false, eq_i]
  refine Sat.bind (P := fun f S' => ∃ ar' : List T, f = .nx [some (.ref a), some (.lst (s.map tn)), some (.lst (ar'.map tn)), none] ∧ 1 ≤ ar'.length ∧ ar'.length ≤ 9 ∧ Upd S a S' (C + 29)) ?_ fun f S6 ⟨ar', hf, h1, h9, u6⟩ => ?_
  · cases hx : decide (x = 1) with
    | false =>
      simp only [x_nil, x_cons, x_set, x_unp, x_sets, x_expr, x_ret, x_pass, x_brk, x_cont, x_ite, x_for, x_whl, v_bl, v_int, v_str, v_ty, v_non, v_var, v_tup, v_lst, v_bin, v_neg, v_not, v_cmp, v_and, v_or, v_ife, v_call, v_blt, v_mth, v_sub, v_slc, v_comp, o_none, o_some, s_nil, s_cons, i_seq, i_rng1, i_rng2, i_enum, nx_nx, nx_rt, nx_bk, nx_ct, ite_t, ite_f, and_t, and_f, or_t, or_f, R.bind_ok, R.bind_assoc, ofO_some, tr_b, optI_i, itm_t, itm_l, seqL_l, gdOf_tup, gdOf_lst, neg_i, aug_i, add_i, sub_i, slc_t, slc_l, add_l, len_t, len_l, list_t, list_l, tuple_l, max_i, ls_i, le_i, gt_i, ge_i, sub_t, sub_l, List.getElem?_cons_zero, List.getElem?_cons_succ, List.set_cons_zero, List.set_cons_succ, Bool.not_true, Bool.not_false]
      exact .ok ⟨ar, rfl, by omega, by omega, u5.weak (by omega)⟩
    | true =>
      simp only [x_nil, x_cons, x_set, x_unp, x_sets, x_expr, x_ret, x_pass, x_brk, x_cont, x_ite, x_for, x_whl, v_bl, v_int, v_str, v_ty, v_non, v_var, v_tup, v_lst, v_bin, v_neg, v_not, v_cmp, v_and, v_or, v_ife, v_call, v_blt, v_mth, v_sub, v_slc, v_comp, o_none, o_some, s_nil, s_cons, i_seq, i_rng1, i_rng2, i_enum, nx_nx, nx_rt, nx_bk, nx_ct, ite_t, ite_f, and_t, and_f, or_t, or_f, R.bind_ok, R.bind_assoc, ofO_some, tr_b, optI_i, itm_t, itm_l, seqL_l, gdOf_tup, gdOf_lst, neg_i, aug_i, add_i, sub_i, slc_t, slc_l, add_l, len_t, len_l, list_t, list_l, tuple_l, max_i, ls_i, le_i, gt_i, ge_i, sub_t, sub_l, List.getElem?_cons_zero, List.getElem?_cons_succ, List.set_cons_zero, List.set_cons_succ, Bool.not_true, Bool.not_false]
      refine (c_take (k + 1) S5 a 3 _ (by decide) (u5.stm h) (by omega)).bind fun d S6 ⟨y, hd, hy0, hy1, u6⟩ => ?_
      subst hd
      have u6 := u5.trans u6
      simp only [x_nil, x_cons, x_set, x_unp, x_sets, x_expr, x_ret, x_pass, x_brk, x_cont, x_ite, x_for, x_whl, v_bl, v_int, v_str, v_ty, v_non, v_var, v_tup, v_lst, v_bin, v_neg, v_not, v_cmp, v_and, v_or, v_ife, v_call, v_blt, v_mth, v_sub, v_slc, v_comp, o_none, o_some, s_nil, s_cons, i_seq, i_rng1, i_rng2, i_enum, nx_nx, nx_rt, nx_bk, nx_ct, ite_t, ite_f, and_t, and_f, or_t, or_f, R.bind_ok, R.bind_assoc, ofO_some, tr_b, optI_i, itm_t, itm_l, seqL_l, gdOf_tup, gdOf_lst, neg_i, aug_i, add_i, sub_i, slc_t, slc_l, add_l, len_t, len_l, list_t, list_l, tuple_l, max_i, ls_i, le_i, gt_i, ge_i, sub_t, sub_l, List.getElem?_cons_zero, List.getElem?_cons_succ, List.set_cons_zero, List.set_cons_succ, Bool.not_true, Bool.not_false, cut_m (by omega : 0 ≤ 1 + y), mkL_v (l := (ar.take (1 + y).toNat).map tn) (sz (by simp; omega))]
      refine (c_take (k + 1) S6 a 3 _ (by decide) (u6.stm h) (by omega)).bind fun d S7 ⟨z, hd, hz0, hz1, u7⟩ => ?_
      subst hd
      have u7 := u6.trans u7
      have lim : ((ar.take (1 + y).toNat).map tn).length ≤ 3 := by simp; omega
      have lim2 : ((ar.take (1 + y).toNat).map tn).length * (1 + z).toNat ≤ 3 * 3 := Nat.mul_le_mul lim (by omega)
      have lim3 : (rept (1 + z).toNat (ar.take (1 + y).toNat)).length ≤ 9 := by
        rw [rept_len, Nat.mul_comm]
        simpa using lim2
      have lim4 : 1 * 1 ≤ (rept (1 + z).toNat (ar.take (1 + y).toNat)).length := by
        rw [rept_len]
        exact Nat.mul_le_mul (by omega) (by simp; omega)
      simp only [x_nil, x_cons, x_set, x_unp, x_sets, x_expr, x_ret, x_pass, x_brk, x_cont, x_ite, x_for, x_whl, v_bl, v_int, v_str, v_ty, v_non, v_var, v_tup, v_lst, v_bin, v_neg, v_not, v_cmp, v_and, v_or, v_ife, v_call, v_blt, v_mth, v_sub, v_slc, v_comp, o_none, o_some, s_nil, s_cons, i_seq, i_rng1, i_rng2, i_enum, nx_nx, nx_rt, nx_bk, nx_ct, ite_t, ite_f, and_t, and_f, or_t, or_f, R.bind_ok, R.bind_assoc, ofO_some, tr_b, optI_i, itm_t, itm_l, seqL_l, gdOf_tup, gdOf_lst, neg_i, aug_i, add_i, sub_i, slc_t, slc_l, add_l, len_t, len_l, list_t, list_l, tuple_l, max_i, ls_i, le_i, gt_i, ge_i, sub_t, sub_l, List.getElem?_cons_zero, List.getElem?_cons_succ, List.set_cons_zero, List.set_cons_succ, Bool.not_true, Bool.not_false, mul_ll (l := (ar.take (1 + y).toNat).map tn) (k := 1 + z) (by omega) (sz (by omega)), rep_map, mkL_v (l := (rept (1 + z).toNat (ar.take (1 + y).toNat)).map tn) (sz (by rw [List.length_map]; omega))]
      exact .ok ⟨_, rfl, by omega, lim3, u7.weak (by omega)⟩
  subst hf
  simp only [x_nil, x_cons, x_set, x_unp, x_sets, x_expr, x_ret, x_pass, x_brk, x_cont, x_ite, x_for, x_whl, v_bl, v_int, v_str, v_ty, v_non, v_var, v_tup, v_lst, v_bin, v_neg, v_not, v_cmp, v_and, v_or, v_ife, v_call, v_blt, v_mth, v_sub, v_slc, v_comp, o_none, o_some, s_nil, s_cons, i_seq, i_rng1, i_rng2, i_enum, nx_nx, nx_rt, nx_bk, nx_ct, ite_t, ite_f, and_t, and_f, or_t, or_f, R.bind_ok, R.bind_assoc, ofO_some, tr_b, optI_i, itm_t, itm_l, seqL_l, gdOf_tup, gdOf_lst, neg_i, aug_i, add_i, sub_i, slc_t, slc_l, add_l, len_t, len_l, list_t, list_l, tuple_l, max_i, ls_i, le_i, gt_i, ge_i, sub_t, sub_l, List.getElem?_cons_zero, List.getElem?_cons_succ, List.set_cons_zero, List.set_cons_succ, Bool.not_true, Bool.not_false]
  refine (c_take (k + 1) S6 a 3 (C + 29) (by decide) (u6.stm h) (by omega)).bind fun d S7 ⟨y, hd, hy0, hy1, u7⟩ => ?_
  subst hd
  have u7 := u6.trans u7
  simp only [x_nil, x_cons, x_set, x_unp, x_sets, x_expr, x_ret, x_pass, x_brk, x_cont, x_ite, x_for, x_whl, v_bl, v_int, v_str, v_ty, v_non, v_var, v_tup, v_lst, v_bin, v_neg, v_not, v_cmp, v_and, v_or, v_ife, v_call, v_blt, v_mth, v_sub, v_slc, v_comp, o_none, o_some, s_nil, s_cons, i_seq, i_rng1, i_rng2, i_enum, nx_nx, nx_rt, nx_bk, nx_ct, ite_t, ite_f, and_t, and_f, or_t, or_f, R.bind_ok, R.bind_assoc, ofO_some, tr_b, optI_i, itm_t, itm_l, seqL_l, gdOf_tup, gdOf_lst, neg_i, aug_i, add_i, sub_i, slc_t, slc_l, add_l, len_t, len_l, list_t, list_l, tuple_l, max_i, ls_i, le_i, gt_i, ge_i, sub_t, sub_l, List.getElem?_cons_zero, List.getElem?_cons_succ, List.set_cons_zero, List.set_cons_succ, Bool.not_true, Bool.not_false, eq_i]
  refine Sat.bind (P := fun f S' => ∃ s' : List T, f = .nx [some (.ref a), some (.lst (s'.map tn)), some (.lst (ar'.map tn)), none] ∧ s'.length ≤ 20 ∧ S' = S7) ?_ fun f S8 ⟨s', hf, h20, hS⟩ => ?_
  · cases hx : decide (y = 1) with
    | false =>
      simp only [x_nil, x_cons, x_set, x_unp, x_sets, x_expr, x_ret, x_pass, x_brk, x_cont, x_ite, x_for, x_whl, v_bl, v_int, v_str, v_ty, v_non, v_var, v_tup, v_lst, v_bin, v_neg, v_not, v_cmp, v_and, v_or, v_ife, v_call, v_blt, v_mth, v_sub, v_slc, v_comp, o_none, o_some, s_nil, s_cons, i_seq, i_rng1, i_rng2, i_enum, nx_nx, nx_rt, nx_bk, nx_ct, ite_t, ite_f, and_t, and_f, or_t, or_f, R.bind_ok, R.bind_assoc, ofO_some, tr_b, optI_i, itm_t, itm_l, seqL_l, gdOf_tup, gdOf_lst, neg_i, aug_i, add_i, sub_i, slc_t, slc_l, add_l, len_t, len_l, list_t, list_l, tuple_l, max_i, ls_i, le_i, gt_i, ge_i, sub_t, sub_l, List.getElem?_cons_zero, List.getElem?_cons_succ, List.set_cons_zero, List.set_cons_succ, Bool.not_true, Bool.not_false]
      exact .ok ⟨s, rfl, by omega, rfl⟩
    | true =>
      have lim2 : (ar'.map tn).length * (2 : Int).toNat ≤ 9 * 2 := Nat.mul_le_mul (by simpa using h9) (by decide)
      have lim3 : (rept (2 : Int).toNat ar').length ≤ 18 := by
        rw [rept_len, Nat.mul_comm]
        simpa using lim2
      have c2 : cutA (s.map tn) none (some 2) = (s.take 2).map tn := cut_m (by decide)
      simp only [x_nil, x_cons, x_set, x_unp, x_sets, x_expr, x_ret, x_pass, x_brk, x_cont, x_ite, x_for, x_whl, v_bl, v_int, v_str, v_ty, v_non, v_var, v_tup, v_lst, v_bin, v_neg, v_not, v_cmp, v_and, v_or, v_ife, v_call, v_blt, v_mth, v_sub, v_slc, v_comp, o_none, o_some, s_nil, s_cons, i_seq, i_rng1, i_rng2, i_enum, nx_nx, nx_rt, nx_bk, nx_ct, ite_t, ite_f, and_t, and_f, or_t, or_f, R.bind_ok, R.bind_assoc, ofO_some, tr_b, optI_i, itm_t, itm_l, seqL_l, gdOf_tup, gdOf_lst, neg_i, aug_i, add_i, sub_i, slc_t, slc_l, add_l, len_t, len_l, list_t, list_l, tuple_l, max_i, ls_i, le_i, gt_i, ge_i, sub_t, sub_l, List.getElem?_cons_zero, List.getElem?_cons_succ, List.set_cons_zero, List.set_cons_succ, Bool.not_true, Bool.not_false, c2, mkL_v (l := (s.take 2).map tn) (sz (by simp; omega)), mul_ll (l := ar'.map tn) (k := 2) (by omega) (sz (by omega)), rep_map, mkL_v (l := (rept (2 : Int).toNat ar').map tn) (sz (by rw [List.length_map]; omega)), ← List.map_append]
      have lim5 : (s.take 2 ++ rept (2 : Int).toNat ar').length ≤ 20 := by
        rw [List.length_append, List.length_take]
        omega
      simp only [mkL_v (l := (s.take 2 ++ rept (2 : Int).toNat ar').map tn) (sz (by rw [List.length_map]; omega)), x_nil, x_cons, x_set, x_unp, x_sets, x_expr, x_ret, x_pass, x_brk, x_cont, x_ite, x_for, x_whl, v_bl, v_int, v_str, v_ty, v_non, v_var, v_tup, v_lst, v_bin, v_neg, v_not, v_cmp, v_and, v_or, v_ife, v_call, v_blt, v_mth, v_sub, v_slc, v_comp, o_none, o_some, s_nil, s_cons, i_seq, i_rng1, i_rng2, i_enum, nx_nx, nx_rt, nx_bk, nx_ct, ite_t, ite_f, and_t, and_f, or_t, or_f, R.bind_ok, R.bind_assoc, ofO_some, tr_b, optI_i, itm_t, itm_l, seqL_l, gdOf_tup, gdOf_lst, neg_i, aug_i, add_i, sub_i, slc_t, slc_l, add_l, len_t, len_l, list_t, list_l, tuple_l, max_i, ls_i, le_i, gt_i, ge_i, sub_t, sub_l, List.getElem?_cons_zero, List.getElem?_cons_succ, List.set_cons_zero, List.set_cons_succ, Bool.not_true, Bool.not_false]
      exact .ok ⟨_, rfl, lim5, rfl⟩
  subst hf hS
  simp only [x_nil, x_cons, x_set, x_unp, x_sets, x_expr, x_ret, x_pass, x_brk, x_cont, x_ite, x_for, x_whl, v_bl, v_int, v_str, v_ty, v_non, v_var, v_tup, v_lst, v_bin, v_neg, v_not, v_cmp, v_and, v_or, v_ife, v_call, v_blt, v_mth, v_sub, v_slc, v_comp, o_none, o_some, s_nil, s_cons, i_seq, i_rng1, i_rng2, i_enum, nx_nx, nx_rt, nx_bk, nx_ct, ite_t, ite_f, and_t, and_f, or_t, or_f, R.bind_ok, R.bind_assoc, ofO_some, tr_b, optI_i, itm_t, itm_l, seqL_l, gdOf_tup, gdOf_lst, neg_i, aug_i, add_i, sub_i, slc_t, slc_l, add_l, len_t, len_l, list_t, list_l, tuple_l, max_i, ls_i, le_i, gt_i, ge_i, sub_t, sub_l, List.getElem?_cons_zero, List.getElem?_cons_succ, List.set_cons_zero, List.set_cons_succ, Bool.not_true, Bool.not_false, mkT_v (l := s'.map tn) (sz (by simp; omega)), mkT_v (l := ar'.map tn) (sz (by simp; omega)), mkT_v (l := [D.tup (s'.map tn), D.tup (ar'.map tn)]) (sz (by simp))]
  exact .ok ⟨_, rfl, u7.old, u7.len, gd_below _ 64 _ (gd_loop s' ar'), s', ar', rfl, h20, h1, h9, u7.weak (by omega)⟩
end K04

namespace K04
open PySem Mn
theorem at2_0 {a b : D} : L2.atI [a, b] 0 = some a := nr rfl
theorem at2_1 {a b : D} : L2.atI [a, b] 1 = some b := nr rfl
theorem rng_get0 {n i : Nat} {d : D} (h : (rng 0 n 1)[i]? = some d) : i < n ∧ d = .int (i : Int) := by
  obtain ⟨h1, rfl⟩ := rng_get h
  exact ⟨h1, by congr 1; omega⟩
theorem rng_get1 {n i : Nat} {d : D} (h : (rng 1 n 1)[i]? = some d) : i < n ∧ d = .int ((i + 1 : Nat) : Int) := by
  obtain ⟨h1, rfl⟩ := rng_get h
  exact ⟨h1, by congr 1; omega⟩
theorem dec_true {p : Prop} [Decidable p] (h : p) : decide p = true := decide_eq_true h
theorem row_app {s a L : List T} {j : Nat} (h : L = rowOf (sq s a) L.length) (hl : L.length = s.length + j * a.length) : L ++ a = rowOf (sq s a) (L.length + a.length) := by
  rw [row_add, ← h]
  congr 1
  refine row_eq rfl fun i hi => ?_
  unfold sq
  rw [if_neg (by omega)]
  have : L.length + i - s.length = i + a.length * j := by rw [hl, Nat.mul_comm]; omega
  rw [this, Nat.add_mul_mod_self_left, Nat.mod_eq_of_lt hi]
theorem row_stem {s a : List T} : s = rowOf (sq s a) s.length := row_eq rfl fun i hi => by
  unfold sq
  rw [if_pos hi]
theorem c_row (k : Nat) (S : Store) (s a : List T) (m : Nat) (h1 : 1 ≤ a.length) (ha : a.length ≤ 200) (hs : s.length ≤ 2000) (hm : m ≤ 2000) :
    CC (k + 1) "_law_row" [loopD s a, .int (m : Int)] S = .ok (.lst ((rowOf (sq s a) m).map tn)) S := by
  refine Sat.eq ?_
  rw [call_step (d := d__law_row) rfl rfl]
  show Sat (leave .pure S (exB (fun _ => none) 1000000 (CC k) d__law_row.body [some (loopD s a), some (.int (m : Int)), none] S)) _
  refine Sat.leave ?_
  have e0 : ∀ {S : Store}, subA S (loopD s a) (.int 0) = some (.tup (s.map tn)) := rfl
  have e1 : ∀ {S : Store}, subA S (loopD s a) (.int 1) = some (.tup (a.map tn)) := rfl
  simp only [d__law_row, x_nil, x_cons, x_set, x_unp, x_sets, x_expr, x_ret, x_pass, x_brk, x_cont, x_ite, x_for, x_whl, v_bl, v_int, v_str, v_ty, v_non, v_var, v_tup, v_lst, v_bin, v_neg, v_not, v_cmp, v_and, v_or, v_ife, v_call, v_blt, v_mth, v_sub, v_slc, v_comp, o_none, o_some, s_nil, s_cons, i_seq, i_rng1, i_rng2, i_enum, nx_nx, nx_rt, nx_bk, nx_ct, ite_t, ite_f, and_t, and_f, or_t, or_f, R.bind_ok, R.bind_assoc, ofO_some, tr_b, optI_i, itm_t, itm_l, seqL_l, gdOf_tup, gdOf_lst, neg_i, aug_i, add_i, sub_i, slc_t, slc_l, add_l, len_t, len_l, list_t, list_l, tuple_l, max_i, ls_i, le_i, gt_i, ge_i, sub_t, sub_l, List.getElem?_cons_zero, List.getElem?_cons_succ, List.set_cons_zero, List.set_cons_succ, Bool.not_true, Bool.not_false, e0, mkL_v (l := s.map tn) (sz (by simp; omega))]
  refine Sat.bind (P := fun f S' => S' = S ∧ ∃ L : List T, f = .nx [some (loopD s a), some (.int (m : Int)), some (.lst (L.map tn))] ∧ L = rowOf (sq s a) L.length ∧ m ≤ L.length) ?_ fun f S1 ⟨hS, L, hf, hL, hml⟩ => ?_
  · unfold whlB
    refine while_sat (fun mm e S' => S' = S ∧ ∃ (L : List T) (j : Nat), e = [some (loopD s a), some (.int (m : Int)), some (.lst (L.map tn))] ∧ L = rowOf (sq s a) L.length ∧ L.length = s.length + j * a.length ∧ L.length ≤ 2000 + 200 ∧ mm = m - L.length) ?_ 1000000 (m - s.length) _ _ (by omega) ⟨rfl, s, 0, rfl, row_stem, by simp, by omega, rfl⟩
    rintro mm e S' ⟨rfl, L, j, rfl, hL, hj, hb, rfl⟩
    simp only [tru, x_nil, x_cons, x_set, x_unp, x_sets, x_expr, x_ret, x_pass, x_brk, x_cont, x_ite, x_for, x_whl, v_bl, v_int, v_str, v_ty, v_non, v_var, v_tup, v_lst, v_bin, v_neg, v_not, v_cmp, v_and, v_or, v_ife, v_call, v_blt, v_mth, v_sub, v_slc, v_comp, o_none, o_some, s_nil, s_cons, i_seq, i_rng1, i_rng2, i_enum, nx_nx, nx_rt, nx_bk, nx_ct, ite_t, ite_f, and_t, and_f, or_t, or_f, R.bind_ok, R.bind_assoc, ofO_some, tr_b, optI_i, itm_t, itm_l, seqL_l, gdOf_tup, gdOf_lst, neg_i, aug_i, add_i, sub_i, slc_t, slc_l, add_l, len_t, len_l, list_t, list_l, tuple_l, max_i, ls_i, le_i, gt_i, ge_i, sub_t, sub_l, List.getElem?_cons_zero, List.getElem?_cons_succ, List.set_cons_zero, List.set_cons_succ, Bool.not_true, Bool.not_false, List.length_map]
    by_cases hlt : (L.length : Int) < m
    · rw [dec_true hlt]
      refine .ok ?_
      rw [if_pos rfl]
      have z : L ++ a = rowOf (sq s a) (L ++ a).length := by rw [List.length_append]; exact row_app hL hj
      simp only [x_nil, x_cons, x_set, x_unp, x_sets, x_expr, x_ret, x_pass, x_brk, x_cont, x_ite, x_for, x_whl, v_bl, v_int, v_str, v_ty, v_non, v_var, v_tup, v_lst, v_bin, v_neg, v_not, v_cmp, v_and, v_or, v_ife, v_call, v_blt, v_mth, v_sub, v_slc, v_comp, o_none, o_some, s_nil, s_cons, i_seq, i_rng1, i_rng2, i_enum, nx_nx, nx_rt, nx_bk, nx_ct, ite_t, ite_f, and_t, and_f, or_t, or_f, R.bind_ok, R.bind_assoc, ofO_some, tr_b, optI_i, itm_t, itm_l, seqL_l, gdOf_tup, gdOf_lst, neg_i, aug_i, add_i, sub_i, slc_t, slc_l, add_l, len_t, len_l, list_t, list_l, tuple_l, max_i, ls_i, le_i, gt_i, ge_i, sub_t, sub_l, List.getElem?_cons_zero, List.getElem?_cons_succ, List.set_cons_zero, List.set_cons_succ, Bool.not_true, Bool.not_false, e1, mkL_v (l := a.map tn) (sz (by simp; omega)), ← List.map_append, mkL_v (l := (L ++ a).map tn) (sz (by simp; omega))]
      exact .ok ⟨m - (L ++ a).length, by simp; omega, rfl, L ++ a, j + 1, rfl, z, by rw [List.length_append, hj, Nat.add_mul]; omega, by simp; omega, rfl⟩
    · rw [decide_eq_false hlt]
      refine .ok ?_
      rw [if_neg (by simp)]
      exact ⟨rfl, L, rfl, hL, by omega⟩
  subst hS hf
  have c : cutA (L.map tn) none (some (m : Int)) = (rowOf (sq s a) m).map tn := by
    rw [cut_to, ← List.map_take, hL, row_take hml]
  simp only [x_nil, x_cons, x_set, x_unp, x_sets, x_expr, x_ret, x_pass, x_brk, x_cont, x_ite, x_for, x_whl, v_bl, v_int, v_str, v_ty, v_non, v_var, v_tup, v_lst, v_bin, v_neg, v_not, v_cmp, v_and, v_or, v_ife, v_call, v_blt, v_mth, v_sub, v_slc, v_comp, o_none, o_some, s_nil, s_cons, i_seq, i_rng1, i_rng2, i_enum, nx_nx, nx_rt, nx_bk, nx_ct, ite_t, ite_f, and_t, and_f, or_t, or_f, R.bind_ok, R.bind_assoc, ofO_some, tr_b, optI_i, itm_t, itm_l, seqL_l, gdOf_tup, gdOf_lst, neg_i, aug_i, add_i, sub_i, slc_t, slc_l, add_l, len_t, len_l, list_t, list_l, tuple_l, max_i, ls_i, le_i, gt_i, ge_i, sub_t, sub_l, List.getElem?_cons_zero, List.getElem?_cons_succ, List.set_cons_zero, List.set_cons_succ, Bool.not_true, Bool.not_false, c, mkL_v (l := (rowOf (sq s a) m).map tn) (sz (by simp [row_len]; omega))]
  exact .ok ⟨_, rfl, oldOk_refl _, rfl, by simp only [below]; exact gds_below _ 1 _ (gds_tn _ 0), rfl, rfl⟩
theorem gd_lst (l : List T) : gd (.lst (l.map tn)) 64 = true := by simp [gd, gds_tn]
theorem gd_tup (l : List T) : gd (.tup (l.map tn)) 64 = true := by simp [gd, gds_tn]
theorem c_same (k : Nat) (S : Store) (s a s' a' : List T) (h1 : 1 ≤ a.length) (h1' : 1 ≤ a'.length) (ha : a.length ≤ 30) (ha' : a'.length ≤ 30) (hs : s.length ≤ 100) (hs' : s'.length ≤ 100) :
    ∃ b, CC (k + 2) "_law_same" [loopD s a, loopD s' a'] S = .ok (.bl b) S ∧ (b = true ↔ sq s a = sq s' a') := by
  obtain ⟨n, hn⟩ : ∃ n, n = max s.length s'.length + a.length * a'.length := ⟨_, rfl⟩
  have hmul : a.length * a'.length ≤ 30 * 30 := Nat.mul_le_mul ha ha'
  refine ⟨decide (D.lst ((rowOf (sq s a) n).map tn) = D.lst ((rowOf (sq s' a') n).map tn)), Sat.eq ?_, ?_⟩
  · rw [call_step (d := d__law_same) rfl rfl]
    show Sat (leave .pure S (exB (fun _ => none) 1000000 (CC (k + 1)) d__law_same.body [some (loopD s a), some (loopD s' a'), none] S)) _
    refine Sat.leave ?_
    have e0 : ∀ {S : Store}, subA S (loopD s a) (.int 0) = some (.tup (s.map tn)) := rfl
    have e1 : ∀ {S : Store}, subA S (loopD s a) (.int 1) = some (.tup (a.map tn)) := rfl
    have e0' : ∀ {S : Store}, subA S (loopD s' a') (.int 0) = some (.tup (s'.map tn)) := rfl
    have e1' : ∀ {S : Store}, subA S (loopD s' a') (.int 1) = some (.tup (a'.map tn)) := rfl
    have q : (if (s'.length : Int) > (s.length : Int) then (s'.length : Int) else (s.length : Int)) + (a.length : Int) * (a'.length : Int) = (n : Int) := by
      rw [hn]
      push_cast
      split <;> omega
    simp only [d__law_same, x_nil, x_cons, x_set, x_unp, x_sets, x_expr, x_ret, x_pass, x_brk, x_cont, x_ite, x_for, x_whl, v_bl, v_int, v_str, v_ty, v_non, v_var, v_tup, v_lst, v_bin, v_neg, v_not, v_cmp, v_and, v_or, v_ife, v_call, v_blt, v_mth, v_sub, v_slc, v_comp, o_none, o_some, s_nil, s_cons, i_seq, i_rng1, i_rng2, i_enum, nx_nx, nx_rt, nx_bk, nx_ct, ite_t, ite_f, and_t, and_f, or_t, or_f, R.bind_ok, R.bind_assoc, ofO_some, tr_b, optI_i, itm_t, itm_l, seqL_l, gdOf_tup, gdOf_lst, neg_i, aug_i, add_i, sub_i, slc_t, slc_l, add_l, len_t, len_l, list_t, list_l, tuple_l, max_i, ls_i, le_i, gt_i, ge_i, sub_t, sub_l, List.getElem?_cons_zero, List.getElem?_cons_succ, List.set_cons_zero, List.set_cons_succ, Bool.not_true, Bool.not_false, e0, e1, e0', e1', List.length_map]
    rw [mul_r (by omega)]
    simp only [x_nil, x_cons, x_set, x_unp, x_sets, x_expr, x_ret, x_pass, x_brk, x_cont, x_ite, x_for, x_whl, v_bl, v_int, v_str, v_ty, v_non, v_var, v_tup, v_lst, v_bin, v_neg, v_not, v_cmp, v_and, v_or, v_ife, v_call, v_blt, v_mth, v_sub, v_slc, v_comp, o_none, o_some, s_nil, s_cons, i_seq, i_rng1, i_rng2, i_enum, nx_nx, nx_rt, nx_bk, nx_ct, ite_t, ite_f, and_t, and_f, or_t, or_f, R.bind_ok, R.bind_assoc, ofO_some, tr_b, optI_i, itm_t, itm_l, seqL_l, gdOf_tup, gdOf_lst, neg_i, aug_i, add_i, sub_i, slc_t, slc_l, add_l, len_t, len_l, list_t, list_l, tuple_l, max_i, ls_i, le_i, gt_i, ge_i, sub_t, sub_l, List.getElem?_cons_zero, List.getElem?_cons_succ, List.set_cons_zero, List.set_cons_succ, Bool.not_true, Bool.not_false, q, c_row k _ s a n h1 (by omega) (by omega) (by omega), c_row k _ s' a' n h1' (by omega) (by omega) (by omega), eq_g (gd_lst _) (gd_lst _)]
    exact .ok ⟨_, rfl, oldOk_refl _, rfl, by simp [below], rfl, rfl⟩
  · rw [decide_eq_true_iff, ← sq_far h1 h1' hn]
    constructor
    · intro h
      exact map_inj (D.lst.inj h)
    · intro h
      rw [h]
theorem cut_fr {l : List T} {n : Nat} : cutA (l.map tn) (some (n : Int)) none = (l.drop n).map tn := by
  rw [cut_from, List.map_drop]
theorem cut_tt {l : List T} {n : Nat} : cutA (l.map tn) none (some (n : Int)) = (l.take n).map tn := by
  rw [cut_to, List.map_take]
theorem good_self {a : List T} : good a a.length := by
  refine ⟨Nat.mod_self _, ?_⟩
  rw [Nat.sub_self, List.drop_length, List.take_zero]
theorem c_sr (k : Nat) (S : Store) (a : List T) (h1 : 1 ≤ a.length) (ha : a.length ≤ 200) :
    ∃ p, 1 ≤ p ∧ p ≤ a.length ∧ good a p ∧ (∀ m, 1 ≤ m → m < p → ¬ good a m) ∧ CC (k + 1) "shortest_round" [.tup (a.map tn)] S = .ok (.tup ((a.take p).map tn)) S := by
  have z : Sat (CC (k + 1) "shortest_round" [.tup (a.map tn)] S) fun d S' => S' = S ∧ ∃ p, 1 ≤ p ∧ p ≤ a.length ∧ good a p ∧ (∀ m, 1 ≤ m → m < p → ¬ good a m) ∧ d = .tup ((a.take p).map tn) := by
    rw [call_step (d := d_shortest_round) rfl rfl]
    show Sat (leave .pure S (exB (fun _ => none) 1000000 (CC k) d_shortest_round.body [some (.tup (a.map tn)), none, none] S)) _
    refine Sat.leave ?_
    simp only [d_shortest_round, x_nil, x_cons, x_set, x_unp, x_sets, x_expr, x_ret, x_pass, x_brk, x_cont, x_ite, x_for, x_whl, v_bl, v_int, v_str, v_ty, v_non, v_var, v_tup, v_lst, v_bin, v_neg, v_not, v_cmp, v_and, v_or, v_ife, v_call, v_blt, v_mth, v_sub, v_slc, v_comp, o_none, o_some, s_nil, s_cons, i_seq, i_rng1, i_rng2, i_enum, nx_nx, nx_rt, nx_bk, nx_ct, ite_t, ite_f, and_t, and_f, or_t, or_f, R.bind_ok, R.bind_assoc, ofO_some, tr_b, optI_i, itm_t, itm_l, seqL_l, gdOf_tup, gdOf_lst, neg_i, aug_i, add_i, sub_i, slc_t, slc_l, add_l, len_t, len_l, list_t, list_l, tuple_l, max_i, ls_i, le_i, gt_i, ge_i, sub_t, sub_l, List.getElem?_cons_zero, List.getElem?_cons_succ, List.set_cons_zero, List.set_cons_succ, Bool.not_true, Bool.not_false, List.length_map]
    rw [if_pos ⟨by omega, by omega, by omega, by omega⟩]
    simp only [x_nil, x_cons, x_set, x_unp, x_sets, x_expr, x_ret, x_pass, x_brk, x_cont, x_ite, x_for, x_whl, v_bl, v_int, v_str, v_ty, v_non, v_var, v_tup, v_lst, v_bin, v_neg, v_not, v_cmp, v_and, v_or, v_ife, v_call, v_blt, v_mth, v_sub, v_slc, v_comp, o_none, o_some, s_nil, s_cons, i_seq, i_rng1, i_rng2, i_enum, nx_nx, nx_rt, nx_bk, nx_ct, ite_t, ite_f, and_t, and_f, or_t, or_f, R.bind_ok, R.bind_assoc, ofO_some, tr_b, optI_i, itm_t, itm_l, seqL_l, gdOf_tup, gdOf_lst, neg_i, aug_i, add_i, sub_i, slc_t, slc_l, add_l, len_t, len_l, list_t, list_l, tuple_l, max_i, ls_i, le_i, gt_i, ge_i, sub_t, sub_l, List.getElem?_cons_zero, List.getElem?_cons_succ, List.set_cons_zero, List.set_cons_succ, Bool.not_true, Bool.not_false]
    refine Sat.bind (P := fun f S' => S' = S ∧ ((∃ p, 1 ≤ p ∧ p ≤ a.length ∧ good a p ∧ (∀ m, 1 ≤ m → m < p → ¬ good a m) ∧ f = .rt (.tup ((a.take p).map tn))) ∨ ∃ x, f = .nx [some (.tup (a.map tn)), some (.int a.length), x] ∧ ∀ m, 1 ≤ m → m < a.length → ¬ good a m)) ?_ fun f S1 ⟨hS, hf⟩ => ?_
    · unfold forB
      refine for_sat (fun i e S' => S' = S ∧ ∃ x, e = [some (.tup (a.map tn)), some (.int a.length), x] ∧ ∀ m, 1 ≤ m → m ≤ i → ¬ good a m) ?_ ?_ ⟨rfl, none, rfl, fun m _ _ => by omega⟩
      · rintro i d e S' hd ⟨rfl, x, rfl, hI⟩
        obtain ⟨hi, rfl⟩ := rng_get1 hd
        refine ⟨_, rfl, ?_⟩
        have cz : ((a.length : Int) - ((i + 1 : Nat) : Int)) = ((a.length - (i + 1) : Nat) : Int) := by omega
        simp only [x_nil, x_cons, x_set, x_unp, x_sets, x_expr, x_ret, x_pass, x_brk, x_cont, x_ite, x_for, x_whl, v_bl, v_int, v_str, v_ty, v_non, v_var, v_tup, v_lst, v_bin, v_neg, v_not, v_cmp, v_and, v_or, v_ife, v_call, v_blt, v_mth, v_sub, v_slc, v_comp, o_none, o_some, s_nil, s_cons, i_seq, i_rng1, i_rng2, i_enum, nx_nx, nx_rt, nx_bk, nx_ct, ite_t, ite_f, and_t, and_f, or_t, or_f, R.bind_ok, R.bind_assoc, ofO_some, tr_b, optI_i, itm_t, itm_l, seqL_l, gdOf_tup, gdOf_lst, neg_i, aug_i, add_i, sub_i, slc_t, slc_l, add_l, len_t, len_l, list_t, list_l, tuple_l, max_i, ls_i, le_i, gt_i, ge_i, sub_t, sub_l, List.getElem?_cons_zero, List.getElem?_cons_succ, List.set_cons_zero, List.set_cons_succ, Bool.not_true, Bool.not_false, mod_i (by omega : (0 : Int) < ((i + 1 : Nat) : Int)), eq_i]
        by_cases hmod : (a.length : Int) % ((i + 1 : Nat) : Int) = 0
        · rw [dec_true hmod]
          simp only [x_nil, x_cons, x_set, x_unp, x_sets, x_expr, x_ret, x_pass, x_brk, x_cont, x_ite, x_for, x_whl, v_bl, v_int, v_str, v_ty, v_non, v_var, v_tup, v_lst, v_bin, v_neg, v_not, v_cmp, v_and, v_or, v_ife, v_call, v_blt, v_mth, v_sub, v_slc, v_comp, o_none, o_some, s_nil, s_cons, i_seq, i_rng1, i_rng2, i_enum, nx_nx, nx_rt, nx_bk, nx_ct, ite_t, ite_f, and_t, and_f, or_t, or_f, R.bind_ok, R.bind_assoc, ofO_some, tr_b, optI_i, itm_t, itm_l, seqL_l, gdOf_tup, gdOf_lst, neg_i, aug_i, add_i, sub_i, slc_t, slc_l, add_l, len_t, len_l, list_t, list_l, tuple_l, max_i, ls_i, le_i, gt_i, ge_i, sub_t, sub_l, List.getElem?_cons_zero, List.getElem?_cons_succ, List.set_cons_zero, List.set_cons_succ, Bool.not_true, Bool.not_false, cut_fr, cz, cut_tt, eq_g (gd_tup _) (gd_tup _)]
          by_cases hg : D.tup ((a.drop (i + 1)).map tn) = D.tup ((a.take (a.length - (i + 1))).map tn)
          · rw [dec_true hg]
            simp only [x_nil, x_cons, x_set, x_unp, x_sets, x_expr, x_ret, x_pass, x_brk, x_cont, x_ite, x_for, x_whl, v_bl, v_int, v_str, v_ty, v_non, v_var, v_tup, v_lst, v_bin, v_neg, v_not, v_cmp, v_and, v_or, v_ife, v_call, v_blt, v_mth, v_sub, v_slc, v_comp, o_none, o_some, s_nil, s_cons, i_seq, i_rng1, i_rng2, i_enum, nx_nx, nx_rt, nx_bk, nx_ct, ite_t, ite_f, and_t, and_f, or_t, or_f, R.bind_ok, R.bind_assoc, ofO_some, tr_b, optI_i, itm_t, itm_l, seqL_l, gdOf_tup, gdOf_lst, neg_i, aug_i, add_i, sub_i, slc_t, slc_l, add_l, len_t, len_l, list_t, list_l, tuple_l, max_i, ls_i, le_i, gt_i, ge_i, sub_t, sub_l, List.getElem?_cons_zero, List.getElem?_cons_succ, List.set_cons_zero, List.set_cons_succ, Bool.not_true, Bool.not_false, cut_tt]
            exact .ok ⟨rfl, .inl ⟨i + 1, by omega, by omega, ⟨by omega, map_inj (D.tup.inj hg)⟩, fun m h0 h1 => hI m h0 (by omega), rfl⟩⟩
          · rw [decide_eq_false hg]
            simp only [x_nil, x_cons, x_set, x_unp, x_sets, x_expr, x_ret, x_pass, x_brk, x_cont, x_ite, x_for, x_whl, v_bl, v_int, v_str, v_ty, v_non, v_var, v_tup, v_lst, v_bin, v_neg, v_not, v_cmp, v_and, v_or, v_ife, v_call, v_blt, v_mth, v_sub, v_slc, v_comp, o_none, o_some, s_nil, s_cons, i_seq, i_rng1, i_rng2, i_enum, nx_nx, nx_rt, nx_bk, nx_ct, ite_t, ite_f, and_t, and_f, or_t, or_f, R.bind_ok, R.bind_assoc, ofO_some, tr_b, optI_i, itm_t, itm_l, seqL_l, gdOf_tup, gdOf_lst, neg_i, aug_i, add_i, sub_i, slc_t, slc_l, add_l, len_t, len_l, list_t, list_l, tuple_l, max_i, ls_i, le_i, gt_i, ge_i, sub_t, sub_l, List.getElem?_cons_zero, List.getElem?_cons_succ, List.set_cons_zero, List.set_cons_succ, Bool.not_true, Bool.not_false]
            refine .ok ⟨rfl, _, rfl, fun m h0 h1 => ?_⟩
            by_cases hm : m ≤ i
            · exact hI m h0 hm
            · have : m = i + 1 := by omega
              subst this
              intro g
              exact hg (by rw [g.2])
        · rw [decide_eq_false hmod]
          simp only [x_nil, x_cons, x_set, x_unp, x_sets, x_expr, x_ret, x_pass, x_brk, x_cont, x_ite, x_for, x_whl, v_bl, v_int, v_str, v_ty, v_non, v_var, v_tup, v_lst, v_bin, v_neg, v_not, v_cmp, v_and, v_or, v_ife, v_call, v_blt, v_mth, v_sub, v_slc, v_comp, o_none, o_some, s_nil, s_cons, i_seq, i_rng1, i_rng2, i_enum, nx_nx, nx_rt, nx_bk, nx_ct, ite_t, ite_f, and_t, and_f, or_t, or_f, R.bind_ok, R.bind_assoc, ofO_some, tr_b, optI_i, itm_t, itm_l, seqL_l, gdOf_tup, gdOf_lst, neg_i, aug_i, add_i, sub_i, slc_t, slc_l, add_l, len_t, len_l, list_t, list_l, tuple_l, max_i, ls_i, le_i, gt_i, ge_i, sub_t, sub_l, List.getElem?_cons_zero, List.getElem?_cons_succ, List.set_cons_zero, List.set_cons_succ, Bool.not_true, Bool.not_false]
          refine .ok ⟨rfl, _, rfl, fun m h0 h1 => ?_⟩
          by_cases hm : m ≤ i
          · exact hI m h0 hm
          · have : m = i + 1 := by omega
            subst this
            intro g
            exact hmod (by have := g.1; omega)
      · rintro e S' ⟨rfl, x, rfl, hI⟩
        exact ⟨rfl, .inr ⟨x, rfl, fun m h0 h1 => hI m h0 (by rw [rng_len]; omega)⟩⟩
    · subst hS
      have bl : ∀ l : List T, below S1.length (.tup (l.map tn)) = true := fun l => gd_below _ 64 _ (gd_tup l)
      rcases hf with ⟨p, q1, q2, q3, q4, rfl⟩ | ⟨x, rfl, hI⟩
      · simp only [x_nil, x_cons, x_set, x_unp, x_sets, x_expr, x_ret, x_pass, x_brk, x_cont, x_ite, x_for, x_whl, v_bl, v_int, v_str, v_ty, v_non, v_var, v_tup, v_lst, v_bin, v_neg, v_not, v_cmp, v_and, v_or, v_ife, v_call, v_blt, v_mth, v_sub, v_slc, v_comp, o_none, o_some, s_nil, s_cons, i_seq, i_rng1, i_rng2, i_enum, nx_nx, nx_rt, nx_bk, nx_ct, ite_t, ite_f, and_t, and_f, or_t, or_f, R.bind_ok, R.bind_assoc, ofO_some, tr_b, optI_i, itm_t, itm_l, seqL_l, gdOf_tup, gdOf_lst, neg_i, aug_i, add_i, sub_i, slc_t, slc_l, add_l, len_t, len_l, list_t, list_l, tuple_l, max_i, ls_i, le_i, gt_i, ge_i, sub_t, sub_l, List.getElem?_cons_zero, List.getElem?_cons_succ, List.set_cons_zero, List.set_cons_succ, Bool.not_true, Bool.not_false]
        exact .ok ⟨_, rfl, oldOk_refl _, rfl, bl _, rfl, p, q1, q2, q3, q4, rfl⟩
      · simp only [x_nil, x_cons, x_set, x_unp, x_sets, x_expr, x_ret, x_pass, x_brk, x_cont, x_ite, x_for, x_whl, v_bl, v_int, v_str, v_ty, v_non, v_var, v_tup, v_lst, v_bin, v_neg, v_not, v_cmp, v_and, v_or, v_ife, v_call, v_blt, v_mth, v_sub, v_slc, v_comp, o_none, o_some, s_nil, s_cons, i_seq, i_rng1, i_rng2, i_enum, nx_nx, nx_rt, nx_bk, nx_ct, ite_t, ite_f, and_t, and_f, or_t, or_f, R.bind_ok, R.bind_assoc, ofO_some, tr_b, optI_i, itm_t, itm_l, seqL_l, gdOf_tup, gdOf_lst, neg_i, aug_i, add_i, sub_i, slc_t, slc_l, add_l, len_t, len_l, list_t, list_l, tuple_l, max_i, ls_i, le_i, gt_i, ge_i, sub_t, sub_l, List.getElem?_cons_zero, List.getElem?_cons_succ, List.set_cons_zero, List.set_cons_succ, Bool.not_true, Bool.not_false]
        exact .ok ⟨_, rfl, oldOk_refl _, rfl, bl _, rfl, a.length, h1, Nat.le_refl _, good_self, hI, by rw [List.take_length]⟩
  obtain ⟨d, S', e, rfl, p, q1, q2, q3, q4, rfl⟩ := z
  exact ⟨p, q1, q2, q3, q4, e⟩
def due (f : Nat → T) (p q : Nat) : D := loopD (rowOf f q) (rowOf (fun i => f (q + i)) p)
theorem atD {l : List T} {k : Nat} (h : k < l.length) : L2.atI (l.map tn) (-1 - (k : Int)) = some (tn (l.getD (l.length - 1 - k) z0)) := by
  rw [atI_neg (by simpa using h), List.length_map, List.getElem?_map, List.getD_eq_getElem?_getD, List.getElem?_eq_getElem (by omega)]
  rfl
theorem c_lean (k : Nat) (S : Store) (s a : List T) (h1 : 1 ≤ a.length) (ha : a.length ≤ 200) (hs : s.length ≤ 2000) :
    ∃ p q, Lean (sq s a) p q ∧ p ≤ a.length ∧ q ≤ s.length ∧ CC (k + 2) "lean" [loopD s a] S = .ok (due (sq s a) p q) S := by
  obtain ⟨p, hp, hpa, g, hmin, ce⟩ := c_sr k S a h1 ha
  have hl : (a.take p).length = p := by simp; omega
  have z : Sat (CC (k + 2) "lean" [loopD s a] S) fun d S' => S' = S ∧ ∃ q, Lean (sq s a) p q ∧ q ≤ s.length ∧ d = due (sq s a) p q := by
    rw [call_step (d := d_lean) rfl rfl]
    show Sat (leave .pure S (exB (fun _ => none) 1000000 (CC (k + 1)) d_lean.body [some (loopD s a), none, none, none, none, none] S)) _
    refine Sat.leave ?_
    have as : ∀ e, asg (.tp [5, 1]) (loopD s a) e = some ((e.set 5 (some (.tup (s.map tn)))).set 1 (some (.tup (a.map tn)))) := fun e => rfl
    simp only [d_lean, x_nil, x_cons, x_set, x_unp, x_sets, x_expr, x_ret, x_pass, x_brk, x_cont, x_ite, x_for, x_whl, v_bl, v_int, v_str, v_ty, v_non, v_var, v_tup, v_lst, v_bin, v_neg, v_not, v_cmp, v_and, v_or, v_ife, v_call, v_blt, v_mth, v_sub, v_slc, v_comp, o_none, o_some, s_nil, s_cons, i_seq, i_rng1, i_rng2, i_enum, nx_nx, nx_rt, nx_bk, nx_ct, ite_t, ite_f, and_t, and_f, or_t, or_f, R.bind_ok, R.bind_assoc, ofO_some, tr_b, optI_i, itm_t, itm_l, seqL_l, gdOf_tup, gdOf_lst, neg_i, aug_i, add_i, sub_i, slc_t, slc_l, add_l, len_t, len_l, list_t, list_l, tuple_l, max_i, ls_i, le_i, gt_i, ge_i, sub_t, sub_l, List.getElem?_cons_zero, List.getElem?_cons_succ, List.set_cons_zero, List.set_cons_succ, Bool.not_true, Bool.not_false, as, ce, List.length_map, hl]
    refine Sat.bind (P := fun f S' => S' = S ∧ ∃ k : Nat, f = .nx [some (loopD s a), some (.tup ((a.take p).map tn)), some (.int p), some (.int k), none, some (.tup (s.map tn))] ∧ k ≤ s.length ∧ (∀ j, j < k → s.getD (s.length - 1 - j) z0 = (a.take p).getD (p - 1 - j % p) z0) ∧ (k = s.length ∨ s.getD (s.length - 1 - k) z0 ≠ (a.take p).getD (p - 1 - k % p) z0)) ?_ fun f S1 ⟨hS, k, hf, hk, ha, hs⟩ => ?_
    · unfold whlB
      refine while_sat (fun mm e S' => S' = S ∧ ∃ k : Nat, e = [some (loopD s a), some (.tup ((a.take p).map tn)), some (.int p), some (.int k), none, some (.tup (s.map tn))] ∧ k ≤ s.length ∧ (∀ j, j < k → s.getD (s.length - 1 - j) z0 = (a.take p).getD (p - 1 - j % p) z0) ∧ mm = s.length - k) ?_ 1000000 s.length _ _ (by omega) ⟨rfl, 0, rfl, by omega, fun j h => by omega, by omega⟩
      rintro mm e S' ⟨rfl, k, rfl, hk, hI, rfl⟩
      simp only [tru, x_nil, x_cons, x_set, x_unp, x_sets, x_expr, x_ret, x_pass, x_brk, x_cont, x_ite, x_for, x_whl, v_bl, v_int, v_str, v_ty, v_non, v_var, v_tup, v_lst, v_bin, v_neg, v_not, v_cmp, v_and, v_or, v_ife, v_call, v_blt, v_mth, v_sub, v_slc, v_comp, o_none, o_some, s_nil, s_cons, i_seq, i_rng1, i_rng2, i_enum, nx_nx, nx_rt, nx_bk, nx_ct, ite_t, ite_f, and_t, and_f, or_t, or_f, R.bind_ok, R.bind_assoc, ofO_some, tr_b, optI_i, itm_t, itm_l, seqL_l, gdOf_tup, gdOf_lst, neg_i, aug_i, add_i, sub_i, slc_t, slc_l, add_l, len_t, len_l, list_t, list_l, tuple_l, max_i, ls_i, le_i, gt_i, ge_i, sub_t, sub_l, List.getElem?_cons_zero, List.getElem?_cons_succ, List.set_cons_zero, List.set_cons_succ, Bool.not_true, Bool.not_false, List.length_map]
      by_cases hlt : (k : Int) < s.length
      · have m2 : (-1 - (k : Int) % (p : Int)) = -1 - ((k % p : Nat) : Int) := by omega
        have hkp : k % p < p := Nat.mod_lt _ (by omega)
        rw [dec_true hlt]
        simp only [x_nil, x_cons, x_set, x_unp, x_sets, x_expr, x_ret, x_pass, x_brk, x_cont, x_ite, x_for, x_whl, v_bl, v_int, v_str, v_ty, v_non, v_var, v_tup, v_lst, v_bin, v_neg, v_not, v_cmp, v_and, v_or, v_ife, v_call, v_blt, v_mth, v_sub, v_slc, v_comp, o_none, o_some, s_nil, s_cons, i_seq, i_rng1, i_rng2, i_enum, nx_nx, nx_rt, nx_bk, nx_ct, ite_t, ite_f, and_t, and_f, or_t, or_f, R.bind_ok, R.bind_assoc, ofO_some, tr_b, optI_i, itm_t, itm_l, seqL_l, gdOf_tup, gdOf_lst, neg_i, aug_i, add_i, sub_i, slc_t, slc_l, add_l, len_t, len_l, list_t, list_l, tuple_l, max_i, ls_i, le_i, gt_i, ge_i, sub_t, sub_l, List.getElem?_cons_zero, List.getElem?_cons_succ, List.set_cons_zero, List.set_cons_succ, Bool.not_true, Bool.not_false, mod_i (by omega : (0 : Int) < p), m2]
        rw [atD (by omega), atD (by omega), hl]
        simp only [x_nil, x_cons, x_set, x_unp, x_sets, x_expr, x_ret, x_pass, x_brk, x_cont, x_ite, x_for, x_whl, v_bl, v_int, v_str, v_ty, v_non, v_var, v_tup, v_lst, v_bin, v_neg, v_not, v_cmp, v_and, v_or, v_ife, v_call, v_blt, v_mth, v_sub, v_slc, v_comp, o_none, o_some, s_nil, s_cons, i_seq, i_rng1, i_rng2, i_enum, nx_nx, nx_rt, nx_bk, nx_ct, ite_t, ite_f, and_t, and_f, or_t, or_f, R.bind_ok, R.bind_assoc, ofO_some, tr_b, optI_i, itm_t, itm_l, seqL_l, gdOf_tup, gdOf_lst, neg_i, aug_i, add_i, sub_i, slc_t, slc_l, add_l, len_t, len_l, list_t, list_l, tuple_l, max_i, ls_i, le_i, gt_i, ge_i, sub_t, sub_l, List.getElem?_cons_zero, List.getElem?_cons_succ, List.set_cons_zero, List.set_cons_succ, Bool.not_true, Bool.not_false, eq_g (gd_tn _ 63) (gd_tn _ 63)]
        by_cases hg : tn (s.getD (s.length - 1 - k) z0) = tn ((a.take p).getD (p - 1 - k % p) z0)
        · rw [dec_true hg]
          refine .ok ?_
          rw [if_pos rfl]
          simp only [x_cons, x_nil, x_aug (e := [some (loopD s a), some (D.tup ((a.take p).map tn)), some (D.int p), some (D.int k), none, some (D.tup (s.map tn))]) (i := 3) (x := .int k) rfl, x_nil, x_cons, x_set, x_unp, x_sets, x_expr, x_ret, x_pass, x_brk, x_cont, x_ite, x_for, x_whl, v_bl, v_int, v_str, v_ty, v_non, v_var, v_tup, v_lst, v_bin, v_neg, v_not, v_cmp, v_and, v_or, v_ife, v_call, v_blt, v_mth, v_sub, v_slc, v_comp, o_none, o_some, s_nil, s_cons, i_seq, i_rng1, i_rng2, i_enum, nx_nx, nx_rt, nx_bk, nx_ct, ite_t, ite_f, and_t, and_f, or_t, or_f, R.bind_ok, R.bind_assoc, ofO_some, tr_b, optI_i, itm_t, itm_l, seqL_l, gdOf_tup, gdOf_lst, neg_i, aug_i, add_i, sub_i, slc_t, slc_l, add_l, len_t, len_l, list_t, list_l, tuple_l, max_i, ls_i, le_i, gt_i, ge_i, sub_t, sub_l, List.getElem?_cons_zero, List.getElem?_cons_succ, List.set_cons_zero, List.set_cons_succ, Bool.not_true, Bool.not_false, aug_i]
          refine .ok ⟨s.length - (k + 1), by omega, rfl, k + 1, rfl, by omega, fun j hj => ?_, rfl⟩
          by_cases hjk : j < k
          · exact hI j hjk
          · have : j = k := by omega
            subst this
            exact tn_inj hg
        · rw [decide_eq_false hg]
          refine .ok ?_
          rw [if_neg (by simp)]
          exact ⟨rfl, k, rfl, hk, hI, .inr fun h => hg (by rw [h])⟩
      · rw [decide_eq_false hlt]
        simp only [x_nil, x_cons, x_set, x_unp, x_sets, x_expr, x_ret, x_pass, x_brk, x_cont, x_ite, x_for, x_whl, v_bl, v_int, v_str, v_ty, v_non, v_var, v_tup, v_lst, v_bin, v_neg, v_not, v_cmp, v_and, v_or, v_ife, v_call, v_blt, v_mth, v_sub, v_slc, v_comp, o_none, o_some, s_nil, s_cons, i_seq, i_rng1, i_rng2, i_enum, nx_nx, nx_rt, nx_bk, nx_ct, ite_t, ite_f, and_t, and_f, or_t, or_f, R.bind_ok, R.bind_assoc, ofO_some, tr_b, optI_i, itm_t, itm_l, seqL_l, gdOf_tup, gdOf_lst, neg_i, aug_i, add_i, sub_i, slc_t, slc_l, add_l, len_t, len_l, list_t, list_l, tuple_l, max_i, ls_i, le_i, gt_i, ge_i, sub_t, sub_l, List.getElem?_cons_zero, List.getElem?_cons_succ, List.set_cons_zero, List.set_cons_succ, Bool.not_true, Bool.not_false]
        refine .ok ?_
        rw [if_neg (by simp)]
        exact ⟨rfl, k, rfl, hk, hI, .inl (by omega)⟩
    · subst hS hf
      obtain ⟨L, t1, t2⟩ := lean_of hp hpa g hmin hk ha hs
      have hkp : k % p < p := Nat.mod_lt _ (by omega)
      have m2 : ((p : Int) - (k : Int) % (p : Int)) = ((p - k % p : Nat) : Int) := by omega
      have m3 : ((s.length : Int) - (k : Int)) = ((s.length - k : Nat) : Int) := by omega
      simp only [x_nil, x_cons, x_set, x_unp, x_sets, x_expr, x_ret, x_pass, x_brk, x_cont, x_ite, x_for, x_whl, v_bl, v_int, v_str, v_ty, v_non, v_var, v_tup, v_lst, v_bin, v_neg, v_not, v_cmp, v_and, v_or, v_ife, v_call, v_blt, v_mth, v_sub, v_slc, v_comp, o_none, o_some, s_nil, s_cons, i_seq, i_rng1, i_rng2, i_enum, nx_nx, nx_rt, nx_bk, nx_ct, ite_t, ite_f, and_t, and_f, or_t, or_f, R.bind_ok, R.bind_assoc, ofO_some, tr_b, optI_i, itm_t, itm_l, seqL_l, gdOf_tup, gdOf_lst, neg_i, aug_i, add_i, sub_i, slc_t, slc_l, add_l, len_t, len_l, list_t, list_l, tuple_l, max_i, ls_i, le_i, gt_i, ge_i, sub_t, sub_l, List.getElem?_cons_zero, List.getElem?_cons_succ, List.set_cons_zero, List.set_cons_succ, Bool.not_true, Bool.not_false, mod_i (by omega : (0 : Int) < p), List.length_map, m2, m3, cut_tt, cut_fr]
      rw [add_t (sz (by simp; omega))]
      simp only [x_nil, x_cons, x_set, x_unp, x_sets, x_expr, x_ret, x_pass, x_brk, x_cont, x_ite, x_for, x_whl, v_bl, v_int, v_str, v_ty, v_non, v_var, v_tup, v_lst, v_bin, v_neg, v_not, v_cmp, v_and, v_or, v_ife, v_call, v_blt, v_mth, v_sub, v_slc, v_comp, o_none, o_some, s_nil, s_cons, i_seq, i_rng1, i_rng2, i_enum, nx_nx, nx_rt, nx_bk, nx_ct, ite_t, ite_f, and_t, and_f, or_t, or_f, R.bind_ok, R.bind_assoc, ofO_some, tr_b, optI_i, itm_t, itm_l, seqL_l, gdOf_tup, gdOf_lst, neg_i, aug_i, add_i, sub_i, slc_t, slc_l, add_l, len_t, len_l, list_t, list_l, tuple_l, max_i, ls_i, le_i, gt_i, ge_i, sub_t, sub_l, List.getElem?_cons_zero, List.getElem?_cons_succ, List.set_cons_zero, List.set_cons_succ, Bool.not_true, Bool.not_false, ← List.map_append, mkT_v (l := [D.tup ((s.take (s.length - k)).map tn), D.tup (((a.take p).drop (p - k % p) ++ (a.take p).take (p - k % p)).map tn)]) (sz (by simp))]
      rw [t1, t2]
      exact .ok ⟨_, rfl, oldOk_refl _, rfl, gd_below _ 64 _ (gd_loop _ _), rfl, _, L, by omega, rfl⟩
  obtain ⟨d, S', e, rfl, q, L, hq, rfl⟩ := z
  exact ⟨p, q, L, hpa, hq, e⟩
end K04

namespace K04
open PySem Mn
theorem due_sq {s a : List T} {p q : Nat} (L : Lean (sq s a) p q) : sq (rowOf (sq s a) q) (rowOf (fun i => sq s a (q + i)) p) = sq s a := (sq_try L.pos).mpr L.per
theorem per_back {f : Nat → T} {n m b c : Nat} (hn : 1 ≤ n) (h : Per f n c) (h' : Per f m b) : Per f m c := by
  intro i hi
  have e1 := h.mul b (i + m) (by omega)
  have e2 := h.mul b i hi
  have : 1 * b ≤ n * b := Nat.mul_le_mul_right _ hn
  have e3 := h' (i + n * b) (by omega)
  have : i + n * b + m = i + m + n * b := by omega
  rw [this, e1, e2] at e3
  exact e3
theorem c_one (k : Nat) (S : Store) (s a s' a' : List T) (h1 : 1 ≤ a.length) (h1' : 1 ≤ a'.length) (ha : a.length ≤ 30) (ha' : a'.length ≤ 30) (hs : s.length ≤ 100) (hs' : s'.length ≤ 100) :
    ∃ b, CC (k + 3) "are_one" [loopD s a, loopD s' a'] S = .ok (.bl b) S ∧ (b = true ↔ sq s a = sq s' a') := by
  obtain ⟨p, q, L, _, _, e⟩ := c_lean k S s a h1 (by omega) (by omega)
  obtain ⟨p', q', L', _, _, e'⟩ := c_lean k S s' a' h1' (by omega) (by omega)
  refine ⟨decide (due (sq s a) p q = due (sq s' a') p' q'), Sat.eq ?_, ?_⟩
  · rw [call_step (d := d_are_one) rfl rfl]
    show Sat (leave .pure S (exB (fun _ => none) 1000000 (CC (k + 2)) d_are_one.body [some (loopD s a), some (loopD s' a')] S)) _
    refine Sat.leave ?_
    simp only [d_are_one, x_nil, x_cons, x_set, x_unp, x_sets, x_expr, x_ret, x_pass, x_brk, x_cont, x_ite, x_for, x_whl, v_bl, v_int, v_str, v_ty, v_non, v_var, v_tup, v_lst, v_bin, v_neg, v_not, v_cmp, v_and, v_or, v_ife, v_call, v_blt, v_mth, v_sub, v_slc, v_comp, o_none, o_some, s_nil, s_cons, i_seq, i_rng1, i_rng2, i_enum, nx_nx, nx_rt, nx_bk, nx_ct, ite_t, ite_f, and_t, and_f, or_t, or_f, R.bind_ok, R.bind_assoc, ofO_some, tr_b, optI_i, itm_t, itm_l, seqL_l, gdOf_tup, gdOf_lst, neg_i, aug_i, add_i, sub_i, slc_t, slc_l, add_l, len_t, len_l, list_t, list_l, tuple_l, max_i, ls_i, le_i, gt_i, ge_i, sub_t, sub_l, List.getElem?_cons_zero, List.getElem?_cons_succ, List.set_cons_zero, List.set_cons_succ, Bool.not_true, Bool.not_false, e, e', eq_g (gd_loop _ _) (gd_loop _ _), due]
    exact .ok ⟨_, rfl, oldOk_refl _, rfl, by simp [below], rfl, rfl⟩
  · rw [decide_eq_true_iff]
    constructor
    · intro h
      obtain ⟨h1, h2⟩ := loop_inj h
      rw [← due_sq L, ← due_sq L', h1, h2]
    · intro h
      rw [h] at L ⊢
      obtain ⟨rfl, rfl⟩ := L.uniq L'
      rfl
theorem rept_row {g : Nat → T} {m : Nat} (n : Nat) (h : ∀ i, g (i + m) = g i) : rept n (rowOf g m) = rowOf g (n * m) := by
  induction n with
  | zero => simp [rept, rowOf]
  | succ n ih =>
    have : rept (n + 1) (rowOf g m) = rept n (rowOf g m) ++ rowOf g m := by
      unfold rept
      rw [List.replicate_succ', List.flatten_append]
      simp
    rw [this, ih, Nat.add_mul, Nat.one_mul, row_add]
    congr 1
    have p : Per g m 0 := fun i _ => h i
    unfold rowOf
    refine List.map_congr_left fun i _ => ?_
    have := p.mul n i (by omega)
    rw [← this]
    congr 1
    rw [Nat.mul_comm]; omega
theorem rep_tt {l : List T} {k : Int} : rep k (l.map tn) = (rept k.toNat l).map tn := rep_map k l
theorem c_other (k : Nat) (S : Store) (st : Nat) (C : Int) (s a : List T) (h : Stm S st C) (hC : C < 50000) (h1 : 1 ≤ a.length) (ha : a.length ≤ 9) (hs : s.length ≤ 20) :
    Sat (CC (k + 3) "_law_other" [.ref st, loopD s a] S) fun d S' => ∃ s' a', d = loopD s' a' ∧ sq s' a' = sq s a ∧ 1 ≤ a'.length ∧ a'.length ≤ 27 ∧ s'.length ≤ 28 ∧ Upd S st S' (C + 2) := by
  rw [call_step (d := d__law_other) rfl rfl]
  show Sat (leave .pure S (exB (fun _ => none) 1000000 (CC (k + 2)) d__law_other.body [some (.ref st), some (loopD s a), none, none, none, none] S)) _
  refine Sat.leave ?_
  have e0 : ∀ {S : Store}, subA S (loopD s a) (.int 0) = some (.tup (s.map tn)) := rfl
  have e1 : ∀ {S : Store}, subA S (loopD s a) (.int 1) = some (.tup (a.map tn)) := rfl
  simp only [d__law_other, x_nil, x_cons, x_set, x_unp, x_sets, x_expr, x_ret, x_pass, x_brk, x_cont, x_ite, x_for, x_whl, v_bl, v_int, v_str, v_ty, v_non, v_var, v_tup, v_lst, v_bin, v_neg, v_not, v_cmp, v_and, v_or, v_ife, v_call, v_blt, v_mth, v_sub, v_slc, v_comp, o_none, o_some, s_nil, s_cons, i_seq, i_rng1, i_rng2, i_enum, nx_nx, nx_rt, nx_bk, nx_ct, ite_t, ite_f, and_t, and_f, or_t, or_f, R.bind_ok, R.bind_assoc, ofO_some, tr_b, optI_i, itm_t, itm_l, seqL_l, gdOf_tup, gdOf_lst, neg_i, aug_i, add_i, sub_i, slc_t, slc_l, add_l, len_t, len_l, list_t, list_l, tuple_l, max_i, ls_i, le_i, gt_i, ge_i, sub_t, sub_l, List.getElem?_cons_zero, List.getElem?_cons_succ, List.set_cons_zero, List.set_cons_succ, Bool.not_true, Bool.not_false]
  refine (c_take k S st 9 C (by decide) h (by omega)).bind fun d S1 ⟨v, hd, hv0, hv1, u1⟩ => ?_
  subst hd
  obtain ⟨n, rfl⟩ := Int.eq_ofNat_of_zero_le hv0
  have q1 : (((s.length + n : Nat) : Int) + (a.length : Int)) = ((s.length + n + a.length : Nat) : Int) := by omega
  have q2 : ((s.length : Int) + (n : Int)) = ((s.length + n : Nat) : Int) := by omega
  have q3 : ((n : Nat) : Int) = Int.ofNat n := rfl
  have t1 : (rowOf (sq s a) (s.length + n + a.length)).take (s.length + n) = rowOf (sq s a) (s.length + n) := row_take (by omega)
  have t2 : (rowOf (sq s a) (s.length + n + a.length)).drop (s.length + n) = rowOf (fun i => sq s a (s.length + n + i)) a.length := by
    have := row_mid (f := sq s a) (m := s.length + n + a.length) (b := s.length + n) (k := a.length) (by omega)
    rwa [List.take_of_length_le (by simp [row_len])] at this
  have l1 : ∀ m f, ((rowOf f m).map tn).length = m := fun m f => by simp [row_len]
  simp only [x_nil, x_cons, x_set, x_unp, x_sets, x_expr, x_ret, x_pass, x_brk, x_cont, x_ite, x_for, x_whl, v_bl, v_int, v_str, v_ty, v_non, v_var, v_tup, v_lst, v_bin, v_neg, v_not, v_cmp, v_and, v_or, v_ife, v_call, v_blt, v_mth, v_sub, v_slc, v_comp, o_none, o_some, s_nil, s_cons, i_seq, i_rng1, i_rng2, i_enum, nx_nx, nx_rt, nx_bk, nx_ct, ite_t, ite_f, and_t, and_f, or_t, or_f, R.bind_ok, R.bind_assoc, ofO_some, tr_b, optI_i, itm_t, itm_l, seqL_l, gdOf_tup, gdOf_lst, neg_i, aug_i, add_i, sub_i, slc_t, slc_l, add_l, len_t, len_l, list_t, list_l, tuple_l, max_i, ls_i, le_i, gt_i, ge_i, sub_t, sub_l, List.getElem?_cons_zero, List.getElem?_cons_succ, List.set_cons_zero, List.set_cons_succ, Bool.not_true, Bool.not_false, e0, e1, List.length_map, q2, q1, c_row (k + 1) _ s a (s.length + n + a.length) h1 (by omega) (by omega) (by omega), cut_tt, t1, mkL_v (l := (rowOf (sq s a) (s.length + n)).map tn) (sz (by rw [l1]; omega)), mkT_v (l := (rowOf (sq s a) (s.length + n)).map tn) (sz (by rw [l1]; omega))]
  simp only [x_nil, x_cons, x_set, x_unp, x_sets, x_expr, x_ret, x_pass, x_brk, x_cont, x_ite, x_for, x_whl, v_bl, v_int, v_str, v_ty, v_non, v_var, v_tup, v_lst, v_bin, v_neg, v_not, v_cmp, v_and, v_or, v_ife, v_call, v_blt, v_mth, v_sub, v_slc, v_comp, o_none, o_some, s_nil, s_cons, i_seq, i_rng1, i_rng2, i_enum, nx_nx, nx_rt, nx_bk, nx_ct, ite_t, ite_f, and_t, and_f, or_t, or_f, R.bind_ok, R.bind_assoc, ofO_some, tr_b, optI_i, itm_t, itm_l, seqL_l, gdOf_tup, gdOf_lst, neg_i, aug_i, add_i, sub_i, slc_t, slc_l, add_l, len_t, len_l, list_t, list_l, tuple_l, max_i, ls_i, le_i, gt_i, ge_i, sub_t, sub_l, List.getElem?_cons_zero, List.getElem?_cons_succ, List.set_cons_zero, List.set_cons_succ, Bool.not_true, Bool.not_false, e0, e1, List.length_map, q2, cut_fr, t2, mkL_v (l := (rowOf (fun i => sq s a (s.length + n + i)) a.length).map tn) (sz (by rw [l1]; omega)), mkT_v (l := (rowOf (fun i => sq s a (s.length + n + i)) a.length).map tn) (sz (by rw [l1]; omega))]
  refine (c_take k S1 st 3 (C + 1) (by decide) (u1.stm h) (by omega)).bind fun d S2 ⟨w, hd, hw0, hw1, u2⟩ => ?_
  subst hd
  obtain ⟨j, rfl⟩ := Int.eq_ofNat_of_zero_le hw0
  have pe : Per (sq s a) a.length (s.length + n) := sq_per.mono (by omega)
  have rr : rept (1 + (j : Int)).toNat (rowOf (fun i => sq s a (s.length + n + i)) a.length) = rowOf (fun i => sq s a (s.length + n + i)) ((1 + j) * a.length) := by
    rw [rept_row]
    · congr 2
    · intro i
      have := pe (s.length + n + i) (by omega)
      rw [← this]
      congr 1
      omega
  simp only [x_nil, x_cons, x_set, x_unp, x_sets, x_expr, x_ret, x_pass, x_brk, x_cont, x_ite, x_for, x_whl, v_bl, v_int, v_str, v_ty, v_non, v_var, v_tup, v_lst, v_bin, v_neg, v_not, v_cmp, v_and, v_or, v_ife, v_call, v_blt, v_mth, v_sub, v_slc, v_comp, o_none, o_some, s_nil, s_cons, i_seq, i_rng1, i_rng2, i_enum, nx_nx, nx_rt, nx_bk, nx_ct, ite_t, ite_f, and_t, and_f, or_t, or_f, R.bind_ok, R.bind_assoc, ofO_some, tr_b, optI_i, itm_t, itm_l, seqL_l, gdOf_tup, gdOf_lst, neg_i, aug_i, add_i, sub_i, slc_t, slc_l, add_l, len_t, len_l, list_t, list_l, tuple_l, max_i, ls_i, le_i, gt_i, ge_i, sub_t, sub_l, List.getElem?_cons_zero, List.getElem?_cons_succ, List.set_cons_zero, List.set_cons_succ, Bool.not_true, Bool.not_false, mul_tt (l := (rowOf (fun i => sq s a (s.length + n + i)) a.length).map tn) (k := 1 + (j : Int)) ⟨by omega, by omega⟩ (by rw [l1]; omega), rep_tt, rr, mkT_v (l := [D.tup ((rowOf (sq s a) (s.length + n)).map tn), D.tup ((rowOf (fun i => sq s a (s.length + n + i)) ((1 + j) * a.length)).map tn)]) (sz (by simp))]
  have b1 : (1 + j) * a.length ≤ 3 * 9 := Nat.mul_le_mul (by omega) ha
  have b2 : 1 * 1 ≤ (1 + j) * a.length := Nat.mul_le_mul (by omega) h1
  refine .ok ⟨_, rfl, (u1.trans u2).old, (u1.trans u2).len, gd_below _ 64 _ (gd_loop _ _), _, _, rfl, ?_, by rw [row_len]; omega, by rw [row_len]; omega, by rw [row_len]; omega, (u1.trans u2).weak (by omega)⟩
  rw [sq_try (by omega), Nat.mul_comm]
  exact pe.mul (1 + j)
theorem c_least (k : Nat) (S : Store) (s a : List T) (p q : Nat) (L : Lean (sq s a) p q) (hp : p ≤ a.length) (hq : q ≤ s.length) (h1 : 1 ≤ a.length) (ha : a.length ≤ 9) (hs : s.length ≤ 20) :
    CC (k + 3) "_law_least" [loopD s a] S = .ok (due (sq s a) p q) S := by
  refine Sat.eq ?_
  rw [call_step (d := d__law_least) rfl rfl]
  show Sat (leave .pure S (exB (fun _ => none) 1000000 (CC (k + 2)) d__law_least.body [some (loopD s a), none, none, none, none] S)) _
  refine Sat.leave ?_
  have e0 : ∀ {S : Store}, subA S (loopD s a) (.int 0) = some (.tup (s.map tn)) := rfl
  have e1 : ∀ {S : Store}, subA S (loopD s a) (.int 1) = some (.tup (a.map tn)) := rfl
  have r200 := c_row (k + 1) S s a 200 h1 (by omega) (by omega) (by omega)
  have r200 : CC (k + 2) "_law_row" [loopD s a, .int 200] S = .ok (.lst ((rowOf (sq s a) 200).map tn)) S := r200
  simp only [d__law_least, x_nil, x_cons, x_set, x_unp, x_sets, x_expr, x_ret, x_pass, x_brk, x_cont, x_ite, x_for, x_whl, v_bl, v_int, v_str, v_ty, v_non, v_var, v_tup, v_lst, v_bin, v_neg, v_not, v_cmp, v_and, v_or, v_ife, v_call, v_blt, v_mth, v_sub, v_slc, v_comp, o_none, o_some, s_nil, s_cons, i_seq, i_rng1, i_rng2, i_enum, nx_nx, nx_rt, nx_bk, nx_ct, ite_t, ite_f, and_t, and_f, or_t, or_f, R.bind_ok, R.bind_assoc, ofO_some, tr_b, optI_i, itm_t, itm_l, seqL_l, gdOf_tup, gdOf_lst, neg_i, aug_i, add_i, sub_i, slc_t, slc_l, add_l, len_t, len_l, list_t, list_l, tuple_l, max_i, ls_i, le_i, gt_i, ge_i, sub_t, sub_l, List.getElem?_cons_zero, List.getElem?_cons_succ, List.set_cons_zero, List.set_cons_succ, Bool.not_true, Bool.not_false, r200, e1, List.length_map]
  rw [if_pos ⟨by omega, by omega, by omega, by omega⟩]
  simp only [x_nil, x_cons, x_set, x_unp, x_sets, x_expr, x_ret, x_pass, x_brk, x_cont, x_ite, x_for, x_whl, v_bl, v_int, v_str, v_ty, v_non, v_var, v_tup, v_lst, v_bin, v_neg, v_not, v_cmp, v_and, v_or, v_ife, v_call, v_blt, v_mth, v_sub, v_slc, v_comp, o_none, o_some, s_nil, s_cons, i_seq, i_rng1, i_rng2, i_enum, nx_nx, nx_rt, nx_bk, nx_ct, ite_t, ite_f, and_t, and_f, or_t, or_f, R.bind_ok, R.bind_assoc, ofO_some, tr_b, optI_i, itm_t, itm_l, seqL_l, gdOf_tup, gdOf_lst, neg_i, aug_i, add_i, sub_i, slc_t, slc_l, add_l, len_t, len_l, list_t, list_l, tuple_l, max_i, ls_i, le_i, gt_i, ge_i, sub_t, sub_l, List.getElem?_cons_zero, List.getElem?_cons_succ, List.set_cons_zero, List.set_cons_succ, Bool.not_true, Bool.not_false]
  refine Sat.bind (P := fun f S' => S' = S ∧ f = .rt (due (sq s a) p q)) ?_ fun f S1 ⟨hS, hf⟩ => ?_
  · unfold forB
    refine for_sat (fun i e S' => S' = S ∧ ∃ x y z, e = [some (loopD s a), some (.lst ((rowOf (sq s a) 200).map tn)), x, y, z] ∧ i + 1 ≤ p) ?_ ?_ ⟨rfl, none, none, none, rfl, L.pos⟩
    · rintro i d e S' hd ⟨rfl, x, y, z, rfl, hI⟩
      obtain ⟨hi, rfl⟩ := rng_get1 hd
      refine ⟨_, rfl, ?_⟩
      simp only [x_nil, x_cons, x_set, x_unp, x_sets, x_expr, x_ret, x_pass, x_brk, x_cont, x_ite, x_for, x_whl, v_bl, v_int, v_str, v_ty, v_non, v_var, v_tup, v_lst, v_bin, v_neg, v_not, v_cmp, v_and, v_or, v_ife, v_call, v_blt, v_mth, v_sub, v_slc, v_comp, o_none, o_some, s_nil, s_cons, i_seq, i_rng1, i_rng2, i_enum, nx_nx, nx_rt, nx_bk, nx_ct, ite_t, ite_f, and_t, and_f, or_t, or_f, R.bind_ok, R.bind_assoc, ofO_some, tr_b, optI_i, itm_t, itm_l, seqL_l, gdOf_tup, gdOf_lst, neg_i, aug_i, add_i, sub_i, slc_t, slc_l, add_l, len_t, len_l, list_t, list_l, tuple_l, max_i, ls_i, le_i, gt_i, ge_i, sub_t, sub_l, List.getElem?_cons_zero, List.getElem?_cons_succ, List.set_cons_zero, List.set_cons_succ, Bool.not_true, Bool.not_false, e0, List.length_map]
      rw [if_pos ⟨by omega, by omega⟩]
      simp only [x_nil, x_cons, x_set, x_unp, x_sets, x_expr, x_ret, x_pass, x_brk, x_cont, x_ite, x_for, x_whl, v_bl, v_int, v_str, v_ty, v_non, v_var, v_tup, v_lst, v_bin, v_neg, v_not, v_cmp, v_and, v_or, v_ife, v_call, v_blt, v_mth, v_sub, v_slc, v_comp, o_none, o_some, s_nil, s_cons, i_seq, i_rng1, i_rng2, i_enum, nx_nx, nx_rt, nx_bk, nx_ct, ite_t, ite_f, and_t, and_f, or_t, or_f, R.bind_ok, R.bind_assoc, ofO_some, tr_b, optI_i, itm_t, itm_l, seqL_l, gdOf_tup, gdOf_lst, neg_i, aug_i, add_i, sub_i, slc_t, slc_l, add_l, len_t, len_l, list_t, list_l, tuple_l, max_i, ls_i, le_i, gt_i, ge_i, sub_t, sub_l, List.getElem?_cons_zero, List.getElem?_cons_succ, List.set_cons_zero, List.set_cons_succ, Bool.not_true, Bool.not_false]
      refine Sat.bind (P := fun f S2 => S2 = S' ∧ (f = .rt (due (sq s a) p q) ∨ i + 2 ≤ p ∧ ∃ x y z, f = .nx [some (loopD s a), some (.lst ((rowOf (sq s a) 200).map tn)), x, y, z])) ?_ fun f S1 ⟨hS, hf⟩ => ?_
      · unfold forB
        refine for_sat (fun b e S2 => S2 = S' ∧ ∃ y z, e = [some (loopD s a), some (.lst ((rowOf (sq s a) 200).map tn)), some (.int ((i + 1 : Nat) : Int)), y, z] ∧ (i + 1 = p → b ≤ q)) ?_ ?_ ⟨rfl, y, z, rfl, fun _ => by omega⟩
        · rintro b d e S' hd ⟨rfl, y, z, rfl, hJ⟩
          obtain ⟨hb, rfl⟩ := rng_get0 hd
          refine ⟨_, rfl, ?_⟩
          have q1 : ((b : Int) + ((i + 1 : Nat) : Int)) = ((b + (i + 1) : Nat) : Int) := by omega
          have q2 : ∀ l : List T, cutA (l.map tn) (some (b : Int)) (some ((b + (i + 1) : Nat) : Int)) = ((l.drop b).take (i + 1)).map tn := fun l => by
            rw [cut_mid, ← List.map_drop, ← List.map_take]
          have hb2 : b ≤ 20 := by omega
          have hi2 : i ≤ 9 := by omega
          have l1 : ∀ m f, ((rowOf f m).map tn).length = m := fun m f => by simp [row_len]
          simp only [x_nil, x_cons, x_set, x_unp, x_sets, x_expr, x_ret, x_pass, x_brk, x_cont, x_ite, x_for, x_whl, v_bl, v_int, v_str, v_ty, v_non, v_var, v_tup, v_lst, v_bin, v_neg, v_not, v_cmp, v_and, v_or, v_ife, v_call, v_blt, v_mth, v_sub, v_slc, v_comp, o_none, o_some, s_nil, s_cons, i_seq, i_rng1, i_rng2, i_enum, nx_nx, nx_rt, nx_bk, nx_ct, ite_t, ite_f, and_t, and_f, or_t, or_f, R.bind_ok, R.bind_assoc, ofO_some, tr_b, optI_i, itm_t, itm_l, seqL_l, gdOf_tup, gdOf_lst, neg_i, aug_i, add_i, sub_i, slc_t, slc_l, add_l, len_t, len_l, list_t, list_l, tuple_l, max_i, ls_i, le_i, gt_i, ge_i, sub_t, sub_l, List.getElem?_cons_zero, List.getElem?_cons_succ, List.set_cons_zero, List.set_cons_succ, Bool.not_true, Bool.not_false, cut_tt, row_take (f := sq s a) (by omega : b ≤ 200), mkL_v (l := (rowOf (sq s a) b).map tn) (sz (by rw [l1]; omega)), mkT_v (l := (rowOf (sq s a) b).map tn) (sz (by rw [l1]; omega)), q1, q2, row_mid (f := sq s a) (by omega : b + (i + 1) ≤ 200), mkL_v (l := (rowOf (fun j => sq s a (b + j)) (i + 1)).map tn) (sz (by rw [l1]; omega)), mkT_v (l := (rowOf (fun j => sq s a (b + j)) (i + 1)).map tn) (sz (by rw [l1]; omega)), mkT_v (l := [D.tup ((rowOf (sq s a) b).map tn), D.tup ((rowOf (fun j => sq s a (b + j)) (i + 1)).map tn)]) (sz (by simp))]
          obtain ⟨t, et, ht⟩ := c_same k S' (rowOf (sq s a) b) (rowOf (fun j => sq s a (b + j)) (i + 1)) s a (by rw [row_len]; omega) h1 (by rw [row_len]; omega) (by omega) (by rw [row_len]; omega) (by omega)
          have et : CC (k + 2) "_law_same" [.tup [D.tup ((rowOf (sq s a) b).map tn), D.tup ((rowOf (fun j => sq s a (b + j)) (i + 1)).map tn)], loopD s a] S' = .ok (.bl t) S' := et
          rw [sq_try (by omega)] at ht
          simp only [et, x_nil, x_cons, x_set, x_unp, x_sets, x_expr, x_ret, x_pass, x_brk, x_cont, x_ite, x_for, x_whl, v_bl, v_int, v_str, v_ty, v_non, v_var, v_tup, v_lst, v_bin, v_neg, v_not, v_cmp, v_and, v_or, v_ife, v_call, v_blt, v_mth, v_sub, v_slc, v_comp, o_none, o_some, s_nil, s_cons, i_seq, i_rng1, i_rng2, i_enum, nx_nx, nx_rt, nx_bk, nx_ct, ite_t, ite_f, and_t, and_f, or_t, or_f, R.bind_ok, R.bind_assoc, ofO_some, tr_b, optI_i, itm_t, itm_l, seqL_l, gdOf_tup, gdOf_lst, neg_i, aug_i, add_i, sub_i, slc_t, slc_l, add_l, len_t, len_l, list_t, list_l, tuple_l, max_i, ls_i, le_i, gt_i, ge_i, sub_t, sub_l, List.getElem?_cons_zero, List.getElem?_cons_succ, List.set_cons_zero, List.set_cons_succ, Bool.not_true, Bool.not_false]
          cases t with
          | true =>
            have pr := ht.mp rfl
            have h2 := L.least _ _ (by omega) pr
            have : i + 1 = p := by omega
            subst this
            have h3 := L.first _ pr
            have := hJ rfl
            have : b = q := by omega
            subst this
            simp only [x_nil, x_cons, x_set, x_unp, x_sets, x_expr, x_ret, x_pass, x_brk, x_cont, x_ite, x_for, x_whl, v_bl, v_int, v_str, v_ty, v_non, v_var, v_tup, v_lst, v_bin, v_neg, v_not, v_cmp, v_and, v_or, v_ife, v_call, v_blt, v_mth, v_sub, v_slc, v_comp, o_none, o_some, s_nil, s_cons, i_seq, i_rng1, i_rng2, i_enum, nx_nx, nx_rt, nx_bk, nx_ct, ite_t, ite_f, and_t, and_f, or_t, or_f, R.bind_ok, R.bind_assoc, ofO_some, tr_b, optI_i, itm_t, itm_l, seqL_l, gdOf_tup, gdOf_lst, neg_i, aug_i, add_i, sub_i, slc_t, slc_l, add_l, len_t, len_l, list_t, list_l, tuple_l, max_i, ls_i, le_i, gt_i, ge_i, sub_t, sub_l, List.getElem?_cons_zero, List.getElem?_cons_succ, List.set_cons_zero, List.set_cons_succ, Bool.not_true, Bool.not_false]
            exact .ok ⟨rfl, .inl rfl⟩
          | false =>
            simp only [x_nil, x_cons, x_set, x_unp, x_sets, x_expr, x_ret, x_pass, x_brk, x_cont, x_ite, x_for, x_whl, v_bl, v_int, v_str, v_ty, v_non, v_var, v_tup, v_lst, v_bin, v_neg, v_not, v_cmp, v_and, v_or, v_ife, v_call, v_blt, v_mth, v_sub, v_slc, v_comp, o_none, o_some, s_nil, s_cons, i_seq, i_rng1, i_rng2, i_enum, nx_nx, nx_rt, nx_bk, nx_ct, ite_t, ite_f, and_t, and_f, or_t, or_f, R.bind_ok, R.bind_assoc, ofO_some, tr_b, optI_i, itm_t, itm_l, seqL_l, gdOf_tup, gdOf_lst, neg_i, aug_i, add_i, sub_i, slc_t, slc_l, add_l, len_t, len_l, list_t, list_l, tuple_l, max_i, ls_i, le_i, gt_i, ge_i, sub_t, sub_l, List.getElem?_cons_zero, List.getElem?_cons_succ, List.set_cons_zero, List.set_cons_succ, Bool.not_true, Bool.not_false]
            refine .ok ⟨rfl, _, _, rfl, fun h => ?_⟩
            have := hJ h
            have : b ≠ q := by
              intro h4
              subst h4
              have := ht.mpr (by rw [h]; exact L.per)
              cases this
            omega
        · rintro e S' ⟨rfl, y, z, rfl, hJ⟩
          rw [rng_len] at hJ
          refine ⟨rfl, .inr ⟨?_, _, _, _, rfl⟩⟩
          by_cases h : i + 1 = p
          · have := hJ h
            omega
          · omega
      · subst hS
        rcases hf with rfl | ⟨h2, x, y, z, rfl⟩
        · simp only [x_nil, x_cons, x_set, x_unp, x_sets, x_expr, x_ret, x_pass, x_brk, x_cont, x_ite, x_for, x_whl, v_bl, v_int, v_str, v_ty, v_non, v_var, v_tup, v_lst, v_bin, v_neg, v_not, v_cmp, v_and, v_or, v_ife, v_call, v_blt, v_mth, v_sub, v_slc, v_comp, o_none, o_some, s_nil, s_cons, i_seq, i_rng1, i_rng2, i_enum, nx_nx, nx_rt, nx_bk, nx_ct, ite_t, ite_f, and_t, and_f, or_t, or_f, R.bind_ok, R.bind_assoc, ofO_some, tr_b, optI_i, itm_t, itm_l, seqL_l, gdOf_tup, gdOf_lst, neg_i, aug_i, add_i, sub_i, slc_t, slc_l, add_l, len_t, len_l, list_t, list_l, tuple_l, max_i, ls_i, le_i, gt_i, ge_i, sub_t, sub_l, List.getElem?_cons_zero, List.getElem?_cons_succ, List.set_cons_zero, List.set_cons_succ, Bool.not_true, Bool.not_false]
          exact .ok ⟨rfl, rfl⟩
        · simp only [x_nil, x_cons, x_set, x_unp, x_sets, x_expr, x_ret, x_pass, x_brk, x_cont, x_ite, x_for, x_whl, v_bl, v_int, v_str, v_ty, v_non, v_var, v_tup, v_lst, v_bin, v_neg, v_not, v_cmp, v_and, v_or, v_ife, v_call, v_blt, v_mth, v_sub, v_slc, v_comp, o_none, o_some, s_nil, s_cons, i_seq, i_rng1, i_rng2, i_enum, nx_nx, nx_rt, nx_bk, nx_ct, ite_t, ite_f, and_t, and_f, or_t, or_f, R.bind_ok, R.bind_assoc, ofO_some, tr_b, optI_i, itm_t, itm_l, seqL_l, gdOf_tup, gdOf_lst, neg_i, aug_i, add_i, sub_i, slc_t, slc_l, add_l, len_t, len_l, list_t, list_l, tuple_l, max_i, ls_i, le_i, gt_i, ge_i, sub_t, sub_l, List.getElem?_cons_zero, List.getElem?_cons_succ, List.set_cons_zero, List.set_cons_succ, Bool.not_true, Bool.not_false]
          exact .ok ⟨rfl, x, y, z, rfl, h2⟩
    · rintro e S' ⟨rfl, x, y, z, rfl, hI⟩
      rw [rng_len] at hI
      omega
  · subst hS hf
    simp only [x_nil, x_cons, x_set, x_unp, x_sets, x_expr, x_ret, x_pass, x_brk, x_cont, x_ite, x_for, x_whl, v_bl, v_int, v_str, v_ty, v_non, v_var, v_tup, v_lst, v_bin, v_neg, v_not, v_cmp, v_and, v_or, v_ife, v_call, v_blt, v_mth, v_sub, v_slc, v_comp, o_none, o_some, s_nil, s_cons, i_seq, i_rng1, i_rng2, i_enum, nx_nx, nx_rt, nx_bk, nx_ct, ite_t, ite_f, and_t, and_f, or_t, or_f, R.bind_ok, R.bind_assoc, ofO_some, tr_b, optI_i, itm_t, itm_l, seqL_l, gdOf_tup, gdOf_lst, neg_i, aug_i, add_i, sub_i, slc_t, slc_l, add_l, len_t, len_l, list_t, list_l, tuple_l, max_i, ls_i, le_i, gt_i, ge_i, sub_t, sub_l, List.getElem?_cons_zero, List.getElem?_cons_succ, List.set_cons_zero, List.set_cons_succ, Bool.not_true, Bool.not_false]
    exact .ok ⟨_, rfl, oldOk_refl _, rfl, gd_below _ 64 _ (gd_loop _ _), rfl, rfl⟩
end K04

namespace K04
open PySem Mn
theorem isi_t {v : Bool} {S : Store} {l : List D} : bltA v "isinstance" [.tup l, .ty "tuple"] S = .ok (.bl true) S := nr rfl
theorem isi_b {v : Bool} {S : Store} {b : Bool} : bltA v "isinstance" [.bl b, .ty "bool"] S = .ok (.bl true) S := nr rfl
theorem len_r {v : Bool} {S : Store} {n : Nat} {l : List D} (h : S[n]? = some (.lst l)) : bltA v "len" [.ref n] S = .ok (.int l.length) S := by
  show (match seqA S (.ref n) with | some l => R.ok (D.int l.length) S | none => .bad) = _
  unfold seqA seqL
  simp [h]
theorem enum_get {l : List D} {i : Nat} {d : D} : ∀ {n : Nat}, (enumF n l)[i]? = some d → ∃ c, l[i]? = some c ∧ d = .tup [.int ((n + i : Nat) : Int), c] := by
  induction l generalizing i with
  | nil => intro n h; simp [enumF] at h
  | cons x r ih =>
    intro n h
    cases i with
    | zero =>
      simp [enumF] at h
      exact ⟨x, rfl, h.symm⟩
    | succ i =>
      simp only [enumF, List.getElem?_cons_succ] at h
      obtain ⟨c, h1, h2⟩ := ih h
      refine ⟨c, by simpa using h1, ?_⟩
      rw [h2]
      congr 3
      omega
theorem sub_tn0 {S : Store} {t : T} : subA S (tn t) (.int 0) = some (.int t.1) := nr rfl
theorem sub_tn1 {S : Store} {t : T} : subA S (tn t) (.int 1) = some (.int t.2) := nr rfl
/-- what the law looks at -/
def Lp (f : Option (Nat → T)) (d : D) : Prop := ∃ x y, d = loopD x y ∧ 1 ≤ y.length ∧ y.length ≤ 30 ∧ x.length ≤ 100 ∧ ∀ g, f = some g → sq x y = g
theorem hlaw (ns : List Int) (hn : ns.length ≤ 63) : ∃ S', callA (fun _ => none) 1000000 Pg 40 "law" [.lst (ns.map .int)] [] = .ok (.bl true) S' := by
  rw [show callA (fun _ => none) 1000000 Pg 40 "law" [.lst (ns.map .int)] [] = _ from call_step (k := 39) (d := d_law) rfl rfl]
  show ∃ S', leave .pure [] (exB (fun _ => none) 1000000 (CC 39) d_law.body [some (.lst (ns.map .int)), none, none, none, none, none, none, none, none, none, none, none, none] []) = _
  have lv : ∀ r : R Mn.F, Sat r (fun f S' => f = .rt (.bl true)) → ∃ S', leave .pure [] r = .ok (.bl true) S' := by
    rintro r ⟨f, S', rfl, rfl⟩
    refine ⟨[], ?_⟩
    show fin .pure [] (.bl true) S' = _
    unfold fin
    rw [if_pos ⟨Nat.zero_le _, fun i h => by cases h⟩, outD_below (by simp [below])]
    rfl
  refine lv _ ?_
  have c63 : cutA ((ns ++ [0]).map D.int) none (some 63) = ((ns ++ [0]).take 63).map D.int := by
    have := cut_to (l := (ns ++ [0]).map D.int) (k := 63)
    rw [← List.map_take] at this
    exact this
  have ap : ns.map D.int ++ [D.int 0] = (ns ++ [0]).map D.int := by simp
  simp only [d_law, x_nil, x_cons, x_set, x_unp, x_sets, x_expr, x_ret, x_pass, x_brk, x_cont, x_ite, x_for, x_whl, v_bl, v_int, v_str, v_ty, v_non, v_var, v_tup, v_lst, v_bin, v_neg, v_not, v_cmp, v_and, v_or, v_ife, v_call, v_blt, v_mth, v_sub, v_slc, v_comp, o_none, o_some, s_nil, s_cons, i_seq, i_rng1, i_rng2, i_enum, nx_nx, nx_rt, nx_bk, nx_ct, ite_t, ite_f, and_t, and_f, or_t, or_f, R.bind_ok, R.bind_assoc, ofO_some, tr_b, optI_i, itm_t, itm_l, seqL_l, gdOf_tup, gdOf_lst, neg_i, aug_i, add_i, sub_i, slc_t, slc_l, add_l, len_t, len_l, list_t, list_l, tuple_l, max_i, ls_i, le_i, gt_i, ge_i, sub_t, sub_l, List.getElem?_cons_zero, List.getElem?_cons_succ, List.set_cons_zero, List.set_cons_succ, Bool.not_true, Bool.not_false, mkL_v (l := [D.int 0]) (sz (by simp)), ap, mkL_v (l := (ns ++ [0]).map D.int) (sz (by simp; omega)), c63, mkL_v (l := ((ns ++ [0]).take 63).map D.int) (sz (by simp; omega))]
  refine Sat.bind (P := fun f S' => ∃ e, f = .nx e) ?_ fun f S' ⟨e, hf⟩ => ?_
  · unfold forB
    refine for_sat (fun i e S' => ∃ x1 x2 x3 x4 x5 x6 x7 x8 x9 x10 x11 x12, e = [some (.lst (ns.map .int)), x1, x2, x3, x4, x5, x6, x7, x8, x9, x10, x11, x12]) ?_ (fun e S' _ => ⟨e, rfl⟩) ⟨_, _, _, _, _, _, _, _, _, _, _, _, rfl⟩
    rintro i d e S hd ⟨x1, x2, x3, x4, x5, x6, x7, x8, x9, x10, x11, x12, rfl⟩
    obtain ⟨c, hc, rfl⟩ := enum_get hd
    have hi : i < 63 := by
      have := (List.getElem?_eq_some_iff.mp hc).1
      simp at this
      omega
    obtain ⟨cell, rfl⟩ : ∃ n, c = .int n := by
      rw [List.getElem?_map, Option.map_eq_some_iff] at hc
      obtain ⟨n, _, rfl⟩ := hc
      exact ⟨n, rfl⟩
    refine ⟨_, rfl, ?_⟩
    obtain ⟨b, r, es⟩ := c_stream 37 cell ((0 + i : Nat) : Int) (by omega) S
    have es : CC 39 "_law_stream" [.int cell, .int ((0 + i : Nat) : Int)] S = .ok (.ref S.length) (S ++ [strm b cell 0 r]) := es
    simp only [x_nil, x_cons, x_set, x_unp, x_sets, x_expr, x_ret, x_pass, x_brk, x_cont, x_ite, x_for, x_whl, v_bl, v_int, v_str, v_ty, v_non, v_var, v_tup, v_lst, v_bin, v_neg, v_not, v_cmp, v_and, v_or, v_ife, v_call, v_blt, v_mth, v_sub, v_slc, v_comp, o_none, o_some, s_nil, s_cons, i_seq, i_rng1, i_rng2, i_enum, nx_nx, nx_rt, nx_bk, nx_ct, ite_t, ite_f, and_t, and_f, or_t, or_f, R.bind_ok, R.bind_assoc, ofO_some, tr_b, optI_i, itm_t, itm_l, seqL_l, gdOf_tup, gdOf_lst, neg_i, aug_i, add_i, sub_i, slc_t, slc_l, add_l, len_t, len_l, list_t, list_l, tuple_l, max_i, ls_i, le_i, gt_i, ge_i, sub_t, sub_l, List.getElem?_cons_zero, List.getElem?_cons_succ, List.set_cons_zero, List.set_cons_succ, Bool.not_true, Bool.not_false, es]
    have st1 : Stm (S ++ [strm b cell 0 r]) S.length 0 := ⟨b, cell, 0, r, get_push, by omega, by omega⟩
    refine Sat.bind (c_loop 35 _ _ _ st1 (by omega)) fun d S2 ⟨s, a, hd, hs, ha1, ha9, u2⟩ => ?_
    subst hd
    obtain ⟨p, q, L, hp, hq, _⟩ := c_lean 37 [] s a ha1 (by omega) (by omega)
    have el : ∀ S, CC 39 "_law_least" [loopD s a] S = .ok (due (sq s a) p q) S := fun S => c_least 36 S s a p q L hp hq ha1 ha9 hs
    simp only [x_nil, x_cons, x_set, x_unp, x_sets, x_expr, x_ret, x_pass, x_brk, x_cont, x_ite, x_for, x_whl, v_bl, v_int, v_str, v_ty, v_non, v_var, v_tup, v_lst, v_bin, v_neg, v_not, v_cmp, v_and, v_or, v_ife, v_call, v_blt, v_mth, v_sub, v_slc, v_comp, o_none, o_some, s_nil, s_cons, i_seq, i_rng1, i_rng2, i_enum, nx_nx, nx_rt, nx_bk, nx_ct, ite_t, ite_f, and_t, and_f, or_t, or_f, R.bind_ok, R.bind_assoc, ofO_some, tr_b, optI_i, itm_t, itm_l, seqL_l, gdOf_tup, gdOf_lst, neg_i, aug_i, add_i, sub_i, slc_t, slc_l, add_l, len_t, len_l, list_t, list_l, tuple_l, max_i, ls_i, le_i, gt_i, ge_i, sub_t, sub_l, List.getElem?_cons_zero, List.getElem?_cons_succ, List.set_cons_zero, List.set_cons_succ, Bool.not_true, Bool.not_false, el]
    have st2 := u2.stm st1
    refine Sat.bind (c_other 36 _ _ _ s a st2 (by omega) ha1 ha9 hs) fun d S3 ⟨s', a', hd, hsq, ha1', ha27, hs28, u3⟩ => ?_
    subst hd
    have st3 := u3.stm st2
    have len2 := u2.len
    have len3 := u3.len
    simp only [x_nil, x_cons, x_set, x_unp, x_sets, x_expr, x_ret, x_pass, x_brk, x_cont, x_ite, x_for, x_whl, v_bl, v_int, v_str, v_ty, v_non, v_var, v_tup, v_lst, v_bin, v_neg, v_not, v_cmp, v_and, v_or, v_ife, v_call, v_blt, v_mth, v_sub, v_slc, v_comp, o_none, o_some, s_nil, s_cons, i_seq, i_rng1, i_rng2, i_enum, nx_nx, nx_rt, nx_bk, nx_ct, ite_t, ite_f, and_t, and_f, or_t, or_f, R.bind_ok, R.bind_assoc, ofO_some, tr_b, optI_i, itm_t, itm_l, seqL_l, gdOf_tup, gdOf_lst, neg_i, aug_i, add_i, sub_i, slc_t, slc_l, add_l, len_t, len_l, list_t, list_l, tuple_l, max_i, ls_i, le_i, gt_i, ge_i, sub_t, sub_l, List.getElem?_cons_zero, List.getElem?_cons_succ, List.set_cons_zero, List.set_cons_succ, Bool.not_true, Bool.not_false, mkT_v (l := [loopD s a, loopD s' a', due (sq s a) p q]) (sz (by simp))]
    have lp1 : Lp (some (sq s a)) (loopD s a) := ⟨s, a, rfl, ha1, by omega, by omega, fun g h => Option.some.inj h⟩
    have lp2 : Lp (some (sq s a)) (loopD s' a') := ⟨s', a', rfl, ha1', by omega, by omega, fun g h => by cases h; exact hsq⟩
    have lp3 : Lp (some (sq s a)) (due (sq s a) p q) := ⟨_, _, rfl, by rw [row_len]; exact L.pos, by rw [row_len]; omega, by rw [row_len]; omega, fun g h => by cases h; exact due_sq L⟩
    refine Sat.bind (P := fun f S' => S' = S3 ∧ ∃ y7 y11, f = .nx [some (.lst (ns.map .int)), some (.int ((0 + i : Nat) : Int)), some (.int cell), some (.ref S.length), some (loopD s a), some (due (sq s a) p q), some (loopD s' a'), y7, x8, x9, x10, y11, x12]) ?_ fun f S4 ⟨hS4, y7, y11, hf⟩ => ?_
    · unfold forB
      refine for_sat (fun _ e S' => S' = S3 ∧ ∃ y7 y11, e = [some (.lst (ns.map .int)), some (.int ((0 + i : Nat) : Int)), some (.int cell), some (.ref S.length), some (loopD s a), some (due (sq s a) p q), some (loopD s' a'), y7, x8, x9, x10, y11, x12]) ?_ (fun e S' ⟨h, y7, y11, he⟩ => ⟨h, y7, y11, by rw [he]⟩) ⟨rfl, _, _, rfl⟩
      rintro j d e S4 hd ⟨hS4, y7, y11, rfl⟩
      have hd : Lp (some (sq s a)) d := by
        have := List.mem_of_getElem? hd
        simp only [List.mem_cons, List.not_mem_nil, or_false] at this
        rcases this with rfl | rfl | rfl
        · exact lp1
        · exact lp2
        · exact lp3
      obtain ⟨x, y, rfl, hy1, hy30, hx, hg⟩ := hd
      have hg := hg _ rfl
      obtain ⟨p2, q2, L2, _, _, e2⟩ := c_lean 37 S4 x y hy1 (by omega) (by omega)
      rw [hg] at L2 e2
      obtain ⟨rfl, rfl⟩ := L2.uniq L
      have e2 : CC 39 "lean" [loopD x y] S4 = .ok (due (sq s a) p2 q2) S4 := e2
      have gdd : gd (due (sq s a) p2 q2) 64 = true := gd_loop _ _
      have i1 : ∀ S, bltA true "isinstance" [due (sq s a) p2 q2, .ty "tuple"] S = .ok (.bl true) S := fun S => isi_t
      have i2 : ∀ {S}, subA S (due (sq s a) p2 q2) (.int 0) = some (.tup ((rowOf (sq s a) q2).map tn)) := rfl
      refine ⟨_, rfl, ?_⟩
      simp only [x_nil, x_cons, x_set, x_unp, x_sets, x_expr, x_ret, x_pass, x_brk, x_cont, x_ite, x_for, x_whl, v_bl, v_int, v_str, v_ty, v_non, v_var, v_tup, v_lst, v_bin, v_neg, v_not, v_cmp, v_and, v_or, v_ife, v_call, v_blt, v_mth, v_sub, v_slc, v_comp, o_none, o_some, s_nil, s_cons, i_seq, i_rng1, i_rng2, i_enum, nx_nx, nx_rt, nx_bk, nx_ct, ite_t, ite_f, and_t, and_f, or_t, or_f, R.bind_ok, R.bind_assoc, ofO_some, tr_b, optI_i, itm_t, itm_l, seqL_l, gdOf_tup, gdOf_lst, neg_i, aug_i, add_i, sub_i, slc_t, slc_l, add_l, len_t, len_l, list_t, list_l, tuple_l, max_i, ls_i, le_i, gt_i, ge_i, sub_t, sub_l, List.getElem?_cons_zero, List.getElem?_cons_succ, List.set_cons_zero, List.set_cons_succ, Bool.not_true, Bool.not_false, e2, ne_g gdd gdd, decide_true, i1, i2, isi_t]
      exact .ok ⟨hS4, _, _, rfl⟩
    subst hS4 hf
    have e1 : ∀ {S : Store}, subA S (loopD s a) (.int 1) = some (.tup (a.map tn)) := rfl
    have l8 : bltA false "list" [.tup (a.map tn)] S4 = .ok (.ref S4.length) (S4 ++ [.lst (a.map tn)]) := by
      rw [list_t, mkL_r (sz (by simp; omega))]
    have g8 : (S4 ++ [O.lst (a.map tn)])[S4.length]? = some (.lst (a.map tn)) := get_push
    have st4 : Stm (S4 ++ [O.lst (a.map tn)]) S.length (0 + 40 + 2) := by
      obtain ⟨b, n, c, r, e, h⟩ := st3
      exact ⟨b, n, c, r, get_push_old e, h⟩
    have hne : S.length ≠ S4.length := by
      rw [len3, len2]
      simp
    simp only [x_nil, x_cons, x_set, x_unp, x_sets, x_expr, x_ret, x_pass, x_brk, x_cont, x_ite, x_for, x_whl, v_bl, v_int, v_str, v_ty, v_non, v_var, v_tup, v_lst, v_bin, v_neg, v_not, v_cmp, v_and, v_or, v_ife, v_call, v_blt, v_mth, v_sub, v_slc, v_comp, o_none, o_some, s_nil, s_cons, i_seq, i_rng1, i_rng2, i_enum, nx_nx, nx_rt, nx_bk, nx_ct, ite_t, ite_f, and_t, and_f, or_t, or_f, R.bind_ok, R.bind_assoc, ofO_some, tr_b, optI_i, itm_t, itm_l, seqL_l, gdOf_tup, gdOf_lst, neg_i, aug_i, add_i, sub_i, slc_t, slc_l, add_l, len_t, len_l, list_t, list_l, tuple_l, max_i, ls_i, le_i, gt_i, ge_i, sub_t, sub_l, List.getElem?_cons_zero, List.getElem?_cons_succ, List.set_cons_zero, List.set_cons_succ, Bool.not_true, Bool.not_false, e1, l8, len_r g8, List.length_map]
    refine Sat.bind (c_take 37 _ S.length (a.length : Int) _ (by omega) st4 (by omega)) fun d S5 ⟨v, hd, hv0, hv1, u5⟩ => ?_
    subst hd
    obtain ⟨m, rfl⟩ := Int.eq_ofNat_of_zero_le hv0
    have hm : m < a.length := by omega
    have g5 : S5[S4.length]? = some (.lst (a.map tn)) := by rw [u5.at hne]; exact g8
    have st5 := u5.stm st4
    have s5 : subA S5 (.ref S4.length) (.int (m : Int)) = some (tn (a.getD m z0)) := by
      rw [sub_r g5, atI_nat, List.getElem?_map, List.getD_eq_getElem?_getD, List.getElem?_eq_getElem hm]
      rfl
    have w5 : setA (.ref S4.length) (.int (m : Int)) (.tup [.int (1 - (a.getD m z0).1), .int (a.getD m z0).2]) S5 = .ok () (S5.set S4.length (.lst ((a.set m (1 - (a.getD m z0).1, (a.getD m z0).2)).map tn))) := by
      rw [set_r g5 (by simpa using hm), List.map_set]
      rfl
    simp only [x_nil, x_cons, x_set, x_unp, x_sets, x_expr, x_ret, x_pass, x_brk, x_cont, x_ite, x_for, x_whl, v_bl, v_int, v_str, v_ty, v_non, v_var, v_tup, v_lst, v_bin, v_neg, v_not, v_cmp, v_and, v_or, v_ife, v_call, v_blt, v_mth, v_sub, v_slc, v_comp, o_none, o_some, s_nil, s_cons, i_seq, i_rng1, i_rng2, i_enum, nx_nx, nx_rt, nx_bk, nx_ct, ite_t, ite_f, and_t, and_f, or_t, or_f, R.bind_ok, R.bind_assoc, ofO_some, tr_b, optI_i, itm_t, itm_l, seqL_l, gdOf_tup, gdOf_lst, neg_i, aug_i, add_i, sub_i, slc_t, slc_l, add_l, len_t, len_l, list_t, list_l, tuple_l, max_i, ls_i, le_i, gt_i, ge_i, sub_t, sub_l, List.getElem?_cons_zero, List.getElem?_cons_succ, List.set_cons_zero, List.set_cons_succ, Bool.not_true, Bool.not_false, s5, sub_tn0, sub_tn1, mkT_v (l := [D.int (1 - (a.getD m z0).1), D.int (a.getD m z0).2]) (sz (by simp)), w5]
    have st6 : Stm (S5.set S4.length (.lst ((a.set m (1 - (a.getD m z0).1, (a.getD m z0).2)).map tn))) S.length (0 + 40 + 2 + 1) := by
      obtain ⟨b, n, c, r, e, h⟩ := st5
      exact ⟨b, n, c, r, by rw [get_set_ne hne.symm]; exact e, h⟩
    have g6 : (S5.set S4.length (.lst ((a.set m (1 - (a.getD m z0).1, (a.getD m z0).2)).map tn)))[S4.length]? = some (.lst ((a.set m (1 - (a.getD m z0).1, (a.getD m z0).2)).map tn)) := get_set g5
    generalize hw : a.set m (1 - (a.getD m z0).1, (a.getD m z0).2) = aw at st6 g6 ⊢
    have haw : aw.length = a.length := by rw [← hw]; simp
    generalize S5.set S4.length (.lst (aw.map tn)) = S6 at st6 g6 ⊢
    refine Sat.bind (c_loop 35 _ _ _ st6 (by omega)) fun d S7 ⟨s2, a2, hd, hs2, ha21, ha29, u7⟩ => ?_
    subst hd
    have g7 : S7[S4.length]? = some (.lst (aw.map tn)) := by rw [u7.at hne]; exact g6
    have e0 : ∀ {S : Store}, subA S (loopD s a) (.int 0) = some (.tup (s.map tn)) := rfl
    simp only [x_nil, x_cons, x_set, x_unp, x_sets, x_expr, x_ret, x_pass, x_brk, x_cont, x_ite, x_for, x_whl, v_bl, v_int, v_str, v_ty, v_non, v_var, v_tup, v_lst, v_bin, v_neg, v_not, v_cmp, v_and, v_or, v_ife, v_call, v_blt, v_mth, v_sub, v_slc, v_comp, o_none, o_some, s_nil, s_cons, i_seq, i_rng1, i_rng2, i_enum, nx_nx, nx_rt, nx_bk, nx_ct, ite_t, ite_f, and_t, and_f, or_t, or_f, R.bind_ok, R.bind_assoc, ofO_some, tr_b, optI_i, itm_t, itm_l, seqL_l, gdOf_tup, gdOf_lst, neg_i, aug_i, add_i, sub_i, slc_t, slc_l, add_l, len_t, len_l, list_t, list_l, tuple_l, max_i, ls_i, le_i, gt_i, ge_i, sub_t, sub_l, List.getElem?_cons_zero, List.getElem?_cons_succ, List.set_cons_zero, List.set_cons_succ, Bool.not_true, Bool.not_false, e0, tuple_r g7, mkT_v (l := aw.map tn) (sz (by simp; omega)), mkT_v (l := [loopD s a, loopD s' a']) (sz (by simp)), mkT_v (l := [loopD s' a', due (sq s a) p q]) (sz (by simp)), mkT_v (l := [D.tup (s.map tn), D.tup (aw.map tn)]) (sz (by simp)), mkT_v (l := [loopD s a, D.tup [D.tup (s.map tn), D.tup (aw.map tn)]]) (sz (by simp)), mkT_v (l := [loopD s2 a2, loopD s a]) (sz (by simp)), mkT_v (l := [loopD s a, loopD s2 a2]) (sz (by simp))]
    rw [mkL_v (sz (by simp))]
    simp only [x_nil, x_cons, x_set, x_unp, x_sets, x_expr, x_ret, x_pass, x_brk, x_cont, x_ite, x_for, x_whl, v_bl, v_int, v_str, v_ty, v_non, v_var, v_tup, v_lst, v_bin, v_neg, v_not, v_cmp, v_and, v_or, v_ife, v_call, v_blt, v_mth, v_sub, v_slc, v_comp, o_none, o_some, s_nil, s_cons, i_seq, i_rng1, i_rng2, i_enum, nx_nx, nx_rt, nx_bk, nx_ct, ite_t, ite_f, and_t, and_f, or_t, or_f, R.bind_ok, R.bind_assoc, ofO_some, tr_b, optI_i, itm_t, itm_l, seqL_l, gdOf_tup, gdOf_lst, neg_i, aug_i, add_i, sub_i, slc_t, slc_l, add_l, len_t, len_l, list_t, list_l, tuple_l, max_i, ls_i, le_i, gt_i, ge_i, sub_t, sub_l, List.getElem?_cons_zero, List.getElem?_cons_succ, List.set_cons_zero, List.set_cons_succ, Bool.not_true, Bool.not_false]
    have np : ∀ {f d}, Lp f d → Lp none d := fun ⟨x, y, h1, h2, h3, h4, _⟩ => ⟨x, y, h1, h2, h3, h4, fun g h => by cases h⟩
    have lp4 : Lp none (D.tup [D.tup (s.map tn), D.tup (aw.map tn)]) := ⟨s, aw, rfl, by omega, by omega, by omega, fun g h => by cases h⟩
    have lp5 : Lp none (loopD s2 a2) := ⟨s2, a2, rfl, by omega, by omega, by omega, fun g h => by cases h⟩
    refine Sat.bind (P := fun f S' => ∃ y7 y11 y12, f = .nx [some (.lst (ns.map .int)), some (.int ((0 + i : Nat) : Int)), some (.int cell), some (.ref S.length), some (loopD s a), some (due (sq s a) p q), some (loopD s' a'), y7, some (.ref S4.length), some (.int (m : Int)), some (loopD s2 a2), y11, y12]) ?_ fun f S8 ⟨y7, y11, y12, hf⟩ => ?_
    · unfold forB
      refine for_sat (fun _ e S' => ∃ y7 y11 y12, e = [some (.lst (ns.map .int)), some (.int ((0 + i : Nat) : Int)), some (.int cell), some (.ref S.length), some (loopD s a), some (due (sq s a) p q), some (loopD s' a'), y7, some (.ref S4.length), some (.int (m : Int)), some (loopD s2 a2), y11, y12]) ?_ (fun e S' ⟨y7, y11, y12, he⟩ => ⟨y7, y11, y12, by rw [he]⟩) ⟨_, _, _, rfl⟩
      rintro j d e S8 hd ⟨y7, y11, y12, rfl⟩
      have hd : ∃ u w, d = .tup [u, w] ∧ Lp none u ∧ Lp none w := by
        have := List.mem_of_getElem? hd
        simp only [List.mem_cons, List.not_mem_nil, or_false] at this
        rcases this with rfl | rfl | rfl | rfl | rfl
        · exact ⟨_, _, rfl, np lp1, np lp2⟩
        · exact ⟨_, _, rfl, np lp2, np lp3⟩
        · exact ⟨_, _, rfl, np lp1, lp4⟩
        · exact ⟨_, _, rfl, lp5, np lp1⟩
        · exact ⟨_, _, rfl, np lp1, lp5⟩
      obtain ⟨u, w, rfl, ⟨ux, uy, rfl, hu1, hu2, hu3, _⟩, ⟨wx, wy, rfl, hw1, hw2, hw3, _⟩⟩ := hd
      obtain ⟨t, et, ht⟩ := c_one 36 S8 ux uy wx wy hu1 hw1 hu2 hw2 hu3 hw3
      obtain ⟨t', et', ht'⟩ := c_same 37 S8 ux uy wx wy hu1 hw1 hu2 hw2 hu3 hw3
      have tt : t = t' := by
        rw [Bool.eq_iff_iff, ht, ht']
      subst tt
      have et : CC 39 "are_one" [loopD ux uy, loopD wx wy] S8 = .ok (.bl t) S8 := et
      have et' : CC 39 "_law_same" [loopD ux uy, loopD wx wy] S8 = .ok (.bl t) S8 := et'
      refine ⟨_, rfl, ?_⟩
      simp only [x_nil, x_cons, x_set, x_unp, x_sets, x_expr, x_ret, x_pass, x_brk, x_cont, x_ite, x_for, x_whl, v_bl, v_int, v_str, v_ty, v_non, v_var, v_tup, v_lst, v_bin, v_neg, v_not, v_cmp, v_and, v_or, v_ife, v_call, v_blt, v_mth, v_sub, v_slc, v_comp, o_none, o_some, s_nil, s_cons, i_seq, i_rng1, i_rng2, i_enum, nx_nx, nx_rt, nx_bk, nx_ct, ite_t, ite_f, and_t, and_f, or_t, or_f, R.bind_ok, R.bind_assoc, ofO_some, tr_b, optI_i, itm_t, itm_l, seqL_l, gdOf_tup, gdOf_lst, neg_i, aug_i, add_i, sub_i, slc_t, slc_l, add_l, len_t, len_l, list_t, list_l, tuple_l, max_i, ls_i, le_i, gt_i, ge_i, sub_t, sub_l, List.getElem?_cons_zero, List.getElem?_cons_succ, List.set_cons_zero, List.set_cons_succ, Bool.not_true, Bool.not_false, et, et', isi_b, ne_b, beq_self_eq_true]
      exact .ok ⟨_, _, _, rfl⟩
    subst hf
    simp only [x_nil, x_cons, x_set, x_unp, x_sets, x_expr, x_ret, x_pass, x_brk, x_cont, x_ite, x_for, x_whl, v_bl, v_int, v_str, v_ty, v_non, v_var, v_tup, v_lst, v_bin, v_neg, v_not, v_cmp, v_and, v_or, v_ife, v_call, v_blt, v_mth, v_sub, v_slc, v_comp, o_none, o_some, s_nil, s_cons, i_seq, i_rng1, i_rng2, i_enum, nx_nx, nx_rt, nx_bk, nx_ct, ite_t, ite_f, and_t, and_f, or_t, or_f, R.bind_ok, R.bind_assoc, ofO_some, tr_b, optI_i, itm_t, itm_l, seqL_l, gdOf_tup, gdOf_lst, neg_i, aug_i, add_i, sub_i, slc_t, slc_l, add_l, len_t, len_l, list_t, list_l, tuple_l, max_i, ls_i, le_i, gt_i, ge_i, sub_t, sub_l, List.getElem?_cons_zero, List.getElem?_cons_succ, List.set_cons_zero, List.set_cons_succ, Bool.not_true, Bool.not_false]
    exact .ok ⟨_, _, _, _, _, _, _, _, _, _, _, _, rfl⟩
  · subst hf
    simp only [x_nil, x_cons, x_set, x_unp, x_sets, x_expr, x_ret, x_pass, x_brk, x_cont, x_ite, x_for, x_whl, v_bl, v_int, v_str, v_ty, v_non, v_var, v_tup, v_lst, v_bin, v_neg, v_not, v_cmp, v_and, v_or, v_ife, v_call, v_blt, v_mth, v_sub, v_slc, v_comp, o_none, o_some, s_nil, s_cons, i_seq, i_rng1, i_rng2, i_enum, nx_nx, nx_rt, nx_bk, nx_ct, ite_t, ite_f, and_t, and_f, or_t, or_f, R.bind_ok, R.bind_assoc, ofO_some, tr_b, optI_i, itm_t, itm_l, seqL_l, gdOf_tup, gdOf_lst, neg_i, aug_i, add_i, sub_i, slc_t, slc_l, add_l, len_t, len_l, list_t, list_l, tuple_l, max_i, ls_i, le_i, gt_i, ge_i, sub_t, sub_l, List.getElem?_cons_zero, List.getElem?_cons_succ, List.set_cons_zero, List.set_cons_succ, Bool.not_true, Bool.not_false]
    exact .ok rfl
end K04


open PySem PySem.W PyProof.Rows
set_option maxHeartbeats 0 in
theorem PySem.Challenge.cw_wishkeep_k04_whole_lean_loops_holds : PySem.Challenge.rw_wishkeep_k04_whole_lean_loops.Holds := by
  w_on; o_law; k_head; (case hw => w_witness2)
  k_fill
  refine L2.walk_of (l := PySem.Challenge.rw_wishkeep_k04_whole_lean_loops) (n := 63) (k := 40) (x := "_law_script") (CX := fun w => L2.CX (PySem.Challenge.rw_wishkeep_k04_whole_lean_loops).prog w) (sp := fun w => Mn.spLaw _) rfl (by decide) rfl ⟨rfl, by decide, by decide⟩ (fun w h Y => PySem.W.kIn_of Y) ?F (fun _ _ a ns hl _ hS => ⟨a, ns, rfl, hS, hl, fun _ => rfl⟩) ?C
  case C => exact fun w H s e s' h => by obtain ⟨_, _, _, _, _, _, _, _, _, _, _, _, h⟩ := h; exact h
  case F =>
    intro w mg fa h KX G hmg
    refine' K04.law_all KX G hmg ?a0 ?l0 ?c0 ?k0 ?a1 ?l1 ?c1 ?k1 ?a2 ?l2 ?c2 ?k2 ?a3 ?l3 ?c3 ?k3 ?a4 ?l4 ?c4 ?k4 ?a5 ?l5 ?c5 ?k5 ?a6 ?l6 ?c6 ?k6 ?a7 ?l7 ?c7 ?k7 ?a8 ?l8 ?c8 ?k8 ?a9 ?l9 ?c9 ?k9 ?a10 ?l10 ?c10 ?k10 ?a11 ?l11 ?c11 ?k11 ?a12 ?l12 ?c12 ?k12 ?z0 ?z1 ?z2 ?z3 ?z4 ?z5 ?z6 ?z7 K04.hlaw
    case a0 => k_is
    case l0 => k_is
    case c0 => k_is
    case k0 => k_is
    case a1 => k_is
    case l1 => k_is
    case c1 => k_is
    case k1 => k_is
    case a2 => k_is
    case l2 => k_is
    case c2 => k_is
    case k2 => k_is
    case a3 => k_is
    case l3 => k_is
    case c3 => k_is
    case k3 => k_is
    case a4 => k_is
    case l4 => k_is
    case c4 => k_is
    case k4 => k_is
    case a5 => k_is
    case l5 => k_is
    case c5 => k_is
    case k5 => k_is
    case a6 => k_is
    case l6 => k_is
    case c6 => k_is
    case k6 => k_is
    case a7 => k_is
    case l7 => k_is
    case c7 => k_is
    case k7 => k_is
    case a8 => k_is
    case l8 => k_is
    case c8 => k_is
    case k8 => k_is
    case a9 => k_is
    case l9 => k_is
    case c9 => k_is
    case k9 => k_is
    case a10 => k_is
    case l10 => k_is
    case c10 => k_is
    case k10 => k_is
    case a11 => k_is
    case l11 => k_is
    case c11 => k_is
    case k11 => k_is
    case a12 => k_is
    case l12 => k_is
    case c12 => k_is
    case k12 => k_is
    case z0 => k_is
    case z1 => k_is
    case z2 => k_is
    case z3 => k_is
    case z4 => k_is
    case z5 => k_is
    case z6 => k_is
    case z7 => k_is

