import PyProof.Rows.All
import Wide.All
import OpenK.AllK
import Wide.FinOn
import HandS.ForMost
import HandS.Deep
import HandS.IsInst
import HandS.Text
import PyProof.SliceList
import PyProof.ReprRoads
import HandS.ForExc
import HandS.CallSlots
import HandS.Walk
import HandS.TupAny
import HandS.TupMul
import HandS.TupLe
import HandS.AnyAll
import KE.DataMinMax
import HandS.SortKw
import HandS.Flow
import HandS.Strs
import HandS.Iter
import HandS.Zip
import PyProof.ListIndex
import HandS.Dict
import KE.KUnpack
import HandS.GenOver
import HandS.Small
import HandS.ExcValue
import HandS.ExcIs
import KE.GoesMore
import HandS.EndOwn
import KE.KNestM
import KE.RegKIsAll
import KE.RegKTryMore
import PySem.Challenge.RW_wishkeep_k23_whole_what_words_say
set_option Elab.async false
set_option linter.all false
set_option maxRecDepth 100000
set_option maxHeartbeats 16000000
/-! Mn1: a small pure reading of the program's constructs: data, a store of what may change, an evaluator. -/
namespace Mn
open PySem

/-- data: values as trees; ref n: the n-th thing of the store, which may change -/
inductive D where
  | non | bl (b : Bool) | int (i : Int) | str (x : Str)
  | tup (l : List D) | wtp (l : List D) | lst (l : List D) | ref (n : Nat)
  | fn (x : String) | cls (x : String) | ty (n : String)
  | exn (c : String) (fs : List D)
  deriving Inhabited

inductive O where
  | lst (l : List D)
  | dic (ks : List Str) (ds : List D)
  deriving Inhabited
abbrev Store := List O
abbrev Env := List (Option D)

inductive R (α : Type) where
  | ok (a : α) (S : Store) | exc (x : D) (S : Store) | bad
def R.bind {α β : Type} (r : R α) (f : α → Store → R β) : R β := match r with
  | .ok a S => f a S
  | .exc x S => .exc x S
  | .bad => .bad
/-- where nothing may be raised -/
def R.nox {α : Type} (r : R α) : R α := match r with
  | .ok a S => .ok a S
  | _ => .bad
def R.ofO {α : Type} (o : Option α) (S : Store) : R α := match o with
  | some a => .ok a S
  | none => .bad

/-! ### refs -/
mutual
def below (n : Nat) : D → Bool
  | .ref k => decide (k < n)
  | .tup l => belows n l
  | .wtp l => belows n l
  | .lst l => belows n l
  | .exn _ l => belows n l
  | _ => true
def belows (n : Nat) : List D → Bool
  | [] => true
  | d :: r => below n d && belows n r
end
def belowO (n : Nat) : O → Bool
  | .lst l => belows n l
  | .dic _ ds => belows n ds

/-! ### what stands behind a value -/
def seqL (S : Store) : D → Option (List D)
  | .lst l => some l
  | .ref n => match S[n]? with
    | some (.lst l) => some l
    | _ => none
  | _ => none
def seqT : D → Option (List D)
  | .tup l => some l
  | _ => none
def seqA (S : Store) : D → Option (List D)
  | .tup l => some l
  | d => seqL S d

mutual
def pyG : D → Option PyData
  | .non => some .none
  | .bl b => some (.bool b)
  | .int i => some (.int i)
  | .str x => some (.str x)
  | .tup l => (pyGs l).map .tuple
  | .lst l => (pyGs l).map .list
  | _ => none
def pyGs : List D → Option (List PyData)
  | [] => some []
  | d :: r => (pyG d).bind fun a => (pyGs r).map fun b => a :: b
end
def py (S : Store) (d : D) : Option PyData := match d with
  | .ref n => match S[n]? with
    | some (.lst l) => (pyGs l).map .list
    | _ => none
  | d => pyG d

/-- == of data -/
def eqA (S : Store) (x y : D) : Option Bool :=
  (py S x).bind fun a => (py S y).bind fun b => if SeqAt.shaped a = true ∧ SeqAt.shaped b = true then some (PyData.eqv a b) else none
/-- x in a list or tuple -/
def inA (S : Store) (x y : D) : Option Bool := match y with
  | .str j => match x with
    | .str i => some (!(Builtin.Str.occurrences j i 0 j.length 1).isEmpty)
    | _ => none
  | y => (py S x).bind fun a => match y with
    | .tup l => (pyGs l).bind fun bs => if SeqAt.shaped a = true ∧ SeqAt.shaped (.list bs) = true then some (bs.any fun z => PyData.eqv z a) else none
    | y => (py S y).bind fun b => match b with
      | .list bs => if SeqAt.shaped a = true ∧ SeqAt.shaped (.list bs) = true then some (bs.any fun z => PyData.eqv z a) else none
      | _ => none

def truthA (S : Store) : D → Option Bool
  | .non => some false
  | .bl b => some b
  | .int i => some (i != 0)
  | .str x => if x.length ≤ sizeLine then some ((x.length : Int) != 0) else none
  | .tup l => some (!l.isEmpty)
  | .lst l => some (!l.isEmpty)
  | .ref n => match S[n]? with
    | some (.lst l) => some (!l.isEmpty)
    | _ => none
  | _ => none

/-- a list is made: as a value (v), or in the store -/
def mkL (v : Bool) (l : List D) (S : Store) : R D :=
  if l.length ≤ sizeLine then (if v then .ok (.lst l) S else .ok (.ref S.length) (S ++ [.lst l])) else .bad
def mkT (l : List D) (S : Store) : R D := if l.length ≤ sizeLine then .ok (.tup l) S else .bad

/-! ### operators -/
def rep (k : Int) (l : List D) : List D := (List.replicate k.toNat l).flatten
def addA (v : Bool) (S : Store) (x y : D) : R D := match x, y with
  | .int i, .int j => .ok (.int (i + j)) S
  | .str i, .str j => if i.length + j.length ≤ sizeLine then .ok (.str (i ++ j)) S else .bad
  | .tup a, .tup b => if a.length + b.length ≤ sizeLine then .ok (.tup (a ++ b)) S else .bad
  | x, y => match seqL S x, seqL S y with
    | some a, some b => mkL v (a ++ b) S
    | _, _ => .bad
def mulA (v : Bool) (S : Store) (x y : D) : R D := match x, y with
  | .int i, .int j => if (-(2 ^ 64) < i ∧ i < 2 ^ 64) ∨ (-(2 ^ 64) < j ∧ j < 2 ^ 64) then .ok (.int (i * j)) S else .bad
  | .tup a, .int k => if 1 ≤ k ∧ k ≤ 1000 ∧ a.length ≤ 1000 then .ok (.tup (rep k a)) S else .bad
  | x, .int k => match seqL S x with
    | some a => if -(2 ^ 63) ≤ k ∧ k < 2 ^ 63 ∧ a.length * k.toNat ≤ sizeLine then mkL v (rep k a) S else .bad
    | none => .bad
  | _, _ => .bad
def ariA (op : Operator) (i j : Int) : Option Int := match op with
  | .Sub => some (i - j)
  | .FloorDiv => if 0 < j ∧ j < 1073741824 then some (i / j) else none
  | .Mod => if 0 < j then some (i % j) else none
  | .Pow => if 0 ≤ j ∧ j ≤ 1000000 ∧ i.natAbs < 2 ^ 64 then some (i ^ j.toNat) else none
  | .LShift => if 0 ≤ j ∧ j ≤ 1000000 ∧ i.natAbs < 2 ^ 64 then some (i * 2 ^ j.toNat) else none
  | .RShift => if 0 ≤ j then some (i / 2 ^ j.toNat) else none
  | .BitAnd => some (Builtin.bitAnd i j)
  | _ => none
def binA (v : Bool) (op : Operator) (x y : D) (S : Store) : R D := match op with
  | .Add => addA v S x y
  | .Mult => mulA v S x y
  | op => match x, y with
    | .int i, .int j => R.ofO ((ariA op i j).map .int) S
    | _, _ => .bad
def ordA (op : CmpOp) (i j : Int) : Option Bool := match op with
  | .Lt => some (decide (i < j))
  | .LtE => some (decide (i ≤ j))
  | .Gt => some (decide (j < i))
  | .GtE => some (decide (j ≤ i))
  | _ => none
def cmpA (op : CmpOp) (x y : D) (S : Store) : Option Bool := match op with
  | .Eq => eqA S x y
  | .NotEq => (eqA S x y).map (!·)
  | .In => inA S x y
  | .NotIn => (inA S x y).map (!·)
  | .Is => match x, y with
    | .bl a, .bl b => some (decide (a = b))
    | x, .non => some (match x with | .non => true | _ => false)
    | _, _ => none
  | .IsNot => match x, y with
    | .bl a, .bl b => some (!decide (a = b))
    | x, .non => some (match x with | .non => false | _ => true)
    | _, _ => none
  | op => match x, y with
    | .int i, .int j => ordA op i j
    | _, _ => none
def negA : D → Option D
  | .int i => some (.int (-i))
  | _ => none
/-- a[i] -/
def subA (S : Store) (x y : D) : Option D := match y with
  | .int i => match x with
    | .str z => if z.length ≤ sizeLine then (L2.atI z.cps.toList i).map fun c => .str ⟨#[c]⟩ else none
    | x => (seqA S x).bind fun l => L2.atI l i
  | _ => none
def cutA (l : List D) (lo hi : Option Int) : List D := (l.drop (HT.sIx l.length 0 lo)).take (HT.sIx l.length l.length hi - HT.sIx l.length 0 lo)
def optI : D → Option Int
  | .int i => some i
  | _ => none
/-- a[lo:hi] -/
def slcA (v : Bool) (x : D) (lo hi : Option Int) (S : Store) : R D := match x with
  | .tup l => .ok (.tup (cutA l lo hi)) S
  | .str z => if z.length ≤ sizeLine then .ok (.str (L2.cutS z lo hi)) S else .bad
  | x => match seqL S x with
    | some l => mkL v (cutA l lo hi) S
    | none => .bad

noncomputable def pickL {α : Type} (l : List α) (lo hi st : Option Int) : List α :=
  (sliceRange (sliceBounds lo hi st l.length).1 (sliceBounds lo hi st l.length).2.1 (sliceBounds lo hi st l.length).2.2).filterMap (l[·]?)
/-- a[lo::st] of a list -/
noncomputable def slcsA (v : Bool) (x i k : D) (S : Store) : R D := match i, k with
  | .int i, .int k => if k ≠ 0 then match seqL S x with
      | some l => mkL v (pickL l (some i) none (some k)) S
      | none => .bad
    else .bad
  | _, _ => .bad
/-! ### builtins, by values -/
def tyOf (S : Store) : D → Option String
  | .non => some "NoneType"
  | .bl _ => some "bool"
  | .int _ => some "int"
  | .str _ => some "str"
  | .tup _ => some "tuple"
  | .lst _ => some "list"
  | .ref n => match S[n]? with
    | some (.lst _) => some "list"
    | _ => none
  | _ => none
/-- isinstance with an own class; tab: the own exception classes, whether they stand under it -/
def isxA (tab : List (String × Bool)) (S : Store) (d : D) : Option Bool := match d with
  | .exn x [] => tab.lookup x
  | d => (tyOf S d).map fun _ => false
def intsOf : List D → Option (List Int)
  | [] => some []
  | .int i :: r => (intsOf r).map (i :: ·)
  | _ => none
def blsOf : List D → Option (List Bool)
  | [] => some []
  | .bl i :: r => (blsOf r).map (i :: ·)
  | _ => none
def strsOf : List D → Option (List Str)
  | [] => some []
  | .str z :: r => (strsOf r).map (z :: ·)
  | _ => none
def maxI : List Int → Int → Int
  | [], m => m
  | x :: r, m => maxI r (if m < x then x else m)
def bltA (v : Bool) (f : String) (ds : List D) (S : Store) : R D := match f, ds with
  | "len", [x] => match x with
    | .str z => if z.length ≤ sizeLine then .ok (.int z.length) S else .bad
    | x => match seqA S x with
      | some l => .ok (.int l.length) S
      | none => .bad
  | "tuple", [x] => match x with
    | .tup l => .ok (.tup l) S
    | x => match seqL S x with
      | some l => mkT l S
      | none => .bad
  | "list", [x] => match seqA S x with
    | some l => mkL v l S
    | none => .bad
  | "max", [.int i, .int j] => .ok (.int (if j > i then j else i)) S
  | "min", [.int i, .int j] => .ok (.int (if j < i then j else i)) S
  | "sum", [x] => match (seqL S x).bind intsOf with
    | some l => .ok (.int l.sum) S
    | none => .bad
  | "any", [x] => match (seqL S x).bind blsOf with
    | some l => .ok (.bl (l.any id)) S
    | none => .bad
  | "all", [x] => match (seqL S x).bind blsOf with
    | some l => .ok (.bl (l.all id)) S
    | none => .bad
  | "repr", [x] => match seqA S x, py S x with
    | some _, some p => if p.showable = true ∧ p.hasDict = false ∧ p.shown.length ≤ sizeLine ∧ p.depth ≤ 64 then .ok (.str p.shown) S else .bad
    | _, _ => .bad
  | "int", [.int i] => .ok (.int i) S
  | "int", [.bl b] => .ok (.int (if b then 1 else 0)) S
  | "isinstance", [x, .ty t] => match tyOf S x with
    | some a => match L2.kitB a t with
      | some b => .ok (.bl b) S
      | none => .bad
    | none => .bad
  | _, _ => .bad
def maxOf (d : Int) : List Int → Int
  | [] => d
  | n :: r => r.foldl max n
/-- max(x, default=y) -/
def maxdA (S : Store) (x y : D) : Option D := match y with
  | .int d => ((seqL S x).bind intsOf).map fun l => .int (maxOf d l)
  | _ => none
/-- methods of what is built in -/
def appA (o : D) (ds : List D) (S : Store) : R D := match o, ds with
  | .ref n, [x] => match S[n]? with
    | some (.lst l) => if l.length < sizeLine then .ok .non (S.set n (.lst (l ++ [x]))) else .bad
    | _ => .bad
  | _, _ => .bad
def popA (o : D) (ds : List D) (S : Store) : R D := match o, ds with
  | .ref n, [.int i] => match S[n]? with
    | some (.lst l) => if 0 ≤ i ∧ i < l.length ∧ l.length ≤ sizeLine then R.ofO (l[i.toNat]?) (S.set n (.lst (l.eraseIdx i.toNat))) else .bad
    | _ => .bad
  | _, _ => .bad
def clrA (o : D) (S : Store) : R D := match o with
  | .ref n => match S[n]? with
    | some (.lst _) => .ok .non (S.set n (.lst []))
    | _ => .bad
  | _ => .bad
def joinA (o : D) (ds : List D) (S : Store) : R D := match o, ds with
  | .str a, [x] => match (seqA S x).bind strsOf with
    | some ys => if (ys.map (·.length)).sum + ys.length * a.length ≤ 16777216 then .ok (.str (Txt.join a ys)) S else .bad
    | none => .bad
  | _, _ => .bad
def idxA (o : D) (ds : List D) (S : Store) : R D := match o, ds with
  | .tup l, [.str z] => match strsOf l with
    | some ys => if z ∈ ys then .ok (.int (ys.idxOf z : Nat)) S else .bad
    | none => .bad
  | _, _ => .bad
def mthA (T m : String) (o : D) (ds : List D) (S : Store) : R D := match T, m with
  | "list", "append" => appA o ds S
  | "str", "join" => joinA o ds S
  | "list", "pop" => popA o ds S
  | "tuple", "index" => idxA o ds S
  | "list", "clear" => match ds with
    | [] => clrA o S
    | _ => .bad
  | _, _ => .bad
/-- the receiver is of that type -/
def recvA (T : String) (S : Store) (o : D) : Option Unit := match T with
  | "list" => (seqL S o).map fun _ => ()
  | "str" => match o with
    | .str _ => some ()
    | _ => none
  | "tuple" => match o with
    | .tup _ => some ()
    | _ => none
  | _ => none
/-- d[k], d[k] = v of a dict with told keys -/
def dgetA (x : D) (k : Str) (S : Store) : R D := match x with
  | .ref n => match S[n]? with
    | some (.dic ks ds) => R.ofO (if k ∈ ks then ds[ks.idxOf k]? else none) S
    | _ => .bad
  | _ => .bad
def dputA (x : D) (k : Str) (v : D) (S : Store) : R Unit := match x with
  | .ref n => match S[n]? with
    | some (.dic ks ds) => if k ∈ ks ∧ ks.length < sizeLine then .ok () (S.set n (.dic ks (ds.set (ks.idxOf k) v))) else .bad
    | _ => .bad
  | _ => .bad
def dicA (ks : List Str) (ds : List D) (S : Store) : R D := if ks.length = ds.length ∧ ks.Nodup ∧ 1 ≤ ks.length ∧ ks.length ≤ 15 then .ok (.ref S.length) (S ++ [.dic ks ds]) else .bad
/-- o[i] = v -/
def setA (o i v : D) (S : Store) : R Unit := match o, i with
  | .ref n, .int k => match S[n]? with
    | some (.lst l) => match L2.ixN l.length k with
      | some j => .ok () (S.set n (.lst (l.set j v)))
      | none => .bad
    | _ => .bad
  | _, _ => .bad

/-- x op= y, of ints and texts -/
def augA (op : Operator) (x y : D) (S : Store) : R D := match op, x, y with
  | .Add, .int i, .int j => .ok (.int (i + j)) S
  | .Sub, .int i, .int j => .ok (.int (i - j)) S
  | .Add, .str i, .str j => if i.length + j.length ≤ sizeLine then .ok (.str (i ++ j)) S else .bad
  | _, _, _ => .bad

/-! ### targets, what is walked -/
inductive Tg where
  | nm (i : Nat) | tp (is : List Nat)
def asgs : List Nat → List D → Env → Option Env
  | [], [], e => some e
  | i :: r, d :: ds, e => asgs r ds (e.set i (some d))
  | _, _, _ => none
def asg (t : Tg) (d : D) (e : Env) : Option Env := match t with
  | .nm i => some (e.set i (some d))
  | .tp is => match d with
    | .tup l => asgs is l e
    | .wtp l => asgs is l e
    | .lst l => asgs is l e
    | _ => none
def wipe (e : Env) : List Nat → Env
  | [] => e
  | v :: vs => (wipe e vs).set v none
def rng (a : Int) (n : Nat) (c : Int) : List D := (List.range n).map fun i => .int (a + (i : Nat) * c)
def enumF : Nat → List D → List D
  | _, [] => []
  | n, d :: r => .wtp [.int n, d] :: enumF (n + 1) r
def zipF : List D → List D → List D
  | a :: r, b :: s => .wtp [a, b] :: zipF r s
  | _, _ => []

/-! ### the terms -/
mutual
inductive E where
  | non | bl (b : Bool) | int (i : Int) | str (x : Str) | ty (n : String) | fn (x : String)
  | var (i : Nat) | glob (x : String)
  | tup (es : Es) | lst (v : Bool) (es : Es)
  | bin (v : Bool) (op : Operator) (a b : E) | neg (a : E) | not (a : E)
  | cmp (op : CmpOp) (a b : E) | chain (o1 o2 : CmpOp) (a b c : E)
  | and (a b : E) | or (a b : E) | ife (c a b : E)
  | call (f : String) (es : Es) | blt (v : Bool) (f : String) (es : Es) | mth (T m : String) (o : E) (es : Es)
  | sub (a i : E) | slc (v : Bool) (a : E) (lo hi : Oe)
  | maxd (a d : E) | slcS (v : Bool) (a lo st : E)
  | isx (a : E) (y : String) (tab : List (String × Bool)) | dead | dict (ks : List Str) (es : Es) | dget (o : E) (k : Str)
  | comp (v : Bool) (own : List Nat) (tg : Tg) (it : It) (c : Oe) (e : E)
  | agen (q : Bool) (own : List Nat) (tg : Tg) (it : It) (e : E)
inductive Oe where
  | none | some (e : E)
inductive Es where
  | nil | cons (e : E) (es : Es)
inductive It where
  | seq (e : E) | rng1 (a : E) | rng2 (a b : E) | enum (e : E) | zip (a b : E) | rngD (a b : E)
end
mutual
inductive St where
  | set (i : Nat) (e : E) | unp (is : List Nat) (e : E) | sets (a i e : E) | aug (i : Nat) (op : Operator) (e : E)
  | par (i j : Nat) (es : Es) | kept (i j l : Nat) (c : String) (e : E) | raise (c : String) (es : Es) | dead | dput (o : E) (k : Str) (e : E)
  | expr (e : E) | ret (e : E) | retN | pass | brk | cont
  | ite (c : E) (a b : Sts) | for (tg : Tg) (it : It) (b : Sts) | whl (c : E) (b : Sts)
inductive Sts where
  | nil | cons (s : St) (r : Sts)
end
/-- how what a def hands back leaves it -/
inductive Md where
  | pure | new | raw
structure Def where
  np : Nat
  n : Nat
  md : Md
  body : Sts
abbrev Prog := String → Option Def
/-- module constants -/
abbrev Globs := String → Option D

inductive F where
  | nx (e : Env) | rt (d : D) | bk (e : Env) | ct (e : Env)

/-- try: w = e; except .. as n: v = n, every own class being let by; r: what e came to; i, j, l: n's, v's, w's slots -/
def keptA (i j l : Nat) (r : R D) (e : Env) : R F := match r with
  | .ok d S1 => .ok (.nx (e.set l (some d))) S1
  | .exc x S1 => .ok (.nx (((e.set i (some x)).set j (some x)).set i none)) S1
  | .bad => .bad

/-! ### loops -/
abbrev Gd := List (Nat × List D)
def gdOk (S : Store) : Gd → Prop
  | [] => True
  | (n, l) :: r => S[n]? = some (.lst l) ∧ gdOk S r
noncomputable instance : ∀ (S : Store) (g : Gd), Decidable (gdOk S g) := fun S g => Classical.propDecidable _
def gdOf (S : Store) (d : D) : Gd := match d with
  | .ref n => match S[n]? with
    | some (.lst l) => [(n, l)]
    | _ => []
  | _ => []
noncomputable def forA (g : Gd) (tg : Tg) (b : Env → Store → R F) : List D → Env → Store → R F
  | [], e, S => if gdOk S g then .ok (.nx e) S else .bad
  | d :: r, e, S => if gdOk S g then match asg tg d e with
      | none => .bad
      | some e1 => (b e1 S).bind fun f S1 => match f with
        | .nx e2 => forA g tg b r e2 S1
        | .ct e2 => forA g tg b r e2 S1
        | .bk e2 => .ok (.nx e2) S1
        | .rt d => .ok (.rt d) S1
    else .bad
noncomputable def compA (g : Gd) (tg : Tg) (c : Env → Store → R Bool) (t : Env → Store → R D) (e0 : Env) : List D → List D → Store → R (List D)
  | [], acc, S => if gdOk S g then .ok acc S else .bad
  | d :: r, acc, S => if gdOk S g then match asg tg d e0 with
      | none => .bad
      | some e1 => (c e1 S).nox.bind fun ok S1 => if ok then (t e1 S1).nox.bind fun y S2 => if acc.length < sizeLine then compA g tg c t e0 r (acc ++ [y]) S2 else .bad
        else compA g tg c t e0 r acc S1
    else .bad
/-- all (q) or any (not q) of what t comes to along the items -/
noncomputable def genA (g : Gd) (q : Bool) (tg : Tg) (t : Env → Store → R D) (e0 : Env) : List D → Store → R Bool
  | [], S => if gdOk S g then .ok q S else .bad
  | d :: r, S => if gdOk S g then match asg tg d e0 with
      | none => .bad
      | some e1 => (t e1 S).nox.bind fun y S1 => match y with
        | .bl b => if b = q then genA g q tg t e0 r S1 else .ok b S1
        | _ => .bad
    else .bad
def whileA : Nat → (Env → Store → R Bool) → (Env → Store → R F) → Env → Store → R F
  | 0, _, _, _, _ => .bad
  | n + 1, c, b, e, S => (c e S).bind fun t S1 => if t then (b e S1).bind fun f S2 => match f with
      | .nx e2 => whileA n c b e2 S2
      | .ct e2 => whileA n c b e2 S2
      | .bk e2 => .ok (.nx e2) S2
      | .rt d => .ok (.rt d) S2
    else .ok (.nx e) S1

/-! ### the evaluator -/
section
variable (G : Globs) (N : Nat) (call : String → List D → Store → R D)
def tru (r : R D) : R Bool := r.bind fun d S => R.ofO (truthA S d) S
/-- what is walked must be of few kinds -/
def itemsOf (S : Store) : D → Option (List D)
  | .str z => some (z.cps.toList.map fun c => .str ⟨#[c]⟩)
  | d => seqA S d
mutual
noncomputable def evE : E → Env → Store → R D
  | .non, _, S => .ok .non S
  | .bl b, _, S => .ok (.bl b) S
  | .int i, _, S => .ok (.int i) S
  | .str x, _, S => .ok (.str x) S
  | .ty n, _, S => .ok (.ty n) S
  | .fn x, _, S => .ok (.fn x) S
  | .var i, e, S => match e[i]? with
    | some (some d) => .ok d S
    | _ => .bad
  | .glob x, _, S => R.ofO (G x) S
  | .tup es, e, S => (evEs es e S).bind fun ds S1 => mkT ds S1
  | .lst v es, e, S => (evEs es e S).bind fun ds S1 => mkL v ds S1
  | .bin v op a b, e, S => (evE a e S).bind fun x S1 => (evE b e S1).bind fun y S2 => binA v op x y S2
  | .neg a, e, S => (evE a e S).bind fun x S1 => R.ofO (negA x) S1
  | .not a, e, S => (tru (evE a e S)).bind fun t S1 => .ok (.bl (!t)) S1
  | .cmp op a b, e, S => (evE a e S).bind fun x S1 => (evE b e S1).bind fun y S2 => (R.ofO (cmpA op x y S2) S2).bind fun t S3 => .ok (.bl t) S3
  | .chain o1 o2 a b c, e, S => (evE a e S).bind fun x S1 => (evE b e S1).bind fun y S2 => (R.ofO (cmpA o1 x y S2) S2).bind fun t S3 =>
      if t then (evE c e S3).bind fun z S4 => (R.ofO (cmpA o2 y z S4) S4).bind fun u S5 => .ok (.bl u) S5 else .ok (.bl false) S3
  | .and a b, e, S => (evE a e S).bind fun x S1 => (R.ofO (truthA S1 x) S1).bind fun t S2 => if t then evE b e S2 else .ok x S2
  | .or a b, e, S => (evE a e S).bind fun x S1 => (R.ofO (truthA S1 x) S1).bind fun t S2 => if t then .ok x S2 else evE b e S2
  | .ife c a b, e, S => (tru (evE c e S)).bind fun t S1 => if t then evE a e S1 else evE b e S1
  | .call f es, e, S => (evEs es e S).bind fun ds S1 => call f ds S1
  | .blt v f es, e, S => (evEs es e S).bind fun ds S1 => bltA v f ds S1
  | .mth T m o es, e, S => (evE o e S).bind fun x S1 => (R.ofO (recvA T S1 x) S1).bind fun _ S2 => (evEs es e S2).bind fun ds S3 => mthA T m x ds S3
  | .sub a i, e, S => (evE a e S).bind fun x S1 => (evE i e S1).bind fun y S2 => R.ofO (subA S2 x y) S2
  | .slc v a lo hi, e, S => (evE a e S).bind fun x S1 => (evOe lo e S1).bind fun l S2 => (evOe hi e S2).bind fun h S3 => slcA v x l h S3
  | .isx a _ tab, e, S => (evE a e S).bind fun d S1 => R.ofO ((isxA tab S1 d).map .bl) S1
  | .slcS v a lo st, e, S => (evE a e S).bind fun x S1 => (evE lo e S1).bind fun i S2 => (evE st e S2).bind fun k S3 => slcsA v x i k S3
  | .maxd a d, e, S => (evE a e S).bind fun x S1 => (evE d e S1).bind fun y S2 => R.ofO (maxdA S2 x y) S2
  | .dead, _, _ => .bad
  | .dict ks es, e, S => (evEs es e S).bind fun ds S1 => dicA ks ds S1
  | .dget o k, e, S => (evE o e S).bind fun x S1 => dgetA x k S1
  | .comp v own tg it c t, e, S => (evIt it e S).bind fun w S1 =>
      (compA w.2 tg (fun e S => tru (evOc c e S)) (fun e S => evE t e S) (wipe e own) w.1 [] S1).bind fun l S2 => mkL v l S2
  | .agen q own tg it t, e, S => (evIt it e S).bind fun w S1 => (genA w.2 q tg (fun e S => evE t e S) (wipe e own) w.1 S1).bind fun b S2 => .ok (.bl b) S2
noncomputable def evOe : Oe → Env → Store → R (Option Int)
  | .none, _, S => .ok none S
  | .some a, e, S => (evE a e S).bind fun x S1 => (R.ofO (optI x) S1).bind fun i S2 => .ok (some i) S2
noncomputable def evOc : Oe → Env → Store → R D
  | .none, _, S => .ok (.bl true) S
  | .some a, e, S => evE a e S
noncomputable def evEs : Es → Env → Store → R (List D)
  | .nil, _, S => .ok [] S
  | .cons a r, e, S => (evE a e S).bind fun x S1 => (evEs r e S1).bind fun xs S2 => .ok (x :: xs) S2
noncomputable def evIt : It → Env → Store → R (List D × Gd)
  | .seq a, e, S => (evE a e S).bind fun x S1 => (R.ofO (itemsOf S1 x) S1).bind fun l S2 => .ok (l, gdOf S2 x) S2
  | .rng1 a, e, S => (evE a e S).bind fun x S1 => match x with
    | .int j => if -(2 ^ 62) ≤ j ∧ j < 2 ^ 62 then .ok (rng 0 j.toNat 1, []) S1 else .bad
    | _ => .bad
  | .rng2 a b, e, S => (evE a e S).bind fun x S1 => (evE b e S1).bind fun y S2 => match x, y with
    | .int i, .int j => if -(2 ^ 62) ≤ i ∧ i < 2 ^ 62 ∧ -(2 ^ 62) ≤ j ∧ j < 2 ^ 62 then .ok (rng i (j - i).toNat 1, []) S2 else .bad
    | _, _ => .bad
  | .enum a, e, S => (evE a e S).bind fun x S1 => (R.ofO (seqA S1 x) S1).bind fun l S2 => .ok (enumF 0 l, gdOf S2 x) S2
  | .zip a b, e, S => (evE a e S).bind fun x S1 => (evE b e S1).bind fun y S2 => match seqL S2 x, seqL S2 y with
    | some l, some k => .ok (zipF l k, gdOf S2 x ++ gdOf S2 y) S2
    | _, _ => match seqT x, seqT y with
      | some l, some k => .ok (zipF l k, []) S2
      | _, _ => .bad
  | .rngD a b, e, S => (evE a e S).bind fun x S1 => (evE b e S1).bind fun y S2 => match x, y with
    | .int i, .int j => if -(2 ^ 62) ≤ i ∧ i < 2 ^ 62 ∧ -(2 ^ 62) ≤ j ∧ j < 2 ^ 62 then .ok (rng i (i - j).toNat (-1), []) S2 else .bad
    | _, _ => .bad
end
mutual
noncomputable def exS : St → Env → Store → R F
  | .set i a, e, S => (evE G call a e S).bind fun x S1 => .ok (.nx (e.set i (some x))) S1
  | .unp is a, e, S => (evE G call a e S).bind fun x S1 => match asg (.tp is) x e with
    | some e1 => .ok (.nx e1) S1
    | none => .bad
  | .par i j es, e, S => (evEs G call es e S).bind fun ds S1 => match ds with
    | [x, y] => .ok (.nx ((e.set i (some x)).set j (some y))) S1
    | _ => .bad
  | .sets a i b, e, S => (evE G call b e S).bind fun y S1 => (evE G call a e S1).bind fun x S2 => (evE G call i e S2).bind fun k S3 => (setA x k y S3).bind fun _ S4 => .ok (.nx e) S4
  | .aug i op a, e, S => match e[i]? with
    | some (some x) => (evE G call a e S).bind fun y S1 => (augA op x y S1).bind fun z S2 => .ok (.nx (e.set i (some z))) S2
    | _ => .bad
  | .kept i j l _ a, e, S => keptA i j l (evE G call a e S) e
  | .raise c es, e, S => (evEs G call es e S).bind fun ds S1 => if ds.length ≤ sizeLine then .exc (.exn c []) S1 else .bad
  | .dead, _, _ => .bad
  | .dput o k a, e, S => (evE G call a e S).bind fun y S1 => (evE G call o e S1).bind fun x S2 => (dputA x k y S2).bind fun _ S3 => .ok (.nx e) S3
  | .expr a, e, S => (evE G call a e S).bind fun _ S1 => .ok (.nx e) S1
  | .ret a, e, S => (evE G call a e S).bind fun x S1 => .ok (.rt x) S1
  | .retN, _, S => .ok (.rt .non) S
  | .pass, e, S => .ok (.nx e) S
  | .brk, e, S => .ok (.bk e) S
  | .cont, e, S => .ok (.ct e) S
  | .ite c a b, e, S => (tru (evE G call c e S)).bind fun t S1 => if t then exB a e S1 else exB b e S1
  | .for tg it b, e, S => (evIt G call it e S).bind fun w S1 => forA w.2 tg (fun e S => exB b e S) w.1 e S1
  | .whl c b, e, S => whileA N (fun e S => tru (evE G call c e S)) (fun e S => exB b e S) e S
noncomputable def exB : Sts → Env → Store → R F
  | .nil, e, S => .ok (.nx e) S
  | .cons s r, e, S => (exS s e S).bind fun f S1 => match f with
    | .nx e1 => exB r e1 S1
    | f => .ok f S1
end
end

/-! ### calls -/
/-- what a value is once the refs of the callee's own are told as data; values without such stay -/
noncomputable def outD (S : Store) (n : Nat) (d : D) : Option D := if below n d = true then some d else match d with
  | .ref j => match S[j]? with
    | some (.lst l) => if belows n l = true then some (.lst l) else none
    | _ => none
  | _ => none
def oldOk (S S' : Store) : Prop := S.length ≤ S'.length ∧ ∀ i, i < S.length → S'[i]? = S[i]? ∨ ∃ o, S'[i]? = some o ∧ belowO S.length o = true
noncomputable instance : ∀ (S S' : Store), Decidable (oldOk S S') := fun _ _ => Classical.propDecidable _
noncomputable def fin (md : Md) (S : Store) (d : D) (S' : Store) : R D := match md with
  | .raw => .ok d S'
  | .pure => if oldOk S S' then match outD S' S.length d with
      | some x => .ok x (S'.take S.length)
      | none => .bad
    else .bad
  | .new => if oldOk S S' then match d with
      | .ref j => if j < S.length then .bad else match S'[j]? with
        | some (.lst l) => if belows S.length l = true then .ok (.ref S.length) (S'.take S.length ++ [.lst l]) else .bad
        | _ => .bad
      | _ => .bad
    else .bad
noncomputable def leave (md : Md) (S : Store) (r : R F) : R D := match r with
  | .ok (.rt d) S' => fin md S d S'
  | .ok (.nx _) S' => fin md S .non S'
  | .exc x S' => if oldOk S S' ∧ below S.length x = true then .exc x (S'.take S.length) else .bad
  | _ => .bad
noncomputable def callA (G : Globs) (N : Nat) (P : Prog) : Nat → String → List D → Store → R D
  | 0, _, _, _ => .bad
  | k + 1, f, ds, S => match P f with
    | none => .bad
    | some d => if ds.length = d.np then leave d.md S (exB G N (callA G N P k) d.body (ds.map some ++ List.replicate (d.n - d.np) none) S) else .bad
end Mn

/-! Mn2: how the small reading's data lie in the layer's heap. -/
namespace Mn
open PySem PySem.Spec PyProof.Rows
open L2 (V Hp HO Cx SqL SqT Rd St VK WX XK TE TA TS TT TG PE PA PS PSs PT PG Ends upd upd_same upd_ne)
abbrev Frag := PySem.W.Frag

/-- the built-in names that stand for themselves; how many arguments the defs take -/
structure Sg where
  bls : List String
  sig : String → Option Nat
  exs : List String
  tops : List String
  isx : List (String × List (String × Bool))
  gscs : List Scope
structure Cfg where
  fa : String → Option Addr
  ca : String → Option Addr
  tabs : List Addr
  sg : Sg

/-- where the store's things stand; what is being made and not told yet -/
structure MM where
  ix : List Addr
  hid : List Addr
/-- a list that is data: not of the store -/
def LV (K : Frag) (m : MM) (H : Hp) (a : Addr) (vs : List V) : Prop :=
  (Rd H a (.lst vs) ∧ a ∉ m.ix ∧ a ∉ m.hid) ∨
    ∃ (o : Obj) (its : Array Value) (n : Nat), K.lookup a = some o ∧ o.cls = .type "list" ∧ o.dict = none ∧ o.data = .seq its n ∧ its.size ≤ sizeLine ∧ L2.Vals vs its.toList
theorem LV.sq {K : Frag} {m : MM} {H : Hp} {a : Addr} {vs : List V} (h : LV K m H a vs) : SqL K H a vs := by
  rcases h with h | h
  · exact .inl h.1
  · exact .inr h

/-- a tuple that has no own dict -/
def ST (K : Frag) (H : Hp) (a : Addr) (vs : List V) : Prop :=
  (∃ o : Obj, H a = some (.frz o (.tup vs)) ∧ o.dict = none) ∨
    ∃ (o : Obj) (its : Array Value) (n : Nat), K.lookup a = some o ∧ o.cls = .type "tuple" ∧ o.dict = none ∧ o.data = .seq its n ∧ its.size ≤ sizeLine ∧ L2.Vals vs its.toList
theorem ST.sq {K : Frag} {H : Hp} {a : Addr} {vs : List V} (h : ST K H a vs) : SqT K H a vs := by
  rcases h with ⟨o, h, _⟩ | ⟨o, its, n, h1, h2, _, h3, h4, h5⟩
  · exact .inl (.inr ⟨o, h⟩)
  · exact .inr ⟨o, its, n, h1, h2, h3, h4, h5⟩
theorem ST.no {K : Frag} {H : Hp} {a : Addr} {vs : List V} (h : ST K H a vs) : (∃ o : Obj, H a = some (.frz o (.tup vs)) ∧ o.dict = none) ∨ ∃ o, K.lookup a = some o ∧ o.cls = .type "tuple" ∧ o.dict = none := by
  rcases h with h | ⟨o, its, n, h1, h2, h3, _⟩
  · exact .inl h
  · exact .inr ⟨o, h1, h2, h3⟩
/-- the object of a new tuple -/
def tupO (us : List Value) : Obj := { cls := .type "tuple", data := .seq us.toArray }
/-- an exception object of that class, kept -/
def ExK (cls : Value) (d : Option Addr) (a : Addr) : HO := .ext fun h => ∃ oe : Obj, h.get? a = some oe ∧ L2.Zc cls d oe ∧ ∃ vs, oe.data = .fields vs
theorem exK_ok {P : Program} {w : World} {H : Hp} {h : Heap} {a : Addr} {cls : Value} {d : Option Addr} {oe : Obj} (e : h.get? a = some oe) (z : L2.Zc cls d oe) (dd : ∃ vs, oe.data = .fields vs) : L2.ObjOk P w H h a (ExK cls d a) :=
  ⟨⟨oe, e, z, dd⟩, ⟨oe, e⟩, fun _ _ ⟨o, q, r⟩ k => ⟨o, k o q, r⟩⟩
mutual
inductive RV (K : Frag) (c : Cfg) (m : MM) (H : Hp) : D → V → Prop
  | non : RV K c m H .non .non
  | bl (b : Bool) : RV K c m H (.bl b) (.bl b)
  | int (i : Int) : RV K c m H (.int i) (.int i)
  | str (x : Str) : RV K c m H (.str x) (.str x)
  | tup {a : Addr} {vs : List V} {ds : List D} : ST K H a vs → RVs K c m H ds vs → RV K c m H (.tup ds) (.ref a)
  | wtp {a : Addr} {vs : List V} {ds : List D} : SqT K H a vs → RVs K c m H ds vs → RV K c m H (.wtp ds) (.ref a)
  | lst {a : Addr} {vs : List V} {ds : List D} : LV K m H a vs → RVs K c m H ds vs → RV K c m H (.lst ds) (.ref a)
  | ref {n : Nat} {a : Addr} : m.ix[n]? = some a → RV K c m H (.ref n) (.ref a)
  | fn {x : String} {a : Addr} : c.fa x = some a → RV K c m H (.fn x) (.ref a)
  | cls {x : String} {a : Addr} : c.ca x = some a → RV K c m H (.cls x) (.ref a)
  | ty (n : String) : RV K c m H (.ty n) (.ty n)
  | exn {x : String} {C a : Addr} : c.ca x = some C → H a = some (ExK (.ref C) none a) → RV K c m H (.exn x []) (.ref a)
inductive RVs (K : Frag) (c : Cfg) (m : MM) (H : Hp) : List D → List V → Prop
  | nil : RVs K c m H [] []
  | cons {d : D} {v : V} {ds : List D} {vs : List V} : RV K c m H d v → RVs K c m H ds vs → RVs K c m H (d :: ds) (v :: vs)
end
section
variable {K : Frag} {c : Cfg} {m m' m2 : MM} {H H' H2 : Hp}
theorem RVs.length {ds : List D} {vs : List V} (h : RVs K c m H ds vs) : ds.length = vs.length := by
  induction ds generalizing vs with
  | nil => cases h; rfl
  | cons d ds ih =>
    cases h with
    | cons h1 h2 => simp [ih h2]
theorem RVs.get : ∀ {ds : List D} {vs : List V} {i : Nat} {v : V}, RVs K c m H ds vs → vs[i]? = some v → ∃ d, ds[i]? = some d ∧ RV K c m H d v
  | _, _, _, _, .nil, e => by simp at e
  | _, _, 0, _, .cons h _, e => by simp at e; subst e; exact ⟨_, rfl, h⟩
  | _, _, i + 1, _, .cons _ t, e => by
    obtain ⟨d, h1, h2⟩ := RVs.get (i := i) t (by simpa using e)
    exact ⟨d, by simpa using h1, h2⟩
theorem RVs.getD : ∀ {ds : List D} {vs : List V} {i : Nat} {d : D}, RVs K c m H ds vs → ds[i]? = some d → ∃ v, vs[i]? = some v ∧ RV K c m H d v
  | _, _, _, _, .nil, e => by simp at e
  | _, _, 0, _, .cons h _, e => by simp at e; subst e; exact ⟨_, rfl, h⟩
  | _, _, i + 1, _, .cons _ t, e => by
    obtain ⟨d, h1, h2⟩ := RVs.getD (i := i) t (by simpa using e)
    exact ⟨d, by simpa using h1, h2⟩
theorem RVs.append : ∀ {ds es : List D} {vs us : List V}, RVs K c m H ds vs → RVs K c m H es us → RVs K c m H (ds ++ es) (vs ++ us)
  | _, _, _, _, .nil, h => h
  | _, _, _, _, .cons h t, h2 => .cons h (RVs.append t h2)
theorem RVs.take : ∀ {ds : List D} {vs : List V} (n : Nat), RVs K c m H ds vs → RVs K c m H (ds.take n) (vs.take n)
  | _, _, 0, _ => .nil
  | _, _, _ + 1, .nil => .nil
  | _, _, n + 1, .cons h t => .cons h (RVs.take n t)
theorem RVs.drop : ∀ {ds : List D} {vs : List V} (n : Nat), RVs K c m H ds vs → RVs K c m H (ds.drop n) (vs.drop n)
  | _, _, 0, h => h
  | _, _, _ + 1, .nil => .nil
  | _, _, n + 1, .cons _ t => RVs.drop n t
theorem RVs.set {d : D} {v : V} (r : RV K c m H d v) : ∀ {ds : List D} {vs : List V} (i : Nat), RVs K c m H ds vs → RVs K c m H (ds.set i d) (vs.set i v)
  | _, _, _, .nil => .nil
  | _, _, 0, .cons _ t => .cons r t
  | _, _, i + 1, .cons h t => .cons h (RVs.set r i t)
theorem RVs.erase : ∀ {ds : List D} {vs : List V} (i : Nat), RVs K c m H ds vs → RVs K c m H (ds.eraseIdx i) (vs.eraseIdx i)
  | _, _, _, .nil => .nil
  | _, _, 0, .cons _ t => t
  | _, _, i + 1, .cons h t => .cons h (RVs.erase i t)
theorem RVs.rep {ds : List D} {vs : List V} (h : RVs K c m H ds vs) : ∀ k : Nat, RVs K c m H (List.replicate k ds).flatten (List.replicate k vs).flatten
  | 0 => .nil
  | k + 1 => by
    rw [List.replicate_succ, List.replicate_succ, List.flatten_cons, List.flatten_cons]
    exact h.append (RVs.rep h k)
theorem RVs.emp {ds : List D} {vs : List V} (h : RVs K c m H ds vs) : ds.isEmpty = vs.isEmpty := by
  cases h <;> rfl

/-! ### objects, the whole -/
def kvz : List Str → List V → List (L2.Key × V)
  | k :: ks, v :: vs => (.inr k, v) :: kvz ks vs
  | _, _ => []
inductive RO (K : Frag) (c : Cfg) (m : MM) (H : Hp) : O → HO → Prop
  | lst {ds : List D} {vs : List V} : RVs K c m H ds vs → RO K c m H (.lst ds) (.lst vs)
  | dic {ks : List Str} {ds : List D} {vs : List V} : ks.length = ds.length → ks.Nodup → RVs K c m H ds vs → RO K c m H (.dic ks ds) (.dK (kvz ks vs))

structure Ext (m : MM) (H : Hp) (m' : MM) (H' : Hp) : Prop where
  pre : ∃ r, m'.ix = m.ix ++ r ∧ ∀ a ∈ r, H a = none
  hid : (∀ b ∈ m.hid, b ∈ m'.hid) ∧ ∀ b ∈ m'.hid, b ∈ m.hid ∨ H b = none
  keep : ∀ a u, H a = some u → a ∉ m.ix → (∀ ps, u ≠ .tbl ps) → H' a = some u
  stay : ∀ a, H' a = none → H a = none
structure Sim (K : Frag) (c : Cfg) (m : MM) (H : Hp) (S : Store) : Prop where
  len : m.ix.length = S.length
  nd : m.ix.Nodup
  hid : ∀ a ∈ m.hid, H a ≠ none ∧ a ∉ m.ix
  obj : ∀ (n : Nat) (o : O), S[n]? = some o → ∃ (a : Addr) (u : HO), m.ix[n]? = some a ∧ H a = some u ∧ RO K c m H o u
  tab : ∀ P ∈ c.tabs, ∃ ps : Array Value, H P = some (.tbl ps) ∧ TriplesOk ps.toList
theorem Ext.refl : Ext m H m H := ⟨⟨[], by simp, by simp⟩, ⟨fun _ h => h, fun _ h => .inl h⟩, fun _ _ h _ _ => h, fun _ h => h⟩
theorem Ext.trans (a : Ext m H m' H') (b : Ext m' H' m2 H2) : Ext m H m2 H2 := by
  obtain ⟨r, e1, hr⟩ := a.pre
  obtain ⟨r2, e2, hr2⟩ := b.pre
  refine ⟨⟨r ++ r2, by rw [e2, e1]; simp, fun x hx => ?_⟩, ⟨fun x hx => b.hid.1 x (a.hid.1 x hx), fun x hx => (b.hid.2 x hx).elim (a.hid.2 x) fun h => .inr (a.stay x h)⟩, fun x u h hm ht => ?_, fun x h => a.stay x (b.stay x h)⟩
  · rcases List.mem_append.mp hx with h | h
    · exact hr x h
    · exact a.stay x (hr2 x h)
  · refine b.keep x u (a.keep x u h hm ht) (fun h2 => ?_) ht
    rw [e1] at h2
    rcases List.mem_append.mp h2 with h3 | h3
    · exact hm h3
    · rw [hr x h3] at h; cases h
theorem Sim.mem {S : Store} (s : Sim K c m H S) {a : Addr} (h : a ∈ m.ix) : ∃ o u, H a = some u ∧ RO K c m H o u := by
  obtain ⟨n, hn⟩ := List.getElem?_of_mem h
  have hl : n < S.length := by
    rw [← s.len]
    exact (List.getElem?_eq_some_iff.mp hn).1
  obtain ⟨a', u, h1, h2, h3⟩ := s.obj n _ (List.getElem?_eq_getElem hl)
  rw [hn] at h1; cases h1
  exact ⟨_, u, h2, h3⟩
theorem Sim.out {S : Store} (s : Sim K c m H S) {a : Addr} {u : HO} (h : H a = some u) (hk : ∀ vs, u ≠ .lst vs) (hk2 : ∀ kvs, u ≠ .dK kvs) : a ∉ m.ix := fun hm => by
  obtain ⟨o, u', h2, h3⟩ := s.mem hm
  rw [h] at h2; cases h2
  cases h3
  · exact hk _ rfl
  · exact hk2 _ rfl
theorem Sim.at {S : Store} (s : Sim K c m H S) {n : Nat} {ds : List D} (h : S[n]? = some (.lst ds)) : ∃ a vs, m.ix[n]? = some a ∧ H a = some (.lst vs) ∧ RVs K c m H ds vs := by
  obtain ⟨a, u, h1, h2, h3⟩ := s.obj n _ h
  cases h3 with
  | lst h3 => exact ⟨a, _, h1, h2, h3⟩
theorem Ext.rd {S : Store} (e : Ext m H m' H') {a : Addr} {u : HO} (h : Rd H a u) (hm : a ∉ m.ix) (hu : ∀ ps, u ≠ .tbl ps) : Rd H' a u := by
  rcases h with h | ⟨o, h⟩
  · exact .inl (e.keep a _ h hm hu)
  · exact .inr ⟨o, e.keep a _ h hm fun ps z => by cases z⟩
theorem Rd.some {a : Addr} {u : HO} (h : Rd H a u) : ∃ x, H a = some x := by
  rcases h with h | ⟨o, h⟩ <;> exact ⟨_, h⟩
theorem Ext.tup {S : Store} (s : Sim K c m H S) (e : Ext m H m' H') {a : Addr} {vs : List V} (h : SqT K H a vs) : SqT K H' a vs := by
  rcases h with h | h
  · refine .inl (e.rd (S := S) h ?_ fun ps z => by cases z)
    rcases h with h | ⟨o, h⟩
    · exact s.out h (fun vs z => by cases z) fun vs z => by cases z
    · exact s.out h (fun vs z => by cases z) fun vs z => by cases z
  · exact .inr h
theorem Ext.lv (e : Ext m H m' H') {a : Addr} {vs : List V} (h : LV K m H a vs) : LV K m' H' a vs := by
  rcases h with ⟨h, hm, hh⟩ | h
  · refine .inl ⟨e.rd (S := []) h hm (fun ps z => by cases z), fun h2 => ?_, fun h2 => ?_⟩
    obtain ⟨r, e1, hr⟩ := e.pre
    rw [e1] at h2
    rcases List.mem_append.mp h2 with h3 | h3
    · exact hm h3
    · obtain ⟨x, hx⟩ := Rd.some h
      rw [hr a h3] at hx; cases hx
    · obtain ⟨x, hx⟩ := Rd.some h
      rcases e.hid.2 a h2 with z | z
      · exact hh z
      · rw [z] at hx; cases hx
  · exact .inr h
theorem Ext.stup {S : Store} (s : Sim K c m H S) (e : Ext m H m' H') {a : Addr} {vs : List V} (h : ST K H a vs) : ST K H' a vs := by
  rcases h with ⟨o, h, hd⟩ | h
  · refine .inl ⟨o, e.keep a _ h ?_ (fun ps z => by cases z), hd⟩
    exact s.out h (fun vs z => by cases z) fun vs z => by cases z
  · exact .inr h
mutual
theorem RV.mono {S : Store} (s : Sim K c m H S) (e : Ext m H m' H') : ∀ {d : D} {v : V}, RV K c m H d v → RV K c m' H' d v
  | _, _, .non => .non
  | _, _, .bl b => .bl b
  | _, _, .int i => .int i
  | _, _, .str x => .str x
  | _, _, .tup h t => .tup (e.stup s h) (RVs.mono s e t)
  | _, _, .wtp h t => .wtp (e.tup s h) (RVs.mono s e t)
  | _, _, .lst h t => .lst (e.lv h) (RVs.mono s e t)
  | _, _, .ref h => .ref (by
    obtain ⟨r, e1, _⟩ := e.pre
    rw [e1, List.getElem?_append_left (List.getElem?_eq_some_iff.mp h).1]
    exact h)
  | _, _, .fn h => .fn h
  | _, _, .cls h => .cls h
  | _, _, .ty n => .ty n
  | _, _, .exn h1 h2 => .exn h1 (e.keep _ _ h2 (s.out h2 (fun _ z => by cases z) fun _ z => by cases z) fun _ z => by cases z)
theorem RVs.mono {S : Store} (s : Sim K c m H S) (e : Ext m H m' H') : ∀ {ds : List D} {vs : List V}, RVs K c m H ds vs → RVs K c m' H' ds vs
  | _, _, .nil => .nil
  | _, _, .cons h t => .cons (RV.mono s e h) (RVs.mono s e t)
end

theorem RO.mono {S : Store} (s : Sim K c m H S) (e : Ext m H m' H') {o : O} {u : HO} (r : RO K c m H o u) : RO K c m' H' o u := by
  cases r with
  | lst h => exact .lst (h.mono s e)
  | dic hl nd h => exact .dic hl nd (h.mono s e)

/-! ### the slots -/
structure EnvR (K : Frag) (c : Cfg) (m : MM) (H : Hp) (e : Env) (σ : L2.St) : Prop where
  len : e.length = σ.length
  at_ : ∀ (i : Nat) (d : D), e[i]? = some (some d) → ∃ v, σ[i]? = some (some v) ∧ RV K c m H d v
theorem EnvR.mono {S : Store} {e : Env} {σ : L2.St} (r : EnvR K c m H e σ) (s : Sim K c m H S) (x : Ext m H m' H') : EnvR K c m' H' e σ :=
  ⟨r.len, fun i d h => let ⟨v, h1, h2⟩ := r.at_ i d h; ⟨v, h1, h2.mono s x⟩⟩
theorem EnvR.set {e : Env} {σ : L2.St} {d : D} {v : V} (r : EnvR K c m H e σ) (h : RV K c m H d v) (i : Nat) : EnvR K c m H (e.set i (some d)) (σ.set i (some v)) := by
  refine ⟨by simp [r.len], fun j y hj => ?_⟩
  by_cases e1 : i = j
  · subst e1
    have hl : i < e.length := by
      have := (List.getElem?_eq_some_iff.mp hj).1
      simpa using this
    rw [List.getElem?_set_self hl] at hj
    cases hj
    exact ⟨v, List.getElem?_set_self (by rw [← r.len]; exact hl), h⟩
  · rw [List.getElem?_set_ne e1] at hj ⊢
    exact r.at_ j y hj
theorem EnvR.none {e : Env} {σ : L2.St} (r : EnvR K c m H e σ) (i : Nat) : EnvR K c m H (e.set i Option.none) (σ.set i Option.none) := by
  refine ⟨by simp [r.len], fun j y hj => ?_⟩
  by_cases e1 : i = j
  · subst e1
    have hl : i < e.length := by
      have := (List.getElem?_eq_some_iff.mp hj).1
      simpa using this
    rw [List.getElem?_set_self hl] at hj
    cases hj
  · rw [List.getElem?_set_ne e1] at hj ⊢
    exact r.at_ j y hj
theorem EnvR.wipe {e : Env} {σ : L2.St} (r : EnvR K c m H e σ) : ∀ vs : List Nat, EnvR K c m H (wipe e vs) (L2.wipe σ vs)
  | [] => r
  | v :: vs => (EnvR.wipe r vs).none v

/-! ### what a reading comes to -/
/-- an exception as data -/
inductive RX (K : Frag) (c : Cfg) (m : MM) (H : Hp) : D → Value → Option Addr → Prop
  | own {x : String} {C : Addr} : c.ca x = some C → RX K c m H (.exn x []) (.ref C) Option.none

def Aft {α : Type} (K : Frag) (c : Cfg) (W : WX) (σ : L2.St) (m : MM) (H : Hp) (r : R α) (k : α → Store → MM → Hp → Prop) : Prop := match r with
  | .ok a S' => ∀ m' H', Ext m H m' H' → Sim K c m' H' S' → k a S' m' H'
  | .exc x S' => ∀ m' H' cls dx, Ext m H m' H' → Sim K c m' H' S' → RX K c m' H' x cls dx → W cls dx σ H'
  | .bad => False
theorem Aft.shift {α : Type} {W : WX} {σ : L2.St} {r : R α} {k : α → Store → MM → Hp → Prop} (h : Aft K c W σ m H r k) (e : Ext m H m' H') : Aft K c W σ m' H' r k := by
  cases r with
  | ok a S => exact fun m2 H2 e2 s2 => h m2 H2 (e.trans e2) s2
  | exc x S => exact fun m2 H2 cls dx e2 s2 r2 => h m2 H2 cls dx (e.trans e2) s2 r2
  | bad => exact h
theorem Aft.bind {α β : Type} {W : WX} {σ : L2.St} {r : R α} {f : α → Store → R β} {k : β → Store → MM → Hp → Prop} (h : Aft K c W σ m H (r.bind f) k) :
    Aft K c W σ m H r (fun a S1 m1 H1 => Aft K c W σ m1 H1 (f a S1) k) := by
  cases r with
  | ok a S => exact fun m1 H1 e1 s1 => Aft.shift h e1
  | exc x S => exact h
  | bad => exact h
theorem Aft.imp {α : Type} {W : WX} {σ : L2.St} {r : R α} {k k' : α → Store → MM → Hp → Prop} (h : Aft K c W σ m H r k) (hk : ∀ a S' m' H', Ext m H m' H' → Sim K c m' H' S' → k a S' m' H' → k' a S' m' H') : Aft K c W σ m H r k' := by
  cases r with
  | ok a S => exact fun m1 H1 e1 s1 => hk _ _ _ _ e1 s1 (h m1 H1 e1 s1)
  | exc x S => exact h
  | bad => exact h
theorem Aft.ofO {α : Type} {W : WX} {σ : L2.St} {o : Option α} {S : Store} {k : α → Store → MM → Hp → Prop} (h : Aft K c W σ m H (R.ofO o S) k) (s : Sim K c m H S) : ∃ a, o = some a ∧ k a S m H := by
  cases o with
  | none => exact h.elim
  | some a => exact ⟨a, rfl, h m H .refl s⟩
theorem Aft.now {α : Type} {W : WX} {σ : L2.St} {a : α} {S : Store} {k : α → Store → MM → Hp → Prop} (h : Aft K c W σ m H (.ok a S) k) (s : Sim K c m H S) : k a S m H := h m H .refl s
end

/-- an expression's reading by the evaluator -/
def tE (K : Frag) (c : Cfg) (W : WX) (f : Env → Store → R D) : TE := fun σ H Q => ∃ (e : Env) (m : MM) (S : Store), EnvR K c m H e σ ∧ Sim K c m H S ∧ Aft K c W σ m H (f e S) fun d _ m' H' => ∀ v, RV K c m' H' d v → Q v H'
def tT (K : Frag) (c : Cfg) (W : WX) (f : Env → Store → R D) : TT := fun σ H Q => ∃ (e : Env) (m : MM) (S : Store), EnvR K c m H e σ ∧ Sim K c m H S ∧ Aft K c W σ m H (f e S) fun d S' _ H' => ∃ b, truthA S' d = some b ∧ Q b H'
def tA (K : Frag) (c : Cfg) (W : WX) (f : Env → Store → R (List D)) : TA := fun σ H Q => ∃ (e : Env) (m : MM) (S : Store), EnvR K c m H e σ ∧ Sim K c m H S ∧ Aft K c W σ m H (f e S) fun ds _ m' H' => ∀ vs, RVs K c m' H' ds vs → Q vs H'
theorem PE.imp {X : Cx} {e : Expr} {t t' : TE} (h : PE X e t) (i : ∀ σ H Q, t' σ H Q → t σ H Q) : PE X e t' := ⟨fun pins s σ H Q I q => h.run pins s σ H Q I (i _ _ _ q)⟩
theorem PT.imp {X : Cx} {e : Expr} {t t' : TT} (h : PT X e t) (i : ∀ σ H Q, t' σ H Q → t σ H Q) : PT X e t' := ⟨fun pins s σ H Q I q => h.run pins s σ H Q I (i _ _ _ q)⟩
theorem PA.imp {X : Cx} {e : List Expr} {t t' : TA} (h : PA X e t) (i : ∀ σ H Q, t' σ H Q → t σ H Q) : PA X e t' := ⟨fun p pins s σ H Q I q => h.run p pins s σ H Q I (i _ _ _ q)⟩
theorem PS.imp {X : Cx} {e : Stmt} {t t' : TS} (h : PS X e t) (i : ∀ D σ H, t' D σ H → t D σ H) : PS X e t' := ⟨fun pins s σ H Q I q => h.run pins s σ H Q I (i _ _ _ q)⟩
theorem PSs.imp {X : Cx} {e : List Stmt} {t t' : TS} (h : PSs X e t) (i : ∀ D σ H, t' D σ H → t D σ H) : PSs X e t' := ⟨fun pins s σ H Q I q => h.run pins s σ H Q I (i _ _ _ q)⟩

/-! ### the store grows, is written -/
section
variable {K : Frag} {c : Cfg} {m m' m2 : MM} {H H' H2 : Hp} {S : Store}
theorem Ext.fresh {p : Addr} {o : HO} (hp : H p = none) (s : Sim K c m H S) : Ext m H m (upd H p o) :=
  ⟨⟨[], by simp, by simp⟩, ⟨fun _ h => h, fun _ h => .inl h⟩, fun a u h _ _ => by rw [upd_ne (L2.ne_of_none h hp)]; exact h, fun a h => by
    by_cases e : a = p
    · subst e; exact hp
    · rw [upd_ne e] at h; exact h⟩
theorem upd_some {p a : Addr} {o : HO} (h : H a ≠ none) : upd H p o a ≠ none := by
  by_cases e : a = p
  · subst e; rw [upd_same]; simp
  · rw [upd_ne e]; exact h
/-- a thing that the store doesn't know is made -/
theorem Sim.fresh {p : Addr} {o : HO} (s : Sim K c m H S) (hp : H p = none) : Sim K c m (upd H p o) S := by
  have e := Ext.fresh (o := o) hp s
  refine ⟨s.len, s.nd, fun a ha => ⟨upd_some (s.hid a ha).1, (s.hid a ha).2⟩, fun n ob h => ?_, fun P hP => ?_⟩
  · obtain ⟨a, u, h1, h2, h3⟩ := s.obj n ob h
    refine ⟨a, u, h1, by rw [upd_ne (L2.ne_of_none h2 hp)]; exact h2, ?_⟩
    cases h3 with
    | lst h3 => exact .lst (h3.mono s e)
    | dic hl nd h3 => exact .dic hl nd (h3.mono s e)
  · obtain ⟨ps, h1, h2⟩ := s.tab P hP
    exact ⟨ps, by rw [upd_ne (L2.ne_of_none h1 hp)]; exact h1, h2⟩
theorem RV.newWtp {p : Addr} {ds : List D} {vs : List V} (s : Sim K c m H S) (hp : H p = none) (r : RVs K c m H ds vs) : RV K c m (upd H p (.tup vs)) (.wtp ds) (.ref p) :=
  .wtp (SqT.of upd_same) (r.mono s (Ext.fresh hp s))
theorem RV.newTup {p : Addr} {us : List Value} {ds : List D} {vs : List V} (s : Sim K c m H S) (hp : H p = none) (r : RVs K c m H ds vs) : RV K c m (upd H p (.frz (tupO us) (.tup vs))) (.tup ds) (.ref p) :=
  .tup (.inl ⟨_, upd_same, rfl⟩) (r.mono s (Ext.fresh hp s))
theorem Sim.none_out (s : Sim K c m H S) {p : Addr} (hp : H p = none) : p ∉ m.ix ∧ p ∉ m.hid :=
  ⟨(fun h => by
    obtain ⟨o, u, h2, _⟩ := s.mem h
    rw [hp] at h2
    cases h2), fun h => (s.hid p h).1 hp⟩
theorem RV.newLst {p : Addr} {ds : List D} {vs : List V} (s : Sim K c m H S) (hp : H p = none) (r : RVs K c m H ds vs) : RV K c m (upd H p (.lst vs)) (.lst ds) (.ref p) :=
  .lst (.inl ⟨.inl upd_same, s.none_out hp⟩) (r.mono s (Ext.fresh hp s))
/-- a list is put into the store -/
theorem Sim.push {p : Addr} {ds : List D} {vs : List V} (s : Sim K c m H S) (hp : H p = none) (r : RVs K c m H ds vs) : Ext m H ⟨m.ix ++ [p], m.hid⟩ (upd H p (.lst vs)) ∧ Sim K c ⟨m.ix ++ [p], m.hid⟩ (upd H p (.lst vs)) (S ++ [.lst ds]) := by
  obtain ⟨hpm, hph⟩ := s.none_out hp
  have e : Ext m H ⟨m.ix ++ [p], m.hid⟩ (upd H p (.lst vs)) := ⟨⟨[p], rfl, by simpa using hp⟩, ⟨fun _ h => h, fun _ h => .inl h⟩, fun a u h _ _ => by rw [upd_ne (L2.ne_of_none h hp)]; exact h, fun a h => by
    by_cases e : a = p
    · subst e; exact hp
    · rw [upd_ne e] at h; exact h⟩
  refine ⟨e, by simp [s.len], ?_, fun a ha => ⟨upd_some (s.hid a ha).1, fun h => ?_⟩, fun n o h => ?_, fun P hP => ?_⟩
  · rw [List.nodup_append]
    exact ⟨s.nd, by simp, fun a ha b hb => by
      have : b = p := by simpa using hb
      subst this
      exact fun z => hpm (z ▸ ha)⟩
  · rcases List.mem_append.mp h with h | h
    · exact (s.hid a ha).2 h
    · have : a = p := by simpa using h
      subst this
      exact hph ha
  · by_cases hn : n < S.length
    · rw [List.getElem?_append_left hn] at h
      obtain ⟨a, u, h1, h2, h3⟩ := s.obj n o h
      refine ⟨a, u, ?_, by rw [upd_ne (L2.ne_of_none h2 hp)]; exact h2, ?_⟩
      · show (m.ix ++ [p])[n]? = some a
        rw [List.getElem?_append_left (by rw [s.len]; exact hn)]
        exact h1
      · cases h3 with
        | lst h3 => exact .lst (h3.mono s e)
        | dic hl nd h3 => exact .dic hl nd (h3.mono s e)
    · have hn2 : n = S.length := by
        have := (List.getElem?_eq_some_iff.mp h).1
        simp at this
        omega
      subst hn2
      rw [List.getElem?_append_right (Nat.le_refl _)] at h
      simp at h
      subst h
      refine ⟨p, _, ?_, upd_same, .lst (r.mono s e)⟩
      show (m.ix ++ [p])[S.length]? = some p
      rw [List.getElem?_append_right (by rw [s.len]; exact Nat.le_refl _), s.len]
      simp
  · obtain ⟨ps, h1, h2⟩ := s.tab P hP
    exact ⟨ps, by rw [upd_ne (L2.ne_of_none h1 hp)]; exact h1, h2⟩
/-- a list of the store is written -/
theorem Sim.writeO {n : Nat} {a : Addr} {o0 o1 : O} {u0 u1 : HO} (s : Sim K c m H S) (hn : S[n]? = some o0) (ha : m.ix[n]? = some a) (hH : H a = some u0) (hu : ∀ ps, u0 ≠ .tbl ps) (r : RO K c m H o1 u1) :
    Ext m H m (upd H a u1) ∧ Sim K c m (upd H a u1) (S.set n o1) := by
  have e : Ext m H m (upd H a u1) := ⟨⟨[], by simp, by simp⟩, ⟨fun _ h => h, fun _ h => .inl h⟩, fun b u h hb _ => by
      rw [upd_ne (fun z => hb (by rw [z]; exact List.mem_of_getElem? ha))]; exact h, fun b h => by
    by_cases e : b = a
    · subst e; rw [upd_same] at h; cases h
    · rw [upd_ne e] at h; exact h⟩
  refine ⟨e, by simp [s.len], s.nd, fun a ha => ⟨upd_some (s.hid a ha).1, (s.hid a ha).2⟩, fun k o h => ?_, fun P hP => ?_⟩
  · by_cases hk : n = k
    · subst hk
      have hl : n < S.length := (List.getElem?_eq_some_iff.mp hn).1
      rw [List.getElem?_set_self hl] at h
      cases h
      exact ⟨a, _, ha, upd_same, r.mono s e⟩
    · rw [List.getElem?_set_ne hk] at h
      obtain ⟨b, u, h1, h2, h3⟩ := s.obj k o h
      have hb : b ≠ a := fun z => by
        subst z
        obtain ⟨l1, q1⟩ := List.getElem?_eq_some_iff.mp ha
        obtain ⟨l2, q2⟩ := List.getElem?_eq_some_iff.mp h1
        exact hk ((List.getElem_inj s.nd).mp (q1.trans q2.symm))
      refine ⟨b, u, h1, by rw [upd_ne hb]; exact h2, ?_⟩
      cases h3 with
      | lst h3 => exact .lst (h3.mono s e)
      | dic hl nd h3 => exact .dic hl nd (h3.mono s e)
  · obtain ⟨ps, h1, h2⟩ := s.tab P hP
    refine ⟨ps, ?_, h2⟩
    rw [upd_ne (fun z => by
      rw [← z, h1] at hH
      exact hu ps (Option.some.inj hH).symm)]
    exact h1
theorem Sim.write {n : Nat} {a : Addr} {ds es : List D} {vs us : List V} (s : Sim K c m H S) (hn : S[n]? = some (.lst ds)) (ha : m.ix[n]? = some a) (hH : H a = some (.lst vs)) (r : RVs K c m H es us) :
    Ext m H m (upd H a (.lst us)) ∧ Sim K c m (upd H a (.lst us)) (S.set n (.lst es)) := s.writeO hn ha hH (fun ps z => by cases z) (.lst r)
/-- mkL at a new place -/
theorem mkL_new {W : WX} {σ : L2.St} {v : Bool} {ds : List D} {vs : List V} {Q : VK} (s : Sim K c m H S) (r : RVs K c m H ds vs) (h : Aft K c W σ m H (mkL v ds S) fun d _ m' H' => ∀ v, RV K c m' H' d v → Q v H') :
    vs.length ≤ sizeLine ∧ ∀ p, H p = none → Q (.ref p) (upd H p (.lst vs)) := by
  unfold mkL at h
  split at h
  · rename_i hz
    refine ⟨by rw [← r.length]; exact hz, fun p hp => ?_⟩
    cases v with
    | true => exact h m _ (Ext.fresh hp s) (s.fresh hp) _ (RV.newLst s hp r)
    | false =>
      obtain ⟨e, s'⟩ := s.push hp r
      refine h _ _ e s' _ (.ref ?_)
      show (m.ix ++ [p])[S.length]? = some p
      rw [List.getElem?_append_right (by rw [s.len]; exact Nat.le_refl _), s.len]
      simp
  · exact h.elim

/-! ### hiding -/
abbrev MM.hide (m : MM) (B : Addr) : MM := ⟨m.ix, B :: m.hid⟩
mutual
theorem RV.unhide {h' : List Addr} (hh : ∀ b ∈ h', b ∈ m.hid) : ∀ {d : D} {v : V}, RV K c m H d v → RV K c ⟨m.ix, h'⟩ H d v
  | _, _, .non => .non
  | _, _, .bl b => .bl b
  | _, _, .int i => .int i
  | _, _, .str x => .str x
  | _, _, .tup h t => .tup h (RVs.unhide hh t)
  | _, _, .wtp h t => .wtp h (RVs.unhide hh t)
  | _, _, .lst h t => .lst (by
    rcases h with ⟨h1, h2, h3⟩ | h
    · exact .inl ⟨h1, h2, fun z => h3 (hh _ z)⟩
    · exact .inr h) (RVs.unhide hh t)
  | _, _, .ref h => .ref h
  | _, _, .fn h => .fn h
  | _, _, .cls h => .cls h
  | _, _, .ty n => .ty n
  | _, _, .exn h1 h2 => .exn h1 h2
theorem RVs.unhide {h' : List Addr} (hh : ∀ b ∈ h', b ∈ m.hid) : ∀ {ds : List D} {vs : List V}, RVs K c m H ds vs → RVs K c ⟨m.ix, h'⟩ H ds vs
  | _, _, .nil => .nil
  | _, _, .cons h t => .cons (RV.unhide hh h) (RVs.unhide hh t)
end
mutual
/-- what is hidden changes -/
theorem RV.other {B : Addr} {o : HO} (hm : B ∈ m.hid) (hT : ∀ vs, H B ≠ some (.tup vs) ∧ ∀ o', H B ≠ some (.frz o' (.tup vs))) (hX : ∀ φ, H B ≠ some (.ext φ)) : ∀ {d : D} {v : V}, RV K c m H d v → RV K c m (upd H B o) d v
  | _, _, .non => .non
  | _, _, .bl b => .bl b
  | _, _, .int i => .int i
  | _, _, .str x => .str x
  | _, _, .tup h t => .tup (by
    rcases h with ⟨o', h, hd⟩ | h
    · exact .inl ⟨o', by rw [upd_ne (fun z => (hT _).2 o' (by rw [← z]; exact h))]; exact h, hd⟩
    · exact .inr h) (RVs.other hm hT hX t)
  | _, _, .wtp h t => .wtp (by
    rcases h with (h | ⟨o', h⟩) | h
    · exact .inl (.inl (by rw [upd_ne (fun z => (hT _).1 (by rw [← z]; exact h))]; exact h))
    · exact .inl (.inr ⟨o', by rw [upd_ne (fun z => (hT _).2 o' (by rw [← z]; exact h))]; exact h⟩)
    · exact .inr h) (RVs.other hm hT hX t)
  | _, _, .lst (a := a) h t => .lst (by
    rcases h with ⟨h1, h2, h3⟩ | h
    · have ne : a ≠ B := fun z => h3 (by rw [z]; exact hm)
      refine .inl ⟨?_, h2, h3⟩
      rcases h1 with h1 | ⟨o', h1⟩
      · exact .inl (by rw [upd_ne ne]; exact h1)
      · exact .inr ⟨o', by rw [upd_ne ne]; exact h1⟩
    · exact .inr h) (RVs.other hm hT hX t)
  | _, _, .ref h => .ref h
  | _, _, .fn h => .fn h
  | _, _, .cls h => .cls h
  | _, _, .ty n => .ty n
  | _, _, .exn h1 h2 => .exn h1 (by rw [upd_ne fun z => hX _ (by rw [← z]; exact h2)]; exact h2)
theorem RVs.other {B : Addr} {o : HO} (hm : B ∈ m.hid) (hT : ∀ vs, H B ≠ some (.tup vs) ∧ ∀ o', H B ≠ some (.frz o' (.tup vs))) (hX : ∀ φ, H B ≠ some (.ext φ)) : ∀ {ds : List D} {vs : List V}, RVs K c m H ds vs → RVs K c m (upd H B o) ds vs
  | _, _, .nil => .nil
  | _, _, .cons h t => .cons (RV.other hm hT hX h) (RVs.other hm hT hX t)
end
theorem Sim.unhide {h' : List Addr} (hh : ∀ b ∈ h', b ∈ m.hid) (s : Sim K c m H S) : Sim K c ⟨m.ix, h'⟩ H S := by
  refine ⟨s.len, s.nd, fun a ha => s.hid a (hh a ha), fun n o h => ?_, s.tab⟩
  obtain ⟨a, u, h1, h2, h3⟩ := s.obj n o h
  refine ⟨a, u, h1, h2, ?_⟩
  cases h3 with
  | lst h3 => exact .lst (h3.unhide hh)
  | dic hl nd h3 => exact .dic hl nd (h3.unhide hh)
/-- B is made, and not told -/
theorem Sim.tohide {B : Addr} {o : HO} (s : Sim K c m H S) (hB : H B = none) : Ext m H (m.hide B) (upd H B o) ∧ Sim K c (m.hide B) (upd H B o) S := by
  have e : Ext m H (m.hide B) (upd H B o) := ⟨⟨[], by simp, by simp⟩, ⟨fun b h => List.mem_cons_of_mem _ h, fun b h => by
      rcases List.mem_cons.mp h with h | h
      · exact .inr (by rw [h]; exact hB)
      · exact .inl h⟩, fun a u h _ _ => by rw [upd_ne (L2.ne_of_none h hB)]; exact h, fun a h => by
    by_cases e : a = B
    · subst e; exact hB
    · rw [upd_ne e] at h; exact h⟩
  refine ⟨e, s.len, s.nd, fun a ha => ?_, fun n ob h => ?_, fun P hP => ?_⟩
  · rcases List.mem_cons.mp ha with z | z
    · rw [z, upd_same]
      exact ⟨by simp, (s.none_out hB).1⟩
    · exact ⟨upd_some (s.hid a z).1, (s.hid a z).2⟩
  · obtain ⟨a, u, h1, h2, h3⟩ := s.obj n ob h
    refine ⟨a, u, h1, by rw [upd_ne (L2.ne_of_none h2 hB)]; exact h2, ?_⟩
    cases h3 with
    | lst h3 => exact .lst (h3.mono s e)
    | dic hl nd h3 => exact .dic hl nd (h3.mono s e)
  · obtain ⟨ps, h1, h2⟩ := s.tab P hP
    exact ⟨ps, by rw [upd_ne (L2.ne_of_none h1 hB)]; exact h1, h2⟩
theorem Sim.other {B : Addr} {o : HO} {vs : List V} (s : Sim K c m H S) (hm : B ∈ m.hid) (hB : H B = some (.lst vs)) : Sim K c m (upd H B o) S := by
  have hT : ∀ vs, H B ≠ some (.tup vs) ∧ ∀ o', H B ≠ some (.frz o' (.tup vs)) := fun us => ⟨by rw [hB]; simp, fun o' => by rw [hB]; simp⟩
  refine ⟨s.len, s.nd, fun a ha => ⟨upd_some (s.hid a ha).1, (s.hid a ha).2⟩, fun n ob h => ?_, fun P hP => ?_⟩
  · obtain ⟨a, u, h1, h2, h3⟩ := s.obj n ob h
    have ne : a ≠ B := fun z => (s.hid B hm).2 (by rw [← z]; exact List.mem_of_getElem? h1)
    refine ⟨a, u, h1, by rw [upd_ne ne]; exact h2, ?_⟩
    cases h3 with
    | lst h3 => exact .lst (h3.other hm hT (fun φ => by rw [hB]; simp))
    | dic hl nd h3 => exact .dic hl nd (h3.other hm hT (fun φ => by rw [hB]; simp))
  · obtain ⟨ps, h1, h2⟩ := s.tab P hP
    refine ⟨ps, ?_, h2⟩
    rw [upd_ne (fun z => by rw [← z, h1] at hB; cases hB)]
    exact h1
theorem Sim.otherD {B : Addr} {o : HO} {vs : List (L2.Key × V)} (s : Sim K c m H S) (hm : B ∈ m.hid) (hB : H B = some (.dK vs)) : Sim K c m (upd H B o) S := by
  have hT : ∀ vs, H B ≠ some (.tup vs) ∧ ∀ o', H B ≠ some (.frz o' (.tup vs)) := fun us => ⟨by rw [hB]; simp, fun o' => by rw [hB]; simp⟩
  refine ⟨s.len, s.nd, fun a ha => ⟨upd_some (s.hid a ha).1, (s.hid a ha).2⟩, fun n ob h => ?_, fun P hP => ?_⟩
  · obtain ⟨a, u, h1, h2, h3⟩ := s.obj n ob h
    have ne : a ≠ B := fun z => (s.hid B hm).2 (by rw [← z]; exact List.mem_of_getElem? h1)
    refine ⟨a, u, h1, by rw [upd_ne ne]; exact h2, ?_⟩
    cases h3 with
    | lst h3 => exact .lst (h3.other hm hT (fun φ => by rw [hB]; simp))
    | dic hl nd h3 => exact .dic hl nd (h3.other hm hT (fun φ => by rw [hB]; simp))
  · obtain ⟨ps, h1, h2⟩ := s.tab P hP
    refine ⟨ps, ?_, h2⟩
    rw [upd_ne (fun z => by rw [← z, h1] at hB; cases hB)]
    exact h1
mutual
/-- B is told as a thing of the store -/
theorem RV.adopt {B : Addr} {h' : List Addr} (hm : B ∈ m.hid) (hh : ∀ b ∈ h', b ∈ m.hid) : ∀ {d : D} {v : V}, RV K c m H d v → RV K c ⟨m.ix ++ [B], h'⟩ H d v
  | _, _, .non => .non
  | _, _, .bl b => .bl b
  | _, _, .int i => .int i
  | _, _, .str x => .str x
  | _, _, .tup h t => .tup h (RVs.adopt hm hh t)
  | _, _, .wtp h t => .wtp h (RVs.adopt hm hh t)
  | _, _, .lst h t => .lst (by
    rcases h with ⟨h1, h2, h3⟩ | h
    · refine .inl ⟨h1, fun z => ?_, fun z => h3 (hh _ z)⟩
      rcases List.mem_append.mp z with z | z
      · exact h2 z
      · have e := List.mem_singleton.mp z
        exact h3 (e ▸ hm)
    · exact .inr h) (RVs.adopt hm hh t)
  | _, _, .ref h => .ref (by
    show (m.ix ++ [B])[_]? = _
    rw [List.getElem?_append_left (List.getElem?_eq_some_iff.mp h).1]
    exact h)
  | _, _, .fn h => .fn h
  | _, _, .cls h => .cls h
  | _, _, .ty n => .ty n
  | _, _, .exn h1 h2 => .exn h1 h2
theorem RVs.adopt {B : Addr} {h' : List Addr} (hm : B ∈ m.hid) (hh : ∀ b ∈ h', b ∈ m.hid) : ∀ {ds : List D} {vs : List V}, RVs K c m H ds vs → RVs K c ⟨m.ix ++ [B], h'⟩ H ds vs
  | _, _, .nil => .nil
  | _, _, .cons h t => .cons (RV.adopt hm hh h) (RVs.adopt hm hh t)
end
theorem Sim.adoptO {B : Addr} {h' : List Addr} {ob : O} {u : HO} (s : Sim K c m H S) (hm : B ∈ m.hid) (hh : ∀ b ∈ h', b ∈ m.hid) (hn : B ∉ h') (hB : H B = some u) (r : RO K c ⟨m.ix ++ [B], h'⟩ H ob u) : Sim K c ⟨m.ix ++ [B], h'⟩ H (S ++ [ob]) := by
  have hpm : B ∉ m.ix := (s.hid B hm).2
  refine ⟨by simp [s.len], ?_, fun a ha => ⟨(s.hid a (hh a ha)).1, fun h => ?_⟩, fun n o h => ?_, s.tab⟩
  · show (m.ix ++ [B]).Nodup
    rw [List.nodup_append]
    exact ⟨s.nd, by simp, fun a ha b hb => by
      have : b = B := by simpa using hb
      subst this
      exact fun z => hpm (z ▸ ha)⟩
  · rcases List.mem_append.mp h with h | h
    · exact (s.hid a (hh a ha)).2 h
    · have : a = B := by simpa using h
      subst this
      exact hn ha
  · by_cases hn : n < S.length
    · rw [List.getElem?_append_left hn] at h
      obtain ⟨a, u, h1, h2, h3⟩ := s.obj n o h
      refine ⟨a, u, ?_, h2, ?_⟩
      · show (m.ix ++ [B])[n]? = some a
        rw [List.getElem?_append_left (by rw [s.len]; exact hn)]
        exact h1
      · cases h3 with
        | lst h3 => exact .lst (h3.adopt hm hh)
        | dic hl nd h3 => exact .dic hl nd (h3.adopt hm hh)
    · have hn2 : n = S.length := by
        have := (List.getElem?_eq_some_iff.mp h).1
        simp at this
        omega
      subst hn2
      rw [List.getElem?_append_right (Nat.le_refl _)] at h
      simp at h
      subst h
      refine ⟨B, _, ?_, hB, r⟩
      show (m.ix ++ [B])[S.length]? = some B
      rw [List.getElem?_append_right (by rw [s.len]; exact Nat.le_refl _), s.len]
      simp
theorem Sim.adopt {B : Addr} {h' : List Addr} {ds : List D} {vs : List V} (s : Sim K c m H S) (hm : B ∈ m.hid) (hh : ∀ b ∈ h', b ∈ m.hid) (hn : B ∉ h') (hB : H B = some (.lst vs)) (r : RVs K c m H ds vs) : Sim K c ⟨m.ix ++ [B], h'⟩ H (S ++ [.lst ds]) :=
  s.adoptO hm hh hn hB (.lst (r.adopt hm hh))
theorem Ext.other {B : Addr} {o : HO} (e : Ext m H m' H') (hB : H B = none) (h' : H' B ≠ none) : Ext m H m' (upd H' B o) :=
  ⟨e.pre, e.hid, fun a u h hm ht => by
    rw [upd_ne (L2.ne_of_none h hB)]
    exact e.keep a u h hm ht, fun a h => by
    by_cases e1 : a = B
    · subst e1; exact hB
    · rw [upd_ne e1] at h; exact e.stay a h⟩
theorem Aft.nox {α : Type} {W W' : WX} {σ σ' : L2.St} {r : R α} {k : α → Store → MM → Hp → Prop} (h : Aft K c W σ m H r.nox k) : Aft K c W' σ' m H r k := by
  cases r with
  | ok a S => exact h
  | exc x S => exact h.elim
  | bad => exact h
theorem Aft.if_ {α : Type} {W : WX} {σ : L2.St} {p : Prop} [Decidable p] {r : R α} {k : α → Store → MM → Hp → Prop} (h : Aft K c W σ m H (if p then r else .bad) k) : p ∧ Aft K c W σ m H r k := by
  split at h
  · rename_i hp
    exact ⟨hp, h⟩
  · exact h.elim
theorem Aft.bind0 {α β : Type} {W : WX} {σ : L2.St} {r : R α} {f : α → Store → R β} {k : β → Store → MM → Hp → Prop} (h : Aft K c W σ m H (r.bind f) k) :
    Aft K c W σ m H r (fun a S1 _ _ => Aft K c W σ m H (f a S1) k) := by
  cases r with
  | ok a S => exact fun m1 H1 e1 s1 => h
  | exc x S => exact h
  | bad => exact h
end
end Mn

/-! MnF: what a def promises where no guard is up; repr of data. -/
namespace Mn
open PySem PySem.Spec PyProof.Rows
open L2 (V Hp HO Cx SqL SqT Rd St VK WX XK TE TA TS TT TG TI PE PA PS PSs PT PG PI Ends upd upd_same upd_ne OpR R2 Inv Dp DpAll UnR CallR Walk CXT Sp Room Env0 Vals)

structure FnG (P : Program) (w : World) (K : Frag) (mg : Str → Option Value) (base : Heap) (CX : CXT) (k : Nat) (f : Addr) (fd : FuncData) (ps : List Str) (sp : Sp) : Prop where
  len : ∀ vs H Q E, sp vs H Q E → vs.length = ps.length
  run : ∀ (A : Around) (outer : List PySem.Env) (s : Shared) (H : Hp) (args : Args) (us : List Value) (vs : List V) (Q : VK) (E : XK), Room k A → A.guards = some [] → Env0 P w K mg base A outer s H → BindsTo s fd args (ps.zip us) → Vals vs us → sp vs H Q E →
    codeAny (model P w) A (.call (.ref f) args) (L2.CR CX outer P w H s Q E) s
section
variable {P : Program} {w : World} {K : Frag} {mg : Str → Option Value} {base : Heap} {CX : CXT} {k : Nat} {f : Addr} {fd : FuncData} {ps : List Str} {sp sp' : Sp}
theorem FnG.mono {j : Nat} (F : FnG P w K mg base CX j f fd ps sp) (h : j ≤ k) : FnG P w K mg base CX k f fd ps sp :=
  ⟨F.len, fun A outer s H args us vs Q E hr => F.run A outer s H args us vs Q E (hr.mono h)⟩
theorem FnG.imp (F : FnG P w K mg base CX k f fd ps sp) (h : ∀ vs H Q E, sp' vs H Q E → sp vs H Q E) : FnG P w K mg base CX k f fd ps sp' :=
  ⟨fun vs H Q E q => F.len vs H Q E (h _ _ _ _ q), fun A outer s H args us vs Q E hr hg he hb hv hs => F.run A outer s H args us vs Q E hr hg he hb hv (h _ _ _ _ hs)⟩
/-- a def, by its body, run where no guard is up -/
theorem fnG_of {name qual : Str} {params : Arguments} {body : List Stmt} {scope : Scope} {dV kV doc pm cdv ct oc : Value} {an od : Option Addr}
    {osl : Array (Option Value)} {N : List Str} (lk : K.lookup f = some ⟨oc, od, .func (PySem.W.fnOf name qual params body scope dV kV doc pm an cdv ct), osl⟩) (hcd : PySem.W.codeIn K cdv qual = true) (S : L2.FnScope N ps scope)
    (len : ∀ vs H Q E, sp vs H Q E → vs.length = ps.length)
    (hbody : ∀ (A : Around) (outer : List PySem.Env) (s : Shared) (H : Hp) (vs : List V) (Q : VK) (E : XK), Room k (A.deeper (envOfC qual scope s.heap.objs.size f cdv)) → A.guards = some [] → sp vs H Q E →
      ∃ t, PSs (L2.cxOf CX P w K mg base N qual scope f cdv A outer s H E) body t ∧ t { nx := fun _ H' => Q .non H', rt := Q } (L2.start N vs) H) :
    FnG P w K mg base CX (k + 1) f (PySem.W.fnOf name qual params body scope dV kV doc pm an cdv ct) ps sp := by
  constructor
  · exact len
  intro A outer s H args us vs Q E hr hgd e0 hb r hsp
  have old : ∀ b o, base.get? b = some o → s.heap.get? b = some o := fun b o e => (e0.bs b o e).1
  have kin : K.In s.heap := e0.mod.kin.keeps old
  refine codeAny_call_function hr.depth (kin _ _ lk) rfl S.co S.gen rfl (PySem.W.codeRec_of kin hcd) (hb _ _ _ _ ?_)
  refine wpAny_newFunctionEnv_cells S.kind ?_ fun env he s1 x => ?_
  · rintro ⟨n, v⟩ hy
    have q := S.par n (List.of_mem_zip hy).1
    exact q.imp id fun q => ⟨q, PySem.W.cellsFrom_some _ _ _ (.inl q)⟩
  subst he
  obtain ⟨t, ht, hq⟩ := hbody A outer s H vs Q E (hr.deeper _) hgd hsp
  have I := L2.inv_start (CX := CX) (cd := cdv) (f := f) (qual := qual) (E := E) S hr.hd e0 (len _ _ _ _ hsp) r x
  refine ⟨(e0.mod.nolimit.keeps old).keeps x.toInCall.keep, codeAny_func (wpAny_mono (ht.run [] s1 (L2.start N vs) H _ I hq) ?_ fun _ _ hs => hs)⟩
  intro fl s' hs
  cases fl with
  | ret u =>
    obtain ⟨v, σ', H', J, rv, q⟩ := hs
    exact ⟨v, H', J.os, J.bare, J.base, J.hok, rv, q⟩
  | next =>
    obtain ⟨σ', H', J, q⟩ := hs
    exact ⟨.non, H', J.os, J.bare, J.base, J.hok, rfl, q⟩
  | brk =>
    obtain ⟨_, _, _, q⟩ := hs
    exact q.elim
  | cont =>
    obtain ⟨_, _, _, q⟩ := hs
    exact q.elim
end
section
variable {X : Cx} {CX : CXT} {k : Nat} {f C : Addr} {fd : FuncData} {ps : List Str} {sp : Sp} {E : L2.St → XK} {x : Str} {p pos : Pos} {e : Expr} {es : List Expr} {t : TA}
theorem runG {pins : List (Addr × Obj)} {σ : L2.St} {H : Hp} {s : Shared} {Q : VK} {us : List Value} {vs : List V} (F : FnG X.prog X.w X.K X.mg X.base CX k f fd ps sp) (hr : Room k X.A) (hgd : X.A.guards = some []) (hb : L2.Binds X.K fd ps []) (hx : L2.PassesAt CX X σ (E σ))
    (I : Inv X pins σ H s) (r : Vals vs us) (h : sp vs H Q (E σ)) : wpAny (model X.prog X.w) X.A (call (.ref f) us) (L2.EP X pins σ Q) X.xe s := by
  have b := hb s us I.kIn
  simp only [List.append_nil] at b
  refine wpAny_call (codeAny_mono (F.run X.A X.stack s H ⟨us, []⟩ us vs Q (E σ) hr hgd I.env0 (b (r.length.symm.trans (F.len _ _ _ _ h))) r h) ?_)
  intro r s' hq
  cases r with
  | error e => exact hx pins H s e s' I hq
  | ok fl => cases fl <;> first | exact I.after hq | exact hq.elim
theorem pe_callG (F : FnG X.prog X.w X.K X.mg X.base CX k f fd ps sp) (hr : Room k X.A) (hgd : X.A.guards = some []) (hg : L2.Gl X x) (hm : X.mg x = some (.ref f)) (hk : PySem.W.keepIn X.K (.ref f) = true) (hb : L2.Binds X.K fd ps []) (hx : ∀ σ, L2.PassesAt CX X σ (E σ))
    (ha : PA X (e :: es) t) (hdb : (x == ("__debug__" : Str)) = false) (he : starEach (e :: es) X.env = (false, eval e X.env) :: starEach es X.env) (hpl : (backTo pos (starEach es X.env)).any (·.1) = false) :
    PE X (.Call (.Name x p) (e :: es) [] pos) (L2.tCallS sp E t) := by
  constructor
  intro pins s σ H Q I h
  refine wpAny_Call_Name_kw (L2.ld_glob I hg hm ?_ hdb)
  exact PySem.W.callWith_K (h₀ := X.base) I.ok.mod.kin hk (L2.thn (ha.run pos pins s σ H _ I h) fun us s1 ⟨vs, H1, I1, r, q⟩ => ⟨I1.kIn, runG F hr hgd hb (hx σ) I1 r q⟩) he hpl

/-! ### repr of data -/
def rRepr (K : Frag) : List V → Hp → VK → Prop := fun xs H Q => ∃ (a : Addr) (d : PyData), xs = [.ref a] ∧ Dp K H (.ref a) d ∧ d.showable = true ∧ d.hasDict = false ∧ d.shown.length ≤ sizeLine ∧ d.depth ≤ 64 ∧ Q (.str d.shown) H
theorem cr_repr (hgd : X.A.guards = some []) (hu : X.A.units + 65 < cLine) : CallR X (.builtin "repr") (rRepr X.K) := by
  intro pins s σ H xs us Q I r h
  obtain ⟨a, d, rfl, hd, h1, h2, h3, h4, q⟩ := h
  obtain ⟨u, rfl, ru⟩ := L2.vals1 r
  cases ru
  obtain ⟨as, rd⟩ := Dp.reads I d _ _ hd rfl
  exact repr_of_reads' rd h1 (fun z => by rw [h2] at z; cases z) hgd (by omega) (fun _ _ e => e) (fun h' u tk hk => ⟨.str d.shown, H, I.kept hk, ⟨u, rfl⟩, q⟩) h3
/-! ### max(.., default=d) -/
def rMaxDf (K : Frag) : List V → List V → Hp → VK → Prop := fun xs zs H Q => ∃ (a : Addr) (ns : List Int) (d : Int), xs = [.ref a] ∧ zs = [.int d] ∧ SqL K H a (ns.map V.int) ∧ Q (.int (maxOf d ns)) H
theorem dp_ints {K : Frag} {H : Hp} : ∀ ns : List Int, DpAll K H (ns.map V.int) (ns.map PyData.int)
  | [] => .nil
  | n :: r => .cons (.int n) (dp_ints r)
theorem depth_ints : ∀ ns : List Int, PyData.depthAll (ns.map PyData.int) ≤ 1
  | [] => by simp [PyData.depthAll]
  | n :: r => by
    have := depth_ints r
    simp only [List.map_cons, PyData.depthAll, PyData.depth]
    omega
theorem cr_maxDf (hc : X.calm = true) (hu : X.A.units + 65 < cLine) : L2.CallRK X (.builtin "max") [Str.ofString "default"] (rMaxDf X.K) := by
  intro pins s σ H xs zs us ws Q I r r2 h
  obtain ⟨a, ns, d, rfl, rfl, hs, q⟩ := h
  obtain ⟨its, rv, hl, _⟩ := I.list hs
  obtain ⟨as, rd⟩ := Dp.readsAll I _ _ _ (dp_ints ns) rv
  obtain ⟨w, rfl, t, rfl⟩ := L2.vals1 r2
  rw [L2.Vals.ref1 r]
  refine PySem.W.max_list_default (I.ok.hd hc) hl.isList rd ⟨fun x hx y hy => ?_, fun x hx => ?_⟩ (by have := depth_ints ns; omega) (fun e h' tk hk => ?_) (fun y ys i v h' tk bs e _ rv' hk => ?_)
  · obtain ⟨n, _, rfl⟩ := List.mem_map.mp hx
    obtain ⟨k, _, rfl⟩ := List.mem_map.mp hy
    rfl
  · obtain ⟨n, _, rfl⟩ := List.mem_map.mp hx
    exact fun z => by cases z
  · cases ns with
    | nil => exact ⟨.int d, H, I.kept hk, ⟨t, rfl⟩, q⟩
    | cons n r => cases e
  · cases ns with
    | nil => cases e
    | cons n r =>
      cases e
      rw [PySem.W.maxD_ints] at rv'
      cases rv'
      exact ⟨.int _, H, I.kept hk, ⟨_, rfl⟩, q⟩
end
end Mn

/-! Mn3: the layer's rules for single expressions, by the evaluator. -/
namespace Mn
open PySem PySem.Spec PyProof.Rows
open L2 (V Hp HO Cx SqL SqT Rd St VK WX XK TE TA TS TT TG PE PA PS PSs PT PG Ends upd upd_same upd_ne OpR R2 Inv)

/-! ### rules that the layer lacks -/
section
variable {X : Cx}
/-- list + list, of any kind of list -/
def rCatL (K : Frag) : R2 := fun x y H Q => ∃ l b xs zs, x = .ref l ∧ y = .ref b ∧ SqL K H l xs ∧ SqL K H b zs ∧ xs.length + zs.length ≤ sizeLine ∧ ∀ p, H p = none → Q (.ref p) (upd H p (.lst (xs ++ zs)))
theorem op_catL : OpR X (binaryOp .Add) (rCatL X.K) := by
  intro pins s σ H x y v u Q I rx ry h
  obtain ⟨l, b, xs, zs, rfl, rfl, hH, hB, hz, q⟩ := h
  cases rx
  cases ry
  obtain ⟨its, r, pl, z⟩ := I.list hH
  obtain ⟨its2, r2, pl2, z2⟩ := I.list hB
  obtain ⟨⟨cls, dd, data, sl⟩, ho, hc, n, hd⟩ := id pl.isList
  obtain ⟨⟨cls2, dd2, data2, sl2⟩, ho2, hc2, n2, hd2⟩ := id pl2.isList
  simp only at hc hd hc2 hd2
  subst hc hd hc2 hd2
  have e : its.toArray ++ its2.toArray = (its ++ its2).toArray := by simp
  refine concat_meets ⟨_, ho, rfl⟩ ⟨_, ho2, rfl⟩ noFill_list_add seq_list_add PySem.F.slot_list_add PySem.F.entry_list_add (PySem.F.args_list_add_2 _ _) (list_addW l b its.toArray its2.toArray n n2 dd dd2 sl sl2 ?_) ⟨ho, ho2, ?_⟩
  · rw [List.size_toArray, List.size_toArray, ← r.length, ← r2.length]
    exact hz
  · rw [e]
    exact ⟨.ref _, _, I.lnew (t' := s.toks) (r.append r2) (by rw [List.length_append]; omega), rfl, q _ I.fresh⟩
end

/-- tuple * int: by nothing, or by one, it is the tuple itself -/
theorem tuple_mul1 (l : Addr) (items : Array Value) (n : Nat) (dd : Option Addr) (sl : Array (Option Value)) (x : Int) (u : Tok) (c0 : (decide (x < -(2 ^ 63)) || decide (x ≥ 2 ^ 63)) = false) (c1 : (items.isEmpty || x == 1) = true) :
    Meets (Builtin.«tuple.__mul__» ⟨[.ref l, .int x u], []⟩) (fun _ R s => s.heap.get? l = some { cls := .type "tuple", dict := dd, data := .seq items n, slots := sl } ∧
      R (.ok (.ret (Value.ref l))) { s with heap := s.heap, toks := s.toks }) :=
  .of_wp fun prog w A R s h => by
    obtain ⟨hp, g, d, tk, os⟩ := s
    obtain ⟨hl, h⟩ := h
    have f1 := AutoSeq1.idx_int
    wp_walk using wpAny_loadPart' hl
    repeat (first
      | (refine wpAny_ite_false (decide_eq_false (by rw [c0]; exact Bool.false_ne_true)) ?_; wp_walk using wpAny_loadPart' hl)
      | (refine wpAny_ite_true (decide_eq_true (by rw [c1])) ?_; wp_walk using wpAny_loadPart' hl))
    exact ⟨_, rfl, h⟩
section
variable {X : Cx}
def rRepT1 (K : Frag) : R2 := fun x y H Q => ∃ l k xs, x = .ref l ∧ y = .int k ∧ SqT K H l xs ∧ (xs = [] ∨ k = 1) ∧ -(2 ^ 63) ≤ k ∧ k < 2 ^ 63 ∧ Q (.ref l) H
theorem op_repT1 : OpR X (binaryOp .Mult) (rRepT1 X.K) := by
  intro pins s σ H x y v u Q I rx ry h
  obtain ⟨l, k, xs, rfl, rfl, hT, hne, h1, h2, q⟩ := h
  cases rx
  obtain ⟨t, rfl⟩ := ry
  obtain ⟨its, r, ⟨⟨cls, dd, data, sl⟩, ho, hc, n, hd⟩, hs⟩ := I.tuple hT
  simp only at hc hd
  subst hc hd
  have c0 : (decide (k < -(2 ^ 63)) || decide (k ≥ 2 ^ 63)) = false := by
    simp only [Bool.or_eq_false_iff, decide_eq_false_iff_not]
    omega
  have c1 : (its.toArray.isEmpty || k == 1) = true := by
    rcases hne with e | e
    · subst e
      cases r
      rfl
    · subst e
      simp
  exact wpAny_binaryOp_repeat_ref (T := "tuple") (U := "int") (by decide) ⟨_, ho, rfl⟩ (fun s' => typeIs_int s' k t) L2.noFill_tuple_mul F.fills_int_mul F.slot_int_rmul L2.repeat_tuple F.slot_int_index.lookup
    (call_meets F.slot_int_rmul (typeIs_int s k t) F.entry_int_rmul (F.args_int_rmul_2 _ _) (L2.int_rmul_tuple k t l its.toArray n dd sl)
      ⟨ho, rfl, ⟨_, ho, rfl⟩, call_meets F.slot_tuple_mul ⟨_, ho, rfl⟩ F.entry_tuple_mul (F.args_tuple_mul_2 _ _) (tuple_mul1 l its.toArray n dd sl k t c0 c1) ⟨ho, .ref l, H, I.tok _, rfl, q⟩⟩)
theorem int_rmul_listW (a : Int) (t : Tok) (l : Addr) (items : Array Value) (n : Nat) (dd : Option Addr) (sl : Array (Option Value)) :
    Meets (Builtin.«int.__rmul__» ⟨[.int a t, .ref l], []⟩) (fun _ R s => s.heap.get? l = some { cls := .type "list", dict := dd, data := .seq items n, slots := sl } ∧ R (.ok (.ret Value.notImplemented)) s) :=
  .of_wp fun prog w A R s h => by obtain ⟨hp, g, d, tk, os⟩ := s; obtain ⟨hl, h⟩ := h; wp_walk using wpAny_loadPart' hl; exact ⟨_, rfl, h⟩
theorem list_mulW (l : Addr) (items : Array Value) (n : Nat) (dd : Option Addr) (sl : Array (Option Value)) (x : Int) (u : Tok) (hc0 : ¬(!Builtin.List.listFitsIndex x) = true) (hc1 : ¬items.size * x.toNat > (2 ^ 63 - 1) / 8) (hc2 : ¬Builtin.List.listTooLong (items.size * x.toNat) = true) :
    Meets (Builtin.«list.__mul__» ⟨[.ref l, .int x u], []⟩) (fun _ R s => s.heap.get? l = some { cls := .type "list", dict := dd, data := .seq items n, slots := sl } ∧ R (.ok (.ret (Value.ref s.heap.objs.size))) { s with heap := s.heap.push { cls := Value.type "list", data := Data.seq (List.foldl (fun x1 x2 => x1 ++ x2) #[] (List.replicate (if items.isEmpty = true then 0 else x.toNat) items)) }, toks := s.toks }) :=
  .of_wp fun prog w A R s h => by
    obtain ⟨hp, g, d, tk, os⟩ := s; obtain ⟨hl, h⟩ := h
    have hsz := AutoListH.joined_fits hc2
    wp_walk using wpAny_loadPart' hl
    refine wpAny_ite_false (decide_eq_false (Nat.not_lt.mpr hsz)) ?_; wp_walk using wpAny_loadPart' hl; exact ⟨_, rfl, h⟩
def rRepL (K : Frag) : R2 := fun x y H Q => ∃ l k xs, x = .ref l ∧ y = .int k ∧ SqL K H l xs ∧ -(2 ^ 63) ≤ k ∧ k < 2 ^ 63 ∧ xs.length * k.toNat ≤ sizeLine ∧
  ∀ p, H p = none → Q (.ref p) (upd H p (.lst (List.replicate k.toNat xs).flatten))
theorem op_repL : OpR X (binaryOp .Mult) (rRepL X.K) := by
  intro pins s σ H x y v u Q I rx ry h
  obtain ⟨l, k, xs, rfl, rfl, hH, h1, h2, hz, q⟩ := h
  cases rx
  obtain ⟨t, rfl⟩ := ry
  obtain ⟨its, r, pl, z⟩ := I.list hH
  obtain ⟨⟨cls, dd, data, sl⟩, e, hc, n, hd⟩ := id pl.isList
  simp only at hc hd
  subst hc hd
  have hl : xs.length = its.length := r.length
  have hlen : its.toArray.size * k.toNat ≤ sizeLine := by rw [List.size_toArray, ← hl]; exact hz
  have hcap : ¬ its.toArray.size * k.toNat > (2 ^ 63 - 1) / 8 := by
    have : (sizeLine : Nat) ≤ (2 ^ 63 - 1) / 8 := by decide
    omega
  have hfit : ¬ (!Builtin.List.listFitsIndex k) = true := by
    rw [fitsIndex_both h1 h2]
    exact Bool.false_ne_true
  have hlong : ¬ Builtin.List.listTooLong (its.toArray.size * k.toNat) = true := by
    rw [L2.notLongL hlen]
    exact Bool.false_ne_true
  have hnew : List.foldl (fun x1 x2 => x1 ++ x2) #[] (List.replicate (if its.toArray.isEmpty = true then 0 else k.toNat) its.toArray) = (List.replicate k.toNat its).flatten.toArray := by
    have f0 : ∀ m : Nat, List.foldl (fun x1 x2 => x1 ++ x2) #[] (List.replicate m its.toArray) = (List.replicate m its).flatten.toArray := fun m => by
      have := L2.foldl_rep its m []
      rw [List.nil_append] at this
      exact this
    rw [f0]
    cases its with
    | nil => simp
    | cons a r' => rw [if_neg (by simp)]
  refine wpAny_binaryOp_repeat_ref (T := "list") (U := "int") (by decide) ⟨_, e, rfl⟩ (fun s' => typeIs_int s' k t) noFill_list_mul F.fills_int_mul F.slot_int_rmul repeat_list F.slot_int_index.lookup
    (call_meets F.slot_int_rmul (typeIs_int s k t) F.entry_int_rmul (F.args_int_rmul_2 _ _) (int_rmul_listW k t l its.toArray n dd sl)
      ⟨e, rfl, ⟨_, e, rfl⟩, call_meets F.slot_list_mul ⟨_, e, rfl⟩ F.entry_list_mul (F.args_list_mul_2 _ _) (list_mulW l its.toArray n dd sl k t hfit hcap hlong) ⟨e, ?_⟩⟩)
  rw [hnew]
  exact ⟨.ref _, _, I.lnew (t' := s.toks) (r.rep k.toNat) (by rw [PyProof.Rows.lm_len_rep_flat, Nat.mul_comm]; exact hz), rfl, q _ I.fresh⟩
end

/-! ### tuples without an own dict -/
section
variable {X : Cx} {pins : List (Addr × Obj)} {σ : L2.St} {H : Hp} {s : Shared}
def NewT (H : Hp) (vs : List V) (Q : VK) : Prop := ∀ (p : Addr) (us : List Value), H p = none → Q (.ref p) (upd H p (.frz (tupO us) (.tup vs)))
theorem laidT {h' : Heap} {t' : Nat} {vs : List V} {us : List Value} {Q : VK} (I : Inv X pins σ H s) (k : ∀ b u, s.heap.get? b = some u → h'.get? b = some u) (e : h'.get? s.heap.objs.size = some (tupO us))
    (r : L2.Vals vs us) (hz : vs.length ≤ sizeLine) (q : NewT H vs Q) : L2.EP X pins σ Q (.ref s.heap.objs.size) { s with heap := h', toks := t' } :=
  ⟨.ref s.heap.objs.size, _, I.laid (t' := t') k (Nat.le_refl _) (show L2.ObjOk X.prog X.w _ h' _ (.frz (tupO us) (.tup vs)) from ⟨e, hz, us, r, ⟨_, e, rfl, _, rfl⟩⟩), rfl, q _ _ (I.hok.fresh (Nat.le_refl _))⟩
def rCatS (K : Frag) : R2 := fun x y H Q => ∃ a b xs ys, x = .ref a ∧ y = .ref b ∧ SqT K H a xs ∧ SqT K H b ys ∧ xs.length + ys.length ≤ sizeLine ∧
  (xs = [] → Q (.ref b) H) ∧ (xs ≠ [] → ys = [] → Q (.ref a) H) ∧ (xs ≠ [] → ys ≠ [] → NewT H (xs ++ ys) Q)
theorem op_catS : OpR X (binaryOp .Add) (rCatS X.K) := by
  intro pins s σ H x y v u Q I rx ry h
  obtain ⟨a, b, xs, ys, rfl, rfl, ha, hb, hz, q0, q1, q2⟩ := h
  by_cases hx : xs = []
  · exact L2.op_catA pins s σ H _ _ v u Q I rx ry ⟨a, b, xs, ys, rfl, rfl, ha, hb, hz, q0, q1, fun z => absurd hx z⟩
  by_cases hy : ys = []
  · exact L2.op_catA pins s σ H _ _ v u Q I rx ry ⟨a, b, xs, ys, rfl, rfl, ha, hb, hz, q0, q1, fun _ z => absurd hy z⟩
  cases rx
  cases ry
  obtain ⟨its, r1, p1, _⟩ := I.tuple ha
  obtain ⟨its2, r2, p2, _⟩ := I.tuple hb
  refine HT.cat_tup p1 p2 (fun z => hx (r1.nil_iff.mp z)) (fun z => absurd (r2.nil_iff.mp z) hy) (fun z => ?_) (by rw [← r1.length, ← r2.length]; exact hz)
  exact laidT I (fun b ob q => Heap.get?_push_of_some _ q) (Heap.get?_push_size _ rfl) (r1.append r2) (by rw [List.length_append]; exact hz) (q2 hx hy)
def rRepS (K : Frag) : R2 := fun x y H Q => ∃ l k xs, x = .ref l ∧ y = .int k ∧ SqT K H l xs ∧ xs ≠ [] ∧ 2 ≤ k ∧ k ≤ 1000 ∧ xs.length ≤ 1000 ∧ NewT H (List.replicate k.toNat xs).flatten Q
theorem op_repS : OpR X (binaryOp .Mult) (rRepS X.K) := by
  intro pins s σ H x y v u Q I rx ry h
  obtain ⟨l, k, xs, rfl, rfl, hT, hne, h1, h2, hz, q⟩ := h
  cases rx
  obtain ⟨t, rfl⟩ := ry
  obtain ⟨its, r, ⟨⟨cls, dd, data, sl⟩, ho, hc, n, hd⟩, hs⟩ := I.tuple hT
  simp only at hc hd
  subst hc hd
  have hle : its.length = xs.length := r.length.symm
  have hi : its.toArray.isEmpty = false := by
    cases its with
    | nil => exact absurd (List.eq_nil_of_length_eq_zero hle.symm) hne
    | cons a b => rfl
  have hsz0 : its.toArray.size = xs.length := by rw [List.size_toArray, hle]
  have a1 : ((xs.length : Nat) : Int) * k ≤ 1000 * k := Int.mul_le_mul_of_nonneg_right (by omega) (by omega)
  have a2 : k.toNat * xs.length ≤ 1000 * 1000 := Nat.mul_le_mul (by omega) hz
  have flen : (List.replicate k.toNat its).flatten.length ≤ sizeLine := by
    rw [PyProof.Rows.lm_len_rep_flat, hle, sizeLine_eq]
    omega
  have c0 : (decide (k < -(2 ^ 63)) || decide (k ≥ 2 ^ 63)) = false := by
    simp only [Bool.or_eq_false_iff, decide_eq_false_iff_not]
    omega
  have c1 : (its.toArray.isEmpty || k == 1) = false := by
    rw [hi, Bool.false_or]
    exact beq_eq_false_iff_ne.mpr (by omega)
  have c2 : (decide (k ≤ 0) || its.toArray.isEmpty) = false := by
    rw [hi, Bool.or_false]
    exact decide_eq_false (by omega)
  have c4 : Builtin.Tuple.tupleTooMany (((its.toArray.size : Nat) : Int) * k) = false := by
    unfold Builtin.Tuple.tupleTooMany
    rw [sizeLine_eq, hsz0]
    exact decide_eq_false (by omega)
  refine wpAny_binaryOp_repeat_ref (T := "tuple") (U := "int") (by decide) ⟨_, ho, rfl⟩ (fun s' => typeIs_int s' k t) L2.noFill_tuple_mul F.fills_int_mul F.slot_int_rmul L2.repeat_tuple F.slot_int_index.lookup
    (call_meets F.slot_int_rmul (typeIs_int s k t) F.entry_int_rmul (F.args_int_rmul_2 _ _) (L2.int_rmul_tuple k t l its.toArray n dd sl)
      ⟨ho, rfl, ⟨_, ho, rfl⟩, call_meets F.slot_tuple_mul ⟨_, ho, rfl⟩ F.entry_tuple_mul (F.args_tuple_mul_2 _ _)
        (L2.tuple_mulW l its.toArray n dd sl k t c0 c1 c2 (by rw [hsz0]; omega) c4 (by rw [L2.size_rep, List.size_toArray]; exact flen)) ⟨ho, ?_⟩⟩)
  rw [L2.size_rep]
  exact laidT I (fun b ob q => Heap.get?_push_of_some _ q) (Heap.get?_push_size _ rfl) (r.rep k.toNat) (by rw [PyProof.Rows.lm_len_rep_flat, sizeLine_eq]; omega) q
/-- a display -/
def tTupS (t : TA) : TE := fun σ H Q => t σ H fun xs H1 => xs.length ≤ sizeLine ∧ NewT H1 xs Q
theorem pe_tupS {es : List Expr} {t : TA} {x1} {pos : Pos} (h : PA X es t) : PE X (.Tuple es x1 pos) (tTupS t) := by
  refine ⟨fun pins s σ H Q I hq => ?_⟩
  refine wpAny_Tuple_spliced (L2.thn (h.run pos pins s σ H _ I hq) fun us s1 ⟨xs, H1, I1, r, z, q⟩ => ⟨by rw [← r.length]; exact z, ?_⟩)
  exact laidT I1 (fun b u e => Heap.get?_push_of_some _ e) (Heap.get?_push_size _ rfl) r z q
/-- slices -/
def rSlS2 (K : Frag) : V → Option Int → Option Int → Hp → VK → Prop := fun x lo hi H Q => ∃ a xs, x = .ref a ∧ SqT K H a xs ∧
  (HT.sIx xs.length 0 lo = 0 ∧ HT.sIx xs.length xs.length hi = xs.length → Q (.ref a) H) ∧ (¬ (HT.sIx xs.length 0 lo = 0 ∧ HT.sIx xs.length xs.length hi = xs.length) → NewT H (L2.cutV xs lo hi) Q)
theorem sl_tupS : L2.SlR X (rSlS2 X.K) := by
  intro pins s σ H x v vl vu lo hi sl Q I rx hs pl pu h
  obtain ⟨a, xs, rfl, hx, q1, q2⟩ := h
  by_cases hw : HT.sIx xs.length 0 lo = 0 ∧ HT.sIx xs.length xs.length hi = xs.length
  · exact L2.sl_tupA pins s σ H _ v vl vu lo hi sl Q I rx hs pl pu ⟨a, xs, rfl, hx, q1, fun z => absurd hw z⟩
  · cases rx
    obtain ⟨its, r, ht, hz⟩ := I.tuple hx
    have hlen : its.toArray.size = xs.length := by rw [List.size_toArray]; exact r.length.symm
    refine ⟨"tuple", _, PyProof.Rows.slot_tuple_getitem.lookup, ht.typeIs, ?_⟩
    refine HT.getItem_tuple_cut ht hs pl pu (by rw [hlen]; exact hw) ?_ (by rw [hlen]; exact hz)
    rw [hlen]
    exact laidT I (fun b ob q => Heap.get?_push_of_some _ q) (Heap.get?_push_size _ rfl) ((r.drop _).take _) (Nat.le_trans (L2.cutV_length xs lo hi) hz) (q2 hw)
/-- tuple(..) -/
theorem call_tupleS : L2.CallR X (.type "tuple") (fun xs H Q => ∃ p ys, xs = [.ref p] ∧ ((SqL X.K H p ys ∧ NewT H ys Q) ∨ (SqT X.K H p ys ∧ Q (.ref p) H))) := by
  intro pins s σ H xs us Q I r h
  obtain ⟨p, ys, rfl, h⟩ := h
  rcases h with ⟨hq, q⟩ | ⟨hq, q⟩
  · obtain ⟨u, rfl, rx⟩ := L2.vals1 r
    cases rx
    obtain ⟨its, r', pl, hz⟩ := I.list hq
    have hlen := r'.length
    refine call_tuple_list pl.isList (fun h' kp => ?_) (by simp only [List.size_toArray] <;> omega)
    have I1 : Inv X pins σ H { s with heap := h' } := I.kept (t' := s.toks) kp
    exact laidT I1 (fun b ob q => Heap.get?_push_of_some _ q) (Heap.get?_push_size _ rfl) r' hz q
  · exact L2.call_tuple_of pins s σ H _ us Q I r ⟨p, ys, rfl, .inr ⟨hq, q⟩⟩
end

/-! ### two values, one operator -/
section
variable {X : Cx} {c : Cfg} {W : WX}
theorem tE_op {fa fb : Env → Store → R D} {g : D → D → Store → R D} {r : R2}
    (hr : ∀ (m : MM) (H : Hp) (S : Store) (x y : D) (u v : V) (σ : L2.St) (Q : VK), Sim X.K c m H S → RV X.K c m H x u → RV X.K c m H y v → Aft X.K c W σ m H (g x y S) (fun d _ m' H' => ∀ v, RV X.K c m' H' d v → Q v H') → r u v H Q) :
    ∀ σ H Q, tE X.K c W (fun e S => (fa e S).bind fun x S1 => (fb e S1).bind fun y S2 => g x y S2) σ H Q → L2.tOp r (tE X.K c W fa) (tE X.K c W fb) σ H Q := by
  rintro σ H Q ⟨e, m, S, re, s, h⟩
  refine ⟨e, m, S, re, s, h.bind.imp fun x S1 m1 H1 e1 s1 h1 u ru => ⟨e, m1, S1, re.mono s e1, s1, h1.bind.imp fun y S2 m2 H2 e2 s2 h2 v rv => hr m2 H2 S2 x y u v σ Q s2 (ru.mono s1 e2) rv h2⟩⟩

theorem op_of {fa fb : Env → Store → R D} {r : R2} {P : D → D → Store → MM → Hp → Prop} {e : Env} {m : MM} {H : Hp} {S : Store} {σ : L2.St} {Q : VK} (re : EnvR X.K c m H e σ) (s : Sim X.K c m H S)
    (h : Aft X.K c W σ m H (fa e S) fun x S1 m1 H1 => Aft X.K c W σ m1 H1 (fb e S1) fun y S2 m2 H2 => P x y S2 m2 H2)
    (hr : ∀ (m2 : MM) (H2 : Hp) (S2 : Store) (x y : D) (u v : V), Ext m H m2 H2 → Sim X.K c m2 H2 S2 → RV X.K c m2 H2 x u → RV X.K c m2 H2 y v → P x y S2 m2 H2 → r u v H2 Q) :
    L2.tOp r (tE X.K c W fa) (tE X.K c W fb) σ H Q :=
  ⟨e, m, S, re, s, h.imp fun x S1 m1 H1 e1 s1 h1 u ru => ⟨e, m1, S1, re.mono s e1, s1, h1.imp fun y S2 m2 H2 e2 s2 h2 v rv => hr m2 H2 S2 x y u v (e1.trans e2) s2 (ru.mono s1 e2) rv h2⟩⟩

/-- the operators' rule -/
def rBin (X : Cx) (op : Operator) : R2 := match op with
  | .Add => fun x y H Q => L2.rI0 (fun i j => .int (i + j)) x y H Q ∨ (∃ i j, x = .str i ∧ y = .str j ∧ i.length + j.length ≤ sizeLine ∧ Q (.str (i ++ j)) H) ∨ rCatS X.K x y H Q ∨ rCatL X.K x y H Q
  | .Sub => L2.rI0 fun i j => .int (i - j)
  | .Mult => fun x y H Q => L2.rI L2.CMul (fun i j => .int (i * j)) x y H Q ∨ rRepS X.K x y H Q ∨ rRepT1 X.K x y H Q ∨ rRepL X.K x y H Q
  | .FloorDiv => L2.rI L2.CDiv fun i j => .int (i / j)
  | .Mod => L2.rI (fun _ j => 0 < j) fun i j => .int (i % j)
  | .Pow => L2.rI L2.CPow fun i j => .int (i ^ j.toNat)
  | .LShift => L2.rI L2.CPow fun i j => .int (i * 2 ^ j.toNat)
  | .RShift => L2.rI (fun _ j => 0 ≤ j) fun i j => .int (i / 2 ^ j.toNat)
  | .BitAnd => L2.rI0 fun i j => .int (Builtin.bitAnd i j)
  | _ => fun _ _ _ _ => False
theorem or_bin (X : Cx) (op : Operator) : OpR X (binaryOp op) (rBin X op) := by
  cases op
  case Add => exact L2.op_add.or (L2.op_add_str.or (op_catS.or op_catL))
  case Sub => exact L2.op_sub
  case Mult => exact L2.op_mul.or (op_repS.or (op_repT1.or op_repL))
  case FloorDiv => exact L2.op_fdiv
  case Mod => exact L2.op_mod
  case Pow => exact L2.op_pow
  case LShift => exact L2.op_shl
  case RShift => exact L2.op_shr
  case BitAnd => exact L2.op_and
  all_goals exact fun _ _ _ _ _ _ _ _ _ _ _ _ h => h.elim

/-- what a list of the reading is -/
theorem seqL_sq {m : MM} {H : Hp} {S : Store} {x : D} {u : V} {l : List D} (s : Sim X.K c m H S) (r : RV X.K c m H x u) (h : seqL S x = some l) : ∃ a vs, u = .ref a ∧ SqL X.K H a vs ∧ RVs X.K c m H l vs := by
  cases r with
  | lst h1 h2 =>
    simp only [seqL, Option.some.injEq] at h
    subst h
    exact ⟨_, _, rfl, h1.sq, h2⟩
  | @ref n a h1 =>
    simp only [seqL] at h
    cases e : S[n]? with
    | none => rw [e] at h; cases h
    | some o =>
      rw [e] at h
      cases o with
      | lst k =>
        simp only [Option.some.injEq] at h
        subst h
        obtain ⟨a', vs, h2, h3, h4⟩ := s.at e
        rw [h1] at h2; cases h2
        exact ⟨_, _, rfl, SqL.of h3, h4⟩
      | dic _ _ => cases h
  | _ => simp [seqL] at h
theorem seqT_sq {m : MM} {H : Hp} {x : D} {u : V} {l : List D} (r : RV X.K c m H x u) (h : seqT x = some l) : ∃ a vs, u = .ref a ∧ SqT X.K H a vs ∧ RVs X.K c m H l vs := by
  cases r with
  | tup h1 h2 =>
    simp only [seqT, Option.some.injEq] at h
    subst h
    exact ⟨_, _, rfl, h1.sq, h2⟩
  | _ => simp [seqT] at h
theorem seqA_sq {m : MM} {H : Hp} {S : Store} {x : D} {u : V} {l : List D} (s : Sim X.K c m H S) (r : RV X.K c m H x u) (h : seqA S x = some l) : ∃ a vs, u = .ref a ∧ (SqL X.K H a vs ∨ SqT X.K H a vs) ∧ RVs X.K c m H l vs := by
  unfold seqA at h
  split at h
  · obtain ⟨a, vs, h1, h2, h3⟩ := seqT_sq (x := .tup _) r h
    exact ⟨a, vs, h1, .inr h2, h3⟩
  · obtain ⟨a, vs, h1, h2, h3⟩ := seqL_sq s r h
    exact ⟨a, vs, h1, .inl h2, h3⟩
/-- a tuple is made -/
theorem mkT_new {m : MM} {H : Hp} {S : Store} {σ : L2.St} {ds : List D} {vs : List V} {Q : VK} (s : Sim X.K c m H S) (r : RVs X.K c m H ds vs) (h : Aft X.K c W σ m H (mkT ds S) fun d _ m' H' => ∀ v, RV X.K c m' H' d v → Q v H') :
    vs.length ≤ sizeLine ∧ NewT H vs Q := by
  unfold mkT at h
  split at h
  · rename_i hz
    exact ⟨by rw [← r.length]; exact hz, fun p us hp => h m _ (Ext.fresh hp s) (s.fresh hp) _ (RV.newTup s hp r)⟩
  · exact h.elim
theorem Aft.okv {m : MM} {H : Hp} {S : Store} {σ : L2.St} {d : D} {Q : VK} (h : Aft X.K c W σ m H (.ok d S) fun d _ m' H' => ∀ v, RV X.K c m' H' d v → Q v H') (s : Sim X.K c m H S) {v : V} (r : RV X.K c m H d v) : Q v H := h m H .refl s v r
theorem add_ok {v : Bool} {m : MM} {H : Hp} {S : Store} {x y : D} {u w : V} {σ : L2.St} {Q : VK} (s : Sim X.K c m H S) (rx : RV X.K c m H x u) (ry : RV X.K c m H y w)
    (h : Aft X.K c W σ m H (addA v S x y) (fun d _ m' H' => ∀ v, RV X.K c m' H' d v → Q v H')) : rBin X .Add u w H Q := by
  unfold addA at h
  split at h
  · cases rx; cases ry
    exact .inl ⟨_, _, rfl, rfl, h.okv s (.int _)⟩
  · cases rx; cases ry
    obtain ⟨hz, h⟩ := Aft.if_ h
    exact .inr (.inl ⟨_, _, rfl, rfl, hz, h.okv s (.str _)⟩)
  · cases rx with
    | tup h1 h2 =>
      cases ry with
      | tup h3 h4 =>
        obtain ⟨hz, h⟩ := Aft.if_ h
        refine .inr (.inr (.inl ⟨_, _, _, _, rfl, rfl, h1.sq, h3.sq, by rw [← h2.length, ← h4.length]; exact hz, fun e => ?_, fun e1 e2 => ?_, fun e1 e2 p us hp => ?_⟩))
        · subst e
          cases h2
          exact h.okv s (.tup h3 h4)
        · subst e2
          cases h4
          rw [List.append_nil] at h
          exact h.okv s (.tup h1 h2)
        · exact h m _ (Ext.fresh hp s) (s.fresh hp) _ (RV.newTup s hp (h2.append h4))
  · split at h
    · rename_i a b ha hb
      obtain ⟨p, vs, rfl, h1, h2⟩ := seqL_sq s rx ha
      obtain ⟨q, us, rfl, h3, h4⟩ := seqL_sq s ry hb
      obtain ⟨hz, hq⟩ := mkL_new s (h2.append h4) h
      exact .inr (.inr (.inr ⟨p, q, vs, us, rfl, rfl, h1, h3, by rw [← List.length_append]; exact hz, hq⟩))
    · exact h.elim
theorem rep_nil {α : Type} (k : Nat) : (List.replicate k ([] : List α)).flatten = [] := by
  induction k with
  | zero => rfl
  | succ k ih => rw [List.replicate_succ, List.flatten_cons, ih]; rfl
theorem rep_one {α : Type} (l : List α) : (List.replicate 1 l).flatten = l := by simp
theorem mul_ok {v : Bool} {m : MM} {H : Hp} {S : Store} {x y : D} {u w : V} {σ : L2.St} {Q : VK} (s : Sim X.K c m H S) (rx : RV X.K c m H x u) (ry : RV X.K c m H y w)
    (h : Aft X.K c W σ m H (mulA v S x y) (fun d _ m' H' => ∀ v, RV X.K c m' H' d v → Q v H')) : rBin X .Mult u w H Q := by
  unfold mulA at h
  split at h
  · cases rx; cases ry
    obtain ⟨hz, h⟩ := Aft.if_ h
    exact .inl ⟨_, _, rfl, rfl, hz, h.okv s (.int _)⟩
  · rename_i a k
    cases ry
    obtain ⟨⟨z1, z2, z3⟩, h⟩ := Aft.if_ h
    cases rx with
    | tup h1 h2 =>
      rename_i p vs
      by_cases hv : vs = [] ∨ k = 1
      · refine .inr (.inr (.inl ⟨p, k, vs, rfl, rfl, h1.sq, hv, by omega, by omega, h.okv s ?_⟩))
        have e : rep k a = a := by
          unfold rep
          rcases hv with hv | hv
          · subst hv
            cases h2
            exact rep_nil _
          · subst hv
            exact rep_one a
        rw [e]
        exact .tup h1 h2
      · refine .inr (.inl ⟨p, k, vs, rfl, rfl, h1.sq, fun e => hv (.inl e), ?_, z2, by rw [← h2.length]; exact z3, fun q us hq => h m _ (Ext.fresh hq s) (s.fresh hq) _ (RV.newTup s hq (h2.rep _))⟩)
        have : k ≠ 1 := fun e => hv (.inr e)
        omega
  · cases ry
    split at h
    · rename_i l hl
      obtain ⟨⟨z1, z2, z3⟩, h⟩ := Aft.if_ h
      obtain ⟨p, vs, rfl, h1, h2⟩ := seqL_sq s rx hl
      obtain ⟨hz, hq⟩ := mkL_new s (h2.rep _) h
      exact .inr (.inr (.inr ⟨p, _, vs, rfl, rfl, h1, z1, z2, by rw [← h2.length]; exact z3, hq⟩))
    · exact h.elim
  · exact h.elim
theorem ari_ok {op : Operator} {m : MM} {H : Hp} {S : Store} {i j : Int} {σ : L2.St} {Q : VK} (s : Sim X.K c m H S)
    (h : Aft X.K c W σ m H (R.ofO ((ariA op i j).map D.int) S) (fun d _ m' H' => ∀ v, RV X.K c m' H' d v → Q v H')) (h1 : op ≠ .Add) (h2 : op ≠ .Mult) : rBin X op (.int i) (.int j) H Q := by
  cases op <;> simp only [ariA, Option.map_some, Option.map_none, R.ofO, ne_eq, not_true_eq_false, reduceCtorEq, not_false_eq_true] at h h1 h2
  case Sub => exact ⟨_, _, rfl, rfl, h.okv s (.int _)⟩
  case BitAnd => exact ⟨_, _, rfl, rfl, h.okv s (.int _)⟩
  all_goals first
    | exact h.elim
    | (split at h
       · rename_i hz
         split at hz
         · rename_i hc
           cases hz
           exact ⟨_, _, rfl, rfl, hc, h.okv s (.int _)⟩
         · cases hz
       · exact h.elim)
theorem bin_ok {v : Bool} {op : Operator} (m : MM) (H : Hp) (S : Store) (x y : D) (u w : V) (σ : L2.St) (Q : VK) (s : Sim X.K c m H S) (rx : RV X.K c m H x u) (ry : RV X.K c m H y w)
    (h : Aft X.K c W σ m H (binA v op x y S) (fun d _ m' H' => ∀ v, RV X.K c m' H' d v → Q v H')) : rBin X op u w H Q := by
  unfold binA at h
  split at h
  · exact add_ok s rx ry h
  · exact mul_ok s rx ry h
  · rename_i h1 h2
    split at h
    · cases rx; cases ry
      exact ari_ok s h h1 h2
    · exact h.elim
theorem pe_binE {v : Bool} {op : Operator} {a b : Expr} {fa fb : Env → Store → R D} {pos : Pos} (ha : PE X a (tE X.K c W fa)) (hb : PE X b (tE X.K c W fb)) :
    PE X (.BinOp a op b pos) (tE X.K c W fun e S => (fa e S).bind fun x S1 => (fb e S1).bind fun y S2 => binA v op x y S2) :=
  PE.imp (L2.pe_op (or_bin X op) ha hb) (tE_op (g := binA v op) bin_ok)
end
end Mn

/-! Mn4: comparisons, truth, displays, names. -/
namespace Mn
open PySem PySem.Spec PyProof.Rows
open L2 (V Hp HO Cx SqL SqT Rd St VK WX XK TE TA TS TT TG PE PA PS PSs PT PG Ends upd upd_same upd_ne OpR R2 Inv Dp DpAll UnR)

section
variable {X : Cx}
/-- x in a tuple of data of any depth -/
def rInT (K : Frag) (neg : Bool) : R2 := fun x y H Q => ∃ d ds, Dp K H x d ∧ Dp K H y (.tuple ds) ∧ SeqAt.shaped d = true ∧ SeqAt.shaped (.list ds) = true ∧ Q (.bl (if neg then !(ds.any fun z => PyData.eqv z d) else ds.any fun z => PyData.eqv z d)) H
theorem op_inT (hu : X.A.units + 65 < cLine) : OpR X (compareOp .In) (rInT X.K false) := by
  intro pins s σ H x y v u Q I rx ry h
  obtain ⟨d, ds, hd, he, sd, se, q⟩ := h
  obtain ⟨as, r1⟩ := Dp.reads I d x v hd rx
  obtain ⟨bs, r2⟩ := Dp.reads I (.tuple ds) y u he ry
  exact SeqAt.in_tuple_reads r2 r1 (SeqAt.canLay_of_shaped se) (SeqAt.canLay_of_shaped sd) (room_in_shaped sd hu) ⟨.bl _, H, I, rfl, q⟩
theorem op_notInT (hu : X.A.units + 65 < cLine) : OpR X (compareOp .NotIn) (rInT X.K true) := by
  intro pins s σ H x y v u Q I rx ry h
  obtain ⟨d, ds, hd, he, sd, se, q⟩ := h
  obtain ⟨as, r1⟩ := Dp.reads I d x v hd rx
  obtain ⟨bs, r2⟩ := Dp.reads I (.tuple ds) y u he ry
  exact SeqAt.notIn_tuple_reads r2 r1 (SeqAt.canLay_of_shaped se) (SeqAt.canLay_of_shaped sd) (room_in_shaped sd hu) ⟨.bl _, H, I, rfl, q⟩
end

section
variable {K : Frag} {c : Cfg} {m : MM} {H : Hp} {S : Store}
mutual
theorem pyG_dp : ∀ {d : D} {v : V} {p : PyData}, RV K c m H d v → pyG d = some p → Dp K H v p
  | _, _, _, .non, h => by simp only [pyG, Option.some.injEq] at h; subst h; exact .non
  | _, _, _, .bl b, h => by simp only [pyG, Option.some.injEq] at h; subst h; exact .bl b
  | _, _, _, .int b, h => by simp only [pyG, Option.some.injEq] at h; subst h; exact .int b
  | _, _, _, .str b, h => by simp only [pyG, Option.some.injEq] at h; subst h; exact .str b
  | .tup ds, _, _, .tup h1 h2, h => by
    simp only [pyG] at h
    cases e : pyGs ds with
    | none => rw [e] at h; cases h
    | some ps =>
      rw [e] at h
      cases h
      exact .tup h1.sq (pyGs_dp h2 e)
  | .lst ds, _, _, .lst h1 h2, h => by
    simp only [pyG] at h
    cases e : pyGs ds with
    | none => rw [e] at h; cases h
    | some ps =>
      rw [e] at h
      cases h
      exact .lst h1.sq (pyGs_dp h2 e)
  | _, _, _, .ref _, h => by simp [pyG] at h
  | _, _, _, .fn _, h => by simp [pyG] at h
  | _, _, _, .cls _, h => by simp [pyG] at h
  | _, _, _, .ty _, h => by simp [pyG] at h
  | _, _, _, .wtp _ _, h => by simp [pyG] at h
  | _, _, _, .exn _ _, h => by simp [pyG] at h
theorem pyGs_dp : ∀ {ds : List D} {vs : List V} {ps : List PyData}, RVs K c m H ds vs → pyGs ds = some ps → DpAll K H vs ps
  | _, _, _, .nil, h => by simp only [pyGs, Option.some.injEq] at h; subst h; exact .nil
  | d :: ds, _, _, .cons h1 h2, h => by
    simp only [pyGs] at h
    cases e : pyG d with
    | none => rw [e] at h; cases h
    | some p =>
      cases e2 : pyGs ds with
      | none => rw [e, e2] at h; cases h
      | some ps =>
        rw [e, e2] at h
        cases h
        exact .cons (pyG_dp h1 e) (pyGs_dp h2 e2)
end
theorem py_dp {d : D} {v : V} {p : PyData} (s : Sim K c m H S) (r : RV K c m H d v) (h : py S d = some p) : Dp K H v p := by
  unfold py at h
  split at h
  · split at h
    · rename_i n l e
      obtain ⟨a, vs, h1, h2, h3⟩ := s.at e
      cases r with
      | ref h4 =>
        rw [h1] at h4; cases h4
        cases e2 : pyGs l with
        | none => rw [e2] at h; cases h
        | some ps =>
          rw [e2] at h
          cases h
          exact .lst (SqL.of h2) (pyGs_dp h3 e2)
    · cases h
  · exact pyG_dp r h
theorem truthA_tru {d : D} {v : V} {b : Bool} (s : Sim K c m H S) (r : RV K c m H d v) (h : truthA S d = some b) : L2.TruV K v H b := by
  cases r with
  | non => simp only [truthA, Option.some.injEq] at h; exact h.symm
  | bl b => simp only [truthA, Option.some.injEq] at h; exact h.symm
  | int b => simp only [truthA, Option.some.injEq] at h; exact h.symm
  | str x =>
    simp only [truthA] at h
    split at h
    · rename_i hz
      cases h
      exact ⟨hz, rfl⟩
    · cases h
  | tup h1 h2 =>
    simp only [truthA, Option.some.injEq] at h
    exact .inr (.inl ⟨_, h1.sq, by rw [← h, h2.emp]⟩)
  | lst h1 h2 =>
    simp only [truthA, Option.some.injEq] at h
    exact .inl ⟨_, h1.sq, by rw [← h, h2.emp]⟩
  | @ref n a h1 =>
    simp only [truthA] at h
    split at h
    · rename_i l e
      obtain ⟨a', vs, h2, h3, h4⟩ := s.at e
      rw [h1] at h2; cases h2
      simp only [Option.some.injEq] at h
      exact .inl ⟨_, SqL.of h3, by rw [← h, h4.emp]⟩
    · cases h
  | _ => simp [truthA] at h
end

/-! ### comparisons -/
def rCmp (X : Cx) (op : CmpOp) : R2 := match op with
  | .Eq => L2.rEqD X.K
  | .NotEq => L2.rNeD X.K
  | .In => fun x y H Q => (∃ i j, x = .str i ∧ y = .str j ∧ Q (.bl (!(Builtin.Str.occurrences j i 0 j.length 1).isEmpty)) H) ∨ L2.rInD X.K x y H Q ∨ rInT X.K false x y H Q
  | .NotIn => fun x y H Q => (∃ i j, x = .str i ∧ y = .str j ∧ Q (.bl (!(!(Builtin.Str.occurrences j i 0 j.length 1).isEmpty))) H) ∨ L2.rNotInD X.K x y H Q ∨ rInT X.K true x y H Q
  | .Is => fun x y H Q => (∃ a b, x = .bl a ∧ y = .bl b ∧ Q (.bl (decide (a = b))) H) ∨ (y = .non ∧ Q (.bl (decide (x = .non))) H)
  | .IsNot => fun x y H Q => (∃ a b, x = .bl a ∧ y = .bl b ∧ Q (.bl (!decide (a = b))) H) ∨ (y = .non ∧ Q (.bl (!decide (x = .non))) H)
  | .Lt => L2.rI0 fun i j => .bl (decide (i < j))
  | .LtE => L2.rI0 fun i j => .bl (decide (i ≤ j))
  | .Gt => L2.rI0 fun i j => .bl (decide (j < i))
  | .GtE => L2.rI0 fun i j => .bl (decide (j ≤ i))
theorem or_cmp (X : Cx) (hu : X.A.units + 65 < cLine) (op : CmpOp) : OpR X (compareOp op) (rCmp X op) := by
  cases op
  case Eq => exact L2.op_eqD (Nat.lt_of_le_of_lt (by omega) hu)
  case NotEq => exact L2.op_neD (Nat.lt_of_le_of_lt (by omega) hu)
  case In => exact L2.op_in_str.or ((L2.op_inD hu).or (op_inT hu))
  case NotIn => exact L2.op_notin_str.or ((L2.op_notInD hu).or (op_notInT hu))
  case Is => exact L2.op_is_bl.or L2.op_isN
  case IsNot => exact L2.op_isnot_bl.or L2.op_notN
  case Lt => exact L2.op_lt
  case LtE => exact L2.op_le
  case Gt => exact L2.op_gt
  case GtE => exact L2.op_ge
section
variable {X : Cx} {c : Cfg} {W : WX}
theorem eqA_ok {m : MM} {H : Hp} {S : Store} {x y : D} {u w : V} {b : Bool} (s : Sim X.K c m H S) (rx : RV X.K c m H x u) (ry : RV X.K c m H y w) (h : eqA S x y = some b) :
    ∃ d e, Dp X.K H u d ∧ Dp X.K H w e ∧ SeqAt.shaped d = true ∧ SeqAt.shaped e = true ∧ b = PyData.eqv d e := by
  unfold eqA at h
  cases h1 : py S x with
  | none => rw [h1] at h; cases h
  | some p =>
    cases h2 : py S y with
    | none => rw [h1, h2] at h; cases h
    | some q =>
      rw [h1, h2] at h
      simp only [Option.bind_some] at h
      split at h
      · rename_i hz
        cases h
        exact ⟨p, q, py_dp s rx h1, py_dp s ry h2, hz.1, hz.2, rfl⟩
      · cases h
theorem inA_ok {m : MM} {H : Hp} {S : Store} {x y : D} {u w : V} {b : Bool} (s : Sim X.K c m H S) (rx : RV X.K c m H x u) (ry : RV X.K c m H y w) (h : inA S x y = some b) :
    (∃ i j, u = .str i ∧ w = .str j ∧ b = (!(Builtin.Str.occurrences j i 0 j.length 1).isEmpty)) ∨
    (∃ d ds, Dp X.K H u d ∧ Dp X.K H w (.list ds) ∧ SeqAt.shaped d = true ∧ SeqAt.shaped (.list ds) = true ∧ b = ds.any fun z => PyData.eqv z d) ∨
    (∃ d ds, Dp X.K H u d ∧ Dp X.K H w (.tuple ds) ∧ SeqAt.shaped d = true ∧ SeqAt.shaped (.list ds) = true ∧ b = ds.any fun z => PyData.eqv z d) := by
  unfold inA at h
  split at h
  · split at h
    · cases rx; cases ry
      cases h
      exact .inl ⟨_, _, rfl, rfl, rfl⟩
    · cases h
  · cases h1 : py S x with
    | none => rw [h1] at h; cases h
    | some p =>
      rw [h1] at h
      simp only [Option.bind_some] at h
      split at h
      · rename_i l _
        cases h2 : pyGs l with
        | none => rw [h2] at h; cases h
        | some ps =>
          rw [h2] at h
          simp only [Option.bind_some] at h
          split at h
          · rename_i hz
            cases h
            refine .inr (.inr ⟨p, ps, py_dp s rx h1, pyG_dp ry (by simp only [pyG, h2, Option.map_some]), hz.1, hz.2, rfl⟩)
          · cases h
      · cases h2 : py S y with
        | none => rw [h2] at h; cases h
        | some q =>
          rw [h2] at h
          simp only [Option.bind_some] at h
          split at h
          · split at h
            · rename_i hz
              cases h
              exact .inr (.inl ⟨p, _, py_dp s rx h1, py_dp s ry h2, hz.1, hz.2, rfl⟩)
            · cases h
          · cases h
theorem isN_ok {m : MM} {H : Hp} {x : D} {u : V} (rx : RV X.K c m H x u) : decide (u = V.non) = (match x with | .non => true | _ => false) := by
  cases rx <;> simp
theorem cmpA_ok {op : CmpOp} {m : MM} {H : Hp} {S : Store} {x y : D} {u w : V} {b : Bool} {Q : VK} (s : Sim X.K c m H S) (rx : RV X.K c m H x u) (ry : RV X.K c m H y w) (h : cmpA op x y S = some b)
    (q : Q (.bl b) H) : rCmp X op u w H Q := by
  have eqq : ∀ {b : Bool}, eqA S x y = some b → ∃ d e, Dp X.K H u d ∧ Dp X.K H w e ∧ SeqAt.shaped d = true ∧ SeqAt.shaped e = true ∧ b = PyData.eqv d e := fun h => eqA_ok s rx ry h
  cases op
  case Eq =>
    obtain ⟨d, e, h1, h2, h3, h4, rfl⟩ := eqq h
    exact ⟨d, e, h1, h2, h3, h4, q⟩
  case NotEq =>
    simp only [cmpA] at h
    cases e : eqA S x y with
    | none => rw [e] at h; cases h
    | some b' =>
      rw [e] at h
      cases h
      obtain ⟨d, e2, h1, h2, h3, h4, rfl⟩ := eqq e
      exact ⟨d, e2, h1, h2, h3, h4, q⟩
  case In =>
    rcases inA_ok s rx ry h with ⟨i, j, h1, h2, rfl⟩ | ⟨d, ds, h1, h2, h3, h4, rfl⟩ | ⟨d, ds, h1, h2, h3, h4, rfl⟩
    · exact .inl ⟨i, j, h1, h2, q⟩
    · exact .inr (.inl ⟨d, ds, h1, h2, h3, h4, q⟩)
    · exact .inr (.inr ⟨d, ds, h1, h2, h3, h4, q⟩)
  case NotIn =>
    simp only [cmpA] at h
    cases e : inA S x y with
    | none => rw [e] at h; cases h
    | some b' =>
      rw [e] at h
      cases h
      rcases inA_ok s rx ry e with ⟨i, j, h1, h2, rfl⟩ | ⟨d, ds, h1, h2, h3, h4, rfl⟩ | ⟨d, ds, h1, h2, h3, h4, rfl⟩
      · exact .inl ⟨i, j, h1, h2, q⟩
      · exact .inr (.inl ⟨d, ds, h1, h2, h3, h4, q⟩)
      · exact .inr (.inr ⟨d, ds, h1, h2, h3, h4, q⟩)
  case Is =>
    simp only [cmpA] at h
    split at h
    · cases rx; cases ry; cases h
      exact .inl ⟨_, _, rfl, rfl, q⟩
    · cases ry; cases h
      refine .inr ⟨rfl, ?_⟩
      rw [isN_ok rx]
      cases x <;> exact q
    · cases h
  case IsNot =>
    simp only [cmpA] at h
    split at h
    · cases rx; cases ry; cases h
      exact .inl ⟨_, _, rfl, rfl, q⟩
    · cases ry; cases h
      refine .inr ⟨rfl, ?_⟩
      rw [isN_ok rx]
      cases x <;> exact q
    · cases h
  all_goals
    simp only [cmpA] at h
    split at h
    · cases rx; cases ry
      simp only [ordA, Option.some.injEq] at h
      subst h
      exact ⟨_, _, rfl, rfl, q⟩
    · cases h
/-- a comparison's step -/
theorem Aft.cmp {op : CmpOp} {m : MM} {H : Hp} {S : Store} {σ : L2.St} {x y : D} {u w : V} {k : D → Store → MM → Hp → Prop} (s : Sim X.K c m H S) (rx : RV X.K c m H x u) (ry : RV X.K c m H y w)
    (h : Aft X.K c W σ m H ((R.ofO (cmpA op x y S) S).bind fun t S3 => .ok (.bl t) S3) k) : ∃ b, cmpA op x y S = some b ∧ k (.bl b) S m H := by
  obtain ⟨b, hb, h⟩ := h.bind.ofO s
  exact ⟨b, hb, h.now s⟩
theorem cmp_ok {op : CmpOp} (m : MM) (H : Hp) (S : Store) (x y : D) (u w : V) (σ : L2.St) (Q : VK) (s : Sim X.K c m H S) (rx : RV X.K c m H x u) (ry : RV X.K c m H y w)
    (h : Aft X.K c W σ m H ((R.ofO (cmpA op x y S) S).bind fun t S3 => .ok (.bl t) S3) (fun d _ m' H' => ∀ v, RV X.K c m' H' d v → Q v H')) : rCmp X op u w H Q := by
  obtain ⟨b, hb, h⟩ := Aft.cmp s rx ry h
  exact cmpA_ok s rx ry hb (h _ (.bl b))
theorem pe_cmpE {op : CmpOp} {a b : Expr} {fa fb : Env → Store → R D} {pos : Pos} (hu : X.A.units + 65 < cLine) (ha : PE X a (tE X.K c W fa)) (hb : PE X b (tE X.K c W fb)) (hm : behindInMarks op b = false) :
    PE X (.Compare a [op] [b] pos) (tE X.K c W fun e S => (fa e S).bind fun x S1 => (fb e S1).bind fun y S2 => (R.ofO (cmpA op x y S2) S2).bind fun t S3 => .ok (.bl t) S3) :=
  PE.imp (L2.pe_cmpR (or_cmp X hu op) ha hb hm) (tE_op (g := fun x y S2 => (R.ofO (cmpA op x y S2) S2).bind fun t S3 => .ok (.bl t) S3) cmp_ok)
theorem pt_cmpE {op : CmpOp} {a b : Expr} {fa fb : Env → Store → R D} {pos : Pos} (hu : X.A.units + 65 < cLine) (ha : PE X a (tE X.K c W fa)) (hb : PE X b (tE X.K c W fb)) (hm : behindInMarks op b = false) :
    PT X (.Compare a [op] [b] pos) (tT X.K c W fun e S => (fa e S).bind fun x S1 => (fb e S1).bind fun y S2 => (R.ofO (cmpA op x y S2) S2).bind fun t S3 => .ok (.bl t) S3) := by
  refine PT.imp (L2.pt_cmpR (or_cmp X hu op) ha hb hm) fun σ H Q h => ?_
  obtain ⟨e, m, S, re, s, h⟩ := h
  refine op_of re s (h.bind.imp fun x S1 m1 H1 e1 s1 h1 => h1.bind) fun m2 H2 S2 x y u v e2 s2 rx ry p => ?_
  obtain ⟨b, hb, b', hb', p⟩ := Aft.cmp s2 rx ry p
  cases hb'
  exact cmpA_ok s2 rx ry hb ⟨b, rfl, p⟩
/-- a op1 b op2 c -/
theorem chain_of {o1 o2 : CmpOp} {fa fb fc : Env → Store → R D} {e : Env} {m : MM} {H : Hp} {S : Store} {σ : L2.St} {Q : VK} {k : D → Store → MM → Hp → Prop} (re : EnvR X.K c m H e σ) (s : Sim X.K c m H S)
    (h : Aft X.K c W σ m H ((fa e S).bind fun x S1 => (fb e S1).bind fun y S2 => (R.ofO (cmpA o1 x y S2) S2).bind fun t S3 =>
      if t = true then (fc e S3).bind fun z S4 => (R.ofO (cmpA o2 y z S4) S4).bind fun u S5 => .ok (.bl u) S5 else .ok (.bl false) S3) k)
    (hk : ∀ (b : Bool) (m' : MM) (H' : Hp) (S' : Store), k (.bl b) S' m' H' → Q (.bl b) H') :
    L2.tChain (rCmp X o1) (rCmp X o2) (tE X.K c W fa) (tE X.K c W fb) (tE X.K c W fc) σ H Q := by
  refine ⟨e, m, S, re, s, h.bind.imp fun x S1 m1 H1 e1 s1 h1 u ru => ⟨e, m1, S1, re.mono s e1, s1, h1.bind.imp fun y S2 m2 H2 e2 s2 h2 v rv => ?_⟩⟩
  obtain ⟨b, hb, h2⟩ := h2.bind.ofO s2
  refine cmpA_ok s2 (ru.mono s1 e2) rv hb ⟨b, rfl, ?_⟩
  cases b with
  | false =>
    simp only [Bool.false_eq_true, if_false] at h2 ⊢
    exact hk _ _ _ _ (h2.now s2)
  | true =>
    simp only [if_true] at h2 ⊢
    refine ⟨e, m2, S2, (re.mono s e1).mono s1 e2, s2, h2.bind.imp fun z S4 m4 H4 e4 s4 h4 w rw_ => ?_⟩
    obtain ⟨b, hb, h4⟩ := Aft.cmp s4 (rv.mono s2 e4) rw_ h4
    exact cmpA_ok s4 (rv.mono s2 e4) rw_ hb (hk _ _ _ _ h4)
theorem pe_chainE {o1 o2 : CmpOp} {a b d : Expr} {fa fb fc : Env → Store → R D} {pos : Pos} (hu : X.A.units + 65 < cLine) (ha : PE X a (tE X.K c W fa)) (hb : PE X b (tE X.K c W fb)) (hc : PE X d (tE X.K c W fc)) (hm : behindInMarks o2 d = false) :
    PE X (.Compare a [o1, o2] [b, d] pos) (tE X.K c W fun e S => (fa e S).bind fun x S1 => (fb e S1).bind fun y S2 => (R.ofO (cmpA o1 x y S2) S2).bind fun t S3 =>
      if t = true then (fc e S3).bind fun z S4 => (R.ofO (cmpA o2 y z S4) S4).bind fun u S5 => .ok (.bl u) S5 else .ok (.bl false) S3) := by
  refine PE.imp (L2.pe_chain (or_cmp X hu o1) (or_cmp X hu o2) ha hb hc (by simp only [lastMarks]; exact hm)) fun σ H Q h => ?_
  obtain ⟨e, m, S, re, s, h⟩ := h
  exact chain_of re s h fun b m' H' S' q => q _ (.bl b)
theorem pt_chainE {o1 o2 : CmpOp} {a b d : Expr} {fa fb fc : Env → Store → R D} {pos : Pos} (hu : X.A.units + 65 < cLine) (ha : PE X a (tE X.K c W fa)) (hb : PE X b (tE X.K c W fb)) (hc : PE X d (tE X.K c W fc)) (hm : behindInMarks o2 d = false) :
    PT X (.Compare a [o1, o2] [b, d] pos) (tT X.K c W fun e S => (fa e S).bind fun x S1 => (fb e S1).bind fun y S2 => (R.ofO (cmpA o1 x y S2) S2).bind fun t S3 =>
      if t = true then (fc e S3).bind fun z S4 => (R.ofO (cmpA o2 y z S4) S4).bind fun u S5 => .ok (.bl u) S5 else .ok (.bl false) S3) := by
  refine PT.imp (L2.pt_chain (or_cmp X hu o1) (or_cmp X hu o2) ha hb hc (by simp only [lastMarks]; exact hm)) fun σ H Q h => ?_
  obtain ⟨e, m, S, re, s, h⟩ := h
  refine chain_of re s h fun b m' H' S' q => ?_
  obtain ⟨b', hb', q⟩ := q
  cases hb'
  exact ⟨b, rfl, q⟩

/-! ### not, and, or, if else -/
theorem pe_negE {a : Expr} {fa : Env → Store → R D} {pos : Pos} (ha : PE X a (tE X.K c W fa)) : PE X (.UnaryOp .USub a pos) (tE X.K c W fun e S => (fa e S).bind fun x S1 => R.ofO (negA x) S1) := by
  refine PE.imp (L2.pe_un L2.un_neg ha) fun σ H Q h => ?_
  obtain ⟨e, m, S, re, s, h⟩ := h
  refine ⟨e, m, S, re, s, h.bind.imp fun x S1 m1 H1 e1 s1 h1 v rv => ?_⟩
  obtain ⟨d, hd, h1⟩ := h1.ofO s1
  cases rv <;> simp only [negA, reduceCtorEq, Option.some.injEq] at hd
  subst hd
  exact ⟨_, rfl, h1 _ (.int _)⟩
theorem pe_notE {a : Expr} {fa : Env → Store → R D} {pos : Pos} (ha : PE X a (tE X.K c W fa)) : PE X (.UnaryOp .Not a pos) (tE X.K c W fun e S => (tru (fa e S)).bind fun t S1 => .ok (.bl (!t)) S1) := by
  refine PE.imp (L2.pe_notT ha) fun σ H Q h => ?_
  obtain ⟨e, m, S, re, s, h⟩ := h
  refine ⟨e, m, S, re, s, (Aft.bind h).bind.imp fun x S1 m1 H1 e1 s1 h1 v rv => ?_⟩
  obtain ⟨b, hb, h1⟩ := h1.ofO s1
  exact ⟨b, truthA_tru s1 rv hb, h1.now s1 _ (.bl _)⟩
theorem pt_notE {a : Expr} {fa : Env → Store → R D} {pos : Pos} (ha : PT X a (tT X.K c W fa)) : PT X (.UnaryOp .Not a pos) (tT X.K c W fun e S => (tru (fa e S)).bind fun t S1 => .ok (.bl (!t)) S1) := by
  refine PT.imp (L2.pt_not ha) fun σ H Q h => ?_
  obtain ⟨e, m, S, re, s, h⟩ := h
  refine ⟨e, m, S, re, s, (Aft.bind h).bind.imp fun x S1 m1 H1 e1 s1 h1 => ?_⟩
  obtain ⟨b, hb, h1⟩ := h1.ofO s1
  obtain ⟨b', hb', h1⟩ := h1.now s1
  cases hb'
  exact ⟨b, hb, h1⟩
theorem pe_andE {a b : Expr} {rest : List Expr} {fa fb : Env → Store → R D} {pos : Pos} (ha : PE X a (tE X.K c W fa)) (hb : PE X (.BoolOp .And (b :: rest) pos) (tE X.K c W fb)) :
    PE X (.BoolOp .And (a :: b :: rest) pos) (tE X.K c W fun e S => (fa e S).bind fun x S1 => (R.ofO (truthA S1 x) S1).bind fun t S2 => if t = true then fb e S2 else .ok x S2) := by
  refine PE.imp (L2.pe_andT ha hb) fun σ H Q h => ?_
  obtain ⟨e, m, S, re, s, h⟩ := h
  refine ⟨e, m, S, re, s, h.bind.imp fun x S1 m1 H1 e1 s1 h1 v rv => ?_⟩
  obtain ⟨b, hb, h1⟩ := h1.bind.ofO s1
  refine ⟨b, truthA_tru s1 rv hb, ?_⟩
  cases b with
  | false =>
    simp only [Bool.false_eq_true, if_false] at h1 ⊢
    exact h1.now s1 _ rv
  | true =>
    simp only [if_true] at h1 ⊢
    exact ⟨e, m1, S1, re.mono s e1, s1, h1⟩
theorem pe_orE {a b : Expr} {rest : List Expr} {fa fb : Env → Store → R D} {pos : Pos} (ha : PE X a (tE X.K c W fa)) (hb : PE X (.BoolOp .Or (b :: rest) pos) (tE X.K c W fb)) :
    PE X (.BoolOp .Or (a :: b :: rest) pos) (tE X.K c W fun e S => (fa e S).bind fun x S1 => (R.ofO (truthA S1 x) S1).bind fun t S2 => if t = true then .ok x S2 else fb e S2) := by
  refine PE.imp (L2.pe_orT ha hb) fun σ H Q h => ?_
  obtain ⟨e, m, S, re, s, h⟩ := h
  refine ⟨e, m, S, re, s, h.bind.imp fun x S1 m1 H1 e1 s1 h1 v rv => ?_⟩
  obtain ⟨b, hb, h1⟩ := h1.bind.ofO s1
  refine ⟨b, truthA_tru s1 rv hb, ?_⟩
  cases b with
  | true =>
    simp only [if_true] at h1 ⊢
    exact h1.now s1 _ rv
  | false =>
    simp only [Bool.false_eq_true, if_false] at h1 ⊢
    exact ⟨e, m1, S1, re.mono s e1, s1, h1⟩
theorem pw_andE {a b : Expr} {rest : List Expr} {fa fb : Env → Store → R D} {pos : Pos} (ha : PT X a (tT X.K c W fa)) (hb : L2.PW X (.BoolOp .And (b :: rest) pos) (tT X.K c W fb)) :
    L2.PW X (.BoolOp .And (a :: b :: rest) pos) (tT X.K c W fun e S => (fa e S).bind fun x S1 => (R.ofO (truthA S1 x) S1).bind fun t S2 => if t = true then fb e S2 else .ok x S2) := by
  have h0 := L2.pw_and ha hb
  refine ⟨fun whole pins s σ H Q I h => h0.run whole pins s σ H Q I ?_⟩
  obtain ⟨e, m, S, re, s, h⟩ := h
  refine ⟨e, m, S, re, s, h.bind.imp fun x S1 m1 H1 e1 s1 h1 => ?_⟩
  obtain ⟨b, hb, h1⟩ := h1.bind.ofO s1
  refine ⟨b, hb, ?_⟩
  cases b with
  | false =>
    simp only [Bool.false_eq_true, if_false] at h1 ⊢
    obtain ⟨b', hb', h1⟩ := h1.now s1
    rw [hb] at hb'
    cases hb'
    exact h1
  | true =>
    simp only [if_true] at h1 ⊢
    exact ⟨e, m1, S1, re.mono s e1, s1, h1⟩
theorem pw_orE {a b : Expr} {rest : List Expr} {fa fb : Env → Store → R D} {pos : Pos} (ha : PT X a (tT X.K c W fa)) (hb : L2.PW X (.BoolOp .Or (b :: rest) pos) (tT X.K c W fb)) :
    L2.PW X (.BoolOp .Or (a :: b :: rest) pos) (tT X.K c W fun e S => (fa e S).bind fun x S1 => (R.ofO (truthA S1 x) S1).bind fun t S2 => if t = true then .ok x S2 else fb e S2) := by
  have h0 := L2.pw_or ha hb
  refine ⟨fun whole pins s σ H Q I h => h0.run whole pins s σ H Q I ?_⟩
  obtain ⟨e, m, S, re, s, h⟩ := h
  refine ⟨e, m, S, re, s, h.bind.imp fun x S1 m1 H1 e1 s1 h1 => ?_⟩
  obtain ⟨b, hb, h1⟩ := h1.bind.ofO s1
  refine ⟨b, hb, ?_⟩
  cases b with
  | true =>
    simp only [if_true] at h1 ⊢
    obtain ⟨b', hb', h1⟩ := h1.now s1
    rw [hb] at hb'
    cases hb'
    exact h1
  | false =>
    simp only [Bool.false_eq_true, if_false] at h1 ⊢
    exact ⟨e, m1, S1, re.mono s e1, s1, h1⟩
theorem pe_ifeE {a b d : Expr} {fa fb fc : Env → Store → R D} {pos : Pos} (hc : PT X d (tT X.K c W fc)) (ha : PE X a (tE X.K c W fa)) (hb : PE X b (tE X.K c W fb)) :
    PE X (.IfExp d a b pos) (tE X.K c W fun e S => (tru (fc e S)).bind fun t S1 => if t = true then fa e S1 else fb e S1) := by
  refine PE.imp (L2.pe_ifExp hc ha hb) fun σ H Q h => ?_
  obtain ⟨e, m, S, re, s, h⟩ := h
  refine ⟨e, m, S, re, s, (Aft.bind h).bind.imp fun x S1 m1 H1 e1 s1 h1 => ?_⟩
  obtain ⟨b, hb, h1⟩ := h1.ofO s1
  refine ⟨b, hb, ?_⟩
  cases b with
  | true =>
    simp only [if_true] at h1 ⊢
    exact ⟨e, m1, S1, re.mono s e1, s1, h1⟩
  | false =>
    simp only [Bool.false_eq_true, if_false] at h1 ⊢
    exact ⟨e, m1, S1, re.mono s e1, s1, h1⟩
/-- a value's truth as a test -/
theorem pt_plainE {a : Expr} {fa : Env → Store → R D} (ha : PE X a (tE X.K c W fa)) (he : ∀ whole, isTrue a X.env whole = (do let v ← whole; standAt a.pos; holding [v] (truthy v))) : PT X a (tT X.K c W fa) := by
  refine PT.imp (L2.pt_truth ha he) fun σ H Q h => ?_
  obtain ⟨e, m, S, re, s, h⟩ := h
  refine ⟨e, m, S, re, s, h.imp fun x S1 m1 H1 e1 s1 h1 v rv => ?_⟩
  obtain ⟨b, hb, h1⟩ := h1
  exact ⟨b, truthA_tru s1 rv hb, h1⟩

/-! ### names, constants, displays -/
theorem pe_kE {a : Expr} {d : D} {v : V} (h : PE X a (L2.tC v)) (r : ∀ (m : MM) (H : Hp), RV X.K c m H d v) : PE X a (tE X.K c W fun _ S => .ok d S) := by
  refine PE.imp h fun σ H Q h => ?_
  obtain ⟨e, m, S, re, s, h⟩ := h
  exact h.okv s (r _ _)
theorem pe_varE {a : Expr} {i : Nat} (h : PE X a (L2.tVar i)) : PE X a (tE X.K c W fun e S => match e[i]? with
    | some (some d) => .ok d S
    | _ => .bad) := by
  refine PE.imp h fun σ H Q h => ?_
  obtain ⟨e, m, S, re, s, h⟩ := h
  dsimp only at h
  split at h
  · rename_i d hd
    obtain ⟨v, h1, h2⟩ := re.at_ _ _ hd
    exact ⟨v, h1, h.okv s h2⟩
  · exact h.elim
theorem pa_nilE : PA X [] (tA X.K c W fun _ S => .ok [] S) := by
  refine PA.imp L2.pa_nil fun σ H Q h => ?_
  obtain ⟨e, m, S, re, s, h⟩ := h
  exact h m H .refl s _ .nil
theorem pa_consE {a : Expr} {es : List Expr} {fa : Env → Store → R D} {fs : Env → Store → R (List D)} (ha : PE X a (tE X.K c W fa)) (hs : PA X es (tA X.K c W fs)) (hst : starEach (a :: es) X.env = (false, eval a X.env) :: starEach es X.env) :
    PA X (a :: es) (tA X.K c W fun e S => (fa e S).bind fun x S1 => (fs e S1).bind fun xs S2 => .ok (x :: xs) S2) := by
  refine PA.imp (L2.pa_cons ha hs hst) fun σ H Q h => ?_
  obtain ⟨e, m, S, re, s, h⟩ := h
  refine ⟨e, m, S, re, s, h.bind.imp fun x S1 m1 H1 e1 s1 h1 v rv => ⟨e, m1, S1, re.mono s e1, s1, h1.bind.imp fun xs S2 m2 H2 e2 s2 h2 vs rvs => ?_⟩⟩
  exact h2 m2 H2 .refl s2 _ (.cons (rv.mono s1 e2) rvs)
theorem pe_tupE {es : List Expr} {fs : Env → Store → R (List D)} {k : Nat} {pos : Pos} (h : PA X es (tA X.K c W fs)) : PE X (.Tuple es k pos) (tE X.K c W fun e S => (fs e S).bind fun ds S1 => mkT ds S1) := by
  refine PE.imp (pe_tupS h) fun σ H Q h => ?_
  obtain ⟨e, m, S, re, s, h⟩ := h
  exact ⟨e, m, S, re, s, h.bind.imp fun ds S1 m1 H1 e1 s1 h1 vs rvs => mkT_new s1 rvs h1⟩
theorem pe_lstE {v : Bool} {es : List Expr} {fs : Env → Store → R (List D)} {pos : Pos} (h : PA X es (tA X.K c W fs)) : PE X (.List es pos) (tE X.K c W fun e S => (fs e S).bind fun ds S1 => mkL v ds S1) := by
  refine PE.imp (L2.pe_lst h) fun σ H Q h => ?_
  obtain ⟨e, m, S, re, s, h⟩ := h
  exact ⟨e, m, S, re, s, h.bind.imp fun ds S1 m1 H1 e1 s1 h1 vs rvs => mkL_new s1 rvs h1⟩
end
end Mn

/-! Mn5: subscripts, slices, what is built in, calls of defs. -/
namespace Mn
open PySem PySem.Spec PyProof.Rows
open L2 (V Hp HO Cx SqL SqT Rd St VK WX XK TE TA TS TT TG PE PA PS PSs PT PG Ends upd upd_same upd_ne OpR R2 Inv Dp DpAll UnR CallR)

section
variable {X : Cx} {c : Cfg} {W : WX}
theorem tB_of {fs : Env → Store → R (List D)} {g : List D → Store → R D} {r : List V → Hp → VK → Prop}
    (hr : ∀ (m : MM) (H : Hp) (S : Store) (ds : List D) (vs : List V) (σ : L2.St) (Q : VK), Sim X.K c m H S → RVs X.K c m H ds vs → Aft X.K c W σ m H (g ds S) (fun d _ m' H' => ∀ v, RV X.K c m' H' d v → Q v H') → r vs H Q) :
    ∀ σ H Q, tE X.K c W (fun e S => (fs e S).bind fun ds S1 => g ds S1) σ H Q → L2.tCB r (tA X.K c W fs) σ H Q := by
  rintro σ H Q ⟨e, m, S, re, s, h⟩
  exact ⟨e, m, S, re, s, h.bind.imp fun ds S1 m1 H1 e1 s1 h1 vs rvs => hr m1 H1 S1 ds vs σ Q s1 rvs h1⟩

/-! ### subscripts -/
theorem atI_rv {m : MM} {H : Hp} {l : List D} {vs : List V} {i : Int} {d : D} (r : RVs X.K c m H l vs) (h : L2.atI l i = some d) : ∃ v, L2.atI vs i = some v ∧ RV X.K c m H d v := by
  unfold L2.atI at h ⊢
  rw [← r.length]
  cases e : L2.ixN l.length i with
  | none => rw [e] at h; cases h
  | some j =>
    rw [e] at h
    simp only [Option.bind_some] at h ⊢
    exact r.getD h
theorem sub_ok (m : MM) (H : Hp) (S : Store) (x y : D) (u w : V) (σ : L2.St) (Q : VK) (s : Sim X.K c m H S) (rx : RV X.K c m H x u) (ry : RV X.K c m H y w)
    (h : Aft X.K c W σ m H (R.ofO (subA S x y) S) (fun d _ m' H' => ∀ v, RV X.K c m' H' d v → Q v H')) : L2.rIx X.K u w H Q := by
  obtain ⟨d, hd, hq⟩ := h.ofO s
  unfold subA at hd
  split at hd
  · rename_i i
    cases ry
    split at hd
    · rename_i z
      cases rx
      split at hd
      · rename_i hz
        cases e : L2.atI z.cps.toList i with
        | none => rw [e] at hd; cases hd
        | some cc =>
          rw [e] at hd
          cases hd
          exact .inr (.inr ⟨z, i, cc, rfl, rfl, hz, e, hq _ (.str _)⟩)
      · cases hd
    · cases e : seqA S x with
      | none => rw [e] at hd; cases hd
      | some l =>
        rw [e] at hd
        simp only [Option.bind_some] at hd
        obtain ⟨a, vs, rfl, h1, h2⟩ := seqA_sq s rx e
        obtain ⟨v, h3, h4⟩ := atI_rv h2 hd
        rcases h1 with h1 | h1
        · exact .inl ⟨a, vs, i, v, rfl, rfl, h1, h3, hq _ h4⟩
        · exact .inr (.inl ⟨a, vs, i, v, rfl, rfl, h1, h3, hq _ h4⟩)
  · cases hd
theorem pe_subE {a b : Expr} {fa fb : Env → Store → R D} {pos : Pos} (ha : PE X a (tE X.K c W fa)) (hb : PE X b (tE X.K c W fb)) (hs : L2.PlainIx b) :
    PE X (.Subscript a b pos) (tE X.K c W fun e S => (fa e S).bind fun x S1 => (fb e S1).bind fun y S2 => R.ofO (subA S2 x y) S2) :=
  PE.imp (L2.pe_ix L2.ix_seq ha hb hs) (tE_op (g := fun x y S2 => R.ofO (subA S2 x y) S2) sub_ok)

/-! ### slices -/
def tO (K : Frag) (c : Cfg) (W : WX) (f : Env → Store → R (Option Int)) : L2.TO := fun σ H Q => ∃ (e : Env) (m : MM) (S : Store), EnvR K c m H e σ ∧ Sim K c m H S ∧ Aft K c W σ m H (f e S) fun i _ _ H' => Q i H'
theorem po_noneE : L2.PO X none (tO X.K c W fun _ S => .ok none S) := by
  have h0 := L2.po_none (X := X)
  refine ⟨fun pins s σ H Q I h => h0.run pins s σ H Q I ?_⟩
  obtain ⟨e, m, S, re, s, h⟩ := h
  exact h.now s
theorem po_someE {a : Expr} {fa : Env → Store → R D} (ha : PE X a (tE X.K c W fa)) : L2.PO X (some a) (tO X.K c W fun e S => (fa e S).bind fun x S1 => (R.ofO (optI x) S1).bind fun i S2 => .ok (some i) S2) := by
  have h0 := L2.po_some ha
  refine ⟨fun pins s σ H Q I h => h0.run pins s σ H Q I ?_⟩
  obtain ⟨e, m, S, re, s, h⟩ := h
  refine ⟨e, m, S, re, s, h.bind.imp fun x S1 m1 H1 e1 s1 h1 v rv => ?_⟩
  obtain ⟨i, hi, h1⟩ := h1.bind.ofO s1
  cases rv <;> simp only [optI, reduceCtorEq, Option.some.injEq] at hi
  subst hi
  exact ⟨_, rfl, h1.now s1⟩
theorem cut_rv {m : MM} {H : Hp} {l : List D} {vs : List V} (r : RVs X.K c m H l vs) (lo hi : Option Int) : RVs X.K c m H (cutA l lo hi) (L2.cutV vs lo hi) := by
  unfold cutA L2.cutV
  rw [← r.length]
  exact (r.drop _).take _
theorem slc_ok {v : Bool} {m : MM} {H : Hp} {S : Store} {x : D} {i j : Option Int} {u : V} {σ : L2.St} {Q : VK} (s : Sim X.K c m H S) (rx : RV X.K c m H x u)
    (h : Aft X.K c W σ m H (slcA v x i j S) (fun d _ m' H' => ∀ v, RV X.K c m' H' d v → Q v H')) : (rSlS2 X.K u i j H Q ∨ L2.rSlL X.K u i j H Q) ∨ L2.rSlS u i j H Q := by
  unfold slcA at h
  split at h
  · cases rx with
    | tup h1 h2 =>
      rename_i l a vs
      refine .inl (.inl ⟨a, vs, rfl, h1.sq, fun hw => ?_, fun hw p us hp => ?_⟩)
      · have e : cutA l i j = l := by
          unfold cutA
          rw [h2.length, hw.1, hw.2, List.drop_zero, Nat.sub_zero, ← h2.length, List.take_length]
        rw [e] at h
        exact h.okv s (.tup h1 h2)
      · exact h m _ (Ext.fresh hp s) (s.fresh hp) _ (RV.newTup s hp (cut_rv h2 i j))
  · cases rx
    obtain ⟨hz, h⟩ := Aft.if_ h
    exact .inr ⟨_, rfl, hz, h.now s _ (.str _)⟩
  · split at h
    · rename_i l e
      obtain ⟨a, vs, rfl, h1, h2⟩ := seqL_sq s rx e
      obtain ⟨hz, hq⟩ := mkL_new s (cut_rv h2 i j) h
      exact .inl (.inr ⟨a, vs, rfl, h1, hq⟩)
    · exact h.elim
theorem pe_slcE {v : Bool} {a : Expr} {lo hi : Option Expr} {fa : Env → Store → R D} {fl fh : Env → Store → R (Option Int)} {p2 pos : Pos} (ha : PE X a (tE X.K c W fa)) (hl : L2.PO X lo (tO X.K c W fl)) (hh : L2.PO X hi (tO X.K c W fh)) :
    PE X (.Subscript a (.Slice lo hi none p2) pos) (tE X.K c W fun e S => (fa e S).bind fun x S1 => (fl e S1).bind fun l S2 => (fh e S2).bind fun h S3 => slcA v x l h S3) := by
  refine PE.imp (L2.pe_slice ((sl_tupS.or L2.sl_list).or L2.sl_str) ha hl hh) fun σ H Q h => ?_
  obtain ⟨e, m, S, re, s, h⟩ := h
  exact ⟨e, m, S, re, s, h.bind.imp fun x S1 m1 H1 e1 s1 h1 u ru => ⟨e, m1, S1, re.mono s e1, s1, h1.bind.imp fun l S2 m2 H2 e2 s2 h2 =>
    ⟨e, m2, S2, (re.mono s e1).mono s1 e2, s2, h2.bind.imp fun h S3 m3 H3 e3 s3 h3 => slc_ok s3 ((ru.mono s1 e2).mono s2 e3) h3⟩⟩⟩

/-! ### what is built in -/
def rBlt (X : Cx) (f : String) : List V → Hp → VK → Prop := match f with
  | "len" => fun xs H Q => (∃ p ys, xs = [.ref p] ∧ (SqL X.K H p ys ∨ SqT X.K H p ys) ∧ Q (.int ys.length) H) ∨ (∃ z : Str, xs = [.str z] ∧ z.length ≤ sizeLine ∧ Q (.int z.length) H)
  | "max" => fun xs H Q => ∃ i j, xs = [.int i, .int j] ∧ Q (.int (if j > i then j else i)) H
  | "min" => fun xs H Q => ∃ i j, xs = [.int i, .int j] ∧ Q (.int (if j < i then j else i)) H
  | "sum" => L2.rSum X.K
  | "isinstance" => L2.rIsi X.K
  | "any" => L2.rAny X.K
  | "repr" => rRepr X.K
  | "all" => L2.rAll X.K
  | _ => fun _ _ _ => False
def isBlt (f : String) : Bool := ["len", "max", "min", "sum", "isinstance", "any", "all", "repr"].contains f
theorem cr_blt (X : Cx) (hc : X.calm = true) (hgd : X.A.guards = some []) (hu : X.A.units + 65 < cLine) (f : String) : CallR X (.builtin f) (rBlt X f) := by
  unfold rBlt
  split
  · exact L2.call_len_seq.or L2.call_len_str
  · exact L2.call_max2 hc
  · exact L2.call_min2 hc
  · exact L2.cr_sum hc
  · exact L2.call_isi
  · exact L2.cr_any hc
  · exact cr_repr hgd hu
  · exact L2.cr_all hc
  · exact fun _ _ _ _ _ _ _ _ _ h => h.elim
def rTy (X : Cx) (f : String) : List V → Hp → VK → Prop := match f with
  | "tuple" => fun xs H Q => ∃ p ys, xs = [.ref p] ∧ ((SqL X.K H p ys ∧ NewT H ys Q) ∨ (SqT X.K H p ys ∧ Q (.ref p) H))
  | "list" => fun xs H Q => ∃ p ys, xs = [.ref p] ∧ (SqL X.K H p ys ∨ SqT X.K H p ys) ∧ ∀ l, H l = none → Q (.ref l) (upd H l (.lst ys))
  | "int" => fun xs H Q => (∃ i, xs = [.int i] ∧ Q (.int i) H) ∨ ∃ k, xs = [.bl k] ∧ Q (.int (if k then 1 else 0)) H
  | _ => fun _ _ _ => False
def isTy (f : String) : Bool := ["tuple", "list", "int"].contains f
theorem cr_ty (X : Cx) (f : String) : CallR X (.type f) (rTy X f) := by
  unfold rTy
  split
  · exact call_tupleS
  · exact L2.call_list_of
  · exact L2.call_int1
  · exact fun _ _ _ _ _ _ _ _ _ h => h.elim
theorem intsOf_rv {m : MM} {H : Hp} : ∀ {ds : List D} {ns : List Int} {vs : List V}, intsOf ds = some ns → RVs X.K c m H ds vs → vs = ns.map V.int
  | [], _, _, h, .nil => by simp only [intsOf, Option.some.injEq] at h; subst h; rfl
  | d :: ds, _, _, h, .cons h1 h2 => by
    cases d <;> simp only [intsOf, reduceCtorEq] at h
    cases h1
    cases e : intsOf ds with
    | none => rw [e] at h; cases h
    | some ns =>
      rw [e] at h
      cases h
      rw [intsOf_rv e h2]
      rfl
theorem blsOf_rv {m : MM} {H : Hp} : ∀ {ds : List D} {ns : List Bool} {vs : List V}, blsOf ds = some ns → RVs X.K c m H ds vs → vs = ns.map V.bl
  | [], _, _, h, .nil => by simp only [blsOf, Option.some.injEq] at h; subst h; rfl
  | d :: ds, _, _, h, .cons h1 h2 => by
    cases d <;> simp only [blsOf, reduceCtorEq] at h
    cases h1
    cases e : blsOf ds with
    | none => rw [e] at h; cases h
    | some ns =>
      rw [e] at h
      cases h
      rw [blsOf_rv e h2]
      rfl
theorem strsOf_rv {m : MM} {H : Hp} : ∀ {ds : List D} {ns : List Str} {vs : List V}, strsOf ds = some ns → RVs X.K c m H ds vs → vs = ns.map V.str
  | [], _, _, h, .nil => by simp only [strsOf, Option.some.injEq] at h; subst h; rfl
  | d :: ds, _, _, h, .cons h1 h2 => by
    cases d <;> simp only [strsOf, reduceCtorEq] at h
    cases h1
    cases e : strsOf ds with
    | none => rw [e] at h; cases h
    | some ns =>
      rw [e] at h
      cases h
      rw [strsOf_rv e h2]
      rfl
theorem tyOf_tyx {m : MM} {H : Hp} {S : Store} {d : D} {v : V} {t : String} (s : Sim X.K c m H S) (r : RV X.K c m H d v) (h : tyOf S d = some t) : L2.TyX X.K H v (.type t) := by
  cases r with
  | non => cases h; exact .base .non
  | bl b => cases h; exact .base (.bl b)
  | int b => cases h; exact .base (.int b)
  | str b => cases h; exact .base (.str b)
  | tup h1 h2 =>
    cases h
    rcases h1 with ⟨o, h1, _⟩ | ⟨o, its, n, h1, h3, _⟩
    · exact .fTuple h1
    · exact .kTuple h1 h3
  | lst h1 h2 =>
    cases h
    rcases h1 with ⟨h1 | ⟨o, h1⟩, _⟩ | ⟨o, its, n, h1, h3, _⟩
    · exact .base (.lst h1)
    · exact .base (.frz h1)
    · exact .kList h1 h3
  | ref h1 =>
    simp only [tyOf] at h
    split at h
    · rename_i l e
      obtain ⟨a, vs, h2, h3, h4⟩ := s.at e
      rw [h1] at h2; cases h2
      cases h
      exact .base (.lst h3)
    · cases h
  | _ => simp [tyOf] at h
theorem blt_ok {v : Bool} {f : String} (hf : isBlt f = true) (m : MM) (H : Hp) (S : Store) (ds : List D) (vs : List V) (σ : L2.St) (Q : VK) (s : Sim X.K c m H S) (r : RVs X.K c m H ds vs)
    (h : Aft X.K c W σ m H (bltA v f ds S) (fun d _ m' H' => ∀ v, RV X.K c m' H' d v → Q v H')) : rBlt X f vs H Q := by
  unfold bltA at h
  split at h
  · -- len
    cases r with
    | cons r1 r2 =>
      cases r2
      split at h
      · cases r1
        obtain ⟨hz, h⟩ := Aft.if_ h
        exact .inr ⟨_, rfl, hz, h.okv s (.int _)⟩
      · split at h
        · rename_i l e
          obtain ⟨a, us, rfl, h1, h2⟩ := seqA_sq s r1 e
          refine .inl ⟨a, us, rfl, h1, ?_⟩
          rw [← h2.length]
          exact h.okv s (.int _)
        · exact h.elim
  · exact absurd hf (by decide)
  · exact absurd hf (by decide)
  · cases r with
    | cons r1 r2 =>
      cases r2 with
      | cons r2 r3 =>
        cases r3; cases r1; cases r2
        exact ⟨_, _, rfl, h.okv s (.int _)⟩
  · cases r with
    | cons r1 r2 =>
      cases r2 with
      | cons r2 r3 =>
        cases r3; cases r1; cases r2
        exact ⟨_, _, rfl, h.okv s (.int _)⟩
  · rename_i x
    cases r with
    | cons r1 r2 =>
      cases r2
      split at h
      · rename_i ns e
        cases e1 : seqL S x with
        | none => rw [e1] at e; cases e
        | some l =>
          rw [e1] at e
          obtain ⟨a, us, rfl, h1, h2⟩ := seqL_sq s r1 e1
          have e2 := intsOf_rv e h2
          subst e2
          exact ⟨a, ns, rfl, h1, h.okv s (.int _)⟩
      · exact h.elim
  · rename_i x
    cases r with
    | cons r1 r2 =>
      cases r2
      split at h
      · rename_i ns e
        cases e1 : seqL S x with
        | none => rw [e1] at e; cases e
        | some l =>
          rw [e1] at e
          obtain ⟨a, us, rfl, h1, h2⟩ := seqL_sq s r1 e1
          have e2 := blsOf_rv e h2
          subst e2
          exact ⟨a, ns, rfl, h1, h.okv s (.bl _)⟩
      · exact h.elim
  · rename_i x
    cases r with
    | cons r1 r2 =>
      cases r2
      split at h
      · rename_i ns e
        cases e1 : seqL S x with
        | none => rw [e1] at e; cases e
        | some l =>
          rw [e1] at e
          obtain ⟨a, us, rfl, h1, h2⟩ := seqL_sq s r1 e1
          have e2 := blsOf_rv e h2
          subst e2
          exact ⟨a, ns, rfl, h1, h.okv s (.bl _)⟩
      · exact h.elim
  · rename_i x
    cases r with
    | cons r1 r2 =>
      cases r2
      split at h
      · rename_i l p e1 e2
        obtain ⟨⟨k1, k2, k3, k4⟩, h⟩ := Aft.if_ h
        obtain ⟨a, us, rfl, _, _⟩ := seqA_sq s r1 e1
        exact ⟨a, p, rfl, py_dp s r1 e2, k1, k2, k3, k4, h.okv s (.str _)⟩
      · exact h.elim
  · exact absurd hf (by decide)
  · exact absurd hf (by decide)
  · cases r with
    | cons r1 r2 =>
      cases r2 with
      | cons r2 r3 =>
        cases r3; cases r2
        split at h
        · rename_i a e
          split at h
          · rename_i b e2
            exact ⟨_, _, _, _, b, rfl, .ty _, tyOf_tyx s r1 e, L2.kit_ty e2, h.okv s (.bl _)⟩
          · exact h.elim
        · exact h.elim
  · exact h.elim
theorem ty_ok {v : Bool} {f : String} (hf : isTy f = true) (m : MM) (H : Hp) (S : Store) (ds : List D) (vs : List V) (σ : L2.St) (Q : VK) (s : Sim X.K c m H S) (r : RVs X.K c m H ds vs)
    (h : Aft X.K c W σ m H (bltA v f ds S) (fun d _ m' H' => ∀ v, RV X.K c m' H' d v → Q v H')) : rTy X f vs H Q := by
  unfold bltA at h
  split at h
  · exact absurd hf (by decide)
  · cases r with
    | cons r1 r2 =>
      cases r2
      split at h
      · obtain ⟨a, us, rfl, h1, h2⟩ := seqT_sq (x := .tup _) r1 rfl
        exact ⟨a, us, rfl, .inr ⟨h1, h.okv s r1⟩⟩
      · split at h
        · rename_i l e
          obtain ⟨a, us, rfl, h1, h2⟩ := seqL_sq s r1 e
          exact ⟨a, us, rfl, .inl ⟨h1, (mkT_new s h2 h).2⟩⟩
        · exact h.elim
  · cases r with
    | cons r1 r2 =>
      cases r2
      split at h
      · rename_i l e
        obtain ⟨a, us, rfl, h1, h2⟩ := seqA_sq s r1 e
        exact ⟨a, us, rfl, h1, (mkL_new s h2 h).2⟩
      · exact h.elim
  · exact absurd hf (by decide)
  · exact absurd hf (by decide)
  · exact absurd hf (by decide)
  · exact absurd hf (by decide)
  · exact absurd hf (by decide)
  · exact absurd hf (by decide)
  · cases r with
    | cons r1 r2 =>
      cases r2; cases r1
      exact .inl ⟨_, rfl, h.okv s (.int _)⟩
  · cases r with
    | cons r1 r2 =>
      cases r2; cases r1
      exact .inr ⟨_, rfl, h.okv s (.int _)⟩
  · exact absurd hf (by decide)
  · exact h.elim
theorem pe_bltE {v : Bool} {f : String} {e : Expr} {es : List Expr} {fs : Env → Store → R (List D)} {p pos : Pos} (hf : isBlt f = true) (hc : X.calm = true) (hgd : X.A.guards = some []) (hu : X.A.units + 65 < cLine) (hg : L2.Gl X (Str.ofString f)) (hm : X.mg (Str.ofString f) = none) (hv : bootBuiltins (Str.ofString f) = some (.builtin f))
    (ha : PA X (e :: es) (tA X.K c W fs)) (hn : Str.ofString f ≠ "__name__") (hdb : (Str.ofString f == ("__debug__" : Str)) = false) (he : starEach (e :: es) X.env = (false, eval e X.env) :: starEach es X.env) (hpl : (backTo pos (starEach es X.env)).any (·.1) = false) :
    PE X (.Call (.Name (Str.ofString f) p) (e :: es) [] pos) (tE X.K c W fun e S => (fs e S).bind fun ds S1 => bltA v f ds S1) :=
  PE.imp (L2.pe_callB (cr_blt X hc hgd hu f) hg hm hv ha hn hdb he hpl) (tB_of (g := bltA v f) (blt_ok hf))
theorem pe_maxdE {a b : Expr} {fa fb : Env → Store → R D} {p kp pos : Pos} (hc : X.calm = true) (hu : X.A.units + 65 < cLine) (hg : L2.Gl X "max") (hm : X.mg "max" = none) (ha : PE X a (tE X.K c W fa)) (hb : PE X b (tE X.K c W fb)) (hs : starEach [a] X.env = [(false, eval a X.env)]) :
    PE X (.Call (.Name "max" p) [a] [⟨some (Str.ofString "default"), b, kp⟩] pos) (tE X.K c W fun e S => (fa e S).bind fun x S1 => (fb e S1).bind fun y S2 => R.ofO (maxdA S2 x y) S2) := by
  refine PE.imp (L2.pe_callBK (cr_maxDf hc hu) hg hm (show bootBuiltins "max" = some (.builtin "max") by decide +kernel) (L2.pa_cons ha L2.pa_nil hs) (L2.pk_cons hb L2.pk_nil) (by decide) (by decide) (by rw [hs]; rfl) (by rw [hs]; rfl)) fun σ H Q h => ?_
  obtain ⟨e, m, S, re, s, h⟩ := h
  refine ⟨e, m, S, re, s, h.bind.imp fun x S1 m1 H1 e1 s1 h1 u ru => ⟨e, m1, S1, re.mono s e1, s1, h1.bind.imp fun y S2 m2 H2 e2 s2 h2 v rv => ?_⟩⟩
  have ru := ru.mono s1 e2
  obtain ⟨z, hz, h2⟩ := h2.ofO s2
  unfold maxdA at hz
  split at hz
  · cases rv
    cases e3 : seqL S2 x with
    | none => rw [e3] at hz; cases hz
    | some l =>
      rw [e3] at hz
      cases e4 : intsOf l with
      | none => rw [Option.bind_some, e4] at hz; cases hz
      | some ns =>
        rw [Option.bind_some, e4] at hz
        cases hz
        obtain ⟨a', us, rfl, h3, h4⟩ := seqL_sq s2 ru e3
        cases intsOf_rv (X := X) e4 h4
        exact ⟨a', ns, _, rfl, rfl, h3, h2 _ (.int _)⟩
  · cases hz
theorem pe_tyE {v : Bool} {f : String} {e : Expr} {es : List Expr} {fs : Env → Store → R (List D)} {p pos : Pos} (hf : isTy f = true) (hg : L2.Gl X (Str.ofString f)) (hm : X.mg (Str.ofString f) = none) (hv : bootBuiltins (Str.ofString f) = some (.type f))
    (ha : PA X (e :: es) (tA X.K c W fs)) (hn : Str.ofString f ≠ "__name__") (hdb : (Str.ofString f == ("__debug__" : Str)) = false) (he : starEach (e :: es) X.env = (false, eval e X.env) :: starEach es X.env) (hpl : (backTo pos (starEach es X.env)).any (·.1) = false) :
    PE X (.Call (.Name (Str.ofString f) p) (e :: es) [] pos) (tE X.K c W fun e S => (fs e S).bind fun ds S1 => bltA v f ds S1) :=
  PE.imp (L2.pe_callTy (cr_ty X f) hg hm hv ha hn hdb he hpl) (tB_of (g := bltA v f) (ty_ok hf))
end
end Mn

/-! Mn6: methods, stores, calls; what is walked. -/
namespace Mn
open PySem PySem.Spec PyProof.Rows
open L2 (V Hp HO Cx SqL SqT Rd St VK WX XK TE TA TS TT TG TI PE PA PS PSs PT PG PI Ends upd upd_same upd_ne OpR R2 Inv Dp DpAll UnR CallR Walk)

section
variable {X : Cx} {c : Cfg} {W : WX}
/-! ### methods -/
theorem recvA_ty {m : MM} {H : Hp} {S : Store} {T : String} {o : D} {u : V} {z : Unit} (s : Sim X.K c m H S) (r : RV X.K c m H o u) (hT : T ≠ "tuple") (h : recvA T S o = some z) : L2.tyV X.K T u H := by
  unfold recvA at h
  split at h
  · cases e : seqL S o with
    | none => rw [e] at h; cases h
    | some l =>
      obtain ⟨a, vs, rfl, h1, h2⟩ := seqL_sq s r e
      exact .inl ⟨rfl, vs, h1⟩
  · split at h
    · cases r; rfl
    · cases h
  · exact absurd rfl hT
  · cases h
theorem tBM_of {fo : Env → Store → R D} {fs : Env → Store → R (List D)} {T : String} {g : D → List D → Store → R D} {r : V → List V → Hp → VK → Prop} (hT : T ≠ "tuple")
    (hr : ∀ (m : MM) (H : Hp) (S : Store) (o : D) (u : V) (ds : List D) (vs : List V) (σ : L2.St) (Q : VK), Sim X.K c m H S → RV X.K c m H o u → RVs X.K c m H ds vs → Aft X.K c W σ m H (g o ds S) (fun d _ m' H' => ∀ v, RV X.K c m' H' d v → Q v H') → r u vs H Q) :
    ∀ σ H Q, tE X.K c W (fun e S => (fo e S).bind fun x S1 => (R.ofO (recvA T S1 x) S1).bind fun _ S2 => (fs e S2).bind fun ds S3 => g x ds S3) σ H Q → L2.tBM X.K T r (tE X.K c W fo) (tA X.K c W fs) σ H Q := by
  rintro σ H Q ⟨e, m, S, re, s, h⟩
  refine ⟨e, m, S, re, s, h.bind.imp fun x S1 m1 H1 e1 s1 h1 u ru => ?_⟩
  obtain ⟨z, hz, h1⟩ := h1.bind.ofO s1
  exact ⟨recvA_ty s1 ru hT hz, e, m1, S1, re.mono s e1, s1, h1.bind.imp fun ds S2 m2 H2 e2 s2 h2 vs rvs => hr m2 H2 S2 x u ds vs σ Q s2 (ru.mono s1 e2) rvs h2⟩
theorem append_ok (m : MM) (H : Hp) (S : Store) (o : D) (u : V) (ds : List D) (vs : List V) (σ : L2.St) (Q : VK) (s : Sim X.K c m H S) (ro : RV X.K c m H o u) (r : RVs X.K c m H ds vs)
    (h : Aft X.K c W σ m H (mthA "list" "append" o ds S) (fun d _ m' H' => ∀ v, RV X.K c m' H' d v → Q v H')) : L2.rAppend u vs H Q := by
  have h : Aft X.K c W σ m H (appA o ds S) (fun d _ m' H' => ∀ v, RV X.K c m' H' d v → Q v H') := h
  unfold appA at h
  split at h
  · rename_i n x
    cases ro with
    | ref h1 =>
      cases r with
      | cons r1 r2 =>
        cases r2
        split at h
        · rename_i l e
          obtain ⟨hz, h⟩ := Aft.if_ h
          obtain ⟨a, us, h2, h3, h4⟩ := s.at e
          rw [h1] at h2; cases h2
          obtain ⟨e2, s2⟩ := s.write e h1 h3 (h4.append (.cons r1 .nil))
          exact ⟨_, us, _, rfl, rfl, h3, by rw [← h4.length]; exact hz, h _ _ e2 s2 _ .non⟩
        · exact h.elim
  · exact h.elim
theorem pop_ok (m : MM) (H : Hp) (S : Store) (o : D) (u : V) (ds : List D) (vs : List V) (σ : L2.St) (Q : VK) (s : Sim X.K c m H S) (ro : RV X.K c m H o u) (r : RVs X.K c m H ds vs)
    (h : Aft X.K c W σ m H (mthA "list" "pop" o ds S) (fun d _ m' H' => ∀ v, RV X.K c m' H' d v → Q v H')) : L2.rPopAt u vs H Q := by
  have h : Aft X.K c W σ m H (popA o ds S) (fun d _ m' H' => ∀ v, RV X.K c m' H' d v → Q v H') := h
  unfold popA at h
  split at h
  · rename_i n i h0
    cases ro with
    | ref h1 =>
      cases r with
      | cons r1 r2 =>
        cases r2
        cases r1
        split at h
        · rename_i l e
          obtain ⟨hz, h⟩ := Aft.if_ h
          obtain ⟨a, us, h2, h3, h4⟩ := s.at e
          rw [h1] at h2; cases h2
          cases e2 : l[i.toNat]? with
          | none =>
            rw [e2] at h
            exact h.elim
          | some d =>
            rw [e2] at h
            obtain ⟨y, hy, ry⟩ := h4.getD e2
            obtain ⟨x1, s1⟩ := s.write e h1 h3 (h4.erase i.toNat)
            have hlen := h4.length
            have h16 : sizeLine = 2 ^ 24 := rfl
            refine ⟨_, us, i, i.toNat, y, rfl, rfl, h3, by omega, by omega, PySem.seqIndex_of hz.1 (by rw [← hlen]; exact hz.2.1), hy, h _ _ x1 s1 _ (ry.mono s x1)⟩
        · exact h.elim
  · exact h.elim
theorem clear_ok (m : MM) (H : Hp) (S : Store) (o : D) (u : V) (σ : L2.St) (Q : VK) (s : Sim X.K c m H S) (ro : RV X.K c m H o u)
    (h : Aft X.K c W σ m H (clrA o S) (fun d _ m' H' => ∀ v, RV X.K c m' H' d v → Q v H')) : L2.rClear u [] H Q := by
  unfold clrA at h
  split at h
  · cases ro with
    | ref h1 =>
      split at h
      · rename_i l e
        obtain ⟨a, us, h2, h3, h4⟩ := s.at e
        rw [h1] at h2; cases h2
        obtain ⟨e2, s2⟩ := s.write e h1 h3 .nil
        exact ⟨_, us, rfl, rfl, h3, h _ _ e2 s2 _ .non⟩
      · exact h.elim
  · exact h.elim
theorem join_ok (m : MM) (H : Hp) (S : Store) (o : D) (u : V) (ds : List D) (vs : List V) (σ : L2.St) (Q : VK) (s : Sim X.K c m H S) (ro : RV X.K c m H o u) (r : RVs X.K c m H ds vs)
    (h : Aft X.K c W σ m H (mthA "str" "join" o ds S) (fun d _ m' H' => ∀ v, RV X.K c m' H' d v → Q v H')) :
    ∃ a p, ∃ ys : List Str, u = .str a ∧ vs = [.ref p] ∧ (SqL X.K H p (ys.map V.str) ∨ SqT X.K H p (ys.map V.str)) ∧ (ys.map (·.length)).sum + ys.length * a.length ≤ 16777216 ∧ Q (.str (Txt.join a ys)) H := by
  have h : Aft X.K c W σ m H (joinA o ds S) (fun d _ m' H' => ∀ v, RV X.K c m' H' d v → Q v H') := h
  unfold joinA at h
  split at h
  · rename_i a x h0
    cases ro
    cases r with
    | cons r1 r2 =>
      cases r2
      split at h
      · rename_i ys e
        obtain ⟨hz, h⟩ := Aft.if_ h
        cases e1 : seqA S x with
        | none => rw [e1] at e; cases e
        | some l =>
          rw [e1] at e
          obtain ⟨p, us, rfl, h1, h2⟩ := seqA_sq s r1 e1
          cases strsOf_rv (X := X) e h2
          exact ⟨a, p, ys, rfl, rfl, h1, hz, h.now s _ (.str _)⟩
      · exact h.elim
  · exact h.elim
theorem pe_mth1E {T n id : String} {r : V → List V → Hp → VK → Prop} {o a : Expr} {fo : Env → Store → R D} {fs : Env → Store → R (List D)} {apos cpos : Pos} (pa : PlainAttrs T) (slot : Slot T n id) (hty : typeOf (.builtin id) = pure (.type "method_descriptor")) (hm : L2.MtR X id r) (hT : T ≠ "tuple")
    (ok : ∀ (m : MM) (H : Hp) (S : Store) (o : D) (u : V) (ds : List D) (vs : List V) (σ : L2.St) (Q : VK), Sim X.K c m H S → RV X.K c m H o u → RVs X.K c m H ds vs → Aft X.K c W σ m H (mthA T n o ds S) (fun d _ m' H' => ∀ v, RV X.K c m' H' d v → Q v H') → r u vs H Q)
    (ho : PE X o (tE X.K c W fo)) (ha : PA X [a] (tA X.K c W fs)) (hbase : attributeBase o n X.env (eval o X.env) = eval o X.env)
    (hline : (apos.endLine == cpos.line) = true) (hs : starEach [a] X.env = [(false, eval a X.env)]) :
    PE X (.Call (.Attribute o n apos) [a] [] cpos) (tE X.K c W fun e S => (fo e S).bind fun x S1 => (R.ofO (recvA T S1 x) S1).bind fun _ S2 => (fs e S2).bind fun ds S3 => mthA T n x ds S3) := by
  refine PE.imp (L2.pe_bm pa slot hty hm ho ha hbase ?_ hline ?_ ?_) (tBM_of hT ok)
  · rw [hs]; rfl
  · rw [hs]; rfl
  · rfl
theorem pe_appendE {o a : Expr} {fo : Env → Store → R D} {fs : Env → Store → R (List D)} {apos cpos : Pos} (ho : PE X o (tE X.K c W fo)) (ha : PA X [a] (tA X.K c W fs)) (hbase : attributeBase o "append" X.env (eval o X.env) = eval o X.env)
    (hline : (apos.endLine == cpos.line) = true) (hs : starEach [a] X.env = [(false, eval a X.env)]) :
    PE X (.Call (.Attribute o "append" apos) [a] [] cpos) (tE X.K c W fun e S => (fo e S).bind fun x S1 => (R.ofO (recvA "list" S1 x) S1).bind fun _ S2 => (fs e S2).bind fun ds S3 => mthA "list" "append" x ds S3) :=
  pe_mth1E PySem.F.plainAttrs_list PySem.F.slot_list_append PySem.F.type_list_append L2.mt_append (by decide) append_ok ho ha hbase hline hs
theorem pe_popE {o a : Expr} {fo : Env → Store → R D} {fs : Env → Store → R (List D)} {apos cpos : Pos} (ho : PE X o (tE X.K c W fo)) (ha : PA X [a] (tA X.K c W fs)) (hbase : attributeBase o "pop" X.env (eval o X.env) = eval o X.env)
    (hline : (apos.endLine == cpos.line) = true) (hs : starEach [a] X.env = [(false, eval a X.env)]) :
    PE X (.Call (.Attribute o "pop" apos) [a] [] cpos) (tE X.K c W fun e S => (fo e S).bind fun x S1 => (R.ofO (recvA "list" S1 x) S1).bind fun _ S2 => (fs e S2).bind fun ds S3 => mthA "list" "pop" x ds S3) :=
  pe_mth1E PySem.F.plainAttrs_list PySem.F.slot_list_pop PySem.F.type_list_pop L2.mt_popAt (by decide) pop_ok ho ha hbase hline hs
theorem pe_joinE {o a : Expr} {fo : Env → Store → R D} {fs : Env → Store → R (List D)} {apos cpos : Pos} (ho : PE X o (tE X.K c W fo)) (ha : PA X [a] (tA X.K c W fs)) (hbase : attributeBase o "join" X.env (eval o X.env) = eval o X.env)
    (hline : (apos.endLine == cpos.line) = true) (hs : starEach [a] X.env = [(false, eval a X.env)]) :
    PE X (.Call (.Attribute o "join" apos) [a] [] cpos) (tE X.K c W fun e S => (fo e S).bind fun x S1 => (R.ofO (recvA "str" S1 x) S1).bind fun _ S2 => (fs e S2).bind fun ds S3 => mthA "str" "join" x ds S3) :=
  pe_mth1E PySem.F.plainAttrs_str PySem.F.slot_str_join PySem.F.type_str_join L2.mt_join (by decide) join_ok ho ha hbase hline hs
theorem pe_clearE {o : Expr} {fo : Env → Store → R D} {fs : Env → Store → R (List D)} {apos cpos : Pos} (hfs : ∀ e S, fs e S = .ok [] S) (ho : PE X o (tE X.K c W fo)) (hbase : attributeBase o "clear" X.env (eval o X.env) = eval o X.env)
    (hline : (apos.endLine == cpos.line) = true) :
    PE X (.Call (.Attribute o "clear" apos) [] [] cpos) (tE X.K c W fun e S => (fo e S).bind fun x S1 => (R.ofO (recvA "list" S1 x) S1).bind fun _ S2 => (fs e S2).bind fun ds S3 => mthA "list" "clear" x ds S3) := by
  refine PE.imp (L2.pe_bm0 PySem.F.plainAttrs_list PySem.F.slot_list_clear PySem.F.type_list_clear L2.mt_clear ho hbase hline) ?_
  rintro σ H Q ⟨e, m, S, re, s, h⟩
  refine ⟨e, m, S, re, s, h.bind.imp fun x S1 m1 H1 e1 s1 h1 u ru => ?_⟩
  obtain ⟨z, hz, h1⟩ := h1.bind.ofO s1
  refine ⟨recvA_ty s1 ru (by decide) hz, ?_⟩
  rw [hfs] at h1
  exact clear_ok (c := c) (W := W) m1 H1 S1 x u σ Q s1 ru (show Aft X.K c W σ m1 H1 (clrA x S1) _ from h1)
/-! ### o[i] = v -/
theorem set_rv {m : MM} {H : Hp} {S : Store} {x k y : D} {u i w : V} {σ : L2.St} {P : Hp → Prop} (s : Sim X.K c m H S) (rx : RV X.K c m H x u) (rk : RV X.K c m H k i) (ry : RV X.K c m H y w)
    (h : Aft X.K c W σ m H (setA x k y S) (fun _ _ _ H' => P H')) : L2.rSetL u i w H P := by
  unfold setA at h
  split at h
  · cases rx with
    | ref h1 =>
      cases rk
      split at h
      · rename_i l e
        split at h
        · rename_i j hj
          obtain ⟨a, us, h2, h3, h4⟩ := s.at e
          rw [h1] at h2; cases h2
          obtain ⟨e2, s2⟩ := s.write e h1 h3 (h4.set ry j)
          exact ⟨_, us, _, j, rfl, rfl, h3, by rw [← h4.length]; exact hj, h _ _ e2 s2⟩
        · exact h.elim
      · exact h.elim
  · exact h.elim

/-! ### calls of defs -/
/-- what a def of the reading promises -/
def spG (K : Frag) (c : Cfg) (f : List D → Store → R D) (n : Nat) : L2.Sp := fun vs H Q E => vs.length = n ∧ ∃ (m : MM) (S : Store) (ds : List D), RVs K c m H ds vs ∧ Sim K c m H S ∧
  Aft K c (fun cls dx _ H' => E cls dx H') [] m H (f ds S) fun d _ m' H' => ∀ v, RV K c m' H' d v → Q v H'
theorem pe_callE {k n : Nat} {f : Addr} {fd : FuncData} {ps : List Str} {x : Str} {e : Expr} {es : List Expr} {call : List D → Store → R D} {fs : Env → Store → R (List D)} {p pos : Pos} (F : FnG X.prog X.w X.K X.mg X.base (L2.CX X.prog X.w) k f fd ps (spG X.K c call n)) (hr : L2.Room k X.A) (hgd : X.A.guards = some []) (tk : L2.Takes X W)
    (hg : L2.Gl X x) (hm : X.mg x = some (.ref f)) (hk : PySem.W.keepIn X.K (.ref f) = true) (hb : L2.Binds X.K fd ps []) (ha : PA X (e :: es) (tA X.K c W fs)) (hn : ∀ e S, ∀ ds S', fs e S = .ok ds S' → ds.length = n)
    (hdb : (x == ("__debug__" : Str)) = false) (he : starEach (e :: es) X.env = (false, eval e X.env) :: starEach es X.env) (hpl : (backTo pos (starEach es X.env)).any (·.1) = false) :
    PE X (.Call (.Name x p) (e :: es) [] pos) (tE X.K c W fun e S => (fs e S).bind fun ds S1 => call ds S1) := by
  refine PE.imp (pe_callG F hr hgd hg hm hk hb (fun σ => L2.passAt tk σ) ha hdb he hpl) fun σ H Q h => ?_
  obtain ⟨e, m, S, re, s, h⟩ := h
  have hl : ∀ ds S', fs e S = .ok ds S' → ds.length = n := hn e S
  refine ⟨e, m, S, re, s, ?_⟩
  dsimp only at h
  revert h hl
  generalize fs e S = r
  intro h hl
  cases r with
  | bad => exact h
  | exc x S1 => exact h
  | ok ds S1 =>
    intro m1 H1 e1 s1 vs rvs
    have h1 : Aft X.K c W σ m1 H1 (call ds S1) _ := Aft.shift h e1
    refine ⟨by rw [← rvs.length]; exact hl ds S1 rfl, m1, S1, ds, rvs, s1, ?_⟩
    revert h1
    generalize call ds S1 = r
    intro h1
    cases r <;> exact h1
theorem pe_call0E {k : Nat} {f : Addr} {fd : FuncData} {ps : List Str} {x : Str} {call : List D → Store → R D} {p pos : Pos} (F : FnG X.prog X.w X.K X.mg X.base (L2.CX X.prog X.w) k f fd ps (spG X.K c call 0)) (hr : L2.Room k X.A) (hgd : X.A.guards = some []) (tk : L2.Takes X W)
    (hg : L2.Gl X x) (hm : X.mg x = some (.ref f)) (hk : PySem.W.keepIn X.K (.ref f) = true) (hb : L2.Binds X.K fd ps []) (hdb : (x == ("__debug__" : Str)) = false) :
    PE X (.Call (.Name x p) [] [] pos) (tE X.K c W fun e S => call [] S) := by
  refine ⟨fun pins s σ H Q I h => ?_⟩
  refine wpAny_Call_Name_kw (L2.ld_glob I hg hm ?_ hdb)
  obtain ⟨e, m, S, re, sm, h⟩ := h
  refine PySem.W.callWith_K0 I.kIn hk (runG (us := []) F hr hgd hb (L2.passAt tk σ) I .nil ⟨rfl, m, S, [], .nil, sm, ?_⟩)
  dsimp only at h
  revert h
  generalize call [] S = r
  intro h
  cases r <;> exact h

/-! ### what is walked -/
/-- J goes along the data l while the guard holds -/
structure Along (X : Cx) (c : Cfg) (J : L2.It) (l : List D) (g : Gd) (m : MM) (H : Hp) : Prop where
  go : ∀ (i : Nat) (d : D) (m2 : MM) (H2 : Hp) (S2 : Store), Ext m H m2 H2 → Sim X.K c m2 H2 S2 → gdOk S2 g → l[i]? = some d →
    J.go i H2 ∧ ∀ x H3, J.yld i H2 x H3 → Ext m2 H2 m2 H3 ∧ Sim X.K c m2 H3 S2 ∧ RV X.K c m2 H3 d x
  stop : ∀ (m2 : MM) (H2 : Hp) (S2 : Store), Ext m H m2 H2 → Sim X.K c m2 H2 S2 → gdOk S2 g → J.stop l.length H2
def tI (X : Cx) (c : Cfg) (W : WX) (f : Env → Store → R (List D × Gd)) : TI := fun σ H R => ∃ (e : Env) (m : MM) (S : Store), EnvR X.K c m H e σ ∧ Sim X.K c m H S ∧ Aft X.K c W σ m H (f e S) fun w _ m' H' => ∀ J, Along X c J w.1 w.2 m' H' → R J H'
theorem PI.imp {tg e : Expr} {t t' : TI} (h : PI X tg e t) (i : ∀ σ H R, t' σ H R → t σ H R) : PI X tg e t' := ⟨fun pins s σ H R I q => h.run pins s σ H R I (i _ _ _ q)⟩
/-- anything that is a list, a tuple, a text -/
def iAny (K : Frag) (tl : TE) : TI := fun σ H R => tl σ H fun x H1 => (∃ a, x = .ref a ∧ (∃ xs, SqL K H1 a xs) ∧ R (L2.Itl K a) H1) ∨ (∃ a, x = .ref a ∧ (∃ xs, SqT K H1 a xs) ∧ R (L2.Itt K a) H1) ∨ ∃ z, x = .str z ∧ R (L2.Its z) H1
theorem pi_any {tg l : Expr} {tl : TE} (hl : PE X l tl) : PI X tg l (iAny X.K tl) := by
  refine ⟨fun pins s σ H R I h => ?_⟩
  refine L2.thn (hl.run pins s σ H _ I h) fun v s1 ⟨x, H1, I1, r1, q1⟩ => ?_
  rcases q1 with ⟨a, rfl, ⟨xs, hq⟩, q⟩ | ⟨a, rfl, ⟨xs, hq⟩, q⟩ | ⟨z, rfl, q⟩
  · cases r1
    obtain ⟨its, rv, p, hz⟩ := I1.list hq
    refine wpAny_pyIter_list p.isList ?_
    refine ⟨s1.heap.objs.size, [s1.heap.objs.size], _, _, H1, rfl, I1.kept (t' := s1.toks) fun b o e => Heap.get?_push_of_some _ e, L2.turn_list a _, ⟨_, Heap.get?_push_size _ rfl, rfl, rfl⟩, fun b hb => ?_, q⟩
    have e : b = s1.heap.objs.size := by simpa using hb
    subst e
    exact I1.fpOk (Nat.le_refl _) (I1.hok.fresh (Nat.le_refl _))
  · cases r1
    obtain ⟨its, rv, p, hz⟩ := I1.tuple hq
    refine wpAny_pyIter_tuple (show s1.heap.IsTuple a its.toArray from p) ?_
    refine ⟨s1.heap.objs.size, [s1.heap.objs.size], _, _, H1, rfl, I1.kept (t' := s1.toks) fun b o e => Heap.get?_push_of_some _ e, L2.turn_tuple a _, ⟨_, Heap.get?_push_size _ rfl, rfl, rfl⟩, fun b hb => ?_, q⟩
    have e : b = s1.heap.objs.size := by simpa using hb
    subst e
    exact I1.fpOk (Nat.le_refl _) (I1.hok.fresh (Nat.le_refl _))
  · obtain ⟨t, rfl⟩ := r1
    cases ha : z.cps.all (· < 128)
    · exact wpAny_pyIter_wide ha (L2.pi_one (tk := s1.toks) I1 _ (L2.turn_str _ z t "str_iterator" (.inr rfl)) ⟨_, Heap.get?_push_size _ rfl, rfl, rfl⟩ q)
    · exact wpAny_pyIter_ascii ha (L2.pi_one (tk := s1.toks) I1 _ (L2.turn_str _ z t "str_ascii_iterator" (.inl rfl)) ⟨_, Heap.get?_push_size _ rfl, rfl, rfl⟩ q)
/-- the list stays as it was while the guard holds -/
theorem guard_sq {m m2 : MM} {H H2 : Hp} {S S2 : Store} {x : D} {u : V} {l : List D} (s : Sim X.K c m H S) (r : RV X.K c m H x u) (h : seqL S x = some l) (e : Ext m H m2 H2) (s2 : Sim X.K c m2 H2 S2) (g : gdOk S2 (gdOf S x)) :
    ∃ a vs, u = .ref a ∧ SqL X.K H2 a vs ∧ RVs X.K c m2 H2 l vs := by
  refine seqL_sq (S := S2) s2 (r.mono s e) ?_
  cases x with
  | lst k => exact h
  | ref n =>
    simp only [seqL] at h
    simp only [gdOf] at g
    cases e1 : S[n]? with
    | none => rw [e1] at h; cases h
    | some o =>
      rw [e1] at h g
      cases o with
      | lst k =>
        cases h
        simp only [gdOk] at g
        simp only [seqL, g.1]
      | dic _ _ => cases h
  | _ => simp [seqL] at h
theorem along_list {m : MM} {H : Hp} {S : Store} {x : D} {a : Addr} {l : List D} {g : Gd} (s : Sim X.K c m H S) (r : RV X.K c m H x (.ref a)) (h : seqL S x = some l) (hg : ∀ S2, gdOk S2 g → gdOk S2 (gdOf S x)) : Along X c (L2.Itl X.K a) l g m H where
  go := fun i d m2 H2 S2 e s2 g hd => by
    obtain ⟨a', vs, e1, h1, h2⟩ := guard_sq s r h e s2 (hg _ g)
    cases e1
    obtain ⟨v, hv, rv⟩ := h2.getD hd
    refine ⟨⟨vs, v, h1, hv⟩, fun y H3 hy => ?_⟩
    obtain ⟨rfl, hy⟩ := hy
    have := hy vs h1
    rw [hv] at this; cases this
    exact ⟨.refl, s2, rv⟩
  stop := fun m2 H2 S2 e s2 g => by
    obtain ⟨a', vs, e1, h1, h2⟩ := guard_sq s r h e s2 (hg _ g)
    cases e1
    exact ⟨vs, h1, by rw [h2.length]; exact Nat.le_refl _⟩
theorem along_tup {m : MM} {H : Hp} {S : Store} {a : Addr} {vs : List V} {l : List D} {g : Gd} (s : Sim X.K c m H S) (h1 : SqT X.K H a vs) (h2 : RVs X.K c m H l vs) : Along X c (L2.Itt X.K a) l g m H where
  go := fun i d m2 H2 S2 e s2 g hd => by
    have h3 := e.tup s h1
    obtain ⟨v, hv, rv⟩ := (h2.mono s e).getD hd
    refine ⟨⟨vs, v, h3, hv⟩, fun y H3 hy => ?_⟩
    obtain ⟨rfl, hy⟩ := hy
    have := hy vs h3
    rw [hv] at this; cases this
    exact ⟨.refl, s2, rv⟩
  stop := fun m2 H2 S2 e s2 g => ⟨vs, e.tup s h1, by rw [h2.length]; exact Nat.le_refl _⟩
theorem along_str {m : MM} {H : Hp} {z : Str} {g : Gd} : Along X c (L2.Its z) (z.cps.toList.map fun c => .str ⟨#[c]⟩) g m H where
  go := fun i d m2 H2 S2 e s2 g hd => by
    have W := L2.walk_str (z := z)
    rw [List.getElem?_map] at hd
    cases e1 : z.cps.toList[i]? with
    | none => rw [e1] at hd; cases hd
    | some cc =>
      rw [e1] at hd
      cases hd
      have hi : i < z.cps.size := by
        have := (List.getElem?_eq_some_iff.mp e1).1
        simpa using this
      refine ⟨W.goes i H2 hi trivial, fun y H3 hy => ?_⟩
      obtain ⟨rfl, c', hc, rfl⟩ := W.yields i H2 y H3 hi trivial hy
      rw [Array.getElem?_toList] at e1
      rw [e1] at hc; cases hc
      exact ⟨.refl, s2, .str _⟩
  stop := fun m2 H2 S2 e s2 g => by
    have W := L2.walk_str (z := z)
    rw [List.length_map, Array.length_toList]
    exact W.stops H2 trivial
theorem along_rng {m : MM} {H : Hp} {lo : Int} {n : Nat} {g : Gd} : Along X c (L2.Itr lo n) (rng lo n 1) g m H where
  go := fun i d m2 H2 S2 e s2 g hd => by
    unfold rng at hd
    rw [List.getElem?_map] at hd
    cases e1 : (List.range n)[i]? with
    | none => rw [e1] at hd; cases hd
    | some j =>
      rw [e1] at hd
      cases hd
      obtain ⟨hi, hj⟩ := List.getElem?_eq_some_iff.mp e1
      rw [List.getElem_range] at hj
      subst hj
      rw [List.length_range] at hi
      refine ⟨hi, fun y H3 hy => ?_⟩
      obtain ⟨rfl, rfl⟩ := hy
      show _ ∧ _ ∧ RV X.K c m2 _ (.int (lo + (i : Nat) * 1)) _
      rw [Int.mul_one]
      exact ⟨.refl, s2, .int _⟩
  stop := fun m2 H2 S2 e s2 g => by
    unfold rng
    rw [List.length_map, List.length_range]
    exact Nat.le_refl n
theorem pi_seqE {tg a : Expr} {fa : Env → Store → R D} (ha : PE X a (tE X.K c W fa)) : PI X tg a (tI X c W fun e S => (fa e S).bind fun x S1 => (R.ofO (itemsOf S1 x) S1).bind fun l S2 => .ok (l, gdOf S2 x) S2) := by
  refine PI.imp (pi_any ha) fun σ H R h => ?_
  obtain ⟨e, m, S, re, s, h⟩ := h
  refine ⟨e, m, S, re, s, h.bind.imp fun x S1 m1 H1 e1 s1 h1 v rv => ?_⟩
  obtain ⟨l, hl, h1⟩ := h1.bind.ofO s1
  have h1 := h1.now s1
  unfold itemsOf at hl
  split at hl
  · cases rv
    cases hl
    exact .inr (.inr ⟨_, rfl, h1 _ along_str⟩)
  · unfold seqA at hl
    split at hl
    · cases hl
      obtain ⟨a, vs, rfl, h2, h3⟩ := seqT_sq (x := .tup _) rv rfl
      exact .inr (.inl ⟨a, rfl, ⟨vs, h2⟩, h1 _ (along_tup s1 h2 h3)⟩)
    · obtain ⟨a, vs, rfl, h2, h3⟩ := seqL_sq s1 rv hl
      exact .inl ⟨a, rfl, ⟨vs, h2⟩, h1 _ (along_list s1 rv hl fun _ g => g)⟩
theorem pi_rng1E {tg a : Expr} {fa : Env → Store → R D} {p pos : Pos} (hg : L2.Gl X "range") (hm : X.mg "range" = none) (ha : PE X a (tE X.K c W fa)) (hs : starEach [a] X.env = [(false, eval a X.env)]) :
    PI X tg (.Call (.Name "range" p) [a] [] pos) (tI X c W fun e S => (fa e S).bind fun x S1 => match x with
      | .int j => if -(2 ^ 62) ≤ j ∧ j < 2 ^ 62 then .ok (rng 0 j.toNat 1, []) S1 else .bad
      | _ => .bad) := by
  refine PI.imp (L2.pi_range1 hg hm (L2.pa_cons ha L2.pa_nil hs) hs) fun σ H R h => ?_
  obtain ⟨e, m, S, re, s, h⟩ := h
  refine ⟨e, m, S, re, s, h.bind.imp fun x S1 m1 H1 e1 s1 h1 v rv => ?_⟩
  split at h1
  · cases rv
    obtain ⟨hz, h1⟩ := Aft.if_ h1
    exact ⟨_, rfl, hz.1, hz.2, h1.now s1 _ along_rng⟩
  · exact h1.elim
theorem pi_rng2E {tg a b : Expr} {fa fb : Env → Store → R D} {p pos : Pos} (hg : L2.Gl X "range") (hm : X.mg "range" = none) (ha : PE X a (tE X.K c W fa)) (hb : PE X b (tE X.K c W fb)) (hs : starEach [a, b] X.env = [(false, eval a X.env), (false, eval b X.env)]) (hs2 : starEach [b] X.env = [(false, eval b X.env)]) :
    PI X tg (.Call (.Name "range" p) [a, b] [] pos) (tI X c W fun e S => (fa e S).bind fun x S1 => (fb e S1).bind fun y S2 => match x, y with
      | .int i, .int j => if -(2 ^ 62) ≤ i ∧ i < 2 ^ 62 ∧ -(2 ^ 62) ≤ j ∧ j < 2 ^ 62 then .ok (rng i (j - i).toNat 1, []) S2 else .bad
      | _, _ => .bad) := by
  refine PI.imp (L2.pi_range2 hg hm (L2.pa_cons ha (L2.pa_cons hb L2.pa_nil hs2) (by rw [hs, hs2])) hs hs2) fun σ H R h => ?_
  obtain ⟨e, m, S, re, s, h⟩ := h
  refine ⟨e, m, S, re, s, h.bind.imp fun x S1 m1 H1 e1 s1 h1 u ru => ⟨e, m1, S1, re.mono s e1, s1, h1.bind.imp fun y S2 m2 H2 e2 s2 h2 v rv => ?_⟩⟩
  split at h2
  · cases ru; cases rv
    obtain ⟨hz, h2⟩ := Aft.if_ h2
    exact ⟨_, _, rfl, hz, h2.now s2 _ along_rng⟩
  · exact h2.elim
theorem along_enum {m : MM} {H : Hp} {S : Store} {x : D} {a : Addr} {l : List D} {g : Gd} (s : Sim X.K c m H S) (r : RV X.K c m H x (.ref a)) (h : seqL S x = some l) (hg : ∀ S2, gdOk S2 g → gdOk S2 (gdOf S x)) : Along X c (L2.Ite X.K a) (enumF 0 l) g m H := by
  have el : ∀ (l : List D) (n : Nat), (enumF n l).length = l.length := by
    intro l
    induction l with
    | nil => intro n; rfl
    | cons d r ih => intro n; simp [enumF, ih]
  have eg : ∀ (l : List D) (n i : Nat), (enumF n l)[i]? = l[i]?.map fun d => .wtp [.int ((n + i : Nat) : Int), d] := by
    intro l
    induction l with
    | nil => intro n i; simp [enumF]
    | cons d r ih =>
      intro n i
      cases i with
      | zero => simp [enumF]
      | succ i =>
        simp only [enumF, List.getElem?_cons_succ]
        rw [ih, show n + 1 + i = n + (i + 1) by omega]
  refine ⟨fun i d m2 H2 S2 e s2 g hd => ?_, fun m2 H2 S2 e s2 g => ?_⟩
  · obtain ⟨a', vs, e1, h1, h2⟩ := guard_sq s r h e s2 (hg _ g)
    cases e1
    rw [eg, Nat.zero_add] at hd
    cases e1 : l[i]? with
    | none => rw [e1] at hd; cases hd
    | some d' =>
      rw [e1] at hd
      cases hd
      obtain ⟨v, hv, rv⟩ := h2.getD e1
      refine ⟨⟨vs, v, h1, hv⟩, fun y H3 hy => ?_⟩
      obtain ⟨T, x', rfl, hT, rfl, hy⟩ := hy
      have := hy vs h1
      rw [hv] at this; cases this
      exact ⟨Ext.fresh hT s2, s2.fresh hT, RV.newWtp s2 hT (.cons (.int _) (.cons rv .nil))⟩
  · obtain ⟨a', vs, e1, h1, h2⟩ := guard_sq s r h e s2 (hg _ g)
    cases e1
    exact ⟨vs, h1, by rw [el, h2.length]; exact Nat.le_refl _⟩
theorem along_rngD {m : MM} {H : Hp} {lo : Int} {n : Nat} {g : Gd} : Along X c (L2.Itc lo (-1) n) (rng lo n (-1)) g m H where
  go := fun i d m2 H2 S2 e s2 g hd => by
    unfold rng at hd
    rw [List.getElem?_map] at hd
    cases e1 : (List.range n)[i]? with
    | none => rw [e1] at hd; cases hd
    | some j =>
      rw [e1] at hd
      cases hd
      obtain ⟨hi, hj⟩ := List.getElem?_eq_some_iff.mp e1
      rw [List.getElem_range] at hj
      subst hj
      rw [List.length_range] at hi
      refine ⟨hi, fun y H3 hy => ?_⟩
      obtain ⟨rfl, rfl⟩ := hy
      exact ⟨.refl, s2, .int _⟩
  stop := fun m2 H2 S2 e s2 g => by
    unfold rng
    rw [List.length_map, List.length_range]
    exact Nat.le_refl n
theorem zipF_get : ∀ (l k : List D) (i : Nat) (d : D), (zipF l k)[i]? = some d → ∃ a b, l[i]? = some a ∧ k[i]? = some b ∧ d = .wtp [a, b]
  | [], _, _, _, h => by simp [zipF] at h
  | _ :: _, [], _, _, h => by simp [zipF] at h
  | a :: r, b :: q, 0, d, h => by
    simp [zipF] at h
    exact ⟨a, b, rfl, rfl, h.symm⟩
  | a :: r, b :: q, i + 1, d, h => by
    simp only [zipF, List.getElem?_cons_succ] at h
    obtain ⟨x, y, h1, h2, h3⟩ := zipF_get r q i d h
    exact ⟨x, y, by simpa using h1, by simpa using h2, h3⟩
theorem zipF_len : ∀ (l k : List D), (zipF l k).length = min l.length k.length
  | [], _ => by simp [zipF]
  | _ :: _, [] => by simp [zipF]
  | a :: r, b :: q => by
    simp only [zipF, List.length_cons, zipF_len r q]
    omega
theorem gdOk_app {S : Store} : ∀ {g k : Gd}, gdOk S (g ++ k) → gdOk S g ∧ gdOk S k
  | [], _, h => ⟨True.intro, h⟩
  | (_, _) :: _, _, h => ⟨⟨h.1, (gdOk_app h.2).1⟩, (gdOk_app h.2).2⟩
theorem along_zip {m : MM} {H : Hp} {S : Store} {x y : D} {a b : Addr} {l k : List D} (s : Sim X.K c m H S) (r : RV X.K c m H x (.ref a)) (r2 : RV X.K c m H y (.ref b)) (h : seqL S x = some l) (h2 : seqL S y = some k) :
    Along X c (L2.Itz X.K a b) (zipF l k) (gdOf S x ++ gdOf S y) m H where
  go := fun i d m2 H2 S2 e s2 g hd => by
    obtain ⟨a', vs, e1, p1, p2⟩ := guard_sq s r h e s2 (gdOk_app g).1
    cases e1
    obtain ⟨b', us, e1, q1, q2⟩ := guard_sq s r2 h2 e s2 (gdOk_app g).2
    cases e1
    obtain ⟨d1, d2, k1, k2, rfl⟩ := zipF_get l k i d hd
    obtain ⟨v1, hv1, rv1⟩ := p2.getD k1
    obtain ⟨v2, hv2, rv2⟩ := q2.getD k2
    refine ⟨⟨vs, us, v1, v2, p1, q1, hv1, hv2⟩, fun z H3 hz => ?_⟩
    obtain ⟨T, x', y', rfl, hT, rfl, f1, f2⟩ := hz
    have f1 := f1 vs p1
    have f2 := f2 us q1
    rw [hv1] at f1; cases f1
    rw [hv2] at f2; cases f2
    exact ⟨Ext.fresh hT s2, s2.fresh hT, RV.newWtp s2 hT (.cons rv1 (.cons rv2 .nil))⟩
  stop := fun m2 H2 S2 e s2 g => by
    obtain ⟨a', vs, e1, p1, p2⟩ := guard_sq s r h e s2 (gdOk_app g).1
    cases e1
    obtain ⟨b', us, e1, q1, q2⟩ := guard_sq s r2 h2 e s2 (gdOk_app g).2
    cases e1
    refine ⟨vs, us, p1, q1, ?_⟩
    rw [zipF_len, p2.length, q2.length]
    omega
theorem along_zipT {m : MM} {H : Hp} {S : Store} {a b : Addr} {l k : List D} {vs us : List V} {g : Gd} (s : Sim X.K c m H S) (p1 : SqT X.K H a vs) (p2 : RVs X.K c m H l vs) (q1 : SqT X.K H b us) (q2 : RVs X.K c m H k us) :
    Along X c (RZ.ItzT X.K a b) (zipF l k) g m H where
  go := fun i d m2 H2 S2 e s2 g hd => by
    have p3 := e.tup s p1
    have q3 := e.tup s q1
    obtain ⟨d1, d2, k1, k2, rfl⟩ := zipF_get l k i d hd
    obtain ⟨v1, hv1, rv1⟩ := (p2.mono s e).getD k1
    obtain ⟨v2, hv2, rv2⟩ := (q2.mono s e).getD k2
    refine ⟨⟨vs, us, v1, v2, p3, q3, hv1, hv2⟩, fun z H3 hz => ?_⟩
    obtain ⟨T, x', y', rfl, hT, rfl, f1, f2⟩ := hz
    have f1 := f1 vs p3
    have f2 := f2 us q3
    rw [hv1] at f1; cases f1
    rw [hv2] at f2; cases f2
    exact ⟨Ext.fresh hT s2, s2.fresh hT, RV.newWtp s2 hT (.cons rv1 (.cons rv2 .nil))⟩
  stop := fun m2 H2 S2 e s2 g => by
    refine ⟨vs, us, e.tup s p1, e.tup s q1, ?_⟩
    rw [zipF_len, p2.length, q2.length]
    omega
theorem pi_rngDE {tg a b k : Expr} {fa fb fk : Env → Store → R D} {p pos : Pos} (hg : L2.Gl X "range") (hm : X.mg "range" = none) (ha : PE X a (tE X.K c W fa)) (hb : PE X b (tE X.K c W fb)) (hk : PE X k (tE X.K c W fk)) (hfk : ∀ e S, fk e S = .ok (.int (-1)) S)
    (hs : starEach [a, b, k] X.env = [(false, eval a X.env), (false, eval b X.env), (false, eval k X.env)]) (hs2 : starEach [b, k] X.env = [(false, eval b X.env), (false, eval k X.env)]) (hs3 : starEach [k] X.env = [(false, eval k X.env)]) :
    PI X tg (.Call (.Name "range" p) [a, b, k] [] pos) (tI X c W fun e S => (fa e S).bind fun x S1 => (fb e S1).bind fun y S2 => match x, y with
      | .int i, .int j => if -(2 ^ 62) ≤ i ∧ i < 2 ^ 62 ∧ -(2 ^ 62) ≤ j ∧ j < 2 ^ 62 then .ok (rng i (i - j).toNat (-1), []) S2 else .bad
      | _, _ => .bad) := by
  refine PI.imp (L2.pi_range3 hg hm (L2.pa_cons ha (L2.pa_cons hb (L2.pa_cons hk L2.pa_nil hs3) (by rw [hs2, hs3])) (by rw [hs, hs2])) (by rw [hs, hs2]) (by rw [hs2]; rfl)) fun σ H R h => ?_
  obtain ⟨e, m, S, re, s, h⟩ := h
  refine ⟨e, m, S, re, s, h.bind.imp fun x S1 m1 H1 e1 s1 h1 u ru => ⟨e, m1, S1, re.mono s e1, s1, h1.bind.imp fun y S2 m2 H2 e2 s2 h2 v rv => ⟨e, m2, S2, (re.mono s e1).mono s1 e2, s2, ?_⟩⟩⟩
  rw [hfk]
  split at h2
  · cases ru; cases rv
    obtain ⟨hz, h2⟩ := Aft.if_ h2
    intro m3 H3 e3 s3 w rw'
    cases rw'
    exact ⟨_, _, _, _, rfl, L2.RgC.neg hz.1 hz.2.1 hz.2.2.1 hz.2.2.2, h2 _ _ e3 s3 _ along_rngD⟩
  · exact h2.elim
theorem pi_zipE {elts : List Expr} {kk : Nat} {tpos : Pos} {a b : Expr} {fa fb : Env → Store → R D} {p pos : Pos} (hg : L2.Gl X "zip") (hm : X.mg "zip" = none) (ha : PE X a (tE X.K c W fa)) (hb : PE X b (tE X.K c W fb))
    (hs : starEach [a, b] X.env = [(false, eval a X.env), (false, eval b X.env)]) (hs2 : starEach [b] X.env = [(false, eval b X.env)]) :
    PI X (.Tuple elts kk tpos) (.Call (.Name "zip" p) [a, b] [] pos) (tI X c W fun e S => (fa e S).bind fun x S1 => (fb e S1).bind fun y S2 => match seqL S2 x, seqL S2 y with
      | some l, some k => .ok (zipF l k, gdOf S2 x ++ gdOf S2 y) S2
      | _, _ => match seqT x, seqT y with
        | some l, some k => .ok (zipF l k, []) S2
        | _, _ => .bad) := by
  refine PI.imp (RZ.pi_zipA hg hm (L2.pa_cons ha (L2.pa_cons hb L2.pa_nil hs2) (by rw [hs, hs2])) (by rw [hs, hs2]) (by rw [hs2]; rfl)) fun σ H R h => ?_
  obtain ⟨e, m, S, re, s, h⟩ := h
  refine ⟨e, m, S, re, s, h.bind.imp fun x S1 m1 H1 e1 s1 h1 u ru => ⟨e, m1, S1, re.mono s e1, s1, h1.bind.imp fun y S2 m2 H2 e2 s2 h2 v rv => ?_⟩⟩
  have ru := ru.mono s1 e2
  split at h2
  · rename_i l k p1 p2
    have h2 := h2.now s2
    obtain ⟨a1, vs, rfl, q1, q2⟩ := seqL_sq s2 ru p1
    obtain ⟨a2, us, rfl, q3, q4⟩ := seqL_sq s2 rv p2
    exact ⟨a1, a2, vs, us, rfl, .inl ⟨q1, q3, h2 _ (along_zip s2 ru rv p1 p2)⟩⟩
  · split at h2
    · rename_i l k p1 p2
      have h2 := h2.now s2
      obtain ⟨a1, vs, rfl, q1, q2⟩ := seqT_sq ru p1
      obtain ⟨a2, us, rfl, q3, q4⟩ := seqT_sq rv p2
      exact ⟨a1, a2, vs, us, rfl, .inr ⟨q1, q3, h2 _ (along_zipT s2 q1 q2 q3 q4)⟩⟩
    · exact h2.elim
end
end Mn

/-! Mn7: targets, comprehensions, loops. -/
namespace Mn
open PySem PySem.Spec PyProof.Rows
open L2 (V Hp HO Cx SqL SqT Rd St VK WX XK TE TA TS TT TG TI PE PA PS PSs PT PG PI Ends upd upd_same upd_ne OpR R2 Inv Dp DpAll UnR CallR Walk)

/-! ### targets -/
def setsS : List Nat → List V → L2.St → L2.St
  | i :: r, v :: vs, σ => setsS r vs (σ.set i (some v))
  | _, _, σ => σ
section
variable {X : Cx} {c : Cfg} {W : WX}
theorem asgs_env {m : MM} {H : Hp} : ∀ {is : List Nat} {ds : List D} {vs : List V} {e e' : Env} {σ : L2.St}, asgs is ds e = some e' → RVs X.K c m H ds vs → EnvR X.K c m H e σ → EnvR X.K c m H e' (setsS is vs σ) ∧ is.length = vs.length
  | [], _, _, _, _, _, h, .nil, re => by
    simp only [asgs, Option.some.injEq] at h
    subst h
    exact ⟨re, rfl⟩
  | [], _, _, _, _, _, h, .cons _ _, re => by simp [asgs] at h
  | i :: r, _, _, _, _, _, h, .nil, re => by simp [asgs] at h
  | i :: r, _, _, _, _, _, h, .cons h1 h2, re => by
    simp only [asgs] at h
    obtain ⟨h3, h4⟩ := asgs_env h h2 (re.set h1 i)
    exact ⟨h3, by simp [h4]⟩
theorem wipe_set {own : List Nat} {i : Nat} (hi : i ∈ own) : ∀ (σ : L2.St) (v : Option V), L2.wipe (σ.set i v) own = L2.wipe σ own := by
  induction own with
  | nil => cases hi
  | cons o r ih =>
    intro σ v
    unfold L2.wipe
    by_cases h : i ∈ r
    · rw [ih h]
    · have e : i = o := (List.mem_cons.mp hi).resolve_right h
      subst e
      have z : ∀ (r : List Nat) (σ : L2.St), i ∉ r → L2.wipe (σ.set i v) r = (L2.wipe σ r).set i v := by
        intro r
        induction r with
        | nil => intro σ _; rfl
        | cons a r ih2 =>
          intro σ hr
          unfold L2.wipe
          rw [ih2 σ fun z => hr (List.mem_cons_of_mem _ z)]
          rw [List.set_comm]
          exact fun z => hr (by rw [z]; exact List.mem_cons_self)
      rw [z r σ h, List.set_set]
theorem wipe_none : ∀ (own : List Nat) (σ : L2.St) (i : Nat), i ∈ own → (L2.wipe σ own).set i none = L2.wipe σ own
  | [], _, _, h => by cases h
  | o :: r, σ, i, h => by
    show ((L2.wipe σ r).set o none).set i none = (L2.wipe σ r).set o none
    by_cases e : i = o
    · subst e; rw [List.set_set]
    · have hr : i ∈ r := (List.mem_cons.mp h).resolve_left e
      rw [List.set_comm _ _ (fun z => e z.symm), wipe_none r σ i hr]
theorem wipe_idem' : ∀ (own r : List Nat) (σ : L2.St), (∀ i ∈ r, i ∈ own) → L2.wipe (L2.wipe σ own) r = L2.wipe σ own
  | _, [], _, _ => rfl
  | own, o :: r, σ, h => by
    show (L2.wipe (L2.wipe σ own) r).set o none = _
    rw [wipe_idem' own r σ fun i hi => h i (List.mem_cons_of_mem _ hi)]
    exact wipe_none own σ o (h o List.mem_cons_self)
theorem wipe_idem (own : List Nat) (σ : L2.St) : L2.wipe (L2.wipe σ own) own = L2.wipe σ own := wipe_idem' own own σ fun _ h => h
theorem wipe_sets {own : List Nat} : ∀ (is : List Nat) (vs : List V) (σ : L2.St), (∀ i ∈ is, i ∈ own) → L2.wipe (setsS is vs σ) own = L2.wipe σ own
  | [], _, _, _ => rfl
  | _ :: _, [], _, _ => rfl
  | i :: r, v :: vs, σ, h => by
    show L2.wipe (setsS r vs (σ.set i (some v))) own = _
    rw [wipe_sets r vs _ fun j hj => h j (List.mem_cons_of_mem _ hj)]
    exact wipe_set (h i List.mem_cons_self) σ _
def Tg.slots : Tg → List Nat
  | .nm i => [i]
  | .tp is => is
/-- a target's rule: what it asks of a value that is the datum -/
def TgOk (X : Cx) (c : Cfg) (tg : Tg) (g : TG) : Prop := ∀ (m : MM) (H : Hp) (d : D) (x : V) (e e' : Env) (σ : L2.St) (Q : L2.St → Hp → Prop), asg tg d e = some e' → RV X.K c m H d x → EnvR X.K c m H e σ →
  (∀ σ', EnvR X.K c m H e' σ' → (∀ own : List Nat, (∀ i ∈ tg.slots, i ∈ own) → L2.wipe σ' own = L2.wipe σ own) → Q σ' H) → g x σ H Q
theorem tg_nm (i : Nat) : TgOk X c (.nm i) (L2.gName i) := fun m H d x e e' σ Q h r re q => by
  simp only [asg, Option.some.injEq] at h
  subst h
  exact q _ (re.set r i) fun own ho => wipe_set (ho i (by simp [Tg.slots])) σ _
def gNames : List Nat → L2.TGs
  | [] => L2.gNil
  | i :: r => L2.gCons (L2.gName i) (gNames r)
theorem gNames_of : ∀ (is : List Nat) (vs : List V) (σ : L2.St) (H : Hp) (Q : L2.St → Hp → Prop), is.length = vs.length → Q (setsS is vs σ) H → gNames is vs σ H Q
  | [], [], _, _, _, _, q => ⟨rfl, q⟩
  | i :: r, v :: vs, σ, H, Q, h, q => ⟨v, vs, rfl, gNames_of r vs _ H Q (by simpa using h) q⟩
  | [], _ :: _, _, _, _, h, _ => by simp at h
  | _ :: _, [], _, _, _, h, _ => by simp at h
/-- (a, b, ..) = a tuple, or a list, of that length -/
def gSq (K : PySem.W.Frag) (n : Nat) (t : L2.TGs) : TG := fun v σ H Q => ∃ a xs, v = .ref a ∧ (SqT K H a xs ∨ SqL K H a xs) ∧ xs.length = n ∧ t xs σ H Q
theorem pg_sq {pos : Pos} {es : List Expr} {k : Nat} {t : L2.TGs} {n : Nat} (hc : X.calm = true) (h : L2.PGs X es t)
    (hn : (assignEach es X.env).length = n := by rfl) (hst : (assignEach es X.env).findIdx? (·.1) = none := by rfl) : PG X (.Tuple es k pos) (gSq X.K n t) := by
  refine ⟨fun pins s σ H v u Q I r hw => ?_⟩
  obtain ⟨a, xs, e1, hq, hl, hw⟩ := hw
  rcases hq with hq | hq
  · exact (L2.pg_tup hc h hn hst).run pins s σ H v u Q I r ⟨a, xs, e1, hq, hl, hw⟩
  · subst e1
    cases r
    obtain ⟨its, rv, hp, hz⟩ := I.list hq
    have hsz : (assignEach es X.env).length = its.toArray.size := by simp [hn, ← hl, rv.length]
    rw [assign_Tuple]
    refine wpAny_bind (wpAny_standAt ?_)
    unfold unpack
    rw [hsz, hst]
    refine wpAny_bind (wpAny_holding (PySem.W.kun_itemsOf (I.ok.hd hc) hp.isList fun h' hx => ?_))
    have I1 : L2.Inv X pins σ H { s with heap := h' } := I.kept (t' := s.toks) fun b o e => hx b o (Nat.ne_of_lt (Heap.lt_size e)) e
    exact h.run pins _ σ H xs _ Q I1 (by simpa using rv) hw
theorem tg_tp (is : List Nat) : TgOk X c (.tp is) (gSq X.K is.length (gNames is)) := fun m H d x e e' σ Q h r re q => by
  simp only [asg] at h
  split at h
  · rename_i l
    obtain ⟨a, vs, rfl, h1, h2⟩ := seqT_sq (x := .tup l) r rfl
    obtain ⟨h3, h4⟩ := asgs_env h h2 re
    exact ⟨a, vs, rfl, .inl h1, h4.symm, gNames_of is vs σ H Q h4 (q _ h3 fun own ho => wipe_sets is vs σ ho)⟩
  · cases r with
    | wtp h1 h2 =>
      obtain ⟨h3, h4⟩ := asgs_env h h2 re
      exact ⟨_, _, rfl, .inl h1, h4.symm, gNames_of is _ σ H Q h4 (q _ h3 fun own ho => wipe_sets is _ σ ho)⟩
  · cases r with
    | lst h1 h2 =>
      obtain ⟨h3, h4⟩ := asgs_env h h2 re
      exact ⟨_, _, rfl, .inr h1.sq, h4.symm, gNames_of is _ σ H Q h4 (q _ h3 fun own ho => wipe_sets is _ σ ho)⟩
  · cases h

/-! ### comprehensions -/
theorem compA_nil {α : Type} {g : Gd} {tg : Tg} {fc : Env → Store → R Bool} {ft : Env → Store → R D} {e0 : Env} {acc : List D} {S : Store} : compA g tg fc ft e0 [] acc S = if gdOk S g then .ok acc S else .bad := rfl
theorem lc_read {own : List Nat} {tg : Tg} {gt : TG} {v : Bool} {fi : Env → Store → R (List D × Gd)} {fc ft : Env → Store → R D} (ht : TgOk X c tg gt) (ho : ∀ i ∈ tg.slots, i ∈ own) :
    ∀ σ H Q, tE X.K c W (fun e S => (fi e S).bind fun w S1 => (compA w.2 tg (fun e S => tru (fc e S)) ft (wipe e own) w.1 [] S1).bind fun l S2 => mkL v l S2) σ H Q →
      L2.tLc (tI X c W fi) gt (tT X.K c (fun _ _ _ _ => False) fc) (tE X.K c (fun _ _ _ _ => False) ft) own σ H Q := by
  rintro σ H Q ⟨e, m, S, re, s, h⟩
  refine ⟨e, m, S, re, s, h.bind.imp fun w S1 m1 H1 e1 s1 h1 J al B hB => ?_⟩
  have re1 := re.mono s e1
  clear h
  obtain ⟨eB, sB⟩ := s1.tohide (o := .lst []) hB
  have h0 := Aft.bind0 h1
  have hBh : B ∉ m1.hid := (s1.none_out hB).2
  refine ⟨fun i n H => n = w.1.length - i ∧ i ≤ w.1.length ∧ ∃ (m2 : MM) (S2 : Store) (acc : List D) (accV : List V), Ext m1 H1 m2 H ∧ Sim X.K c m2 H S2 ∧ B ∈ m2.hid ∧ H B = some (.lst accV) ∧ RVs X.K c m2 H acc accV ∧
      Aft X.K c W σ m1 H1 (compA w.2 tg (fun e S => tru (fc e S)) ft (wipe e own) (w.1.drop i) acc S2) (fun a S1 _ _ => Aft X.K c W σ m1 H1 (mkL v a S1) fun d _ m' H' => ∀ v, RV X.K c m' H' d v → Q v H'),
    ⟨w.1.length, by simp, Nat.zero_le _, m1.hide B, S1, [], [], eB, sB, List.mem_cons_self, upd_same, .nil, h0⟩, ?_⟩
  rintro i n H ⟨rfl, hi, m2, S2, acc, accV, e2, s2, hb, hBv, ra, hA⟩
  by_cases hlt : i < w.1.length
  · rw [List.drop_eq_getElem_cons hlt] at hA
    obtain ⟨hgd, hA⟩ := Aft.if_ (show Aft X.K c W σ m1 H1 (if gdOk S2 w.2 then _ else .bad) _ from hA)
    cases ha : asg tg w.1[i] (wipe e own) with
    | none => rw [ha] at hA; exact hA.elim
    | some e3 =>
      rw [ha] at hA
      dsimp only at hA
      obtain ⟨hgo, hyl⟩ := al.go i w.1[i] m2 H S2 e2 s2 hgd (List.getElem?_eq_getElem hlt)
      refine .inr ⟨hgo, _, fun H' hN => ⟨w.1.length - (i + 1), by omega, hN⟩, fun x H3 hy => ?_⟩
      obtain ⟨e4, s4, rd⟩ := hyl x H3 hy
      have e5 := e2.trans e4
      refine ht m2 H3 w.1[i] x (wipe e own) e3 (L2.wipe σ own) _ ha rd ((re1.mono s1 e5).wipe own) fun σ' re' hw => ⟨?_, ?_⟩
      · rw [hw own ho]
        exact wipe_idem own σ
      · have hc := (Aft.bind0 hA).shift e5
        refine ⟨e3, m2, S2, re', s4, Aft.imp (Aft.bind0 (show Aft X.K c (fun _ _ _ _ => False) σ' m2 H3 (tru (fc e3 S2)) _ from hc.nox)) fun d S5 m5 H5 e6 s5 hd => ?_⟩
        have e7 := e5.trans e6
        have hB5 : H5 B = some (.lst accV) := (e4.trans e6).keep B _ hBv (s2.hid B hb).2 fun ps z => by cases z
        have hb5 : B ∈ m5.hid := (e4.trans e6).hid.1 B hb
        have ra5 := ra.mono s2 (e4.trans e6)
        obtain ⟨b, htr, hd⟩ := (Aft.shift hd e6).ofO s5
        refine ⟨b, htr, ?_⟩
        cases b with
        | false =>
          simp only [Bool.false_eq_true, if_false] at hd ⊢
          exact ⟨(by first | rfl | trivial), hlt, m5, S5, acc, accV, e7, s5, hb5, hB5, ra5, hd⟩
        | true =>
          simp only [if_true] at hd ⊢
          refine ⟨e3, m5, S5, re'.mono s4 e6, s5, Aft.imp ((Aft.bind0 hd).shift e7).nox fun y S8 m8 H8 e8 s8 hz yv ry => ?_⟩
          obtain ⟨hzl, hz⟩ := Aft.if_ hz
          have hB8 : H8 B = some (.lst accV) := e8.keep B _ hB5 (s5.hid B hb5).2 fun ps z => by cases z
          have hb8 : B ∈ m8.hid := e8.hid.1 B hb5
          have ra8 := ra5.mono s5 e8
          refine ⟨accV, hB8, by rw [← ra8.length]; exact hzl, (by first | rfl | trivial), hlt, m8, S8, acc ++ [y], accV ++ [yv], (e7.trans e8).other hB (by rw [hB8]; simp), s8.other hb8 hB8, hb8, upd_same, ?_, hz⟩
          have hT : ∀ vs, H8 B ≠ some (.tup vs) ∧ ∀ o', H8 B ≠ some (.frz o' (.tup vs)) := fun us => ⟨by rw [hB8]; simp, fun o' => by rw [hB8]; simp⟩
          exact (ra8.append (.cons ry .nil)).other hb8 hT (fun φ => by rw [hB8]; simp)
  · have ei : i = w.1.length := by omega
    subst ei
    rw [List.drop_length] at hA
    obtain ⟨hgd, hA⟩ := Aft.if_ (show Aft X.K c W σ m1 H1 (if gdOk S2 w.2 then .ok acc S2 else .bad) _ from hA)
    refine .inl ⟨al.stop m2 H S2 e2 s2 hgd, ?_⟩
    have hh : ∀ b ∈ m1.hid, b ∈ m2.hid := e2.hid.1
    have e9 : Ext m1 H1 ⟨m2.ix, m1.hid⟩ H := ⟨e2.pre, ⟨fun _ h => h, fun _ h => .inl h⟩, e2.keep, e2.stay⟩
    have hA := hA _ _ e9 (s2.unhide hh)
    dsimp only at hA
    unfold mkL at hA
    obtain ⟨hz, hA⟩ := Aft.if_ hA
    · cases v with
      | true => exact hA _ _ e9 (s2.unhide hh) _ (.lst (.inl ⟨.inl hBv, (s2.hid B hb).2, hBh⟩) (ra.unhide hh))
      | false =>
        obtain ⟨r, hr1, hr2⟩ := e2.pre
        have e10 : Ext m1 H1 ⟨m2.ix ++ [B], m1.hid⟩ H := ⟨⟨r ++ [B], by rw [hr1]; simp, fun a h => by
          rcases List.mem_append.mp h with h | h
          · exact hr2 a h
          · rw [List.mem_singleton.mp h]; exact hB⟩, ⟨fun _ h => h, fun _ h => .inl h⟩, e2.keep, e2.stay⟩
        refine hA _ _ e10 (s2.adopt hb hh hBh hBv ra) _ (.ref ?_)
        show (m2.ix ++ [B])[S2.length]? = some B
        rw [List.getElem?_append_right (by rw [s2.len]; exact Nat.le_refl _), s2.len]
        simp
end
end Mn

/-! MnG: any, all of a generator expression, calls within let be. -/
namespace Mn
open PySem PySem.Spec PyProof.Rows GenW
open L2 (V Hp HO Cx SqL SqT Rd St VK WX XK TE TA TS TT TG TI PE PA PS PSs PT PG PI Ends upd upd_same upd_ne OpR R2 Inv Dp DpAll UnR CallR Walk FpOk Turn BlkOk Un HOk)

/-! ### a def's table grows -/
section
variable {K : Frag} {c : Cfg} {m m' : MM} {H H' : Hp} {S : Store}
theorem Ext.tabbed {P : Addr} {ps qs : Array Value} (hP : H P = some (.tbl ps)) : Ext m H m (upd H P (.tbl qs)) :=
  ⟨⟨[], by simp, by simp⟩, ⟨fun _ h => h, fun _ h => .inl h⟩, fun a u h _ ht => by
    have e : a ≠ P := fun z => by
      subst z
      rw [hP] at h
      exact ht ps (Option.some.inj h).symm
    rw [upd_ne e]; exact h, fun a h => by
    by_cases e : a = P
    · subst e; rw [upd_same] at h; cases h
    · rw [upd_ne e] at h; exact h⟩
theorem Sim.tabbed {P : Addr} {ps qs : Array Value} (s : Sim K c m H S) (hP : H P = some (.tbl ps)) (ht : TriplesOk qs.toList) : Sim K c m (upd H P (.tbl qs)) S := by
  have e := Ext.tabbed (m := m) (qs := qs) hP
  refine ⟨s.len, s.nd, fun a ha => ⟨upd_some (s.hid a ha).1, (s.hid a ha).2⟩, fun n ob h => ?_, fun P' hP' => ?_⟩
  · obtain ⟨a, u, h1, h2, h3⟩ := s.obj n ob h
    have ea : a ≠ P := fun z => by
      subst z
      rw [hP] at h2
      cases h2
      cases h3
    exact ⟨a, u, h1, by rw [upd_ne ea]; exact h2, h3.mono s e⟩
  · by_cases ep : P' = P
    · subst ep
      exact ⟨qs, upd_same, ht⟩
    · obtain ⟨ps', h1, h2⟩ := s.tab P' hP'
      exact ⟨ps', by rw [upd_ne ep]; exact h1, h2⟩
end

/-! ### the frame -/
/-- the frame of a generator expression that was made at s, its iterator's objects at fp, its own object go -/
abbrev genCx (X : Cx) (s : Shared) (H : Hp) (cenv : PySem.Env) (A : Around) (fp : List Addr) (go : Addr × Obj) : Cx :=
  { X with A := A, s_0 := s, H_0 := H, env := cenv, outer := X.stack, stack := cenv :: X.stack, ex := fp, fn := fun _ => false, pn := [go], xe := fun _ _ => False }
abbrev cloOf (X : Cx) (scope : Scope) : List (Str × Addr) := L2.cloFrom X.env.cells scope.names []
section
variable {X : Cx} {pins : List (Addr × Obj)} {σ : L2.St} {H : Hp} {s : Shared}
theorem gen_start {scope : Scope} {own : List (Str × Nat)} {fp : List Addr} {code : Value} {A : Around} {a : Addr} {go : Obj} {h5 : Heap} {g5 : Array GenState} {t5 : Nat} {it : Value} (I : Inv X pins σ H s) (ok : BlkOk X.N X.env.scope scope own) (hN : X.N.Nodup)
    (hnc : ∀ y ∈ scope.names, y.2 ≠ .cell) (hfp : ∀ b ∈ fp, FpOk X pins H b ∧ b < s.heap.objs.size) (hA : A.handled = none) (hfr : A.frames = some (genEnv scope (cloOf X scope) s.heap.objs.size code builtinsNs X.env :: X.stack))
    (hns : h5.Ns s.heap.objs.size (fun y => if y = ".0" then some it else none)) (hk : ∀ b o, s.heap.get? b = some o → h5.get? b = some o) (ha : s.heap.objs.size < a) (hgo : h5.get? a = some go) (hgd : ∀ v, go.data ≠ .cell v) (hg : AllBare g5) :
    Inv (genCx X s H (genEnv scope (cloOf X scope) s.heap.objs.size code builtinsNs X.env) A fp (a, go)) [] (L2.wipe σ (own.map (·.2))) H { s with heap := h5, gens := g5, toks := t5 } := by
  have hfree : ∀ y ∈ scope.names, y.2 = .free → ∃ c, X.env.cells.lookup y.1 = some c := fun y hy e => by
    rcases ok.free y hy e with k | k
    · exact I.ok.has _ (.inl k)
    · exact I.ok.has _ (.inr k)
  generalize hcenv : genEnv scope (cloOf X scope) s.heap.objs.size code builtinsNs X.env = cenv at hfr
  have hL : cenv.locals = s.heap.objs.size := by rw [← hcenv]; rfl
  have hcl : cenv.cells = L2.cloFrom X.env.cells scope.names [] := by rw [← hcenv]; rfl
  have hsc : cenv.scope = scope := by rw [← hcenv]; rfl
  have cm : ∀ {y c}, (y, c) ∈ L2.cloFrom X.env.cells scope.names [] → X.env.cells.lookup y = some c ∧ c < s.heap.objs.size := fun {y c} hm => by
    rcases L2.cloFrom_mem hm with hm | ⟨h1, rfl⟩
    · cases hm
    · obtain ⟨c, hc⟩ := hfree _ h1 rfl
      rw [hc]
      obtain ⟨w, z⟩ := I.cell _ _ hc
      exact ⟨rfl, z.lt⟩
  have mem : ∀ {y c}, cenv.cells.lookup y = some c → X.env.cells.lookup y = some c ∧ c < s.heap.objs.size := fun {y c} e => by
    rw [hcl] at e
    exact cm (PySem.mem_of_lookup e)
  have look : ∀ {y}, scope.names.lookup y = some .free → ∃ c, cenv.cells.lookup y = some c ∧ X.env.cells.lookup y = some c := fun {y} hl => by
    have hy : (y, NameKind.free) ∈ scope.names := PySem.mem_of_lookup hl
    obtain ⟨c', e'⟩ := L2.mem_lookup (L2.cloFrom_has (cells := X.env.cells) (acc := []) hy)
    rw [← hcl] at e'
    exact ⟨c', e', (mem e').1⟩
  have okB : (genCx X s H cenv A fp (a, go)).Ok := by
    refine ⟨I.ok.mod, by show cenv.scope.kind = _; rw [hsc]; exact ok.kind, by show cenv.globals = _; rw [← hcenv]; exact I.ok.glob, by show cenv.builtins = _; rw [← hcenv]; rfl, by show s.heap.objs.size ≤ cenv.locals; rw [hL]; exact Nat.le_refl _,
      fun y z c e1 e2 => I.ok.inj y z c (mem e1).1 (mem e2).1, fun y hy => ?_, fun y c z e => (by cases z), fun _ => hA, hfr, .inr ⟨rfl, by show cenv.frame = some cenv.locals; rw [← hcenv]; rfl⟩, fun b hb => ⟨?_, fun y c e z => ?_⟩, I.bs, Nat.le_trans I.ok.bsz I.sz, fun b o e hb => ?_, fun b hb z => ?_, I.stack, I.stkFree⟩
    · show ∃ c, cenv.cells.lookup y = some c
      have hy : cenv.kindOf y = some .cell ∨ cenv.kindOf y = some .free := hy
      unfold PySem.Env.kindOf at hy
      rw [hsc] at hy
      rcases hy with hy | hy
      · exact absurd rfl (hnc _ (PySem.mem_of_lookup hy))
      · obtain ⟨c, h1, _⟩ := look hy
        exact ⟨c, h1⟩
    · show b ≠ cenv.locals
      rw [hL]; exact Nat.ne_of_lt (hfp b hb).2
    · exact (hfp b hb).1.2.2.2.2.1 y c (mem e).1 z
    · rcases (hfp b hb).1.2.2.2.1 with z | z
      · exact I.ok.noex b o e z
      · exact absurd (Nat.lt_of_lt_of_le (Heap.lt_size e) (Nat.le_trans I.ok.bsz z)) (Nat.lt_irrefl _)
    · rcases List.mem_cons.mp (I.stkSub b z) with z | z
      · exact (hfp b hb).1.2.1 z
      · exact (hfp b hb).1.2.2.1 z
  refine ⟨okB, rfl, hg, Un.kept hk, ⟨(fun y => if y = ".0" then some it else none), ?_, fun i y av e1 e2 e3 => ?_⟩, fun y c e => ?_, ?_, fun y c e => ?_, fun p hp => ?_, I.hok.kept hk, by rw [L2.wipe_length]; exact I.len⟩
  · show h5.Ns cenv.locals _
    rw [hL]
    exact hns
  · obtain ⟨e2, hne⟩ := L2.wipe_some e2
    have no : ∀ k, scope.names.lookup y = some k → ¬ (k = .local ∨ k = .cell) := fun k e hh => by
      rcases ok.own _ (PySem.mem_of_lookup e) hh with e' | e'
      · obtain ⟨p, hp, hpy⟩ := List.mem_map.mp e'
        have e3 := ok.ix p hp
        have : p.1 = y := hpy
        rw [this] at e3
        exact hne (List.mem_map.mpr ⟨p, hp, L2.nodup_ix hN e3 e1⟩)
      · exact e' (List.mem_of_getElem? e1)
    have e3 : L2.Vis cenv.scope y := e3
    rw [hsc] at e3
    have hfr : scope.names.lookup y = some .free := by
      rcases e3 with e3 | e3 | e3
      · exact absurd (.inl rfl) (no _ e3)
      · exact absurd (.inr rfl) (no _ e3)
      · exact e3
    obtain ⟨m, hn, hl⟩ := I.loc
    have hvis : L2.Vis X.env.scope y := (ok.free _ (PySem.mem_of_lookup hfr) rfl).elim (fun k => .inr (.inl k)) (fun k => .inr (.inr k))
    obtain ⟨w, r, q⟩ := hl i y av e1 e2 hvis
    refine ⟨w, r, .inr ⟨.inr (by show cenv.scope.names.lookup y = _; rw [hsc]; exact hfr), ?_⟩⟩
    obtain ⟨c, h1, h2⟩ := look hfr
    rcases q with ⟨k, _⟩ | ⟨_, c', e', z⟩
    · have k : X.env.scope.names.lookup y = some .local := k
      rcases ok.free _ (PySem.mem_of_lookup hfr) rfl with k' | k' <;> rw [show X.env.scope.names.lookup y = _ from k'] at k <;> cases k
    · rw [h2] at e'; cases e'
      exact ⟨c, h1, z.keeps hk⟩
  · obtain ⟨w, z⟩ := I.cell y c (mem e).1
    exact ⟨w, z.keeps hk⟩
  · show H cenv.locals = none
    rw [hL]; exact I.hok.fresh (Nat.le_refl _)
  · exact I.freeC y c (mem e).1
  · have e : p = (a, go) := by simpa using hp
    subst e
    refine ⟨hgo, I.hok.fresh (Nat.le_of_lt ha), ?_, fun z => ?_, hgd⟩
    · show a ≠ cenv.locals
      rw [hL]
      exact Nat.ne_of_gt ha
    · have z : a ∈ L2.frs X.stack := z
      rcases List.mem_cons.mp (I.stkSub a z) with z | z
      · exact absurd (Nat.lt_trans (by rw [z]; exact I.lt) ha) (Nat.lt_irrefl _)
      · exact I.nofs (Nat.le_of_lt ha) z
end

/-! ### its run -/
/-- it has come to b -/
def Fin1 (Y : Cx) (Q : Bool → Hp → Prop) (b : Bool) (s : Shared) : Prop := ∃ pins σ H, Inv Y pins σ H s ∧ Q b H
def GP (Y : Cx) (q : Bool) (Q : Bool → Hp → Prop) : Protocol := fun _ _ v s kap => ∃ b, v = .bool b ∧ (∃ pins σ H, Inv Y pins σ H s) ∧ (b = q → ∀ s'' : Shared, s''.heap = s.heap → s''.os = s.os → AllBare s''.gens → kap (.send .none) s'') ∧ (b ≠ q → Fin1 Y Q b s)
def GE1 (Y : Cx) (q : Bool) (Q : Bool → Hp → Prop) : GenEnd := fun n _ r s => r = .ok .next ∧ n = 0 ∧ Fin1 Y Q q s
theorem Inv.same {Y : Cx} {pins : List (Addr × Obj)} {σ : L2.St} {H : Hp} {s s'' : Shared} (I : Inv Y pins σ H s) (hh : s''.heap = s.heap) (ho : s''.os = s.os) (hb : AllBare s''.gens) : Inv Y pins σ H s'' :=
  I.call' (ch := []) ho (by rw [hh]; exact Un.refl) (by rw [hh]; exact I.hok) hb fun b hb => absurd hb (by simp)
theorem genA_cons {g : Gd} {q : Bool} {tg : Tg} {t : Env → Store → R D} {e0 : Env} {d : D} {r : List D} {S : Store} : genA g q tg t e0 (d :: r) S = if gdOk S g then (match asg tg d e0 with
      | none => .bad
      | some e1 => (t e1 S).nox.bind fun y S1 => match y with
        | .bl b => if b = q then genA g q tg t e0 r S1 else .ok b S1
        | _ => .bad) else .bad := rfl
section
variable {Y : Cx} {c : Cfg} {W : WX}
theorem seg_gen {As : Around} {elt tg iter : Expr} {scope : Scope} {pos : Pos} {it : Addr} {fp : List Addr} {tn : Nat → Heap → Prop} {J : L2.It} {gt : TG} {tgE : Tg} {ft : Env → Store → R D} {q : Bool} {l : List D} {gd : Gd} {e0 : Env} {σ0 : L2.St} {m1 : MM} {H1 : Hp} {own : List Nat} {Q : Bool → Hp → Prop} {σA : L2.St} {S0 : Store}
    (hA : As.over (.compLoop (.GeneratorExp elt [⟨tg, iter, [], 0⟩] scope pos) 0 (.ref it) .none Y.env) [] = Y.A) (hco : Y.env.scope.isCoroutine = false) (hcalm : Y.calm = true) (hxe : ∀ e s, Y.xe e s → False) (T : Turn Y.prog Y.w Y.K tg J fp it tn)
    (stat : ∀ {σ' : L2.St} {H' : Hp} {s' : Shared}, Inv Y [] σ' H' s' → (∀ b ∈ fp, H' b = none) → ∀ b ∈ fp, FpOk Y [] H' b) (al : Along Y c J l gd m1 H1) (pg : PG Y tg gt) (ht : TgOk Y c tgE gt) (ho : ∀ i ∈ tgE.slots, i ∈ own)
    (pe : PE Y elt (tE Y.K c (fun _ _ _ _ => False) ft)) (re : EnvR Y.K c m1 H1 e0 σ0) (sm1 : Sim Y.K c m1 H1 S0) :
    ∀ (k i : Nat) (s₀ s : Shared) (H : Hp) (m2 : MM) (S2 : Store), l.length - i = k → i ≤ l.length → Inv Y [] (L2.wipe σ0 own) H s → tn i s.heap → (∀ b ∈ fp, H b = none) → Ext m1 H1 m2 H → Sim Y.K c m2 H S2 →
      Aft Y.K c W σA m1 H1 (genA gd q tgE ft (wipe e0 own) (l.drop i) S2) (fun b _ _ H' => Q b H') →
      Seg (model Y.prog Y.w) As (GE1 Y q Q) (GP Y q Q) k s₀ (.compLoop (.GeneratorExp elt [⟨tg, iter, [], 0⟩] scope pos) 0 (.ref it) .none Y.env)
        ((model Y.prog Y.w).den (.compLoop (.GeneratorExp elt [⟨tg, iter, [], 0⟩] scope pos) 0 (.ref it) .none Y.env)) [] s := by
  intro k
  induction k with
  | zero =>
    intro i s₀ s H m2 S2 hk hi I st nf x2 sm hAf
    have hin : i = l.length := by omega
    subst hin
    rw [List.drop_length] at hAf
    obtain ⟨hgd, hAf⟩ := Aft.if_ (show Aft Y.K c W σA m1 H1 (if gdOk S2 gd then .ok q S2 else .bad) _ from hAf)
    show Seg _ As _ _ _ s₀ _ ((compTurn (.GeneratorExp elt [⟨tg, iter, [], 0⟩] scope pos) 0 (.ref it) .none Y.env).onRaise (leaving Y.env)) [] s
    rw [compTurn_gen, Sem.onRaise_eq_wrap]
    refine seg_bind_wrap (wpAny_standAt ?_)
    refine seg_bind_wrap ?_
    rw [hA]
    refine L2.thnF (T.done Y rfl rfl rfl hcalm l.length [] s _ H (fun _ _ => False) I (stat I nf) st (al.stop m2 H S2 x2 sm hgd)) fun r s6 ⟨hr, I6⟩ => ?_
    subst hr
    exact seg_end (.ok .next) ⟨rfl, rfl, [], _, H, I6, hAf m2 H x2 sm⟩
  | succ k ih =>
    intro i s₀ s H m2 S2 hk hi I st nf x2 sm hAf
    have hlt : i < l.length := by omega
    rw [List.drop_eq_getElem_cons hlt, genA_cons] at hAf
    obtain ⟨hgd, hAf⟩ := Aft.if_ hAf
    cases ha : asg tgE l[i] (wipe e0 own) with
    | none => rw [ha] at hAf; exact hAf.elim
    | some e3 =>
      rw [ha] at hAf
      dsimp only at hAf
      obtain ⟨hgo, hyl⟩ := al.go i l[i] m2 H S2 x2 sm hgd (List.getElem?_eq_getElem hlt)
      show Seg _ As _ _ _ s₀ _ ((compTurn (.GeneratorExp elt [⟨tg, iter, [], 0⟩] scope pos) 0 (.ref it) .none Y.env).onRaise (leaving Y.env)) [] s
      rw [compTurn_gen, Sem.onRaise_eq_wrap]
      refine seg_bind_wrap (wpAny_standAt ?_)
      refine seg_bind_wrap ?_
      rw [hA]
      refine L2.thnF (T.item Y rfl rfl rfl hcalm i [] s _ H (fun _ _ => False) I (stat I nf) st hgo) fun r s6 ⟨u, hr, h6⟩ => ?_
      subst hr
      refine seg_bind_wrap ?_
      rw [hA]
      refine L2.thnF h6 fun _ s7 ⟨x, H7, I7, r7, y7, st7, n7⟩ => ?_
      obtain ⟨e4, s4, rd⟩ := hyl x H7 y7
      have x5 := x2.trans e4
      have I7' := I7.pinned (stat I7 n7) (T.obj _ _ st7)
      refine seg_bind_wrap ?_
      rw [hA]
      have hg : gt x (L2.wipe σ0 own) H7 fun σ8 H8 => L2.wipe σ8 own = L2.wipe σ0 own ∧ tE Y.K c (fun _ _ _ _ => False) ft σ8 H8 fun v H9 => ∃ b, v = .bl b ∧
          (b = q → ∃ (m3 : MM) (S3 : Store), Ext m1 H1 m3 H9 ∧ Sim Y.K c m3 H9 S3 ∧ Aft Y.K c W σA m1 H1 (genA gd q tgE ft (wipe e0 own) (l.drop (i + 1)) S3) (fun b _ _ H' => Q b H')) ∧ (b ≠ q → Q b H9) := by
        refine ht m2 H7 l[i] x (wipe e0 own) e3 (L2.wipe σ0 own) _ ha rd ((re.mono sm1 x5).wipe own) fun σ' re' hw => ⟨?_, ?_⟩
        · rw [hw own ho]
          exact wipe_idem own σ0
        · have hc := (Aft.bind0 hAf).shift x5
          refine ⟨e3, m2, S2, re', s4, Aft.imp hc.nox fun y S8 m8 H8 e8 s8 hz yv ry => ?_⟩
          cases y with
          | bl b =>
            cases ry
            refine ⟨b, rfl, fun hb => ?_, fun hb => ?_⟩
            · dsimp only at hz
              rw [if_pos hb] at hz
              exact ⟨m8, S8, x5.trans e8, s8, hz⟩
            · dsimp only at hz
              rw [if_neg hb] at hz
              exact hz m8 H8 (x5.trans e8) s8
          | _ => exact hz.elim
      refine wpAny_mono (pg.run _ s7 _ H7 x u _ I7' r7 hg) (fun _ s8 ⟨σ8, H8, I8, hw8, q8⟩ => ?_) fun _ _ z => (hxe _ _ z).elim
      refine seg_bind_wrap ?_
      simp only [List.forIn_nil]
      refine wpAny_pure ?_
      simp only [if_true]
      have hy : ∀ v, yieldOut Y.env v = yieldValue v := fun v => by simp only [yieldOut, hco, Bool.false_eq_true, if_false]
      simp only [hy]
      rw [Sem.bind_eq_wrap', Sem.bind_eq_wrap', Sem.wrap_wrap, Sem.wrap_wrap]
      refine seg_wrap ?_
      rw [hA]
      refine wpAny_mono (pe.run _ s8 σ8 H8 _ I8 q8) (fun u9 s9 ⟨v9, H9, I9, r9, b, hv, h1, h2⟩ => ?_) fun _ _ z => (hxe _ _ z).elim
      subst hv
      have eu : u9 = .bool b := r9
      subst eu
      refine seg_at (seg_yield rfl rfl rfl ⟨b, rfl, ⟨_, _, _, I9⟩, fun hb s'' hh hos hbare => ?_, fun hb => ⟨_, _, _, I9, h2 hb⟩⟩)
      obtain ⟨m3, S3, x3, sm3, h3⟩ := h1 hb
      have I10 := Inv.same I9 hh hos hbare
      have pin' : ∀ b ∈ fp, ∀ o, s7.heap.get? b = some o → s''.heap.get? b = some o ∧ H9 b = none := fun b hb o e =>
        let z := I10.pin (b, o) (List.mem_append_right _ (List.mem_append_right _ (L2.mem_pinsAt hb e)))
        ⟨z.1, z.2.1⟩
      have hl : (L2.wipe σ0 own).length = σ8.length := by rw [← hw8, L2.wipe_length]
      refine seg_again rfl (ih (i + 1) s'' s'' H9 m3 S3 (by omega) hlt ((I10.unpinned (pins := [])).weak hl (fun j v e => ?_)) (T.keep _ _ _ st7 fun b hb o e => (pin' b hb o e).1) (fun b hb => ?_) x3 sm3 h3)
      · rw [← hw8] at e
        exact (L2.wipe_some e).1
      · obtain ⟨o, e, _⟩ := T.obj _ _ st7 b hb
        exact (pin' b hb o e).2

/-- from its begin -/
theorem seg_gen0 {As : Around} {elt tg iter : Expr} {scope : Scope} {pos : Pos} {it : Addr} {fp : List Addr} {tn : Nat → Heap → Prop} {J : L2.It} {R : GenEnd} {P : Protocol} {n : Nat} {s₀ s : Shared} (T : Turn Y.prog Y.w Y.K tg J fp it tn) (st : tn 0 s.heap)
    (loop : Seg (model Y.prog Y.w) As R P n s₀ (.compLoop (.GeneratorExp elt [⟨tg, iter, [], 0⟩] scope pos) 0 (.ref it) .none Y.env)
        ((model Y.prog Y.w).den (.compLoop (.GeneratorExp elt [⟨tg, iter, [], 0⟩] scope pos) 0 (.ref it) .none Y.env)) [] s) :
    Seg (model Y.prog Y.w) As R P n s₀ (.compStart (.GeneratorExp elt [⟨tg, iter, [], 0⟩] scope pos) 0 (.ref it) .none Y.env)
        ((model Y.prog Y.w).den (.compStart (.GeneratorExp elt [⟨tg, iter, [], 0⟩] scope pos) 0 (.ref it) .none Y.env)) [] s := by
  show Seg _ As _ _ _ s₀ _ ((compStart (.GeneratorExp elt [⟨tg, iter, [], 0⟩] scope pos) 0 (.ref it) .none Y.env).onRaise (leaving Y.env)) [] s
  unfold compStart
  rw [Sem.onRaise_eq_wrap]
  show Seg _ As _ _ _ s₀ _ ((ask >>= _).wrap _ _ _ _) [] s
  refine seg_bind_wrap (wpAny_askSetting ?_)
  split
  · exact seg_again rfl loop
  · first
      | exact seg_bind_wrap (wpAny_rule (seg_bind_wrap (wpAny_standAt (seg_bind_wrap (T.self _ 0 s _ _ st (seg_again rfl loop))))))
      | (refine seg_bind_wrap (wpAny_rule ?_); show Seg _ As _ _ _ s₀ _ ((standAt iter.pos >>= _).wrap _ _ _ _) [] s; exact seg_bind_wrap (wpAny_standAt (seg_bind_wrap (T.self _ 0 s _ _ st (seg_again rfl loop)))))
end

/-! ### the one who asks -/
/-- the generator g at a, ready -/
structure RdyG (Y : Cx) (As : Around) (q : Bool) (Q : Bool → Hp → Prop) (a : Addr) (g n : Nat) (s : Shared) : Prop where
  inv : ∃ pins σ H, Inv Y pins σ H s
  gen : s.heap.IsGen a g
  st : ∃ gs, s.gens[g]? = some gs ∧ ∀ s'' : Shared, s''.heap = s.heap → s''.os = s.os → AllBare s''.gens → gs.Goes (model Y.prog Y.w) As (GE1 Y q Q) (GP Y q Q) n (.send .none) s''
theorem bare_set {gs : Array GenState} {g : Nat} {x : GenState} (h : AllBare gs) (hx : x.bare = true) : AllBare (gs.setIfInBounds g x) := by
  intro y hy
  obtain ⟨i, hi, rfl⟩ := Array.mem_iff_getElem.mp hy
  by_cases e : g = i
  · subst e
    simp only [Array.getElem_setIfInBounds_self]
    exact hx
  · rw [Array.getElem_setIfInBounds_ne _ e] 
    exact h _ (Array.getElem_mem _)
    simpa using hi
theorem Inv.genSet {Y : Cx} {pins : List (Addr × Obj)} {σ : L2.St} {H : Hp} {s : Shared} {g : Nat} {x : GenState} (I : Inv Y pins σ H s) (hx : x.bare = true) : Inv Y pins σ H (s.setGen g x) :=
  Inv.same I rfl rfl (bare_set I.bare hx)
section
variable {Y : Cx} {A : Around} {q : Bool} {Q : Bool → Hp → Prop} {a : Addr} {g : Nat} {go : Obj}
theorem next_gen {E : Value → Shared → Prop} {n : Nat} {s : Shared} {Q' : Option Value → Shared → Prop} (hh : A.handled = none) (hd : A.depth < recursionLimit) (hpn : Y.pn = [(a, go)]) (hgen : ∀ h : Heap, h.get? a = some go → h.IsGen a g)
    (r : RdyG Y A.in1 q Q a g n s) (hQ1 : ∀ s', Fin1 Y Q q s' → Q' none s') (hQ2 : ∀ b s', b ≠ q → Fin1 Y Q b s' → Q' (some (.bool b)) s') (hQ3 : ∀ m s', m < n → RdyG Y A.in1 q Q a g m s' → Q' (some (.bool q)) s') :
    wpAny (model Y.prog Y.w) A (pyNext (.ref a)) Q' E s := by
  obtain ⟨⟨pins, σ, H, I⟩, hg, gs, hgs, hgo⟩ := r
  have hlt : g < s.gens.size := (Array.getElem?_eq_some_iff.mp hgs).1
  refine wpAny_gsz (n := g + 1) hlt ?_
  refine wpAny_pyNext_genexpQ (P := fun n _ s => n = 0 ∧ Fin1 Y Q q s) (Y := GP Y q Q) (n := n) hh I.nolimit hd hg hgs (hgo _ rfl rfl (bare_set I.bare rfl)) (fun v s₁ gs' hb hv => ?_) (fun s₁ hp h' hk => ?_)
  · obtain ⟨b, rfl, ⟨pins1, σ1, H1, I1⟩, h1, h2⟩ := hv
    intro hsz
    by_cases e : b = q
    · subst e
      cases n with
      | zero => exact (h1 rfl s₁ rfl rfl I1.bare).elim
      | succ m =>
        have hpin := (I1.pin (a, go) (by rw [hpn]; exact List.mem_append_left _ List.mem_cons_self)).1
        refine hQ3 m _ (Nat.lt_succ_self m) ⟨⟨pins1, σ1, H1, Inv.genSet I1 hb⟩, hgen _ hpin, gs', ?_, fun s'' hh2 hos hb2 => h1 rfl s'' hh2 hos hb2⟩
        have hsz2 : g < s₁.gens.size := by
          have z : (s₁.setGen g gs').gens.size = s₁.gens.size := setGen_size _ _ _
          rw [z] at hsz
          exact hsz
        show (s₁.gens.setIfInBounds g gs')[g]? = some gs'
        rw [Array.getElem?_setIfInBounds_self, if_pos hsz2]
    · obtain ⟨pins2, σ2, H2, I2, q2⟩ := h2 e
      exact hQ2 b _ e ⟨pins2, σ2, H2, Inv.genSet I2 hb, q2⟩
  · obtain ⟨_, pins2, σ2, H2, I2, q2⟩ := hp
    intro _
    exact hQ1 _ ⟨pins2, σ2, H2, I2.call' (ch := []) rfl (Un.kept hk) (I2.hok.kept hk) (bare_set I2.bare rfl) fun b hb => absurd hb (by simp), q2⟩

theorem all_gen {R : Result → Shared → Prop} (hh : A.handled = none) (hd : A.depth < recursionLimit) (hpn : Y.pn = [(a, go)]) (hgen : ∀ h : Heap, h.get? a = some go → h.IsGen a g)
    (hR : ∀ b s', Fin1 Y Q b s' → R (.ok (.ret (.bool b))) s') : ∀ (n : Nat) (s : Shared), RdyG Y A.in1.in1 true Q a g n s → codeAny (model Y.prog Y.w) A (.builtin "all.loop" ⟨[.ref a], []⟩) R s := by
  intro n
  induction n using Nat.strongRecOn with
  | ind n ih =>
    intro s r
    refine codeAny_builtin PySem.F.entry_all_loop ?_
    rw [Around.under_plainId PySem.F.plain_all_loop _]
    show wpAny _ A.in1 (pyNext (.ref a) >>= _) _ _ s
    refine wpAny_bind (next_gen (A := A.in1) hh hd hpn hgen r (fun s' h => ?_) (fun b s' hb h => ?_) fun m s' hm h => ?_)
    · exact wpAny_bind (wpAny_rule (wpAny_pure (hR true s' h)))
    · refine wpAny_bind (wpAny_holding (wpAny_truthy_bool ?_))
      refine wpAny_bind (wpAny_letGo ?_)
      have eb : b = false := by cases b <;> simp_all
      subst eb
      simp only [Bool.false_eq_true, if_false]
      exact wpAny_bind (wpAny_rule (wpAny_pure (hR false s' h)))
    · refine wpAny_bind (wpAny_holding (wpAny_truthy_bool ?_))
      refine wpAny_bind (wpAny_letGo ?_)
      simp only [if_true]
      exact wpAny_pure ⟨plainId_quiet PySem.F.plain_all_loop _, ih m hm s' h⟩
theorem any_gen {R : Result → Shared → Prop} (hh : A.handled = none) (hd : A.depth < recursionLimit) (hpn : Y.pn = [(a, go)]) (hgen : ∀ h : Heap, h.get? a = some go → h.IsGen a g)
    (hR : ∀ b s', Fin1 Y Q b s' → R (.ok (.ret (.bool b))) s') : ∀ (n : Nat) (s : Shared), RdyG Y A.in1.in1 false Q a g n s → codeAny (model Y.prog Y.w) A (.builtin "any.loop" ⟨[.ref a], []⟩) R s := by
  intro n
  induction n using Nat.strongRecOn with
  | ind n ih =>
    intro s r
    refine codeAny_builtin PySem.F.entry_any_loop ?_
    rw [Around.under_plainId PySem.F.plain_any_loop _]
    show wpAny _ A.in1 (pyNext (.ref a) >>= _) _ _ s
    refine wpAny_bind (next_gen (A := A.in1) hh hd hpn hgen r (fun s' h => ?_) (fun b s' hb h => ?_) fun m s' hm h => ?_)
    · exact wpAny_bind (wpAny_rule (wpAny_pure (hR false s' h)))
    · refine wpAny_bind (wpAny_holding (wpAny_truthy_bool ?_))
      refine wpAny_bind (wpAny_letGo ?_)
      have eb : b = true := by cases b <;> simp_all
      subst eb
      simp only [if_true]
      exact wpAny_bind (wpAny_rule (wpAny_pure (hR true s' h)))
    · refine wpAny_bind (wpAny_holding (wpAny_truthy_bool ?_))
      refine wpAny_bind (wpAny_letGo ?_)
      simp only [Bool.false_eq_true, if_false]
      exact wpAny_pure ⟨plainId_quiet PySem.F.plain_any_loop _, ih m hm s' h⟩
end

/-! ### it is made -/
theorem over_genL {A : Around} {e : Expr} {gs : List Comprehension} {sc : Scope} {p : Pos} {it acc : Value} {env : PySem.Env} : A.over (.compLoop (.GeneratorExp e gs sc p) 0 it acc env) [] = A.deeper env := by
  first
    | rfl
    | (obtain ⟨hd, d, fr, gs, u⟩ := A; simp [Around.over, Around.deeper, marksOver, frameCount, unitsOf, envsOf, guardsOf, pushEnvs, pushGuards, Code.envs, Code.env?, Code.isFrame, Code.guards, Code.isGuard, Code.weight, Code.frames, Code.isCreation, Code.isCaller, Code.cUnits])
section
variable {X : Cx} {c : Cfg} {W : WX}
/-- what a generator that was made promises -/
def Made1 (X : Cx) (pins : List (Addr × Obj)) (σ : L2.St) (q : Bool) (Q : VK) (u : Value) (s5 : Shared) : Prop :=
  ∃ (Y : Cx) (a : Addr) (g n : Nat) (go : Obj), u = .ref a ∧ Y.prog = X.prog ∧ Y.w = X.w ∧ Y.pn = [(a, go)] ∧ (∀ h : Heap, h.get? a = some go → h.IsGen a g) ∧ RdyG Y X.A.in1.in1 q (fun b H' => Q (.bl b) H') a g n s5 ∧
    ∀ b s', Fin1 Y (fun b H' => Q (.bl b) H') b s' → ∃ H', Inv X pins σ H' s' ∧ Q (.bl b) H'
theorem gen_made {c0 P : Addr} {elt tg iter : Expr} {gpos : Pos} {scope : Scope} {own : List (Str × Nat)} {owns : List Nat} {q : Bool} {gt : TG} {tgE : Tg} {fi : Env → Store → R (List D × Gd)} {ft : Env → Store → R D} {pins : List (Addr × Obj)} {σ : L2.St} {H : Hp} {s : Shared} {Q : VK} {j : Nat}
    (hr : L2.Room (j + 1) X.A) (hgu : X.A.guards = some []) (hcalm : X.calm = true) (hN : X.N.Nodup) (TB : GxR.TabB X.base X.mg c0 P) (hcode : X.env.code = .ref c0) (hPt : P ∈ c.tabs) (ok : BlkOk X.N X.env.scope scope own) (hown : own.map (·.2) = owns) (hnc : ∀ y ∈ scope.names, y.2 ≠ .cell)
    (hdot : scope.names.lookup (".0" : Str) = some NameKind.local) (hco : scope.isCoroutine = false) (hi : PI X tg iter (tI X c W fi)) (hs : ∀ v, genFold iter X.env v = pure v) (ht : TgOk X c tgE gt) (ho : ∀ i ∈ tgE.slots, i ∈ owns)
    (pg : ∀ (s : Shared) (H : Hp) (C : Addr) (code : Value) (A : Around) (fp : List Addr) (go : Addr × Obj), PG (genCx X s H (genEnv scope (cloOf X scope) C code builtinsNs X.env) A fp go) tg gt)
    (pe : ∀ (s : Shared) (H : Hp) (C : Addr) (code : Value) (A : Around) (fp : List Addr) (go : Addr × Obj), L2.Room j A → A.guards = some [] → PE (genCx X s H (genEnv scope (cloOf X scope) C code builtinsNs X.env) A fp go) elt (tE X.K c (fun _ _ _ _ => False) ft))
    (I : Inv X pins σ H s) (h : tE X.K c W (fun e S => (fi e S).bind fun w S1 => (genA w.2 q tgE ft (wipe e owns) w.1 S1).bind fun b S2 => .ok (.bl b) S2) σ H Q) :
    wpAny (model X.prog X.w) X.A (eval (.GeneratorExp elt [⟨tg, iter, [], 0⟩] scope gpos) X.env) (Made1 X pins σ q Q) X.xe s := by
  have hfree : ∀ y ∈ scope.names, y.2 = .free → ∃ c, X.env.cells.lookup y.1 = some c := fun y hy e => by
    rcases ok.free y hy e with k | k
    · exact I.ok.has _ (.inl k)
    · exact I.ok.has _ (.inr k)
  subst hown
  refine wpAny_GeneratorExp_make hco (L2.closure_ok hfree) hnc hdot ok.kind hr.depth ?_ hs
  obtain ⟨e, m, S, re, sm, h⟩ := h
  have hT : tI X c W fi σ H fun J H' => ∃ (w : List D × Gd) (m1 : MM) (S1 : Store), Along X c J w.1 w.2 m1 H' ∧ EnvR X.K c m1 H' e σ ∧ Sim X.K c m1 H' S1 ∧ Aft X.K c W σ m1 H' (genA w.2 q tgE ft (wipe e (own.map (·.2))) w.1 S1) fun b _ _ H'' => Q (.bl b) H'' :=
    ⟨e, m, S, re, sm, h.bind.imp fun w S1 m1 H1 e1 s1 h1 J al => ⟨w, m1, S1, al, re.mono sm e1, s1, h1.bind.imp fun b S2 m2 H2 e2 s2 h2 => h2.now s2 _ (.bl b)⟩⟩
  refine L2.thn (hi.run pins s σ H _ I hT) fun xv s1 hx => L2.thn hx fun itv s2 h2 => ?_
  obtain ⟨it, fp, tn, J, H2, rfl, I2, T, st2, f2, w, m1, S1, al, re1, sm1, hAf⟩ := h2
  obtain ⟨ps, hP, htr⟩ := sm1.tab P hPt
  have hPs : s2.heap.get? P = some { cls := .none, data := .fields ps } := I2.hok P _ hP
  have cd : PySem.W.CodeHd s2.heap c0 P := TB.code.keeps fun b u e => I2.bk b u e
  have cont : ∀ (code : Value) (h3 : Heap) (tk : Nat) (ps' : Array Value), Heap.ExtBut P s2.heap h3 → h3.get? P = some { cls := .none, data := .fields ps' } → (∃ more, ps' = ps ++ more) → TriplesOk ps'.toList →
      wpAny (model X.prog X.w) X.A (builtinsFor X.env.globals X.env.builtins) (fun bi s₄ =>
        ∀ h', h'.Ns s₄.heap.objs.size (fun y => if y = ".0" then some (.ref it) else none) → Heap.SameBut s₄.heap.objs.size (s₄.heap.push { cls := .type "frame", data := .dict #[] }) h' →
          Made1 X pins σ q Q (.ref h'.objs.size) { s₄ with
            gens := s₄.gens.push (.fresh (.compStart (.GeneratorExp elt [⟨tg, iter, [], 0⟩] scope gpos) 0 (.ref it) .none (genEnv scope (cloOf X scope) s₄.heap.objs.size code bi X.env))),
            toks := s₄.toks + 1 + 1 + 1,
            heap := h'.push { cls := .type "generator", data := .fields #[.int s₄.gens.size 0, .str "<genexpr>" (s₄.toks + 1), .str (X.env.qual ++ "<genexpr>") (s₄.toks + 1 + 1)] } }) X.xe { s2 with heap := h3, toks := tk } := by
    intro code h3 tk ps' hx hP3 ⟨more, hmore⟩ ht3
    subst hmore
    obtain ⟨bm, ob, e1, e2, e3, e4, e5, e6, e7, e8⟩ := TB.bm
    have keep3 : ∀ b u, b ≠ P → s2.heap.get? b = some u → h3.get? b = some u := fun b u hb e => hx b u hb e
    refine wpAny_builtinsFor (m := X.mg) (by rw [I2.ok.glob]; exact (I2.mod.glob.keeps I2.bk).extBut hx TB.gP) e1 e2 (keep3 _ _ e4 (I2.bk _ _ e5)) e6 e7 e8 ?_
    intro h' hn' hs'
    generalize hs3 : ({ s2 with heap := h3, toks := tk } : Shared) = s3 at hn' hs' ⊢
    have I3 : Inv X pins σ (upd H2 P (.tbl (ps ++ more))) s3 := by
      rw [← hs3]
      exact GxR.inv_tab (g' := s2.gens) (d' := s2.drawn) I2 hP keep3 hP3 I2.bare
    have hsz : h'.objs.size = s3.heap.objs.size + 1 := by rw [hs'.1, Heap.size_push]
    generalize hgoE : ({ cls := .type "generator", data := .fields #[.int s3.gens.size 0, .str "<genexpr>" (s3.toks + 1), .str (X.env.qual ++ "<genexpr>") (s3.toks + 1 + 1)] } : Obj) = go
    have keep' : ∀ b o, s3.heap.get? b = some o → h'.get? b = some o := fun b o e => hs'.extBut b o (Nat.ne_of_lt (Heap.lt_size e)) (Heap.get?_push_of_some _ e)
    have keep5 : ∀ b o, s3.heap.get? b = some o → (h'.push go).get? b = some o := fun b o e => Heap.get?_push_of_some _ (keep' b o e)
    have hgo : (h'.push go).get? h'.objs.size = some go := Heap.get?_push_size _ (by subst hgoE; rfl)
    have hgd : ∀ v, go.data ≠ .cell v := fun v => by subst hgoE; exact fun z => by cases z
    have hgen : ∀ h : Heap, h.get? h'.objs.size = some go → h.IsGen h'.objs.size s3.gens.size := fun h e => by
      subst hgoE
      exact ⟨_, _, _, e, rfl, rfl, rfl⟩
    have nP : ∀ b, H2 b = none → b ≠ P := fun b e z => by rw [z, hP] at e; cases e
    have f3 : ∀ b ∈ fp, FpOk X pins (upd H2 P (.tbl (ps ++ more))) b ∧ b < s3.heap.objs.size := fun b hb => by
      refine ⟨⟨?_, (f2 b hb).2⟩, ?_⟩
      · rw [upd_ne (nP b (f2 b hb).1)]
        exact (f2 b hb).1
      · obtain ⟨o, e, _⟩ := T.obj _ _ st2 b hb
        have := keep3 b o (nP b (f2 b hb).1) e
        rw [← hs3]
        exact Heap.lt_size this
    have hb5 : AllBare (s3.gens.push (.fresh (.compStart (.GeneratorExp elt [⟨tg, iter, [], 0⟩] scope gpos) 0 (.ref it) .none (genEnv scope (cloOf X scope) s3.heap.objs.size code builtinsNs X.env)))) := I3.bare.push rfl
    generalize hce : genEnv scope (cloOf X scope) s3.heap.objs.size code builtinsNs X.env = cenv at hb5 ⊢
    have rY : L2.Room j (X.A.in1.in1.deeper cenv) := by
      refine ⟨hr.hd, ?_, ?_⟩
      · have := hr.dp
        show X.A.depth + 1 + 3 * j + 5 < _
        omega
      · have := hr.un
        show X.A.units + 1 + 1 + 3 + 16 * j + 200 < _
        omega
    have IY := gen_start (t5 := s3.toks + 1 + 1 + 1) (code := code) (A := X.A.in1.in1.deeper cenv) I3 ok hN hnc f3 hr.hd (by rw [hce]; exact Around.frames_deeper I3.ok.frames) (hn'.push go) keep5 (by rw [hsz]; exact Nat.lt_succ_self _) hgo hgd hb5
    rw [hce] at IY
    have pgY := pg s3 (upd H2 P (.tbl (ps ++ more))) s3.heap.objs.size code (X.A.in1.in1.deeper cenv) fp (h'.objs.size, go)
    have peY := pe s3 (upd H2 P (.tbl (ps ++ more))) s3.heap.objs.size code (X.A.in1.in1.deeper cenv) fp (h'.objs.size, go) rY hgu
    rw [hce] at pgY peY
    have st5 : tn 0 (h'.push go) := T.keep _ _ _ st2 fun b hb o e => keep5 b o (by rw [← hs3]; exact keep3 b o (nP b (f2 b hb).1) e)
    have n3 : ∀ b ∈ fp, upd H2 P (.tbl (ps ++ more)) b = none := fun b hb => (f3 b hb).1.1
    have x3 : Ext m1 H2 m1 (upd H2 P (.tbl (ps ++ more))) := Ext.tabbed hP
    have sm3 : Sim X.K c m1 (upd H2 P (.tbl (ps ++ more))) S1 := sm1.tabbed hP ht3
    refine ⟨genCx X s3 (upd H2 P (.tbl (ps ++ more))) cenv (X.A.in1.in1.deeper cenv) fp (h'.objs.size, go), h'.objs.size, s3.gens.size, w.1.length, go, rfl, rfl, rfl, rfl, hgen, ⟨⟨_, _, _, IY⟩, hgen _ hgo, _, Array.getElem?_push_size .., fun s'' hh hos hb => ⟨rfl, ?_⟩⟩, fun b s' hf => ?_⟩
    · have IY2 := Inv.same IY hh hos hb
      have st6 : tn 0 s''.heap := by rw [hh]; exact st5
      refine seg_gen0 (Y := genCx X s3 (upd H2 P (.tbl (ps ++ more))) cenv (X.A.in1.in1.deeper cenv) fp (h'.objs.size, go)) T st6 ?_
      refine seg_gen (Y := genCx X s3 (upd H2 P (.tbl (ps ++ more))) cenv (X.A.in1.in1.deeper cenv) fp (h'.objs.size, go)) (σ0 := σ) (own := own.map (·.2)) over_genL ?_ hcalm (fun _ _ z => z) T (fun {σ' H' s'} I' hn b hb => ?_) ⟨al.go, al.stop⟩ pgY ht ho peY re1 sm1 w.1.length 0 _ s'' _ m1 S1 (Nat.sub_zero _) (Nat.zero_le _) IY2 st6 n3 x3 sm3 hAf
      · show cenv.scope.isCoroutine = false
        rw [← hce]
        exact hco
      · refine ⟨hn b hb, (I'.ok.exf b hb).1, I'.ok.exfs b hb, .inl hb, fun x c e => (I'.ok.exf b hb).2 x c e, fun p hp => ?_⟩
        have ep : p = (h'.objs.size, go) := by simpa using hp
        subst ep
        exact fun z => by
          have := (f3 b hb).2
          have z2 : h'.objs.size = b := z
          rw [← z2, hsz] at this
          exact absurd (Nat.lt_trans (Nat.lt_succ_self _) this) (Nat.lt_irrefl _)
    · obtain ⟨pins', σ', H', I', q'⟩ := hf
      exact ⟨H', I3.call' (ch := fp) I'.os I'.base I'.hok I'.bare fun b hb => ⟨(f3 b hb).1.2.2.2.1, (f3 b hb).1.2.1, (f3 b hb).1.2.2.2.2.1, (f3 b hb).1.2.2.2.2.2⟩, q'⟩
  refine ⟨I2.nolimit, ?_⟩
  cases hf : codeAmong gpos ps.toList with
  | none =>
    refine wpAny_genexprCodeX hcode (cd.code hPs htr) (cd.tab hPs) hf fun c' h' tk hx hge hlt hco' _ htab' _ => ?_
    obtain ⟨o1, vs, f1, tf, fl, tg, inF, tx, tt, op, _, _, _, _, _, _, _, _, _, htr', _⟩ := hco'
    exact cont _ h' tk _ hx htab'.2 ⟨_, rfl⟩ htr'
  | some cv =>
    refine wpAny_genexprCode_hit hcode (cd.code hPs htr) hf ?_
    exact cont cv s2.heap s2.toks ps (Heap.ExtBut.refl _ _) hPs ⟨#[], by simp⟩ htr

/-! ### all(..), any(..) -/
theorem pe_qall {elt tg iter : Expr} {scope : Scope} {p pos gpos : Pos} {te : TE} (hd : X.A.depth < recursionLimit) (hh : X.A.handled = none) (hg : L2.Gl X "all") (hm : X.mg "all" = none)
    (hmk : ∀ (pins : List (Addr × Obj)) (s : Shared) (σ : L2.St) (H : Hp) (Q : VK), Inv X pins σ H s → te σ H Q → wpAny (model X.prog X.w) X.A (eval (.GeneratorExp elt [⟨tg, iter, [], 0⟩] scope gpos) X.env) (Made1 X pins σ true Q) X.xe s)
    (he : starEach [.GeneratorExp elt [⟨tg, iter, [], 0⟩] scope gpos] X.env = (false, eval (.GeneratorExp elt [⟨tg, iter, [], 0⟩] scope gpos) X.env) :: starEach [] X.env := by rfl) :
    PE X (.Call (.Name "all" p) [.GeneratorExp elt [⟨tg, iter, [], 0⟩] scope gpos] [] pos) te := by
  refine ⟨fun pins s σ H Q I h => ?_⟩
  refine wpAny_Call_Name_kw (L2.ld_blt I hg hm boot_all ?_)
  refine PyProof.Rows.callWith_builtin1 ?_ he (by rfl)
  rw [he]
  show wpAny _ _ (spliced ((false, eval (.GeneratorExp elt [⟨tg, iter, [], 0⟩] scope gpos) X.env) :: backTo pos (starEach [] X.env))) _ _ s
  refine Calls.spliced_cons (L2.thn (hmk pins s σ H Q I h) fun u s5 hM => ?_)
  obtain ⟨Y, a, g, n, go, rfl, hp, hw, hpn, hgen, r, hf⟩ := hM
  refine Calls.spliced_nil ?_
  refine call_function_tree PySem.F.kind_all PySem.F.plain_all PySem.F.entry_all (PySem.F.args_all1 _) ?_
  unfold Builtin.«all»
  refine wpAny_bind (m := oneArg "all" _) (wpAny_pure ?_)
  refine wpAny_bind (wpAny_pyIter_gen r.gen ?_)
  refine wpAny_pure ⟨plainId_quiet PySem.F.plain_all_loop _, ?_⟩
  rw [← hp, ← hw]
  refine all_gen (A := X.A) hh hd hpn hgen (fun b s' q => ?_) n s5 r
  obtain ⟨H', I', q'⟩ := hf b s' q
  have z : L2.EP X pins σ Q (.bool b) s' := ⟨.bl b, H', I', rfl, q'⟩
  first | exact z | simpa using z
theorem pe_qany {elt tg iter : Expr} {scope : Scope} {p pos gpos : Pos} {te : TE} (hd : X.A.depth < recursionLimit) (hh : X.A.handled = none) (hg : L2.Gl X "any") (hm : X.mg "any" = none)
    (hmk : ∀ (pins : List (Addr × Obj)) (s : Shared) (σ : L2.St) (H : Hp) (Q : VK), Inv X pins σ H s → te σ H Q → wpAny (model X.prog X.w) X.A (eval (.GeneratorExp elt [⟨tg, iter, [], 0⟩] scope gpos) X.env) (Made1 X pins σ false Q) X.xe s)
    (he : starEach [.GeneratorExp elt [⟨tg, iter, [], 0⟩] scope gpos] X.env = (false, eval (.GeneratorExp elt [⟨tg, iter, [], 0⟩] scope gpos) X.env) :: starEach [] X.env := by rfl) :
    PE X (.Call (.Name "any" p) [.GeneratorExp elt [⟨tg, iter, [], 0⟩] scope gpos] [] pos) te := by
  refine ⟨fun pins s σ H Q I h => ?_⟩
  refine wpAny_Call_Name_kw (L2.ld_blt I hg hm boot_any ?_)
  refine PyProof.Rows.callWith_builtin1 ?_ he (by rfl)
  rw [he]
  show wpAny _ _ (spliced ((false, eval (.GeneratorExp elt [⟨tg, iter, [], 0⟩] scope gpos) X.env) :: backTo pos (starEach [] X.env))) _ _ s
  refine Calls.spliced_cons (L2.thn (hmk pins s σ H Q I h) fun u s5 hM => ?_)
  obtain ⟨Y, a, g, n, go, rfl, hp, hw, hpn, hgen, r, hf⟩ := hM
  refine Calls.spliced_nil ?_
  refine call_function_tree PySem.F.kind_any PySem.F.plain_any PySem.F.entry_any (PySem.F.args_any1 _) ?_
  unfold Builtin.«any»
  refine wpAny_bind (m := oneArg "any" _) (wpAny_pure ?_)
  refine wpAny_bind (wpAny_pyIter_gen r.gen ?_)
  refine wpAny_pure ⟨plainId_quiet PySem.F.plain_any_loop _, ?_⟩
  rw [← hp, ← hw]
  refine any_gen (A := X.A) hh hd hpn hgen (fun b s' q => ?_) n s5 r
  obtain ⟨H', I', q'⟩ := hf b s' q
  have z : L2.EP X pins σ Q (.bool b) s' := ⟨.bl b, H', I', rfl, q'⟩
  first | exact z | simpa using z
end
end Mn

/-! Mn8: statements. -/
namespace Mn
open PySem PySem.Spec PyProof.Rows
open L2 (V Hp HO Cx SqL SqT Rd St VK WX XK TE TA TS TT TG TI PE PA PS PSs PT PG PI Ends upd upd_same upd_ne OpR R2 Inv Dp DpAll UnR CallR Walk)

/-- the wish leans on no slot -/
def CW (W : WX) : Prop := ∀ cls dx σ σ' H, W cls dx σ H → W cls dx σ' H
def FlowR (K : Frag) (c : Cfg) (D : Ends) (r : F) (m : MM) (H : Hp) : Prop := match r with
  | .nx e => ∀ σ, EnvR K c m H e σ → D.nx σ H
  | .rt d => ∀ v, RV K c m H d v → D.rt v H
  | .bk e => ∀ σ, EnvR K c m H e σ → D.bk σ H
  | .ct e => ∀ σ, EnvR K c m H e σ → D.ct σ H
def tS (K : Frag) (c : Cfg) (W : WX) (f : Env → Store → R F) : TS := fun D σ H => ∃ (e : Env) (m : MM) (S : Store), EnvR K c m H e σ ∧ Sim K c m H S ∧ Aft K c W σ m H (f e S) fun r _ m' H' => FlowR K c D r m' H'
section
variable {X : Cx} {c : Cfg} {W : WX}
theorem Aft.cst {α : Type} {K : Frag} {m : MM} {H : Hp} {σ σ' : L2.St} {r : R α} {k : α → Store → MM → Hp → Prop} (hW : CW W) (h : Aft K c W σ m H r k) : Aft K c W σ' m H r k := by
  cases r with
  | ok a S => exact h
  | exc x S => exact fun m' H' cls dx e s r => hW _ _ _ _ _ (h m' H' cls dx e s r)
  | bad => exact h

/-! ### blocks -/
theorem pss_nilE : PSs X [] (tS X.K c W fun e S => .ok (.nx e) S) := by
  refine PSs.imp L2.pss_nil fun D σ H h => ?_
  obtain ⟨e, m, S, re, s, h⟩ := h
  exact h.now s σ re
theorem pss_consE {st : Stmt} {rest : List Stmt} {f g : Env → Store → R F} (hW : CW W) (h1 : PS X st (tS X.K c W f)) (h2 : PSs X rest (tS X.K c W g)) :
    PSs X (st :: rest) (tS X.K c W fun e S => (f e S).bind fun r S1 => match r with
      | .nx e1 => g e1 S1
      | r => .ok r S1) := by
  refine PSs.imp (L2.pss_cons h1 h2) fun D σ H h => ?_
  obtain ⟨e, m, S, re, s, h⟩ := h
  refine ⟨e, m, S, re, s, h.bind.imp fun r S1 m1 H1 e1 s1 h1 => ?_⟩
  cases r with
  | nx e2 => exact fun σ' re' => ⟨e2, m1, S1, re', s1, Aft.cst hW h1⟩
  | rt d => exact (show Aft X.K c W σ m1 H1 (.ok (F.rt d) S1) _ from h1).now s1
  | bk d => exact (show Aft X.K c W σ m1 H1 (.ok (F.bk d) S1) _ from h1).now s1
  | ct d => exact (show Aft X.K c W σ m1 H1 (.ok (F.ct d) S1) _ from h1).now s1

/-! ### small ones -/
theorem ps_setE {i : Nat} {x : Str} {a : Expr} {fa : Env → Store → R D} {pos pos' : Pos} (hN : X.N.Nodup) (hi : X.N[i]? = some x) (hx : L2.Loc X.env.scope x) (ha : PE X a (tE X.K c W fa)) (hs : swapsWith a (some (.Name x pos')) pos.line X.env = pure false)
    (hf : X.fn x = true ∨ X.env.scope.names.lookup x = some .local) :
    PS X (.Assign [.Name x pos'] a pos) (tS X.K c W fun e S => (fa e S).bind fun d S1 => .ok (.nx (e.set i (some d))) S1) := by
  refine PS.imp (L2.ps_set (i := i) hN hi hx ha hs hf) fun D σ H h => ?_
  obtain ⟨e, m, S, re, s, h⟩ := h
  exact ⟨e, m, S, re, s, h.bind.imp fun d S1 m1 H1 e1 s1 h1 v rv => (h1.now s1) _ ((re.mono s e1).set rv i)⟩
theorem set_of {i : Nat} {fa : Env → Store → R D} {te : TE} (ht : ∀ σ H Q, tE X.K c W fa σ H Q → te σ H Q) :
    ∀ D σ H, tS X.K c W (fun e S => (fa e S).bind fun d S1 => .ok (.nx (e.set i (some d))) S1) D σ H → L2.tAsg te (L2.gName i) D σ H := by
  rintro D σ H ⟨e, m, S, re, s, h⟩
  exact ht _ _ _ ⟨e, m, S, re, s, h.bind.imp fun d S1 m1 H1 e1 s1 h1 v rv => (h1.now s1) _ ((re.mono s e1).set rv i)⟩
theorem unp_of {tg : Tg} {gt : TG} {fa : Env → Store → R D} (ht : TgOk X c tg gt) :
    ∀ D σ H, tS X.K c W (fun e S => (fa e S).bind fun x S1 => match asg tg x e with
      | some e1 => .ok (.nx e1) S1
      | none => .bad) D σ H → L2.tAsg (tE X.K c W fa) gt D σ H := by
  rintro D σ H ⟨e, m, S, re, s, h⟩
  refine ⟨e, m, S, re, s, h.bind.imp fun x S1 m1 H1 e1 s1 h1 v rv => ?_⟩
  cases ha : asg tg x e with
  | none => rw [ha] at h1; exact h1.elim
  | some e2 =>
    rw [ha] at h1
    exact ht m1 H1 x v e e2 σ _ ha rv (re.mono s e1) fun σ' re' _ => h1.now s1 σ' re'
theorem sets_of {fa fi fb : Env → Store → R D} :
    ∀ D σ H, tS X.K c W (fun e S => (fb e S).bind fun y S1 => (fa e S1).bind fun x S2 => (fi e S2).bind fun k S3 => (setA x k y S3).bind fun _ S4 => .ok (.nx e) S4) D σ H →
      L2.tAsg (tE X.K c W fb) (L2.gSub (tE X.K c W fa) (tE X.K c W fi) L2.rSetL) D σ H := by
  rintro D σ H ⟨e, m, S, re, s, h⟩
  refine ⟨e, m, S, re, s, h.bind.imp fun y S1 m1 H1 e1 s1 h1 w rw_ => ⟨e, m1, S1, re.mono s e1, s1, h1.bind.imp fun x S2 m2 H2 e2 s2 h2 u ru => ⟨e, m2, S2, (re.mono s e1).mono s1 e2, s2, h2.bind.imp fun k S3 m3 H3 e3 s3 h3 i ri => ?_⟩⟩⟩
  refine set_rv s3 (ru.mono s2 e3) ri ((rw_.mono s1 e2).mono s2 e3) (h3.bind.imp fun _ S4 m4 H4 e4 s4 h4 => ?_)
  exact h4.now s4 σ ((((re.mono s e1).mono s1 e2).mono s2 e3).mono s3 e4)
theorem ps_exprE {a : Expr} {fa : Env → Store → R D} {pos : Pos} (ha : PE X a (tE X.K c W fa)) (hs : swapsWith a none pos.line X.env = pure false) : PS X (.Expr a pos) (tS X.K c W fun e S => (fa e S).bind fun _ S1 => .ok (.nx e) S1) := by
  refine PS.imp (L2.ps_expr ha hs) fun D σ H h => ?_
  obtain ⟨e, m, S, re, s, h⟩ := h
  exact ⟨e, m, S, re, s, h.bind.imp fun d S1 m1 H1 e1 s1 h1 v rv => (h1.now s1) σ (re.mono s e1)⟩
theorem ps_retE {a : Expr} {fa : Env → Store → R D} {pos : Pos} (ha : PE X a (tE X.K c W fa)) : PS X (.Return (some a) pos) (tS X.K c W fun e S => (fa e S).bind fun d S1 => .ok (.rt d) S1) := by
  refine PS.imp (L2.ps_ret ha) fun D σ H h => ?_
  obtain ⟨e, m, S, re, s, h⟩ := h
  exact ⟨e, m, S, re, s, h.bind.imp fun d S1 m1 H1 e1 s1 h1 v rv => (h1.now s1) v rv⟩
theorem ps_retNE {pos : Pos} : PS X (.Return none pos) (tS X.K c W fun _ S => .ok (.rt .non) S) := by
  refine PS.imp L2.ps_retN fun D σ H h => ?_
  obtain ⟨e, m, S, re, s, h⟩ := h
  exact h.now s _ .non
/-- an own exception class without an own way to begin -/
structure ExcCl (K : Frag) (mg : Str → Option Value) (C : Addr) (x : String) : Prop where
  ex : ∃ (bmB : List Value) (B newId initId : String), ExcBaseFacts B newId initId bmB ∧ PySem.W.excIn K C bmB newId = true
  g : mg (Str.ofString x) = some (.ref C)
  k : PySem.W.keepIn K (.ref C) = true
  sb : PySem.W.subIn K (.ref C) (.type "BaseException") = some true
  ty : PySem.W.typeIn K (.ref C) = some (.type "type")
theorem ps_raiseE {C : Addr} {x : String} {e : Expr} {es : List Expr} {fs : Env → Store → R (List D)} {p pos pos' : Pos} (hca : c.ca x = some C) (F : ExcCl X.K X.mg C x) (hc : X.calm = true) (tk : L2.Takes X W) (hg : L2.Gl X (Str.ofString x)) (ha : PA X (e :: es) (tA X.K c W fs))
    (hdb : (Str.ofString x == ("__debug__" : Str)) = false) (he : starEach (e :: es) X.env = (false, eval e X.env) :: starEach es X.env) (hpl : (backTo pos (starEach es X.env)).any (·.1) = false) :
    PS X (.Raise (some (.Call (.Name (Str.ofString x) p) (e :: es) [] pos)) none pos') (tS X.K c W fun e S => (fs e S).bind fun ds S1 => if ds.length ≤ sizeLine then .exc (.exn x []) S1 else .bad) := by
  obtain ⟨bmB, B, newId, initId, F1, F2⟩ := F.ex
  refine PS.imp (L2.ps_raise hc tk (L2.pmk_ownA F1 F2 F.g F.k (L2.raises_own F.sb F.ty) hg ha hdb he hpl)) ?_
  rintro D σ H ⟨e, m, S, re, s, h⟩
  refine ⟨e, m, S, re, s, h.bind.imp fun ds S1 m1 H1 e1 s1 h1 vs rvs => ?_⟩
  obtain ⟨hz, h1⟩ := Aft.if_ h1
  exact ⟨by rw [← rvs.length]; exact hz, h1 m1 H1 _ _ .refl s1 (.own hca)⟩
theorem ps_passE {pos : Pos} : PS X (.Pass pos) (tS X.K c W fun e S => .ok (.nx e) S) := by
  refine PS.imp L2.ps_pass fun D σ H h => ?_
  obtain ⟨e, m, S, re, s, h⟩ := h
  exact h.now s _ re
theorem ps_brkE {pos : Pos} : PS X (.Break pos) (tS X.K c W fun e S => .ok (.bk e) S) := by
  refine PS.imp L2.ps_break fun D σ H h => ?_
  obtain ⟨e, m, S, re, s, h⟩ := h
  exact h.now s _ re
theorem ps_contE {pos : Pos} : PS X (.Continue pos) (tS X.K c W fun e S => .ok (.ct e) S) := by
  refine PS.imp L2.ps_continue fun D σ H h => ?_
  obtain ⟨e, m, S, re, s, h⟩ := h
  exact h.now s _ re
theorem ps_iteE {d : Expr} {a b : List Stmt} {fc : Env → Store → R D} {fa fb : Env → Store → R F} {pos : Pos} (hW : CW W) (hc : PT X d (tT X.K c W fc)) (ha : PSs X a (tS X.K c W fa)) (hb : PSs X b (tS X.K c W fb)) :
    PS X (.If d a b pos) (tS X.K c W fun e S => (tru (fc e S)).bind fun t S1 => if t = true then fa e S1 else fb e S1) := by
  refine PS.imp (L2.ps_if hc ha hb) fun D σ H h => ?_
  obtain ⟨e, m, S, re, s, h⟩ := h
  refine ⟨e, m, S, re, s, (Aft.bind h).bind.imp fun x S1 m1 H1 e1 s1 h1 => ?_⟩
  obtain ⟨b, hb, h1⟩ := h1.ofO s1
  refine ⟨b, hb, ?_⟩
  cases b with
  | true =>
    simp only [if_true] at h1 ⊢
    exact ⟨e, m1, S1, re.mono s e1, s1, h1⟩
  | false =>
    simp only [Bool.false_eq_true, if_false] at h1 ⊢
    exact ⟨e, m1, S1, re.mono s e1, s1, h1⟩

/-! ### op= -/
def rAug (X : Cx) (op : Operator) : L2.TIp := match op with
  | .Add => fun x y H Q => L2.rI0 (fun i j => .int (i + j)) x y H Q ∨ (∃ i j, x = .str i ∧ y = .str j ∧ i.length + j.length ≤ sizeLine ∧ Q (.str (i ++ j)) H)
  | .Sub => L2.rI0 fun i j => .int (i - j)
  | _ => fun _ _ _ _ => False
theorem or_aug (X : Cx) (op : Operator) : L2.PIp X op (rAug X op) := by
  cases op
  case Add => exact L2.iop_add.or L2.iop_add_str
  case Sub => exact L2.iop_sub
  all_goals exact fun _ _ _ _ _ _ _ _ _ _ _ _ h => h.elim
theorem ps_augE {i : Nat} {x : Str} {a : Expr} {fa : Env → Store → R D} {op : Operator} {pos pos' : Pos} (hN : X.N.Nodup) (hi : X.N[i]? = some x) (hx : L2.Loc X.env.scope x) (ha : PE X a (tE X.K c W fa)) (hf : X.fn x = true ∨ X.env.scope.names.lookup x = some .local) :
    PS X (.AugAssign (.Name x pos') op a pos) (tS X.K c W fun e S => match e[i]? with
      | some (some x) => (fa e S).bind fun y S1 => (augA op x y S1).bind fun z S2 => .ok (.nx (e.set i (some z))) S2
      | _ => .bad) := by
  refine PS.imp (L2.ps_aug (i := i) hN hi hx ha (or_aug X op) hf) fun D σ H h => ?_
  obtain ⟨e, m, S, re, s, h⟩ := h
  dsimp only at h
  split at h
  · rename_i d hd
    obtain ⟨v, h1, rv⟩ := re.at_ _ _ hd
    refine ⟨v, h1, e, m, S, re, s, h.bind.imp fun y S1 m1 H1 e1 s1 h2 w rw_ => ?_⟩
    have rv1 := rv.mono s e1
    have re1 := re.mono s e1
    clear h re
    have h3 := h2.bind
    unfold augA at h3
    split at h3
    · cases rv1; cases rw_
      exact .inl ⟨_, _, rfl, rfl, (h3.now s1).now s1 _ (re1.set (.int _) i)⟩
    · cases rv1; cases rw_
      exact ⟨_, _, rfl, rfl, (h3.now s1).now s1 _ (re1.set (.int _) i)⟩
    · cases rv1; cases rw_
      obtain ⟨hz, h3⟩ := Aft.if_ h3
      exact .inr ⟨_, _, rfl, rfl, hz, (h3.now s1).now s1 _ (re1.set (.str _) i)⟩
    · exact h3.elim
  · exact h.elim

/-! ### loops -/
theorem ps_forE {tg iter : Expr} {body : List Stmt} {tgE : Tg} {gt : TG} {fi : Env → Store → R (List D × Gd)} {fb : Env → Store → R F} {pos : Pos} (hW : CW W) (hp : PassesOwn (model X.prog X.w) X.A X.env X.xe) (hc : X.calm = true) (hi : PI X tg iter (tI X c W fi)) (hg : PG X tg gt)
    (ht : TgOk X c tgE gt) (hb : PSs X body (tS X.K c W fb)) (hs : ∀ x, foldedSetIterable iter X.env x = pure x) :
    PS X (.For tg iter body [] pos) (tS X.K c W fun e S => (fi e S).bind fun w S1 => forA w.2 tgE fb w.1 e S1) := by
  refine PS.imp (L2.ps_for hp hc hi hg hb hs) fun D σ H h => ?_
  obtain ⟨e, m, S, re, s, h⟩ := h
  refine ⟨e, m, S, re, s, h.bind.imp fun w S1 m1 H1 e1 s1 h1 J al => ?_⟩
  have re1 := re.mono s e1
  clear h
  refine ⟨fun i n σ' H' => n = w.1.length - i ∧ i ≤ w.1.length ∧ ∃ (e2 : Env) (m2 : MM) (S2 : Store), EnvR X.K c m2 H' e2 σ' ∧ Ext m1 H1 m2 H' ∧ Sim X.K c m2 H' S2 ∧ Aft X.K c W σ m2 H' (forA w.2 tgE fb (w.1.drop i) e2 S2) (fun r _ m' H' => FlowR X.K c D r m' H'),
    ⟨w.1.length, by simp, Nat.zero_le _, e, m1, S1, re1, .refl, s1, h1⟩, ?_⟩
  rintro i n σ2 H2 ⟨rfl, hi, e2, m2, S2, re2, x2, s2, hA⟩
  by_cases hlt : i < w.1.length
  · rw [List.drop_eq_getElem_cons hlt] at hA
    obtain ⟨hgd, hA⟩ := Aft.if_ (show Aft X.K c W σ m2 H2 (if gdOk S2 w.2 then _ else .bad) _ from hA)
    cases ha : asg tgE w.1[i] e2 with
    | none => rw [ha] at hA; exact hA.elim
    | some e3 =>
      rw [ha] at hA
      dsimp only at hA
      obtain ⟨hgo, hyl⟩ := al.go i w.1[i] m2 H2 S2 x2 s2 hgd (List.getElem?_eq_getElem hlt)
      refine .inr ⟨hgo, _, fun σ' H' hN => ⟨w.1.length - (i + 1), by omega, hN⟩, fun x H3 hy => ?_⟩
      obtain ⟨e4, s4, rd⟩ := hyl x H3 hy
      refine ht m2 H3 w.1[i] x e2 e3 σ2 _ ha rd (re2.mono s2 e4) fun σ' re' _ => ⟨e3, m2, S2, re', s4, Aft.cst (σ := σ) hW ?_⟩
      refine Aft.imp ((Aft.bind hA).shift e4) fun r S5 m5 H5 e5 s5 h5 => ?_
      have x5 := (x2.trans e4).trans e5
      cases r with
      | nx e6 => exact fun σ6 re6 => ⟨rfl, hlt, e6, m5, S5, re6, x5, s5, h5⟩
      | ct e6 => exact fun σ6 re6 => ⟨rfl, hlt, e6, m5, S5, re6, x5, s5, h5⟩
      | bk e6 => exact fun σ6 re6 => (show Aft X.K c W σ m5 H5 (.ok (F.nx e6) S5) _ from h5).now s5 σ6 re6
      | rt d => exact fun v rv => (show Aft X.K c W σ m5 H5 (.ok (F.rt d) S5) _ from h5).now s5 v rv
  · have ei : i = w.1.length := by omega
    subst ei
    rw [List.drop_length] at hA
    obtain ⟨hgd, hA⟩ := Aft.if_ (show Aft X.K c W σ m2 H2 (if gdOk S2 w.2 then .ok (F.nx e2) S2 else .bad) _ from hA)
    exact .inl ⟨al.stop m2 H2 S2 x2 s2 hgd, hA.now s2 σ2 re2⟩
theorem ps_whlE {N : Nat} {t : Expr} {body : List Stmt} {fc : Env → Store → R D} {fb : Env → Store → R F} {pos : Pos} (hW : CW W) (hp : PassesOwn (model X.prog X.w) X.A X.env X.xe) (hc : PT X t (tT X.K c W fc)) (hb : PSs X body (tS X.K c W fb)) :
    PS X (.While t body [] pos) (tS X.K c W fun e S => whileA N (fun e S => tru (fc e S)) fb e S) := by
  refine PS.imp (L2.ps_while hp hc hb) fun D σ H h => ?_
  refine ⟨fun n σ' H' => tS X.K c W (fun e S => whileA n (fun e S => tru (fc e S)) fb e S) D σ' H', ⟨N, h⟩, ?_⟩
  rintro n σ1 H1 ⟨e, m, S, re, s, h⟩
  cases n with
  | zero => exact h.elim
  | succ n =>
    have h := Aft.bind (show Aft X.K c W σ1 m H1 ((tru (fc e S)).bind _) _ from h)
    refine ⟨e, m, S, re, s, (Aft.bind (show Aft X.K c W σ1 m H1 (tru (fc e S)) _ from h)).imp fun x S1 m1 H1 e1 s1 h1 => ?_⟩
    obtain ⟨b, hb, h1⟩ := h1.ofO s1
    refine ⟨b, hb, ?_⟩
    cases b with
    | false =>
      simp only [Bool.false_eq_true, if_false] at h1 ⊢
      exact h1.now s1 _ (re.mono s e1)
    | true =>
      simp only [if_true] at h1 ⊢
      refine ⟨_, fun σ' H' hN => ⟨n, Nat.lt_succ_self n, hN⟩, e, m1, S1, re.mono s e1, s1, Aft.imp (Aft.bind h1) fun r S5 m5 H5 e5 s5 h5 => ?_⟩
      cases r with
      | nx e6 => exact fun σ6 re6 => ⟨e6, m5, S5, re6, s5, Aft.cst hW h5⟩
      | ct e6 => exact fun σ6 re6 => ⟨e6, m5, S5, re6, s5, Aft.cst hW h5⟩
      | bk e6 => exact fun σ6 re6 => (show Aft X.K c W σ1 m5 H5 (.ok (F.nx e6) S5) _ from h5).now s5 σ6 re6
      | rt d => exact fun v rv => (show Aft X.K c W σ1 m5 H5 (.ok (F.rt d) S5) _ from h5).now s5 v rv
end
end Mn

/-! MnD: dicts with told keys. -/
namespace Mn
open PySem PySem.Spec PyProof.Rows
open L2 (V Hp HO Cx SqL SqT Rd St VK WX XK TE TA TS TT TG TI PE PA PS PSs PT PG PI Ends upd upd_same upd_ne OpR R2 Inv Dp DpAll UnR CallR Walk)
theorem kvz_len : ∀ {ks : List Str} {vs : List V}, ks.length = vs.length → (kvz ks vs).length = ks.length
  | [], [], _ => rfl
  | _ :: _, _ :: _, h => by
    simp only [kvz, List.length_cons] at h ⊢
    rw [kvz_len (by omega)]
  | [], _ :: _, h => by simp at h
  | _ :: _, [], h => by simp at h
theorem idx_ne {x k : Str} {ks : List Str} (h : ¬ x = k) : (x :: ks).idxOf k = ks.idxOf k + 1 := by
  rw [List.idxOf_cons]
  have e : (x == k) = false := by simpa using h
  rw [e]
  rfl
theorem kvz_val {k : Str} {v : V} : ∀ {ks : List Str} {vs : List V}, k ∈ ks → vs[ks.idxOf k]? = some v → L2.valV (kvz ks vs) (.inr k) = some v
  | [], _, h, _ => by cases h
  | x :: ks, [], _, h => by simp at h
  | x :: ks, u :: vs, h, e => by
    by_cases hx : x = k
    · subst hx
      rw [List.idxOf_cons_self] at e
      simp only [kvz]
      rw [L2.valV_pos rfl]
      simpa using e
    · rw [idx_ne hx] at e
      simp only [kvz]
      rw [L2.valV_neg (by simpa using hx)]
      exact kvz_val (by rcases List.mem_cons.mp h with z | z
                        · exact absurd z.symm hx
                        · exact z) (by simpa using e)
theorem kvz_any {k : Str} : ∀ {ks : List Str} {vs : List V}, ks.length = vs.length → ((kvz ks vs).any fun kv => decide (kv.1 = (.inr k : L2.Key))) = decide (k ∈ ks)
  | [], [], _ => by simp [kvz]
  | x :: ks, u :: vs, h => by
    simp only [kvz, List.any_cons, kvz_any (k := k) (show ks.length = vs.length by simpa using h)]
    by_cases hx : x = k
    · subst hx; simp
    · simp [hx, Ne.symm hx]
  | [], _ :: _, h => by simp at h
  | _ :: _, [], h => by simp at h
theorem kvz_map {k : Str} {v : V} : ∀ {ks : List Str} {vs : List V}, ks.length = vs.length → ks.Nodup → k ∈ ks → (kvz ks vs).map (fun kv => if kv.1 = (.inr k : L2.Key) then (kv.1, v) else kv) = kvz ks (vs.set (ks.idxOf k) v)
  | [], _, _, _, h => by cases h
  | _ :: _, [], h, _, _ => by simp at h
  | x :: ks, u :: vs, hl, nd, h => by
    have nd2 := (List.nodup_cons.mp nd)
    by_cases hx : x = k
    · subst hx
      rw [List.idxOf_cons_self]
      simp only [kvz, List.map_cons, if_true, List.set_cons_zero]
      congr 1
      have : ∀ (ks : List Str) (vs : List V), x ∉ ks → (kvz ks vs).map (fun kv => if kv.1 = (.inr x : L2.Key) then (kv.1, v) else kv) = kvz ks vs := by
        intro ks
        induction ks with
        | nil => intro vs _; rfl
        | cons y ks ih =>
          intro vs hy
          cases vs with
          | nil => rfl
          | cons w vs =>
            have h1 : y ≠ x := fun z => hy (by simp [z])
            simp only [kvz, List.map_cons]
            rw [ih vs fun z => hy (by simp [z]), if_neg (by simpa using h1)]
      exact this ks vs nd2.1
    · rw [idx_ne hx]
      simp only [kvz, List.map_cons, List.set_cons_succ]
      rw [if_neg (by simpa using hx), kvz_map (by simpa using hl) nd2.2 (by rcases List.mem_cons.mp h with z | z
                                                                            · exact absurd z.symm hx
                                                                            · exact z)]
theorem kvz_put {k : Str} {v : V} {ks : List Str} {vs : List V} (hl : ks.length = vs.length) (nd : ks.Nodup) (h : k ∈ ks) : L2.putK (kvz ks vs) (.inr k) v = kvz ks (vs.set (ks.idxOf k) v) := by
  unfold L2.putK
  rw [kvz_any hl, if_pos (by simpa using h), kvz_map hl nd h]
theorem kvz_app : ∀ {ks : List Str} {vs : List V} {k : Str} {v : V}, ks.length = vs.length → kvz (ks ++ [k]) (vs ++ [v]) = kvz ks vs ++ [(.inr k, v)]
  | [], [], _, _, _ => rfl
  | x :: ks, u :: vs, k, v, h => by
    simp only [kvz, List.cons_append]
    rw [kvz_app (by simpa using h)]
  | [], _ :: _, _, _, h => by simp at h
  | _ :: _, [], _, _, h => by simp at h
theorem kvz_merge : ∀ {ks : List Str} {vs : List V} {ps : List Str} {us : List V}, ps.length = us.length → ks.length = vs.length → (ps ++ ks).Nodup → L2.mergeK (kvz ps us) (kvz ks vs) = kvz (ps ++ ks) (us ++ vs)
  | [], [], ps, us, _, _, _ => by simp [kvz, L2.mergeK]
  | [], _ :: _, _, _, _, h, _ => by simp at h
  | _ :: _, [], _, _, _, h, _ => by simp at h
  | k :: ks, v :: vs, ps, us, hp, hl, nd => by
    have h1 : k ∉ ps := fun z => by
      rw [List.nodup_append] at nd
      exact nd.2.2 k z k (by simp) rfl
    have e : L2.putK (kvz ps us) (.inr k) v = kvz (ps ++ [k]) (us ++ [v]) := by
      unfold L2.putK
      rw [kvz_any hp, if_neg (by simpa using h1), kvz_app hp]
    show L2.mergeK (L2.putK (kvz ps us) (.inr k) v) (kvz ks vs) = _
    rw [e, kvz_merge (by simp [hp]) (by simpa using hl) (by simpa using nd)]
    simp
section
variable {X : Cx} {c : Cfg} {W : WX}
theorem Sim.atD {K : Frag} {m : MM} {H : Hp} {S : Store} (s : Sim K c m H S) {n : Nat} {ks : List Str} {ds : List D} (h : S[n]? = some (.dic ks ds)) : ∃ a vs, m.ix[n]? = some a ∧ H a = some (.dK (kvz ks vs)) ∧ ks.length = vs.length ∧ RVs K c m H ds vs := by
  obtain ⟨a, u, h1, h2, h3⟩ := s.obj n _ h
  cases h3 with
  | dic hl nd h3 => exact ⟨a, _, h1, h2, by rw [hl, h3.length], h3⟩
theorem Sim.nodupD {K : Frag} {m : MM} {H : Hp} {S : Store} (s : Sim K c m H S) {n : Nat} {ks : List Str} {ds : List D} (h : S[n]? = some (.dic ks ds)) : ks.Nodup := by
  obtain ⟨a, u, h1, h2, h3⟩ := s.obj n _ h
  cases h3 with
  | dic hl nd h3 => exact nd
theorem noSl_str {k : Str} {j : Nat} {p : Pos} : L2.NoSl (.Constant (.str k) j p) := fun ov iv => rfl
theorem pe_dgetE {o : Expr} {k : Str} {j : Nat} {p pos : Pos} {fo : Env → Store → R D} (hu : X.A.units + 1 < cLine) (ho : PE X o (tE X.K c W fo)) (hk : PE X (.Constant (.str k) j p) (tE X.K c W fun _ S => .ok (.str k) S)) :
    PE X (.Subscript o (.Constant (.str k) j p) pos) (tE X.K c W fun e S => (fo e S).bind fun x S1 => dgetA x k S1) := by
  refine PE.imp (L2.pe_dget hu ho hk noSl_str) ?_
  rintro σ H Q ⟨e, m, S, re, s, h⟩
  refine ⟨e, m, S, re, s, h.bind.imp fun x S1 m1 H1 e1 s1 h1 u ru => ⟨e, m1, S1, re.mono s e1, s1, ?_⟩⟩
  intro m2 H2 e2 s2 w rw'
  cases rw'
  have h1 := h1.shift e2
  have ru := ru.mono s1 e2
  unfold dgetA at h1
  split at h1
  · rename_i n
    cases ru with
    | ref r1 =>
      split at h1
      · rename_i ks ds q
        obtain ⟨d, hd, h1⟩ := h1.ofO s2
        obtain ⟨a, vs, p1, p2, p3, p4⟩ := s2.atD q
        rw [r1] at p1; cases p1
        by_cases hk : k ∈ ks
        · rw [if_pos hk] at hd
          obtain ⟨v, hv, rv⟩ := p4.getD hd
          refine ⟨_, v, rfl, ?_, h1 v rv⟩
          have := L2.DGet.k (k := (.inr k : L2.Key)) p2
          rwa [kvz_val hk hv] at this
        · rw [if_neg hk] at hd; cases hd
      · exact h1.elim
  · exact h1.elim
/-- d[k] = v -/
theorem ps_dputE {o value : Expr} {k : Str} {j : Nat} {p pos pos' : Pos} {fo fv : Env → Store → R D} (hu : X.A.units + 1 < cLine) (ho : PE X o (tE X.K c W fo)) (hk : PE X (.Constant (.str k) j p) (tE X.K c W fun _ S => .ok (.str k) S)) (hv : PE X value (tE X.K c W fv))
    (hs : swapsWith value (some (.Subscript o (.Constant (.str k) j p) pos')) pos.line X.env = pure false) :
    PS X (.Assign [.Subscript o (.Constant (.str k) j p) pos'] value pos) (tS X.K c W fun e S => (fv e S).bind fun y S1 => (fo e S1).bind fun x S2 => (dputA x k y S2).bind fun _ S3 => .ok (.nx e) S3) := by
  refine PS.imp (L2.ps_dput hu ho hk hv hs) ?_
  rintro D σ H ⟨e, m, S, re, s, h⟩
  refine ⟨e, m, S, re, s, h.bind.imp fun y S1 m1 H1 e1 s1 h1 w rw_ => ⟨e, m1, S1, re.mono s e1, s1, h1.bind.imp fun x S2 m2 H2 e2 s2 h2 u ru => ⟨e, m2, S2, (re.mono s e1).mono s1 e2, s2, ?_⟩⟩⟩
  intro m3 H3 e3 s3 z rz
  cases rz
  have h3 := h2.shift e3
  have ru := ru.mono s2 e3
  have rv := (rw_.mono s1 e2).mono s2 e3
  have re3 := ((re.mono s e1).mono s1 e2).mono s2 e3
  unfold dputA at h3
  split at h3
  · rename_i n
    cases ru with
    | ref r1 =>
      split at h3
      · rename_i ks ds q
        by_cases hc : k ∈ ks ∧ ks.length < sizeLine
        · rw [if_pos hc] at h3
          obtain ⟨a, vs, p1, p2, p3, p4⟩ := s3.atD q
          rw [r1] at p1; cases p1
          have nd : ks.Nodup := s3.nodupD q
          have hl : (kvz ks vs).length < sizeLine := by rw [kvz_len p3]; exact hc.2
          have put := L2.DPut.k (k := (.inr k : L2.Key)) (v := w) p2 hl
          rw [kvz_put p3 nd hc.1] at put
          obtain ⟨e4, s4⟩ := s3.writeO q r1 p2 (fun ps z => by cases z) (RO.dic (ks := ks) (ds := ds.set (ks.idxOf k) y) (by rw [List.length_set, p3, p4.length]) nd (p4.set rv (ks.idxOf k)))
          exact ⟨_, _, rfl, put, h3 _ _ e4 s4 σ (re3.mono s3 e4)⟩
        · rw [if_neg hc] at h3
          exact h3.elim
      · exact h3.elim
  · exact h3.elim
/-! ### {k: e, ..} -/
def prs (ks : List Str) (vs : List V) : List (V × V) := (ks.zip vs).map fun p => (V.str p.1, p.2)
def PrOk (X : Cx) (c : Cfg) (W : WX) (ks : List Str) (f : Env → Store → R (List D)) (trs : List (TE × TE)) : Prop :=
  ∀ (σ : L2.St) (H : Hp) (e : Env) (m : MM) (S : Store) (Q : List (V × V) → Hp → Prop), EnvR X.K c m H e σ → Sim X.K c m H S →
    Aft X.K c W σ m H (f e S) (fun ds S1 m1 H1 => ∀ vs, RVs X.K c m1 H1 ds vs → ds.length = ks.length → Q (prs ks vs) H1) → L2.tPairs trs σ H Q
theorem prok_nil : PrOk X c W [] (fun _ S => .ok [] S) [] := fun σ H e m S Q re s h => h.now s [] .nil rfl
theorem prok_cons {k : Str} {ks : List Str} {fa : Env → Store → R D} {fs : Env → Store → R (List D)} {trs : List (TE × TE)} (hr : PrOk X c W ks fs trs) :
    PrOk X c W (k :: ks) (fun e S => (fa e S).bind fun x S1 => (fs e S1).bind fun xs S2 => .ok (x :: xs) S2) ((tE X.K c W (fun _ S => .ok (.str k) S), tE X.K c W fa) :: trs) := by
  intro σ H e m S Q re s h
  show tE X.K c W (fun _ S => .ok (.str k) S) σ H _
  refine ⟨e, m, S, re, s, ?_⟩
  intro m1 H1 e1 s1 u ru
  cases ru
  have re1 := re.mono s e1
  refine ⟨e, m1, S, re1, s1, (Aft.bind (h.shift e1)).imp fun x S2 m2 H2 e2 s2 h2 y ry => ?_⟩
  refine hr σ H2 e m2 S2 _ (re1.mono s1 e2) s2 ((Aft.bind h2).imp fun xs S3 m3 H3 e3 s3 h3 vs rvs hl => ?_)
  exact h3.now s3 (y :: vs) (.cons (ry.mono s2 e3) rvs) (by simp [hl])
theorem prs_kvz : ∀ {ks : List Str} {vs : List V}, ks.length = vs.length → prs ks vs = (kvz ks vs).map fun kv => (L2.kV kv.1, kv.2)
  | [], [], _ => rfl
  | k :: ks, v :: vs, h => by
    show (V.str k, v) :: prs ks vs = _
    rw [prs_kvz (by simpa using h)]
    rfl
  | [], _ :: _, h => by simp at h
  | _ :: _, [], h => by simp at h
theorem pe_dictE {keys : List (Option Expr)} {values : List Expr} {pos : Pos} {ks : List Str} {fs : Env → Store → R (List D)} {trs : List (TE × TE)} (hp : L2.PPs X pos keys values trs) (hq : PrOk X c W ks fs trs)
    (hall : keys.all (·.isSome) = true) (hl : keys.length = values.length) (h0 : keys ≠ []) (h15 : keys.length ≤ 15) : PE X (.Dict keys values pos) (tE X.K c W fun e S => (fs e S).bind fun ds S1 => dicA ks ds S1) := by
  refine PE.imp (L2.pe_disp hp hall hl h0 h15) ?_
  rintro σ H Q ⟨e, m, S, re, s, h⟩
  intro B hB
  obtain ⟨eB, sB⟩ := s.tohide (o := .dK []) hB
  have h0 := Aft.bind0 h
  have hBh : B ∉ m.hid := (s.none_out hB).2
  refine hq σ _ e (m.hide B) S _ (re.mono s eB) sB ((h0.shift eB).imp fun ds S1 m1 H1 e1 s1 h1 vs rvs hds => ?_)
  have hB1 : H1 B = some (.dK []) := e1.keep B _ upd_same (sB.hid B List.mem_cons_self).2 fun ps z => by cases z
  have hb1 : B ∈ m1.hid := e1.hid.1 B List.mem_cons_self
  have e2 := eB.trans e1
  unfold dicA at h1
  obtain ⟨hz, h1⟩ := Aft.if_ h1
  obtain ⟨z1, nd, z2, z3⟩ := hz
  have hlv : ks.length = vs.length := by rw [z1, rvs.length]
  have hmg : L2.mergeK [] (kvz ks vs) = kvz ks vs := kvz_merge (ps := []) (us := []) rfl hlv (by simpa using nd)
  refine ⟨hB1, kvz ks vs, prs_kvz hlv, by rw [kvz_len hlv]; exact z3, ?_⟩
  rw [hmg]
  obtain ⟨r, hr1, hr2⟩ := e2.pre
  have e3 : Ext m H m1 (upd H1 B (.dK (kvz ks vs))) := e2.other hB (by rw [hB1]; simp)
  have s3 := s1.otherD (o := .dK (kvz ks vs)) hb1 hB1
  have hh : ∀ b ∈ m.hid, b ∈ m1.hid := e2.hid.1
  have e10 : Ext m H ⟨m1.ix ++ [B], m.hid⟩ (upd H1 B (.dK (kvz ks vs))) := ⟨⟨r ++ [B], by rw [hr1]; simp, fun a h => by
    rcases List.mem_append.mp h with h | h
    · exact hr2 a h
    · rw [List.mem_singleton.mp h]; exact hB⟩, ⟨fun _ h => h, fun _ h => .inl h⟩, e3.keep, e3.stay⟩
  have hT : ∀ vs, H1 B ≠ some (.tup vs) ∧ ∀ o', H1 B ≠ some (.frz o' (.tup vs)) := fun us => ⟨by rw [hB1]; simp, fun o' => by rw [hB1]; simp⟩
  refine h1 _ _ e10 (s3.adoptO hb1 hh hBh upd_same (.dic z1 nd ((rvs.other hb1 hT (fun φ => by rw [hB1]; simp)).adopt hb1 hh))) _ (.ref ?_)
  show (m1.ix ++ [B])[S1.length]? = some B
  rw [List.getElem?_append_right (by rw [s1.len]; exact Nat.le_refl _), s1.len]
  simp
end
end Mn

/-! MnT: a caught exception that is kept. -/
namespace Mn
open PySem PySem.Spec PyProof.Rows
open L2 (V Hp HO Cx Inv upd upd_same upd_ne ObjOk St WX TS PS PSs Ends SP Zc Sky Takes Names Loc frs)
theorem trackOk {X : Cx} {pins : List (Addr × Obj)} {σ : L2.St} {H : Hp} {s : Shared} {a : Addr} {o : HO} (I : Inv X pins σ H s) (h0 : X.s_0.heap.get? a = none) (na : H a = none) (hL : a ≠ X.env.locals) (hc : ∀ x c, X.env.cells.lookup x = some c → c ≠ a)
    (hp : ∀ p ∈ X.pn ++ pins, p.1 ≠ a) (new : ObjOk X.prog X.w (upd H a o) s.heap a o) : Inv X pins σ (upd H a o) s where
  ok := I.ok
  os := I.os
  bare := I.bare
  base := {
    keep := I.base.keep
    slot := I.base.slot
    free := fun b u q n z => by
      rw [upd_ne fun e => by rw [e, h0] at q; cases q]
      exact I.base.free b u q n z
    there := I.base.there
    tups := fun b xs q => by
      have t := I.base.tups b xs q
      rw [upd_ne (L2.ne_of_none t na)]
      exact t
    frzs := fun b u xs q => by
      have t := I.base.frzs b u xs q
      rw [upd_ne (L2.ne_of_none t na)]
      exact t
    tbls := fun b ps q => by
      obtain ⟨r, t⟩ := I.base.tbls b ps q
      exact ⟨r, by rw [upd_ne (L2.ne_of_none t na)]; exact t⟩ }
  loc := I.loc
  cell := I.cell
  free := by rw [upd_ne hL.symm]; exact I.free
  freeC := fun x c e => by rw [upd_ne (hc x c e)]; exact I.freeC x c e
  pin := fun p z => by
    obtain ⟨q1, q2, q3⟩ := I.pin p z
    exact ⟨q1, by rw [upd_ne (hp p z)]; exact q2, q3⟩
  hok := I.hok.laidN (fun _ _ e => e) na new
  len := I.len
/-- what 'except c as n: v = n' wishes, c letting all by; i: n's slot, j: v's -/
def wK (K : PySem.W.Frag) (c : Value) (i j : Nat) (D : Ends) : WX := fun cls d σ H =>
  PySem.W.exmOne K cls c = some true ∧ ∀ a, H a = none → D.nx (((σ.set i (some (.ref a))).set j (some (.ref a))).set i none) (upd H a (ExK cls d a))
section
variable {X : Cx} {x n v : Str} {c : Value} {i j : Nat} {body : List Stmt} {np vp p2 ap pos pos' : Pos} {tb : WX → TS}
theorem ps_kept (hs : X.stack = X.env :: X.outer) (hf : X.env.frame = some X.env.locals) (hex : X.ex = []) (hN : X.N.Nodup) (hi : X.N[i]? = some n) (hn : X.env.kindOf n = some .local) (hj : X.N[j]? = some v) (hv : X.env.kindOf v = some .local) (hc : Names X x c)
    (hdb : (n == ("__debug__" : Str)) = false) (hcd : (n == ("__classdict__" : Str)) = false)
    (hb : ∀ (W : WX) (pn : List (Addr × Obj)) (xe : Value → Shared → Prop), Takes (X.tr pn xe) W → PassesOwn (model X.prog X.w) X.A X.env xe → PSs (X.tr pn xe) body (tb W)) :
    PS X (.Try body [.ExceptHandler (some (.Name x np)) (some n) [.Assign [.Name v vp] (.Name n p2) ap] pos'] [] [] pos) (fun D σ H => tb (wK X.K c i j D) D σ H) := by
  constructor
  intro pins s σ H D I rd
  have good := I.ok
  have frm : X.A.frames = some (X.env :: X.outer) := by rw [good.frames, hs]
  apply wpAny_Try_except
  have R := hb (wK X.K c i j D) (X.pn ++ pins) (fun e t => wpAny (model X.prog X.w) X.A (noteFrame e X.env) (fun _ t1 => wpAny (model X.prog X.w) X.A (setFlight e none) (fun _ t2 =>
    wpAny (model X.prog X.w) X.A (handleBy e X.env [.ExceptHandler (some (.Name x np)) (some n) [.Assign [.Name v vp] (.Name n p2) ap] pos']) (SP X pins D) X.xe t2) X.xe t1) X.xe t) ?fly PassesOwn.looking
  case fly =>
    rintro u t ⟨a, B, t0, qs, τ, J, cls, d, rfl, I0, nb, up, sky, na, os, ag, hb1, yes⟩
    have I1 : Inv X pins τ J t0 := I0.ofTry good
    have sky : Sky B (X.env :: X.outer) a (Zc cls d) X.env.locals t.heap := by rw [← hs]; exact sky
    show wpAny (model X.prog X.w) X.A (noteFrame (.ref a) X.env) _ _ _
    refine Sky.land Zc.steady frm hf sky fun g1 f1 u1 => ?_
    have I2 : Inv X pins τ J { t with heap := g1 } := I1.landed nb f1.1 (up.trans u1) os ag
    obtain ⟨oe, es, e1, z1, d1⟩ := f1.there
    have out : a ∉ frs (X.env :: X.outer) := by
      intro hm
      obtain ⟨_, o', e', hnf⟩ := f1.2.2.1.mem hm
      rw [e1] at e'
      cases e'
      exact hnf _ d1
    have aL : a ≠ X.env.locals := by
      intro e
      exact out (List.mem_filterMap.mpr ⟨X.env, List.mem_cons_self, by rw [hf, e]⟩)
    have aF : a ∉ X.fs := by
      intro hm
      obtain ⟨en, h1, h2⟩ := List.mem_filterMap.mp hm
      exact out (List.mem_filterMap.mpr ⟨en, List.mem_cons_of_mem _ h1, h2⟩)
    -- a is none of what stood
    have gone : ∀ b o, t0.heap.get? b = some o → b ∉ frs X.stack → b ≠ a := by
      intro b o e hb2 z
      have := nb b o e hb2
      rw [z, f1.2.1] at this
      cases this
    have aS : a ∉ frs X.stack := by rw [hs]; exact out
    have fresh0 : X.s_0.heap.get? a = none := by
      cases e : X.s_0.heap.get? a with
      | none => rfl
      | some o =>
        obtain ⟨o2, e2⟩ := I1.base.there a o e (by rw [hex]; simp)
        exact absurd rfl (gone a o2 e2 aS)
    have pinA : ∀ p ∈ X.pn ++ pins, p.1 ≠ a := by
      intro p hp
      obtain ⟨q1, q2, q3, q4, _⟩ := I1.pin p hp
      refine gone p.1 p.2 q1 ?_
      rw [hs]
      intro hm
      obtain ⟨en, h1, h2⟩ := List.mem_filterMap.mp hm
      rcases List.mem_cons.mp h1 with z | z
      · rw [z, hf] at h2
        exact q3 (Option.some.inj h2).symm
      · exact q4 (List.mem_filterMap.mpr ⟨en, z, h2⟩)
    have S1 := I2.suite e1 d1 na aL aF
    refine wpAny_handleBy_cons (codeAny_handlers_test ?_) (by intro q; cases q)
    have look : PySem.W.Looks (model X.prog X.w) g1 (typeOf (.ref a)) cls := fun _ _ _ _ k q => wpAny_typeOf_ref (k _ _ e1) (by rw [z1.1]; exact q)
    have one := PySem.W.exm_one (M := model X.prog X.w) I2.kIn look hb1
    have named : ∀ {Q : Value → Shared → Prop} {E : Value → Shared → Prop}, Q c { t with heap := g1 } → wpAny (model X.prog X.w) (X.A.mark (some (.ref a))) (eval (.Name x np) X.env) Q E { t with heap := g1 } := by
      intro Q E q
      obtain ⟨k1, k2, k3 | ⟨k3, k4, k5⟩⟩ := hc
      · exact L2.ld_glob (X := X.suite a ((a, oe) :: (X.pn ++ pins))) S1 k1 k3 q k2
      · exact L2.ld_blt (X := X.suite a ((a, oe) :: (X.pn ++ pins))) S1 k1 k3 k4 q k5 k2
    refine named (one.here ?_)
    refine codeAny_handlers_suite_as ?_
    refine HandSPX.lands_againZ f1 fun g2 f2 u2 => ?_
    have I3 : Inv X pins τ J { t with heap := g2 } := I1.landed nb f2.1 ((up.trans u1).trans u2) os ag
    obtain ⟨oe2, es2, e2, z2, d2⟩ := f2.there
    have S2 := I3.suite e2 d2 na aL aF
    refine L2.store_ok (X := X.suite a ((a, oe2) :: (X.pn ++ pins))) (v := .ref a) S2 hN hi (.inl hn) rfl (fun t5 S5 => ?_) (.inr hn)
    have within : PSs (X.suite a ((a, oe2) :: (X.pn ++ pins))) [.Assign [.Name v vp] (.Name n p2) ap] (L2.tAsg (L2.tVar i) (L2.gName j)) := L2.pss_one (L2.ps_set (i := j) hN hj (.inl hv) (L2.pe_var hi (.inl hn) hdb hcd) rfl (.inr hv))
    have hlen : i < τ.length := by rw [I3.len]; exact (List.getElem?_eq_some_iff.mp hi).1
    have run := within.run [] t5 (τ.set i (some (.ref a))) J ⟨fun σ' H' => σ' = (τ.set i (some (.ref a))).set j (some (.ref a)) ∧ H' = J, fun _ _ => False, fun _ _ => False, fun _ _ => False⟩ S5 ⟨.ref a, by simp [hlen], rfl, rfl⟩
    refine wpAny_mono run (fun f t6 got => ?_) (fun _ _ z => False.elim z)
    cases f with
    | next =>
      obtain ⟨τ6, J6, S6, rfl, rfl⟩ := got
      have pa := S6.pin (a, oe2) (by simp)
      have U := S6.unsuite good
      have U2 : Inv X ((a, oe2) :: pins) ((τ.set i (some (.ref a))).set j (some (.ref a))) J6 t6 := U.pins_of fun p hp => by
        rcases List.mem_cons.mp hp with z | z
        · rw [z]; exact ⟨pa.1, pa.2.1, aL, aF, pa.2.2.2.2⟩
        · exact U.pin p (List.mem_append_right _ z)
      refine L2.gone_ok U2 hN hi hn fun t7 U7 => ?_
      have p7 := U7.pin (a, oe2) (by simp)
      have U8 : Inv X pins (((τ.set i (some (.ref a))).set j (some (.ref a))).set i none) J6 t7 := U7.pins_of fun p hp => U7.pin p (List.mem_append_right _ (List.mem_cons_of_mem _ hp))
      have ob : ObjOk X.prog X.w (upd J6 a (ExK cls d a)) t7.heap a (ExK cls d a) := exK_ok p7.1 z2 ⟨_, d2⟩
      refine ⟨_, _, trackOk U8 fresh0 na aL (fun y cc hy z => ?_) pinA ob, yes a na⟩
      obtain ⟨w1, hw⟩ := U8.cell y cc hy
      obtain ⟨o1, ho1, hd1⟩ := hw
      rw [z, p7.1] at ho1
      cases ho1
      exact p7.2.2.2.2 _ hd1
    | brk =>
      obtain ⟨_, _, _, q⟩ := got
      exact q.elim
    | cont =>
      obtain ⟨_, _, _, q⟩ := got
      exact q.elim
    | ret u =>
      obtain ⟨_, _, _, _, _, q⟩ := got
      exact q.elim
  refine wpAny_mono (R.run [] s σ H D (I.toTry _) rd) (fun f t1 got => ?_) (fun _ _ q => q)
  cases f with
  | next =>
    obtain ⟨τ, J, I5, q⟩ := got
    exact wpAny_execs_nil ⟨τ, J, I5.ofTry good, q⟩
  | brk =>
    obtain ⟨τ, J, I5, q⟩ := got
    exact ⟨τ, J, I5.ofTry good, q⟩
  | cont =>
    obtain ⟨τ, J, I5, q⟩ := got
    exact ⟨τ, J, I5.ofTry good, q⟩
  | ret u =>
    obtain ⟨v1, τ, J, I5, r, q⟩ := got
    exact ⟨v1, τ, J, I5.ofTry good, r, q⟩
end
section
variable {X : Cx} {c : Cfg} {W : WX}
theorem ps_keptE {x n v t : Str} {kc : Value} {i j l : Nat} {a : Expr} {fa : Env → Store → R D} {np vp p2 p3 ap aq pos pos' : Pos} (hs : X.stack = X.env :: X.outer) (hf : X.env.frame = some X.env.locals) (hex : X.ex = []) (hN : X.N.Nodup) (hi : X.N[i]? = some n) (hn : X.env.kindOf n = some .local) (hj : X.N[j]? = some v) (hv : X.env.kindOf v = some .local)
    (hl : X.N[l]? = some t) (ht : X.env.kindOf t = some .local) (hc : Names X x kc) (hdb : (n == ("__debug__" : Str)) = false) (hcd : (n == ("__classdict__" : Str)) = false)
    (all : ∀ y C, c.ca y = some C → PySem.W.exmOne X.K (.ref C) kc = some true)
    (ha : ∀ (W : WX) (pn : List (Addr × Obj)) (xe : Value → Shared → Prop), Takes (X.tr pn xe) W → L2.PE (X.tr pn xe) a (tE X.K c W fa)) (hsw : swapsWith a (some (.Name t p3)) aq.line X.env = pure false) :
    PS X (.Try [.Assign [.Name t p3] a aq] [.ExceptHandler (some (.Name x np)) (some n) [.Assign [.Name v vp] (.Name n p2) ap] pos'] [] [] pos) (tS X.K c W fun e S => keptA i j l (fa e S) e) := by
  refine PS.imp (ps_kept (c := kc) (tb := fun W => L2.tAsg (tE X.K c W fa) (L2.gName l)) hs hf hex hN hi hn hj hv hc hdb hcd fun W pn xe tk hp => L2.pss_one (L2.ps_set (X := X.tr pn xe) (i := l) hN hl (.inl ht) (ha W pn xe tk) hsw (.inr ht))) ?_
  rintro D σ H ⟨e, m, S, re, s, h⟩
  refine ⟨e, m, S, re, s, ?_⟩
  have h : Aft X.K c W σ m H (keptA i j l (fa e S) e) (fun r _ m' H' => FlowR X.K c D r m' H') := h
  cases r : fa e S with
  | ok d S1 =>
    rw [r] at h
    intro m1 H1 e1 s1 u ru
    exact h m1 H1 e1 s1 _ ((re.mono s e1).set ru l)
  | bad =>
    rw [r] at h
    exact h.elim
  | exc y S1 =>
    rw [r] at h
    intro m1 H1 cls dx e1 s1 ry
    cases ry with
    | @own y C hC =>
      refine ⟨all _ _ hC, fun b hb => ?_⟩
      have e2 : Ext m H m1 (upd H1 b (ExK (.ref C) none b)) := e1.trans (Ext.fresh hb s1)
      have s2 : Sim X.K c m1 (upd H1 b (ExK (.ref C) none b)) S1 := s1.fresh hb
      have rv : RV X.K c m1 (upd H1 b (ExK (.ref C) none b)) (.exn y []) (.ref b) := .exn hC upd_same
      exact h m1 _ e2 s2 _ (((((re.mono s e2).set rv i).set rv j)).none i)
end
end Mn

/-! MnI: isinstance of a kept exception, or of anything, with an own class. -/
namespace Mn
open PySem PySem.Spec PyProof.Rows
open L2 (V Hp HO Cx SqL SqT Rd St VK WX XK TE TA TS TT TG TI PE PA PS PSs PT PG PI Ends upd upd_same upd_ne OpR R2 Inv Dp DpAll UnR CallR Walk Zc RelV ClsV TyX ExcC)
def rIsK (K : Frag) : List V → Hp → VK → Prop := fun xs H Q => ∃ (a D : Addr) (k : V) (u : Value) (b : Bool), xs = [.ref a, k] ∧ H a = some (ExK (.ref D) none a) ∧ ExcC K D ∧ ClsV k u ∧ PySem.W.kitOne K (.ref D) u = some b ∧ Q (.bl b) H
theorem cr_isK {X : Cx} : CallR X (.builtin "isinstance") (rIsK X.K) := by
  intro pins s σ H xs us Q I r h
  obtain ⟨a, D, k, u, b, rfl, hH, C, kc, e, q⟩ := h
  obtain ⟨u1, u2, rfl, r1, r2⟩ := L2.vals2 r
  cases (show u1 = Value.ref a from r1)
  have e2 := kc.eq r2
  subst e2
  obtain ⟨⟨oe, hget, ⟨z1, z2⟩, es, z3⟩, _⟩ := I.hok a _ hH
  obtain ⟨k1, k2, k3, k4⟩ := oe
  dsimp only at z1 z2 z3
  subst z1 z2 z3
  exact PySem.W.kia_one (PySem.W.handS_kitx_exc C.hg C.hk C.hs C.hd C.ha C.hn C.ht C.hm) I.kIn ⟨hget, rfl, rfl, trivial⟩ e (fun z => nomatch z) fun tk => ⟨.bl b, H, I.tok tk, rfl, q⟩
def tyNs : List String := ["NoneType", "bool", "int", "str", "tuple", "list"]
/-- what is known of an own class that things are asked by -/
structure IsCl (K : Frag) (mg : Str → Option Value) (ca : String → Option Addr) (y : String) (tab : List (String × Bool)) : Prop where
  ex : ∃ (k : V) (u : Value), ClsV k u ∧ RelV k u ∧ (mg (Str.ofString y) = some u ∨ (mg (Str.ofString y) = none ∧ bootBuiltins (Str.ofString y) = some u)) ∧
    (∀ T ∈ tyNs, PySem.W.kitOne K (.type T) u = some false) ∧ ∀ x b D, tab.lookup x = some b → ca x = some D → ExcC K D ∧ PySem.W.kitOne K (.ref D) u = some b
theorem tyOf_mem {S : Store} {d : D} {t : String} (h : tyOf S d = some t) : t ∈ tyNs := by
  unfold tyOf at h
  split at h <;> first | (cases h; decide) | (split at h <;> first | (cases h; decide) | (cases h; done)) | (cases h; done)
section
variable {X : Cx} {c : Cfg} {W : WX}
theorem pe_isxE {y : String} {tab : List (String × Bool)} {a : Expr} {fa : Env → Store → R D} {p q pos : Pos} (hg : L2.Gl X "isinstance") (hm : X.mg "isinstance" = none) (ha : PE X a (tE X.K c W fa)) (hgy : L2.Gl X (Str.ofString y)) (hdb : (Str.ofString y == ("__debug__" : Str)) = false) (hny : Str.ofString y ≠ "__name__")
    (F : IsCl X.K X.mg c.ca y tab) (hs : starEach [a, .Name (Str.ofString y) q] X.env = [(false, eval a X.env), (false, eval (.Name (Str.ofString y) q) X.env)]) :
    PE X (.Call (.Name "isinstance" p) [a, .Name (Str.ofString y) q] [] pos) (tE X.K c W fun e S => (fa e S).bind fun d S1 => R.ofO ((isxA tab S1 d).map .bl) S1) := by
  obtain ⟨k, u, kc, ru, hu, hk, ht⟩ := F.ex
  have hy : PE X (.Name (Str.ofString y) q) (L2.tC k) := by
    rcases hu with hu | ⟨h1, h2⟩
    · exact L2.pe_glob hgy hu ru hdb
    · exact L2.pe_bltn hgy h1 h2 ru hny hdb
  refine PE.imp (L2.pe_callB (L2.call_isi.or cr_isK) hg hm boot_isinstance (L2.pa_cons ha (L2.pa_cons hy L2.pa_nil rfl) hs) (by decide) (by decide) hs rfl) ?_
  rintro σ H Q ⟨e, m, S, re, s, h⟩
  refine ⟨e, m, S, re, s, h.bind.imp fun d S1 m1 H1 e1 s1 h1 w rw' => ?_⟩
  obtain ⟨b, hb, h1⟩ := h1.ofO s1
  rw [Option.map_eq_some_iff] at hb
  obtain ⟨b, hb, rfl⟩ := hb
  have q := h1 _ (.bl b)
  unfold isxA at hb
  split at hb
  · cases rw' with
    | exn hC hH =>
      obtain ⟨E, e2⟩ := ht _ _ _ hb hC
      exact .inr ⟨_, _, k, u, b, rfl, hH, E, kc, e2, q⟩
  · cases hty : tyOf S1 d with
    | none => rw [hty] at hb; cases hb
    | some T =>
      rw [hty] at hb
      cases hb
      exact .inl ⟨w, k, .type T, u, false, rfl, kc, tyOf_tyx s1 rw' hty, hk T (tyOf_mem hty), q⟩
end
end Mn

/-! MnE: enumerate of tuples, index of tuples of texts. -/
namespace Mn
open PySem PySem.Spec PyProof.Rows
open L2 (V Hp HO Cx SqL SqT Rd St VK WX XK TE TA TS TT TG TI PE PA PS PSs PT PG PI Ends upd upd_same upd_ne OpR R2 Inv Dp DpAll UnR CallR Walk)

/-! ### enumerate -/
set_option maxHeartbeats 1000000 in
theorem meets_enum1 {v : Value} {o : Obj} {H : Heap → Prop} (B : Begins v o H) :
    Meets (Builtin.«enumerate.__new__» ⟨[.type "enumerate", v], []⟩) (fun _ R s => H s.heap ∧
      R (.ok (.ret (.ref (s.heap.push o).objs.size))) { s with heap := (s.heap.push o).push { cls := .type "enumerate", data := .fields #[.none, .bool false, .ref s.heap.objs.size, rawInt 0, .none, .none] } }) :=
  .of_wp fun prog w A R s h => by
    obtain ⟨hp, g, d, tk, os⟩ := s
    obtain ⟨h1, h⟩ := h
    have hsub := sub_enumerate
    have q1 : ∀ {A' : Around} {E : Value → Shared → Prop} {Q : Value → Shared → Prop}, Q (.ref hp.objs.size) ⟨hp.push o, g, d, tk, os⟩ → wpAny (model prog w) A' (pyIter v) Q E ⟨hp, g, d, tk, os⟩ :=
      fun q => B.iter prog w _ _ ⟨hp, g, d, tk, os⟩ _ h1 q
    wp_walk using q1
    refine wpAny_stack_any fun st => wpAny_pure ?_
    split
    · rename_i c _ _ _ _ _
      cases (c == Value.type "enumerate") <;> (wp_walk using q1; exact ⟨_, rfl, h⟩)
    · wp_walk using q1
      exact ⟨_, rfl, h⟩
theorem enum1 {prog : Program} {w : World} {A : Around} {E : Value → Shared → Prop} {s : Shared} {v : Value} {o : Obj} {H : Heap → Prop} {Q : Value → Shared → Prop} (B : Begins v o H) (h1 : H s.heap)
    (h : ∀ h', IsEnum h' (s.heap.objs.size + 1) s.heap.objs.size 0 .none → h'.get? s.heap.objs.size = some o → (∀ b u, s.heap.get? b = some u → h'.get? b = some u) → Q (.ref (s.heap.objs.size + 1)) { s with heap := h' }) :
    wpAny (model prog w) A (call (.type "enumerate") [v]) Q E s := by
  refine callType_new F.called_enumerate (by decide) (F.typeCall_enumerate_1 _) (F.newCall_enumerate_1 _) (fun obj => F.args_object_init_2 obj _) F.entry_enumerate_new (meets_enum1 B) ⟨h1, ?_⟩
  have hz : (s.heap.push o).objs.size = s.heap.objs.size + 1 := Heap.size_push ..
  show _ ∧ _
  rw [hz]
  have he := Heap.get?_push_size (s.heap.push o) (o := { cls := .type "enumerate", data := .fields #[.none, .bool false, .ref s.heap.objs.size, rawInt 0, .none, .none] }) rfl
  rw [hz] at he
  exact ⟨⟨_, he, rfl⟩, h _ he (Heap.get?_push_of_some _ (Heap.get?_push_size _ B.free)) fun b u x => Heap.get?_push_of_some _ (Heap.get?_push_of_some _ x)⟩
/-- the tuple at a, the items in new pairs -/
def IteT (K : Frag) (a : Addr) : L2.It :=
  ⟨fun i H => ∃ (xs : List V) (x : V), SqT K H a xs ∧ xs[i]? = some x, fun i H v H' => ∃ T x, v = .ref T ∧ H T = none ∧ H' = upd H T (.tup [.int (i : Nat), x]) ∧ ∀ xs, SqT K H a xs → xs[i]? = some x, fun i H => ∃ xs : List V, SqT K H a xs ∧ xs.length ≤ i⟩
theorem turn_enumT {P : Program} {w : World} {K : Frag} {elts : List Expr} {kk : Nat} {tpos : Pos} (a e it : Addr) :
    L2.Turn P w K (.Tuple elts kk tpos) (IteT K a) [e, it] e (fun i h => (∃ old, IsEnum h e it ((i : Nat) : Int) old) ∧ h.IsTupleIter it a i ∧ e ≠ it) where
  mem := by simp
  obj := fun i h st b hb => by
    obtain ⟨⟨old, he⟩, ⟨o, ho, hc, hd⟩, _⟩ := st
    rcases (show b = e ∨ b = it by simpa using hb) with z | z
    · rw [z]; exact ⟨_, he, fun v q => nomatch q⟩
    · rw [z]; exact ⟨o, ho, fun v q => by rw [hd] at q; cases q⟩
  keep := fun i h h' st k => let ⟨⟨old, he⟩, hi, hne⟩ := st; ⟨⟨old, k e (by simp) _ he⟩, hi.at fun o q => k it (by simp) o q, hne⟩
  item := by
    intro X hP hw hK hc i pins s σ H E I hf st hg
    subst hP hw hK
    obtain ⟨⟨old, he⟩, hit, hne⟩ := st
    obtain ⟨xs, x, hq, hx⟩ := hg
    obtain ⟨its, rv, p, hz⟩ := I.tuple hq
    obtain ⟨u, hu, ru⟩ := rv.get hx
    have hel : e < s.heap.objs.size := Heap.lt_size he
    have hil : it < s.heap.objs.size := by obtain ⟨_, q, _⟩ := hit; exact Heap.lt_size q
    have p' : s.heap.IsTuple a its.toArray := p
    have ne1 : a ≠ it := fun z => by
      obtain ⟨o1, q1, c1, _⟩ := hit
      obtain ⟨o2, q2, c2, _⟩ := p'
      rw [z, q1] at q2
      cases q2
      rw [c1] at c2
      exact absurd c2 (by decide)
    have ne2 : a ≠ e := fun z => by
      obtain ⟨o2, q2, c2, _⟩ := p'
      rw [z] at q2
      rw [show s.heap.get? e = _ from he] at q2
      cases q2
      exact absurd (show Value.type "enumerate" = Value.type "tuple" from c2) (by decide)
    have hlen : i < its.toArray.size := by
      rw [List.size_toArray]
      exact (List.getElem?_eq_some_iff.mp hu).1
    refine wpAny_pyNext_enum_itemD (Draws.tuple (A := X.A.in1) (I.ok.hd hc) it a ne1 its.toArray) he ⟨hit, p'⟩ hlen hne (by simp; exact ⟨hne, fun z => ne2 z.symm⟩) fun x' h' tk hPx ho hit' hT hsz hk => ?_
    have hx' : x' = u := by
      have : its[i]? = some x' := by simpa using hPx
      rw [hu] at this
      exact (Option.some.inj this).symm
    subst hx'
    refine ⟨_, rfl, wpAny_letOwnedTupleGo_enum (s := { s with heap := h', toks := tk + 1 }) ho fun h'' he' sb => ?_⟩
    have hT2 := (sb.2 _ (Nat.ne_of_gt hel)).trans hT
    have new : L2.ObjOk X.prog X.w (upd H s.heap.objs.size (.tup [.int (i : Nat), x])) h'' s.heap.objs.size (.tup [.int (i : Nat), x]) :=
      ⟨by show 2 ≤ sizeLine; decide, [.int i tk, x'], .cons ⟨_, rfl⟩ (.cons ru .nil), ⟨_, hT2, rfl, _, rfl⟩⟩
    have I1 : Inv X pins σ (upd H s.heap.objs.size (.tup [.int (i : Nat), x])) { s with heap := h'', toks := tk + 1 } :=
      I.turnedNew (ch := [e, it]) (fun b ob hb q => (sb.2 b (fun z => hb (by simp [z]))).trans (hk b ob (fun z => hb (by simp [z])) (fun z => hb (by simp [z])) q)) hf (Nat.le_refl _) new
    refine ⟨.ref s.heap.objs.size, _, I1, rfl, ⟨_, x, rfl, I.hok.fresh (Nat.le_refl _), rfl, fun ys hy => by rw [I.tuple_inj hy hq]; exact hx⟩, ⟨⟨x', ?_⟩, hit'.1.at fun o q => (sb.2 it (Ne.symm hne)).trans q, hne⟩, fun b hb => ?_⟩
    · have e1 : ((i + 1 : Nat) : Int) = (i : Int) + 1 := by omega
      rw [e1]; exact he'
    · have hb' : b < s.heap.objs.size := by
        rcases (show b = e ∨ b = it by simpa using hb) with z | z
        · rw [z]; exact hel
        · rw [z]; exact hil
      rw [upd_ne (Nat.ne_of_lt hb')]
      exact (hf b hb).1
  done := by
    intro X hP hw hK hc i pins s σ H E I hf st hg
    subst hP hw hK
    obtain ⟨⟨old, he⟩, hit, hne⟩ := st
    obtain ⟨xs, hq, hx⟩ := hg
    obtain ⟨its, rv, p, hz⟩ := I.tuple hq
    obtain ⟨f0, f1, f2, f3, f4, f5⟩ := hf it (by simp)
    have hl := rv.length
    have p' : s.heap.IsTuple a its.toArray := p
    have ne1 : a ≠ it := fun z => by
      obtain ⟨o1, q1, c1, _⟩ := hit
      obtain ⟨o2, q2, c2, _⟩ := p'
      rw [z, q1] at q2
      cases q2
      rw [c1] at c2
      exact absurd c2 (by decide)
    have D : Draws X.prog X.w X.A.in1 it [it, a] i (fun _ _ => True) (fun j h => j = i ∧ h.IsTupleIter it a i ∧ h.IsTuple a its.toArray) := {
      live := fun _ _ st => let ⟨o, ho, _⟩ := st.2.1; ⟨o, ho⟩
      frame := fun _ _ _ st hk => ⟨st.1, st.2.1.at fun o e => hk it (by simp) o e, st.2.2.at fun o e => hk a (by simp) o e⟩
      item := fun j s Q E hi st _ => absurd st.1 (by omega)
      done := fun s Q E st hE => wpAny_nextOf_tuple_end (I.ok.hd hc) st.2.1 st.2.2 (by simp; omega) hE }
    exact wpAny_pyNext_enum_endD D he ⟨rfl, hit, p'⟩ fun h' eb => ⟨rfl, I.turned (t' := s.toks) (fun b o hb q => eb b o hb q) f0 f1 f3 f4 f5⟩
  self := fun A i s Q E st h => let ⟨⟨_, he⟩, _⟩ := st; wpAny_pyIter_enum he h
section
variable {X : Cx} {c : Cfg} {W : WX}
def iEnA (K : Frag) (ta : TA) : TI := fun σ H R => ta σ H fun vs H1 => ∃ a xs, vs = [.ref a] ∧ ((SqL K H1 a xs ∧ R (L2.Ite K a) H1) ∨ (SqT K H1 a xs ∧ R (IteT K a) H1))
theorem pi_enA {e : Expr} {ta : TA} {p pos tpos : Pos} {elts : List Expr} {kk : Nat} (hg : L2.Gl X "enumerate") (hm : X.mg "enumerate" = none) (ha : PA X [e] ta) (hs : starEach [e] X.env = [(false, eval e X.env)]) :
    PI X (.Tuple elts kk tpos) (.Call (.Name "enumerate" p) [e] [] pos) (iEnA X.K ta) := by
  refine ⟨fun pins s σ H R I h => ?_⟩
  refine Call_ (L2.ld_blt I hg hm boot_enumerate (PyProof.Rows.callWith_type1 (L2.thn (ha.run pos pins s σ H _ I h) fun us s1 ⟨vs, H1, I1, r1, q1⟩ => ?_) hs rfl))
  obtain ⟨a, xs, ex, q1⟩ := q1
  subst ex
  obtain ⟨u, rfl, r⟩ := L2.vals1 r1
  cases r
  have hfp : ∀ b ∈ [s1.heap.objs.size + 1, s1.heap.objs.size], L2.FpOk X pins H1 b := fun b hb => by
    have hle : s1.heap.objs.size ≤ b := by
      rcases (show b = s1.heap.objs.size + 1 ∨ b = s1.heap.objs.size by simpa using hb) with z | z <;> omega
    exact I1.fpOk hle (I1.hok.fresh hle)
  rcases q1 with ⟨hq, q⟩ | ⟨hq, q⟩
  · obtain ⟨its, rv, p', hz⟩ := I1.list hq
    refine enum1 (begins_list a its.toArray) p'.isList fun h' he hit hk => wpAny_pyIter_enum he ?_
    exact ⟨s1.heap.objs.size + 1, _, _, _, H1, rfl, I1.kept (t' := s1.toks) hk, L2.turn_enum a (s1.heap.objs.size + 1) s1.heap.objs.size, ⟨⟨.none, he⟩, ⟨_, hit, rfl, rfl⟩, Nat.succ_ne_self _⟩, hfp, q⟩
  · obtain ⟨its, rv, p', hz⟩ := I1.tuple hq
    refine enum1 (begins_tuple a its.toArray) (show s1.heap.IsTuple a its.toArray from p') fun h' he hit hk => wpAny_pyIter_enum he ?_
    exact ⟨s1.heap.objs.size + 1, _, _, _, H1, rfl, I1.kept (t' := s1.toks) hk, turn_enumT a (s1.heap.objs.size + 1) s1.heap.objs.size, ⟨⟨.none, he⟩, ⟨_, hit, rfl, rfl⟩, Nat.succ_ne_self _⟩, hfp, q⟩
theorem enumF_len : ∀ (l : List D) (n : Nat), (enumF n l).length = l.length
  | [], _ => rfl
  | _ :: r, n => by simp [enumF, enumF_len r]
theorem enumF_get : ∀ (l : List D) (n i : Nat), (enumF n l)[i]? = l[i]?.map fun d => .wtp [.int ((n + i : Nat) : Int), d]
  | [], n, i => by simp [enumF]
  | d :: r, n, 0 => by simp [enumF]
  | d :: r, n, i + 1 => by
    simp only [enumF, List.getElem?_cons_succ]
    rw [enumF_get r, show n + 1 + i = n + (i + 1) by omega]
theorem along_enumT {m : MM} {H : Hp} {S : Store} {a : Addr} {vs : List V} {l : List D} {g : Gd} (s : Sim X.K c m H S) (h1 : SqT X.K H a vs) (h2 : RVs X.K c m H l vs) : Along X c (IteT X.K a) (enumF 0 l) g m H where
  go := fun i d m2 H2 S2 e s2 g hd => by
    have h3 := e.tup s h1
    rw [enumF_get, Nat.zero_add] at hd
    cases e1 : l[i]? with
    | none => rw [e1] at hd; cases hd
    | some d' =>
      rw [e1] at hd
      cases hd
      obtain ⟨v, hv, rv⟩ := (h2.mono s e).getD e1
      refine ⟨⟨vs, v, h3, hv⟩, fun y H3 hy => ?_⟩
      obtain ⟨T, x', rfl, hT, rfl, hy⟩ := hy
      have := hy vs h3
      rw [hv] at this; cases this
      exact ⟨Ext.fresh hT s2, s2.fresh hT, RV.newWtp s2 hT (.cons (.int _) (.cons rv .nil))⟩
  stop := fun m2 H2 S2 e s2 g => ⟨vs, e.tup s h1, by rw [enumF_len, h2.length]; exact Nat.le_refl _⟩
theorem pi_enumE {elts : List Expr} {kk : Nat} {tpos : Pos} {a : Expr} {fa : Env → Store → R D} {p pos : Pos} (hg : L2.Gl X "enumerate") (hm : X.mg "enumerate" = none) (ha : PE X a (tE X.K c W fa)) (hs : starEach [a] X.env = [(false, eval a X.env)]) :
    PI X (.Tuple elts kk tpos) (.Call (.Name "enumerate" p) [a] [] pos) (tI X c W fun e S => (fa e S).bind fun x S1 => (R.ofO (seqA S1 x) S1).bind fun l S2 => .ok (enumF 0 l, gdOf S2 x) S2) := by
  refine PI.imp (pi_enA hg hm (L2.pa_cons ha L2.pa_nil hs) hs) fun σ H R q => ?_
  obtain ⟨e, m, S, re, s, q⟩ := q
  refine ⟨e, m, S, re, s, q.bind.imp fun x S1 m1 H1 e1 s1 q1 v rv => ?_⟩
  obtain ⟨l, hl, q1⟩ := q1.bind.ofO s1
  have q1 := q1.now s1
  unfold seqA at hl
  split at hl
  · cases hl
    obtain ⟨a, vs, rfl, h2, h3⟩ := seqT_sq (x := .tup _) rv rfl
    exact ⟨a, vs, rfl, .inr ⟨h2, q1 _ (along_enumT s1 h2 h3)⟩⟩
  · obtain ⟨a, vs, rfl, h2, h3⟩ := seqL_sq s1 rv hl
    exact ⟨a, vs, rfl, .inl ⟨h2, q1 _ (along_enum s1 rv hl fun _ g => g)⟩⟩

/-! ### index -/
def tMT (K : Frag) (r : V → List V → Hp → VK → Prop) (to : TE) (t : TA) : TE := fun σ H Q => to σ H fun x H1 => (∃ a vs, x = .ref a ∧ ST K H1 a vs) ∧ t σ H1 fun xs H2 => r x xs H2 Q
theorem pe_mT {T n id : String} {r : V → List V → Hp → VK → Prop} {o a : Expr} {to : TE} {t : TA} {apos cpos : Pos} (hT : T = "tuple") (pa : PlainAttrs T) (slot : Slot T n id) (hty : typeOf (.builtin id) = pure (.type "method_descriptor")) (hm : L2.MtR X id r)
    (ho : PE X o to) (ha : PA X [a] t) (hbase : attributeBase o n X.env (eval o X.env) = eval o X.env) (hline : (apos.endLine == cpos.line) = true) (hs : starEach [a] X.env = [(false, eval a X.env)]) :
    PE X (.Call (.Attribute o n apos) [a] [] cpos) (tMT X.K r to t) := by
  refine ⟨fun pins s σ H Q I h => ?_⟩
  refine wpAny_Call_method_late hbase (by rw [hs]; rfl) hline rfl (L2.thn (ho.run pins s σ H _ I h) fun v s1 ⟨x, H1, I1, r1, ty, q1⟩ => ?_)
  obtain ⟨b, vs, rfl, ty⟩ := ty
  have r0 := r1
  cases r1
  obtain ⟨its, _, pl, _⟩ := I1.tuple ty.sq
  refine ⟨T, id, pa, slot, hty, ?_, fun c z => ?_, ?_⟩
  · subst hT
    exact (show s1.heap.IsTuple b its.toArray from pl).typeIs
  · cases z
    rcases ty.no with ⟨o, k, hd⟩ | ⟨o, k, _, hd⟩
    · exact ⟨o, (I1.hok b _ k).1, hd⟩
    · exact ⟨o, I1.kIn b o k, hd⟩
  · have hA := ha.run cpos pins s1 σ H1 _ I1 q1
    rw [hs] at hA ⊢
    refine Calls.callWith_builtin rfl (Calls.evalArgs_plain ?_)
    exact L2.thn hA fun us s2 ⟨vs, H2, I2, r2, q2⟩ => hm pins s2 σ H2 _ vs _ us Q I2 r0 r2 q2
theorem pe_indexE {o a : Expr} {fo : Env → Store → R D} {fs : Env → Store → R (List D)} {apos cpos : Pos} (ho : PE X o (tE X.K c W fo)) (ha : PA X [a] (tA X.K c W fs)) (hbase : attributeBase o "index" X.env (eval o X.env) = eval o X.env)
    (hline : (apos.endLine == cpos.line) = true) (hs : starEach [a] X.env = [(false, eval a X.env)]) :
    PE X (.Call (.Attribute o "index" apos) [a] [] cpos) (tE X.K c W fun e S => (fo e S).bind fun x S1 => (R.ofO (recvA "tuple" S1 x) S1).bind fun _ S2 => (fs e S2).bind fun ds S3 => mthA "tuple" "index" x ds S3) := by
  refine PE.imp (pe_mT rfl PySem.F.plainAttrs_tuple PySem.F.slot_tuple_index PySem.F.type_tuple_index L2.mt_tup_index ho ha hbase hline hs) fun σ H Q h => ?_
  obtain ⟨e, m, S, re, s, h⟩ := h
  refine ⟨e, m, S, re, s, h.bind.imp fun x S1 m1 H1 e1 s1 h1 u ru => ?_⟩
  obtain ⟨z, hz, h1⟩ := h1.bind.ofO s1
  obtain ⟨l, rfl⟩ : ∃ l, x = .tup l := by
    cases x with
    | tup l => exact ⟨l, rfl⟩
    | _ => simp [recvA] at hz
  cases ru with
  | tup k1 k2 =>
    refine ⟨⟨_, _, rfl, k1⟩, e, m1, S1, re.mono s e1, s1, h1.bind.imp fun ds S2 m2 H2 e2 s2 h2 vs rvs => ?_⟩
    have h2 : Aft X.K c W σ m2 H2 (idxA (.tup l) ds S2) (fun d _ m' H' => ∀ v, RV X.K c m' H' d v → Q v H') := h2
    unfold idxA at h2
    split at h2
    · rename_i l' z' e0 _
      cases e0
      cases rvs with
      | cons q1 q2 =>
        cases q2
        cases q1
        split at h2
        · rename_i ys ey
          obtain ⟨hy, h2⟩ := Aft.if_ h2
          have k2 := k2.mono s1 e2
          cases strsOf_rv (X := X) ey k2
          have hlt := List.idxOf_lt_length_of_mem hy
          refine ⟨_, ys, z', ys.idxOf z', rfl, rfl, (e2.stup s1 k1).sq, ?_, fun j hj hn => ?_, h2.now s2 _ (.int _)⟩
          · rw [List.getElem?_eq_getElem hlt]
            exact congrArg some (List.getElem_idxOf hlt)
          · obtain ⟨h3, h4⟩ := List.getElem?_eq_some_iff.mp hn
            have h5 : (ys[j] == z') = false := List.not_of_lt_findIdx (p := (· == z')) (xs := ys) (i := j) hj
            rw [h4] at h5
            simp at h5
        · exact h2.elim
    · exact h2.elim
end
end Mn

/-! MnS: a list's slice with a step. -/
namespace Mn
open PySem PySem.Spec PyProof.Rows
open L2 (V Hp HO Cx SqL SqT Rd St VK WX XK TE TA TS TT TG TI PE PA PS PSs PT PG PI Ends upd upd_same upd_ne OpR R2 Inv Dp DpAll UnR CallR Walk Vals RelV)
theorem pick_vals {xs : List V} {us : List Value} (r : Vals xs us) : ∀ is : List Nat, Vals (is.filterMap (xs[·]?)) (is.filterMap (us[·]?))
  | [] => .nil
  | i :: is => by
    have ih := pick_vals r is
    cases e : xs[i]? with
    | none =>
      have e2 : us[i]? = none := by
        rw [List.getElem?_eq_none_iff] at e ⊢
        rw [← r.length]; exact e
      rw [List.filterMap_cons_none e, List.filterMap_cons_none e2]
      exact ih
    | some x =>
      obtain ⟨u, e2, ru⟩ := r.get e
      rw [List.filterMap_cons_some e, List.filterMap_cons_some e2]
      exact .cons ru ih
theorem pick_rv {K : Frag} {c : Cfg} {m : MM} {H : Hp} {ds : List D} {vs : List V} (r : RVs K c m H ds vs) : ∀ is : List Nat, RVs K c m H (is.filterMap (ds[·]?)) (is.filterMap (vs[·]?))
  | [] => .nil
  | i :: is => by
    have ih := pick_rv r is
    cases e : ds[i]? with
    | none =>
      have e2 : vs[i]? = none := by
        rw [List.getElem?_eq_none_iff] at e ⊢
        rw [← r.length]; exact e
      rw [List.filterMap_cons_none e, List.filterMap_cons_none e2]
      exact ih
    | some x =>
      obtain ⟨u, e2, ru⟩ := r.getD e
      rw [List.filterMap_cons_some e, List.filterMap_cons_some e2]
      exact .cons ru ih
section
variable {X : Cx} {c : Cfg} {W : WX}
theorem pe_stepE {v : Bool} {a lo st : Expr} {fa fl fs : Env → Store → R D} {p2 pos : Pos} (ha : PE X a (tE X.K c W fa)) (hl : PE X lo (tE X.K c W fl)) (hs : PE X st (tE X.K c W fs)) :
    PE X (.Subscript a (.Slice (some lo) none (some st) p2) pos) (tE X.K c W fun e S => (fa e S).bind fun x S1 => (fl e S1).bind fun i S2 => (fs e S2).bind fun k S3 => slcsA v x i k S3) := by
  refine ⟨fun pins s σ H Q I h => ?_⟩
  obtain ⟨e, m, S, re, sm, h⟩ := h
  refine Subscript_ (L2.thn (ha.run pins s σ H (fun x H1 => ∃ (d : D) (m1 : MM) (S1 : Store), EnvR X.K c m1 H1 e σ ∧ Sim X.K c m1 H1 S1 ∧ RV X.K c m1 H1 d x ∧ Aft X.K c W σ m1 H1 ((fl e S1).bind fun i S2 => (fs e S2).bind fun k S3 => slcsA v d i k S3) fun d _ m' H' => ∀ v, RV X.K c m' H' d v → Q v H') I ⟨e, m, S, re, sm, h.bind.imp fun d S1 m1 H1 e1 s1 h1 u ru => ⟨d, m1, S1, re.mono sm e1, s1, ru, h1⟩⟩) fun u s1 ⟨x, H1, I1, r1, d, m1, S1, re1, sm1, rd, q1⟩ => ?_)
  refine wpAny_Slice (L2.thn (hl.run pins s1 σ H1 (fun y H2 => ∃ (i : D) (m2 : MM) (S2 : Store), EnvR X.K c m2 H2 e σ ∧ Sim X.K c m2 H2 S2 ∧ RV X.K c m2 H2 d x ∧ RV X.K c m2 H2 i y ∧ Aft X.K c W σ m2 H2 ((fs e S2).bind fun k S3 => slcsA v d i k S3) fun d _ m' H' => ∀ v, RV X.K c m' H' d v → Q v H') I1 ⟨e, m1, S1, re1, sm1, q1.bind.imp fun i S2 m2 H2 e2 s2 h2 y ry => ⟨i, m2, S2, re1.mono sm1 e2, s2, rd.mono sm1 e2, ry, h2⟩⟩) fun vl s2 ⟨y, H2, I2, r2, i, m2, S2, re2, sm2, rd2, ri, q2⟩ => ?_)
  rw [evalPart_none]
  refine wpAny_pure ?_
  refine L2.thn (hs.run pins s2 σ H2 (fun z H3 => ∃ (k : D) (m3 : MM) (S3 : Store), Sim X.K c m3 H3 S3 ∧ RV X.K c m3 H3 d x ∧ RV X.K c m3 H3 i y ∧ RV X.K c m3 H3 k z ∧ Aft X.K c W σ m3 H3 (slcsA v d i k S3) fun d _ m' H' => ∀ v, RV X.K c m' H' d v → Q v H') I2 ⟨e, m2, S2, re2, sm2, q2.bind.imp fun k S3 m3 H3 e3 s3 h3 z rz => ⟨k, m3, S3, s3, rd2.mono sm2 e3, ri.mono sm2 e3, rz, h3⟩⟩) fun vk s3 ⟨z, H3, I3, r3, k, m3, S3, sm3, rd3, ri3, rk3, q3⟩ => ?_
  have I4 : Inv X pins σ H3 { s3 with heap := s3.heap.push { cls := .type "slice", data := .fields #[vl, .none, vk] } } := I3.kept (t' := s3.toks) fun b ob q => Heap.get?_push_of_some _ q
  unfold slcsA at q3
  split at q3
  · rename_i i k _
    obtain ⟨k0, q3⟩ := Aft.if_ q3
    split at q3
    · rename_i l el
      obtain ⟨a', vs, rfl, h1, h2⟩ := seqL_sq sm3 rd3 el
      cases ri3; cases rk3
      obtain ⟨t1, rfl⟩ := r2
      obtain ⟨t2, rfl⟩ := r3
      cases r1
      obtain ⟨its, r, ht, hz⟩ := I4.list h1
      have hlen := r.length
      have hlen2 := h2.length
      obtain ⟨hzz, hq⟩ := mkL_new sm3 (pick_rv h2 _) (show Aft X.K c W σ m3 H3 (mkL v (pickL l (some i) none (some k)) S3) _ from q3)
      have hT : typeLookup (.type "list") "__getitem__" = pure (some (.builtin _)) := slot_list_getitem.lookup
      have hg : wpAny (model X.prog X.w) X.A (getItem (.ref a') (.ref s3.heap.objs.size)) (L2.EP X pins σ Q) X.xe { s3 with heap := s3.heap.push { cls := .type "slice", data := .fields #[.int i t1, .none, .int k t2] } } := by
        refine wpAny_getItem_list_slice ht.isList (Heap.IsSliceOf.new ..) (.int i t1) .none (.int k t2) (fun z => k0 (by cases z; rfl)) ?_ (by rw [List.size_toArray]; omega)
        have e : slicePick its.toArray (some i) none (some k) = ((sliceRange (sliceBounds (some i) none (some k) l.length).1 (sliceBounds (some i) none (some k) l.length).2.1 (sliceBounds (some i) none (some k) l.length).2.2).filterMap (its[·]?)).toArray := by
          unfold slicePick
          rw [List.size_toArray, ← hlen, ← hlen2]
          congr 2
          funext n
          simp
        rw [e]
        exact ⟨.ref _, _, I4.lnew (t' := s3.toks) (pick_vals r _) hzz, rfl, hq _ I4.fresh⟩
      show wpAny (model X.prog X.w) X.A (subscriptTail a (.Slice (some lo) none (some st) p2) (.ref a') (.ref s3.heap.objs.size)) (L2.EP X pins σ Q) X.xe { s3 with heap := s3.heap.push { cls := .type "slice", data := .fields #[.int i t1, .none, .int k t2] } }
      first
        | exact tail_any (ops := [.ref a', .ref s3.heap.objs.size]) ht.isList.typeIs hT hg (by with_unfolding_all rfl)
        | exact tail_any (ops := [.ref s3.heap.objs.size, .ref a']) ht.isList.typeIs hT hg (by with_unfolding_all rfl)
    · exact q3.elim
  · exact q3.elim
end
end Mn

/-! Mn9: a def by its body. -/
namespace Mn
open PySem PySem.Spec PyProof.Rows
open L2 (V Hp HO Cx SqL SqT Rd St VK WX XK TE TA TS TT TG TI PE PA PS PSs PT PG PI Ends upd upd_same upd_ne OpR R2 Inv Dp DpAll UnR CallR Walk)

section
variable {K : Frag} {c : Cfg} {m m' m2 : MM} {H H' H2 : Hp} {S S' : Store}
mutual
theorem RV.blw : ∀ {d : D} {v : V}, RV K c m H d v → below m.ix.length d = true
  | _, _, .non => rfl
  | _, _, .bl b => rfl
  | _, _, .int i => rfl
  | _, _, .str x => rfl
  | _, _, .tup _ t => RVs.blw t
  | _, _, .wtp _ t => RVs.blw t
  | _, _, .lst _ t => RVs.blw t
  | _, _, .ref h => by
    simp only [Mn.below, decide_eq_true_eq]
    exact (List.getElem?_eq_some_iff.mp h).1
  | _, _, .fn h => rfl
  | _, _, .cls h => rfl
  | _, _, .ty n => rfl
  | _, _, .exn _ _ => by simp [Mn.below, belows]
theorem RVs.blw : ∀ {ds : List D} {vs : List V}, RVs K c m H ds vs → belows m.ix.length ds = true
  | _, _, .nil => rfl
  | _, _, .cons h t => by simp only [belows, RV.blw h, RVs.blw t, Bool.and_self]
end
mutual
theorem RV.sub {n : Nat} (hix : ∀ i, i < n → m2.ix[i]? = m.ix[i]?) (hs : ∀ a ∈ m2.ix, a ∈ m.ix) (hh : ∀ a ∈ m2.hid, a ∈ m.hid) : ∀ {d : D} {v : V}, RV K c m H d v → Mn.below n d = true → RV K c m2 H d v
  | _, _, .non, _ => .non
  | _, _, .bl b, _ => .bl b
  | _, _, .int i, _ => .int i
  | _, _, .str x, _ => .str x
  | _, _, .tup h t, b => .tup h (RVs.sub hix hs hh t b)
  | _, _, .wtp h t, b => .wtp h (RVs.sub hix hs hh t b)
  | _, _, .lst h t, b => .lst (by
    rcases h with ⟨h1, h2, h3⟩ | h
    · exact .inl ⟨h1, fun z => h2 (hs _ z), fun z => h3 (hh _ z)⟩
    · exact .inr h) (RVs.sub hix hs hh t b)
  | _, _, .ref h, b => .ref (by
    simp only [Mn.below, decide_eq_true_eq] at b
    rw [hix _ b]
    exact h)
  | _, _, .fn h, _ => .fn h
  | _, _, .cls h, _ => .cls h
  | _, _, .ty n, _ => .ty n
  | _, _, .exn h1 h2, _ => .exn h1 h2
theorem RVs.sub {n : Nat} (hix : ∀ i, i < n → m2.ix[i]? = m.ix[i]?) (hs : ∀ a ∈ m2.ix, a ∈ m.ix) (hh : ∀ a ∈ m2.hid, a ∈ m.hid) : ∀ {ds : List D} {vs : List V}, RVs K c m H ds vs → belows n ds = true → RVs K c m2 H ds vs
  | _, _, .nil, _ => .nil
  | _, _, .cons h t, b => by
    simp only [belows, Bool.and_eq_true] at b
    exact .cons (RV.sub hix hs hh h b.1) (RVs.sub hix hs hh t b.2)
end
theorem RO.blw {o : O} {u : HO} (r : RO K c m H o u) : belowO m.ix.length o = true := by
  cases r with
  | lst h => exact h.blw
  | dic _ _ h => exact h.blw
theorem RO.sub {n : Nat} (hix : ∀ i, i < n → m2.ix[i]? = m.ix[i]?) (hs : ∀ a ∈ m2.ix, a ∈ m.ix) (hh : ∀ a ∈ m2.hid, a ∈ m.hid) {o : O} {u : HO} (r : RO K c m H o u) (b : belowO n o = true) : RO K c m2 H o u := by
  cases r with
  | lst h => exact .lst (h.sub hix hs hh b)
  | dic hl nd h => exact .dic hl nd (h.sub hix hs hh b)
/-- what is left behind a call: the things that were there -/
theorem Sim.left (s0 : Sim K c m H S) (e : Ext m H m' H') (s : Sim K c m' H' S') (ok : oldOk S S') :
    Ext m H ⟨m.ix, m'.hid⟩ H' ∧ Sim K c ⟨m.ix, m'.hid⟩ H' (S'.take S.length) ∧ (∀ i, i < S.length → m.ix[i]? = m'.ix[i]?) ∧ (∀ a ∈ m.ix, a ∈ m'.ix) := by
  obtain ⟨r, hr1, hr2⟩ := e.pre
  have hix : ∀ i, i < S.length → m.ix[i]? = m'.ix[i]? := fun i hi => by
    rw [hr1, List.getElem?_append_left (by rw [s0.len]; exact hi)]
  have hs : ∀ a ∈ m.ix, a ∈ m'.ix := fun a ha => by rw [hr1]; exact List.mem_append_left _ ha
  refine ⟨⟨⟨[], by simp, by simp⟩, e.hid, e.keep, e.stay⟩, ⟨by simp [s0.len, ok.1], s0.nd, fun a ha => ⟨(s.hid a ha).1, fun z => (s.hid a ha).2 (hs a z)⟩, fun i o h => ?_, s.tab⟩, hix, hs⟩
  have hi : i < S.length := by
    have := (List.getElem?_eq_some_iff.mp h).1
    simp at this
    omega
  rw [List.getElem?_take_of_lt hi] at h
  obtain ⟨a, u, h1, h2, h3⟩ := s.obj i o h
  refine ⟨a, u, by rw [← h1]; exact hix i hi, h2, RO.sub (m := m') (m2 := ⟨m.ix, m'.hid⟩) (n := S.length) hix hs (fun _ h => h) h3 ?_⟩
  rcases ok.2 i hi with z | ⟨o', z, b⟩
  · rw [h] at z
    obtain ⟨a', u', _, _, q3⟩ := s0.obj i o z.symm
    rw [← s0.len]
    exact q3.blw
  · rw [h] at z
    cases z
    exact b
theorem Sim.leftNew {j : Nat} {l : List D} (s0 : Sim K c m H S) (e : Ext m H m' H') (s : Sim K c m' H' S') (ok : oldOk S S') (hj : S.length ≤ j) (hl : S'[j]? = some (.lst l)) (hb : belows S.length l = true) :
    ∃ a, m'.ix[j]? = some a ∧ Ext m H ⟨m.ix ++ [a], m'.hid⟩ H' ∧ Sim K c ⟨m.ix ++ [a], m'.hid⟩ H' (S'.take S.length ++ [.lst l]) := by
  obtain ⟨e1, s1, hix, hs⟩ := s0.left e s ok
  obtain ⟨r, hr1, hr2⟩ := e.pre
  obtain ⟨a, vs, h1, h2, h3⟩ := s.at hl
  have har : a ∈ r := by
    rw [hr1, List.getElem?_append_right (by rw [s0.len]; exact hj)] at h1
    exact List.mem_of_getElem? h1
  have ham : a ∉ m.ix := fun z => by
    have nd := s.nd
    rw [hr1, List.nodup_append] at nd
    exact nd.2.2 a z a har rfl
  have ham' : a ∈ m'.ix := List.mem_of_getElem? h1
  have hahid : a ∉ m'.hid := fun z => (s.hid a z).2 ham'
  have hix2 : ∀ i, i < S.length → (m.ix ++ [a])[i]? = m'.ix[i]? := fun i hi => by
    rw [List.getElem?_append_left (by rw [s0.len]; exact hi)]
    exact hix i hi
  have hs2 : ∀ b ∈ m.ix ++ [a], b ∈ m'.ix := fun b hb => by
    rcases List.mem_append.mp hb with z | z
    · exact hs b z
    · rw [List.mem_singleton.mp z]; exact ham'
  have hlen : (S'.take S.length).length = S.length := by simp [ok.1]
  refine ⟨a, h1, ⟨⟨[a], rfl, by simpa using hr2 a har⟩, e.hid, e.keep, e.stay⟩, by simp [s0.len, ok.1], ?_, fun b hb => ⟨(s.hid b hb).1, fun z => ?_⟩, fun i o h => ?_, s.tab⟩
  · show (m.ix ++ [a]).Nodup
    rw [List.nodup_append]
    exact ⟨s0.nd, by simp, fun x hx y hy => by
      have : y = a := by simpa using hy
      subst this
      exact fun z => ham (z ▸ hx)⟩
  · exact (s.hid b hb).2 (hs2 b z)
  · by_cases hi : i < S.length
    · rw [List.getElem?_append_left (by rw [hlen]; exact hi)] at h
      obtain ⟨b, u, q1, q2, q3⟩ := s1.obj i o h
      refine ⟨b, u, ?_, q2, ?_⟩
      · show (m.ix ++ [a])[i]? = some b
        rw [List.getElem?_append_left (by rw [s0.len]; exact hi)]
        exact q1
      · rw [List.getElem?_take_of_lt hi] at h
        obtain ⟨b', u', p1, p2, p3⟩ := s.obj i o h
        have eb : b = b' := by
          rw [← hix i hi, q1] at p1
          exact Option.some.inj p1
        subst eb
        rw [q2] at p2
        cases p2
        have q4 := q3.blw
        rw [show (⟨m.ix, m'.hid⟩ : MM).ix.length = S.length from s0.len] at q4
        exact RO.sub (m := m') (m2 := ⟨m.ix ++ [a], m'.hid⟩) (n := S.length) hix2 hs2 (fun _ h => h) p3 q4
    · have hi2 : i = S.length := by
        have := (List.getElem?_eq_some_iff.mp h).1
        simp [ok.1] at this
        omega
      subst hi2
      rw [List.getElem?_append_right (by rw [hlen]; exact Nat.le_refl _), hlen] at h
      simp at h
      subst h
      refine ⟨a, _, ?_, h2, .lst (RVs.sub (m := m') (m2 := ⟨m.ix ++ [a], m'.hid⟩) (n := S.length) hix2 hs2 (fun _ h => h) h3 hb)⟩
      show (m.ix ++ [a])[S.length]? = some a
      rw [List.getElem?_append_right (by rw [s0.len]; exact Nat.le_refl _), s0.len]
      simp
theorem fin_ok {W : WX} {σ : L2.St} {md : Md} {d : D} {Q : VK} (s0 : Sim K c m H S) (h : Aft K c W σ m H (fin md S d S') fun d _ m' H' => ∀ v, RV K c m' H' d v → Q v H') (e : Ext m H m' H') (s : Sim K c m' H' S') {v : V} (r : RV K c m' H' d v) : Q v H' := by
  unfold fin at h
  split at h
  · exact h m' H' e s v r
  · obtain ⟨ok, h⟩ := Aft.if_ h
    obtain ⟨e1, s1, hix, hs⟩ := s0.left e s ok
    split at h
    · rename_i x hx
      refine h _ _ e1 s1 v ?_
      unfold outD at hx
      split at hx
      · rename_i hb
        cases hx
        exact RV.sub (m := m') (m2 := ⟨m.ix, m'.hid⟩) (n := S.length) hix hs (fun _ h => h) r hb
      · rename_i hb
        split at hx
        · split at hx
          · split at hx
            · rename_i j _ l hl hbl
              cases hx
              cases r with
              | ref hj =>
                rename_i a
                obtain ⟨a', vs, h1, h2, h3⟩ := s.at hl
                rw [hj] at h1
                cases h1
                refine .lst (.inl ⟨.inl h2, fun z => ?_, fun z => (s.hid _ z).2 (List.mem_of_getElem? hj)⟩) (RVs.sub (m := m') (m2 := ⟨m.ix, m'.hid⟩) (n := S.length) hix hs (fun _ h => h) h3 hbl)
                obtain ⟨i, hi⟩ := List.getElem?_of_mem (show a ∈ m.ix from z)
                have hil : i < S.length := by
                  have := (List.getElem?_eq_some_iff.mp hi).1
                  rw [s0.len] at this
                  exact this
                rw [hix i hil] at hi
                obtain ⟨l1, q1⟩ := List.getElem?_eq_some_iff.mp hi
                obtain ⟨l2, q2⟩ := List.getElem?_eq_some_iff.mp hj
                have eij : i = j := (List.getElem_inj s.nd).mp (q1.trans q2.symm)
                subst eij
                simp only [Mn.below, decide_eq_true_eq] at hb
                exact hb hil
            · cases hx
          · cases hx
        · cases hx
    · exact h.elim
  · obtain ⟨ok, h⟩ := Aft.if_ h
    split at h
    · split at h
      · exact h.elim
      · rename_i j hj
        split at h
        · rename_i l hl
          obtain ⟨hbl, h⟩ := Aft.if_ h
          obtain ⟨a, ha, e1, s1⟩ := s0.leftNew e s ok (by omega) hl hbl
          cases r with
          | ref hj2 =>
            rw [ha] at hj2
            cases hj2
            refine h _ _ e1 s1 _ (.ref ?_)
            show (m.ix ++ [a])[S.length]? = some a
            rw [List.getElem?_append_right (by rw [s0.len]; exact Nat.le_refl _), s0.len]
            simp
        · exact h.elim
    · exact h.elim
theorem leave_ok {W : WX} {σ : L2.St} {md : Md} {r : R F} {Q : VK} (s0 : Sim K c m H S) (h : Aft K c W σ m H (leave md S r) fun d _ m' H' => ∀ v, RV K c m' H' d v → Q v H') :
    Aft K c W σ m H r fun r _ m' H' => FlowR K c { nx := fun _ H' => Q .non H', rt := Q } r m' H' := by
  unfold leave at h
  split at h
  · exact fun m' H' e s v rv => fin_ok s0 h e s rv
  · exact fun m' H' e s σ' _ => fin_ok s0 h e s .non
  · obtain ⟨⟨ok, hb⟩, h⟩ := Aft.if_ h
    intro m' H' cls dx e s rx
    obtain ⟨e1, s1, _, _⟩ := s0.left e s ok
    refine h _ _ cls dx e1 s1 ?_
    cases rx with
    | own hc => exact .own hc
  · exact h.elim
end

/-- the parameters at a def's entry -/
theorem start_env {K : Frag} {c : Cfg} {m : MM} {H : Hp} {N : List Str} {ds : List D} {vs : List V} (r : RVs K c m H ds vs) : EnvR K c m H (ds.map some ++ List.replicate (N.length - ds.length) none) (L2.start N vs) := by
  refine ⟨by simp [L2.start, r.length], fun i d h => ?_⟩
  by_cases hi : i < ds.length
  · rw [List.getElem?_append_left (by simpa using hi), List.getElem?_map] at h
    cases e : ds[i]? with
    | none => rw [e] at h; cases h
    | some d' =>
      rw [e] at h
      simp only [Option.map_some, Option.some.injEq] at h
      subst h
      obtain ⟨v, h1, h2⟩ := r.getD e
      refine ⟨v, ?_, h2⟩
      unfold L2.start
      rw [List.getElem?_append_left (by
        have := (List.getElem?_eq_some_iff.mp h1).1
        simpa using this), List.getElem?_map, h1]
      rfl
  · rw [List.getElem?_append_right (by simpa using hi), List.getElem?_replicate] at h
    split at h <;> simp at h
section
variable {P : Program} {w : World} {K : Frag} {mg : Str → Option Value} {base : Heap}
/-- a def, by its body -/
theorem fn_okE {c : Cfg} {G : Globs} {fuel : Nat} {Pg : Prog} {k j : Nat} {name : String} {d : Def} {x qual : Str} {st : Stmt} {f : Addr} {fd : FuncData} {N ps : List Str} (F : L2.Fun K x qual st f fd) (Sc : L2.FnScope N ps (L2.defScope st)) (hP : Pg name = some d) (hn : d.n = N.length) (hp : d.np = ps.length)
    (hbody : ∀ (cdv : Value) (A : Around) (outer : List PySem.Env) (s : Shared) (H : Hp) (E : XK), fd.code = cdv → L2.Room j (A.deeper (envOfC qual (L2.defScope st) s.heap.objs.size f cdv)) → A.guards = some [] →
      PSs (L2.cxOf (L2.CX P w) P w K mg base N qual (L2.defScope st) f cdv A outer s H E) (L2.defBody st) (tS K c (fun cls dx _ H' => E cls dx H') fun e S => exB G fuel (callA G fuel Pg k) d.body e S)) :
    FnG P w K mg base (L2.CX P w) (j + 1) f fd ps (spG K c (fun ds S => callA G fuel Pg (k + 1) name ds S) ps.length) := by
  obtain ⟨oc, od, kV, doc, pm, an, cdv, ct, osl, rfl, lk, hcd⟩ := F.ex
  refine fnG_of lk hcd Sc (fun vs H Q E h => h.1) (fun A outer s H vs Q E hr hgd h => ?_)
  obtain ⟨hl, m, S, ds, rds, sm, h⟩ := h
  refine ⟨_, hbody cdv A outer s H E rfl hr hgd, ?_⟩
  have h : Aft K c (fun cls dx _ H' => E cls dx H') [] m H (callA G fuel Pg (k + 1) name ds S) _ := h
  unfold callA at h
  rw [hP] at h
  dsimp only at h
  obtain ⟨hlen, h⟩ := Aft.if_ h
  refine ⟨ds.map some ++ List.replicate (d.n - d.np) none, m, S, ?_, sm, Aft.cst (σ := []) (fun _ _ _ _ _ h => h) (leave_ok sm h)⟩
  rw [hn, ← hlen]
  exact start_env rds
end
end Mn

/-! Mn10: a look that the reading's terms are the text's, and that this is enough. -/
namespace Mn
open PySem PySem.Spec PyProof.Rows
open L2 (V Hp HO Cx SqL SqT Rd St VK WX XK TE TA TS TT TG TI PE PA PS PSs PT PG PI Ends upd upd_same upd_ne OpR R2 Inv Dp DpAll UnR CallR Walk)

/-! ### forms -/
def notStar : Expr → Bool
  | .Starred .. => false
  | _ => true
def notSet : Expr → Bool
  | .Set .. => false
  | _ => true
def notCut : Expr → Bool
  | .Slice .. => false
  | _ => true
def noComp : Expr → Bool
  | .ListComp .. => false
  | .SetComp .. => false
  | .DictComp .. => false
  | _ => true
def plainT : Expr → Bool
  | .UnaryOp .Not _ _ => false
  | .BoolOp .. => false
  | .IfExp .. => false
  | .Compare .. => false
  | _ => true
def baseOk : Expr → Bool
  | .Name .. => true
  | .Attribute .. => true
  | .Subscript .. => true
  | .Constant .. => true
  | _ => false
theorem star_cons {e : Expr} {es : List Expr} {env : PySem.Env} (h : notStar e = true) : starEach (e :: es) env = (false, eval e env) :: starEach es env := by
  cases e <;> first | rfl | (cases h; done)
theorem star_any {env : PySem.Env} {pos : Pos} : ∀ {es : List Expr}, es.all notStar = true → (backTo pos (starEach es env)).any (·.1) = false
  | [], _ => rfl
  | e :: es, h => by
    simp only [List.all_cons, Bool.and_eq_true] at h
    rw [star_cons h.1]
    have ih := star_any (env := env) (pos := pos) h.2
    unfold backTo at ih ⊢
    simp only [List.map_cons, List.any_cons, Bool.false_or]
    exact ih
theorem isTrue_plainT {e : Expr} {env : PySem.Env} (h : plainT e = true) (whole : Sem Value) : isTrue e env whole = (do let v ← whole; standAt e.pos; holding [v] (truthy v)) := by
  cases e with
  | UnaryOp op a p => cases op <;> first | rfl | (cases h; done)
  | BoolOp => cases h
  | IfExp => cases h
  | Compare => cases h
  | _ => rfl
theorem swaps_no {e : Expr} {t : Option Expr} {l : Nat} {env : PySem.Env} (h : noComp e = true) : swapsWith e t l env = pure false := by
  cases e <;> first | rfl | (cases h; done)
theorem folded_no {e : Expr} {env : PySem.Env} (h : notSet e = true) (x : Value) : foldedSetIterable e env x = pure x := by
  cases e <;> first | rfl | (cases h; done)
theorem base_ok {o : Expr} {a : Str} {env : PySem.Env} (h : baseOk o = true) : attributeBase o a env (eval o env) = eval o env := by
  cases o <;> first | rfl | (cases h; done)
theorem plainIx {b : Expr} (h : notCut b = true) : L2.PlainIx b := by
  intro o i
  cases b <;> first | rfl | (cases h; done)
theorem noMark {op : CmpOp} {b : Expr} (h : notSet b = true) : behindInMarks op b = false := by
  cases b <;> first | rfl | (cases h; done)

/-! ### names -/
def visIn (sc : Scope) (x : Str) : Bool := match sc.names.lookup x with
  | some .local => true
  | some .cell => true
  | some .free => true
  | _ => false
theorem vis_of {sc : Scope} {x : Str} (h : visIn sc x = true) : L2.Vis sc x := by
  unfold visIn at h
  split at h
  · exact .inl (by assumption)
  · exact .inr (.inl (by assumption))
  · exact .inr (.inr (by assumption))
  · cases h
def okName (x : Str) : Bool := !(x == ("__debug__" : Str)) && !(x == ("__classdict__" : Str)) && !(x == ("__name__" : Str))
theorem okName_db {x : Str} (h : okName x = true) : (x == ("__debug__" : Str)) = false ∧ (x == ("__classdict__" : Str)) = false ∧ x ≠ "__name__" := by
  unfold okName at h
  simp only [Bool.and_eq_true, Bool.not_eq_true'] at h
  exact ⟨h.1.1, h.1.2, fun e => by rw [e] at h; exact absurd h.2 (by decide)⟩
def isVar (N : List Str) (sc : Scope) (i : Nat) (x : Str) : Bool := decide (N[i]? = some x) && visIn sc x && okName x
def isGl (sc : Scope) (x : String) (y : Str) : Bool := decide (y = Str.ofString x) && decide (sc.names.lookup y = some NameKind.globalImplicit) && okName y
/-- a builtin of that name -/
def bootOk : String → Bool
  | "len" | "max" | "min" | "sum" | "isinstance" | "tuple" | "list" | "int" => true
  | _ => false
theorem boot_blt {f : String} (h : isBlt f = true) : bootBuiltins (Str.ofString f) = some (.builtin f) := by
  unfold isBlt at h
  simp only [List.contains_iff_mem, List.mem_cons, List.not_mem_nil, or_false] at h
  rcases h with rfl | rfl | rfl | rfl | rfl | rfl | rfl | rfl
  · exact boot_len
  · exact boot_max
  · exact boot_min
  · exact boot_sum
  · exact boot_isinstance
  · exact boot_any
  · exact boot_all
  · decide +kernel
theorem boot_ty {f : String} (h : isTy f = true) : bootBuiltins (Str.ofString f) = some (.type f) := by
  unfold isTy at h
  simp only [List.contains_iff_mem, List.mem_cons, List.not_mem_nil, or_false] at h
  rcases h with rfl | rfl | rfl
  · exact boot_tuple
  · exact boot_list
  · exact boot_int
def isTyN (f : String) : Bool := ["tuple", "list", "int", "str", "bool", "dict"].contains f
theorem boot_tyN {f : String} (h : isTyN f = true) : bootBuiltins (Str.ofString f) = some (.type f) := by
  unfold isTyN at h
  simp only [List.contains_iff_mem, List.mem_cons, List.not_mem_nil, or_false] at h
  rcases h with rfl | rfl | rfl | rfl | rfl | rfl
  · exact boot_tuple
  · exact boot_list
  · exact boot_int
  · exact boot_str
  · exact boot_bool
  · exact boot_dict

def notDisp : Expr → Bool
  | .Set .. => false
  | .List .. => false
  | _ => true
theorem genFold_no {e : Expr} {env : PySem.Env} (h : notDisp e = true) (x : Value) : genFold e env x = pure x := by
  cases e <;> first | rfl | (cases h; done)
/-- a def's scope in which generator expressions stand: its table is told -/
def gOk (c : Sg) (sc : Scope) : Bool := c.gscs.any fun s => decide (s = sc)
def qName (q : Bool) : String := if q then "all" else "any"

/-! ### the look -/
def Es.len : Es → Nat
  | .nil => 0
  | .cons _ r => r.len + 1
section
variable (c : Sg) (N : List Str)
def ckTg (sc : Scope) (t : Tg) (e : Expr) : Bool := match t, e with
  | .nm i, .Name x _ => decide (N[i]? = some x) && (decide (sc.names.lookup x = some NameKind.local) || decide (sc.names.lookup x = some NameKind.cell))
  | .tp is, .Tuple es _ _ => decide (is.length = es.length) && (is.zip es).all fun p => match p.2 with
      | .Name x _ => decide (N[p.1]? = some x) && (decide (sc.names.lookup x = some NameKind.local) || decide (sc.names.lookup x = some NameKind.cell))
      | _ => false
  | _, _ => false
def ckOwn (own : List Nat) : List (Str × Nat) := own.filterMap fun i => (N[i]?).map fun x => (x, i)
mutual
def ckE : Nat → Scope → E → Expr → Bool
  | 0, _, _, _ => false
  | n + 1, sc, me, e => match me, e with
    | .non, .Constant .none _ _ => true
    | .bl b, .Constant (.bool b') _ _ => decide (b = b')
    | .int i, .Constant (.int j) _ _ => decide (i = j)
    | .str x, .Constant (.str y) _ _ => decide (x = y)
    | .ty t, .Name x _ => isGl sc t x && isTyN t && c.bls.contains t
    | .var i, .Name x _ => isVar N sc i x
    | .glob x, .Name y _ => isGl sc x y
    | .tup es, .Tuple l _ _ => ckEs n sc es l
    | .lst _ es, .List l _ => ckEs n sc es l
    | .bin _ op a b, .BinOp x o y _ => decide (op = o) && ckE n sc a x && ckE n sc b y
    | .neg a, .UnaryOp .USub x _ => ckE n sc a x
    | .not a, .UnaryOp .Not x _ => ckE n sc a x
    | .cmp op a b, .Compare x [o] [y] _ => decide (op = o) && ckE n sc a x && ckE n sc b y && notSet y
    | .chain o1 o2 a b d, .Compare x [p, q] [y, z] _ => decide (o1 = p) && decide (o2 = q) && ckE n sc a x && ckE n sc b y && ckE n sc d z && notSet z
    | .and a b, .BoolOp .And l _ => ckBs n sc true (.and a b) l
    | .or a b, .BoolOp .Or l _ => ckBs n sc false (.or a b) l
    | .ife d a b, .IfExp z x y _ => ckT n sc d z && ckE n sc a x && ckE n sc b y
    | .call f es, .Call (.Name x _) l [] _ => isGl sc f x && decide (c.sig f = some es.len) && ckEs n sc es l
    | .blt _ f es, .Call (.Name x _) (y :: l) [] _ => isGl sc f x && (isBlt f || isTy f) && c.bls.contains f && ckEs n sc es (y :: l)
    | .isx a f tab, .Call (.Name g _) [x, .Name z _] [] _ => isGl sc "isinstance" g && c.bls.contains "isinstance" && notStar x && ckE n sc a x && isGl sc f z && decide (c.isx.lookup f = some tab)
    | .maxd a d, .Call (.Name f _) [x] [⟨some nm, z, _⟩] _ => isGl sc "max" f && c.bls.contains "max" && notStar x && decide (nm = Str.ofString "default") && ckE n sc a x && ckE n sc d z
    | .dead, e => noComp e
    | .dict ks es, .Dict keys values _ => ckD n sc ks es keys values && keys.all (·.isSome) && decide (keys.length = values.length) && decide (1 ≤ keys.length) && decide (keys.length ≤ 15)
    | .dget o k, .Subscript x (.Constant (.str k') _ _) _ => decide (k = k') && ckE n sc o x
    | .mth T m o .nil, .Call (.Attribute x y ap) [] [] cp => decide (T = "list") && decide (m = "clear") && decide (y = Str.ofString "clear") && baseOk x && decide (ap.endLine = cp.line) && ckE n sc o x
    | .mth T m o es, .Call (.Attribute x y ap) [z] [] cp => (decide (T = "list") && decide (m = "append") && decide (y = Str.ofString "append") || decide (T = "list") && decide (m = "pop") && decide (y = Str.ofString "pop") || decide (T = "str") && decide (m = "join") && decide (y = Str.ofString "join") || decide (T = "tuple") && decide (m = "index") && decide (y = Str.ofString "index")) && baseOk x && decide (ap.endLine = cp.line) && ckE n sc o x && ckEs n sc es [z]
    | .sub a i, .Subscript x y _ => ckE n sc a x && ckE n sc i y && notCut y
    | .slcS _ a lo st, .Subscript x (.Slice (some l) none (some k) _) _ => ckE n sc a x && ckE n sc lo l && ckE n sc st k
    | .slc _ a lo hi, .Subscript x (.Slice l h none _) _ => ckE n sc a x && ckO n sc lo l && ckO n sc hi h
    | .comp _ own tg it d e, .ListComp elt [⟨t, iter, ifs, 0⟩] scope _ =>
      L2.blkC N sc scope (ckOwn N own) && decide ((ckOwn N own).map (·.2) = own) && tg.slots.all (own.contains ·) && ckTg N scope tg t && ckI n sc it t iter && notSet iter && ckC n (L2.relS scope sc) d ifs && ckE n (L2.relS scope sc) e elt && !gOk c (L2.relS scope sc)
    | .agen q own tg it e, .Call (.Name x _) [.GeneratorExp elt [⟨t, iter, [], 0⟩] scope _] [] _ =>
      gOk c sc && !gOk c scope && isGl sc (qName q) x && c.bls.contains (qName q) && L2.blkC N sc scope (ckOwn N own) && decide ((ckOwn N own).map (·.2) = own) && tg.slots.all (own.contains ·) && (scope.names.all fun y => decide (y.2 ≠ NameKind.cell)) &&
        decide (scope.names.lookup (".0" : Str) = some NameKind.local) && !scope.isCoroutine && ckTg N scope tg t && ckI n sc it t iter && notDisp iter && ckE n scope e elt
    | _, _ => false
def ckD : Nat → Scope → List Str → Es → List (Option Expr) → List Expr → Bool
  | 0, _, _, _, _, _ => false
  | n + 1, sc, ks, es, keys, values => match ks, es, keys, values with
    | [], .nil, [], [] => true
    | k :: ks, .cons a r, some (.Constant (.str k') _ _) :: keys, v :: values => decide (k = k') && ckE n sc a v && ckD n sc ks r keys values
    | _, _, _, _ => false
/-- what stands side by side of and, or -/
def ckBs : Nat → Scope → Bool → E → List Expr → Bool
  | 0, _, _, _, _ => false
  | n + 1, sc, b, me, l => match b, me, l with
    | _, e, [x] => ckE n sc e x
    | true, .and a b, x :: y :: r => ckE n sc a x && ckBs n sc true b (y :: r)
    | false, .or a b, x :: y :: r => ckE n sc a x && ckBs n sc false b (y :: r)
    | _, _, _ => false
def ckBt : Nat → Scope → Bool → E → List Expr → Bool
  | 0, _, _, _, _ => false
  | n + 1, sc, b, me, l => match b, me, l with
    | _, e, [x] => ckT n sc e x
    | true, .and a b, x :: y :: r => ckT n sc a x && ckBt n sc true b (y :: r)
    | false, .or a b, x :: y :: r => ckT n sc a x && ckBt n sc false b (y :: r)
    | _, _, _ => false
def ckT : Nat → Scope → E → Expr → Bool
  | 0, _, _, _ => false
  | n + 1, sc, me, e => match me, e with
    | .not a, .UnaryOp .Not x _ => ckT n sc a x
    | .and a b, .BoolOp .And l _ => ckBt n sc true (.and a b) l
    | .or a b, .BoolOp .Or l _ => ckBt n sc false (.or a b) l
    | .cmp op a b, .Compare x [o] [y] _ => decide (op = o) && ckE n sc a x && ckE n sc b y && notSet y
    | .chain o1 o2 a b d, .Compare x [p, q] [y, z] _ => decide (o1 = p) && decide (o2 = q) && ckE n sc a x && ckE n sc b y && ckE n sc d z && notSet z
    | a, x => plainT x && ckE n sc a x
def ckEs : Nat → Scope → Es → List Expr → Bool
  | 0, _, _, _ => false
  | n + 1, sc, es, l => match es, l with
    | .nil, [] => true
    | .cons a r, x :: l => notStar x && ckE n sc a x && ckEs n sc r l
    | _, _ => false
def ckO : Nat → Scope → Oe → Option Expr → Bool
  | 0, _, _, _ => false
  | n + 1, sc, o, l => match o, l with
    | .none, none => true
    | .some a, some x => ckE n sc a x
    | _, _ => false
def ckC : Nat → Scope → Oe → List Expr → Bool
  | 0, _, _, _ => false
  | n + 1, sc, o, l => match o, l with
    | .none, [] => true
    | .some a, [x] => ckT n sc a x
    | _, _ => false
def ckI : Nat → Scope → It → Expr → Expr → Bool
  | 0, _, _, _, _ => false
  | n + 1, sc, it, tg, e => match it, tg, e with
    | .seq a, _, x => ckE n sc a x
    | .rng1 a, _, .Call (.Name f _) [x] [] _ => isGl sc "range" f && c.bls.contains "range" && notStar x && ckE n sc a x
    | .rng2 a b, _, .Call (.Name f _) [x, y] [] _ => isGl sc "range" f && c.bls.contains "range" && notStar x && notStar y && ckE n sc a x && ckE n sc b y
    | .rngD a b, _, .Call (.Name f _) [x, y, z] [] _ => isGl sc "range" f && c.bls.contains "range" && notStar x && notStar y && notStar z && ckE n sc a x && ckE n sc b y && ckE n sc (.neg (.int 1)) z
    | .zip a b, .Tuple _ _ _, .Call (.Name f _) [x, y] [] _ => isGl sc "zip" f && c.bls.contains "zip" && notStar x && notStar y && ckE n sc a x && ckE n sc b y
    | .enum a, .Tuple _ _ _, .Call (.Name f _) [x] [] _ => isGl sc "enumerate" f && c.bls.contains "enumerate" && notStar x && ckE n sc a x
    | _, _, _ => false
end
end

/-! ### where an expression stands -/
structure Cy (c : Cfg) (G : Globs) (N : List Str) (k : Nat) (call : String → List D → Store → R D) (sc : Scope) (X : Cx) (W : WX) : Prop where
  hN : X.N = N
  hs : X.env.scope = sc
  calm : X.calm = true
  nd : X.N.Nodup
  room : L2.Room k X.A
  gx : gOk c.sg sc = true → L2.Room (k + 1) X.A ∧ ∃ c0 P, X.env.code = .ref c0 ∧ GxR.TabB X.base X.mg c0 P ∧ P ∈ c.tabs
  un : X.A.units + 65 < cLine
  gd : X.A.guards = some []
  tk : L2.Takes X W
  fns : ∀ f a, c.sg.sig f = some a → ∃ (ad : Addr) (fd : FuncData) (ps : List Str), FnG X.prog X.w X.K X.mg X.base (L2.CX X.prog X.w) k ad fd ps (spG X.K c (fun ds S => call f ds S) a) ∧ X.mg (Str.ofString f) = some (.ref ad) ∧ PySem.W.keepIn X.K (.ref ad) = true ∧ L2.Binds X.K fd ps []
  bls : ∀ f, c.sg.bls.contains f = true → X.mg (Str.ofString f) = none
  cls : ∀ f, c.sg.exs.contains f = true → ∃ C, c.ca f = some C ∧ ExcCl X.K X.mg C f
  isx : ∀ f tab, c.sg.isx.lookup f = some tab → IsCl X.K X.mg c.ca f tab
  top : ∀ f, c.sg.tops.contains f = true → ∃ C, X.mg (Str.ofString f) = some (.ref C) ∧ ∀ y D, c.ca y = some D → PySem.W.exmOne X.K (.ref D) (.ref C) = some true
  globs : ∀ x d, G x = some d → ∃ (u : Value) (v : V), X.mg (Str.ofString x) = some u ∧ L2.RelV v u ∧ ∀ (m : MM) (H : Hp), RV X.K c m H d v
section
variable {c : Cfg} {G : Globs} {N : List Str} {k fuel : Nat} {call : String → List D → Store → R D} {sc : Scope} {X : Cx} {W : WX}
/-- within a comprehension -/
theorem Cy.blk (y : Cy c G N k call sc X W) (s : Shared) (H : Hp) (scope : Scope) (cl : List (Str × Addr)) (C : Addr) (fp : List Addr) (hg : gOk c.sg (L2.relS scope sc) = false) :
    Cy c G N k call (L2.relS scope sc) (X.blk s H scope (compEnvC scope cl C X.env) fp) (fun _ _ _ _ => False) where
  hN := y.hN
  hs := by
    have := y.hs
    show relabel scope X.env = _
    unfold relabel L2.relS PySem.Env.kindOf
    rw [this]
  calm := y.calm
  nd := y.nd
  room := y.room
  gx := fun z => by rw [hg] at z; cases z
  un := y.un
  gd := y.gd
  tk := L2.takes0
  fns := y.fns
  bls := y.bls
  cls := y.cls
  top := y.top
  isx := y.isx
  globs := y.globs
/-- within a generator expression -/
theorem Cy.gen (y : Cy c G N k call sc X W) (s : Shared) (H : Hp) (scope : Scope) (C : Addr) (code : Value) (A : Around) (fp : List Addr) (go : Addr × Obj) (hg : gOk c.sg scope = false) (hr : L2.Room k A) (hgd : A.guards = some []) :
    Cy c G N k call scope (genCx X s H (genEnv scope (cloOf X scope) C code builtinsNs X.env) A fp go) (fun _ _ _ _ => False) where
  hN := y.hN
  hs := rfl
  calm := y.calm
  nd := y.nd
  room := hr
  gx := fun z => by rw [hg] at z; cases z
  un := by
    have := hr.un
    show A.units + 65 < cLine
    omega
  gd := hgd
  tk := L2.takes0
  fns := y.fns
  bls := y.bls
  cls := y.cls
  top := y.top
  isx := y.isx
  globs := y.globs
theorem gl_of (y : Cy c G N k call sc X W) {f : String} {x : Str} (h : isGl sc f x = true) : x = Str.ofString f ∧ L2.Gl X (Str.ofString f) ∧ (Str.ofString f == ("__debug__" : Str)) = false ∧ Str.ofString f ≠ "__name__" := by
  unfold isGl at h
  simp only [Bool.and_eq_true, decide_eq_true_eq] at h
  obtain ⟨⟨rfl, h1⟩, h2⟩ := h
  obtain ⟨h3, _, h4⟩ := okName_db h2
  exact ⟨rfl, by
    show X.env.kindOf _ = _
    unfold PySem.Env.kindOf
    rw [y.hs]
    exact h1, h3, h4⟩
theorem evEs_len : ∀ (es : Es) (e : Env) (S : Store) (ds : List D) (S' : Store), evEs G call es e S = .ok ds S' → ds.length = es.len
  | .nil, e, S, ds, S', h => by
    simp only [evEs, R.ok.injEq] at h
    rw [← h.1]
    rfl
  | .cons a r, e, S, ds, S', h => by
    simp only [evEs] at h
    cases h1 : evE G call a e S with
    | bad => rw [h1] at h; cases h
    | exc x S1 => rw [h1] at h; cases h
    | ok x S1 =>
      rw [h1] at h
      dsimp only [R.bind] at h
      cases h2 : evEs G call r e S1 with
      | bad => rw [h2] at h; cases h
      | exc x S1 => rw [h2] at h; cases h
      | ok xs S2 =>
        rw [h2] at h
        dsimp only [R.bind] at h
        cases h
        simp [Es.len, evEs_len r e S1 xs _ h2]
end
end Mn

/-! Mn11: the look is enough: expressions. -/
namespace Mn
open PySem PySem.Spec PyProof.Rows
open L2 (V Hp HO Cx SqL SqT Rd St VK WX XK TE TA TS TT TG TI PE PA PS PSs PT PG PI Ends upd upd_same upd_ne OpR R2 Inv Dp DpAll UnR CallR Walk)

theorem pe_deadE {X : Cx} {c : Cfg} {W : WX} {e : Expr} : PE X e (tE X.K c W fun _ _ => .bad) := ⟨fun pins s σ H Q I h => by
  obtain ⟨_, _, _, _, _, h⟩ := h
  exact h.elim⟩
structure Snd (c : Cfg) (G : Globs) (N : List Str) (k : Nat) (call : String → List D → Store → R D) (n : Nat) : Prop where
  E : ∀ {sc : Scope} {X : Cx} {W : WX}, Cy c G N k call sc X W → ∀ {me : E} {e : Expr}, ckE c.sg N n sc me e = true → PE X e (tE X.K c W (evE G call me))
  Bs : ∀ {sc : Scope} {X : Cx} {W : WX}, Cy c G N k call sc X W → ∀ {b : Bool} {me : Mn.E} {l : List Expr} {pos : Pos}, ckBs c.sg N n sc b me l = true → PE X (.BoolOp (if b = true then .And else .Or) l pos) (tE X.K c W (evE G call me))
  Bt : ∀ {sc : Scope} {X : Cx} {W : WX}, Cy c G N k call sc X W → ∀ {b : Bool} {me : Mn.E} {l : List Expr} {pos : Pos}, ckBt c.sg N n sc b me l = true → L2.PW X (.BoolOp (if b = true then .And else .Or) l pos) (tT X.K c W (evE G call me))
  T : ∀ {sc : Scope} {X : Cx} {W : WX}, Cy c G N k call sc X W → ∀ {me : Mn.E} {e : Expr}, ckT c.sg N n sc me e = true → PT X e (tT X.K c W (evE G call me))
  Dd : ∀ {sc : Scope} {X : Cx} {W : WX}, Cy c G N k call sc X W → ∀ {ks : List Str} {es : Es} {keys : List (Option Expr)} {values : List Expr} {pos : Pos}, ckD c.sg N n sc ks es keys values = true → ∃ trs, L2.PPs X pos keys values trs ∧ PrOk X c W ks (evEs G call es) trs
  Es : ∀ {sc : Scope} {X : Cx} {W : WX}, Cy c G N k call sc X W → ∀ {es : Es} {l : List Expr}, ckEs c.sg N n sc es l = true → PA X l (tA X.K c W (evEs G call es)) ∧ l.all notStar = true
  O : ∀ {sc : Scope} {X : Cx} {W : WX}, Cy c G N k call sc X W → ∀ {o : Oe} {l : Option Expr}, ckO c.sg N n sc o l = true → L2.PO X l (tO X.K c W (evOe G call o))
  C : ∀ {sc : Scope} {X : Cx} {W : WX}, Cy c G N k call sc X W → ∀ {o : Oe} {l : List Expr}, ckC c.sg N n sc o l = true → L2.PTs X l (tT X.K c W (evOc G call o))
  I : ∀ {sc : Scope} {X : Cx} {W : WX}, Cy c G N k call sc X W → ∀ {it : It} {tg e : Expr}, ckI c.sg N n sc it tg e = true → PI X tg e (tI X c W (evIt G call it))

section
variable {c : Cfg} {G : Globs} {N : List Str} {k : Nat} {call : String → List D → Store → R D} {n : Nat} {sc : Scope} {X : Cx} {W : WX}
theorem pe_globE (y : Cy c G N k call sc X W) {x : String} {z : Str} {pos : Pos} (h : isGl sc x z = true) : PE X (.Name z pos) (tE X.K c W (evE G call (.glob x))) := by
  obtain ⟨rfl, hg, hdb, hn⟩ := gl_of y h
  cases e : G x with
  | none =>
    refine ⟨fun pins s σ H Q I h => ?_⟩
    obtain ⟨e1, m, S, re, sm, h⟩ := h
    simp only [evE, e] at h
    exact h.elim
  | some d =>
    obtain ⟨u, v, h1, h2, h3⟩ := y.globs x d e
    refine PE.imp (L2.pe_glob hg h1 h2 hdb) fun σ H Q h => ?_
    obtain ⟨e1, m, S, re, sm, h⟩ := h
    simp only [evE, e] at h
    exact h.now sm _ (h3 _ _)
/-- a target that is stored where a comprehension runs -/
theorem pg_blk (y : Cy c G N k call sc X W) {scope : Scope} {t : Tg} {e : Expr} (h : ckTg N scope t e = true) :
    ∃ g, TgOk X c t g ∧ ∀ (s : Shared) (H : Hp) (C : Addr) (cl : List (Str × Addr)) (fp : List Addr), PG (X.blk s H scope (compEnvC scope cl C X.env) fp) e g := by
  have nm : ∀ {i : Nat} {x : Str} {p : Pos}, (decide (N[i]? = some x) && (decide (scope.names.lookup x = some NameKind.local) || decide (scope.names.lookup x = some NameKind.cell))) = true →
      ∀ (s : Shared) (H : Hp) (C : Addr) (cl : List (Str × Addr)) (fp : List Addr), PG (X.blk s H scope (compEnvC scope cl C X.env) fp) (.Name x p) (L2.gName i) := by
    intro i x p h s H C cl fp
    simp only [Bool.and_eq_true, Bool.or_eq_true, decide_eq_true_eq] at h
    have hi : (X.blk s H scope (compEnvC scope cl C X.env) fp).N[i]? = some x := by
      show X.N[i]? = some x
      rw [y.hN]
      exact h.1
    rcases h.2 with h2 | h2
    · have hl : (X.blk s H scope (compEnvC scope cl C X.env) fp).env.scope.names.lookup x = some .local := L2.lookup_relS_keep (sc := X.env.scope) (by decide) h2
      exact L2.pg_name y.nd hi (.inl hl) (.inr hl)
    · have hl : (X.blk s H scope (compEnvC scope cl C X.env) fp).env.scope.names.lookup x = some .cell := L2.lookup_relS_keep (sc := X.env.scope) (by decide) h2
      exact L2.pg_name y.nd hi (.inr hl) (.inl (by
        show (scope.names.lookup x == some .cell) = true
        rw [h2]
        rfl))
  unfold ckTg at h
  split at h
  · exact ⟨_, tg_nm _, nm h⟩
  · rename_i is es kk p
    simp only [Bool.and_eq_true, decide_eq_true_eq] at h
    refine ⟨_, tg_tp is, fun s H C cl fp => ?_⟩
    have hes : ∀ (is : List Nat) (es : List Expr), is.length = es.length → ((is.zip es).all fun p => match p.2 with
        | .Name x _ => decide (N[p.1]? = some x) && (decide (scope.names.lookup x = some NameKind.local) || decide (scope.names.lookup x = some NameKind.cell))
        | _ => false) = true → L2.PGs (X.blk s H scope (compEnvC scope cl C X.env) fp) es (gNames is) ∧ (assignEach es (X.blk s H scope (compEnvC scope cl C X.env) fp).env).length = is.length ∧ (assignEach es (X.blk s H scope (compEnvC scope cl C X.env) fp).env).findIdx? (·.1) = none := by
      intro is
      induction is with
      | nil =>
        intro es hl _
        cases es with
        | nil => exact ⟨L2.pgs_nil, rfl, rfl⟩
        | cons _ _ => simp at hl
      | cons i r ih =>
        intro es hl hz
        cases es with
        | nil => simp at hl
        | cons e es =>
          simp only [List.zip_cons_cons, List.all_cons, Bool.and_eq_true] at hz
          obtain ⟨h1, h2, h3⟩ := ih es (by simpa using hl) hz.2
          cases e with
          | Name x p =>
            refine ⟨L2.pgs_cons (nm hz.1 s H C cl fp) h1, ?_, ?_⟩
            · show ((false, _) :: assignEach es _).length = _
              simp only [List.length_cons, h2]
            · show ((false, _) :: assignEach es _).findIdx? _ = _
              simp only [List.findIdx?_cons, Bool.false_eq_true, if_false, h3, Option.map_none]
          | _ => exact absurd hz.1 (by simp)
    obtain ⟨h1, h2, h3⟩ := hes is es h.1 h.2
    exact pg_sq y.calm h1 h2 h3
  · cases h
end

section
variable {c : Cfg} {G : Globs} {N : List Str} {k : Nat} {call : String → List D → Store → R D} {n : Nat}
/-- a list comprehension's parts -/
theorem lc_parts (S : Snd c G N k call n) {sc : Scope} {X : Cx} {W : WX} (y : Cy c G N k call sc X W) {v : Bool} {own : List Nat} {tg : Tg} {it : It} {d : Oe} {e : Mn.E} {elt t iter : Expr} {ifs : List Expr} {scope : Scope}
    (h : (L2.blkC N sc scope (ckOwn N own) && decide ((ckOwn N own).map (·.2) = own) && tg.slots.all (own.contains ·) && ckTg N scope tg t && ckI c.sg N n sc it t iter && notSet iter && ckC c.sg N n (L2.relS scope sc) d ifs && ckE c.sg N n (L2.relS scope sc) e elt && !gOk c.sg (L2.relS scope sc)) = true) :
    ∃ gt, (∀ σ H Q, tE X.K c W (evE G call (.comp v own tg it d e)) σ H Q → L2.tLc (tI X c W (evIt G call it)) gt (tT X.K c (fun _ _ _ _ => False) (evOc G call d)) (tE X.K c (fun _ _ _ _ => False) (evE G call e)) ((ckOwn N own).map (·.2)) σ H Q) ∧
      L2.BlkOk X.N X.env.scope scope (ckOwn N own) ∧ PI X t iter (tI X c W (evIt G call it)) ∧ (∀ (s : Shared) (H : Hp) (C : Addr) (cl : List (Str × Addr)) (fp : List Addr), PG (X.blk s H scope (compEnvC scope cl C X.env) fp) t gt) ∧
      (∀ (s : Shared) (H : Hp) (C : Addr) (cl : List (Str × Addr)) (fp : List Addr), L2.PTs (X.blk s H scope (compEnvC scope cl C X.env) fp) ifs (tT X.K c (fun _ _ _ _ => False) (evOc G call d))) ∧
      (∀ (s : Shared) (H : Hp) (C : Addr) (cl : List (Str × Addr)) (fp : List Addr), PE (X.blk s H scope (compEnvC scope cl C X.env) fp) elt (tE X.K c (fun _ _ _ _ => False) (evE G call e))) ∧
      ∀ x, foldedSetIterable iter X.env x = pure x := by
  simp only [Bool.and_eq_true, decide_eq_true_eq, Bool.not_eq_true'] at h
  obtain ⟨⟨⟨⟨⟨⟨⟨⟨h1, h2⟩, h3⟩, h4⟩, h5⟩, h6⟩, h7⟩, h8⟩, h9⟩ := h
  obtain ⟨gt, ht, hg⟩ := pg_blk y h4
  refine ⟨gt, fun σ H Q q => ?_, ?_, S.I y h5, hg, fun s H C cl fp => S.C (y.blk s H scope cl C fp h9) h7, fun s H C cl fp => S.E (y.blk s H scope cl C fp h9) h8, folded_no h6⟩
  · rw [h2]
    exact lc_read (v := v) ht (fun i hi => by simpa using List.all_eq_true.mp h3 i hi) σ H Q q
  · rw [y.hN, y.hs]
    exact L2.blkOk_by h1

/-- a target that is stored where a generator expression runs -/
theorem pg_gen {sc : Scope} {X : Cx} {W : WX} (y : Cy c G N k call sc X W) {scope : Scope} {t : Tg} {e : Expr} (hnc : ∀ y ∈ scope.names, y.2 ≠ NameKind.cell) (h : ckTg N scope t e = true) :
    ∃ g, TgOk X c t g ∧ ∀ (s : Shared) (H : Hp) (C : Addr) (code : Value) (A : Around) (fp : List Addr) (go : Addr × Obj), PG (genCx X s H (genEnv scope (cloOf X scope) C code builtinsNs X.env) A fp go) e g := by
  have nm : ∀ {i : Nat} {x : Str} {p : Pos}, (decide (N[i]? = some x) && (decide (scope.names.lookup x = some NameKind.local) || decide (scope.names.lookup x = some NameKind.cell))) = true →
      ∀ (s : Shared) (H : Hp) (C : Addr) (code : Value) (A : Around) (fp : List Addr) (go : Addr × Obj), PG (genCx X s H (genEnv scope (cloOf X scope) C code builtinsNs X.env) A fp go) (.Name x p) (L2.gName i) := by
    intro i x p h s H C code A fp go
    simp only [Bool.and_eq_true, Bool.or_eq_true, decide_eq_true_eq] at h
    have hi : (genCx X s H (genEnv scope (cloOf X scope) C code builtinsNs X.env) A fp go).N[i]? = some x := by
      show X.N[i]? = some x
      rw [y.hN]
      exact h.1
    rcases h.2 with h2 | h2
    · have hl : (genCx X s H (genEnv scope (cloOf X scope) C code builtinsNs X.env) A fp go).env.scope.names.lookup x = some .local := h2
      exact L2.pg_name y.nd hi (.inl hl) (.inr hl)
    · exact absurd rfl (hnc _ (PySem.mem_of_lookup h2))
  unfold ckTg at h
  split at h
  · exact ⟨_, tg_nm _, nm h⟩
  · rename_i is es kk p
    simp only [Bool.and_eq_true, decide_eq_true_eq] at h
    refine ⟨_, tg_tp is, fun s H C code A fp go => ?_⟩
    have hes : ∀ (is : List Nat) (es : List Expr), is.length = es.length → ((is.zip es).all fun p => match p.2 with
        | .Name x _ => decide (N[p.1]? = some x) && (decide (scope.names.lookup x = some NameKind.local) || decide (scope.names.lookup x = some NameKind.cell))
        | _ => false) = true → L2.PGs (genCx X s H (genEnv scope (cloOf X scope) C code builtinsNs X.env) A fp go) es (gNames is) ∧ (assignEach es (genCx X s H (genEnv scope (cloOf X scope) C code builtinsNs X.env) A fp go).env).length = is.length ∧ (assignEach es (genCx X s H (genEnv scope (cloOf X scope) C code builtinsNs X.env) A fp go).env).findIdx? (·.1) = none := by
      intro is
      induction is with
      | nil =>
        intro es hl _
        cases es with
        | nil => exact ⟨L2.pgs_nil, rfl, rfl⟩
        | cons _ _ => simp at hl
      | cons i r ih =>
        intro es hl hz
        cases es with
        | nil => simp at hl
        | cons e es =>
          simp only [List.zip_cons_cons, List.all_cons, Bool.and_eq_true] at hz
          obtain ⟨h1, h2, h3⟩ := ih es (by simpa using hl) hz.2
          cases e with
          | Name x p =>
            refine ⟨L2.pgs_cons (nm hz.1 s H C code A fp go) h1, ?_, ?_⟩
            · show ((false, _) :: assignEach es _).length = _
              simp only [List.length_cons, h2]
            · show ((false, _) :: assignEach es _).findIdx? _ = _
              simp only [List.findIdx?_cons, Bool.false_eq_true, if_false, h3, Option.map_none]
          | _ => exact absurd hz.1 (by simp)
    obtain ⟨h1, h2, h3⟩ := hes is es h.1 h.2
    exact pg_sq y.calm h1 h2 h3
  · cases h

theorem snd : ∀ n, Snd c G N k call n := by
  intro n
  induction n with
  | zero =>
    constructor <;> intros <;> rename_i h <;> (first | (simp [ckE] at h; done) | (simp [ckD] at h; done) | (simp [ckBs] at h; done) | (simp [ckBt] at h; done) | (simp [ckT] at h; done) | (simp [ckEs] at h; done) | (simp [ckO] at h; done) | (simp [ckC] at h; done) | (simp [ckI] at h; done))
  | succ n S =>
    constructor
    · -- E
      intro sc X W y me e h
      unfold ckE at h
      split at h
      · exact pe_kE L2.pe_non fun _ _ => .non
      · simp only [decide_eq_true_eq] at h
        subst h
        exact pe_kE L2.pe_bl fun _ _ => .bl _
      · simp only [decide_eq_true_eq] at h
        subst h
        exact pe_kE L2.pe_int fun _ _ => .int _
      · simp only [decide_eq_true_eq] at h
        subst h
        exact pe_kE L2.pe_str fun _ _ => .str _
      · simp only [Bool.and_eq_true] at h
        obtain ⟨rfl, hg, hdb, hn⟩ := gl_of y h.1.1
        exact pe_kE (L2.pe_bltn (v := .ty _) hg (y.bls _ h.2) (boot_tyN h.1.2) rfl hn hdb) fun _ _ => .ty _
      · simp only [isVar, Bool.and_eq_true, decide_eq_true_eq] at h
        obtain ⟨h1, h2, _⟩ := okName_db h.2
        exact pe_varE (L2.pe_var (by rw [y.hN]; exact h.1.1) (by rw [y.hs]; exact vis_of h.1.2) h1 h2)
      · exact pe_globE y h
      · exact pe_tupE (S.Es y h).1
      · exact pe_lstE (S.Es y h).1
      · simp only [Bool.and_eq_true, decide_eq_true_eq] at h
        obtain ⟨⟨rfl, h1⟩, h2⟩ := h
        exact pe_binE (S.E y h1) (S.E y h2)
      · exact pe_negE (S.E y h)
      · exact pe_notE (S.E y h)
      · simp only [Bool.and_eq_true, decide_eq_true_eq] at h
        obtain ⟨⟨⟨rfl, h1⟩, h2⟩, h3⟩ := h
        exact pe_cmpE y.un (S.E y h1) (S.E y h2) (noMark h3)
      · simp only [Bool.and_eq_true, decide_eq_true_eq] at h
        obtain ⟨⟨⟨⟨⟨rfl, rfl⟩, h1⟩, h2⟩, h3⟩, h4⟩ := h
        exact pe_chainE y.un (S.E y h1) (S.E y h2) (S.E y h3) (noMark h4)
      · exact S.Bs (b := true) y h
      · exact S.Bs (b := false) y h
      · simp only [Bool.and_eq_true] at h
        exact pe_ifeE (S.T y h.1.1) (S.E y h.1.2) (S.E y h.2)
      · rename_i f es x _ l _
        simp only [Bool.and_eq_true, decide_eq_true_eq] at h
        obtain ⟨⟨h1, h2⟩, h3⟩ := h
        obtain ⟨rfl, hg, hdb, hn⟩ := gl_of y h1
        obtain ⟨ad, fd, ps, F, hm, hk, hb⟩ := y.fns f _ h2
        obtain ⟨hp, hst⟩ := S.Es y h3
        cases l with
        | nil =>
          cases es with
          | nil => exact pe_call0E (call := fun ds S => call f ds S) F y.room y.gd y.tk hg hm hk hb hdb
          | cons a r => cases n <;> simp [ckEs] at h3
        | cons z l =>
          simp only [List.all_cons, Bool.and_eq_true] at hst
          exact pe_callE (call := fun ds S => call f ds S) F y.room y.gd y.tk hg hm hk hb hp (fun e S ds S' q => evEs_len es e S ds S' q) hdb (star_cons hst.1) (star_any hst.2)
      · rename_i v f es x z l _ _
        simp only [Bool.and_eq_true, Bool.or_eq_true] at h
        obtain ⟨⟨⟨h1, h2⟩, h3⟩, h4⟩ := h
        obtain ⟨rfl, hg, hdb, hn⟩ := gl_of y h1
        obtain ⟨hp, hst⟩ := S.Es y h4
        simp only [List.all_cons, Bool.and_eq_true] at hst
        rcases h2 with h2 | h2
        · exact pe_bltE h2 y.calm y.gd y.un hg (y.bls _ h3) (boot_blt h2) hp hn hdb (star_cons hst.1) (star_any hst.2)
        · exact pe_tyE h2 hg (y.bls _ h3) (boot_ty h2) hp hn hdb (star_cons hst.1) (star_any hst.2)
      · simp only [Bool.and_eq_true, decide_eq_true_eq] at h
        obtain ⟨⟨⟨⟨⟨h1, h2⟩, h3⟩, h4⟩, h5⟩, h6⟩ := h
        obtain ⟨rfl, hg, _, _⟩ := gl_of y h1
        obtain ⟨rfl, hgy, hdb, hny⟩ := gl_of y h5
        exact pe_isxE hg (y.bls _ h2) (S.E y h4) hgy hdb hny (y.isx _ _ h6) (by rw [star_cons h3]; rfl)
      · simp only [Bool.and_eq_true, decide_eq_true_eq] at h
        obtain ⟨⟨⟨⟨⟨h1, h2⟩, h3⟩, rfl⟩, h4⟩, h5⟩ := h
        obtain ⟨rfl, hg, _, _⟩ := gl_of y h1
        exact pe_maxdE y.calm y.un hg (y.bls _ h2) (S.E y h4) (S.E y h5) (star_cons h3)
      · exact pe_deadE
      · simp only [Bool.and_eq_true, decide_eq_true_eq] at h
        obtain ⟨⟨⟨⟨h1, h2⟩, h3⟩, h4⟩, h5⟩ := h
        obtain ⟨trs, hp, hq⟩ := S.Dd y h1
        exact pe_dictE hp hq h2 h3 (fun z => by rw [z] at h4; simp at h4) h5
      · simp only [Bool.and_eq_true, decide_eq_true_eq] at h
        obtain ⟨rfl, h1⟩ := h
        exact pe_dgetE (Nat.lt_of_le_of_lt (Nat.add_le_add_left (by decide) _) y.un) (S.E y h1) (pe_kE L2.pe_str fun _ _ => .str _)
      · simp only [Bool.and_eq_true, decide_eq_true_eq] at h
        obtain ⟨⟨⟨⟨⟨rfl, rfl⟩, rfl⟩, h1⟩, h2⟩, h3⟩ := h
        exact pe_clearE (fun e S => rfl) (S.E y h3) (base_ok h1) (by simpa using h2)
      · simp only [Bool.and_eq_true, decide_eq_true_eq] at h
        obtain ⟨⟨⟨⟨h0, h1⟩, h2⟩, h3⟩, h4⟩ := h
        obtain ⟨hp, hst⟩ := S.Es y h4
        simp only [List.all_cons, Bool.and_eq_true] at hst
        simp only [Bool.or_eq_true, Bool.and_eq_true, decide_eq_true_eq] at h0
        rcases h0 with ((⟨⟨rfl, rfl⟩, rfl⟩ | ⟨⟨rfl, rfl⟩, rfl⟩) | ⟨⟨rfl, rfl⟩, rfl⟩) | ⟨⟨rfl, rfl⟩, rfl⟩
        · exact pe_appendE (S.E y h3) hp (base_ok h1) (by simpa using h2) (star_cons hst.1)
        · exact pe_popE (S.E y h3) hp (base_ok h1) (by simpa using h2) (star_cons hst.1)
        · exact pe_joinE (S.E y h3) hp (base_ok h1) (by simpa using h2) (star_cons hst.1)
        · exact pe_indexE (S.E y h3) hp (base_ok h1) (by simpa using h2) (star_cons hst.1)
      · simp only [Bool.and_eq_true] at h
        exact pe_subE (S.E y h.1.1) (S.E y h.1.2) (plainIx h.2)
      · simp only [Bool.and_eq_true] at h
        exact pe_stepE (S.E y h.1.1) (S.E y h.1.2) (S.E y h.2)
      · simp only [Bool.and_eq_true] at h
        exact pe_slcE (S.E y h.1.1) (S.O y h.1.2) (S.O y h.2)
      · rename_i v own tg it d e elt t iter ifs scope _
        obtain ⟨gt, q, ok, pi, hg, hts, he, hf⟩ := lc_parts (v := v) S y h
        exact PE.imp (L2.pe_lc y.calm y.nd pi ok hg hts he hf) q
      · rename_i q own tg it e x p elt t iter scope gp pos
        simp only [Bool.and_eq_true, decide_eq_true_eq, Bool.not_eq_true'] at h
        obtain ⟨⟨⟨⟨⟨⟨⟨⟨⟨⟨⟨⟨⟨g1, g2⟩, g3⟩, g4⟩, g5⟩, g6⟩, g7⟩, g8⟩, g9⟩, g10⟩, g11⟩, g12⟩, g13⟩, g14⟩ := h
        obtain ⟨rfl, hg, _, _⟩ := gl_of y g3
        obtain ⟨hr, c0, P, hcode, TB, hPt⟩ := y.gx g1
        have hnc : ∀ y ∈ scope.names, y.2 ≠ NameKind.cell := fun y hy => of_decide_eq_true (List.all_eq_true.mp g8 y hy)
        obtain ⟨gt, ht, pg⟩ := pg_gen y hnc g11
        have ok : L2.BlkOk X.N X.env.scope scope (ckOwn N own) := by
          rw [y.hN, y.hs]
          exact L2.blkOk_by g5
        have hm := y.bls _ g4
        cases q with
        | true =>
          exact pe_qall hr.depth hr.hd hg hm fun pins s σ H Q I hQ => gen_made hr y.gd y.calm y.nd TB hcode hPt ok g6 hnc g9 g10 (S.I y g12) (genFold_no g13) ht (fun i hi => by simpa using List.all_eq_true.mp g7 i hi) pg
            (fun s H C code A fp go hrA hgA => S.E (y.gen s H scope C code A fp go g2 hrA hgA) g14) I hQ
        | false =>
          exact pe_qany hr.depth hr.hd hg hm fun pins s σ H Q I hQ => gen_made hr y.gd y.calm y.nd TB hcode hPt ok g6 hnc g9 g10 (S.I y g12) (genFold_no g13) ht (fun i hi => by simpa using List.all_eq_true.mp g7 i hi) pg
            (fun s H C code A fp go hrA hgA => S.E (y.gen s H scope C code A fp go g2 hrA hgA) g14) I hQ
      · cases h
    · -- Bs
      intro sc X W y b me l pos h
      unfold ckBs at h
      split at h
      · exact L2.pe_one (S.E y h)
      · simp only [Bool.and_eq_true] at h
        exact pe_andE (S.E y h.1) (S.Bs (b := true) y h.2)
      · simp only [Bool.and_eq_true] at h
        exact pe_orE (S.E y h.1) (S.Bs (b := false) y h.2)
      · cases h
    · -- Bt
      intro sc X W y b me l pos h
      unfold ckBt at h
      split at h
      · cases b
        · exact L2.pw_or1 (S.T y h)
        · exact L2.pw_and1 (S.T y h)
      · simp only [Bool.and_eq_true] at h
        exact pw_andE (S.T y h.1) (S.Bt (b := true) y h.2)
      · simp only [Bool.and_eq_true] at h
        exact pw_orE (S.T y h.1) (S.Bt (b := false) y h.2)
      · cases h
    · -- T
      intro sc X W y me e h
      unfold ckT at h
      split at h
      · exact pt_notE (S.T y h)
      · exact (S.Bt (b := true) y h).pt
      · exact (S.Bt (b := false) y h).pt
      · simp only [Bool.and_eq_true, decide_eq_true_eq] at h
        obtain ⟨⟨⟨rfl, h1⟩, h2⟩, h3⟩ := h
        exact pt_cmpE y.un (S.E y h1) (S.E y h2) (noMark h3)
      · simp only [Bool.and_eq_true, decide_eq_true_eq] at h
        obtain ⟨⟨⟨⟨⟨rfl, rfl⟩, h1⟩, h2⟩, h3⟩, h4⟩ := h
        exact pt_chainE y.un (S.E y h1) (S.E y h2) (S.E y h3) (noMark h4)
      · simp only [Bool.and_eq_true] at h
        exact pt_plainE (S.E y h.2) (isTrue_plainT h.1)
    · -- D
      intro sc X W y ks es keys values pos h
      unfold ckD at h
      split at h
      · exact ⟨[], L2.pps_nil, prok_nil⟩
      · simp only [Bool.and_eq_true, decide_eq_true_eq] at h
        obtain ⟨⟨rfl, h1⟩, h2⟩ := h
        obtain ⟨trs, hp, hq⟩ := S.Dd y (pos := pos) h2
        exact ⟨_, L2.pps_cons (pe_kE L2.pe_str fun _ _ => .str _) (S.E y h1) hp, prok_cons hq⟩
      · cases h
    · -- Es
      intro sc X W y es l h
      unfold ckEs at h
      split at h
      · exact ⟨pa_nilE, rfl⟩
      · simp only [Bool.and_eq_true] at h
        obtain ⟨hp, hst⟩ := S.Es y h.2
        exact ⟨pa_consE (S.E y h.1.2) hp (star_cons h.1.1), by simp only [List.all_cons, h.1.1, hst, Bool.and_self]⟩
      · cases h
    · -- O
      intro sc X W y o l h
      unfold ckO at h
      split at h
      · exact po_noneE
      · exact po_someE (S.E y h)
      · cases h
    · -- C
      intro sc X W y o l h
      unfold ckC at h
      split at h
      · have h0 := L2.pts_nil (X := X)
        refine ⟨fun pins s σ H Q I q => h0.run pins s σ H Q I ?_⟩
        obtain ⟨e, m, S, re, sm, q⟩ := q
        obtain ⟨b, hb, q⟩ := (show Aft X.K c W σ m H (.ok (D.bl true) S) _ from q).now sm
        cases hb
        exact q
      · exact L2.pts_one (S.T y h)
      · cases h
    · -- I
      intro sc X W y it tg e h
      unfold ckI at h
      split at h
      · exact pi_seqE (S.E y h)
      · simp only [Bool.and_eq_true] at h
        obtain ⟨⟨⟨h1, h2⟩, h3⟩, h4⟩ := h
        obtain ⟨rfl, hg, hdb, hn⟩ := gl_of y h1
        exact pi_rng1E hg (y.bls _ h2) (S.E y h4) (star_cons h3)
      · simp only [Bool.and_eq_true] at h
        obtain ⟨⟨⟨⟨⟨h1, h2⟩, h3⟩, h4⟩, h5⟩, h6⟩ := h
        obtain ⟨rfl, hg, hdb, hn⟩ := gl_of y h1
        exact pi_rng2E hg (y.bls _ h2) (S.E y h5) (S.E y h6) (by rw [star_cons h3, star_cons h4]; rfl) (star_cons h4)
      · simp only [Bool.and_eq_true] at h
        obtain ⟨⟨⟨⟨⟨⟨⟨h1, h2⟩, h3⟩, h4⟩, h5⟩, h6⟩, h7⟩, h8⟩ := h
        obtain ⟨rfl, hg, hdb, hn⟩ := gl_of y h1
        exact pi_rngDE hg (y.bls _ h2) (S.E y h6) (S.E y h7) (S.E y h8) (fun e S => rfl) (by rw [star_cons h3, star_cons h4, star_cons h5]; rfl) (by rw [star_cons h4, star_cons h5]; rfl) (star_cons h5)
      · simp only [Bool.and_eq_true] at h
        obtain ⟨⟨⟨⟨⟨h1, h2⟩, h3⟩, h4⟩, h5⟩, h6⟩ := h
        obtain ⟨rfl, hg, hdb, hn⟩ := gl_of y h1
        exact pi_zipE hg (y.bls _ h2) (S.E y h5) (S.E y h6) (by rw [star_cons h3, star_cons h4]; rfl) (star_cons h4)
      · simp only [Bool.and_eq_true] at h
        obtain ⟨⟨⟨h1, h2⟩, h3⟩, h4⟩ := h
        obtain ⟨rfl, hg, hdb, hn⟩ := gl_of y h1
        exact pi_enumE hg (y.bls _ h2) (S.E y h4) (star_cons h3)
      · cases h
end
end Mn

/-! MnZ: the end, for defs that want no guard up. -/
namespace Mn
open PySem PySem.Spec PyProof.Rows
open L2 (V Hp HO Cx SqL SqT Rd St VK WX XK Inv CXT Sp Room Env0 Vals Un HOk hidT)
section
variable {P : Program} {w : World} {K : Frag} {mg mb : Str → Option Value} {CX : CXT} {k : Nat} {fa a : Addr} {cs : List (Addr × Addr)} {fd : FuncData} {x : Str} {sp : Sp} {s : Shared} {vs : List Value} {ns : List Int}
/-- the script alone, and the tables -/
noncomputable def H1 (K : Frag) (a : Addr) (cs : List (Addr × Addr)) (vs : List Value) (ns : List Int) : Hp := fun b =>
  if b ∈ cs.map (·.2) then some (.tbl #[]) else if b = a ∧ K.lookup a = none then some (.frz { cls := .type "list", data := .seq vs.toArray } (.lst (ns.map V.int))) else none
theorem H1_cases (b : Addr) : (H1 K a cs vs ns b = none ∧ b ∉ cs.map (·.2)) ∨ (b ∈ cs.map (·.2) ∧ H1 K a cs vs ns b = some (.tbl #[])) ∨
    (b = a ∧ b ∉ cs.map (·.2) ∧ K.lookup a = none ∧ H1 K a cs vs ns b = some (.frz { cls := .type "list", data := .seq vs.toArray } (.lst (ns.map V.int)))) := by
  unfold H1
  by_cases h : b ∈ cs.map (·.2)
  · exact .inr (.inl ⟨h, if_pos h⟩)
  · by_cases h2 : b = a ∧ K.lookup a = none
    · exact .inr (.inr ⟨h2.1, h, h2.2, by rw [if_neg h, if_pos h2]⟩)
    · exact .inl ⟨by rw [if_neg h, if_neg h2], h⟩
theorem law_callG (KX : K.In s.heap) (hns : s.heap.Ns mainGlobals mg) (hb : s.heap.Ns builtinsNs mb) (hbb : ∀ x : Str, x ≠ "__name__" → mb x = bootBuiltins x) (hlim : s.heap.NoLimit) (hg : s.gens = #[])
    (hT : ∀ p ∈ cs, s.heap.get? p.2 = some { cls := .none, data := .fields #[] }) (nT : ∀ p ∈ cs, K.lookup p.2 = none) (C : ∀ p ∈ cs, PySem.W.CodeHd s.heap p.1 p.2)
    (hbm : ∃ (bm : Addr) (ob : Obj), mg "__builtins__" = some (.ref bm) ∧ bm ≠ builtinsNs ∧ s.heap.get? bm = some ob ∧ ob.cls = .type "module" ∧ ob.dict = some builtinsNs ∧ ob.data = .plain)
    (ha : s.heap.get? a = some { cls := .type "list", data := .seq vs.toArray }) (hi : IntsAre vs ns) (hl : ns.length ≤ sizeLine) (hr : Room k callerA)
    (F : ∀ base : Heap, K.In base → base.Ns mainGlobals mg → (∀ p ∈ cs, LamX.TabB base mg p.1 p.2) → FnG P w K mg base CX k fa fd [x] sp) (hbind : ∀ (s : Shared) (u : Value), BindsTo s fd ⟨[u], []⟩ [(x, u)])
    (hsp : ∀ H : Hp, (∀ p ∈ cs, H p.2 = some (.tbl #[])) → SqL K H a (ns.map V.int) → sp [.ref a] H (fun v _ => v = .bl true) fun _ _ _ => False)
    (hCX : ∀ H e s', CX [] H s (fun _ _ _ => False) e s' → False) :
    codeAny (model P w) callerA (.call (.ref fa) ⟨[.ref a], []⟩) (fun r s' => r = .ok (.ret (.bool true)) ∧ OldK s.heap s'.heap ∧ s'.os = s.os ∧ AllBare s'.gens) s := by
  have rv := L2.vals_ints hi
  have tab : ∀ b ∈ cs.map (·.2), s.heap.get? b = some { cls := .none, data := .fields #[] } := fun b hb => by
    obtain ⟨p, hp, rfl⟩ := List.mem_map.mp hb
    exact hT p hp
  have tin : ∀ p ∈ cs, p.2 ∈ cs.map (·.2) := fun p hp => List.mem_map.mpr ⟨p, hp, rfl⟩
  have at_ : a ∉ cs.map (·.2) := fun z => by
    have q := (tab a z).symm.trans ha
    exact absurd (congrArg Obj.data (Option.some.inj q)) (fun z => by cases z)
  generalize hH : H1 K a cs vs ns = H
  have cas := fun b => hH ▸ H1_cases (K := K) (a := a) (cs := cs) (vs := vs) (ns := ns) b
  have hok : HOk P w H s.heap := fun b u z => by
    rcases cas b with ⟨q, _⟩ | ⟨m, q⟩ | ⟨rfl, _, _, q⟩
    · rw [q] at z; cases z
    · rw [q] at z; cases z
      exact tab b m
    · rw [q] at z; cases z
      exact ⟨ha, by rw [List.length_map]; exact hl, vs, 0, rv, ha⟩
  have hTb : ∀ p ∈ cs, H p.2 = some (.tbl #[]) := fun p hp => by
    rcases cas p.2 with ⟨_, q⟩ | ⟨_, q⟩ | ⟨_, q, _⟩
    · exact absurd (tin p hp) q
    · exact q
    · exact absurd (tin p hp) q
  have hS : SqL K H a (ns.map V.int) := by
    cases hk : K.lookup a with
    | some o =>
      have e := KX a o hk
      rw [ha] at e
      cases e
      exact .inr ⟨_, vs.toArray, _, hk, rfl, rfl, rfl, by rw [List.size_toArray, hi.length]; exact hl, by simpa using rv⟩
    | none =>
      rcases cas a with ⟨q, _⟩ | ⟨m, _⟩ | ⟨_, _, _, q⟩
      · rw [← hH] at q
        unfold H1 at q
        rw [if_neg at_, if_pos ⟨rfl, hk⟩] at q
        cases q
      · exact absurd m at_
      · exact .inl (.inr ⟨_, q⟩)
  have free : ∀ {b : Addr} {o : Obj}, s.heap.get? b = some o → (∀ vs n, o.data ≠ .seq vs n) → o.data ≠ .fields #[] → H b = none := fun {b o} e h1 h2 => by
    rcases cas b with ⟨q, _⟩ | ⟨m, _⟩ | ⟨rfl, _, _, _⟩
    · exact q
    · rw [tab b m] at e; cases e
      exact absurd rfl h2
    · rw [ha] at e; cases e
      exact absurd rfl (h1 _ _)
  have still : ∀ {b : Addr} {o : Obj}, s.heap.get? b = some o → (∀ vs n, o.data ≠ .seq vs n) → o.data ≠ .fields #[] → (hidT s.heap H).get? b = some o := fun e h1 h2 => L2.hidT_get e (free e h1 h2)
  have nsK : ∀ {b : Addr} {m : Str → Option Value}, s.heap.Ns b m → (hidT s.heap H).Ns b m := fun {b m} h => by
    obtain ⟨o, es, ep, e, d, r⟩ := h
    exact ⟨o, es, ep, still e (fun _ _ z => by rw [d] at z; cases z) (fun z => by rw [d] at z; cases z), d, r⟩
  have hKb : K.In (hidT s.heap H) := fun b o e => L2.hidT_get (KX b o e) (by
    rcases cas b with ⟨q, _⟩ | ⟨m, _⟩ | ⟨rfl, _, q, _⟩
    · exact q
    · obtain ⟨p, hp, rfl⟩ := List.mem_map.mp m
      rw [nT p hp] at e; cases e
    · rw [q] at e; cases e)
  have hM : L2.Mod K mg (hidT s.heap H) := ⟨hKb, nsK hns, ⟨mb, nsK hb, hbb⟩, by
    obtain ⟨mc, h1, h2⟩ := hlim
    exact ⟨mc, nsK h1, h2⟩⟩
  have TB : ∀ p ∈ cs, LamX.TabB (hidT s.heap H) mg p.1 p.2 := fun p hp => by
    refine ⟨?_, ?_, fun z => ?_⟩
    · obtain ⟨o, us, c1, c2, c3, c4, c5, c6, c7, e1, r1, r2, r3, r⟩ := C p hp
      exact ⟨o, us, c1, c2, c3, c4, c5, c6, c7, still e1 (fun _ _ z => by rw [r2] at z; cases z) (fun z => by
        rw [r2] at z
        cases z
        simp at r3), r1, r2, r3, r⟩
    · obtain ⟨bm, ob, b1, b2, b3, b4, b5, b6⟩ := hbm
      refine ⟨bm, ob, b1, b2, ?_, ?_, still b3 (fun _ _ z => by rw [b6] at z; cases z) (fun z => by rw [b6] at z; cases z), b4, b5, b6⟩
      · rintro rfl
        obtain ⟨o, es, ep, e, hd, _⟩ := hns
        rw [e] at b3
        cases b3
        rw [hd] at b6; cases b6
      · rintro rfl
        rw [hT p hp] at b3
        cases b3
        cases b6
    · obtain ⟨o, es, ep, e, hd, _⟩ := hns
      rw [z, hT p hp] at e
      cases e
      cases hd
  have e0 : Env0 P w K mg (hidT s.heap H) callerA [] s H := {
    frames := rfl
    mod := hM
    bs := fun b o e => L2.of_hidT e
    bsz := Nat.le_of_eq (L2.hidT_size _ _)
    funs := trivial
    frf := fun b hb => absurd hb (by simp [L2.frs])
    hok := hok
    bare := .of_eq hg }
  refine codeAny_mono ((F _ hKb (nsK hns) TB).run callerA [] s H ⟨[.ref a], []⟩ [.ref a] [.ref a] _ _ hr rfl e0 (hbind s (.ref a)) (.cons rfl .nil) (hsp H hTb hS)) fun r s' h => ?_
  rcases r with e | fl
  · exact (hCX H e s' h).elim
  cases fl with
  | next => exact h.elim
  | brk => exact h.elim
  | cont => exact h.elim
  | ret u =>
    obtain ⟨v, H', os, bare, un, hok', r', rfl⟩ := h
    obtain rfl : u = Value.bool true := r'
    have grown : ∀ b ∈ cs.map (·.2), ∃ more : Array Value, s'.heap.get? b = some { cls := .none, data := .fields more } := fun b hb => by
      obtain ⟨p, hp, rfl⟩ := List.mem_map.mp hb
      obtain ⟨more, z⟩ := un.tbls p.2 #[] (hTb p hp)
      exact ⟨_, hok' p.2 _ z⟩
    have same : ∀ b o, b ∉ cs.map (·.2) → s.heap.get? b = some o → s'.heap.get? b = some o := fun b o nb e => by
      rcases cas b with ⟨q, _⟩ | ⟨m, _⟩ | ⟨rfl, _, _, q⟩
      · exact un.keep b o e q (by simp [L2.frs]) (by simp)
      · exact absurd m nb
      · obtain ⟨e1, _⟩ := hok b _ q
        obtain ⟨e2, _⟩ := hok' b _ (un.frzs b _ _ q)
        rw [e] at e1; cases e1
        exact e2
    refine ⟨rfl, ⟨fun b o e => ?_, fun b o e => ?_⟩, os, bare⟩
    · by_cases hb : b ∈ cs.map (·.2)
      · obtain ⟨more, hm⟩ := grown b hb
        obtain ⟨p, hp, rfl⟩ := List.mem_map.mp hb
        rw [hT p hp] at e
        cases e
        exact .inr (.inl ⟨((C p hp).tab (hT p hp)).isCodeTable, rfl, #[], more, rfl, by rw [Array.empty_append]; exact hm⟩)
      · exact .inl (same b o hb e)
    · by_cases hb : b ∈ cs.map (·.2)
      · obtain ⟨more, hm⟩ := grown b hb
        exact ⟨_, hm⟩
      · exact ⟨o, same b o hb e⟩
end
end Mn

/-! Mn12: the look is enough: statements; a whole program. -/
namespace Mn
open PySem PySem.Spec PyProof.Rows
open L2 (V Hp HO Cx SqL SqT Rd St VK WX XK TE TA TS TT TG TI PE PA PS PSs PT PG PI Ends upd upd_same upd_ne OpR R2 Inv Dp DpAll UnR CallR Walk)

def locIn (sc : Scope) (x : Str) : Bool := decide (sc.names.lookup x = some NameKind.local) || decide (sc.names.lookup x = some NameKind.cell)
theorem loc_of {sc : Scope} {x : Str} (h : locIn sc x = true) : L2.Loc sc x := by
  unfold locIn at h
  simp only [Bool.or_eq_true, decide_eq_true_eq] at h
  exact h
def notTup : Expr → Bool
  | .Tuple .. => false
  | .List .. => false
  | _ => true
theorem swapped_no {ts : List Expr} {k : Nat} {p : Pos} {v : Expr} {env : PySem.Env} (h : notTup v = true) : swappedStores [.Tuple ts k p] v env = pure none := by
  cases v <;> first | rfl | (cases h; done)
theorem par_sw {x y : Str} {px py pt pt2 : Pos} {kt k2} {a b : Expr} {env : PySem.Env} (hk : env.scope.kind = .function) (hx : env.scope.names.lookup x = some .local) (hy : env.scope.names.lookup y = some .local) (hxy : x ≠ y) (hl : (px.line == py.line) = true) (h8 : [a, b].all (foldedForSure 8) = false) (h9 : [a, b].all (constantsAlone 8) = false) (hs : [a, b].all notStar = true) :
    swappedStores [.Tuple [.Name x px, .Name y py] kt pt] (.Tuple [a, b] k2 pt2) env = pure (some [x, y]) := by
  have e1 : env.blockKind = .function := by
    unfold Env.blockKind
    rw [hk]
    rfl
  have e2 : env.kindOf x = some .local := hx
  have e3 : env.kindOf y = some .local := hy
  have e5 : (py.line == px.line) = true := by rw [beq_iff_eq] at hl ⊢; exact hl.symm
  simp only [List.all_cons, List.all_nil, Bool.and_true, Bool.and_eq_true] at hs
  obtain ⟨s1, s2⟩ := hs
  have n2 : [x, y].eraseDups = [x, y] := by
    have : ¬ (y = x) := fun z => hxy z.symm
    simp [List.eraseDups_cons, this]
  have n0 : ((Option.map (fun x => x.pos.line) [Expr.Name x px, .Name y py].head?).getD 0) = px.line := rfl
  unfold swappedStores
  simp only [List.length_cons, List.length_nil, e1, n0, h8, h9]
  rw [if_neg (by decide), if_neg (fun h => by
    simp only [List.any_cons, List.any_nil, Bool.or_false, Bool.or_eq_true] at h
    rcases h with h | h
    · cases a <;> first | (cases s1; done) | (cases h; done)
    · cases b <;> first | (cases s2; done) | (cases h; done))]
  simp only [List.filterMap_cons, List.filterMap_nil, e2, e3, e5, BEq.rfl, Bool.and_true, if_true, n2]
  rfl
/-- a comprehension that is given to a name at once -/
def swHere (sc scope : Scope) (x : Str) (p q : Pos) : Bool := decide (sc.names.lookup x = some NameKind.local) && (p.line == q.line) && !(scope.names.any fun (n, k) => n == x && (k == .local || k == .cell))
theorem swaps_cell {elt : Expr} {gs : List Comprehension} {scope : Scope} {pos py : Pos} {y : Str} {l : Nat} {env : PySem.Env} (hy : env.scope.names.lookup y = some .cell) : swapsWith (.ListComp elt gs scope pos) (some (.Name y py)) l env = pure false := by
  have ky : env.kindOf y = some .cell := hy
  have z : (NameKind.cell == NameKind.local) = false := rfl
  unfold swapsWith
  simp only [ky, Option.some_beq_some, z, Bool.and_false, Bool.false_and]
theorem sole_no {e t : Expr} {l : Nat} {env : PySem.Env} (h : noComp e = true) : swapsWithSole [t] e l env = pure false := by
  show swapsWith e (some t) l env = _
  exact swaps_no h
theorem sole_tup {e : Expr} {es : List Expr} {k : Nat} {p : Pos} {l : Nat} {env : PySem.Env} : swapsWithSole [.Tuple es k p] e l env = pure false := by
  show swapsWith e (some (.Tuple es k p)) l env = _
  cases e <;> rfl
theorem sole_sub {e o i : Expr} {p : Pos} {l : Nat} {env : PySem.Env} : swapsWithSole [.Subscript o i p] e l env = pure false := by
  show swapsWith e (some (.Subscript o i p)) l env = _
  cases e <;> rfl
theorem asg_sub {o i : Expr} {p : Pos} {env : PySem.Env} (h : notCut i = true) (v : Value) : assign (.Subscript o i p) env v = (do
    let ov ← holding [v] (eval o env)
    let iv ← holding [v, ov] (eval i env)
    standAt p
    holding [v, ov, iv] (setItem ov iv v)
    release [v, ov, iv] []) := by
  cases i <;> first | rfl | (cases h; done)
section
variable (c : Sg) (N : List Str)
def ckTs (sc : Scope) (t : Tg) (e : Expr) : Bool := match t, e with
  | .nm i, .Name x _ => decide (N[i]? = some x) && locIn sc x
  | .tp is, .Tuple es _ _ => decide (is.length = es.length) && (is.zip es).all fun p => match p.2 with
      | .Name x _ => decide (N[p.1]? = some x) && locIn sc x
      | _ => false
  | _, _ => false
mutual
def ckS : Nat → Scope → St → Stmt → Bool
  | 0, _, _, _ => false
  | n + 1, sc, me, st => match me, st with
    | .kept i j l f b, .Try [.Assign [.Name t _] a _] [.ExceptHandler (some (.Name x _)) (some m) [.Assign [.Name v _] (.Name m' _) _] _] [] [] _ => decide (m = m') && isGl sc f x && c.tops.contains f && okName m && decide (N[i]? = some m) && decide (N[j]? = some v) && decide (N[l]? = some t) &&
        decide (sc.names.lookup m = some NameKind.local) && decide (sc.names.lookup v = some NameKind.local) && decide (sc.names.lookup t = some NameKind.local) && noComp a && ckE c N n sc b a
    | .raise f es, .Raise (some (.Call (.Name x _) (y :: l) [] _)) none _ => isGl sc f x && c.exs.contains f && ckEs c N n sc es (y :: l)
    | .dead, _ => true
    | .dput o k b, .Assign [.Subscript x (.Constant (.str k') _ _) p] v pos => decide (k = k') && noComp v && ckE c N n sc o x && ckE c N n sc b v
    | .set i e, .Assign [.Name x p] v pos => decide (N[i]? = some x) && locIn sc x && (match v with
        | .ListComp _ _ scope q => decide (sc.names.lookup x = some NameKind.cell) || swHere sc scope x p q
        | v => noComp v) && ckE c N n sc e v
    | .unp is e, .Assign [.Tuple es k p] v pos => ckTs N sc (.tp is) (.Tuple es k p) && notTup v && ckE c N n sc e v
    | .par i j es, .Assign [.Tuple [.Name x px, .Name y py] kt pt] (.Tuple [a, b] k2 pt2) pos => decide (N[i]? = some x) && decide (N[j]? = some y) && decide (i ≠ j) && decide (x ≠ y) && decide (sc.names.lookup x = some NameKind.local) && decide (sc.names.lookup y = some NameKind.local) &&
        (px.line == py.line) && !([a, b].all (foldedForSure 8)) && !([a, b].all (constantsAlone 8)) && ckEs c N n sc es [a, b]
    | .sets a i b, .Assign [.Subscript x y p] v pos => ckE c N n sc a x && ckE c N n sc i y && ckE c N n sc b v && notCut y
    | .aug i op e, .AugAssign (.Name x p) o v pos => decide (op = o) && decide (N[i]? = some x) && locIn sc x && ckE c N n sc e v
    | .expr e, .Expr v pos => noComp v && ckE c N n sc e v
    | .ret e, .Return (some v) pos => ckE c N n sc e v
    | .retN, .Return none pos => true
    | .pass, .Pass _ => true
    | .brk, .Break _ => true
    | .cont, .Continue _ => true
    | .ite d a b, .If x y z _ => ckT c N n sc d x && ckSs n sc a y && ckSs n sc b z
    | .for tg it b, .For t iter body [] _ => ckTs N sc tg t && ckI c N n sc it t iter && notSet iter && ckSs n sc b body
    | .whl d b, .While x body [] _ => ckT c N n sc d x && ckSs n sc b body
    | _, _ => false
def ckSs : Nat → Scope → Sts → List Stmt → Bool
  | 0, _, _, _ => false
  | n + 1, sc, me, l => match me, l with
    | .nil, [] => true
    | .cons s r, st :: l => ckS n sc s st && ckSs n sc r l
    | _, _ => false
end
end

/-- where a statement stands -/
structure Cs (c : Cfg) (G : Globs) (N : List Str) (k : Nat) (call : String → List D → Store → R D) (sc : Scope) (X : Cx) (W : WX) : Prop where
  y : Cy c G N k call sc X W
  hf : ∀ x, X.fn x = true
  kind : X.env.scope.kind = .function
  hp : PassesOwn (model X.prog X.w) X.A X.env X.xe
  cw : CW W
  st : X.stack = X.env :: X.outer
  fr : X.env.frame = some X.env.locals
  ex : X.ex = []
/-- the same within a try -/
theorem Cy.tr {c : Cfg} {G : Globs} {N : List Str} {k : Nat} {call : String → List D → Store → R D} {sc : Scope} {X : Cx} {W W' : WX} (y : Cy c G N k call sc X W) (pn : List (Addr × Obj)) (xe : Value → Shared → Prop) (tk : L2.Takes (X.tr pn xe) W') : Cy c G N k call sc (X.tr pn xe) W' where
  hN := y.hN
  hs := y.hs
  calm := y.calm
  nd := y.nd
  room := y.room
  gx := y.gx
  un := y.un
  gd := y.gd
  tk := tk
  fns := y.fns
  bls := y.bls
  cls := y.cls
  top := y.top
  isx := y.isx
  globs := y.globs
section
variable {c : Cfg} {G : Globs} {N : List Str} {k fuel : Nat} {call : String → List D → Store → R D} {sc : Scope} {X : Cx} {W : WX}
theorem pg_def (y : Cs c G N k call sc X W) {t : Tg} {e : Expr} (h : ckTs N sc t e = true) : ∃ g, TgOk X c t g ∧ PG X e g ∧ (∀ is, t = .tp is → g = gSq X.K is.length (gNames is)) := by
  have nm : ∀ {i : Nat} {x : Str} {p : Pos}, (decide (N[i]? = some x) && locIn sc x) = true → PG X (.Name x p) (L2.gName i) := by
    intro i x p h
    simp only [Bool.and_eq_true, decide_eq_true_eq] at h
    exact L2.pg_name y.y.nd (by rw [y.y.hN]; exact h.1) (by rw [y.y.hs]; exact loc_of h.2) (.inl (y.hf x))
  unfold ckTs at h
  split at h
  · exact ⟨_, tg_nm _, nm h, fun is e => by cases e⟩
  · rename_i is es kk p
    simp only [Bool.and_eq_true, decide_eq_true_eq] at h
    refine ⟨_, tg_tp is, ?_, fun is e => by cases e; rfl⟩
    have hes : ∀ (is : List Nat) (es : List Expr), is.length = es.length → ((is.zip es).all fun p => match p.2 with
        | .Name x _ => decide (N[p.1]? = some x) && locIn sc x
        | _ => false) = true → L2.PGs X es (gNames is) ∧ (assignEach es X.env).length = is.length ∧ (assignEach es X.env).findIdx? (·.1) = none := by
      intro is
      induction is with
      | nil =>
        intro es hl _
        cases es with
        | nil => exact ⟨L2.pgs_nil, rfl, rfl⟩
        | cons _ _ => simp at hl
      | cons i r ih =>
        intro es hl hz
        cases es with
        | nil => simp at hl
        | cons e es =>
          simp only [List.zip_cons_cons, List.all_cons, Bool.and_eq_true] at hz
          obtain ⟨h1, h2, h3⟩ := ih es (by simpa using hl) (by simpa using hz.2)
          cases e with
          | Name x p =>
            refine ⟨L2.pgs_cons (nm (by simpa using hz.1)) h1, ?_, ?_⟩
            · show ((false, _) :: assignEach es _).length = _
              simp only [List.length_cons, h2]
            · show ((false, _) :: assignEach es _).findIdx? _ = _
              simp only [List.findIdx?_cons, Bool.false_eq_true, if_false, h3, Option.map_none]
          | _ => exact absurd hz.1 (by simp)
    obtain ⟨h1, h2, h3⟩ := hes is es h.1 h.2
    exact pg_sq y.y.calm h1 h2 h3
  · cases h
theorem ckE_comp {n : Nat} {e : Mn.E} {elt : Expr} {gs : List Comprehension} {scope : Scope} {q : Pos} (h : ckE c.sg N (n + 1) sc e (.ListComp elt gs scope q) = true) : ∃ vv own tg it d ee t iter ifs, e = .comp vv own tg it d ee ∧ gs = [⟨t, iter, ifs, 0⟩] ∧
    (L2.blkC N sc scope (ckOwn N own) && decide ((ckOwn N own).map (·.2) = own) && tg.slots.all (own.contains ·) && ckTg N scope tg t && ckI c.sg N n sc it t iter && notSet iter && ckC c.sg N n (L2.relS scope sc) d ifs && ckE c.sg N n (L2.relS scope sc) ee elt && !gOk c.sg (L2.relS scope sc)) = true := by
  unfold ckE at h
  split at h
  all_goals first
    | (simp [noComp] at h; done)
    | (cases h; done)
    | (rename_i he; cases he; done)
    | (rename_i he; cases he; exact ⟨_, _, _, _, _, _, _, _, _, rfl, rfl, h⟩)
theorem par_of {i j : Nat} {f : Env → Store → R (List D)} : ∀ D σ H, tS X.K c W (fun e S => (f e S).bind fun ds S1 => match ds with
    | [x, y] => .ok (.nx ((e.set i (some x)).set j (some y))) S1
    | _ => .bad) D σ H → L2.tPar i j (tA X.K c W f) D σ H := by
  rintro D σ H ⟨e, m, S, re, s, h⟩
  refine ⟨e, m, S, re, s, h.bind.imp fun ds S1 m1 H1 e1 s1 h1 vs rv => ?_⟩
  match ds, h1, rv with
  | [x, y], h1, .cons r1 (.cons r2 .nil) => exact ⟨_, _, rfl, (h1.now s1) _ (((re.mono s e1).set r1 i).set r2 j)⟩
  | [], h1, _ => exact h1.elim
  | [_], h1, _ => exact h1.elim
  | _ :: _ :: _ :: _, h1, _ => exact h1.elim
theorem snds : ∀ n, (∀ {sc : Scope} {X : Cx} {W : WX}, Cs c G N k call sc X W → ∀ {me : Mn.St} {st : Stmt}, ckS c.sg N n sc me st = true → PS X st (tS X.K c W (exS G fuel call me))) ∧
    (∀ {sc : Scope} {X : Cx} {W : WX}, Cs c G N k call sc X W → ∀ {me : Sts} {l : List Stmt}, ckSs c.sg N n sc me l = true → PSs X l (tS X.K c W (exB G fuel call me))) := by
  intro n
  induction n with
  | zero =>
    refine ⟨?_, ?_⟩
    · intro sc X W y me st h
      simp [ckS] at h
    · intro sc X W y me l h
      simp [ckSs] at h
  | succ n ih =>
    obtain ⟨ihS, ihB⟩ := ih
    have SE := @snd c G N k call n
    refine ⟨?_, ?_⟩
    · intro sc X W y me st h
      unfold ckS at h
      split at h
      · simp only [Bool.and_eq_true, decide_eq_true_eq] at h
        obtain ⟨⟨⟨⟨⟨⟨⟨⟨⟨⟨⟨rfl, h1⟩, h2⟩, h3⟩, h4⟩, h5⟩, h6⟩, h7⟩, h8⟩, h9⟩, h10⟩, h11⟩ := h
        obtain ⟨rfl, hg, hdb, hn⟩ := gl_of y.y h1
        obtain ⟨C, hC, all⟩ := y.y.top _ h2
        obtain ⟨q1, q2, _⟩ := okName_db h3
        have kd : ∀ z, sc.names.lookup z = some NameKind.local → X.env.kindOf z = some .local := fun z hz => by
          show X.env.scope.names.lookup z = _
          rw [y.y.hs]
          exact hz
        exact ps_keptE y.st y.fr y.ex y.y.nd (by rw [y.y.hN]; exact h4) (kd _ h7) (by rw [y.y.hN]; exact h5) (kd _ h8) (by rw [y.y.hN]; exact h6) (kd _ h9) ⟨hg, hdb, .inl hC⟩ q1 q2 all
          (fun W' pn xe tk => SE.E (y.y.tr pn xe tk) h11) (swaps_no h10)
      · simp only [Bool.and_eq_true] at h
        obtain ⟨⟨h1, h2⟩, h3⟩ := h
        obtain ⟨rfl, hg, hdb, hn⟩ := gl_of y.y h1
        obtain ⟨C, hC, F⟩ := y.y.cls _ h2
        obtain ⟨hp, hst⟩ := SE.Es y.y h3
        simp only [List.all_cons, Bool.and_eq_true] at hst
        exact ps_raiseE hC F y.y.calm y.y.tk hg hp hdb (star_cons hst.1) (star_any hst.2)
      · exact ⟨fun pins s σ H D I h => by
          obtain ⟨_, _, _, _, _, h⟩ := h
          exact h.elim⟩
      · simp only [Bool.and_eq_true, decide_eq_true_eq] at h
        obtain ⟨⟨⟨rfl, h1⟩, h2⟩, h3⟩ := h
        exact ps_dputE (Nat.lt_of_le_of_lt (Nat.add_le_add_left (by decide) _) y.y.un) (SE.E y.y h2) (pe_kE L2.pe_str fun _ _ => .str _) (SE.E y.y h3) (swaps_no h1)
      · rename_i i e x p v pos
        simp only [Bool.and_eq_true, decide_eq_true_eq] at h
        obtain ⟨⟨⟨h1, h2⟩, h3⟩, h4⟩ := h
        have hi : X.N[i]? = some x := by rw [y.y.hN]; exact h1
        have hx : L2.Loc X.env.scope x := by rw [y.y.hs]; exact loc_of h2
        split at h3
        · rename_i elt gs scope q
          simp only [Bool.or_eq_true, decide_eq_true_eq] at h3
          rcases h3 with h3 | h3
          · exact ps_setE y.y.nd hi hx (SE.E y.y h4) (swaps_cell (by rw [y.y.hs]; exact h3)) (.inl (y.hf x))
          · simp only [swHere, Bool.and_eq_true, decide_eq_true_eq, Bool.not_eq_true'] at h3
            obtain ⟨⟨h5, h6⟩, h7⟩ := h3
            cases n with
            | zero => simp [ckE] at h4
            | succ n =>
              obtain ⟨vv, own, tg, it, d, ee, t, iter, ifs, rfl, rfl, h4⟩ := ckE_comp h4
              obtain ⟨gt, qq, ok, pi, hg, hts, he2, hf⟩ := lc_parts (v := vv) (@snd c G N k call n) y.y h4
              have hloc : X.env.scope.names.lookup x = some .local := by rw [y.y.hs]; exact h5
              exact PS.imp (L2.ps_setLc (i := i) y.y.calm y.y.nd hi hloc (L2.sw_true y.kind hloc h6 h7) pi ok hg hts he2 hf) (set_of (i := i) qq)
        · exact ps_setE y.y.nd hi hx (SE.E y.y h4) (swaps_no h3) (.inl (y.hf x))
      · rename_i is e es kk p v pos
        simp only [Bool.and_eq_true] at h
        obtain ⟨⟨h1, h2⟩, h4⟩ := h
        obtain ⟨g, ht, hg, _⟩ := pg_def y h1
        exact PS.imp (L2.ps_asg (SE.E y.y h4) hg sole_tup (swapped_no h2) rfl) (unp_of ht)
      · simp only [Bool.and_eq_true, decide_eq_true_eq, Bool.not_eq_true'] at h
        obtain ⟨⟨⟨⟨⟨⟨⟨⟨⟨h1, h2⟩, h3⟩, h4⟩, h5⟩, h6⟩, h7⟩, h8⟩, h9⟩, h10⟩ := h
        obtain ⟨hp, hst⟩ := SE.Es y.y h10
        have kd : ∀ z, sc.names.lookup z = some NameKind.local → X.env.scope.names.lookup z = some .local := fun z hz => by rw [y.y.hs]; exact hz
        exact PS.imp (L2.ps_par y.y.calm y.y.nd (by rw [y.y.hN]; exact h1) (by rw [y.y.hN]; exact h2) h3 (kd _ h5) (kd _ h6) hp (par_sw y.kind (kd _ h5) (kd _ h6) h4 h7 h8 h9 hst)) par_of
      · rename_i a i b x z p v pos
        simp only [Bool.and_eq_true] at h
        obtain ⟨⟨⟨h2, h3⟩, h4⟩, h5⟩ := h
        exact PS.imp (L2.ps_asg (SE.E y.y h4) (L2.pg_sub (SE.E y.y h2) (SE.E y.y h3) L2.set_list (asg_sub h5)) sole_sub rfl rfl) sets_of
      · simp only [Bool.and_eq_true, decide_eq_true_eq] at h
        obtain ⟨⟨⟨rfl, h1⟩, h2⟩, h3⟩ := h
        exact ps_augE y.y.nd (by rw [y.y.hN]; exact h1) (by rw [y.y.hs]; exact loc_of h2) (SE.E y.y h3) (.inl (y.hf _))
      · simp only [Bool.and_eq_true] at h
        exact ps_exprE (SE.E y.y h.2) (swaps_no h.1)
      · exact ps_retE (SE.E y.y h)
      · exact ps_retNE
      · exact ps_passE
      · exact ps_brkE
      · exact ps_contE
      · simp only [Bool.and_eq_true] at h
        exact ps_iteE y.cw (SE.T y.y h.1.1) (ihB y h.1.2) (ihB y h.2)
      · simp only [Bool.and_eq_true] at h
        obtain ⟨⟨⟨h1, h2⟩, h3⟩, h4⟩ := h
        obtain ⟨g, ht, hg, _⟩ := pg_def y h1
        exact ps_forE y.cw y.hp y.y.calm (SE.I y.y h2) hg ht (ihB y h4) (folded_no h3)
      · simp only [Bool.and_eq_true] at h
        exact ps_whlE y.cw y.hp (SE.T y.y h.1) (ihB y h.2)
      · cases h
    · intro sc X W y me l h
      unfold ckSs at h
      split at h
      · exact pss_nilE
      · simp only [Bool.and_eq_true] at h
        exact pss_consE y.cw (ihS y h.1) (ihB y h.2)
      · cases h
end

/-! ### a whole program -/
/-- a def of the text, by its term; cs: code objects and their tables -/
structure DefOk (c : Cfg) (cs : List (Addr × Addr)) (fuel : Nat) (K : Frag) (mg : Str → Option Value) (name : String) (d : Def) : Prop where
  ex : ∃ (qual : Str) (st : Stmt) (f : Addr) (fd : FuncData) (N ps : List Str), L2.Fun K (Str.ofString name) qual st f fd ∧ L2.FnScope N ps (L2.defScope st) ∧ d.n = N.length ∧ d.np = ps.length ∧
    ckSs c.sg N fuel (L2.defScope st) d.body (L2.defBody st) = true ∧ mg (Str.ofString name) = some (.ref f) ∧ L2.Binds K fd ps [] ∧ (gOk c.sg (L2.defScope st) = true → ∃ c0 P, fd.code = .ref c0 ∧ (c0, P) ∈ cs)
structure ProgOk (c : Cfg) (cs : List (Addr × Addr)) (G : Globs) (Pg : Prog) (K : Frag) (mg : Str → Option Value) : Prop where
  defs : ∀ name d, Pg name = some d → ∃ fuel, DefOk c cs fuel K mg name d
  sig : ∀ f a, c.sg.sig f = some a → ∃ d, Pg f = some d ∧ d.np = a
  bls : ∀ f, c.sg.bls.contains f = true → mg (Str.ofString f) = none
  cls : ∀ f, c.sg.exs.contains f = true → ∃ C, c.ca f = some C ∧ ExcCl K mg C f
  isx : ∀ f tab, c.sg.isx.lookup f = some tab → IsCl K mg c.ca f tab
  top : ∀ f, c.sg.tops.contains f = true → ∃ C, mg (Str.ofString f) = some (.ref C) ∧ ∀ y D, c.ca y = some D → PySem.W.exmOne K (.ref D) (.ref C) = some true
  globs : ∀ x d, G x = some d → ∃ (u : Value) (v : V), mg (Str.ofString x) = some u ∧ L2.RelV v u ∧ ∀ (m : MM) (H : Hp), RV K c m H d v
  tabs : c.tabs = cs.map (·.2)
theorem prog_def {P : Program} {w : World} {K : Frag} {mg : Str → Option Value} {base : Heap} {c : Cfg} {cs : List (Addr × Addr)} {G : Globs} {fuel : Nat} {Pg : Prog} (ok : ProgOk c cs G Pg K mg) (hT : ∀ p ∈ cs, LamX.TabB base mg p.1 p.2) (k : Nat)
    (ih : ∀ (name : String) (d : Def), Pg name = some d → ∃ (f : Addr) (fd : FuncData) (ps : List Str), FnG P w K mg base (L2.CX P w) (2 * k) f fd ps (spG K c (fun ds S => callA G fuel Pg k name ds S) d.np) ∧ mg (Str.ofString name) = some (.ref f) ∧ PySem.W.keepIn K (.ref f) = true ∧ L2.Binds K fd ps [] ∧ d.np = ps.length)
    {name : String} {d : Def} (hd : Pg name = some d) {qual : Str} {st : Stmt} {f : Addr} {fd : FuncData} {N ps : List Str} {fl : Nat}
    (F : L2.Fun K (Str.ofString name) qual st f fd) (Sc : L2.FnScope N ps (L2.defScope st)) (h1 : d.n = N.length) (h2 : d.np = ps.length) (h3 : ckSs c.sg N fl (L2.defScope st) d.body (L2.defBody st) = true) (h6 : gOk c.sg (L2.defScope st) = true → ∃ c0 P, fd.code = .ref c0 ∧ (c0, P) ∈ cs) :
    FnG P w K mg base (L2.CX P w) (2 * k + 2) f fd ps (spG K c (fun ds S => callA G fuel Pg (k + 1) name ds S) ps.length) := by
  refine fn_okE (j := 2 * k + 1) F Sc hd h1 h2 fun cdv A outer s H E hcd hr hgd => ?_
  refine (snds (c := c) (G := G) (N := N) (k := 2 * k) (fuel := fuel) (call := callA G fuel Pg k) fl).2 (sc := L2.defScope st) ⟨⟨rfl, rfl, rfl, Sc.nd, hr.mono (Nat.le_succ _), fun hg => ⟨hr, ?_⟩, ?_, hgd, L2.takes_of rfl rfl rfl rfl, fun f a hf => ?_, ok.bls, ok.cls, ok.isx, ok.top, ok.globs⟩, fun _ => rfl, Sc.kind, L2.passes_of rfl, fun _ _ _ _ _ h => h, rfl, rfl, rfl⟩ h3
  · obtain ⟨c0, P0, e, hm⟩ := h6 hg
    refine ⟨c0, P0, ?_, ⟨(hT _ hm).code, (hT _ hm).bm, (hT _ hm).gP⟩, ?_⟩
    · show cdv = .ref c0
      rw [← hcd]
      exact e
    · rw [ok.tabs]
      exact List.mem_map.mpr ⟨_, hm, rfl⟩
  · have := hr.un
    show (A.deeper _).units + 65 < cLine
    omega
  · obtain ⟨d', hd', rfl⟩ := ok.sig f a hf
    obtain ⟨f', fd', ps', F', g1, g2, g3, _⟩ := ih f d' hd'
    exact ⟨f', fd', ps', F', g1, g2, g3⟩
theorem prog_ok {P : Program} {w : World} {K : Frag} {mg : Str → Option Value} {base : Heap} {c : Cfg} {cs : List (Addr × Addr)} {G : Globs} {fuel : Nat} {Pg : Prog} (ok : ProgOk c cs G Pg K mg) (hT : ∀ p ∈ cs, LamX.TabB base mg p.1 p.2) : ∀ (k : Nat) (name : String) (d : Def), Pg name = some d →
    ∃ (f : Addr) (fd : FuncData) (ps : List Str), FnG P w K mg base (L2.CX P w) (2 * k) f fd ps (spG K c (fun ds S => callA G fuel Pg k name ds S) d.np) ∧ mg (Str.ofString name) = some (.ref f) ∧ PySem.W.keepIn K (.ref f) = true ∧ L2.Binds K fd ps [] ∧ d.np = ps.length := by
  intro k
  induction k with
  | zero =>
    intro name d hd
    obtain ⟨fl, qual, st, f, fd, N, ps, F, Sc, h1, h2, h3, h4, h5, _⟩ := ok.defs name d hd
    refine ⟨f, fd, ps, ⟨fun vs H Q E h => by rw [← h2]; exact h.1, fun A outer s H args us vs Q E hr hgd he hb hv h => ?_⟩, h4, F.kp, h5, h2⟩
    obtain ⟨_, m, S, ds, _, _, h⟩ := h
    exact (show False from h).elim
  | succ k ih =>
    intro name d hd
    obtain ⟨fl, qual, st, f, fd, N, ps, F, Sc, h1, h2, h3, h4, h5, h6⟩ := ok.defs name d hd
    refine ⟨f, fd, ps, ?_, h4, F.kp, h5, h2⟩
    rw [h2]
    exact prog_def ok hT k ih hd F Sc h1 h2 h3 h6

theorem prog_fn {P : Program} {w : World} {K : Frag} {mg : Str → Option Value} {base : Heap} {c : Cfg} {cs : List (Addr × Addr)} {G : Globs} {fuel : Nat} {Pg : Prog} (ok : ProgOk c cs G Pg K mg) (hT : ∀ p ∈ cs, LamX.TabB base mg p.1 p.2) (k : Nat) {name : String} {d : Def} (hd : Pg name = some d) {qual : Str} {st : Stmt} {f : Addr} {fd : FuncData} {N ps : List Str} {fl : Nat}
    (F : L2.Fun K (Str.ofString name) qual st f fd) (Sc : L2.FnScope N ps (L2.defScope st)) (h1 : d.n = N.length) (h2 : d.np = ps.length) (h3 : ckSs c.sg N fl (L2.defScope st) d.body (L2.defBody st) = true) (h6 : gOk c.sg (L2.defScope st) = true → ∃ c0 P, fd.code = .ref c0 ∧ (c0, P) ∈ cs) :
    FnG P w K mg base (L2.CX P w) (2 * k + 2) f fd ps (spG K c (fun ds S => callA G fuel Pg (k + 1) name ds S) d.np) := by
  rw [h2]
  exact prog_def ok hT k (prog_ok ok hT k) hd F Sc h1 h2 h3 h6

/-! ### the law -/
def spLaw (K : Frag) (tabs : List Addr) : L2.Sp := fun vs H Q _ => ∃ (a : Addr) (ns : List Int), vs = [.ref a] ∧ SqL K H a (ns.map V.int) ∧ ns.length ≤ 63 ∧ (∀ P ∈ tabs, H P = some (.tbl #[])) ∧ ∀ H', Q (.bl true) H'
theorem ints_rv {K : Frag} {c : Cfg} {m : MM} {H : Hp} : ∀ ns : List Int, RVs K c m H (ns.map D.int) (ns.map V.int)
  | [] => .nil
  | n :: r => .cons (.int n) (ints_rv r)
theorem law_of {K : Frag} {c : Cfg} {f : List D → Store → R D} (hf : ∀ ns : List Int, ns.length ≤ 63 → ∃ S', f [.lst (ns.map .int)] [] = .ok (.bl true) S') (vs : List V) (H : Hp) (Q : VK) (E : XK) (h : spLaw K c.tabs vs H Q E) : spG K c f 1 vs H Q E := by
  obtain ⟨a, ns, rfl, hs, hl, ht, q⟩ := h
  obtain ⟨S', e⟩ := hf ns hl
  refine ⟨rfl, ⟨[], []⟩, [], [.lst (ns.map .int)], .cons (.lst ?_ (ints_rv ns)) .nil, ⟨rfl, .nil, (fun a h => by cases h), (fun n o h => by simp at h), (fun P hP => ⟨#[], ht P hP, by simp [TriplesOk]⟩)⟩, ?_⟩
  · rcases hs with h | h
    · exact .inl ⟨h, by simp, by simp⟩
    · exact .inr h
  · rw [e]
    intro m' H' _ _ v rv
    cases rv
    exact q H'
def LawG (l : PySem.W.OpenLaw) (w : World) (K : Frag) (CX : L2.CXT) (k n : Nat) (x : Str) (mg : Str → Option Value) (fa : Addr) (h : Heap) : Prop :=
  ∃ (fd : FuncData) (cs : List (Addr × Addr)) (sp : L2.Sp), (∀ p ∈ cs, h.get? p.2 = some { cls := .none, data := .fields #[] }) ∧ (∀ p ∈ cs, K.lookup p.2 = none) ∧ (∀ p ∈ cs, PySem.W.CodeHd h p.1 p.2) ∧ (∀ (s : Shared) (u : Value), BindsTo s fd ⟨[u], []⟩ [(x, u)]) ∧
    (∀ (H : Hp) (a : Addr) (ns : List Int), ns.length ≤ n → (∀ z ∈ ns, Builtin.Int.intBits z ≤ 1048576) → (∀ p ∈ cs, H p.2 = some (.tbl #[])) → SqL K H a (ns.map V.int) → sp [.ref a] H (fun v _ => v = .bl true) fun _ _ _ => False) ∧
    ∀ base : Heap, K.In base → base.Ns mainGlobals mg → (∀ p ∈ cs, LamX.TabB base mg p.1 p.2) → FnG l.prog w K mg base CX k fa fd [x] sp
/-- the end: each def's table is empty at first -/
theorem walk_tabs {l : PySem.W.OpenLaw} {n k : Nat} {q : Program} {loose : List Str} {XP : (Str → Option Value) → Heap → Prop} {YP : World → Heap → Prop} {d : DefRec} {K : Params → PySem.W.Frag} {CX : World → L2.CXT} {x : Str}
    (hn : l.most = some n) (hn2 : n ≤ sizeLine) (hdf : d.params.defaults = []) (hr : L2.Room k callerA) (hY : ∀ (w : World) (h : Heap), YP w h → (K w.params).In h)
    (F : ∀ (w : World) (mg : Str → Option Value) (fa : Addr) (h : Heap), YP w h → (K w.params).In h → h.Ns mainGlobals mg → mg d.name = some (.ref fa) →
      (∀ (nm : Str) (f : Addr), ((recsOf q).any fun e => e.name == nm) = true → mg nm = some (.ref f) → LamX.OwnTab (K w.params) f h) → LawG l w (K w.params) (CX w) k n x mg fa h)
    (hCX : ∀ (w : World) (H : Hp) (s : Shared) (e : Value) (s' : Shared), CX w [] H s (fun _ _ _ => False) e s' → False) :
    PySem.W.WalkO q loose XP YP l.row.toRowW d [] (fun f vs => PySem.call f vs) := by
  refine Att.attach_callB hn hdf fun w s₀ s₁ mg mb fa o pm cd doc a vs ns G Y ho hd hcd hmg hobj hints hlen hbits hg => ?_
  have KX := hY w _ Y
  have own : ∀ (nm : Str) (f : Addr), ((recsOf q).any fun e => e.name == nm) = true → mg nm = some (.ref f) → LamX.OwnTab (K w.params) f s₁.heap := fun nm f hrec hmg2 c P o1 fd1 e dd vs1 sl k1 k2 k3 k4 k5 => by
    obtain ⟨dL, hm, hn1⟩ := List.any_eq_true.mp hrec
    have hn2 : dL.name = nm := beq_iff_eq.mp hn1
    obtain ⟨a', o', fd', c', P', h1, h2, h3, h4, h5, h6⟩ := G.T.tab dL hm
    rw [hn2, hmg2] at h1
    cases h1
    have g1 := KX _ _ k1
    rw [g1] at h2
    cases h2
    rw [k2] at h3
    cases h3
    rw [k3] at h4
    cases h4
    obtain ⟨⟨oc, vc, e1, _, e3, e4⟩, hP⟩ := h6
    have g2 := KX _ _ k4
    rw [g2] at e1
    cases e1
    cases e3
    rw [k5] at e4
    cases e4
    exact hP
  obtain ⟨fd, cs, sp, hT, nT, C, hb, hsp, hF⟩ := F w mg fa _ Y KX G.T.g hmg own
  exact law_callG KX G.T.g G.T.b G.T.builtins G.T.nolimit hg hT nT C G.T.bmain hobj hints (Nat.le_trans hlen hn2) hr hF hb (fun H hH hS => hsp H a ns hlen hbits hH hS) fun H e s' => hCX w H s₁ e s'
theorem mem_look {β : Type} : ∀ {l : List (String × β)} {x : String} {b : β}, l.lookup x = some b → (x, b) ∈ l
  | [], _, _, h => by cases h
  | (y, c) :: r, x, b, h => by
    rw [List.lookup_cons] at h
    split at h
    · rename_i e
      have e : x = y := by simpa using e
      cases h
      rw [e]
      exact List.mem_cons_self
    · exact List.mem_cons_of_mem _ (mem_look h)
theorem codeHd_at {K : Frag} {c P : Addr} {o : Obj} (e : K.lookup c = some o) (h : PySem.W.codeHdIn [(c, o)] c P = true) : PySem.W.codeHdIn K c P = true := by
  unfold PySem.W.codeHdIn at h ⊢
  rw [e]
  simpa [List.lookup] using h
/-- a def's code object and its table, as the written part tells them -/
structure TabK (K : Frag) (f : Addr) (fd : FuncData) (c0 P : Addr) : Prop where
  look : ∃ (oc : Value) (od : Option Addr) (sl : Array (Option Value)), K.lookup f = some ⟨oc, od, .func fd, sl⟩
  code : fd.code = .ref c0
  co : ∃ (e : Value) (dd : Option Addr) (vs : Array Value) (sl : Array (Option Value)), K.lookup c0 = some ⟨e, dd, .fields vs, sl⟩ ∧ vs[11]? = some (.ref P)
  hd : PySem.W.codeHdIn K c0 P = true
  out : K.lookup P = none
theorem TabK.empty {K : Frag} {f : Addr} {fd : FuncData} {c0 P : Addr} {h : Heap} (t : TabK K f fd c0 P) (o : LamX.OwnTab K f h) : h.get? P = some { cls := .none, data := .fields #[] } := by
  obtain ⟨oc, od, sl, e1⟩ := t.look
  obtain ⟨e, dd, vs, sl2, e2, e3⟩ := t.co
  exact o c0 P _ fd e dd vs sl2 e1 rfl t.code e2 e3
end Mn

/-! Mx: the pure side: what an evaluation comes to. -/
namespace Mn
open PySem
/-- not by the simplifier's own looking -/
theorem nr {α : Sort _} {a b : α} (h : a = b) : a = b := h

/-! ### evaluations that come to something -/
def Sat {α : Type} (r : R α) (Q : α → Store → Prop) : Prop := ∃ a S, r = .ok a S ∧ Q a S
section
variable {α β : Type}
theorem Sat.ok {a : α} {S : Store} {Q : α → Store → Prop} (h : Q a S) : Sat (.ok a S) Q := ⟨a, S, rfl, h⟩
theorem Sat.bind {r : R α} {f : α → Store → R β} {P : α → Store → Prop} {Q : β → Store → Prop} (h : Sat r P) (g : ∀ a S, P a S → Sat (f a S) Q) : Sat (r.bind f) Q := by
  obtain ⟨a, S, rfl, p⟩ := h
  exact g a S p
theorem Sat.imp {r : R α} {P Q : α → Store → Prop} (h : Sat r P) (g : ∀ a S, P a S → Q a S) : Sat r Q := by
  obtain ⟨a, S, e, p⟩ := h
  exact ⟨a, S, e, g a S p⟩
theorem Sat.nox {r : R α} {P : α → Store → Prop} (h : Sat r P) : Sat r.nox P := by
  obtain ⟨a, S, rfl, p⟩ := h
  exact ⟨a, S, rfl, p⟩
theorem Sat.eq {r : R α} {a : α} {S : Store} (h : Sat r fun b T => b = a ∧ T = S) : r = .ok a S := by
  obtain ⟨b, T, e, rfl, rfl⟩ := h
  exact e
theorem R.bind_ok {a : α} {S : Store} {f : α → Store → R β} : (R.ok a S).bind f = f a S := nr rfl
theorem ofO_some {a : α} {S : Store} : R.ofO (some a) S = .ok a S := nr rfl
theorem nox_ok {a : α} {S : Store} : (R.ok a S).nox = .ok a S := nr rfl
end

/-! ### comparing -/
mutual
def gd : D → Nat → Bool
  | .non, _ => true
  | .int _, _ => true
  | .str x, _ => PyData.strOk x
  | .tup l, k => match k with
    | 0 => false
    | k + 1 => gds l k
  | .lst l, k => match k with
    | 0 => false
    | k + 1 => gds l k
  | _, _ => false
def gds : List D → Nat → Bool
  | [], _ => true
  | d :: r, k => gd d k && gds r k
end
mutual
theorem gd_py : ∀ (d : D) (k : Nat), gd d k = true → ∃ p, pyG d = some p ∧ p.canLay0 = true ∧ p.depth ≤ k
  | .non, k, _ => ⟨.none, by simp [pyG], by simp [PyData.canLay0], by simp [PyData.depth]⟩
  | .bl _, k, h => by simp [gd] at h
  | .int i, k, _ => ⟨.int i, by simp [pyG], by simp [PyData.canLay0], by simp [PyData.depth]⟩
  | .str x, k, h => ⟨.str x, by simp [pyG], by simpa [PyData.canLay0, gd] using h, by simp [PyData.depth]⟩
  | .tup l, 0, h => by simp [gd] at h
  | .tup l, k + 1, h => by
    obtain ⟨ps, h1, h2, h3⟩ := gds_py l k (by simpa [gd] using h)
    exact ⟨.tuple ps, by simp [pyG, h1], by simpa [PyData.canLay0] using h2, by simp [PyData.depth]; exact h3⟩
  | .lst l, 0, h => by simp [gd] at h
  | .lst l, k + 1, h => by
    obtain ⟨ps, h1, h2, h3⟩ := gds_py l k (by simpa [gd] using h)
    exact ⟨.list ps, by simp [pyG, h1], by simpa [PyData.canLay0] using h2, by simp [PyData.depth]; exact h3⟩
  | .ref _, k, h => by simp [gd] at h
  | .fn _, k, h => by simp [gd] at h
  | .cls _, k, h => by simp [gd] at h
  | .ty _, k, h => by simp [gd] at h
  | .exn _ _, k, h => by simp [gd] at h
theorem gds_py : ∀ (l : List D) (k : Nat), gds l k = true → ∃ ps, pyGs l = some ps ∧ PyData.canLayAll0 ps = true ∧ PyData.depthAll ps ≤ k
  | [], k, _ => ⟨[], by simp [pyGs], by simp [PyData.canLayAll0], by simp [PyData.depthAll]⟩
  | d :: r, k, h => by
    simp only [gds, Bool.and_eq_true] at h
    obtain ⟨p, h1, h2, h3⟩ := gd_py d k h.1
    obtain ⟨ps, g1, g2, g3⟩ := gds_py r k h.2
    exact ⟨p :: ps, by simp [pyGs, h1, g1], by simp [PyData.canLayAll0, h2, g2], by
      simp only [PyData.depthAll]
      exact Nat.max_le.mpr ⟨h3, g3⟩⟩
end
mutual
theorem gd_eqv : ∀ (d e : D) (k j : Nat), gd d k = true → gd e j = true → ∀ p q, pyG d = some p → pyG e = some q → (PyData.eqv p q = true ↔ d = e)
  | .non, e, k, j, _, h, p, q, hp, hq => by
    simp only [pyG, Option.some.injEq] at hp
    subst hp
    cases e <;> simp_all [gd, pyG] <;> (try subst hp) <;> (try subst hq) <;> (try (obtain ⟨_, _, rfl⟩ := hq)) <;> (try subst q) <;> (try simp [PyData.eqv])
  | .bl _, e, k, j, h, _, p, q, hp, hq => by simp [gd] at h
  | .int i, e, k, j, _, h, p, q, hp, hq => by
    cases e <;> simp_all [gd, pyG] <;> (try subst hp) <;> (try subst hq) <;> (try (obtain ⟨_, _, rfl⟩ := hq)) <;> (try simp [PyData.eqv])
  | .str x, e, k, j, _, h, p, q, hp, hq => by
    cases e <;> simp_all [gd, pyG] <;> (try subst hp) <;> (try subst hq) <;> (try (obtain ⟨_, _, rfl⟩ := hq)) <;> (try simp [PyData.eqv])
  | .tup l, e, 0, j, h, _, p, q, hp, hq => by simp [gd] at h
  | .tup l, e, k + 1, j, h, h', p, q, hp, hq => by
    cases e with
    | tup m =>
      cases j with
      | zero => simp [gd] at h'
      | succ j =>
        simp only [gd] at h h'
        simp only [pyG, Option.map_eq_some_iff] at hp hq
        obtain ⟨ps, hp, rfl⟩ := hp
        obtain ⟨qs, hq, rfl⟩ := hq
        simp only [PyData.eqv, D.tup.injEq]
        exact gds_eqv l m k j h h' ps qs hp hq
    | _ => simp_all [gd, pyG] <;> (try subst hq) <;> (try (obtain ⟨_, _, rfl⟩ := hq)) <;> (try (obtain ⟨_, _, rfl⟩ := hp)) <;> simp [PyData.eqv]
  | .lst l, e, 0, j, h, _, p, q, hp, hq => by simp [gd] at h
  | .lst l, e, k + 1, j, h, h', p, q, hp, hq => by
    cases e with
    | lst m =>
      cases j with
      | zero => simp [gd] at h'
      | succ j =>
        simp only [gd] at h h'
        simp only [pyG, Option.map_eq_some_iff] at hp hq
        obtain ⟨ps, hp, rfl⟩ := hp
        obtain ⟨qs, hq, rfl⟩ := hq
        simp only [PyData.eqv, D.lst.injEq]
        exact gds_eqv l m k j h h' ps qs hp hq
    | _ => simp_all [gd, pyG] <;> (try subst hq) <;> (try (obtain ⟨_, _, rfl⟩ := hq)) <;> (try (obtain ⟨_, _, rfl⟩ := hp)) <;> simp [PyData.eqv]
  | .ref _, e, k, j, h, _, p, q, hp, hq => by simp [gd] at h
  | .fn _, e, k, j, h, _, p, q, hp, hq => by simp [gd] at h
  | .cls _, e, k, j, h, _, p, q, hp, hq => by simp [gd] at h
  | .ty _, e, k, j, h, _, p, q, hp, hq => by simp [gd] at h
  | .exn _ _, e, k, j, h, _, p, q, hp, hq => by simp [gd] at h
theorem gds_eqv : ∀ (d e : List D) (k j : Nat), gds d k = true → gds e j = true → ∀ p q, pyGs d = some p → pyGs e = some q → (PyData.eqvAll p q = true ↔ d = e)
  | [], [], k, j, _, _, p, q, hp, hq => by
    simp [pyGs] at hp hq
    subst hp hq
    simp [PyData.eqvAll]
  | [], e :: es, k, j, _, h, p, q, hp, hq => by
    simp only [gds, Bool.and_eq_true] at h
    obtain ⟨b, h1, _⟩ := gd_py e j h.1
    obtain ⟨bs, g1, _⟩ := gds_py es j h.2
    simp [pyGs, h1, g1] at hp hq
    subst hp hq
    simp [PyData.eqvAll]
  | e :: es, [], k, j, h, _, p, q, hp, hq => by
    simp only [gds, Bool.and_eq_true] at h
    obtain ⟨b, h1, _⟩ := gd_py e k h.1
    obtain ⟨bs, g1, _⟩ := gds_py es k h.2
    simp [pyGs, h1, g1] at hp hq
    subst hp hq
    simp [PyData.eqvAll]
  | d :: ds, e :: es, k, j, h, h', p, q, hp, hq => by
    simp only [gds, Bool.and_eq_true] at h h'
    obtain ⟨b, h1, _⟩ := gd_py e j h'.1
    obtain ⟨bs, g1, _⟩ := gds_py es j h'.2
    obtain ⟨a, h2, _⟩ := gd_py d k h.1
    obtain ⟨as, g2, _⟩ := gds_py ds k h.2
    simp [pyGs, h1, g1, h2, g2] at hp hq
    subst hp hq
    simp only [PyData.eqvAll, Bool.and_eq_true, List.cons.injEq, gd_eqv d e k j h.1 h'.1 a b h2 h1, gds_eqv ds es k j h.2 h'.2 as bs g2 g1]
end
noncomputable instance decD : DecidableEq D := fun _ _ => Classical.propDecidable _
theorem py_gd {S : Store} {d : D} {k : Nat} (h : gd d k = true) : py S d = pyG d := by
  cases d <;> first | rfl | simp [gd] at h
theorem eqA_gd {S : Store} {d e : D} (hd : gd d 64 = true) (he : gd e 64 = true) : eqA S d e = some (decide (d = e)) := by
  obtain ⟨p, h1, h2, h3⟩ := gd_py d 64 hd
  obtain ⟨q, g1, g2, g3⟩ := gd_py e 64 he
  have sp : SeqAt.shaped p = true := by simp [SeqAt.shaped, h2, h3]
  have sq : SeqAt.shaped q = true := by simp [SeqAt.shaped, g2, g3]
  have r := gd_eqv d e 64 64 hd he p q h1 g1
  unfold eqA
  rw [py_gd hd, py_gd he, h1, g1]
  simp only [Option.bind_some, sp, sq, and_self, if_true, Option.some.injEq]
  by_cases x : d = e
  · rw [decide_eq_true x, r.mpr x]
  · rw [decide_eq_false x]
    cases y : p.eqv q with
    | true => exact absurd (r.mp y) x
    | false => rfl
theorem eqA_bl {S : Store} (a b : Bool) : eqA S (.bl a) (.bl b) = some (a == b) := by
  cases a <;> cases b <;> rfl
mutual
theorem gd_mono : ∀ (d : D) (k j : Nat), gd d k = true → k ≤ j → gd d j = true
  | .non, k, j, h, _ => by simp [gd]
  | .bl _, k, j, h, _ => by simp [gd] at h
  | .int _, k, j, h, _ => by simp [gd]
  | .str _, k, j, h, _ => by simpa [gd] using h
  | .tup l, 0, j, h, _ => by simp [gd] at h
  | .tup l, k + 1, 0, h, hj => by omega
  | .tup l, k + 1, j + 1, h, hj => by
    simp only [gd] at h ⊢
    exact gds_mono l k j h (by omega)
  | .lst l, 0, j, h, _ => by simp [gd] at h
  | .lst l, k + 1, 0, h, hj => by omega
  | .lst l, k + 1, j + 1, h, hj => by
    simp only [gd] at h ⊢
    exact gds_mono l k j h (by omega)
  | .ref _, k, j, h, _ => by simp [gd] at h
  | .fn _, k, j, h, _ => by simp [gd] at h
  | .cls _, k, j, h, _ => by simp [gd] at h
  | .ty _, k, j, h, _ => by simp [gd] at h
  | .exn _ _, k, j, h, _ => by simp [gd] at h
theorem gds_mono : ∀ (d : List D) (k j : Nat), gds d k = true → k ≤ j → gds d j = true
  | [], k, j, _, _ => by simp [gds]
  | d :: r, k, j, h, hj => by
    simp only [gds, Bool.and_eq_true] at h ⊢
    exact ⟨gd_mono d k j h.1 hj, gds_mono r k j h.2 hj⟩
end
theorem gds_of {l : List D} {k : Nat} (h : ∀ d ∈ l, gd d k = true) : gds l k = true := by
  induction l with
  | nil => simp [gds]
  | cons d r ih =>
    simp only [gds, Bool.and_eq_true]
    exact ⟨h d (by simp), ih fun x hx => h x (by simp [hx])⟩
theorem gds_mem {l : List D} {k : Nat} (h : gds l k = true) : ∀ d ∈ l, gd d k = true := by
  induction l with
  | nil => simp
  | cons d r ih =>
    simp only [gds, Bool.and_eq_true] at h
    intro x hx
    rcases List.mem_cons.mp hx with rfl | hx
    · exact h.1
    · exact ih h.2 x hx
mutual
/-- what may be compared holds no refs -/
theorem gd_below : ∀ (d : D) (k n : Nat), gd d k = true → below n d = true
  | .non, k, n, h => by simp [below]
  | .bl _, k, n, h => by simp [below]
  | .int _, k, n, h => by simp [below]
  | .str _, k, n, h => by simp [below]
  | .tup l, 0, n, h => by simp [gd] at h
  | .tup l, k + 1, n, h => by
    simp only [gd, below] at h ⊢
    exact gds_below l k n h
  | .lst l, 0, n, h => by simp [gd] at h
  | .lst l, k + 1, n, h => by
    simp only [gd, below] at h ⊢
    exact gds_below l k n h
  | .ref _, k, n, h => by simp [gd] at h
  | .fn _, k, n, h => by simp [gd] at h
  | .cls _, k, n, h => by simp [gd] at h
  | .ty _, k, n, h => by simp [gd] at h
  | .exn _ _, k, n, h => by simp [gd] at h
theorem gds_below : ∀ (d : List D) (k n : Nat), gds d k = true → belows n d = true
  | [], k, n, _ => by simp [belows]
  | d :: r, k, n, h => by
    simp only [gds, belows, Bool.and_eq_true] at h ⊢
    exact ⟨gd_below d k n h.1, gds_below r k n h.2⟩
end

/-! ### leaving a def -/
theorem oldOk_refl (S : Store) : oldOk S S := ⟨Nat.le_refl _, fun i h => .inl rfl⟩
theorem oldOk_set {S : Store} {a : Nat} {o : O} (h : belowO S.length o = true) : oldOk S (S.set a o) := by
  refine ⟨by simp, fun i hi => ?_⟩
  by_cases e : a = i
  · subst e
    exact .inr ⟨o, by simp [hi], h⟩
  · exact .inl (by simp [List.getElem?_set_ne e])
theorem outD_below {S : Store} {n : Nat} {d : D} (h : below n d = true) : outD S n d = some d := by
  unfold outD
  rw [if_pos h]
/-- a def that hands back data and keeps the store as long as it was -/
theorem leave_rt {S S' : Store} {d : D} (h : oldOk S S') (hl : S'.length = S.length) (hd : below S.length d = true) : leave .pure S (.ok (.rt d) S') = .ok d S' := by
  show fin .pure S d S' = _
  unfold fin
  rw [if_pos h, outD_below hd]
  show R.ok d (S'.take S.length) = _
  rw [← hl, List.take_length]
theorem leave_same {S : Store} {d : D} (hd : below S.length d = true) : leave .pure S (.ok (.rt d) S) = .ok d S := leave_rt (oldOk_refl S) rfl hd
theorem leave_new {S : Store} {l : List D} (h : belows S.length l = true) : leave .new S (.ok (.rt (.ref S.length)) (S ++ [.lst l])) = .ok (.ref S.length) (S ++ [.lst l]) := by
  show fin .new S (.ref S.length) (S ++ [.lst l]) = _
  unfold fin
  have o : oldOk S (S ++ [.lst l]) := ⟨by simp, fun i hi => .inl (by simp [List.getElem?_append_left hi])⟩
  simp [h, o]
theorem Sat.leave {S : Store} {r : R F} {Q : D → Store → Prop} (h : Sat r fun f S' => ∃ d, f = .rt d ∧ oldOk S S' ∧ S'.length = S.length ∧ below S.length d = true ∧ Q d S') : Sat (leave .pure S r) Q := by
  obtain ⟨f, S', rfl, d, rfl, h1, h2, h3, h4⟩ := h
  rw [leave_rt h1 h2 h3]
  exact ⟨d, S', rfl, h4⟩

/-! ### single steps -/
section
variable {v : Bool} {S : Store} {i j : Int}
theorem add_i : binA v .Add (.int i) (.int j) S = .ok (.int (i + j)) S := nr rfl
theorem sub_i : binA v .Sub (.int i) (.int j) S = .ok (.int (i - j)) S := nr rfl
theorem mul_r (h : -(2 ^ 64) < j ∧ j < 2 ^ 64) : binA v .Mult (.int i) (.int j) S = .ok (.int (i * j)) S := by
  show (if (-(2 ^ 64) < i ∧ i < 2 ^ 64) ∨ (-(2 ^ 64) < j ∧ j < 2 ^ 64) then R.ok (D.int (i * j)) S else .bad) = _
  rw [if_pos (.inr h)]
theorem mul_l (h : -(2 ^ 64) < i ∧ i < 2 ^ 64) : binA v .Mult (.int i) (.int j) S = .ok (.int (i * j)) S := by
  show (if (-(2 ^ 64) < i ∧ i < 2 ^ 64) ∨ (-(2 ^ 64) < j ∧ j < 2 ^ 64) then R.ok (D.int (i * j)) S else .bad) = _
  rw [if_pos (.inl h)]
theorem mod_i (h : 0 < j) : binA v .Mod (.int i) (.int j) S = .ok (.int (i % j)) S := by
  show R.ofO ((ariA .Mod i j).map D.int) S = _
  simp [ariA, h, R.ofO]
theorem div_i (h : 0 < j ∧ j < 1073741824) : binA v .FloorDiv (.int i) (.int j) S = .ok (.int (i / j)) S := by
  show R.ofO ((ariA .FloorDiv i j).map D.int) S = _
  simp [ariA, h, R.ofO]
theorem pow_i (h : 0 ≤ j ∧ j ≤ 1000000) (h2 : -(2 ^ 64) < i ∧ i < 2 ^ 64) : binA v .Pow (.int i) (.int j) S = .ok (.int (i ^ j.toNat)) S := by
  have : i.natAbs < 2 ^ 64 := by omega
  show R.ofO ((if 0 ≤ j ∧ j ≤ 1000000 ∧ i.natAbs < 2 ^ 64 then some (i ^ j.toNat) else none).map D.int) S = _
  rw [if_pos ⟨h.1, h.2, this⟩]
  rfl
theorem ls_i : cmpA .Lt (.int i) (.int j) S = some (decide (i < j)) := nr rfl
theorem le_i : cmpA .LtE (.int i) (.int j) S = some (decide (i ≤ j)) := nr rfl
theorem gt_i : cmpA .Gt (.int i) (.int j) S = some (decide (j < i)) := nr rfl
theorem ge_i : cmpA .GtE (.int i) (.int j) S = some (decide (j ≤ i)) := nr rfl
theorem eq_i : cmpA .Eq (.int i) (.int j) S = some (decide (i = j)) := by
  show eqA S (.int i) (.int j) = _
  rw [eqA_gd (by simp [gd]) (by simp [gd])]
  simp
theorem eq_g {d e : D} (hd : gd d 64 = true) (he : gd e 64 = true) : cmpA .Eq d e S = some (decide (d = e)) := eqA_gd hd he
theorem ne_g {d e : D} (hd : gd d 64 = true) (he : gd e 64 = true) : cmpA .NotEq d e S = some (!decide (d = e)) := by
  show (eqA S d e).map _ = _
  rw [eqA_gd hd he]
  rfl
theorem ne_b {a b : Bool} : cmpA .NotEq (.bl a) (.bl b) S = some (!(a == b)) := by
  show (eqA S (.bl a) (.bl b)).map (!·) = _
  rw [eqA_bl]
  rfl
theorem tr_b {b : Bool} : truthA S (.bl b) = some b := nr rfl
theorem tr_i : truthA S (.int i) = some (i != 0) := nr rfl
theorem atI_nat {α : Type} {l : List α} {n : Nat} : L2.atI l (n : Int) = l[n]? := by
  unfold L2.atI L2.ixN
  rw [if_pos (by omega)]
  by_cases h : (n : Int) < l.length
  · rw [if_pos h]
    simp
  · rw [if_neg h]
    simp; omega
theorem atI_pos {α : Type} {l : List α} (h : 0 ≤ i) : L2.atI l i = l[i.toNat]? := by
  obtain ⟨n, rfl⟩ := Int.eq_ofNat_of_zero_le h
  rw [atI_nat]; rfl
theorem atI_neg {α : Type} {l : List α} {k : Nat} (h : k < l.length) : L2.atI l (-1 - (k : Int)) = l[l.length - 1 - k]? := by
  unfold L2.atI L2.ixN
  rw [if_neg (by omega), if_pos (by omega)]
  show l[(-1 - (k : Int) + l.length).toNat]? = _
  congr 1
  omega
theorem sub_t {l : List D} : subA S (.tup l) (.int i) = L2.atI l i := nr rfl
theorem sub_l {l : List D} : subA S (.lst l) (.int i) = L2.atI l i := nr rfl
theorem sub_r {n : Nat} {l : List D} (h : S[n]? = some (.lst l)) : subA S (.ref n) (.int i) = L2.atI l i := by
  show (seqA S (.ref n)).bind _ = _
  unfold seqA seqL
  simp [h]
theorem cut_to {l : List D} {k : Nat} : cutA l none (some (k : Int)) = l.take k := by
  unfold cutA
  rw [HT.sIx_nat, HT.sIx_none]
  simp
theorem cut_from {l : List D} {k : Nat} : cutA l (some (k : Int)) none = l.drop k := by
  unfold cutA
  rw [HT.sIx_nat, HT.sIx_none]
  by_cases h : k ≤ l.length
  · rw [Nat.min_eq_left h, List.take_of_length_le (by simp)]
  · rw [Nat.min_eq_right (by omega), List.drop_of_length_le (by omega : l.length ≤ k)]
    simp
theorem cut_mid {l : List D} {k m : Nat} : cutA l (some (k : Int)) (some ((k + m : Nat) : Int)) = (l.drop k).take m := by
  unfold cutA
  rw [HT.sIx_nat, HT.sIx_nat]
  by_cases h : k ≤ l.length
  · rw [Nat.min_eq_left h]
    by_cases h2 : k + m ≤ l.length
    · rw [Nat.min_eq_left h2]; congr 1; omega
    · rw [Nat.min_eq_right (by omega), List.take_of_length_le (by simp), List.take_of_length_le (by simp; omega)]
  · rw [Nat.min_eq_right (by omega : l.length ≤ k), List.drop_of_length_le (by omega : l.length ≤ k)]
    simp
theorem mkL_v {l : List D} (h : l.length ≤ sizeLine) : mkL true l S = .ok (.lst l) S := by
  unfold mkL
  rw [if_pos h]; rfl
theorem mkL_r {l : List D} (h : l.length ≤ sizeLine) : mkL false l S = .ok (.ref S.length) (S ++ [.lst l]) := by
  unfold mkL
  rw [if_pos h]; rfl
theorem mkT_v {l : List D} (h : l.length ≤ sizeLine) : mkT l S = .ok (.tup l) S := by
  unfold mkT
  rw [if_pos h]
theorem slc_t {l : List D} {a b : Option Int} : slcA v (.tup l) a b S = .ok (.tup (cutA l a b)) S := nr rfl
theorem slc_l {l : List D} {a b : Option Int} : slcA v (.lst l) a b S = mkL v (cutA l a b) S := nr rfl
theorem add_t {a b : List D} (h : a.length + b.length ≤ sizeLine) : binA v .Add (.tup a) (.tup b) S = .ok (.tup (a ++ b)) S := by
  show (if _ then _ else _) = _
  rw [if_pos h]
theorem add_l {a b : List D} : binA v .Add (.lst a) (.lst b) S = mkL v (a ++ b) S := nr rfl
theorem len_t {l : List D} : bltA v "len" [.tup l] S = .ok (.int l.length) S := nr rfl
theorem len_l {l : List D} : bltA v "len" [.lst l] S = .ok (.int l.length) S := nr rfl
theorem list_t {l : List D} : bltA v "list" [.tup l] S = mkL v l S := nr rfl
theorem list_l {l : List D} : bltA v "list" [.lst l] S = mkL v l S := nr rfl
theorem tuple_l {l : List D} : bltA v "tuple" [.lst l] S = mkT l S := nr rfl
theorem tuple_r {n : Nat} {l : List D} (h : S[n]? = some (.lst l)) : bltA v "tuple" [.ref n] S = mkT l S := by
  show (match seqL S (.ref n) with | some l => mkT l S | none => R.bad) = _
  unfold seqL
  simp [h]
theorem max_i : bltA v "max" [.int i, .int j] S = .ok (.int (if j > i then j else i)) S := nr rfl
theorem set_r {n k : Nat} {l : List D} {d : D} (h : S[n]? = some (.lst l)) (hk : k < l.length) : setA (.ref n) (.int (k : Int)) d S = .ok () (S.set n (.lst (l.set k d))) := by
  show (match S[n]? with | some (.lst l) => (match L2.ixN l.length (k : Int) with | some j => R.ok () (S.set n (.lst (l.set j d))) | none => .bad) | _ => .bad) = _
  rw [h]
  have : L2.ixN l.length (k : Int) = some k := by
    unfold L2.ixN
    rw [if_pos (by omega), if_pos (by omega)]
    simp
  simp only [this]
end

/-! ### loops -/
def nxQ (I : Env → Store → Prop) (Q : F → Store → Prop) (f : F) (S : Store) : Prop := match f with
  | .nx e => I e S
  | .ct e => I e S
  | .bk e => Q (.nx e) S
  | .rt d => Q (.rt d) S
theorem gdOk_nil {S : Store} : gdOk S [] := True.intro
theorem gdOf_tup {S : Store} {l : List D} : gdOf S (.tup l) = [] := nr rfl
theorem gdOf_lst {S : Store} {l : List D} : gdOf S (.lst l) = [] := nr rfl
theorem for_sat {tg : Tg} {b : Env → Store → R F} {l : List D} {Q : F → Store → Prop} (I : Nat → Env → Store → Prop)
    (step : ∀ i d e S, l[i]? = some d → I i e S → ∃ e1, asg tg d e = some e1 ∧ Sat (b e1 S) (nxQ (I (i + 1)) Q)) (hend : ∀ e S, I l.length e S → Q (.nx e) S) :
    ∀ {e S}, I 0 e S → Sat (forA [] tg b l e S) Q := by
  suffices h : ∀ (r : List D) (i : Nat) (e : Env) (S : Store), l = l.take i ++ r → i ≤ l.length → I i e S → Sat (forA [] tg b r e S) Q from fun {e S} z => h l 0 e S (by simp) (by omega) z
  intro r
  induction r with
  | nil =>
    intro i e S hl hi z
    have : i = l.length := by
      have := congrArg List.length hl
      simp at this
      omega
    subst this
    unfold forA
    rw [if_pos gdOk_nil]
    exact .ok (hend e S z)
  | cons d r ih =>
    intro i e S hl hi z
    have hi2 : (l.take i).length = i := by simp; omega
    have hd : l[i]? = some d := by
      rw [hl, List.getElem?_append_right (by omega), hi2]
      simp
    have hlt : i < l.length := (List.getElem?_eq_some_iff.mp hd).1
    have hn : l = l.take (i + 1) ++ r := by
      rw [List.take_succ, hd]
      simpa using hl
    obtain ⟨e1, h1, h2⟩ := step i d e S hd z
    unfold forA
    rw [if_pos gdOk_nil, h1]
    refine h2.bind fun f S1 hf => ?_
    cases f with
    | nx e2 => exact ih (i + 1) e2 S1 hn hlt hf
    | ct e2 => exact ih (i + 1) e2 S1 hn hlt hf
    | bk e2 => exact .ok hf
    | rt d => exact .ok hf
theorem comp_sat {tg : Tg} {c : Env → Store → R Bool} {t : Env → Store → R D} {e0 : Env} {l : List D} (I : Nat → List D → Store → Prop)
    (step : ∀ i d acc S, l[i]? = some d → I i acc S → ∃ e1, asg tg d e0 = some e1 ∧ Sat (c e1 S) fun ok S1 => if ok = true then acc.length < sizeLine ∧ Sat (t e1 S1) fun y S2 => I (i + 1) (acc ++ [y]) S2 else I (i + 1) acc S1) :
    ∀ {acc S}, I 0 acc S → Sat (compA [] tg c t e0 l acc S) (I l.length) := by
  suffices h : ∀ (r : List D) (i : Nat) (acc : List D) (S : Store), l = l.take i ++ r → i ≤ l.length → I i acc S → Sat (compA [] tg c t e0 r acc S) (I l.length) from fun {acc S} z => h l 0 acc S (by simp) (by omega) z
  intro r
  induction r with
  | nil =>
    intro i e S hl hi z
    have : i = l.length := by
      have := congrArg List.length hl
      simp at this
      omega
    subst this
    unfold compA
    rw [if_pos gdOk_nil]
    exact .ok z
  | cons d r ih =>
    intro i acc S hl hi z
    have hi2 : (l.take i).length = i := by simp; omega
    have hd : l[i]? = some d := by
      rw [hl, List.getElem?_append_right (by omega), hi2]
      simp
    have hlt : i < l.length := (List.getElem?_eq_some_iff.mp hd).1
    have hn : l = l.take (i + 1) ++ r := by
      rw [List.take_succ, hd]
      simpa using hl
    obtain ⟨e1, h1, h2⟩ := step i d acc S hd z
    unfold compA
    rw [if_pos gdOk_nil, h1]
    refine h2.nox.bind fun ok S1 hf => ?_
    by_cases ho : ok = true
    · rw [if_pos ho] at hf ⊢
      refine hf.2.nox.bind fun y S2 hy => ?_
      rw [if_pos hf.1]
      exact ih (i + 1) _ S2 hn hlt hy
    · rw [if_neg ho] at hf ⊢
      exact ih (i + 1) _ S1 hn hlt hf
/-- a comprehension that keeps the store -/
theorem comp_keep {g : Gd} {tg : Tg} {c : Env → Store → R Bool} {t : Env → Store → R D} {e0 : Env} {S : Store} (p : D → Bool) (y : D → D) (hg : gdOk S g) : ∀ (l : List D) (acc : List D), acc.length + l.length < sizeLine →
    (∀ d ∈ l, ∃ e1, asg tg d e0 = some e1 ∧ c e1 S = .ok (p d) S ∧ (p d = true → t e1 S = .ok (y d) S)) → compA g tg c t e0 l acc S = .ok (acc ++ (l.filter p).map y) S
  | [], acc, _, _ => by
    unfold compA
    rw [if_pos hg]
    simp
  | d :: r, acc, hl, h => by
    obtain ⟨e1, h1, h2, h3⟩ := h d List.mem_cons_self
    have ih := fun acc' h' => comp_keep (g := g) (tg := tg) (c := c) (t := t) (e0 := e0) p y hg r acc' h' fun x hx => h x (List.mem_cons_of_mem _ hx)
    simp only [List.length_cons] at hl
    unfold compA
    rw [if_pos hg, h1]
    dsimp only
    rw [h2, nox_ok, R.bind_ok]
    cases hp : p d with
    | true =>
      rw [if_pos rfl, h3 hp, nox_ok, R.bind_ok, if_pos (by omega), ih _ (by rw [List.length_append]; simp; omega)]
      simp [hp]
    | false =>
      rw [if_neg (by simp), ih _ (by omega)]
      simp [hp]
theorem gen_sat {q : Bool} {tg : Tg} {t : Env → Store → R D} {e0 : Env} {S : Store} (p : D → Bool) : ∀ {l : List D},
    (∀ d ∈ l, ∃ e1, asg tg d e0 = some e1 ∧ t e1 S = .ok (.bl (p d)) S) → genA [] q tg t e0 l S = .ok (if q = true then l.all p else l.any p) S
  | [], _ => by
    unfold genA
    rw [if_pos gdOk_nil]
    cases q <;> rfl
  | d :: r, h => by
    obtain ⟨e1, h1, h2⟩ := h d List.mem_cons_self
    have ih := gen_sat (q := q) (tg := tg) (t := t) (e0 := e0) (S := S) p (l := r) fun x hx => h x (List.mem_cons_of_mem _ hx)
    unfold genA
    rw [if_pos gdOk_nil, h1]
    dsimp only
    rw [h2, nox_ok, R.bind_ok]
    dsimp only
    cases hp : p d <;> cases q <;> simp [ih, hp]
theorem while_sat {c : Env → Store → R Bool} {b : Env → Store → R F} {Q : F → Store → Prop} (I : Nat → Env → Store → Prop)
    (step : ∀ m e S, I m e S → Sat (c e S) fun t S1 => if t = true then Sat (b e S1) (nxQ (fun e2 S2 => ∃ j, j < m ∧ I j e2 S2) Q) else Q (.nx e) S1) :
    ∀ n m e S, m < n → I m e S → Sat (whileA n c b e S) Q := by
  intro n
  induction n with
  | zero => intro m e S h; omega
  | succ n ih =>
    intro m e S hm z
    unfold whileA
    refine (step m e S z).bind fun t S1 ht => ?_
    by_cases h : t = true
    · rw [if_pos h] at ht ⊢
      refine ht.bind fun f S2 hf => ?_
      cases f with
      | nx e2 =>
        obtain ⟨j, hj, z⟩ := hf
        exact ih j e2 S2 (by omega) z
      | ct e2 =>
        obtain ⟨j, hj, z⟩ := hf
        exact ih j e2 S2 (by omega) z
      | bk e2 => exact .ok hf
      | rt d => exact .ok hf
    · rw [if_neg h] at ht ⊢
      exact .ok ht
theorem rng_get {a c : Int} {n i : Nat} {d : D} (h : (rng a n c)[i]? = some d) : i < n ∧ d = .int (a + i * c) := by
  unfold rng at h
  simp only [List.getElem?_map, Option.map_eq_some_iff] at h
  obtain ⟨x, hx, rfl⟩ := h
  obtain ⟨h1, h2⟩ := List.getElem?_eq_some_iff.mp hx
  simp at h1 h2
  subst h2
  exact ⟨h1, rfl⟩
theorem rng_len {a c : Int} {n : Nat} : (rng a n c).length = n := by simp [rng]
theorem sz {n : Nat} (h : n ≤ 100000) : n ≤ sizeLine := Nat.le_trans h (by decide)
theorem sz' {n : Nat} (h : n ≤ 100000) : n < sizeLine := Nat.lt_of_le_of_lt h (by decide)

/-! ### stores -/
theorem get_set {S : Store} {a : Nat} {o o' : O} (h : S[a]? = some o) : (S.set a o')[a]? = some o' := by
  have := (List.getElem?_eq_some_iff.mp h).1
  simp [this]
theorem get_set_ne {S : Store} {a b : Nat} {o' : O} (h : a ≠ b) : (S.set a o')[b]? = S[b]? := List.getElem?_set_ne h
theorem get_push {S : Store} {o : O} : (S ++ [o])[S.length]? = some o := by simp
theorem get_push_old {S : Store} {o o' : O} {a : Nat} (h : S[a]? = some o) : (S ++ [o'])[a]? = some o := by
  have := (List.getElem?_eq_some_iff.mp h).1
  rw [List.getElem?_append_left this, h]

/-! ### the evaluator, step by step -/
theorem R.bind_assoc {α β γ : Type} {r : R α} {f : α → Store → R β} {g : β → Store → R γ} : (r.bind f).bind g = r.bind fun a S => (f a S).bind g := by
  cases r <;> rfl
section
variable {G : Globs} {N : Nat} {call : String → List D → Store → R D} {e : Env} {S : Store}
noncomputable def nxK (G : Globs) (N : Nat) (call : String → List D → Store → R D) (r : Sts) (f : F) (S : Store) : R F := match f with
  | .nx e1 => exB G N call r e1 S
  | f => .ok f S
noncomputable def forB (G : Globs) (N : Nat) (call : String → List D → Store → R D) (g : Gd) (tg : Tg) (b : Sts) (l : List D) (e : Env) (S : Store) : R F := forA g tg (fun e S => exB G N call b e S) l e S
noncomputable def whlB (G : Globs) (N : Nat) (call : String → List D → Store → R D) (c : E) (b : Sts) (e : Env) (S : Store) : R F := whileA N (fun e S => tru (evE G call c e S)) (fun e S => exB G N call b e S) e S
noncomputable def cmpB (G : Globs) (call : String → List D → Store → R D) (g : Gd) (tg : Tg) (c : Oe) (t : E) (e0 : Env) (l : List D) (S : Store) : R (List D) := compA g tg (fun e S => tru (evOc G call c e S)) (fun e S => evE G call t e S) e0 l [] S
noncomputable def iteB (G : Globs) (N : Nat) (call : String → List D → Store → R D) (a b : Sts) (e : Env) (t : Bool) (S : Store) : R F := if t then exB G N call a e S else exB G N call b e S
theorem nx_nx {r : Sts} : nxK G N call r (.nx e) S = exB G N call r e S := nr rfl
theorem nx_rt {r : Sts} {d : D} : nxK G N call r (.rt d) S = .ok (.rt d) S := nr rfl
theorem nx_bk {r : Sts} : nxK G N call r (.bk e) S = .ok (.bk e) S := nr rfl
theorem nx_ct {r : Sts} : nxK G N call r (.ct e) S = .ok (.ct e) S := nr rfl
theorem ite_t {a b : Sts} : iteB G N call a b e true S = exB G N call a e S := nr rfl
theorem ite_f {a b : Sts} : iteB G N call a b e false S = exB G N call b e S := nr rfl
theorem x_nil : exB G N call .nil e S = .ok (.nx e) S := by simp only [exB]
theorem x_cons {s : St} {r : Sts} : exB G N call (.cons s r) e S = (exS G N call s e S).bind (nxK G N call r) := by
  rw [exB]
  congr 1
theorem x_set {i : Nat} {a : E} : exS G N call (.set i a) e S = (evE G call a e S).bind fun x S1 => .ok (.nx (e.set i (some x))) S1 := by rw [exS]
theorem x_unp {is : List Nat} {a : E} : exS G N call (.unp is a) e S = (evE G call a e S).bind fun x S1 => match asg (.tp is) x e with
    | some e1 => .ok (.nx e1) S1
    | none => .bad := by first | (rw [exS]; done) | (rw [exS]; rfl)
theorem x_sets {a i b : E} : exS G N call (.sets a i b) e S = (evE G call b e S).bind fun y S1 => (evE G call a e S1).bind fun x S2 => (evE G call i e S2).bind fun k S3 => (setA x k y S3).bind fun _ S4 => .ok (.nx e) S4 := by rw [exS]
noncomputable def parK (i j : Nat) (e : Env) (ds : List D) (S : Store) : R F := match ds with
    | [x, y] => .ok (.nx ((e.set i (some x)).set j (some y))) S
    | _ => .bad
theorem par_k {i j : Nat} {x y : D} : parK i j e [x, y] S = .ok (.nx ((e.set i (some x)).set j (some y))) S := nr rfl
theorem x_par {i j : Nat} {es : Es} : exS G N call (.par i j es) e S = (evEs G call es e S).bind (parK i j e) := by first | (rw [exS]; done) | (rw [exS]; rfl)
theorem x_aug {i : Nat} {op : Operator} {a : E} {x : D} (h : e[i]? = some (some x)) : exS G N call (.aug i op a) e S = (evE G call a e S).bind fun y S1 => (augA op x y S1).bind fun z S2 => .ok (.nx (e.set i (some z))) S2 := by
  rw [exS, h]
theorem x_expr {a : E} : exS G N call (.expr a) e S = (evE G call a e S).bind fun _ S1 => .ok (.nx e) S1 := by rw [exS]
theorem x_ret {a : E} : exS G N call (.ret a) e S = (evE G call a e S).bind fun x S1 => .ok (.rt x) S1 := by rw [exS]
theorem x_pass : exS G N call .pass e S = .ok (.nx e) S := by rw [exS]
theorem x_brk : exS G N call .brk e S = .ok (.bk e) S := by rw [exS]
theorem x_cont : exS G N call .cont e S = .ok (.ct e) S := by rw [exS]
theorem x_ite {c : E} {a b : Sts} : exS G N call (.ite c a b) e S = (evE G call c e S).bind fun d S1 => (R.ofO (truthA S1 d) S1).bind (iteB G N call a b e) := by
  rw [exS]
  unfold tru
  rw [R.bind_assoc]
  rfl
theorem x_for {tg : Tg} {it : It} {b : Sts} : exS G N call (.for tg it b) e S = (evIt G call it e S).bind fun w S1 => forB G N call w.2 tg b w.1 e S1 := by first | (rw [exS]; done) | (rw [exS]; rfl)
theorem x_whl {c : E} {b : Sts} : exS G N call (.whl c b) e S = whlB G N call c b e S := by first | (rw [exS]; done) | (rw [exS]; rfl)
theorem v_bl {b : Bool} : evE G call (.bl b) e S = .ok (.bl b) S := by rw [evE]
theorem v_int {b : Int} : evE G call (.int b) e S = .ok (.int b) S := by rw [evE]
theorem v_str {b : Str} : evE G call (.str b) e S = .ok (.str b) S := by rw [evE]
theorem v_ty {b : String} : evE G call (.ty b) e S = .ok (.ty b) S := by rw [evE]
theorem v_non : evE G call .non e S = .ok .non S := by rw [evE]
theorem v_var {i : Nat} : evE G call (.var i) e S = match e[i]? with
    | some (some d) => .ok d S
    | _ => .bad := by first | (rw [evE]; done) | (rw [evE]; rfl)
theorem v_tup {es : Es} : evE G call (.tup es) e S = (evEs G call es e S).bind fun ds S1 => mkT ds S1 := by rw [evE]
theorem v_lst {v : Bool} {es : Es} : evE G call (.lst v es) e S = (evEs G call es e S).bind fun ds S1 => mkL v ds S1 := by rw [evE]
theorem v_bin {v : Bool} {op : Operator} {a b : E} : evE G call (.bin v op a b) e S = (evE G call a e S).bind fun x S1 => (evE G call b e S1).bind fun y S2 => binA v op x y S2 := by rw [evE]
theorem v_neg {a : E} : evE G call (.neg a) e S = (evE G call a e S).bind fun x S1 => R.ofO (negA x) S1 := by rw [evE]
theorem v_not {a : E} : evE G call (.not a) e S = (evE G call a e S).bind fun d S1 => (R.ofO (truthA S1 d) S1).bind fun t S1 => .ok (.bl (!t)) S1 := by
  rw [evE]
  unfold tru
  rw [R.bind_assoc]
theorem v_cmp {op : CmpOp} {a b : E} : evE G call (.cmp op a b) e S = (evE G call a e S).bind fun x S1 => (evE G call b e S1).bind fun y S2 => (R.ofO (cmpA op x y S2) S2).bind fun t S3 => .ok (.bl t) S3 := by rw [evE]
noncomputable def andB (G : Globs) (call : String → List D → Store → R D) (b : E) (e : Env) (x : D) (t : Bool) (S : Store) : R D := if t then evE G call b e S else .ok x S
noncomputable def orB (G : Globs) (call : String → List D → Store → R D) (b : E) (e : Env) (x : D) (t : Bool) (S : Store) : R D := if t then .ok x S else evE G call b e S
theorem v_and {a b : E} : evE G call (.and a b) e S = (evE G call a e S).bind fun x S1 => (R.ofO (truthA S1 x) S1).bind (andB G call b e x) := by first | (rw [evE]; done) | (rw [evE]; rfl)
theorem v_or {a b : E} : evE G call (.or a b) e S = (evE G call a e S).bind fun x S1 => (R.ofO (truthA S1 x) S1).bind (orB G call b e x) := by first | (rw [evE]; done) | (rw [evE]; rfl)
theorem and_t {b : E} {x : D} : andB G call b e x true S = evE G call b e S := nr rfl
theorem and_f {b : E} {x : D} : andB G call b e x false S = .ok x S := nr rfl
theorem or_t {b : E} {x : D} : orB G call b e x true S = .ok x S := nr rfl
theorem or_f {b : E} {x : D} : orB G call b e x false S = evE G call b e S := nr rfl
theorem v_ife {c a b : E} : evE G call (.ife c a b) e S = (evE G call c e S).bind fun d S1 => (R.ofO (truthA S1 d) S1).bind fun t S1 => if t then evE G call a e S1 else evE G call b e S1 := by
  rw [evE]
  unfold tru
  rw [R.bind_assoc]
theorem v_call {f : String} {es : Es} : evE G call (.call f es) e S = (evEs G call es e S).bind fun ds S1 => call f ds S1 := by rw [evE]
theorem v_blt {v : Bool} {f : String} {es : Es} : evE G call (.blt v f es) e S = (evEs G call es e S).bind fun ds S1 => bltA v f ds S1 := by rw [evE]
theorem v_mth {T m : String} {o : E} {es : Es} : evE G call (.mth T m o es) e S = (evE G call o e S).bind fun x S1 => (R.ofO (recvA T S1 x) S1).bind fun _ S2 => (evEs G call es e S2).bind fun ds S3 => mthA T m x ds S3 := by rw [evE]
theorem v_sub {a i : E} : evE G call (.sub a i) e S = (evE G call a e S).bind fun x S1 => (evE G call i e S1).bind fun y S2 => R.ofO (subA S2 x y) S2 := by rw [evE]
theorem v_slc {v : Bool} {a : E} {lo hi : Oe} : evE G call (.slc v a lo hi) e S = (evE G call a e S).bind fun x S1 => (evOe G call lo e S1).bind fun l S2 => (evOe G call hi e S2).bind fun h S3 => slcA v x l h S3 := by rw [evE]
theorem v_comp {v : Bool} {own : List Nat} {tg : Tg} {it : It} {c : Oe} {t : E} : evE G call (.comp v own tg it c t) e S = (evIt G call it e S).bind fun w S1 => (cmpB G call w.2 tg c t (wipe e own) w.1 S1).bind fun l S2 => mkL v l S2 := by first | (rw [evE]; done) | (rw [evE]; rfl)
theorem v_maxd {a d : E} : evE G call (.maxd a d) e S = (evE G call a e S).bind fun x S1 => (evE G call d e S1).bind fun y S2 => R.ofO (maxdA S2 x y) S2 := by rw [evE]
theorem v_slcS {v : Bool} {a lo st : E} : evE G call (.slcS v a lo st) e S = (evE G call a e S).bind fun x S1 => (evE G call lo e S1).bind fun i S2 => (evE G call st e S2).bind fun k S3 => slcsA v x i k S3 := by rw [evE]
theorem o_none : evOe G call .none e S = .ok none S := by rw [evOe]
theorem o_some {a : E} : evOe G call (.some a) e S = (evE G call a e S).bind fun x S1 => (R.ofO (optI x) S1).bind fun i S2 => .ok (some i) S2 := by rw [evOe]
theorem oc_none : evOc G call .none e S = .ok (.bl true) S := by rw [evOc]
theorem oc_some {a : E} : evOc G call (.some a) e S = evE G call a e S := by rw [evOc]
theorem s_nil : evEs G call .nil e S = .ok [] S := by rw [evEs]
theorem s_cons {a : E} {r : Es} : evEs G call (.cons a r) e S = (evE G call a e S).bind fun x S1 => (evEs G call r e S1).bind fun xs S2 => .ok (x :: xs) S2 := by rw [evEs]
noncomputable def agB (G : Globs) (call : String → List D → Store → R D) (g : Gd) (q : Bool) (tg : Tg) (t : E) (e0 : Env) (l : List D) (S : Store) : R Bool := genA g q tg (fun e S => evE G call t e S) e0 l S
theorem v_agen {q : Bool} {own : List Nat} {tg : Tg} {it : It} {t : E} : evE G call (.agen q own tg it t) e S = (evIt G call it e S).bind fun w S1 => (agB G call w.2 q tg t (wipe e own) w.1 S1).bind fun b S2 => .ok (.bl b) S2 := by first | (rw [evE]; done) | (rw [evE]; rfl)
theorem v_glob {x : String} : evE G call (.glob x) e S = R.ofO (G x) S := by rw [evE]
theorem v_chain {o1 o2 : CmpOp} {a b c : E} : evE G call (.chain o1 o2 a b c) e S = (evE G call a e S).bind fun x S1 => (evE G call b e S1).bind fun y S2 => (R.ofO (cmpA o1 x y S2) S2).bind fun t S3 =>
      if t then (evE G call c e S3).bind fun z S4 => (R.ofO (cmpA o2 y z S4) S4).bind fun u S5 => .ok (.bl u) S5 else .ok (.bl false) S3 := by rw [evE]
theorem i_seq {a : E} : evIt G call (.seq a) e S = (evE G call a e S).bind fun x S1 => (R.ofO (itemsOf S1 x) S1).bind fun l S2 => .ok (l, gdOf S2 x) S2 := by rw [evIt]
theorem i_rng1 {a : E} : evIt G call (.rng1 a) e S = (evE G call a e S).bind fun x S1 => match x with
    | .int j => if -(2 ^ 62) ≤ j ∧ j < 2 ^ 62 then .ok (rng 0 j.toNat 1, []) S1 else .bad
    | _ => .bad := by first | (rw [evIt]; done) | (rw [evIt]; rfl)
theorem i_rng2 {a b : E} : evIt G call (.rng2 a b) e S = (evE G call a e S).bind fun x S1 => (evE G call b e S1).bind fun y S2 => match x, y with
    | .int i, .int j => if -(2 ^ 62) ≤ i ∧ i < 2 ^ 62 ∧ -(2 ^ 62) ≤ j ∧ j < 2 ^ 62 then .ok (rng i (j - i).toNat 1, []) S2 else .bad
    | _, _ => .bad := by first | (rw [evIt]; done) | (rw [evIt]; rfl)
theorem i_enum {a : E} : evIt G call (.enum a) e S = (evE G call a e S).bind fun x S1 => (R.ofO (seqA S1 x) S1).bind fun l S2 => .ok (enumF 0 l, gdOf S2 x) S2 := by rw [evIt]
theorem i_rngD {a b : E} : evIt G call (.rngD a b) e S = (evE G call a e S).bind fun x S1 => (evE G call b e S1).bind fun y S2 => match x, y with
    | .int i, .int j => if -(2 ^ 62) ≤ i ∧ i < 2 ^ 62 ∧ -(2 ^ 62) ≤ j ∧ j < 2 ^ 62 then .ok (rng i (i - j).toNat (-1), []) S2 else .bad
    | _, _ => .bad := by first | (rw [evIt]; done) | (rw [evIt]; rfl)
theorem i_zip {a b : E} : evIt G call (.zip a b) e S = (evE G call a e S).bind fun x S1 => (evE G call b e S1).bind fun y S2 => match seqL S2 x, seqL S2 y with
    | some l, some k => .ok (zipF l k, gdOf S2 x ++ gdOf S2 y) S2
    | _, _ => match seqT x, seqT y with
      | some l, some k => .ok (zipF l k, []) S2
      | _, _ => .bad := by first | (rw [evIt]; done) | (rw [evIt]; rfl)
theorem v_dict {ks : List Str} {es : Es} : evE G call (.dict ks es) e S = (evEs G call es e S).bind fun ds S1 => dicA ks ds S1 := by rw [evE]
theorem v_dget {o : E} {k : Str} : evE G call (.dget o k) e S = (evE G call o e S).bind fun x S1 => dgetA x k S1 := by rw [evE]
theorem v_isx {a : E} {y : String} {tab : List (String × Bool)} : evE G call (.isx a y tab) e S = (evE G call a e S).bind fun d S1 => R.ofO ((isxA tab S1 d).map .bl) S1 := by rw [evE]
theorem x_dput {o a : E} {k : Str} : exS G N call (.dput o k a) e S = (evE G call a e S).bind fun y S1 => (evE G call o e S1).bind fun x S2 => (dputA x k y S2).bind fun _ S3 => .ok (.nx e) S3 := by rw [exS]
theorem x_raise {c : String} {es : Es} : exS G N call (.raise c es) e S = (evEs G call es e S).bind fun ds S1 => if ds.length ≤ sizeLine then .exc (.exn c []) S1 else .bad := by rw [exS]
theorem x_kept {i j l : Nat} {c : String} {a : E} : exS G N call (.kept i j l c a) e S = keptA i j l (evE G call a e S) e := by rw [exS]
theorem optI_i {i : Int} : optI (.int i) = some i := nr rfl
theorem itm_t {l : List D} : itemsOf S (.tup l) = some l := nr rfl
theorem itm_l {l : List D} : itemsOf S (.lst l) = some l := nr rfl
theorem seqL_l {l : List D} : seqL S (.lst l) = some l := nr rfl
theorem aug_i {i j : Int} : augA .Add (.int i) (.int j) S = .ok (.int (i + j)) S := nr rfl
theorem neg_i {i : Int} : negA (.int i) = some (.int (-i)) := nr rfl
end
end Mn


/-! the terms of the text's defs, and the looks at them -/
namespace K23
open PySem Mn
def d_is_count : Def := ⟨1, 1, .pure,
    (.cons (.ret (.and (.blt true "isinstance" (.cons (.var 0) (.cons (.ty "int") .nil))) (.and (.not (.blt true "isinstance" (.cons (.var 0) (.cons (.ty "bool") .nil)))) (.cmp .GtE (.var 0) (.int 0)))))
      .nil)⟩
def d_is_below : Def := ⟨2, 2, .pure,
    (.cons (.ret (.and (.call "is_count" (.cons (.var 1) .nil)) (.cmp .Lt (.var 1) (.var 0))))
      .nil)⟩
def d_letters_of : Def := ⟨1, 1, .pure,
    (.cons (.ret (.bin true .LShift (.int 1) (.blt true "len" (.cons (.var 0) .nil))))
      .nil)⟩
def d_is_letter : Def := ⟨2, 2, .pure,
    (.cons (.ret (.call "is_below" (.cons (.call "letters_of" (.cons (.var 0) .nil)) (.cons (.var 1) .nil))))
      .nil)⟩
def d_has_bit : Def := ⟨2, 2, .pure,
    (.cons (.ret (.cmp .Eq (.bin true .BitAnd (.bin true .RShift (.var 0) (.var 1)) (.int 1)) (.int 1)))
      .nil)⟩
def d_is_one_of : Def := ⟨2, 2, .pure,
    (.cons (.ret (.and (.blt true "isinstance" (.cons (.var 1) (.cons (.ty "str") .nil))) (.cmp .In (.var 1) (.var 0))))
      .nil)⟩
def d_is_turn : Def := ⟨2, 2, .pure,
    (.cons (.ite (.or (.not (.blt true "isinstance" (.cons (.var 1) (.cons (.ty "tuple") .nil)))) (.cmp .NotEq (.blt true "len" (.cons (.var 1) .nil)) (.int 2))) (.cons (.ret (.bl false))
      .nil) .nil)
      (.cons (.ret (.and (.call "is_letter" (.cons (.sub (.var 0) (.int 0)) (.cons (.sub (.var 1) (.int 0)) .nil))) (.call "is_letter" (.cons (.sub (.var 0) (.int 1)) (.cons (.sub (.var 1) (.int 1)) .nil)))))
      .nil))⟩
def d_place_of : Def := ⟨2, 4, .pure,
    (.cons (.for (.tp [2, 3]) (.enum (.var 0)) (.cons (.ite (.call "is_one_of" (.cons (.var 3) (.cons (.var 1) .nil))) (.cons (.ret (.tup (.cons (.var 2) (.cons (.mth "tuple" "index" (.var 3) (.cons (.var 1) .nil)) .nil))))
      .nil) .nil)
      .nil))
      (.cons (.raise "BadName" (.cons (.str "no name of this board") .nil))
      .nil))⟩
def d_are_turns : Def := ⟨3, 4, .pure,
    (.cons (.ite (.or (.not (.blt true "isinstance" (.cons (.var 1) (.cons (.ty "tuple") .nil)))) (.not (.chain .LtE .LtE (.var 2) (.blt true "len" (.cons (.var 1) .nil)) (.glob "MOST_TURNS")))) (.cons (.ret (.bl false))
      .nil) .nil)
      (.cons (.ret (.agen true [3] (.nm 3) (.seq (.var 1)) (.call "is_turn" (.cons (.var 0) (.cons (.var 3) .nil)))))
      .nil))⟩
def d_is_loop : Def := ⟨2, 2, .pure,
    (.cons (.ite (.or (.not (.blt true "isinstance" (.cons (.var 1) (.cons (.ty "tuple") .nil)))) (.cmp .NotEq (.blt true "len" (.cons (.var 1) .nil)) (.int 2))) (.cons (.ret (.bl false))
      .nil) .nil)
      (.cons (.ret (.and (.call "are_turns" (.cons (.var 0) (.cons (.sub (.var 1) (.int 0)) (.cons (.int 0) .nil)))) (.call "are_turns" (.cons (.var 0) (.cons (.sub (.var 1) (.int 1)) (.cons (.int 1) .nil))))))
      .nil))⟩
def d_need_loop : Def := ⟨2, 2, .pure,
    (.cons (.ite (.not (.call "is_loop" (.cons (.var 0) (.cons (.var 1) .nil)))) (.cons (.raise "BadLoop" (.cons (.str "no loop of this board") .nil))
      .nil) .nil)
      .nil)⟩
def d_inner_of : Def := ⟨1, 1, .pure,
    (.cons (.ite (.cmp .Eq (.sub (.var 0) (.int 0)) (.str "sign")) (.cons (.ret (.tup .nil))
      .nil) .nil)
      (.cons (.ret (.slc true (.var 0) (.some (.int 1)) .none))
      .nil))⟩
def d_is_look : Def := ⟨1, 1, .pure,
    (.cons (.ret (.cmp .In (.sub (.var 0) (.int 0)) (.glob "LOOKS_BACK")))
      .nil)⟩
def d_since_along : Def := ⟨2, 6, .new,
    (.cons (.set 2 (.lst false .nil))
      (.cons (.set 3 (.bl false))
      (.cons (.for (.tp [4, 5]) (.zip (.var 0) (.var 1)) (.cons (.set 3 (.or (.var 5) (.and (.var 4) (.var 3))))
      (.cons (.expr (.mth "list" "append" (.var 2) (.cons (.var 3) .nil)))
      .nil)))
      (.cons (.ret (.var 2))
      .nil))))⟩
def d_sign_along : Def := ⟨3, 6, .new,
    (.cons (.unp [3, 4] (.call "place_of" (.cons (.var 0) (.cons (.var 1) .nil))))
      (.cons (.ret (.comp false [5] (.nm 5) (.seq (.var 2)) .none (.call "has_bit" (.cons (.sub (.var 5) (.var 3)) (.cons (.var 4) .nil)))))
      .nil))⟩
def d_values_along : Def := ⟨3, 9, .new,
    (.cons (.set 3 (.sub (.var 1) (.int 0)))
      (.cons (.ite (.cmp .Eq (.var 3) (.str "sign")) (.cons (.ret (.call "sign_along" (.cons (.var 0) (.cons (.sub (.var 1) (.int 1)) (.cons (.var 2) .nil)))))
      .nil) .nil)
      (.cons (.set 4 (.comp true [5] (.nm 5) (.seq (.call "inner_of" (.cons (.var 1) .nil))) .none (.call "values_along" (.cons (.var 0) (.cons (.var 5) (.cons (.var 2) .nil))))))
      (.cons (.ite (.cmp .Eq (.var 3) (.str "not")) (.cons (.ret (.comp false [6] (.nm 6) (.seq (.sub (.var 4) (.int 0))) .none (.not (.var 6))))
      .nil) .nil)
      (.cons (.ite (.cmp .Eq (.var 3) (.str "and")) (.cons (.ret (.comp false [7, 8] (.tp [7, 8]) (.zip (.sub (.var 4) (.int 0)) (.sub (.var 4) (.int 1))) .none (.and (.var 7) (.var 8))))
      .nil) .nil)
      (.cons (.ite (.cmp .Eq (.var 3) (.str "or")) (.cons (.ret (.comp false [7, 8] (.tp [7, 8]) (.zip (.sub (.var 4) (.int 0)) (.sub (.var 4) (.int 1))) .none (.or (.var 7) (.var 8))))
      .nil) .nil)
      (.cons (.ite (.cmp .Eq (.var 3) (.str "before")) (.cons (.ret (.slc false (.bin true .Add (.lst true (.cons (.bl false) .nil)) (.sub (.var 4) (.int 0))) .none (.some (.blt true "len" (.cons (.var 2) .nil)))))
      .nil) .nil)
      (.cons (.ite (.cmp .Eq (.var 3) (.str "was")) (.cons (.ret (.call "since_along" (.cons (.bin true .Mult (.lst true (.cons (.bl true) .nil)) (.blt true "len" (.cons (.var 2) .nil))) (.cons (.sub (.var 4) (.int 0)) .nil))))
      .nil) .nil)
      (.cons (.ite (.cmp .Eq (.var 3) (.str "since")) (.cons (.ret (.call "since_along" (.cons (.sub (.var 4) (.int 0)) (.cons (.sub (.var 4) (.int 1)) .nil))))
      .nil) .nil)
      (.cons (.ret (.bin false .Mult (.lst true (.cons (.cmp .Eq (.var 3) (.str "yes")) .nil)) (.blt true "len" (.cons (.var 2) .nil))))
      .nil))))))))))⟩
def d_looks_deep : Def := ⟨1, 3, .pure,
    (.cons (.set 1 (.maxd (.comp true [2] (.nm 2) (.seq (.call "inner_of" (.cons (.var 0) .nil))) .none (.call "looks_deep" (.cons (.var 2) .nil))) (.int 0)))
      (.cons (.ret (.ife (.call "is_look" (.cons (.var 0) .nil)) (.bin true .Add (.var 1) (.int 1)) (.var 1)))
      .nil))⟩
def d_values_on : Def := ⟨3, 5, .pure,
    (.cons (.unp [3, 4] (.var 2))
      (.cons (.ret (.call "values_along" (.cons (.var 0) (.cons (.var 1) (.cons (.bin true .Add (.var 3) (.bin true .Mult (.var 4) (.bin true .Add (.int 1) (.call "looks_deep" (.cons (.var 1) .nil))))) .nil)))))
      .nil))⟩
def d_holds_always : Def := ⟨3, 3, .pure,
    (.cons (.expr (.call "need_loop" (.cons (.var 0) (.cons (.var 2) .nil))))
      (.cons (.ret (.blt true "all" (.cons (.call "values_on" (.cons (.var 0) (.cons (.var 1) (.cons (.var 2) .nil)))) .nil)))
      .nil))⟩
def d_holds_again : Def := ⟨3, 4, .pure,
    (.cons (.expr (.call "need_loop" (.cons (.var 0) (.cons (.var 2) .nil))))
      (.cons (.set 3 (.call "values_on" (.cons (.var 0) (.cons (.var 1) (.cons (.var 2) .nil)))))
      (.cons (.ret (.blt true "any" (.cons (.slc true (.var 3) (.some (.bin true .Sub (.blt true "len" (.cons (.var 3) .nil)) (.blt true "len" (.cons (.sub (.var 2) (.int 1)) .nil)))) .none) .nil)))
      .nil)))⟩
def d__law_mixed : Def := ⟨2, 2, .pure,
    (.cons (.set 0 (.bin true .Mod (.bin true .Mult (.bin true .Add (.bin true .Add (.bin true .Add (.bin true .Mod (.var 0) (.int 2147483647)) (.bin true .Mult (.bin true .Mult (.int 7919) (.var 1)) (.var 1))) (.bin true .Mult (.int 31) (.var 1))) (.int 5)) (.int 48271)) (.int 2147483647)))
      (.cons (.ret (.bin true .Mod (.bin true .Mult (.var 0) (.int 69621)) (.int 2147483629)))
      .nil))⟩
def d__law_draws : Def := ⟨1, 6, .raw,
    (.cons (.set 1 (.ife (.cmp .NotEq (.var 0) (.lst true .nil)) (.slc true (.var 0) .none (.some (.int 21))) (.lst true (.cons (.int 0) .nil))))
      (.cons (.set 2 (.lst false .nil))
      (.cons (.for (.tp [3, 4]) (.enum (.var 1)) (.cons (.set 5 (.bin true .Add (.var 4) (.bin true .Mult (.int 7) (.blt true "sum" (.cons (.slcS true (.var 0) (.bin true .Add (.int 21) (.var 3)) (.int 21)) .nil)))))
      (.cons (.expr (.mth "list" "append" (.var 2) (.cons (.dict ["cell", "seed"] (.cons (.bin true .Mult (.var 4) (.blt true "int" (.cons (.cmp .GtE (.var 4) (.bin true .Pow (.int 10) (.int 18))) .nil))) (.cons (.call "_law_mixed" (.cons (.var 5) (.cons (.bin true .Add (.var 3) (.int 1)) .nil))) .nil))) .nil)))
      .nil)))
      (.cons (.ret (.var 2))
      .nil))))⟩
def d__law_take : Def := ⟨2, 3, .pure,
    (.cons (.ite (.cmp .Gt (.dget (.var 0) "cell") (.int 0)) (.cons (.set 2 (.bin true .Mod (.dget (.var 0) "cell") (.var 1)))
      (.cons (.dput (.var 0) "cell" (.bin true .FloorDiv (.dget (.var 0) "cell") (.var 1)))
      (.cons (.ret (.var 2))
      .nil))) .nil)
      (.cons (.dput (.var 0) "seed" (.call "_law_mixed" (.cons (.dget (.var 0) "seed") (.cons (.var 1) .nil))))
      (.cons (.ret (.bin true .Mod (.bin true .FloorDiv (.dget (.var 0) "seed") (.int 7)) (.var 1)))
      .nil)))⟩
def d__law_some : Def := ⟨3, 5, .pure,
    (.cons (.set 3 (.blt false "list" (.cons (.var 1) .nil)))
      (.cons (.ret (.blt true "tuple" (.cons (.comp true [4] (.nm 4) (.rng1 (.var 2)) .none (.mth "list" "pop" (.var 3) (.cons (.call "_law_take" (.cons (.var 0) (.cons (.blt true "len" (.cons (.var 3) .nil)) .nil))) .nil))) .nil)))
      .nil))⟩
def d__law_board : Def := ⟨2, 4, .pure,
    (.cons (.set 2 (.call "_law_some" (.cons (.var 0) (.cons (.lst true (.cons (.str "b") (.cons (.str "aab") (.cons (.str "zz") (.cons (.str "a") (.cons (.str "cdxyzq") (.cons (.str "ok") (.cons (.str "bca") .nil)))))))) (.cons (.int 6) .nil)))))
      (.cons (.set 3 (.call "_law_take" (.cons (.var 0) (.cons (.bin true .Add (.var 1) (.int 1)) .nil))))
      (.cons (.ret (.tup (.cons (.slc true (.var 2) .none (.some (.var 3))) (.cons (.slc true (.var 2) (.some (.int 3)) (.some (.bin true .Add (.int 3) (.call "_law_take" (.cons (.var 0) (.cons (.bin true .Add (.var 1) (.int 1)) .nil)))))) .nil))))
      .nil)))⟩
def d__law_wish : Def := ⟨3, 8, .pure,
    (.cons (.set 3 (.call "_law_take" (.cons (.var 0) (.cons (.int 12) .nil))))
      (.cons (.ite (.or (.cmp .Lt (.var 2) (.int 2)) (.cmp .Lt (.var 3) (.int 3))) (.cons (.set 6 (.bin true .Add (.lst true (.cons (.tup (.cons (.str "yes") .nil)) (.cons (.tup (.cons (.str "no") .nil)) .nil))) (.comp true [7] (.nm 7) (.seq (.bin true .Mult (.var 1) (.int 3))) .none (.tup (.cons (.str "sign") (.cons (.var 7) .nil))))))
      (.cons (.ret (.sub (.var 6) (.call "_law_take" (.cons (.var 0) (.cons (.blt true "len" (.cons (.var 6) .nil)) .nil)))))
      .nil)) .nil)
      (.cons (.set 4 (.sub (.lst true (.cons (.str "not") (.cons (.str "not") (.cons (.str "and") (.cons (.str "and") (.cons (.str "or") (.cons (.str "before") (.cons (.str "before") (.cons (.str "was") (.cons (.str "since") .nil)))))))))) (.bin true .Sub (.var 3) (.int 3))))
      (.cons (.set 5 (.call "_law_wish" (.cons (.var 0) (.cons (.var 1) (.cons (.bin true .Sub (.var 2) (.int 1)) .nil)))))
      (.cons (.ite (.cmp .In (.var 4) (.tup (.cons (.str "not") (.cons (.str "before") (.cons (.str "was") .nil))))) (.cons (.ret (.tup (.cons (.var 4) (.cons (.var 5) .nil))))
      .nil) .nil)
      (.cons (.ret (.tup (.cons (.var 4) (.cons (.var 5) (.cons (.call "_law_wish" (.cons (.var 0) (.cons (.var 1) (.cons (.bin true .Sub (.var 2) (.int 1)) .nil)))) .nil)))))
      .nil))))))⟩
def d__law_turns : Def := ⟨3, 6, .pure,
    (.cons (.set 3 (.lst false .nil))
      (.cons (.for (.nm 4) (.rng1 (.var 2)) (.cons (.set 5 (.tup (.cons (.call "_law_take" (.cons (.var 0) (.cons (.bin true .LShift (.int 1) (.blt true "len" (.cons (.sub (.var 1) (.int 0)) .nil))) .nil))) (.cons (.call "_law_take" (.cons (.var 0) (.cons (.bin true .LShift (.int 1) (.blt true "len" (.cons (.sub (.var 1) (.int 1)) .nil))) .nil))) .nil))))
      (.cons (.ite (.and (.cmp .NotEq (.var 3) (.lst true .nil)) (.cmp .Eq (.call "_law_take" (.cons (.var 0) (.cons (.int 4) .nil))) (.int 0))) (.cons (.set 5 (.sub (.var 3) (.neg (.int 1))))
      .nil) .nil)
      (.cons (.expr (.mth "list" "append" (.var 3) (.cons (.var 5) .nil)))
      .nil))))
      (.cons (.ret (.var 3))
      .nil)))⟩
def d__law_loop : Def := ⟨4, 5, .pure,
    (.cons (.set 4 (.blt true "tuple" (.cons (.call "_law_turns" (.cons (.var 0) (.cons (.var 1) (.cons (.call "_law_take" (.cons (.var 0) (.cons (.bin true .Add (.var 2) (.int 1)) .nil))) .nil)))) .nil)))
      (.cons (.ret (.tup (.cons (.var 4) (.cons (.blt true "tuple" (.cons (.call "_law_turns" (.cons (.var 0) (.cons (.var 1) (.cons (.bin true .Add (.int 1) (.call "_law_take" (.cons (.var 0) (.cons (.var 3) .nil)))) .nil)))) .nil)) .nil))))
      .nil))⟩
def d__law_pairs : Def := ⟨2, 7, .pure,
    (.cons (.par 5 6 (.cons (.tup (.cons (.str "was") (.cons (.var 0) .nil))) (.cons (.tup (.cons (.str "since") (.cons (.var 0) (.cons (.var 1) .nil)))) .nil)))
      (.cons (.set 2 (.lst false (.cons (.tup (.cons (.var 5) (.cons (.tup (.cons (.str "or") (.cons (.var 0) (.cons (.tup (.cons (.str "before") (.cons (.var 5) .nil))) .nil)))) .nil))) (.cons (.tup (.cons (.var 6) (.cons (.tup (.cons (.str "or") (.cons (.var 1) (.cons (.tup (.cons (.str "and") (.cons (.var 0) (.cons (.tup (.cons (.str "before") (.cons (.var 6) .nil))) .nil)))) .nil)))) .nil))) .nil))))
      (.cons (.expr (.mth "list" "append" (.var 2) (.cons (.tup (.cons (.var 5) (.cons (.tup (.cons (.str "since") (.cons (.tup (.cons (.str "yes") .nil)) (.cons (.var 0) .nil)))) .nil))) .nil)))
      (.cons (.expr (.mth "list" "append" (.var 2) (.cons (.tup (.cons (.tup (.cons (.str "or") (.cons (.var 0) (.cons (.var 1) .nil)))) (.cons (.tup (.cons (.str "not") (.cons (.tup (.cons (.str "and") (.cons (.tup (.cons (.str "not") (.cons (.var 0) .nil))) (.cons (.tup (.cons (.str "not") (.cons (.var 1) .nil))) .nil)))) .nil))) .nil))) .nil)))
      (.cons (.set 3 (.tup (.cons (.str "since") (.cons (.var 0) (.cons (.tup (.cons (.str "or") (.cons (.var 1) (.cons (.tup (.cons (.str "not") (.cons (.var 0) .nil))) .nil)))) .nil)))))
      (.cons (.expr (.mth "list" "append" (.var 2) (.cons (.tup (.cons (.var 3) (.cons (.tup (.cons (.str "or") (.cons (.var 6) (.cons (.tup (.cons (.str "since") (.cons (.var 0) (.cons (.tup (.cons (.str "not") (.cons (.var 0) .nil))) .nil)))) .nil)))) .nil))) .nil)))
      (.cons (.set 4 (.tup (.cons (.str "since") (.cons (.tup (.cons (.str "and") (.cons (.var 0) (.cons (.var 1) .nil)))) (.cons (.var 1) .nil)))))
      (.cons (.expr (.mth "list" "append" (.var 2) (.cons (.tup (.cons (.var 4) (.cons (.tup (.cons (.str "and") (.cons (.tup (.cons (.str "since") (.cons (.var 0) (.cons (.var 1) .nil)))) (.cons (.tup (.cons (.str "since") (.cons (.var 1) (.cons (.var 1) .nil)))) .nil)))) .nil))) .nil)))
      (.cons (.expr (.mth "list" "append" (.var 2) (.cons (.tup (.cons (.tup (.cons (.str "before") (.cons (.tup (.cons (.str "and") (.cons (.var 0) (.cons (.var 1) .nil)))) .nil))) (.cons (.tup (.cons (.str "and") (.cons (.tup (.cons (.str "before") (.cons (.var 0) .nil))) (.cons (.tup (.cons (.str "before") (.cons (.var 1) .nil))) .nil)))) .nil))) .nil)))
      (.cons (.expr (.mth "list" "append" (.var 2) (.cons (.tup (.cons (.tup (.cons (.str "before") (.cons (.var 5) .nil))) (.cons (.tup (.cons (.str "was") (.cons (.tup (.cons (.str "before") (.cons (.var 0) .nil))) .nil))) .nil))) .nil)))
      (.cons (.ret (.var 2))
      .nil)))))))))))⟩
def d__law_rows_right : Def := ⟨4, 9, .pure,
    (.cons (.set 4 (.call "values_along" (.cons (.var 0) (.cons (.var 1) (.cons (.var 3) .nil)))))
      (.cons (.for (.nm 5) (.rng1 (.blt true "len" (.cons (.var 3) .nil))) (.cons (.ite (.cmp .NotEq (.call "values_along" (.cons (.var 0) (.cons (.var 1) (.cons (.slc true (.var 3) .none (.some (.var 5))) .nil)))) (.slc true (.var 4) .none (.some (.var 5)))) (.cons (.ret (.bl false))
      .nil) .nil)
      .nil))
      (.cons (.ite (.cmp .NotEq (.call "values_along" (.cons (.var 0) (.cons (.tup (.cons (.str "before") (.cons (.tup (.cons (.str "not") (.cons (.var 1) .nil))) .nil))) (.cons (.var 3) .nil)))) (.bin true .Add (.lst true (.cons (.bl false) .nil)) (.comp true [8] (.nm 8) (.seq (.slc true (.var 4) .none (.some (.neg (.int 1))))) .none (.not (.var 8))))) (.cons (.ret (.bl false))
      .nil) .nil)
      (.cons (.for (.tp [6, 7]) (.seq (.call "_law_pairs" (.cons (.var 1) (.cons (.var 2) .nil)))) (.cons (.ite (.cmp .NotEq (.call "values_along" (.cons (.var 0) (.cons (.var 6) (.cons (.var 3) .nil)))) (.call "values_along" (.cons (.var 0) (.cons (.var 7) (.cons (.var 3) .nil))))) (.cons (.ret (.bl false))
      .nil) .nil)
      .nil))
      (.cons (.ret (.cmp .Eq (.call "values_along" (.cons (.var 0) (.cons (.tup (.cons (.str "not") (.cons (.tup (.cons (.str "not") (.cons (.var 1) .nil))) .nil))) (.cons (.var 3) .nil)))) (.var 4)))
      .nil)))))⟩
def d__law_loops_right : Def := ⟨3, 9, .pure,
    (.cons (.unp [6, 7] (.var 2))
      (.cons (.set 3 (.lst true (.cons (.var 2) (.cons (.tup (.cons (.bin true .Add (.var 6) (.var 7)) (.cons (.var 7) .nil))) (.cons (.tup (.cons (.var 6) (.cons (.bin true .Mult (.var 7) (.int 2)) .nil))) (.cons (.tup (.cons (.bin true .Add (.var 6) (.slc true (.var 7) .none (.some (.int 1)))) (.cons (.bin true .Add (.slc true (.var 7) (.some (.int 1)) .none) (.slc true (.var 7) .none (.some (.int 1)))) .nil))) .nil))))))
      (.cons (.set 4 (.comp true [8] (.nm 8) (.seq (.var 3)) .none (.tup (.cons (.call "holds_always" (.cons (.var 0) (.cons (.var 1) (.cons (.var 8) .nil)))) (.cons (.call "holds_again" (.cons (.var 0) (.cons (.var 1) (.cons (.var 8) .nil)))) .nil)))))
      (.cons (.ite (.cmp .NotEq (.var 4) (.bin true .Mult (.slc true (.var 4) .none (.some (.int 1))) (.int 4))) (.cons (.ret (.bl false))
      .nil) .nil)
      (.cons (.set 5 (.tup (.cons (.str "was") (.cons (.tup (.cons (.str "not") (.cons (.var 1) .nil))) .nil))))
      (.cons (.ite (.cmp .Eq (.call "holds_again" (.cons (.var 0) (.cons (.var 5) (.cons (.var 2) .nil)))) (.sub (.sub (.var 4) (.int 0)) (.int 0))) (.cons (.ret (.bl false))
      .nil) .nil)
      (.cons (.ret (.cmp .Eq (.lst true (.cons (.call "holds_always" (.cons (.var 0) (.cons (.tup (.cons (.str "was") (.cons (.var 1) .nil))) (.cons (.var 2) .nil)))) .nil)) (.call "values_along" (.cons (.var 0) (.cons (.var 1) (.cons (.slc true (.bin true .Add (.var 6) (.var 7)) .none (.some (.int 1))) .nil))))))
      .nil)))))))⟩
def d_law : Def := ⟨1, 6, .pure,
    (.cons (.for (.nm 1) (.seq (.call "_law_draws" (.cons (.var 0) .nil))) (.cons (.set 2 (.call "_law_board" (.cons (.var 1) (.cons (.int 3) .nil))))
      (.cons (.unp [3, 4] (.comp true [5] (.nm 5) (.rng1 (.int 2)) .none (.call "_law_wish" (.cons (.var 1) (.cons (.bin true .Add (.sub (.var 2) (.int 0)) (.sub (.var 2) (.int 1))) (.cons (.int 3) .nil))))))
      (.cons (.ite (.not (.call "_law_rows_right" (.cons (.var 2) (.cons (.var 3) (.cons (.var 4) (.cons (.call "_law_turns" (.cons (.var 1) (.cons (.var 2) (.cons (.bin true .Add (.int 1) (.call "_law_take" (.cons (.var 1) (.cons (.int 10) .nil)))) .nil)))) .nil)))))) (.cons (.ret (.bl false))
      .nil) .nil)
      (.cons (.ite (.not (.call "_law_loops_right" (.cons (.var 2) (.cons (.var 3) (.cons (.call "_law_loop" (.cons (.var 1) (.cons (.var 2) (.cons (.int 3) (.cons (.int 3) .nil))))) .nil))))) (.cons (.ret (.bl false))
      .nil) .nil)
      .nil)))))
      (.cons (.ret (.bl true))
      .nil))⟩
def topS (i : Nat) : Stmt := PySem.Challenge.pw_wishkeep_k23_whole_what_words_say.main.body.getD i (.Pass ⟨0, 0, 0, 0⟩)
def Pg : Prog := fun s => match s with
  | "is_count" => some d_is_count
  | "is_below" => some d_is_below
  | "letters_of" => some d_letters_of
  | "is_letter" => some d_is_letter
  | "has_bit" => some d_has_bit
  | "is_one_of" => some d_is_one_of
  | "is_turn" => some d_is_turn
  | "place_of" => some d_place_of
  | "are_turns" => some d_are_turns
  | "is_loop" => some d_is_loop
  | "need_loop" => some d_need_loop
  | "inner_of" => some d_inner_of
  | "is_look" => some d_is_look
  | "since_along" => some d_since_along
  | "sign_along" => some d_sign_along
  | "values_along" => some d_values_along
  | "looks_deep" => some d_looks_deep
  | "values_on" => some d_values_on
  | "holds_always" => some d_holds_always
  | "holds_again" => some d_holds_again
  | "_law_mixed" => some d__law_mixed
  | "_law_draws" => some d__law_draws
  | "_law_take" => some d__law_take
  | "_law_some" => some d__law_some
  | "_law_board" => some d__law_board
  | "_law_wish" => some d__law_wish
  | "_law_turns" => some d__law_turns
  | "_law_loop" => some d__law_loop
  | "_law_pairs" => some d__law_pairs
  | "_law_rows_right" => some d__law_rows_right
  | "_law_loops_right" => some d__law_loops_right
  | "law" => some d_law
  | _ => none
def gscs : List Scope := [L2.defScope (topS 15)]
def sg : Sg := ⟨["all", "any", "bool", "enumerate", "int", "isinstance", "len", "list", "max", "range", "str", "sum", "tuple", "zip"], fun s => (Pg s).map (·.np), ["BadLoop", "BadName"], [], [], gscs⟩
def caOf (cs : List Addr) : String → Option Addr := fun s => match s with
  | "BadLoop" => cs[0]?
  | "BadName" => cs[1]?
  | _ => none
def Gs : Globs := fun s => match s with
  | "LOOKS_BACK" => some (.tup [.str "before", .str "was", .str "since"])
  | "MOST_TURNS" => some (.int 200)
  | _ => none
abbrev s_is_count : Stmt := topS 1
theorem sc_is_count : L2.FnScope ["thing"] ["thing"] (L2.defScope s_is_count) := ⟨rfl, rfl, rfl, by decide +kernel, rfl, by decide +kernel, by decide +kernel⟩
theorem ck_is_count : ckSs sg ["thing"] 60 (L2.defScope s_is_count) d_is_count.body (L2.defBody s_is_count) = true := by decide +kernel
abbrev s_is_below : Stmt := topS 2
theorem sc_is_below : L2.FnScope ["many", "thing"] ["many", "thing"] (L2.defScope s_is_below) := ⟨rfl, rfl, rfl, by decide +kernel, rfl, by decide +kernel, by decide +kernel⟩
theorem ck_is_below : ckSs sg ["many", "thing"] 60 (L2.defScope s_is_below) d_is_below.body (L2.defBody s_is_below) = true := by decide +kernel
abbrev s_letters_of : Stmt := topS 9
theorem sc_letters_of : L2.FnScope ["names"] ["names"] (L2.defScope s_letters_of) := ⟨rfl, rfl, rfl, by decide +kernel, rfl, by decide +kernel, by decide +kernel⟩
theorem ck_letters_of : ckSs sg ["names"] 60 (L2.defScope s_letters_of) d_letters_of.body (L2.defBody s_letters_of) = true := by decide +kernel
abbrev s_is_letter : Stmt := topS 10
theorem sc_is_letter : L2.FnScope ["names", "thing"] ["names", "thing"] (L2.defScope s_is_letter) := ⟨rfl, rfl, rfl, by decide +kernel, rfl, by decide +kernel, by decide +kernel⟩
theorem ck_is_letter : ckSs sg ["names", "thing"] 60 (L2.defScope s_is_letter) d_is_letter.body (L2.defBody s_is_letter) = true := by decide +kernel
abbrev s_has_bit : Stmt := topS 11
theorem sc_has_bit : L2.FnScope ["letter", "place"] ["letter", "place"] (L2.defScope s_has_bit) := ⟨rfl, rfl, rfl, by decide +kernel, rfl, by decide +kernel, by decide +kernel⟩
theorem ck_has_bit : ckSs sg ["letter", "place"] 60 (L2.defScope s_has_bit) d_has_bit.body (L2.defBody s_has_bit) = true := by decide +kernel
abbrev s_is_one_of : Stmt := topS 12
theorem sc_is_one_of : L2.FnScope ["names", "thing"] ["names", "thing"] (L2.defScope s_is_one_of) := ⟨rfl, rfl, rfl, by decide +kernel, rfl, by decide +kernel, by decide +kernel⟩
theorem ck_is_one_of : ckSs sg ["names", "thing"] 60 (L2.defScope s_is_one_of) d_is_one_of.body (L2.defBody s_is_one_of) = true := by decide +kernel
abbrev s_is_turn : Stmt := topS 13
theorem sc_is_turn : L2.FnScope ["board", "thing"] ["board", "thing"] (L2.defScope s_is_turn) := ⟨rfl, rfl, rfl, by decide +kernel, rfl, by decide +kernel, by decide +kernel⟩
theorem ck_is_turn : ckSs sg ["board", "thing"] 60 (L2.defScope s_is_turn) d_is_turn.body (L2.defBody s_is_turn) = true := by decide +kernel
abbrev s_place_of : Stmt := topS 14
theorem sc_place_of : L2.FnScope ["board", "name", "side", "names"] ["board", "name"] (L2.defScope s_place_of) := ⟨rfl, rfl, rfl, by decide +kernel, rfl, by decide +kernel, by decide +kernel⟩
theorem ck_place_of : ckSs sg ["board", "name", "side", "names"] 60 (L2.defScope s_place_of) d_place_of.body (L2.defBody s_place_of) = true := by decide +kernel
abbrev s_are_turns : Stmt := topS 15
theorem sc_are_turns : L2.FnScope ["board", "thing", "least", "turn"] ["board", "thing", "least"] (L2.defScope s_are_turns) := ⟨rfl, rfl, rfl, by decide +kernel, rfl, by decide +kernel, by decide +kernel⟩
theorem ck_are_turns : ckSs sg ["board", "thing", "least", "turn"] 60 (L2.defScope s_are_turns) d_are_turns.body (L2.defBody s_are_turns) = true := by decide +kernel
abbrev s_is_loop : Stmt := topS 16
theorem sc_is_loop : L2.FnScope ["board", "thing"] ["board", "thing"] (L2.defScope s_is_loop) := ⟨rfl, rfl, rfl, by decide +kernel, rfl, by decide +kernel, by decide +kernel⟩
theorem ck_is_loop : ckSs sg ["board", "thing"] 60 (L2.defScope s_is_loop) d_is_loop.body (L2.defBody s_is_loop) = true := by decide +kernel
abbrev s_need_loop : Stmt := topS 17
theorem sc_need_loop : L2.FnScope ["board", "thing"] ["board", "thing"] (L2.defScope s_need_loop) := ⟨rfl, rfl, rfl, by decide +kernel, rfl, by decide +kernel, by decide +kernel⟩
theorem ck_need_loop : ckSs sg ["board", "thing"] 60 (L2.defScope s_need_loop) d_need_loop.body (L2.defBody s_need_loop) = true := by decide +kernel
abbrev s_inner_of : Stmt := topS 20
theorem sc_inner_of : L2.FnScope ["wish"] ["wish"] (L2.defScope s_inner_of) := ⟨rfl, rfl, rfl, by decide +kernel, rfl, by decide +kernel, by decide +kernel⟩
theorem ck_inner_of : ckSs sg ["wish"] 60 (L2.defScope s_inner_of) d_inner_of.body (L2.defBody s_inner_of) = true := by decide +kernel
abbrev s_is_look : Stmt := topS 21
theorem sc_is_look : L2.FnScope ["wish"] ["wish"] (L2.defScope s_is_look) := ⟨rfl, rfl, rfl, by decide +kernel, rfl, by decide +kernel, by decide +kernel⟩
theorem ck_is_look : ckSs sg ["wish"] 60 (L2.defScope s_is_look) d_is_look.body (L2.defBody s_is_look) = true := by decide +kernel
abbrev s_since_along : Stmt := topS 23
theorem sc_since_along : L2.FnScope ["holding", "beginning", "values", "held", "holds", "begins"] ["holding", "beginning"] (L2.defScope s_since_along) := ⟨rfl, rfl, rfl, by decide +kernel, rfl, by decide +kernel, by decide +kernel⟩
theorem ck_since_along : ckSs sg ["holding", "beginning", "values", "held", "holds", "begins"] 60 (L2.defScope s_since_along) d_since_along.body (L2.defBody s_since_along) = true := by decide +kernel
abbrev s_sign_along : Stmt := topS 24
theorem sc_sign_along : L2.FnScope ["board", "name", "turns", "side", "place", "turn"] ["board", "name", "turns"] (L2.defScope s_sign_along) := ⟨rfl, rfl, rfl, by decide +kernel, rfl, by decide +kernel, by decide +kernel⟩
theorem ck_sign_along : ckSs sg ["board", "name", "turns", "side", "place", "turn"] 60 (L2.defScope s_sign_along) d_sign_along.body (L2.defBody s_sign_along) = true := by decide +kernel
abbrev s_values_along : Stmt := topS 25
theorem sc_values_along : L2.FnScope ["board", "wish", "turns", "word", "inner", "part", "value", "one", "other"] ["board", "wish", "turns"] (L2.defScope s_values_along) := ⟨rfl, rfl, rfl, by decide +kernel, rfl, by decide +kernel, by decide +kernel⟩
theorem ck_values_along : ckSs sg ["board", "wish", "turns", "word", "inner", "part", "value", "one", "other"] 60 (L2.defScope s_values_along) d_values_along.body (L2.defBody s_values_along) = true := by decide +kernel
abbrev s_looks_deep : Stmt := topS 26
theorem sc_looks_deep : L2.FnScope ["wish", "deepest", "part"] ["wish"] (L2.defScope s_looks_deep) := ⟨rfl, rfl, rfl, by decide +kernel, rfl, by decide +kernel, by decide +kernel⟩
theorem ck_looks_deep : ckSs sg ["wish", "deepest", "part"] 60 (L2.defScope s_looks_deep) d_looks_deep.body (L2.defBody s_looks_deep) = true := by decide +kernel
abbrev s_values_on : Stmt := topS 27
theorem sc_values_on : L2.FnScope ["board", "wish", "loop", "stem", "again"] ["board", "wish", "loop"] (L2.defScope s_values_on) := ⟨rfl, rfl, rfl, by decide +kernel, rfl, by decide +kernel, by decide +kernel⟩
theorem ck_values_on : ckSs sg ["board", "wish", "loop", "stem", "again"] 60 (L2.defScope s_values_on) d_values_on.body (L2.defBody s_values_on) = true := by decide +kernel
abbrev s_holds_always : Stmt := topS 28
theorem sc_holds_always : L2.FnScope ["board", "wish", "loop"] ["board", "wish", "loop"] (L2.defScope s_holds_always) := ⟨rfl, rfl, rfl, by decide +kernel, rfl, by decide +kernel, by decide +kernel⟩
theorem ck_holds_always : ckSs sg ["board", "wish", "loop"] 60 (L2.defScope s_holds_always) d_holds_always.body (L2.defBody s_holds_always) = true := by decide +kernel
abbrev s_holds_again : Stmt := topS 29
theorem sc_holds_again : L2.FnScope ["board", "wish", "loop", "values"] ["board", "wish", "loop"] (L2.defScope s_holds_again) := ⟨rfl, rfl, rfl, by decide +kernel, rfl, by decide +kernel, by decide +kernel⟩
theorem ck_holds_again : ckSs sg ["board", "wish", "loop", "values"] 60 (L2.defScope s_holds_again) d_holds_again.body (L2.defBody s_holds_again) = true := by decide +kernel
abbrev s__law_mixed : Stmt := topS 31
theorem sc__law_mixed : L2.FnScope ["_law_number", "_law_k"] ["_law_number", "_law_k"] (L2.defScope s__law_mixed) := ⟨rfl, rfl, rfl, by decide +kernel, rfl, by decide +kernel, by decide +kernel⟩
theorem ck__law_mixed : ckSs sg ["_law_number", "_law_k"] 60 (L2.defScope s__law_mixed) d__law_mixed.body (L2.defBody s__law_mixed) = true := by decide +kernel
abbrev s__law_draws : Stmt := topS 32
theorem sc__law_draws : L2.FnScope ["_law_script", "_law_cells", "_law_found", "_law_k", "_law_cell", "_law_whole"] ["_law_script"] (L2.defScope s__law_draws) := ⟨rfl, rfl, rfl, by decide +kernel, rfl, by decide +kernel, by decide +kernel⟩
theorem ck__law_draws : ckSs sg ["_law_script", "_law_cells", "_law_found", "_law_k", "_law_cell", "_law_whole"] 60 (L2.defScope s__law_draws) d__law_draws.body (L2.defBody s__law_draws) = true := by decide +kernel
abbrev s__law_take : Stmt := topS 33
theorem sc__law_take : L2.FnScope ["_law_draw", "_law_many", "_law_found"] ["_law_draw", "_law_many"] (L2.defScope s__law_take) := ⟨rfl, rfl, rfl, by decide +kernel, rfl, by decide +kernel, by decide +kernel⟩
theorem ck__law_take : ckSs sg ["_law_draw", "_law_many", "_law_found"] 60 (L2.defScope s__law_take) d__law_take.body (L2.defBody s__law_take) = true := by decide +kernel
abbrev s__law_some : Stmt := topS 34
theorem sc__law_some : L2.FnScope ["_law_draw", "_law_things", "_law_many", "_law_left", "_law_k"] ["_law_draw", "_law_things", "_law_many"] (L2.defScope s__law_some) := ⟨rfl, rfl, rfl, by decide +kernel, rfl, by decide +kernel, by decide +kernel⟩
theorem ck__law_some : ckSs sg ["_law_draw", "_law_things", "_law_many", "_law_left", "_law_k"] 60 (L2.defScope s__law_some) d__law_some.body (L2.defBody s__law_some) = true := by decide +kernel
abbrev s__law_board : Stmt := topS 35
theorem sc__law_board : L2.FnScope ["_law_draw", "_law_most", "_law_names", "_law_comes"] ["_law_draw", "_law_most"] (L2.defScope s__law_board) := ⟨rfl, rfl, rfl, by decide +kernel, rfl, by decide +kernel, by decide +kernel⟩
theorem ck__law_board : ckSs sg ["_law_draw", "_law_most", "_law_names", "_law_comes"] 60 (L2.defScope s__law_board) d__law_board.body (L2.defBody s__law_board) = true := by decide +kernel
abbrev s__law_wish : Stmt := topS 36
theorem sc__law_wish : L2.FnScope ["_law_draw", "_law_names", "_law_deep", "_law_pick", "_law_word", "_law_one", "_law_some_here", "_law_name"] ["_law_draw", "_law_names", "_law_deep"] (L2.defScope s__law_wish) := ⟨rfl, rfl, rfl, by decide +kernel, rfl, by decide +kernel, by decide +kernel⟩
theorem ck__law_wish : ckSs sg ["_law_draw", "_law_names", "_law_deep", "_law_pick", "_law_word", "_law_one", "_law_some_here", "_law_name"] 60 (L2.defScope s__law_wish) d__law_wish.body (L2.defBody s__law_wish) = true := by decide +kernel
abbrev s__law_turns : Stmt := topS 37
theorem sc__law_turns : L2.FnScope ["_law_draw", "_law_board_here", "_law_many", "_law_found", "_law_k", "_law_turn"] ["_law_draw", "_law_board_here", "_law_many"] (L2.defScope s__law_turns) := ⟨rfl, rfl, rfl, by decide +kernel, rfl, by decide +kernel, by decide +kernel⟩
theorem ck__law_turns : ckSs sg ["_law_draw", "_law_board_here", "_law_many", "_law_found", "_law_k", "_law_turn"] 60 (L2.defScope s__law_turns) d__law_turns.body (L2.defBody s__law_turns) = true := by decide +kernel
abbrev s__law_loop : Stmt := topS 38
theorem sc__law_loop : L2.FnScope ["_law_draw", "_law_board_here", "_law_stem", "_law_around", "_law_first"] ["_law_draw", "_law_board_here", "_law_stem", "_law_around"] (L2.defScope s__law_loop) := ⟨rfl, rfl, rfl, by decide +kernel, rfl, by decide +kernel, by decide +kernel⟩
theorem ck__law_loop : ckSs sg ["_law_draw", "_law_board_here", "_law_stem", "_law_around", "_law_first"] 60 (L2.defScope s__law_loop) d__law_loop.body (L2.defBody s__law_loop) = true := by decide +kernel
abbrev s__law_pairs : Stmt := topS 39
theorem sc__law_pairs : L2.FnScope ["_law_one", "_law_other", "_law_found", "_law_both", "_law_third", "_law_was", "_law_since"] ["_law_one", "_law_other"] (L2.defScope s__law_pairs) := ⟨rfl, rfl, rfl, by decide +kernel, rfl, by decide +kernel, by decide +kernel⟩
theorem ck__law_pairs : ckSs sg ["_law_one", "_law_other", "_law_found", "_law_both", "_law_third", "_law_was", "_law_since"] 60 (L2.defScope s__law_pairs) d__law_pairs.body (L2.defBody s__law_pairs) = true := by decide +kernel
abbrev s__law_rows_right : Stmt := topS 40
theorem sc__law_rows_right : L2.FnScope ["_law_board_here", "_law_one", "_law_other", "_law_turns_here", "_law_heard", "_law_many", "_law_this", "_law_that", "_law_value"] ["_law_board_here", "_law_one", "_law_other", "_law_turns_here"] (L2.defScope s__law_rows_right) := ⟨rfl, rfl, rfl, by decide +kernel, rfl, by decide +kernel, by decide +kernel⟩
theorem ck__law_rows_right : ckSs sg ["_law_board_here", "_law_one", "_law_other", "_law_turns_here", "_law_heard", "_law_many", "_law_this", "_law_that", "_law_value"] 60 (L2.defScope s__law_rows_right) d__law_rows_right.body (L2.defBody s__law_rows_right) = true := by decide +kernel
abbrev s__law_loops_right : Stmt := topS 41
theorem sc__law_loops_right : L2.FnScope ["_law_board_here", "_law_one", "_law_loop_here", "_law_those", "_law_heard", "_law_broken", "_law_stem", "_law_around", "_law_other"] ["_law_board_here", "_law_one", "_law_loop_here"] (L2.defScope s__law_loops_right) := ⟨rfl, rfl, rfl, by decide +kernel, rfl, by decide +kernel, by decide +kernel⟩
theorem ck__law_loops_right : ckSs sg ["_law_board_here", "_law_one", "_law_loop_here", "_law_those", "_law_heard", "_law_broken", "_law_stem", "_law_around", "_law_other"] 60 (L2.defScope s__law_loops_right) d__law_loops_right.body (L2.defBody s__law_loops_right) = true := by decide +kernel
abbrev s_law : Stmt := topS 42
theorem sc_law : L2.FnScope ["_law_script", "_law_draw", "_law_board_here", "_law_one", "_law_other", "_law_k"] ["_law_script"] (L2.defScope s_law) := ⟨rfl, rfl, rfl, by decide +kernel, rfl, by decide +kernel, by decide +kernel⟩
theorem ck_law : ckSs sg ["_law_script", "_law_draw", "_law_board_here", "_law_one", "_law_other", "_law_k"] 60 (L2.defScope s_law) d_law.body (L2.defBody s_law) = true := by decide +kernel
end K23

namespace K23
open PySem Mn
noncomputable abbrev CC (k : Nat) : String → List D → Store → R D := callA Gs 1000000 Pg k
theorem call_step {k : Nat} {f : String} {d : Def} {ds : List D} {S : Store} (h : Pg f = some d) (hl : ds.length = d.np) : CC (k + 1) f ds S = leave d.md S (exB Gs 1000000 (CC k) d.body (ds.map some ++ List.replicate (d.n - d.np) none) S) := by
  unfold CC
  rw [callA, h]
  simp only [hl, if_true]
def mixed (n k : Int) : Int := (n % 2147483647 + 7919 * k * k + 31 * k + 5) * 48271 % 2147483647 * 69621 % 2147483629
theorem c_mixed (k : Nat) (n j : Int) (hj : 0 ≤ j ∧ j ≤ 1000000) (S : Store) : CC (k + 1) "_law_mixed" [.int n, .int j] S = .ok (.int (mixed n j)) S := by
  show leave .pure S (exB Gs 1000000 (CC k) d__law_mixed.body [some (.int n), some (.int j)] S) = _
  simp (disch := omega) only [d__law_mixed, exB, exS, evE, R.bind_ok, add_i, mul_r, mul_l, mod_i, List.getElem?_cons_zero, List.getElem?_cons_succ, List.set_cons_zero]
  exact leave_same (by simp [below])
/-- a draw -/
def drw (c s : Int) : O := .dic ["cell", "seed"] [.int c, .int s]
def Dr (S : Store) (a : Nat) : Prop := ∃ c s, S[a]? = some (drw c s)
def Up (S : Store) (a : Nat) (S' : Store) : Prop := ∃ c s, S' = S.set a (drw c s)
theorem drw_below (m : Nat) (c s : Int) : belowO m (drw c s) = true := by simp [drw, belowO, belows, below]
section
variable {S S' S'' : Store} {a b : Nat}
theorem Up.dr (h : Up S a S') (hs : Dr S a) : Dr S' a := by
  obtain ⟨c, s, rfl⟩ := h
  obtain ⟨_, _, e⟩ := hs
  exact ⟨c, s, get_set e⟩
theorem Up.trans (h : Up S a S') (h' : Up S' a S'') : Up S a S'' := by
  obtain ⟨_, _, rfl⟩ := h
  obtain ⟨c, s, rfl⟩ := h'
  exact ⟨c, s, by rw [List.set_set]⟩
theorem Up.old (h : Up S a S') : oldOk S S' := by
  obtain ⟨c, s, rfl⟩ := h
  exact oldOk_set (drw_below _ _ _)
theorem Up.len (h : Up S a S') : S'.length = S.length := by
  obtain ⟨c, s, rfl⟩ := h
  simp
theorem Up.at (h : Up S a S') (hb : a ≠ b) : S'[b]? = S[b]? := by
  obtain ⟨_, _, rfl⟩ := h
  exact get_set_ne hb
theorem Up.refl (h : Dr S a) : Up S a S := by
  obtain ⟨c, s, e⟩ := h
  refine ⟨c, s, ?_⟩
  obtain ⟨hl, e2⟩ := List.getElem?_eq_some_iff.mp e
  rw [← e2, List.set_getElem_self]
theorem Dr.lt (h : Dr S a) : a < S.length := by
  obtain ⟨c, s, e⟩ := h
  exact (List.getElem?_eq_some_iff.mp e).1
theorem Dr.push (h : Dr S a) (T : Store) : Dr (S ++ T) a := by
  obtain ⟨c, s, e⟩ := h
  exact ⟨c, s, by rw [List.getElem?_append_left (List.getElem?_eq_some_iff.mp e).1]; exact e⟩
theorem Up.keep (h : Up S a S') {b : Nat} (hb : Dr S b) : Dr S' b := by
  by_cases e : a = b
  · subst e; exact h.dr hb
  · obtain ⟨c, s, e2⟩ := hb
    exact ⟨c, s, by rw [h.at e]; exact e2⟩
end
theorem g_cell {S : Store} {a : Nat} {c s : Int} (h : S[a]? = some (drw c s)) : dgetA (.ref a) "cell" S = .ok (.int c) S := by
  unfold dgetA; dsimp only
  rw [h]
  show R.ofO (if (Str.ofString "cell") ∈ [Str.ofString "cell", Str.ofString "seed"] then [D.int c, .int s][[Str.ofString "cell", Str.ofString "seed"].idxOf (Str.ofString "cell")]? else none) S = _
  rw [if_pos (by decide), show [Str.ofString "cell", Str.ofString "seed"].idxOf (Str.ofString "cell") = 0 by decide]
  rfl
theorem g_seed {S : Store} {a : Nat} {c s : Int} (h : S[a]? = some (drw c s)) : dgetA (.ref a) "seed" S = .ok (.int s) S := by
  unfold dgetA; dsimp only
  rw [h]
  show R.ofO (if (Str.ofString "seed") ∈ [Str.ofString "cell", Str.ofString "seed"] then [D.int c, .int s][[Str.ofString "cell", Str.ofString "seed"].idxOf (Str.ofString "seed")]? else none) S = _
  rw [if_pos (by decide), show [Str.ofString "cell", Str.ofString "seed"].idxOf (Str.ofString "seed") = 1 by decide]
  rfl
theorem p_cell {S : Store} {a : Nat} {c s d : Int} (h : S[a]? = some (drw c s)) : dputA (.ref a) "cell" (.int d) S = .ok () (S.set a (drw d s)) := by
  unfold dputA; dsimp only
  rw [h]
  show (if (Str.ofString "cell") ∈ [Str.ofString "cell", Str.ofString "seed"] ∧ 2 < sizeLine then R.ok () (S.set a (.dic ["cell", "seed"] ([D.int c, .int s].set ([Str.ofString "cell", Str.ofString "seed"].idxOf (Str.ofString "cell")) (.int d)))) else .bad) = _
  rw [if_pos ⟨by decide, by decide⟩, show [Str.ofString "cell", Str.ofString "seed"].idxOf (Str.ofString "cell") = 0 by decide]
  rfl
theorem p_seed {S : Store} {a : Nat} {c s d : Int} (h : S[a]? = some (drw c s)) : dputA (.ref a) "seed" (.int d) S = .ok () (S.set a (drw c d)) := by
  unfold dputA; dsimp only
  rw [h]
  show (if (Str.ofString "seed") ∈ [Str.ofString "cell", Str.ofString "seed"] ∧ 2 < sizeLine then R.ok () (S.set a (.dic ["cell", "seed"] ([D.int c, .int s].set ([Str.ofString "cell", Str.ofString "seed"].idxOf (Str.ofString "seed")) (.int d)))) else .bad) = _
  rw [if_pos ⟨by decide, by decide⟩, show [Str.ofString "cell", Str.ofString "seed"].idxOf (Str.ofString "seed") = 1 by decide]
  rfl
theorem c_take (k : Nat) (S : Store) (a : Nat) (m : Int) (hm : 0 < m ∧ m ≤ 1000000) (h : Dr S a) :
    Sat (CC (k + 2) "_law_take" [.ref a, .int m] S) fun d S' => ∃ v, d = .int v ∧ 0 ≤ v ∧ v < m ∧ Up S a S' := by
  obtain ⟨c, s, e⟩ := h
  show Sat (leave .pure S (exB Gs 1000000 (CC (k + 1)) d__law_take.body [some (.ref a), some (.int m), none] S)) _
  refine Sat.leave ?_
  have m1 : 0 < m ∧ m < 1073741824 := by omega
  have m2 : 0 ≤ m ∧ m ≤ 1000000 := by omega
  have f1 : ∀ x : Int, 0 ≤ x % m := fun x => Int.emod_nonneg _ (by omega)
  have f2 : ∀ x : Int, x % m < m := fun x => Int.emod_lt_of_pos _ hm.1
  simp only [d__law_take, v_maxd, v_dict, v_dget, x_dput, x_par, par_k, i_rngD, i_zip, v_agen, v_glob, v_chain, v_isx, x_raise, x_kept, x_nil, x_cons, x_set, x_unp, x_sets, x_expr, x_ret, x_pass, x_brk, x_cont, x_ite, x_for, x_whl, v_bl, v_int, v_str, v_ty, v_non, v_var, v_tup, v_lst, v_bin, v_neg, v_not, v_cmp, v_and, v_or, v_ife, v_call, v_blt, v_mth, v_sub, v_slc, v_comp, o_none, o_some, s_nil, s_cons, i_seq, i_rng1, i_rng2, i_enum, nx_nx, nx_rt, nx_bk, nx_ct, ite_t, ite_f, and_t, and_f, or_t, or_f, R.bind_ok, R.bind_assoc, ofO_some, tr_b, optI_i, itm_t, itm_l, seqL_l, gdOf_tup, gdOf_lst, neg_i, aug_i, add_i, sub_i, slc_t, slc_l, add_l, len_t, len_l, list_t, list_l, tuple_l, max_i, ls_i, le_i, gt_i, ge_i, sub_t, sub_l, List.getElem?_cons_zero, List.getElem?_cons_succ, List.set_cons_zero, List.set_cons_succ, Bool.not_true, Bool.not_false, g_cell e]
  by_cases hc : 0 < c
  · rw [decide_eq_true hc]
    simp only [v_maxd, v_dict, v_dget, x_dput, x_par, par_k, i_rngD, i_zip, v_agen, v_glob, v_chain, v_isx, x_raise, x_kept, x_nil, x_cons, x_set, x_unp, x_sets, x_expr, x_ret, x_pass, x_brk, x_cont, x_ite, x_for, x_whl, v_bl, v_int, v_str, v_ty, v_non, v_var, v_tup, v_lst, v_bin, v_neg, v_not, v_cmp, v_and, v_or, v_ife, v_call, v_blt, v_mth, v_sub, v_slc, v_comp, o_none, o_some, s_nil, s_cons, i_seq, i_rng1, i_rng2, i_enum, nx_nx, nx_rt, nx_bk, nx_ct, ite_t, ite_f, and_t, and_f, or_t, or_f, R.bind_ok, R.bind_assoc, ofO_some, tr_b, optI_i, itm_t, itm_l, seqL_l, gdOf_tup, gdOf_lst, neg_i, aug_i, add_i, sub_i, slc_t, slc_l, add_l, len_t, len_l, list_t, list_l, tuple_l, max_i, ls_i, le_i, gt_i, ge_i, sub_t, sub_l, List.getElem?_cons_zero, List.getElem?_cons_succ, List.set_cons_zero, List.set_cons_succ, Bool.not_true, Bool.not_false, g_cell e, mod_i m1.1, div_i m1, p_cell e]
    exact .ok ⟨_, rfl, oldOk_set (drw_below _ _ _), by simp, by simp [below], _, rfl, f1 _, f2 _, _, _, rfl⟩
  · rw [decide_eq_false hc]
    simp only [v_maxd, v_dict, v_dget, x_dput, x_par, par_k, i_rngD, i_zip, v_agen, v_glob, v_chain, v_isx, x_raise, x_kept, x_nil, x_cons, x_set, x_unp, x_sets, x_expr, x_ret, x_pass, x_brk, x_cont, x_ite, x_for, x_whl, v_bl, v_int, v_str, v_ty, v_non, v_var, v_tup, v_lst, v_bin, v_neg, v_not, v_cmp, v_and, v_or, v_ife, v_call, v_blt, v_mth, v_sub, v_slc, v_comp, o_none, o_some, s_nil, s_cons, i_seq, i_rng1, i_rng2, i_enum, nx_nx, nx_rt, nx_bk, nx_ct, ite_t, ite_f, and_t, and_f, or_t, or_f, R.bind_ok, R.bind_assoc, ofO_some, tr_b, optI_i, itm_t, itm_l, seqL_l, gdOf_tup, gdOf_lst, neg_i, aug_i, add_i, sub_i, slc_t, slc_l, add_l, len_t, len_l, list_t, list_l, tuple_l, max_i, ls_i, le_i, gt_i, ge_i, sub_t, sub_l, List.getElem?_cons_zero, List.getElem?_cons_succ, List.set_cons_zero, List.set_cons_succ, Bool.not_true, Bool.not_false, g_seed e, c_mixed k _ _ m2, p_seed e, g_seed (get_set e), div_i (i := mixed s m) (j := 7) (by decide), mod_i m1.1]
    exact .ok ⟨_, rfl, oldOk_set (drw_below _ _ _), by simp, by simp [below], _, rfl, f1 _, f2 _, _, _, rfl⟩
end K23

namespace K23
open PySem Mn
theorem rng_get0 {n i : Nat} {d : D} (h : (rng 0 n 1)[i]? = some d) : i < n ∧ d = .int (i : Int) := by
  obtain ⟨h1, h2⟩ := rng_get h
  refine ⟨h1, ?_⟩
  rw [h2]
  congr 1
  omega
theorem for_satG {g : Gd} {tg : Tg} {b : Mn.Env → Store → R F} {l : List D} {Q : F → Store → Prop} (I : Nat → Mn.Env → Store → Prop) (hg : ∀ i e S, I i e S → gdOk S g)
    (step : ∀ i d e S, l[i]? = some d → I i e S → ∃ e1, asg tg d e = some e1 ∧ Sat (b e1 S) (nxQ (I (i + 1)) Q)) (hend : ∀ e S, I l.length e S → Q (.nx e) S) :
    ∀ {e S}, I 0 e S → Sat (forA g tg b l e S) Q := by
  suffices h : ∀ (r : List D) (i : Nat) (e : Mn.Env) (S : Store), i + r.length = l.length → (∀ j d, r[j]? = some d → l[i + j]? = some d) → I i e S → Sat (forA g tg b r e S) Q from fun {e S} z => h l 0 e S (by simp) (fun j d q => by rw [Nat.zero_add]; exact q) z
  intro r
  induction r with
  | nil =>
    intro i e S hl hi z
    have : i = l.length := by simpa using hl
    subst this
    unfold forA
    rw [if_pos (hg _ _ _ z)]
    exact .ok (hend _ _ z)
  | cons d r ih =>
    intro i e S hl hi z
    unfold forA
    rw [if_pos (hg _ _ _ z)]
    obtain ⟨e1, h1, h2⟩ := step i d e S (hi 0 d rfl) z
    rw [h1]
    dsimp only
    refine h2.bind fun f S1 hf => ?_
    have go : ∀ e2 S2, I (i + 1) e2 S2 → Sat (forA g tg b r e2 S2) Q := fun e2 S2 z2 => ih (i + 1) e2 S2 (by simp at hl; omega) (fun j d q => by
      have := hi (j + 1) d (by simpa using q)
      rw [show i + 1 + j = i + (j + 1) by omega]
      exact this) z2
    cases f with
    | nx e2 => exact go _ _ hf
    | ct e2 => exact go _ _ hf
    | bk e2 => exact .ok hf
    | rt d => exact .ok hf
theorem comp_satG {g : Gd} {tg : Tg} {c : Mn.Env → Store → R Bool} {t : Mn.Env → Store → R D} {e0 : Mn.Env} {l : List D} (I : Nat → List D → Store → Prop) (hg : ∀ i acc S, I i acc S → gdOk S g)
    (step : ∀ i d acc S, l[i]? = some d → I i acc S → ∃ e1, asg tg d e0 = some e1 ∧ Sat (c e1 S) fun ok S1 => if ok = true then acc.length < sizeLine ∧ Sat (t e1 S1) fun y S2 => I (i + 1) (acc ++ [y]) S2 else I (i + 1) acc S1) :
    ∀ {acc S}, I 0 acc S → Sat (compA g tg c t e0 l acc S) (I l.length) := by
  suffices h : ∀ (r : List D) (i : Nat) (acc : List D) (S : Store), i + r.length = l.length → (∀ j d, r[j]? = some d → l[i + j]? = some d) → I i acc S → Sat (compA g tg c t e0 r acc S) (I l.length) from fun {acc S} z => h l 0 acc S (by simp) (fun j d q => by rw [Nat.zero_add]; exact q) z
  intro r
  induction r with
  | nil =>
    intro i e S hl hi z
    have : i = l.length := by simpa using hl
    subst this
    unfold compA
    rw [if_pos (hg _ _ _ z)]
    exact .ok z
  | cons d r ih =>
    intro i acc S hl hi z
    unfold compA
    rw [if_pos (hg _ _ _ z)]
    obtain ⟨e1, h1, h2⟩ := step i d acc S (hi 0 d rfl) z
    rw [h1]
    dsimp only
    refine h2.nox.bind fun ok S1 hk => ?_
    have go : ∀ acc S2, I (i + 1) acc S2 → Sat (compA g tg c t e0 r acc S2) (I l.length) := fun e2 S2 z2 => ih (i + 1) e2 S2 (by simp at hl; omega) (fun j d q => by
      have := hi (j + 1) d (by simpa using q)
      rw [show i + 1 + j = i + (j + 1) by omega]
      exact this) z2
    cases ok with
    | false =>
      rw [if_neg (by decide)] at hk
      exact go _ _ hk
    | true =>
      rw [if_pos rfl] at hk
      rw [if_pos rfl]
      refine hk.2.nox.bind fun y S2 hy => ?_
      rw [if_pos hk.1]
      exact go _ _ hy
theorem leaveT {S : Store} {r : R F} {Q : D → Store → Prop} (h : Sat r fun f S' => ∃ d, f = .rt d ∧ oldOk S S' ∧ below S.length d = true ∧ Q d (S'.take S.length)) : Sat (leave .pure S r) Q := by
  obtain ⟨f, S', rfl, d, rfl, h1, h2, h3⟩ := h
  show Sat (fin .pure S d S') Q
  unfold fin
  rw [if_pos h1, outD_below h2]
  exact ⟨_, _, rfl, h3⟩
theorem len_r {v : Bool} {S : Store} {n : Nat} {l : List D} (h : S[n]? = some (.lst l)) : bltA v "len" [.ref n] S = .ok (.int l.length) S := by
  show (match seqA S (.ref n) with | some l => R.ok (D.int l.length) S | none => .bad) = _
  rw [show seqA S (.ref n) = some l by show seqL S (.ref n) = _; unfold seqL; dsimp only; rw [h]]
theorem seqL_r {S : Store} {n : Nat} {l : List D} (h : S[n]? = some (.lst l)) : seqL S (.ref n) = some l := by
  unfold seqL; dsimp only; rw [h]
theorem recv_l {S : Store} {n : Nat} {l : List D} (h : S[n]? = some (.lst l)) : recvA "list" S (.ref n) = some () := by
  show (seqL S (.ref n)).map _ = _
  rw [seqL_r h]; rfl
theorem pop_r {S : Store} {n : Nat} {l : List D} {i : Int} {d : D} (h : S[n]? = some (.lst l)) (h0 : 0 ≤ i) (h1 : l[i.toNat]? = some d) (hz : l.length ≤ sizeLine) : mthA "list" "pop" (.ref n) [.int i] S = .ok d (S.set n (.lst (l.eraseIdx i.toNat))) := by
  show popA (.ref n) [.int i] S = _
  unfold popA
  dsimp only
  rw [h]
  dsimp only
  have hl := (List.getElem?_eq_some_iff.mp h1).1
  rw [if_pos ⟨h0, by omega, hz⟩, h1]
  rfl
theorem app_r {S : Store} {n : Nat} {l : List D} {d : D} (h : S[n]? = some (.lst l)) (hz : l.length < sizeLine) : mthA "list" "append" (.ref n) [d] S = .ok .non (S.set n (.lst (l ++ [d]))) := by
  show appA (.ref n) [d] S = _
  unfold appA
  dsimp only
  rw [h]
  dsimp only
  rw [if_pos hz]
theorem strs_below (n : Nat) : ∀ l : List Str, belows n (l.map D.str) = true
  | [] => rfl
  | x :: r => by simp [belows, below, strs_below n r]
theorem set_app {S T : Store} {a : Nat} {o : O} (h : a < S.length) : (S ++ T).set a o = S.set a o ++ T := List.set_append_left _ _ h
theorem set_top {S : Store} {o o' : O} : (S ++ [o]).set S.length o' = S ++ [o'] := by
  rw [List.set_append_right _ _ (Nat.le_refl _), Nat.sub_self]; rfl
theorem erase_perm {α : Type} : ∀ (l : List α) (i : Nat) (h : i < l.length), (l[i] :: l.eraseIdx i).Perm l
  | [], _, h => absurd h (by simp)
  | x :: r, 0, _ => .refl _
  | x :: r, i + 1, h => by
    have := erase_perm r i (by simpa using h)
    simp only [List.getElem_cons_succ, List.eraseIdx_cons_succ]
    exact (List.Perm.swap x _ _).trans (this.cons x)
theorem erase_map {α β : Type} (f : α → β) : ∀ (l : List α) (i : Nat), (l.map f).eraseIdx i = (l.eraseIdx i).map f
  | [], _ => rfl
  | x :: r, 0 => rfl
  | x :: r, i + 1 => by simp [erase_map f r i]
theorem c_some (k : Nat) (S : Store) (a n : Nat) (things : List Str) (h : Dr S a) (hn : n ≤ things.length) (ht : things.length ≤ 100) :
    Sat (CC (k + 3) "_law_some" [.ref a, .lst (things.map .str), .int n] S) fun d S' => ∃ ys left : List Str, d = .tup (ys.map .str) ∧ ys.length = n ∧ (ys ++ left).Perm things ∧ Up S a S' := by
  have hal := h.lt
  show Sat (leave .pure S (exB Gs 1000000 (CC (k + 2)) d__law_some.body [some (.ref a), some (.lst (things.map .str)), some (.int n), none, none] S)) _
  refine leaveT ?_
  simp only [d__law_some, v_maxd, v_dict, v_dget, x_dput, x_par, par_k, i_rngD, i_zip, v_agen, v_glob, v_chain, v_isx, x_raise, x_kept, x_nil, x_cons, x_set, x_unp, x_sets, x_expr, x_ret, x_pass, x_brk, x_cont, x_ite, x_for, x_whl, v_bl, v_int, v_str, v_ty, v_non, v_var, v_tup, v_lst, v_bin, v_neg, v_not, v_cmp, v_and, v_or, v_ife, v_call, v_blt, v_mth, v_sub, v_slc, v_comp, o_none, o_some, s_nil, s_cons, i_seq, i_rng1, i_rng2, i_enum, nx_nx, nx_rt, nx_bk, nx_ct, ite_t, ite_f, and_t, and_f, or_t, or_f, R.bind_ok, R.bind_assoc, ofO_some, tr_b, optI_i, itm_t, itm_l, seqL_l, gdOf_tup, gdOf_lst, neg_i, aug_i, add_i, sub_i, slc_t, slc_l, add_l, len_t, len_l, list_t, list_l, tuple_l, max_i, ls_i, le_i, gt_i, ge_i, sub_t, sub_l, List.getElem?_cons_zero, List.getElem?_cons_succ, List.set_cons_zero, List.set_cons_succ, Bool.not_true, Bool.not_false]
  rw [mkL_r (sz (by simp; omega)), R.bind_ok, if_pos (by omega), R.bind_ok]
  simp only [wipe, Int.toNat_natCast, List.set_cons_zero, List.set_cons_succ]
  have z := comp_satG (g := []) (tg := .nm 4) (c := fun e S => tru (evOc Gs (CC (k + 2)) .none e S)) (t := fun e S => evE Gs (CC (k + 2)) (.mth "list" "pop" (.var 3) (.cons (.call "_law_take" (.cons (.var 0) (.cons (.blt true "len" (.cons (.var 3) .nil)) .nil))) .nil)) e S)
    (e0 := [some (.ref a), some (.lst (things.map .str)), some (.int n), some (.ref S.length), none]) (l := rng 0 n 1)
    (fun i acc S' => ∃ (ys left : List Str) (c s : Int), acc = ys.map .str ∧ ys.length = i ∧ (ys ++ left).Perm things ∧ S' = S.set a (drw c s) ++ [.lst (left.map .str)]) (fun _ _ _ _ => gdOk_nil) (fun i d acc S' hd hI => by
      obtain ⟨hi, rfl⟩ := rng_get0 hd
      obtain ⟨ys, left, c, s, rfl, hl, hp, rfl⟩ := hI
      have hpl := hp.length_eq
      rw [List.length_append] at hpl
      refine ⟨_, rfl, ?_⟩
      simp only [oc_none, tru, R.bind_ok, tr_b, ofO_some]
      refine .ok ?_
      rw [if_pos rfl]
      refine ⟨sz' (by simp; omega), ?_⟩
      have atB : ∀ c s l, (S.set a (drw c s) ++ [O.lst l])[S.length]? = some (.lst l) := fun c s l => by
        rw [List.getElem?_append_right (by simp)]; simp
      have dr : Dr (S.set a (drw c s) ++ [.lst (left.map .str)]) a := ⟨c, s, by rw [List.getElem?_append_left (by simpa using hal)]; simp [hal]⟩
      simp only [v_maxd, v_dict, v_dget, x_dput, x_par, par_k, i_rngD, i_zip, v_agen, v_glob, v_chain, v_isx, x_raise, x_kept, x_nil, x_cons, x_set, x_unp, x_sets, x_expr, x_ret, x_pass, x_brk, x_cont, x_ite, x_for, x_whl, v_bl, v_int, v_str, v_ty, v_non, v_var, v_tup, v_lst, v_bin, v_neg, v_not, v_cmp, v_and, v_or, v_ife, v_call, v_blt, v_mth, v_sub, v_slc, v_comp, o_none, o_some, s_nil, s_cons, i_seq, i_rng1, i_rng2, i_enum, nx_nx, nx_rt, nx_bk, nx_ct, ite_t, ite_f, and_t, and_f, or_t, or_f, R.bind_ok, R.bind_assoc, ofO_some, tr_b, optI_i, itm_t, itm_l, seqL_l, gdOf_tup, gdOf_lst, neg_i, aug_i, add_i, sub_i, slc_t, slc_l, add_l, len_t, len_l, list_t, list_l, tuple_l, max_i, ls_i, le_i, gt_i, ge_i, sub_t, sub_l, List.getElem?_cons_zero, List.getElem?_cons_succ, List.set_cons_zero, List.set_cons_succ, Bool.not_true, Bool.not_false, recv_l (atB _ _ _), len_r (atB _ _ _), List.length_map]
      refine (c_take k _ a (left.length : Int) (by omega) dr).bind fun d S2 ⟨v, hd, hv0, hv1, u⟩ => ?_
      subst hd
      obtain ⟨c2, s2, rfl⟩ := u
      rw [set_app (by simpa using hal), List.set_set]
      have hv : v.toNat < left.length := by omega
      rw [pop_r (atB _ _ _) hv0 (d := .str left[v.toNat]) (by rw [List.getElem?_map, List.getElem?_eq_getElem hv]; rfl) (sz (by simp; omega))]
      refine .ok ⟨ys ++ [left[v.toNat]], left.eraseIdx v.toNat, c2, s2, by simp, by simp [hl], ?_, ?_⟩
      · rw [List.append_assoc]
        exact ((List.Perm.append_left ys (erase_perm _ _ hv)).trans hp)
      · have := set_top (S := S.set a (drw c2 s2)) (o := .lst (left.map D.str)) (o' := .lst ((left.map D.str).eraseIdx v.toNat))
        rw [List.length_set] at this
        rw [this, erase_map]) (acc := []) (S := S ++ [.lst (things.map .str)]) (by
      obtain ⟨c, s, e⟩ := h
      refine ⟨[], things, c, s, rfl, rfl, .refl _, ?_⟩
      obtain ⟨hl, e2⟩ := List.getElem?_eq_some_iff.mp e
      rw [← e2, List.set_getElem_self])
  refine Sat.bind (show Sat (cmpB Gs (CC (k + 2)) [] (.nm 4) .none _ _ _ _) _ from z) fun l S2 hl => ?_
  rw [rng_len] at hl
  obtain ⟨ys, left, c, s, rfl, hl, hp, rfl⟩ := hl
  have hpl := hp.length_eq
  rw [List.length_append] at hpl
  rw [mkL_v (sz (by simp; omega))]
  simp only [v_maxd, v_dict, v_dget, x_dput, x_par, par_k, i_rngD, i_zip, v_agen, v_glob, v_chain, v_isx, x_raise, x_kept, x_nil, x_cons, x_set, x_unp, x_sets, x_expr, x_ret, x_pass, x_brk, x_cont, x_ite, x_for, x_whl, v_bl, v_int, v_str, v_ty, v_non, v_var, v_tup, v_lst, v_bin, v_neg, v_not, v_cmp, v_and, v_or, v_ife, v_call, v_blt, v_mth, v_sub, v_slc, v_comp, o_none, o_some, s_nil, s_cons, i_seq, i_rng1, i_rng2, i_enum, nx_nx, nx_rt, nx_bk, nx_ct, ite_t, ite_f, and_t, and_f, or_t, or_f, R.bind_ok, R.bind_assoc, ofO_some, tr_b, optI_i, itm_t, itm_l, seqL_l, gdOf_tup, gdOf_lst, neg_i, aug_i, add_i, sub_i, slc_t, slc_l, add_l, len_t, len_l, list_t, list_l, tuple_l, max_i, ls_i, le_i, gt_i, ge_i, sub_t, sub_l, List.getElem?_cons_zero, List.getElem?_cons_succ, List.set_cons_zero, List.set_cons_succ, Bool.not_true, Bool.not_false]
  rw [mkT_v (sz (by simp; omega)), R.bind_ok]
  refine .ok ⟨_, rfl, ⟨by simp, fun i hi => ?_⟩, by simp only [below]; exact strs_below _ _, ys, left, rfl, hl, hp, c, s, ?_⟩
  · rw [List.getElem?_append_left (by simpa using hi)]
    exact (oldOk_set (drw_below _ _ _)).2 i hi
  · rw [List.take_append_of_le_length (by simp)]
    rw [List.take_of_length_le (by simp)]
end K23

namespace K23
open PySem Mn
theorem any_in {x : D} {a : PyData} {j k : Nat} (hx : gd x j = true) (ha : pyG x = some a) : ∀ (l : List D) (bs : List PyData), gds l k = true → pyGs l = some bs → (bs.any fun z => PyData.eqv z a) = decide (x ∈ l)
  | [], bs, _, h => by
    simp only [pyGs, Option.some.injEq] at h
    subst h
    rfl
  | d :: r, bs, hg, h => by
    simp only [gds, Bool.and_eq_true] at hg
    simp only [pyGs] at h
    cases e1 : pyG d with
    | none => rw [e1] at h; cases h
    | some p =>
      cases e2 : pyGs r with
      | none => rw [e1, e2] at h; cases h
      | some ps =>
        rw [e1, e2] at h
        cases h
        rw [List.any_cons, any_in hx ha r ps hg.2 e2, Bool.eq_iff_iff]
        have := gd_eqv d x k j hg.1 hx p a e1 ha
        simp only [Bool.or_eq_true, this, decide_eq_true_eq, List.mem_cons]
        exact ⟨fun z => z.elim (fun z => .inl z.symm) .inr, fun z => z.elim (fun z => .inl z.symm) .inr⟩
theorem in_t {S : Store} {x : D} {l : List D} (hx : gd x 63 = true) (hl : gds l 62 = true) : cmpA .In x (.tup l) S = some (decide (x ∈ l)) := by
  obtain ⟨a, h1, h2, h3⟩ := gd_py x 63 hx
  obtain ⟨bs, g1, g2, g3⟩ := gds_py l 62 hl
  have sa : SeqAt.shaped a = true := by simp [SeqAt.shaped, h2]; omega
  have sb : SeqAt.shaped (.list bs) = true := by simp [SeqAt.shaped, PyData.canLay0, PyData.depth, g2]; omega
  show inA S x (.tup l) = _
  unfold inA
  dsimp only
  rw [py_gd hx, h1, Option.bind_some, g1, Option.bind_some, if_pos ⟨sa, sb⟩, any_in hx h1 l bs hl g1]
theorem in_l {S : Store} {x : D} {l : List D} (hx : gd x 63 = true) (hl : gds l 62 = true) : cmpA .In x (.lst l) S = some (decide (x ∈ l)) := by
  obtain ⟨a, h1, h2, h3⟩ := gd_py x 63 hx
  obtain ⟨bs, g1, g2, g3⟩ := gds_py l 62 hl
  have sa : SeqAt.shaped a = true := by simp [SeqAt.shaped, h2]; omega
  have sb : SeqAt.shaped (.list bs) = true := by simp [SeqAt.shaped, PyData.canLay0, PyData.depth, g2]; omega
  show inA S x (.lst l) = _
  unfold inA
  dsimp only
  have e : py S (.lst l) = some (.list bs) := by
    show (pyGs l).map PyData.list = _
    rw [g1]; rfl
  rw [py_gd hx, h1, Option.bind_some, e, Option.bind_some]
  dsimp only
  rw [if_pos ⟨sa, sb⟩, any_in hx h1 l bs hl g1]
theorem py_r {S : Store} {n : Nat} {l : List D} (h : S[n]? = some (.lst l)) : py S (.ref n) = py S (.lst l) := by
  show (match S[n]? with | some (.lst l) => (pyGs l).map PyData.list | _ => none) = (pyGs l).map PyData.list
  rw [h]
theorem ne_rl {S : Store} {n : Nat} {l m : List D} (h : S[n]? = some (.lst l)) (hl : gds l 63 = true) (hm : gds m 63 = true) : cmpA .NotEq (.ref n) (.lst m) S = some (!decide (l = m)) := by
  have z := ne_g (S := S) (d := .lst l) (e := .lst m) (by simpa [gd] using hl) (by simpa [gd] using hm)
  show (eqA S (.ref n) (.lst m)).map _ = _
  have z : (eqA S (.lst l) (.lst m)).map (!·) = some (!decide (D.lst l = D.lst m)) := z
  unfold eqA at z ⊢
  rw [py_r h, z]
  simp
def NM : List Str := ["b", "aab", "zz", "a", "cdxyzq", "ok", "bca"]
def brd (A B : List Str) : D := .tup [.tup (A.map .str), .tup (B.map .str)]
structure Bd (A B : List Str) : Prop where
  nd : (A ++ B).Nodup
  nm : ∀ x ∈ A ++ B, x ∈ NM
  la : A.length ≤ 3
  lb : B.length ≤ 3
theorem nm_ok {x : Str} (h : x ∈ NM) : PyData.strOk x = true := by
  have : ∀ y ∈ NM, PyData.strOk y = true := by decide +kernel
  exact this x h
theorem c_board (m : Nat) (hm : m ≤ 3) (k : Nat) (S : Store) (a : Nat) (h : Dr S a) :
    Sat (CC (k + 4) "_law_board" [.ref a, .int (m : Int)] S) fun d S' => ∃ A B, d = brd A B ∧ Bd A B ∧ Up S a S' := by
  show Sat (leave .pure S (exB Gs 1000000 (CC (k + 3)) d__law_board.body [some (.ref a), some (.int (m : Int)), none, none] S)) _
  refine Sat.leave ?_
  simp only [d__law_board, v_maxd, v_dict, v_dget, x_dput, x_par, par_k, i_rngD, i_zip, v_agen, v_glob, v_chain, v_isx, x_raise, x_kept, x_nil, x_cons, x_set, x_unp, x_sets, x_expr, x_ret, x_pass, x_brk, x_cont, x_ite, x_for, x_whl, v_bl, v_int, v_str, v_ty, v_non, v_var, v_tup, v_lst, v_bin, v_neg, v_not, v_cmp, v_and, v_or, v_ife, v_call, v_blt, v_mth, v_sub, v_slc, v_comp, o_none, o_some, s_nil, s_cons, i_seq, i_rng1, i_rng2, i_enum, nx_nx, nx_rt, nx_bk, nx_ct, ite_t, ite_f, and_t, and_f, or_t, or_f, R.bind_ok, R.bind_assoc, ofO_some, tr_b, optI_i, itm_t, itm_l, seqL_l, gdOf_tup, gdOf_lst, neg_i, aug_i, add_i, sub_i, slc_t, slc_l, add_l, len_t, len_l, list_t, list_l, tuple_l, max_i, ls_i, le_i, gt_i, ge_i, sub_t, sub_l, List.getElem?_cons_zero, List.getElem?_cons_succ, List.set_cons_zero, List.set_cons_succ, Bool.not_true, Bool.not_false]
  rw [mkL_v (sz (by simp))]
  try simp only [v_maxd, v_dict, v_dget, x_dput, x_par, par_k, i_rngD, i_zip, v_agen, v_glob, v_chain, v_isx, x_raise, x_kept, x_nil, x_cons, x_set, x_unp, x_sets, x_expr, x_ret, x_pass, x_brk, x_cont, x_ite, x_for, x_whl, v_bl, v_int, v_str, v_ty, v_non, v_var, v_tup, v_lst, v_bin, v_neg, v_not, v_cmp, v_and, v_or, v_ife, v_call, v_blt, v_mth, v_sub, v_slc, v_comp, o_none, o_some, s_nil, s_cons, i_seq, i_rng1, i_rng2, i_enum, nx_nx, nx_rt, nx_bk, nx_ct, ite_t, ite_f, and_t, and_f, or_t, or_f, R.bind_ok, R.bind_assoc, ofO_some, tr_b, optI_i, itm_t, itm_l, seqL_l, gdOf_tup, gdOf_lst, neg_i, aug_i, add_i, sub_i, slc_t, slc_l, add_l, len_t, len_l, list_t, list_l, tuple_l, max_i, ls_i, le_i, gt_i, ge_i, sub_t, sub_l, List.getElem?_cons_zero, List.getElem?_cons_succ, List.set_cons_zero, List.set_cons_succ, Bool.not_true, Bool.not_false]
  refine (c_some k S a 6 NM h (by decide) (by decide)).bind fun d S1 ⟨ys, left, hd, hl, hp, u1⟩ => ?_
  subst hd
  try simp only [v_maxd, v_dict, v_dget, x_dput, x_par, par_k, i_rngD, i_zip, v_agen, v_glob, v_chain, v_isx, x_raise, x_kept, x_nil, x_cons, x_set, x_unp, x_sets, x_expr, x_ret, x_pass, x_brk, x_cont, x_ite, x_for, x_whl, v_bl, v_int, v_str, v_ty, v_non, v_var, v_tup, v_lst, v_bin, v_neg, v_not, v_cmp, v_and, v_or, v_ife, v_call, v_blt, v_mth, v_sub, v_slc, v_comp, o_none, o_some, s_nil, s_cons, i_seq, i_rng1, i_rng2, i_enum, nx_nx, nx_rt, nx_bk, nx_ct, ite_t, ite_f, and_t, and_f, or_t, or_f, R.bind_ok, R.bind_assoc, ofO_some, tr_b, optI_i, itm_t, itm_l, seqL_l, gdOf_tup, gdOf_lst, neg_i, aug_i, add_i, sub_i, slc_t, slc_l, add_l, len_t, len_l, list_t, list_l, tuple_l, max_i, ls_i, le_i, gt_i, ge_i, sub_t, sub_l, List.getElem?_cons_zero, List.getElem?_cons_succ, List.set_cons_zero, List.set_cons_succ, Bool.not_true, Bool.not_false]
  refine (c_take (k + 1) S1 a ((m : Int) + 1) (by omega) (u1.dr h)).bind fun d S2 ⟨v, hd, hv0, hv1, u2⟩ => ?_
  subst hd
  have u2 := u1.trans u2
  try simp only [v_maxd, v_dict, v_dget, x_dput, x_par, par_k, i_rngD, i_zip, v_agen, v_glob, v_chain, v_isx, x_raise, x_kept, x_nil, x_cons, x_set, x_unp, x_sets, x_expr, x_ret, x_pass, x_brk, x_cont, x_ite, x_for, x_whl, v_bl, v_int, v_str, v_ty, v_non, v_var, v_tup, v_lst, v_bin, v_neg, v_not, v_cmp, v_and, v_or, v_ife, v_call, v_blt, v_mth, v_sub, v_slc, v_comp, o_none, o_some, s_nil, s_cons, i_seq, i_rng1, i_rng2, i_enum, nx_nx, nx_rt, nx_bk, nx_ct, ite_t, ite_f, and_t, and_f, or_t, or_f, R.bind_ok, R.bind_assoc, ofO_some, tr_b, optI_i, itm_t, itm_l, seqL_l, gdOf_tup, gdOf_lst, neg_i, aug_i, add_i, sub_i, slc_t, slc_l, add_l, len_t, len_l, list_t, list_l, tuple_l, max_i, ls_i, le_i, gt_i, ge_i, sub_t, sub_l, List.getElem?_cons_zero, List.getElem?_cons_succ, List.set_cons_zero, List.set_cons_succ, Bool.not_true, Bool.not_false]
  refine (c_take (k + 1) S2 a ((m : Int) + 1) (by omega) (u2.dr h)).bind fun d S3 ⟨w, hd, hw0, hw1, u3⟩ => ?_
  subst hd
  have u3 := u2.trans u3
  obtain ⟨v, rfl⟩ := Int.eq_ofNat_of_zero_le hv0
  obtain ⟨w, rfl⟩ := Int.eq_ofNat_of_zero_le hw0
  have e3 : (3 : Int) + (w : Int) = ((3 + w : Nat) : Int) := by omega
  have c1 : cutA (ys.map D.str) none (some (v : Int)) = (ys.take v).map D.str := by rw [cut_to, List.map_take]
  have c2 : cutA (ys.map D.str) (some 3) (some (3 + (w : Int))) = ((ys.drop 3).take w).map D.str := by
    rw [e3, show (3 : Int) = ((3 : Nat) : Int) from rfl, cut_mid, ← List.map_drop, ← List.map_take]
  try simp only [v_maxd, v_dict, v_dget, x_dput, x_par, par_k, i_rngD, i_zip, v_agen, v_glob, v_chain, v_isx, x_raise, x_kept, x_nil, x_cons, x_set, x_unp, x_sets, x_expr, x_ret, x_pass, x_brk, x_cont, x_ite, x_for, x_whl, v_bl, v_int, v_str, v_ty, v_non, v_var, v_tup, v_lst, v_bin, v_neg, v_not, v_cmp, v_and, v_or, v_ife, v_call, v_blt, v_mth, v_sub, v_slc, v_comp, o_none, o_some, s_nil, s_cons, i_seq, i_rng1, i_rng2, i_enum, nx_nx, nx_rt, nx_bk, nx_ct, ite_t, ite_f, and_t, and_f, or_t, or_f, R.bind_ok, R.bind_assoc, ofO_some, tr_b, optI_i, itm_t, itm_l, seqL_l, gdOf_tup, gdOf_lst, neg_i, aug_i, add_i, sub_i, slc_t, slc_l, add_l, len_t, len_l, list_t, list_l, tuple_l, max_i, ls_i, le_i, gt_i, ge_i, sub_t, sub_l, List.getElem?_cons_zero, List.getElem?_cons_succ, List.set_cons_zero, List.set_cons_succ, Bool.not_true, Bool.not_false, c1, c2, mkT_v (l := [D.tup ((ys.take v).map D.str), D.tup (((ys.drop 3).take w).map D.str)]) (sz (by simp))]
  have sub : (ys.take v ++ (ys.drop 3).take w).Sublist ys := by
    have : (ys.take v ++ (ys.drop 3).take w).Sublist (ys.take 3 ++ ys.drop 3) := by
      refine List.Sublist.append ?_ (List.take_sublist _ _)
      have e : ys.take v = (ys.take 3).take v := by rw [List.take_take]; congr 1; omega
      rw [e]
      exact List.take_sublist _ _
    rwa [List.take_append_drop] at this
  have nd : ys.Nodup := (List.nodup_append.mp ((hp.nodup_iff).mpr (by decide +kernel : NM.Nodup))).1
  refine .ok ⟨_, rfl, u3.old, u3.len, ?_, _, _, rfl, ⟨nd.sublist sub, fun x hx => ?_, by simp; omega, by simp; omega⟩, u3⟩
  · simp only [below, belows, strs_below, Bool.and_self]
  · exact hp.mem_iff.mp (List.mem_append_left _ (sub.subset hx))

/-! ### turns -/
def td (t : Int × Int) : D := .tup [.int t.1, .int t.2]
theorem td_gd (t : Int × Int) (k : Nat) : gd (td t) (k + 1) = true := by simp [td, gd, gds]
theorem tds_gd (T : List (Int × Int)) (k : Nat) : gds (T.map td) (k + 1) = true := gds_of fun d hd => by
  obtain ⟨t, _, rfl⟩ := List.mem_map.mp hd
  exact td_gd t k
theorem leaveO {S : Store} {r : R F} {Q : D → Store → Prop} (h : Sat r fun f S' => ∃ d x, f = .rt d ∧ oldOk S S' ∧ outD S' S.length d = some x ∧ Q x (S'.take S.length)) : Sat (leave .pure S r) Q := by
  obtain ⟨f, S', rfl, d, x, rfl, h1, h2, h3⟩ := h
  show Sat (fin .pure S d S') Q
  unfold fin
  rw [if_pos h1, h2]
  exact ⟨_, _, rfl, h3⟩
theorem shl1 {S : Store} {n : Nat} (h : n ≤ 3) : binA true .LShift (.int 1) (.int (n : Int)) S = .ok (.int (2 ^ n)) S := by
  have e : ariA .LShift 1 (n : Int) = some (1 * 2 ^ n) := by
    unfold ariA
    dsimp only
    rw [if_pos ⟨by omega, by omega, by decide⟩, Int.toNat_natCast]
  show R.ofO ((ariA .LShift 1 (n : Int)).map D.int) S = _
  rw [e, Int.one_mul]
  rfl
theorem shl {S : Store} {n : Nat} (h : n ≤ 3) : binA true .LShift (.int 1) (.int (n : Int)) S = .ok (.int (2 ^ n)) S ∧ (0 : Int) < 2 ^ n ∧ (2 : Int) ^ n ≤ 1000000 := by
  refine ⟨shl1 h, ?_⟩
  match n, h with
  | 0, _ => decide
  | 1, _ => decide
  | 2, _ => decide
  | 3, _ => decide
theorem brd0 {A B : List Str} {S : Store} : subA S (brd A B) (.int 0) = some (.tup (A.map .str)) := nr rfl
theorem brd1 {A B : List Str} {S : Store} : subA S (brd A B) (.int 1) = some (.tup (B.map .str)) := nr rfl
theorem app_at {S : Store} {a : Nat} {c s : Int} {l : List D} : (S.set a (drw c s) ++ [O.lst l])[S.length]? = some (.lst l) := by
  rw [List.getElem?_append_right (by simp)]; simp
theorem app_dr {S : Store} {a : Nat} {c s : Int} {l : List D} (h : a < S.length) : Dr (S.set a (drw c s) ++ [O.lst l]) a :=
  ⟨c, s, by rw [List.getElem?_append_left (by simpa using h)]; simp [h]⟩
theorem app_up {S S' : Store} {a : Nat} {c s : Int} {l : List D} (h : a < S.length) (u : Up (S.set a (drw c s) ++ [O.lst l]) a S') : ∃ c s, S' = S.set a (drw c s) ++ [O.lst l] := by
  obtain ⟨c2, s2, rfl⟩ := u
  exact ⟨c2, s2, by rw [set_app (by simpa using h), List.set_set]⟩
def tok (A B : List Str) (t : Int × Int) : Prop := 0 ≤ t.1 ∧ t.1 < 2 ^ A.length ∧ 0 ≤ t.2 ∧ t.2 < 2 ^ B.length
theorem c_turns (k : Nat) (S : Store) (a n : Nat) (A B : List Str) (hb : Bd A B) (h : Dr S a) (hn : n ≤ 1000) :
    Sat (CC (k + 3) "_law_turns" [.ref a, brd A B, .int n] S) fun d S' => ∃ T : List (Int × Int), d = .lst (T.map td) ∧ T.length = n ∧ (∀ t ∈ T, tok A B t) ∧ Up S a S' := by
  have hal := h.lt
  rw [show CC (k + 3) "_law_turns" [.ref a, brd A B, .int n] S = _ from call_step (k := k + 2) (d := d__law_turns) rfl rfl]
  show Sat (leave .pure S (exB Gs 1000000 (CC (k + 2)) d__law_turns.body [some (.ref a), some (brd A B), some (.int n), none, none, none] S)) _
  refine leaveO ?_
  simp only [d__law_turns, v_maxd, v_dict, v_dget, x_dput, x_par, par_k, i_rngD, i_zip, v_agen, v_glob, v_chain, v_isx, x_raise, x_kept, x_nil, x_cons, x_set, x_unp, x_sets, x_expr, x_ret, x_pass, x_brk, x_cont, x_ite, x_for, x_whl, v_bl, v_int, v_str, v_ty, v_non, v_var, v_tup, v_lst, v_bin, v_neg, v_not, v_cmp, v_and, v_or, v_ife, v_call, v_blt, v_mth, v_sub, v_slc, v_comp, o_none, o_some, s_nil, s_cons, i_seq, i_rng1, i_rng2, i_enum, nx_nx, nx_rt, nx_bk, nx_ct, ite_t, ite_f, and_t, and_f, or_t, or_f, R.bind_ok, R.bind_assoc, ofO_some, tr_b, optI_i, itm_t, itm_l, seqL_l, gdOf_tup, gdOf_lst, neg_i, aug_i, add_i, sub_i, slc_t, slc_l, add_l, len_t, len_l, list_t, list_l, tuple_l, max_i, ls_i, le_i, gt_i, ge_i, sub_t, sub_l, List.getElem?_cons_zero, List.getElem?_cons_succ, List.set_cons_zero, List.set_cons_succ, Bool.not_true, Bool.not_false]
  rw [mkL_r (sz (by simp)), R.bind_ok, if_pos (by omega), R.bind_ok]
  simp only [Int.toNat_natCast, List.set_cons_zero, List.set_cons_succ]
  refine Sat.bind (P := fun f S' => ∃ e x y, f = .nx e ∧ e = [some (.ref a), some (brd A B), some (.int n), some (.ref S.length), x, y] ∧ ∃ (T : List (Int × Int)) (c s : Int), T.length = n ∧ (∀ t ∈ T, tok A B t) ∧ S' = S.set a (drw c s) ++ [.lst (T.map td)]) ?_ fun f S' ⟨e, x, y, hf, he, T, c, s, hT, hok, hS⟩ => ?_
  · unfold forB
    refine for_satG (g := []) (fun i e S' => ∃ x y, e = [some (.ref a), some (brd A B), some (.int n), some (.ref S.length), x, y] ∧ ∃ (T : List (Int × Int)) (c s : Int), T.length = i ∧ (∀ t ∈ T, tok A B t) ∧ S' = S.set a (drw c s) ++ [.lst (T.map td)]) (fun _ _ _ _ => gdOk_nil) ?_ ?_ ?_
    · rintro i d e S' hd ⟨x, y, rfl, T, c, s, hT, hok, rfl⟩
      obtain ⟨hi, rfl⟩ := rng_get0 hd
      refine ⟨_, rfl, ?_⟩
      try simp only [v_maxd, v_dict, v_dget, x_dput, x_par, par_k, i_rngD, i_zip, v_agen, v_glob, v_chain, v_isx, x_raise, x_kept, x_nil, x_cons, x_set, x_unp, x_sets, x_expr, x_ret, x_pass, x_brk, x_cont, x_ite, x_for, x_whl, v_bl, v_int, v_str, v_ty, v_non, v_var, v_tup, v_lst, v_bin, v_neg, v_not, v_cmp, v_and, v_or, v_ife, v_call, v_blt, v_mth, v_sub, v_slc, v_comp, o_none, o_some, s_nil, s_cons, i_seq, i_rng1, i_rng2, i_enum, nx_nx, nx_rt, nx_bk, nx_ct, ite_t, ite_f, and_t, and_f, or_t, or_f, R.bind_ok, R.bind_assoc, ofO_some, tr_b, optI_i, itm_t, itm_l, seqL_l, gdOf_tup, gdOf_lst, neg_i, aug_i, add_i, sub_i, slc_t, slc_l, add_l, len_t, len_l, list_t, list_l, tuple_l, max_i, ls_i, le_i, gt_i, ge_i, sub_t, sub_l, List.getElem?_cons_zero, List.getElem?_cons_succ, List.set_cons_zero, List.set_cons_succ, Bool.not_true, Bool.not_false, brd0, brd1, List.length_map, (shl hb.la).1, (shl hb.lb).1]
      refine (c_take k _ a (2 ^ A.length) (shl (S := S) hb.la).2 (app_dr hal)).bind fun d S2 ⟨v, hd, v0, v1, u⟩ => ?_
      subst hd
      obtain ⟨c2, s2, rfl⟩ := app_up hal u
      try simp only [v_maxd, v_dict, v_dget, x_dput, x_par, par_k, i_rngD, i_zip, v_agen, v_glob, v_chain, v_isx, x_raise, x_kept, x_nil, x_cons, x_set, x_unp, x_sets, x_expr, x_ret, x_pass, x_brk, x_cont, x_ite, x_for, x_whl, v_bl, v_int, v_str, v_ty, v_non, v_var, v_tup, v_lst, v_bin, v_neg, v_not, v_cmp, v_and, v_or, v_ife, v_call, v_blt, v_mth, v_sub, v_slc, v_comp, o_none, o_some, s_nil, s_cons, i_seq, i_rng1, i_rng2, i_enum, nx_nx, nx_rt, nx_bk, nx_ct, ite_t, ite_f, and_t, and_f, or_t, or_f, R.bind_ok, R.bind_assoc, ofO_some, tr_b, optI_i, itm_t, itm_l, seqL_l, gdOf_tup, gdOf_lst, neg_i, aug_i, add_i, sub_i, slc_t, slc_l, add_l, len_t, len_l, list_t, list_l, tuple_l, max_i, ls_i, le_i, gt_i, ge_i, sub_t, sub_l, List.getElem?_cons_zero, List.getElem?_cons_succ, List.set_cons_zero, List.set_cons_succ, Bool.not_true, Bool.not_false, brd0, brd1, List.length_map, (shl hb.la).1, (shl hb.lb).1]
      refine (c_take k _ a (2 ^ B.length) (shl (S := S) hb.lb).2 (app_dr hal)).bind fun d S2 ⟨w, hd, w0, w1, u⟩ => ?_
      subst hd
      obtain ⟨c2, s2, rfl⟩ := app_up hal u

      rw [mkT_v (sz (by simp)), R.bind_ok]
      try simp only [v_maxd, v_dict, v_dget, x_dput, x_par, par_k, i_rngD, i_zip, v_agen, v_glob, v_chain, v_isx, x_raise, x_kept, x_nil, x_cons, x_set, x_unp, x_sets, x_expr, x_ret, x_pass, x_brk, x_cont, x_ite, x_for, x_whl, v_bl, v_int, v_str, v_ty, v_non, v_var, v_tup, v_lst, v_bin, v_neg, v_not, v_cmp, v_and, v_or, v_ife, v_call, v_blt, v_mth, v_sub, v_slc, v_comp, o_none, o_some, s_nil, s_cons, i_seq, i_rng1, i_rng2, i_enum, nx_nx, nx_rt, nx_bk, nx_ct, ite_t, ite_f, and_t, and_f, or_t, or_f, R.bind_ok, R.bind_assoc, ofO_some, tr_b, optI_i, itm_t, itm_l, seqL_l, gdOf_tup, gdOf_lst, neg_i, aug_i, add_i, sub_i, slc_t, slc_l, add_l, len_t, len_l, list_t, list_l, tuple_l, max_i, ls_i, le_i, gt_i, ge_i, sub_t, sub_l, List.getElem?_cons_zero, List.getElem?_cons_succ, List.set_cons_zero, List.set_cons_succ, Bool.not_true, Bool.not_false, mkL_v (l := []) (sz (by simp)), ne_rl app_at (tds_gd T 62) (m := []) rfl]
      have fin : ∀ (t : Int × Int) (c s : Int) (x y : Option D), tok A B t → Sat (R.ok (F.nx [some (.ref a), some (brd A B), some (.int n), some (.ref S.length), x, y]) (S.set a (drw c s) ++ [.lst (T.map td ++ [td t])]))
          (nxQ (fun e S' => ∃ x y, e = [some (.ref a), some (brd A B), some (.int n), some (.ref S.length), x, y] ∧ ∃ (T : List (Int × Int)) (c s : Int), T.length = i + 1 ∧ (∀ t ∈ T, tok A B t) ∧ S' = S.set a (drw c s) ++ [.lst (T.map td)]) fun f S' => ∃ e x y, f = .nx e ∧ e = [some (.ref a), some (brd A B), some (.int n), some (.ref S.length), x, y] ∧ ∃ (T : List (Int × Int)) (c s : Int), T.length = n ∧ (∀ t ∈ T, tok A B t) ∧ S' = S.set a (drw c s) ++ [.lst (T.map td)]) :=
        fun t c s x y ht => .ok ⟨x, y, rfl, T ++ [t], c, s, by simp [hT], fun z hz => (List.mem_append.mp hz).elim (hok z) fun q => by rw [List.mem_singleton.mp q]; exact ht, by simp⟩
      have top : ∀ {c s : Int} {l l' : List D}, (S.set a (drw c s) ++ [O.lst l]).set S.length (.lst l') = S.set a (drw c s) ++ [.lst l'] := fun {c s l l'} => by
        have := set_top (S := S.set a (drw c s)) (o := .lst l) (o' := .lst l')
        rwa [List.length_set] at this
      by_cases hT0 : T = []
      · subst hT0
        try simp only [v_maxd, v_dict, v_dget, x_dput, x_par, par_k, i_rngD, i_zip, v_agen, v_glob, v_chain, v_isx, x_raise, x_kept, x_nil, x_cons, x_set, x_unp, x_sets, x_expr, x_ret, x_pass, x_brk, x_cont, x_ite, x_for, x_whl, v_bl, v_int, v_str, v_ty, v_non, v_var, v_tup, v_lst, v_bin, v_neg, v_not, v_cmp, v_and, v_or, v_ife, v_call, v_blt, v_mth, v_sub, v_slc, v_comp, o_none, o_some, s_nil, s_cons, i_seq, i_rng1, i_rng2, i_enum, nx_nx, nx_rt, nx_bk, nx_ct, ite_t, ite_f, and_t, and_f, or_t, or_f, R.bind_ok, R.bind_assoc, ofO_some, tr_b, optI_i, itm_t, itm_l, seqL_l, gdOf_tup, gdOf_lst, neg_i, aug_i, add_i, sub_i, slc_t, slc_l, add_l, len_t, len_l, list_t, list_l, tuple_l, max_i, ls_i, le_i, gt_i, ge_i, sub_t, sub_l, List.getElem?_cons_zero, List.getElem?_cons_succ, List.set_cons_zero, List.set_cons_succ, Bool.not_true, Bool.not_false, List.map_nil, decide_true, Bool.not_true, recv_l app_at]
        rw [app_r app_at (sz' (by simp)), R.bind_ok]
        try simp only [v_maxd, v_dict, v_dget, x_dput, x_par, par_k, i_rngD, i_zip, v_agen, v_glob, v_chain, v_isx, x_raise, x_kept, x_nil, x_cons, x_set, x_unp, x_sets, x_expr, x_ret, x_pass, x_brk, x_cont, x_ite, x_for, x_whl, v_bl, v_int, v_str, v_ty, v_non, v_var, v_tup, v_lst, v_bin, v_neg, v_not, v_cmp, v_and, v_or, v_ife, v_call, v_blt, v_mth, v_sub, v_slc, v_comp, o_none, o_some, s_nil, s_cons, i_seq, i_rng1, i_rng2, i_enum, nx_nx, nx_rt, nx_bk, nx_ct, ite_t, ite_f, and_t, and_f, or_t, or_f, R.bind_ok, R.bind_assoc, ofO_some, tr_b, optI_i, itm_t, itm_l, seqL_l, gdOf_tup, gdOf_lst, neg_i, aug_i, add_i, sub_i, slc_t, slc_l, add_l, len_t, len_l, list_t, list_l, tuple_l, max_i, ls_i, le_i, gt_i, ge_i, sub_t, sub_l, List.getElem?_cons_zero, List.getElem?_cons_succ, List.set_cons_zero, List.set_cons_succ, Bool.not_true, Bool.not_false, top]
        exact fin (v, w) _ _ _ _ ⟨v0, v1, w0, w1⟩
      · have ne : decide (T.map td = []) = false := decide_eq_false (by simpa using hT0)
        rw [ne]
        try simp only [v_maxd, v_dict, v_dget, x_dput, x_par, par_k, i_rngD, i_zip, v_agen, v_glob, v_chain, v_isx, x_raise, x_kept, x_nil, x_cons, x_set, x_unp, x_sets, x_expr, x_ret, x_pass, x_brk, x_cont, x_ite, x_for, x_whl, v_bl, v_int, v_str, v_ty, v_non, v_var, v_tup, v_lst, v_bin, v_neg, v_not, v_cmp, v_and, v_or, v_ife, v_call, v_blt, v_mth, v_sub, v_slc, v_comp, o_none, o_some, s_nil, s_cons, i_seq, i_rng1, i_rng2, i_enum, nx_nx, nx_rt, nx_bk, nx_ct, ite_t, ite_f, and_t, and_f, or_t, or_f, R.bind_ok, R.bind_assoc, ofO_some, tr_b, optI_i, itm_t, itm_l, seqL_l, gdOf_tup, gdOf_lst, neg_i, aug_i, add_i, sub_i, slc_t, slc_l, add_l, len_t, len_l, list_t, list_l, tuple_l, max_i, ls_i, le_i, gt_i, ge_i, sub_t, sub_l, List.getElem?_cons_zero, List.getElem?_cons_succ, List.set_cons_zero, List.set_cons_succ, Bool.not_true, Bool.not_false]
        refine (c_take k _ a 4 (by decide) (app_dr hal)).bind fun d S2 ⟨q, hd, _, _, u⟩ => ?_
        subst hd
        obtain ⟨c3, s3, rfl⟩ := app_up hal u
        try simp only [v_maxd, v_dict, v_dget, x_dput, x_par, par_k, i_rngD, i_zip, v_agen, v_glob, v_chain, v_isx, x_raise, x_kept, x_nil, x_cons, x_set, x_unp, x_sets, x_expr, x_ret, x_pass, x_brk, x_cont, x_ite, x_for, x_whl, v_bl, v_int, v_str, v_ty, v_non, v_var, v_tup, v_lst, v_bin, v_neg, v_not, v_cmp, v_and, v_or, v_ife, v_call, v_blt, v_mth, v_sub, v_slc, v_comp, o_none, o_some, s_nil, s_cons, i_seq, i_rng1, i_rng2, i_enum, nx_nx, nx_rt, nx_bk, nx_ct, ite_t, ite_f, and_t, and_f, or_t, or_f, R.bind_ok, R.bind_assoc, ofO_some, tr_b, optI_i, itm_t, itm_l, seqL_l, gdOf_tup, gdOf_lst, neg_i, aug_i, add_i, sub_i, slc_t, slc_l, add_l, len_t, len_l, list_t, list_l, tuple_l, max_i, ls_i, le_i, gt_i, ge_i, sub_t, sub_l, List.getElem?_cons_zero, List.getElem?_cons_succ, List.set_cons_zero, List.set_cons_succ, Bool.not_true, Bool.not_false, eq_i]
        by_cases hq : q = 0
        · rw [decide_eq_true hq]
          have hl : 0 < (T.map td).length := by
            rw [List.length_map]
            exact List.length_pos_iff.mpr hT0
          have at1 : L2.atI (T.map td) (-1) = some (td (T.getLast hT0)) := by
            have := atI_neg (l := T.map td) (k := 0) hl
            rw [show (-1 : Int) - ((0 : Nat) : Int) = -1 from rfl] at this
            rw [this, List.getElem?_map, List.length_map, Nat.sub_zero, ← List.getLast?_eq_getElem?, List.getLast?_eq_some_getLast hT0]
            rfl
          try simp only [v_maxd, v_dict, v_dget, x_dput, x_par, par_k, i_rngD, i_zip, v_agen, v_glob, v_chain, v_isx, x_raise, x_kept, x_nil, x_cons, x_set, x_unp, x_sets, x_expr, x_ret, x_pass, x_brk, x_cont, x_ite, x_for, x_whl, v_bl, v_int, v_str, v_ty, v_non, v_var, v_tup, v_lst, v_bin, v_neg, v_not, v_cmp, v_and, v_or, v_ife, v_call, v_blt, v_mth, v_sub, v_slc, v_comp, o_none, o_some, s_nil, s_cons, i_seq, i_rng1, i_rng2, i_enum, nx_nx, nx_rt, nx_bk, nx_ct, ite_t, ite_f, and_t, and_f, or_t, or_f, R.bind_ok, R.bind_assoc, ofO_some, tr_b, optI_i, itm_t, itm_l, seqL_l, gdOf_tup, gdOf_lst, neg_i, aug_i, add_i, sub_i, slc_t, slc_l, add_l, len_t, len_l, list_t, list_l, tuple_l, max_i, ls_i, le_i, gt_i, ge_i, sub_t, sub_l, List.getElem?_cons_zero, List.getElem?_cons_succ, List.set_cons_zero, List.set_cons_succ, Bool.not_true, Bool.not_false, sub_r app_at, at1, recv_l app_at]
          rw [app_r app_at (sz' (by simp; omega)), R.bind_ok]
          try simp only [v_maxd, v_dict, v_dget, x_dput, x_par, par_k, i_rngD, i_zip, v_agen, v_glob, v_chain, v_isx, x_raise, x_kept, x_nil, x_cons, x_set, x_unp, x_sets, x_expr, x_ret, x_pass, x_brk, x_cont, x_ite, x_for, x_whl, v_bl, v_int, v_str, v_ty, v_non, v_var, v_tup, v_lst, v_bin, v_neg, v_not, v_cmp, v_and, v_or, v_ife, v_call, v_blt, v_mth, v_sub, v_slc, v_comp, o_none, o_some, s_nil, s_cons, i_seq, i_rng1, i_rng2, i_enum, nx_nx, nx_rt, nx_bk, nx_ct, ite_t, ite_f, and_t, and_f, or_t, or_f, R.bind_ok, R.bind_assoc, ofO_some, tr_b, optI_i, itm_t, itm_l, seqL_l, gdOf_tup, gdOf_lst, neg_i, aug_i, add_i, sub_i, slc_t, slc_l, add_l, len_t, len_l, list_t, list_l, tuple_l, max_i, ls_i, le_i, gt_i, ge_i, sub_t, sub_l, List.getElem?_cons_zero, List.getElem?_cons_succ, List.set_cons_zero, List.set_cons_succ, Bool.not_true, Bool.not_false, top]
          exact fin _ _ _ _ _ (hok _ (List.getLast_mem hT0))
        · rw [decide_eq_false hq]
          try simp only [v_maxd, v_dict, v_dget, x_dput, x_par, par_k, i_rngD, i_zip, v_agen, v_glob, v_chain, v_isx, x_raise, x_kept, x_nil, x_cons, x_set, x_unp, x_sets, x_expr, x_ret, x_pass, x_brk, x_cont, x_ite, x_for, x_whl, v_bl, v_int, v_str, v_ty, v_non, v_var, v_tup, v_lst, v_bin, v_neg, v_not, v_cmp, v_and, v_or, v_ife, v_call, v_blt, v_mth, v_sub, v_slc, v_comp, o_none, o_some, s_nil, s_cons, i_seq, i_rng1, i_rng2, i_enum, nx_nx, nx_rt, nx_bk, nx_ct, ite_t, ite_f, and_t, and_f, or_t, or_f, R.bind_ok, R.bind_assoc, ofO_some, tr_b, optI_i, itm_t, itm_l, seqL_l, gdOf_tup, gdOf_lst, neg_i, aug_i, add_i, sub_i, slc_t, slc_l, add_l, len_t, len_l, list_t, list_l, tuple_l, max_i, ls_i, le_i, gt_i, ge_i, sub_t, sub_l, List.getElem?_cons_zero, List.getElem?_cons_succ, List.set_cons_zero, List.set_cons_succ, Bool.not_true, Bool.not_false, recv_l app_at]
          rw [app_r app_at (sz' (by simp; omega)), R.bind_ok]
          try simp only [v_maxd, v_dict, v_dget, x_dput, x_par, par_k, i_rngD, i_zip, v_agen, v_glob, v_chain, v_isx, x_raise, x_kept, x_nil, x_cons, x_set, x_unp, x_sets, x_expr, x_ret, x_pass, x_brk, x_cont, x_ite, x_for, x_whl, v_bl, v_int, v_str, v_ty, v_non, v_var, v_tup, v_lst, v_bin, v_neg, v_not, v_cmp, v_and, v_or, v_ife, v_call, v_blt, v_mth, v_sub, v_slc, v_comp, o_none, o_some, s_nil, s_cons, i_seq, i_rng1, i_rng2, i_enum, nx_nx, nx_rt, nx_bk, nx_ct, ite_t, ite_f, and_t, and_f, or_t, or_f, R.bind_ok, R.bind_assoc, ofO_some, tr_b, optI_i, itm_t, itm_l, seqL_l, gdOf_tup, gdOf_lst, neg_i, aug_i, add_i, sub_i, slc_t, slc_l, add_l, len_t, len_l, list_t, list_l, tuple_l, max_i, ls_i, le_i, gt_i, ge_i, sub_t, sub_l, List.getElem?_cons_zero, List.getElem?_cons_succ, List.set_cons_zero, List.set_cons_succ, Bool.not_true, Bool.not_false, top]
          exact fin (v, w) _ _ _ _ ⟨v0, v1, w0, w1⟩
    · rintro e S' ⟨x, y, rfl, T, c, s, hT, hok, rfl⟩
      rw [rng_len] at hT
      exact ⟨_, x, y, rfl, rfl, T, c, s, hT, hok, rfl⟩
    · obtain ⟨c, s, e⟩ := h
      obtain ⟨hl, e2⟩ := List.getElem?_eq_some_iff.mp e
      exact ⟨none, none, rfl, [], c, s, rfl, by simp, by rw [← e2, List.set_getElem_self]; rfl⟩
  · subst hf he hS
    try simp only [v_maxd, v_dict, v_dget, x_dput, x_par, par_k, i_rngD, i_zip, v_agen, v_glob, v_chain, v_isx, x_raise, x_kept, x_nil, x_cons, x_set, x_unp, x_sets, x_expr, x_ret, x_pass, x_brk, x_cont, x_ite, x_for, x_whl, v_bl, v_int, v_str, v_ty, v_non, v_var, v_tup, v_lst, v_bin, v_neg, v_not, v_cmp, v_and, v_or, v_ife, v_call, v_blt, v_mth, v_sub, v_slc, v_comp, o_none, o_some, s_nil, s_cons, i_seq, i_rng1, i_rng2, i_enum, nx_nx, nx_rt, nx_bk, nx_ct, ite_t, ite_f, and_t, and_f, or_t, or_f, R.bind_ok, R.bind_assoc, ofO_some, tr_b, optI_i, itm_t, itm_l, seqL_l, gdOf_tup, gdOf_lst, neg_i, aug_i, add_i, sub_i, slc_t, slc_l, add_l, len_t, len_l, list_t, list_l, tuple_l, max_i, ls_i, le_i, gt_i, ge_i, sub_t, sub_l, List.getElem?_cons_zero, List.getElem?_cons_succ, List.set_cons_zero, List.set_cons_succ, Bool.not_true, Bool.not_false]
    refine .ok ⟨_, .lst (T.map td), rfl, ⟨by simp, fun i hi => ?_⟩, ?_, T, rfl, hT, hok, c, s, ?_⟩
    · rw [List.getElem?_append_left (by simpa using hi)]
      exact (oldOk_set (drw_below _ _ _)).2 i hi
    · unfold outD
      rw [if_neg (by simp [below])]
      dsimp only
      rw [app_at]
      dsimp only
      rw [if_pos (gds_below _ 1 _ (tds_gd T 0))]
    · rw [List.take_append_of_le_length (by simp), List.take_of_length_le (by simp)]
end K23

namespace K23
open PySem Mn
/-! ### wishes -/
inductive W where
  | yes | no | sg (x : Str) | nt (a : W) | an (a b : W) | or (a b : W) | bf (a : W) | ws (a : W) | si (a b : W)
def W.d : W → D
  | .yes => .tup [.str "yes"]
  | .no => .tup [.str "no"]
  | .sg x => .tup [.str "sign", .str x]
  | .nt a => .tup [.str "not", a.d]
  | .an a b => .tup [.str "and", a.d, b.d]
  | .or a b => .tup [.str "or", a.d, b.d]
  | .bf a => .tup [.str "before", a.d]
  | .ws a => .tup [.str "was", a.d]
  | .si a b => .tup [.str "since", a.d, b.d]
def W.dep : W → Nat
  | .yes | .no | .sg _ => 1
  | .nt a | .bf a | .ws a => a.dep + 1
  | .an a b | .or a b | .si a b => max a.dep b.dep + 1
def W.ok (ns : List Str) : W → Prop
  | .yes | .no => True
  | .sg x => x ∈ ns
  | .nt a | .bf a | .ws a => a.ok ns
  | .an a b | .or a b | .si a b => a.ok ns ∧ b.ok ns
theorem W.bel (n : Nat) : ∀ w : W, below n w.d = true
  | .yes | .no | .sg _ => rfl
  | .nt a | .bf a | .ws a => by simp [W.d, below, belows, W.bel n a]
  | .an a b | .or a b | .si a b => by simp [W.d, below, belows, W.bel n a, W.bel n b]
def wl : List Str := ["not", "not", "and", "and", "or", "before", "before", "was", "since"]
theorem wl_at {v : Int} (h0 : ¬ v < 3) (h1 : v < 12) : ∃ u : Str, L2.atI [D.str "not", .str "not", .str "and", .str "and", .str "or", .str "before", .str "before", .str "was", .str "since"] (v - 3) = some (.str u) ∧ (u = "not" ∨ u = "and" ∨ u = "or" ∨ u = "before" ∨ u = "was" ∨ u = "since") := by
  obtain ⟨n, hn⟩ := Int.eq_ofNat_of_zero_le (show 0 ≤ v - 3 by omega)
  rw [hn, atI_nat]
  have : n < 9 := by omega
  match n, this with
  | 0, _ => exact ⟨_, rfl, by simp⟩
  | 1, _ => exact ⟨_, rfl, by simp⟩
  | 2, _ => exact ⟨_, rfl, by simp⟩
  | 3, _ => exact ⟨_, rfl, by simp⟩
  | 4, _ => exact ⟨_, rfl, by simp⟩
  | 5, _ => exact ⟨_, rfl, by simp⟩
  | 6, _ => exact ⟨_, rfl, by simp⟩
  | 7, _ => exact ⟨_, rfl, by simp⟩
  | 8, _ => exact ⟨_, rfl, by simp⟩
theorem mul_tt {S : Store} {l : List D} {k : Int} (h : 1 ≤ k ∧ k ≤ 1000) (h2 : l.length ≤ 1000) : binA true .Mult (.tup l) (.int k) S = .ok (.tup (rep k l)) S := by
  show mulA true S (.tup l) (.int k) = _
  unfold mulA
  dsimp only
  rw [if_pos ⟨h.1, h.2, h2⟩]
theorem rep3 {α : Type} (f : α → D) (l : List α) : rep 3 (l.map f) = (l ++ l ++ l).map f := by
  unfold rep
  simp [List.replicate]
theorem s_gd {x : Str} (h : PyData.strOk x = true) (k : Nat) : gd (.str x) k = true := by simp [gd, h]
theorem nb_in {S : Store} {u : Str} (hu : PyData.strOk u = true) : cmpA .In (.str u) (.tup [.str "not", .str "before", .str "was"]) S = some (decide (u = "not" ∨ u = "before" ∨ u = "was")) := by
  rw [in_t (s_gd hu 63) (by decide +kernel)]
  congr 1
  rw [Bool.eq_iff_iff]
  simp
theorem comp_map {G : Globs} {call : String → List D → Store → R D} {g : Gd} {tg : Tg} {t : E} {e0 : Mn.Env} {S : Store} (y : D → D) (hg : gdOk S g) (l : List D) (hl : l.length < sizeLine)
    (h : ∀ d ∈ l, ∃ e1, asg tg d e0 = some e1 ∧ evE G call t e1 S = .ok (y d) S) : cmpB G call g tg .none t e0 l S = .ok (l.map y) S := by
  have z := comp_keep (g := g) (tg := tg) (c := fun e S => tru (evOc G call .none e S)) (t := fun e S => evE G call t e S) (e0 := e0) (S := S) (fun _ => true) y hg l [] (by simpa using hl) (fun d hd => by
    obtain ⟨e1, h1, h2⟩ := h d hd
    exact ⟨e1, h1, by simp only [oc_none, tru, R.bind_ok, tr_b, ofO_some], fun _ => h2⟩)
  rw [List.nil_append, show l.filter (fun _ => true) = l from List.filter_eq_self.mpr (by simp)] at z
  exact z
def lfs (ns : List Str) : List W := [.yes, .no] ++ (ns ++ ns ++ ns).map .sg
theorem c_leaf (k : Nat) (S : Store) (a : Nat) (ns : List Str) (hns : ns.length ≤ 100) (x2 x3 x4 x5 : Option D) (h : Dr S a) :
    Sat (exB Gs 1000000 (CC (k + 2)) (.cons (.set 6 (.bin true .Add (.lst true (.cons (.tup (.cons (.str "yes") .nil)) (.cons (.tup (.cons (.str "no") .nil)) .nil))) (.comp true [7] (.nm 7) (.seq (.bin true .Mult (.var 1) (.int 3))) .none (.tup (.cons (.str "sign") (.cons (.var 7) .nil))))))
      (.cons (.ret (.sub (.var 6) (.call "_law_take" (.cons (.var 0) (.cons (.blt true "len" (.cons (.var 6) .nil)) .nil))))) .nil)) [some (.ref a), some (.tup (ns.map .str)), x2, x3, x4, x5, none, none] S) fun f S' => ∃ w : W, f = .rt w.d ∧ w.ok ns ∧ w.dep = 1 ∧ Up S a S' := by
  simp only [v_maxd, v_dict, v_dget, x_dput, x_par, par_k, i_rngD, i_zip, v_agen, v_glob, v_chain, v_isx, x_raise, x_kept, x_nil, x_cons, x_set, x_unp, x_sets, x_expr, x_ret, x_pass, x_brk, x_cont, x_ite, x_for, x_whl, v_bl, v_int, v_str, v_ty, v_non, v_var, v_tup, v_lst, v_bin, v_neg, v_not, v_cmp, v_and, v_or, v_ife, v_call, v_blt, v_mth, v_sub, v_slc, v_comp, o_none, o_some, s_nil, s_cons, i_seq, i_rng1, i_rng2, i_enum, nx_nx, nx_rt, nx_bk, nx_ct, ite_t, ite_f, and_t, and_f, or_t, or_f, R.bind_ok, R.bind_assoc, ofO_some, tr_b, optI_i, itm_t, itm_l, seqL_l, gdOf_tup, gdOf_lst, neg_i, aug_i, add_i, sub_i, slc_t, slc_l, add_l, len_t, len_l, list_t, list_l, tuple_l, max_i, ls_i, le_i, gt_i, ge_i, sub_t, sub_l, List.getElem?_cons_zero, List.getElem?_cons_succ, List.set_cons_zero, List.set_cons_succ, Bool.not_true, Bool.not_false]
  rw [mkT_v (sz (by simp)), R.bind_ok]
  try simp only [v_maxd, v_dict, v_dget, x_dput, x_par, par_k, i_rngD, i_zip, v_agen, v_glob, v_chain, v_isx, x_raise, x_kept, x_nil, x_cons, x_set, x_unp, x_sets, x_expr, x_ret, x_pass, x_brk, x_cont, x_ite, x_for, x_whl, v_bl, v_int, v_str, v_ty, v_non, v_var, v_tup, v_lst, v_bin, v_neg, v_not, v_cmp, v_and, v_or, v_ife, v_call, v_blt, v_mth, v_sub, v_slc, v_comp, o_none, o_some, s_nil, s_cons, i_seq, i_rng1, i_rng2, i_enum, nx_nx, nx_rt, nx_bk, nx_ct, ite_t, ite_f, and_t, and_f, or_t, or_f, R.bind_ok, R.bind_assoc, ofO_some, tr_b, optI_i, itm_t, itm_l, seqL_l, gdOf_tup, gdOf_lst, neg_i, aug_i, add_i, sub_i, slc_t, slc_l, add_l, len_t, len_l, list_t, list_l, tuple_l, max_i, ls_i, le_i, gt_i, ge_i, sub_t, sub_l, List.getElem?_cons_zero, List.getElem?_cons_succ, List.set_cons_zero, List.set_cons_succ, Bool.not_true, Bool.not_false]
  rw [mkT_v (sz (by simp)), R.bind_ok]
  try simp only [v_maxd, v_dict, v_dget, x_dput, x_par, par_k, i_rngD, i_zip, v_agen, v_glob, v_chain, v_isx, x_raise, x_kept, x_nil, x_cons, x_set, x_unp, x_sets, x_expr, x_ret, x_pass, x_brk, x_cont, x_ite, x_for, x_whl, v_bl, v_int, v_str, v_ty, v_non, v_var, v_tup, v_lst, v_bin, v_neg, v_not, v_cmp, v_and, v_or, v_ife, v_call, v_blt, v_mth, v_sub, v_slc, v_comp, o_none, o_some, s_nil, s_cons, i_seq, i_rng1, i_rng2, i_enum, nx_nx, nx_rt, nx_bk, nx_ct, ite_t, ite_f, and_t, and_f, or_t, or_f, R.bind_ok, R.bind_assoc, ofO_some, tr_b, optI_i, itm_t, itm_l, seqL_l, gdOf_tup, gdOf_lst, neg_i, aug_i, add_i, sub_i, slc_t, slc_l, add_l, len_t, len_l, list_t, list_l, tuple_l, max_i, ls_i, le_i, gt_i, ge_i, sub_t, sub_l, List.getElem?_cons_zero, List.getElem?_cons_succ, List.set_cons_zero, List.set_cons_succ, Bool.not_true, Bool.not_false]
  rw [mkL_v (sz (by simp)), R.bind_ok]
  try simp only [v_maxd, v_dict, v_dget, x_dput, x_par, par_k, i_rngD, i_zip, v_agen, v_glob, v_chain, v_isx, x_raise, x_kept, x_nil, x_cons, x_set, x_unp, x_sets, x_expr, x_ret, x_pass, x_brk, x_cont, x_ite, x_for, x_whl, v_bl, v_int, v_str, v_ty, v_non, v_var, v_tup, v_lst, v_bin, v_neg, v_not, v_cmp, v_and, v_or, v_ife, v_call, v_blt, v_mth, v_sub, v_slc, v_comp, o_none, o_some, s_nil, s_cons, i_seq, i_rng1, i_rng2, i_enum, nx_nx, nx_rt, nx_bk, nx_ct, ite_t, ite_f, and_t, and_f, or_t, or_f, R.bind_ok, R.bind_assoc, ofO_some, tr_b, optI_i, itm_t, itm_l, seqL_l, gdOf_tup, gdOf_lst, neg_i, aug_i, add_i, sub_i, slc_t, slc_l, add_l, len_t, len_l, list_t, list_l, tuple_l, max_i, ls_i, le_i, gt_i, ge_i, sub_t, sub_l, List.getElem?_cons_zero, List.getElem?_cons_succ, List.set_cons_zero, List.set_cons_succ, Bool.not_true, Bool.not_false]
  rw [mul_tt (by decide) (by simp; omega), R.bind_ok]
  try simp only [v_maxd, v_dict, v_dget, x_dput, x_par, par_k, i_rngD, i_zip, v_agen, v_glob, v_chain, v_isx, x_raise, x_kept, x_nil, x_cons, x_set, x_unp, x_sets, x_expr, x_ret, x_pass, x_brk, x_cont, x_ite, x_for, x_whl, v_bl, v_int, v_str, v_ty, v_non, v_var, v_tup, v_lst, v_bin, v_neg, v_not, v_cmp, v_and, v_or, v_ife, v_call, v_blt, v_mth, v_sub, v_slc, v_comp, o_none, o_some, s_nil, s_cons, i_seq, i_rng1, i_rng2, i_enum, nx_nx, nx_rt, nx_bk, nx_ct, ite_t, ite_f, and_t, and_f, or_t, or_f, R.bind_ok, R.bind_assoc, ofO_some, tr_b, optI_i, itm_t, itm_l, seqL_l, gdOf_tup, gdOf_lst, neg_i, aug_i, add_i, sub_i, slc_t, slc_l, add_l, len_t, len_l, list_t, list_l, tuple_l, max_i, ls_i, le_i, gt_i, ge_i, sub_t, sub_l, List.getElem?_cons_zero, List.getElem?_cons_succ, List.set_cons_zero, List.set_cons_succ, Bool.not_true, Bool.not_false]
  rw [rep3, comp_map (fun d => .tup [.str "sign", d]) gdOk_nil _ (sz' (by simp; omega)) (fun d hd => ⟨_, rfl, by
    simp only [v_maxd, v_dict, v_dget, x_dput, x_par, par_k, i_rngD, i_zip, v_agen, v_glob, v_chain, v_isx, x_raise, x_kept, x_nil, x_cons, x_set, x_unp, x_sets, x_expr, x_ret, x_pass, x_brk, x_cont, x_ite, x_for, x_whl, v_bl, v_int, v_str, v_ty, v_non, v_var, v_tup, v_lst, v_bin, v_neg, v_not, v_cmp, v_and, v_or, v_ife, v_call, v_blt, v_mth, v_sub, v_slc, v_comp, o_none, o_some, s_nil, s_cons, i_seq, i_rng1, i_rng2, i_enum, nx_nx, nx_rt, nx_bk, nx_ct, ite_t, ite_f, and_t, and_f, or_t, or_f, R.bind_ok, R.bind_assoc, ofO_some, tr_b, optI_i, itm_t, itm_l, seqL_l, gdOf_tup, gdOf_lst, neg_i, aug_i, add_i, sub_i, slc_t, slc_l, add_l, len_t, len_l, list_t, list_l, tuple_l, max_i, ls_i, le_i, gt_i, ge_i, sub_t, sub_l, List.getElem?_cons_zero, List.getElem?_cons_succ, List.set_cons_zero, List.set_cons_succ, Bool.not_true, Bool.not_false, wipe]
    exact mkT_v (sz (by simp))⟩), R.bind_ok, List.map_map]
  rw [mkL_v (sz (by simp; omega)), R.bind_ok]
  try simp only [v_maxd, v_dict, v_dget, x_dput, x_par, par_k, i_rngD, i_zip, v_agen, v_glob, v_chain, v_isx, x_raise, x_kept, x_nil, x_cons, x_set, x_unp, x_sets, x_expr, x_ret, x_pass, x_brk, x_cont, x_ite, x_for, x_whl, v_bl, v_int, v_str, v_ty, v_non, v_var, v_tup, v_lst, v_bin, v_neg, v_not, v_cmp, v_and, v_or, v_ife, v_call, v_blt, v_mth, v_sub, v_slc, v_comp, o_none, o_some, s_nil, s_cons, i_seq, i_rng1, i_rng2, i_enum, nx_nx, nx_rt, nx_bk, nx_ct, ite_t, ite_f, and_t, and_f, or_t, or_f, R.bind_ok, R.bind_assoc, ofO_some, tr_b, optI_i, itm_t, itm_l, seqL_l, gdOf_tup, gdOf_lst, neg_i, aug_i, add_i, sub_i, slc_t, slc_l, add_l, len_t, len_l, list_t, list_l, tuple_l, max_i, ls_i, le_i, gt_i, ge_i, sub_t, sub_l, List.getElem?_cons_zero, List.getElem?_cons_succ, List.set_cons_zero, List.set_cons_succ, Bool.not_true, Bool.not_false]
  have e : [D.tup [.str "yes"], .tup [.str "no"]] ++ (ns ++ ns ++ ns).map ((fun d => D.tup [.str "sign", d]) ∘ D.str) = (lfs ns).map W.d := by
    simp [lfs, W.d, Function.comp_def]
  rw [e]
  have hl : (lfs ns).length = 2 + 3 * ns.length := by simp [lfs]; omega
  rw [mkL_v (sz (by simp [hl]; omega)), R.bind_ok]
  try simp only [v_maxd, v_dict, v_dget, x_dput, x_par, par_k, i_rngD, i_zip, v_agen, v_glob, v_chain, v_isx, x_raise, x_kept, x_nil, x_cons, x_set, x_unp, x_sets, x_expr, x_ret, x_pass, x_brk, x_cont, x_ite, x_for, x_whl, v_bl, v_int, v_str, v_ty, v_non, v_var, v_tup, v_lst, v_bin, v_neg, v_not, v_cmp, v_and, v_or, v_ife, v_call, v_blt, v_mth, v_sub, v_slc, v_comp, o_none, o_some, s_nil, s_cons, i_seq, i_rng1, i_rng2, i_enum, nx_nx, nx_rt, nx_bk, nx_ct, ite_t, ite_f, and_t, and_f, or_t, or_f, R.bind_ok, R.bind_assoc, ofO_some, tr_b, optI_i, itm_t, itm_l, seqL_l, gdOf_tup, gdOf_lst, neg_i, aug_i, add_i, sub_i, slc_t, slc_l, add_l, len_t, len_l, list_t, list_l, tuple_l, max_i, ls_i, le_i, gt_i, ge_i, sub_t, sub_l, List.getElem?_cons_zero, List.getElem?_cons_succ, List.set_cons_zero, List.set_cons_succ, Bool.not_true, Bool.not_false, List.length_map]
  refine (c_take k S a ((lfs ns).length : Int) (by omega) h).bind fun d S1 ⟨v, hd, hv0, hv1, u⟩ => ?_
  subst hd
  have hv : v.toNat < (lfs ns).length := by omega
  have at1 : L2.atI ((lfs ns).map W.d) v = some ((lfs ns)[v.toNat]).d := by
    rw [atI_pos hv0, List.getElem?_map, List.getElem?_eq_getElem hv]; rfl
  simp only [v_maxd, v_dict, v_dget, x_dput, x_par, par_k, i_rngD, i_zip, v_agen, v_glob, v_chain, v_isx, x_raise, x_kept, x_nil, x_cons, x_set, x_unp, x_sets, x_expr, x_ret, x_pass, x_brk, x_cont, x_ite, x_for, x_whl, v_bl, v_int, v_str, v_ty, v_non, v_var, v_tup, v_lst, v_bin, v_neg, v_not, v_cmp, v_and, v_or, v_ife, v_call, v_blt, v_mth, v_sub, v_slc, v_comp, o_none, o_some, s_nil, s_cons, i_seq, i_rng1, i_rng2, i_enum, nx_nx, nx_rt, nx_bk, nx_ct, ite_t, ite_f, and_t, and_f, or_t, or_f, R.bind_ok, R.bind_assoc, ofO_some, tr_b, optI_i, itm_t, itm_l, seqL_l, gdOf_tup, gdOf_lst, neg_i, aug_i, add_i, sub_i, slc_t, slc_l, add_l, len_t, len_l, list_t, list_l, tuple_l, max_i, ls_i, le_i, gt_i, ge_i, sub_t, sub_l, List.getElem?_cons_zero, List.getElem?_cons_succ, List.set_cons_zero, List.set_cons_succ, Bool.not_true, Bool.not_false, at1]
  have hm := List.getElem_mem hv
  refine .ok ⟨(lfs ns)[v.toNat], rfl, ?_, ?_, u⟩
  · generalize (lfs ns)[v.toNat] = w at hm
    simp only [lfs, List.mem_append, List.mem_cons, List.mem_map, List.not_mem_nil, or_false] at hm
    rcases hm with (rfl | rfl) | ⟨x, hx, rfl⟩
    · trivial
    · trivial
    · show x ∈ ns
      simpa using hx
  · generalize (lfs ns)[v.toNat] = w at hm
    simp only [lfs, List.mem_append, List.mem_cons, List.mem_map, List.not_mem_nil, or_false] at hm
    rcases hm with (rfl | rfl) | ⟨x, hx, rfl⟩ <;> rfl
theorem nine {S : Store} : mkL true [D.str "not", .str "not", .str "and", .str "and", .str "or", .str "before", .str "before", .str "was", .str "since"] S = .ok (.lst [D.str "not", .str "not", .str "and", .str "and", .str "or", .str "before", .str "before", .str "was", .str "since"]) S := mkL_v (sz (by simp))
theorem c_wish (ns : List Str) (hns : ns.length ≤ 100) (k : Nat) : ∀ (n : Nat) (S : Store) (a : Nat), Dr S a →
    Sat (CC (k + n + 3) "_law_wish" [.ref a, .tup (ns.map .str), .int n] S) fun d S' => ∃ w : W, d = w.d ∧ w.ok ns ∧ w.dep ≤ max 1 n ∧ Up S a S' := by
  have fin : ∀ (n : Nat) (S S' : Store) (a : Nat) (w : W), Up S a S' → w.ok ns → w.dep ≤ max 1 n → Sat (.ok (.rt w.d) S') fun f S' => ∃ d, f = F.rt d ∧ oldOk S S' ∧ S'.length = S.length ∧ below S.length d = true ∧ ∃ w : W, d = w.d ∧ w.ok ns ∧ w.dep ≤ max 1 n ∧ Up S a S' :=
    fun n S S' a w u h1 h2 => .ok ⟨_, rfl, u.old, u.len, w.bel _, w, rfl, h1, h2, u⟩
  intro n
  induction n with
  | zero =>
    intro S a h
    rw [show CC (k + 0 + 3) "_law_wish" [.ref a, .tup (ns.map .str), .int ((0 : Nat) : Int)] S = _ from call_step (k := k + 2) (d := d__law_wish) rfl rfl]
    show Sat (leave .pure S (exB Gs 1000000 (CC (k + 2)) d__law_wish.body [some (.ref a), some (.tup (ns.map .str)), some (.int ((0 : Nat) : Int)), none, none, none, none, none] S)) _
    refine Sat.leave ?_
    simp only [d__law_wish, v_maxd, v_dict, v_dget, x_dput, x_par, par_k, i_rngD, i_zip, v_agen, v_glob, v_chain, v_isx, x_raise, x_kept, x_nil, x_cons, x_set, x_unp, x_sets, x_expr, x_ret, x_pass, x_brk, x_cont, x_ite, x_for, x_whl, v_bl, v_int, v_str, v_ty, v_non, v_var, v_tup, v_lst, v_bin, v_neg, v_not, v_cmp, v_and, v_or, v_ife, v_call, v_blt, v_mth, v_sub, v_slc, v_comp, o_none, o_some, s_nil, s_cons, i_seq, i_rng1, i_rng2, i_enum, nx_nx, nx_rt, nx_bk, nx_ct, ite_t, ite_f, and_t, and_f, or_t, or_f, R.bind_ok, R.bind_assoc, ofO_some, tr_b, optI_i, itm_t, itm_l, seqL_l, gdOf_tup, gdOf_lst, neg_i, aug_i, add_i, sub_i, slc_t, slc_l, add_l, len_t, len_l, list_t, list_l, tuple_l, max_i, ls_i, le_i, gt_i, ge_i, sub_t, sub_l, List.getElem?_cons_zero, List.getElem?_cons_succ, List.set_cons_zero, List.set_cons_succ, Bool.not_true, Bool.not_false]
    refine (c_take k S a 12 (by decide) h).bind fun d S1 ⟨v, hd, hv0, hv1, u⟩ => ?_
    subst hd
    rw [show decide (((0 : Nat) : Int) < 2) = true by decide]
    simp only [R.bind_ok, ofO_some, or_t, or_f, tr_b, ite_t]
    refine (c_leaf k S1 a ns hns _ _ _ _ (u.dr h)).bind fun f S2 ⟨w, hf, h1, h2, u2⟩ => ?_
    subst hf
    try simp only [v_maxd, v_dict, v_dget, x_dput, x_par, par_k, i_rngD, i_zip, v_agen, v_glob, v_chain, v_isx, x_raise, x_kept, x_nil, x_cons, x_set, x_unp, x_sets, x_expr, x_ret, x_pass, x_brk, x_cont, x_ite, x_for, x_whl, v_bl, v_int, v_str, v_ty, v_non, v_var, v_tup, v_lst, v_bin, v_neg, v_not, v_cmp, v_and, v_or, v_ife, v_call, v_blt, v_mth, v_sub, v_slc, v_comp, o_none, o_some, s_nil, s_cons, i_seq, i_rng1, i_rng2, i_enum, nx_nx, nx_rt, nx_bk, nx_ct, ite_t, ite_f, and_t, and_f, or_t, or_f, R.bind_ok, R.bind_assoc, ofO_some, tr_b, optI_i, itm_t, itm_l, seqL_l, gdOf_tup, gdOf_lst, neg_i, aug_i, add_i, sub_i, slc_t, slc_l, add_l, len_t, len_l, list_t, list_l, tuple_l, max_i, ls_i, le_i, gt_i, ge_i, sub_t, sub_l, List.getElem?_cons_zero, List.getElem?_cons_succ, List.set_cons_zero, List.set_cons_succ, Bool.not_true, Bool.not_false]
    exact fin 0 S S2 a w (u.trans u2) h1 (by omega)
  | succ n ih =>
    intro S a h
    rw [show CC (k + (n + 1) + 3) "_law_wish" [.ref a, .tup (ns.map .str), .int ((n + 1 : Nat) : Int)] S = _ from call_step (k := k + n + 3) (d := d__law_wish) rfl rfl]
    show Sat (leave .pure S (exB Gs 1000000 (CC (k + n + 3)) d__law_wish.body [some (.ref a), some (.tup (ns.map .str)), some (.int ((n + 1 : Nat) : Int)), none, none, none, none, none] S)) _
    refine Sat.leave ?_
    simp only [d__law_wish, v_maxd, v_dict, v_dget, x_dput, x_par, par_k, i_rngD, i_zip, v_agen, v_glob, v_chain, v_isx, x_raise, x_kept, x_nil, x_cons, x_set, x_unp, x_sets, x_expr, x_ret, x_pass, x_brk, x_cont, x_ite, x_for, x_whl, v_bl, v_int, v_str, v_ty, v_non, v_var, v_tup, v_lst, v_bin, v_neg, v_not, v_cmp, v_and, v_or, v_ife, v_call, v_blt, v_mth, v_sub, v_slc, v_comp, o_none, o_some, s_nil, s_cons, i_seq, i_rng1, i_rng2, i_enum, nx_nx, nx_rt, nx_bk, nx_ct, ite_t, ite_f, and_t, and_f, or_t, or_f, R.bind_ok, R.bind_assoc, ofO_some, tr_b, optI_i, itm_t, itm_l, seqL_l, gdOf_tup, gdOf_lst, neg_i, aug_i, add_i, sub_i, slc_t, slc_l, add_l, len_t, len_l, list_t, list_l, tuple_l, max_i, ls_i, le_i, gt_i, ge_i, sub_t, sub_l, List.getElem?_cons_zero, List.getElem?_cons_succ, List.set_cons_zero, List.set_cons_succ, Bool.not_true, Bool.not_false]
    refine (c_take (k + n + 1) S a 12 (by decide) h).bind fun d S1 ⟨v, hd, hv0, hv1, u⟩ => ?_
    subst hd
    have leaf : Sat (exB Gs 1000000 (CC (k + n + 1 + 2)) (.cons (.set 6 (.bin true .Add (.lst true (.cons (.tup (.cons (.str "yes") .nil)) (.cons (.tup (.cons (.str "no") .nil)) .nil))) (.comp true [7] (.nm 7) (.seq (.bin true .Mult (.var 1) (.int 3))) .none (.tup (.cons (.str "sign") (.cons (.var 7) .nil))))))
      (.cons (.ret (.sub (.var 6) (.call "_law_take" (.cons (.var 0) (.cons (.blt true "len" (.cons (.var 6) .nil)) .nil))))) .nil)) [some (.ref a), some (.tup (ns.map .str)), some (.int ((n + 1 : Nat) : Int)), some (.int v), none, none, none, none] S1) _ := c_leaf (k + n + 1) S1 a ns hns _ _ _ _ (u.dr h)
    by_cases hn : ((n + 1 : Nat) : Int) < 2
    · rw [decide_eq_true hn]
      simp only [R.bind_ok, ofO_some, or_t, or_f, tr_b, ite_t]
      refine leaf.bind fun f S2 ⟨w, hf, h1, h2, u2⟩ => ?_
      subst hf
      try simp only [v_maxd, v_dict, v_dget, x_dput, x_par, par_k, i_rngD, i_zip, v_agen, v_glob, v_chain, v_isx, x_raise, x_kept, x_nil, x_cons, x_set, x_unp, x_sets, x_expr, x_ret, x_pass, x_brk, x_cont, x_ite, x_for, x_whl, v_bl, v_int, v_str, v_ty, v_non, v_var, v_tup, v_lst, v_bin, v_neg, v_not, v_cmp, v_and, v_or, v_ife, v_call, v_blt, v_mth, v_sub, v_slc, v_comp, o_none, o_some, s_nil, s_cons, i_seq, i_rng1, i_rng2, i_enum, nx_nx, nx_rt, nx_bk, nx_ct, ite_t, ite_f, and_t, and_f, or_t, or_f, R.bind_ok, R.bind_assoc, ofO_some, tr_b, optI_i, itm_t, itm_l, seqL_l, gdOf_tup, gdOf_lst, neg_i, aug_i, add_i, sub_i, slc_t, slc_l, add_l, len_t, len_l, list_t, list_l, tuple_l, max_i, ls_i, le_i, gt_i, ge_i, sub_t, sub_l, List.getElem?_cons_zero, List.getElem?_cons_succ, List.set_cons_zero, List.set_cons_succ, Bool.not_true, Bool.not_false]
      exact fin _ S S2 a w (u.trans u2) h1 (by omega)
    · rw [decide_eq_false hn]
      simp only [R.bind_ok, R.bind_assoc, ofO_some, or_t, or_f, tr_b, v_cmp, v_var, v_int, List.getElem?_cons_zero, List.getElem?_cons_succ, ls_i]
      by_cases hv : v < 3
      · rw [decide_eq_true hv]
        simp only [R.bind_ok, ofO_some, or_t, or_f, tr_b, ite_t]
        refine leaf.bind fun f S2 ⟨w, hf, h1, h2, u2⟩ => ?_
        subst hf
        try simp only [v_maxd, v_dict, v_dget, x_dput, x_par, par_k, i_rngD, i_zip, v_agen, v_glob, v_chain, v_isx, x_raise, x_kept, x_nil, x_cons, x_set, x_unp, x_sets, x_expr, x_ret, x_pass, x_brk, x_cont, x_ite, x_for, x_whl, v_bl, v_int, v_str, v_ty, v_non, v_var, v_tup, v_lst, v_bin, v_neg, v_not, v_cmp, v_and, v_or, v_ife, v_call, v_blt, v_mth, v_sub, v_slc, v_comp, o_none, o_some, s_nil, s_cons, i_seq, i_rng1, i_rng2, i_enum, nx_nx, nx_rt, nx_bk, nx_ct, ite_t, ite_f, and_t, and_f, or_t, or_f, R.bind_ok, R.bind_assoc, ofO_some, tr_b, optI_i, itm_t, itm_l, seqL_l, gdOf_tup, gdOf_lst, neg_i, aug_i, add_i, sub_i, slc_t, slc_l, add_l, len_t, len_l, list_t, list_l, tuple_l, max_i, ls_i, le_i, gt_i, ge_i, sub_t, sub_l, List.getElem?_cons_zero, List.getElem?_cons_succ, List.set_cons_zero, List.set_cons_succ, Bool.not_true, Bool.not_false]
        exact fin _ S S2 a w (u.trans u2) h1 (by omega)
      · rw [decide_eq_false hv]
        obtain ⟨w, hw, hc⟩ := wl_at hv hv1
        have so : PyData.strOk w = true := by rcases hc with rfl | rfl | rfl | rfl | rfl | rfl <;> decide +kernel
        simp only [v_maxd, v_dict, v_dget, x_dput, x_par, par_k, i_rngD, i_zip, v_agen, v_glob, v_chain, v_isx, x_raise, x_kept, x_nil, x_cons, x_set, x_unp, x_sets, x_expr, x_ret, x_pass, x_brk, x_cont, x_ite, x_for, x_whl, v_bl, v_int, v_str, v_ty, v_non, v_var, v_tup, v_lst, v_bin, v_neg, v_not, v_cmp, v_and, v_or, v_ife, v_call, v_blt, v_mth, v_sub, v_slc, v_comp, o_none, o_some, s_nil, s_cons, i_seq, i_rng1, i_rng2, i_enum, nx_nx, nx_rt, nx_bk, nx_ct, ite_t, ite_f, and_t, and_f, or_t, or_f, R.bind_ok, R.bind_assoc, ofO_some, tr_b, optI_i, itm_t, itm_l, seqL_l, gdOf_tup, gdOf_lst, neg_i, aug_i, add_i, sub_i, slc_t, slc_l, add_l, len_t, len_l, list_t, list_l, tuple_l, max_i, ls_i, le_i, gt_i, ge_i, sub_t, sub_l, List.getElem?_cons_zero, List.getElem?_cons_succ, List.set_cons_zero, List.set_cons_succ, Bool.not_true, Bool.not_false, nine, hw]
        rw [show ((n + 1 : Nat) : Int) - 1 = (n : Int) by omega]
        refine (ih S1 a (u.dr h)).bind fun d S2 ⟨w1, hd, g1, g2, u2⟩ => ?_
        subst hd
        have u2 := u.trans u2
        try simp only [v_maxd, v_dict, v_dget, x_dput, x_par, par_k, i_rngD, i_zip, v_agen, v_glob, v_chain, v_isx, x_raise, x_kept, x_nil, x_cons, x_set, x_unp, x_sets, x_expr, x_ret, x_pass, x_brk, x_cont, x_ite, x_for, x_whl, v_bl, v_int, v_str, v_ty, v_non, v_var, v_tup, v_lst, v_bin, v_neg, v_not, v_cmp, v_and, v_or, v_ife, v_call, v_blt, v_mth, v_sub, v_slc, v_comp, o_none, o_some, s_nil, s_cons, i_seq, i_rng1, i_rng2, i_enum, nx_nx, nx_rt, nx_bk, nx_ct, ite_t, ite_f, and_t, and_f, or_t, or_f, R.bind_ok, R.bind_assoc, ofO_some, tr_b, optI_i, itm_t, itm_l, seqL_l, gdOf_tup, gdOf_lst, neg_i, aug_i, add_i, sub_i, slc_t, slc_l, add_l, len_t, len_l, list_t, list_l, tuple_l, max_i, ls_i, le_i, gt_i, ge_i, sub_t, sub_l, List.getElem?_cons_zero, List.getElem?_cons_succ, List.set_cons_zero, List.set_cons_succ, Bool.not_true, Bool.not_false]
        rw [mkT_v (l := [D.str "not", .str "before", .str "was"]) (sz (by simp)), R.bind_ok, nb_in so]
        try simp only [v_maxd, v_dict, v_dget, x_dput, x_par, par_k, i_rngD, i_zip, v_agen, v_glob, v_chain, v_isx, x_raise, x_kept, x_nil, x_cons, x_set, x_unp, x_sets, x_expr, x_ret, x_pass, x_brk, x_cont, x_ite, x_for, x_whl, v_bl, v_int, v_str, v_ty, v_non, v_var, v_tup, v_lst, v_bin, v_neg, v_not, v_cmp, v_and, v_or, v_ife, v_call, v_blt, v_mth, v_sub, v_slc, v_comp, o_none, o_some, s_nil, s_cons, i_seq, i_rng1, i_rng2, i_enum, nx_nx, nx_rt, nx_bk, nx_ct, ite_t, ite_f, and_t, and_f, or_t, or_f, R.bind_ok, R.bind_assoc, ofO_some, tr_b, optI_i, itm_t, itm_l, seqL_l, gdOf_tup, gdOf_lst, neg_i, aug_i, add_i, sub_i, slc_t, slc_l, add_l, len_t, len_l, list_t, list_l, tuple_l, max_i, ls_i, le_i, gt_i, ge_i, sub_t, sub_l, List.getElem?_cons_zero, List.getElem?_cons_succ, List.set_cons_zero, List.set_cons_succ, Bool.not_true, Bool.not_false]
        have dep1 : w1.dep + 1 ≤ max 1 (n + 1) := by omega
        by_cases hb : w = "not" ∨ w = "before" ∨ w = "was"
        · rw [decide_eq_true hb]
          try simp only [v_maxd, v_dict, v_dget, x_dput, x_par, par_k, i_rngD, i_zip, v_agen, v_glob, v_chain, v_isx, x_raise, x_kept, x_nil, x_cons, x_set, x_unp, x_sets, x_expr, x_ret, x_pass, x_brk, x_cont, x_ite, x_for, x_whl, v_bl, v_int, v_str, v_ty, v_non, v_var, v_tup, v_lst, v_bin, v_neg, v_not, v_cmp, v_and, v_or, v_ife, v_call, v_blt, v_mth, v_sub, v_slc, v_comp, o_none, o_some, s_nil, s_cons, i_seq, i_rng1, i_rng2, i_enum, nx_nx, nx_rt, nx_bk, nx_ct, ite_t, ite_f, and_t, and_f, or_t, or_f, R.bind_ok, R.bind_assoc, ofO_some, tr_b, optI_i, itm_t, itm_l, seqL_l, gdOf_tup, gdOf_lst, neg_i, aug_i, add_i, sub_i, slc_t, slc_l, add_l, len_t, len_l, list_t, list_l, tuple_l, max_i, ls_i, le_i, gt_i, ge_i, sub_t, sub_l, List.getElem?_cons_zero, List.getElem?_cons_succ, List.set_cons_zero, List.set_cons_succ, Bool.not_true, Bool.not_false]
          rw [mkT_v (sz (by simp)), R.bind_ok]
          try simp only [v_maxd, v_dict, v_dget, x_dput, x_par, par_k, i_rngD, i_zip, v_agen, v_glob, v_chain, v_isx, x_raise, x_kept, x_nil, x_cons, x_set, x_unp, x_sets, x_expr, x_ret, x_pass, x_brk, x_cont, x_ite, x_for, x_whl, v_bl, v_int, v_str, v_ty, v_non, v_var, v_tup, v_lst, v_bin, v_neg, v_not, v_cmp, v_and, v_or, v_ife, v_call, v_blt, v_mth, v_sub, v_slc, v_comp, o_none, o_some, s_nil, s_cons, i_seq, i_rng1, i_rng2, i_enum, nx_nx, nx_rt, nx_bk, nx_ct, ite_t, ite_f, and_t, and_f, or_t, or_f, R.bind_ok, R.bind_assoc, ofO_some, tr_b, optI_i, itm_t, itm_l, seqL_l, gdOf_tup, gdOf_lst, neg_i, aug_i, add_i, sub_i, slc_t, slc_l, add_l, len_t, len_l, list_t, list_l, tuple_l, max_i, ls_i, le_i, gt_i, ge_i, sub_t, sub_l, List.getElem?_cons_zero, List.getElem?_cons_succ, List.set_cons_zero, List.set_cons_succ, Bool.not_true, Bool.not_false]
          rcases hb with rfl | rfl | rfl
          · exact fin _ S S2 a (.nt w1) u2 g1 dep1
          · exact fin _ S S2 a (.bf w1) u2 g1 dep1
          · exact fin _ S S2 a (.ws w1) u2 g1 dep1
        · rw [decide_eq_false hb]
          try simp only [v_maxd, v_dict, v_dget, x_dput, x_par, par_k, i_rngD, i_zip, v_agen, v_glob, v_chain, v_isx, x_raise, x_kept, x_nil, x_cons, x_set, x_unp, x_sets, x_expr, x_ret, x_pass, x_brk, x_cont, x_ite, x_for, x_whl, v_bl, v_int, v_str, v_ty, v_non, v_var, v_tup, v_lst, v_bin, v_neg, v_not, v_cmp, v_and, v_or, v_ife, v_call, v_blt, v_mth, v_sub, v_slc, v_comp, o_none, o_some, s_nil, s_cons, i_seq, i_rng1, i_rng2, i_enum, nx_nx, nx_rt, nx_bk, nx_ct, ite_t, ite_f, and_t, and_f, or_t, or_f, R.bind_ok, R.bind_assoc, ofO_some, tr_b, optI_i, itm_t, itm_l, seqL_l, gdOf_tup, gdOf_lst, neg_i, aug_i, add_i, sub_i, slc_t, slc_l, add_l, len_t, len_l, list_t, list_l, tuple_l, max_i, ls_i, le_i, gt_i, ge_i, sub_t, sub_l, List.getElem?_cons_zero, List.getElem?_cons_succ, List.set_cons_zero, List.set_cons_succ, Bool.not_true, Bool.not_false]
          rw [show ((n + 1 : Nat) : Int) - 1 = (n : Int) by omega]
          refine (ih S2 a (u2.dr h)).bind fun d S3 ⟨w2, hd, f1, f2, u3⟩ => ?_
          subst hd
          have u3 := u2.trans u3
          try simp only [v_maxd, v_dict, v_dget, x_dput, x_par, par_k, i_rngD, i_zip, v_agen, v_glob, v_chain, v_isx, x_raise, x_kept, x_nil, x_cons, x_set, x_unp, x_sets, x_expr, x_ret, x_pass, x_brk, x_cont, x_ite, x_for, x_whl, v_bl, v_int, v_str, v_ty, v_non, v_var, v_tup, v_lst, v_bin, v_neg, v_not, v_cmp, v_and, v_or, v_ife, v_call, v_blt, v_mth, v_sub, v_slc, v_comp, o_none, o_some, s_nil, s_cons, i_seq, i_rng1, i_rng2, i_enum, nx_nx, nx_rt, nx_bk, nx_ct, ite_t, ite_f, and_t, and_f, or_t, or_f, R.bind_ok, R.bind_assoc, ofO_some, tr_b, optI_i, itm_t, itm_l, seqL_l, gdOf_tup, gdOf_lst, neg_i, aug_i, add_i, sub_i, slc_t, slc_l, add_l, len_t, len_l, list_t, list_l, tuple_l, max_i, ls_i, le_i, gt_i, ge_i, sub_t, sub_l, List.getElem?_cons_zero, List.getElem?_cons_succ, List.set_cons_zero, List.set_cons_succ, Bool.not_true, Bool.not_false]
          rw [mkT_v (sz (by simp)), R.bind_ok]
          try simp only [v_maxd, v_dict, v_dget, x_dput, x_par, par_k, i_rngD, i_zip, v_agen, v_glob, v_chain, v_isx, x_raise, x_kept, x_nil, x_cons, x_set, x_unp, x_sets, x_expr, x_ret, x_pass, x_brk, x_cont, x_ite, x_for, x_whl, v_bl, v_int, v_str, v_ty, v_non, v_var, v_tup, v_lst, v_bin, v_neg, v_not, v_cmp, v_and, v_or, v_ife, v_call, v_blt, v_mth, v_sub, v_slc, v_comp, o_none, o_some, s_nil, s_cons, i_seq, i_rng1, i_rng2, i_enum, nx_nx, nx_rt, nx_bk, nx_ct, ite_t, ite_f, and_t, and_f, or_t, or_f, R.bind_ok, R.bind_assoc, ofO_some, tr_b, optI_i, itm_t, itm_l, seqL_l, gdOf_tup, gdOf_lst, neg_i, aug_i, add_i, sub_i, slc_t, slc_l, add_l, len_t, len_l, list_t, list_l, tuple_l, max_i, ls_i, le_i, gt_i, ge_i, sub_t, sub_l, List.getElem?_cons_zero, List.getElem?_cons_succ, List.set_cons_zero, List.set_cons_succ, Bool.not_true, Bool.not_false]
          have dep2 : max w1.dep w2.dep + 1 ≤ max 1 (n + 1) := by omega
          rcases hc with rfl | rfl | rfl | rfl | rfl | rfl
          · exact absurd (.inl rfl) hb
          · exact fin _ S S3 a (.an w1 w2) u3 ⟨g1, f1⟩ dep2
          · exact fin _ S S3 a (.or w1 w2) u3 ⟨g1, f1⟩ dep2
          · exact absurd (.inr (.inl rfl)) hb
          · exact absurd (.inr (.inr rfl)) hb
          · exact fin _ S S3 a (.si w1 w2) u3 ⟨g1, f1⟩ dep2
end K23

namespace K23
open PySem Mn
/-! ### what wishes mean -/
def bls (l : List Bool) : List D := l.map .bl
def sinA : Bool → List Bool → List Bool → List Bool
  | h, a :: as, b :: bs => (b || (a && h)) :: sinA (b || (a && h)) as bs
  | _, _, _ => []
def sinC (h : Bool) (as bs : List Bool) : Nat → Bool
  | 0 => bs.getD 0 false || (as.getD 0 false && h)
  | k + 1 => bs.getD (k + 1) false || (as.getD (k + 1) false && sinC h as bs k)
theorem sinC_cons (h a b : Bool) (as bs : List Bool) : ∀ k, sinC h (a :: as) (b :: bs) (k + 1) = sinC (b || (a && h)) as bs k
  | 0 => rfl
  | k + 1 => by
    show (_ || (_ && sinC h (a :: as) (b :: bs) (k + 1))) = _
    rw [sinC_cons h a b as bs k]
    rfl
theorem sinA_len : ∀ (h : Bool) (as bs : List Bool), as.length = bs.length → (sinA h as bs).length = bs.length
  | _, [], [], _ => rfl
  | h, a :: as, b :: bs, e => by simp [sinA, sinA_len _ as bs (by simpa using e)]
  | _, [], _ :: _, e => by simp at e
  | _, _ :: _, [], e => by simp at e
theorem sinA_get : ∀ (h : Bool) (as bs : List Bool) (k : Nat), as.length = bs.length → k < bs.length → (sinA h as bs)[k]? = some (sinC h as bs k)
  | _, [], [], _, _, hk => by simp at hk
  | h, a :: as, b :: bs, 0, e, hk => rfl
  | h, a :: as, b :: bs, k + 1, e, hk => by
    simp only [sinA, List.getElem?_cons_succ, sinC_cons]
    exact sinA_get _ as bs k (by simpa using e) (by simpa using hk)
  | _, [], _ :: _, _, e, _ => by simp at e
  | _, _ :: _, [], _, e, _ => by simp at e
theorem sinA_range {h : Bool} {as bs : List Bool} (e : as.length = bs.length) : sinA h as bs = (List.range bs.length).map (sinC h as bs) := by
  refine List.ext_getElem? fun k => ?_
  by_cases hk : k < bs.length
  · rw [sinA_get h as bs k e hk, List.getElem?_map, List.getElem?_range hk]; rfl
  · rw [List.getElem?_eq_none (by rw [sinA_len h as bs e]; omega), List.getElem?_eq_none (by simp; omega)]
theorem was_at {n : Nat} {bs : List Bool} (hn : bs.length = n) : ∀ k, k < n → sinC false (List.replicate n true) bs k = decide (true ∈ bs.take (k + 1))
  | 0, hk => by
    cases bs with
    | nil => simp at hn; omega
    | cons b r =>
      have : (List.replicate n true).getD 0 false = true := by
        rw [List.getD_eq_getElem?_getD, List.getElem?_replicate, if_pos hk]; rfl
      simp only [sinC, this, List.getD_cons_zero]
      cases b <;> simp
  | k + 1, hk => by
    have e1 : (List.replicate n true).getD (k + 1) false = true := by
      rw [List.getD_eq_getElem?_getD, List.getElem?_replicate, if_pos hk]; rfl
    have hl : k + 1 < bs.length := by omega
    simp only [sinC, e1, was_at hn k (by omega), Bool.true_and]
    have e2 : bs.take (k + 1 + 1) = bs.take (k + 1) ++ [bs[k + 1]] := by
      rw [List.take_add_one (i := k + 1), List.getElem?_eq_getElem hl]; rfl
    rw [e2, List.getD_eq_getElem?_getD, List.getElem?_eq_getElem hl, Bool.eq_iff_iff]
    simp only [Option.getD_some, Bool.or_eq_true, decide_eq_true_eq, List.mem_append, List.mem_singleton]
    exact ⟨fun h => h.elim (fun h => .inr h.symm) .inl, fun h => h.elim .inr fun h => .inl h.symm⟩
section
variable (n : Nat) (f : Str → List Bool)
def val : W → List Bool
  | .yes => List.replicate n true
  | .no => List.replicate n false
  | .sg x => f x
  | .nt a => (val a).map (!·)
  | .an a b => List.zipWith (· && ·) (val a) (val b)
  | .or a b => List.zipWith (· || ·) (val a) (val b)
  | .bf a => (false :: val a).take n
  | .ws a => sinA false (List.replicate n true) (val a)
  | .si a b => sinA false (val a) (val b)
def lv : W → List Bool
  | .yes => List.replicate n true
  | .no => List.replicate n false
  | .sg x => f x
  | .nt a => (lv a).map (!·)
  | .an a b => List.zipWith (· && ·) (lv a) (lv b)
  | .or a b => List.zipWith (· || ·) (lv a) (lv b)
  | .bf a => (false :: lv a).take n
  | .ws a => (List.range n).map fun k => decide (true ∈ (lv a).take (k + 1))
  | .si a b => (List.range n).map (sinC false (lv a) (lv b))
theorem val_lv (hf : ∀ x, (f x).length = n) : ∀ w, val n f w = lv n f w ∧ (lv n f w).length = n
  | .yes => ⟨rfl, by simp [lv]⟩
  | .no => ⟨rfl, by simp [lv]⟩
  | .sg x => ⟨rfl, hf x⟩
  | .nt a => by
    obtain ⟨h1, h2⟩ := val_lv hf a
    exact ⟨by simp [val, lv, h1], by simp [lv, h2]⟩
  | .an a b => by
    obtain ⟨h1, h2⟩ := val_lv hf a
    obtain ⟨g1, g2⟩ := val_lv hf b
    exact ⟨by simp [val, lv, h1, g1], by simp [lv, h2, g2]⟩
  | .or a b => by
    obtain ⟨h1, h2⟩ := val_lv hf a
    obtain ⟨g1, g2⟩ := val_lv hf b
    exact ⟨by simp [val, lv, h1, g1], by simp [lv, h2, g2]⟩
  | .bf a => by
    obtain ⟨h1, h2⟩ := val_lv hf a
    exact ⟨by simp [val, lv, h1], by simp [lv, h2]⟩
  | .ws a => by
    obtain ⟨h1, h2⟩ := val_lv hf a
    refine ⟨?_, by simp [lv]⟩
    simp only [val, lv, h1]
    rw [sinA_range (by simp [h2]), h2]
    refine List.map_congr_left fun k hk => was_at h2 k (by simpa using hk)
  | .si a b => by
    obtain ⟨h1, h2⟩ := val_lv hf a
    obtain ⟨g1, g2⟩ := val_lv hf b
    refine ⟨?_, by simp [lv]⟩
    simp only [val, lv, h1, g1]
    rw [sinA_range (by rw [h2, g2]), g2]
end

/-! ### the law's since -/
theorem bl_at {l : List Bool} {k : Nat} (h : k < l.length) : L2.atI (bls l) (k : Int) = some (.bl (l.getD k false)) := by
  rw [atI_nat, bls, List.getElem?_map, List.getElem?_eq_getElem h, List.getD_eq_getElem?_getD, List.getElem?_eq_getElem h]; rfl
end K23

namespace K23
open PySem Mn
/-! ### words, asked for -/
theorem eq_s {S : Store} {x y : Str} (hx : PyData.strOk x = true) (hy : PyData.strOk y = true) : cmpA .Eq (.str x) (.str y) S = some (decide (x = y)) := by
  rw [eq_g (s_gd hx 64) (s_gd hy 64)]
  congr 1
  rw [Bool.eq_iff_iff]
  simp
theorem cw_t {S : Store} {x y : Str} (h : (PyData.strOk x && PyData.strOk y && decide (x = y)) = true) : cmpA .Eq (.str x) (.str y) S = some true := by
  simp only [Bool.and_eq_true] at h
  rw [eq_s h.1.1 h.1.2, h.2]
theorem cw_f {S : Store} {x y : Str} (h : (PyData.strOk x && PyData.strOk y && !decide (x = y)) = true) : cmpA .Eq (.str x) (.str y) S = some false := by
  simp only [Bool.and_eq_true, Bool.not_eq_true'] at h
  rw [eq_s h.1.1 h.1.2, h.2]
theorem yn_t {S : Store} {x y z : Str} (h : (PyData.strOk x && PyData.strOk y && PyData.strOk z && (decide (x = y) || decide (x = z))) = true) : cmpA .In (.str x) (.tup [.str y, .str z]) S = some true := by
  simp only [Bool.and_eq_true, Bool.or_eq_true, decide_eq_true_eq] at h
  rw [in_t (s_gd h.1.1.1 63) (by simp [gds, gd, h.1.1.2, h.1.2])]
  congr 1
  simp [h.2]
theorem yn_f {S : Store} {x y z : Str} (h : (PyData.strOk x && PyData.strOk y && PyData.strOk z && !(decide (x = y) || decide (x = z))) = true) : cmpA .In (.str x) (.tup [.str y, .str z]) S = some false := by
  simp only [Bool.and_eq_true, Bool.not_eq_true', Bool.or_eq_false_iff, decide_eq_false_iff_not] at h
  rw [in_t (s_gd h.1.1.1 63) (by simp [gds, gd, h.1.1.2, h.1.2])]
  congr 1
  simp [h.2.1, h.2.2]
/-! ### signs -/
def bit (t : Int × Int) (s : Bool) (i : Nat) : Bool := decide (Builtin.bitAnd ((if s then t.2 else t.1) / 2 ^ i) 1 = 1)
def sgv (A B : List Str) (T : List (Int × Int)) (x : Str) : List Bool := T.map fun t => bit t (decide (x ∈ B)) (if x ∈ B then B.idxOf x else A.idxOf x)
theorem sgv_len (A B : List Str) (T : List (Int × Int)) (x : Str) : (sgv A B T x).length = T.length := by simp [sgv]
theorem mem_strs {x : Str} {l : List Str} : (D.str x ∈ l.map D.str) ↔ x ∈ l := by simp
theorem in_names {S : Store} {x : Str} {l : List Str} (hx : PyData.strOk x = true) (hl : ∀ y ∈ l, PyData.strOk y = true) : cmpA .In (.str x) (.tup (l.map .str)) S = some (decide (x ∈ l)) := by
  rw [in_t (s_gd hx 63) (gds_of fun d hd => by
    obtain ⟨y, hy, rfl⟩ := List.mem_map.mp hd
    exact s_gd (hl y hy) 62)]
  congr 1
  rw [Bool.eq_iff_iff]
  simp
theorem strsOf_map : ∀ l : List Str, strsOf (l.map D.str) = some l
  | [] => rfl
  | x :: r => by simp [strsOf, strsOf_map r]
theorem idx_ok {S : Store} {x : Str} {l : List Str} (h : x ∈ l) : mthA "tuple" "index" (.tup (l.map .str)) [.str x] S = .ok (.int (l.idxOf x : Nat)) S := by
  rw [show mthA "tuple" "index" (.tup (l.map .str)) [.str x] S = idxA (.tup (l.map .str)) [.str x] S from rfl]
  unfold idxA
  dsimp only
  rw [strsOf_map]
  dsimp only
  rw [if_pos h]
theorem recv_t {S : Store} {l : List D} : recvA "tuple" S (.tup l) = some () := nr rfl
theorem int_b {v b : Bool} {S : Store} : bltA v "int" [.bl b] S = .ok (.int (if b then 1 else 0)) S := nr rfl
theorem rsh_i {v : Bool} {S : Store} {i : Int} {j : Nat} : binA v .RShift (.int i) (.int (j : Int)) S = .ok (.int (i / 2 ^ j)) S := by
  show R.ofO ((ariA .RShift i (j : Int)).map D.int) S = _
  have e : ariA .RShift i (j : Int) = some (i / 2 ^ j) := by
    unfold ariA
    dsimp only
    rw [if_pos (by omega), Int.toNat_natCast]
  rw [e]
  rfl
theorem band_i {v : Bool} {S : Store} {i j : Int} : binA v .BitAnd (.int i) (.int j) S = .ok (.int (Builtin.bitAnd i j)) S := nr rfl
theorem td_at {S : Store} {t : Int × Int} {b : Bool} : subA S (td t) (.int (if b then 1 else 0)) = some (.int (if b then t.2 else t.1)) := by
  cases b <;> rfl
theorem brd_at {S : Store} {A B : List Str} {b : Bool} : subA S (brd A B) (.int (if b then 1 else 0)) = some (.tup ((if b then B else A).map .str)) := by
  cases b <;> rfl
theorem cut1 {x : D} {l : List D} : cutA (x :: l) (some 1) none = l := by
  have := cut_from (l := x :: l) (k := 1)
  rw [show ((1 : Nat) : Int) = 1 from rfl] at this
  rw [this]
  rfl
/-! ### comprehensions of one and two items -/
section
variable {G : Globs} {call : String → List D → Store → R D} {t : E} {e0 : Mn.Env} {S S1 S2 : Store} {i : Nat}
theorem comp_one {d y : D} (h : evE G call t (e0.set i (some d)) S = .ok y S1) : cmpB G call [] (.nm i) .none t e0 [d] S = .ok [y] S1 := by
  unfold cmpB
  simp only [compA, gdOk_nil, if_true, asg, oc_none, tru, R.bind_ok, tr_b, ofO_some, nox_ok, h, List.nil_append, List.length_nil]
  rw [if_pos (by decide)]
theorem comp_two {d e y z : D} (h : evE G call t (e0.set i (some d)) S = .ok y S1) (h2 : evE G call t (e0.set i (some e)) S1 = .ok z S2) : cmpB G call [] (.nm i) .none t e0 [d, e] S = .ok [y, z] S2 := by
  unfold cmpB
  simp only [compA, gdOk_nil, if_true, asg, oc_none, tru, R.bind_ok, tr_b, ofO_some, nox_ok, h, h2, List.nil_append, List.length_nil, List.length_append, List.length_cons, List.cons_append]
  rw [if_pos (by decide), if_pos (by decide)]
end
theorem bls_len (l : List Bool) : (bls l).length = l.length := by simp [bls]
theorem pys_bls : ∀ l : List Bool, pyGs (bls l) = some (l.map PyData.bool)
  | [] => rfl
  | b :: r => by
    have := pys_bls r
    simp only [bls] at this
    simp [bls, pyGs, pyG, this]
theorem lay_bls : ∀ l : List Bool, PyData.canLayAll0 (l.map PyData.bool) = true ∧ PyData.depthAll (l.map PyData.bool) ≤ 1
  | [] => by simp [PyData.canLayAll0, PyData.depthAll]
  | b :: r => by
    obtain ⟨h1, h2⟩ := lay_bls r
    simp only [List.map_cons, PyData.canLayAll0, PyData.depthAll, h1, PyData.canLay0, PyData.depth, Bool.and_self, true_and]
    omega
theorem shp_bls (l : List Bool) : SeqAt.shaped (.list (l.map PyData.bool)) = true := by
  obtain ⟨h1, h2⟩ := lay_bls l
  simp only [SeqAt.shaped, PyData.canLay0, h1, PyData.depth, Bool.true_and, decide_eq_true_eq]
  exact decide_eq_true (show PyData.depthAll (l.map PyData.bool) + 1 ≤ 64 from Nat.le_trans (Nat.succ_le_succ h2) (by decide))
theorem eqv_bls : ∀ l m : List Bool, PyData.eqvAll (l.map PyData.bool) (m.map PyData.bool) = decide (l = m)
  | [], [] => by simp [PyData.eqvAll]
  | [], _ :: _ => by simp [PyData.eqvAll]
  | _ :: _, [] => by simp [PyData.eqvAll]
  | a :: l, b :: m => by
    have := eqv_bls l m
    simp only [List.map_cons, PyData.eqvAll, this, PyData.eqv]
    cases a <;> cases b <;> simp
theorem py_bls {S : Store} (l : List Bool) : py S (.lst (bls l)) = some (.list (l.map PyData.bool)) := by
  show (pyGs (bls l)).map PyData.list = _
  rw [pys_bls]; rfl
theorem ne_bls {S : Store} {x y : D} {l m : List Bool} (hx : py S x = some (.list (l.map PyData.bool))) (hy : py S y = some (.list (m.map PyData.bool))) : cmpA .NotEq x y S = some (!decide (l = m)) := by
  show (eqA S x y).map _ = _
  unfold eqA
  rw [hx, Option.bind_some, hy, Option.bind_some, if_pos ⟨shp_bls l, shp_bls m⟩]
  show some (!PyData.eqv (.list (l.map PyData.bool)) (.list (m.map PyData.bool))) = _
  simp only [PyData.eqv, eqv_bls]
theorem in_bls {S : Store} {l : List Bool} : cmpA .In (.bl true) (.lst (bls l)) S = some (decide (true ∈ l)) := by
  show inA S (.bl true) (.lst (bls l)) = _
  unfold inA
  dsimp only
  rw [show py S (.bl true) = some (.bool true) from rfl, Option.bind_some, py_bls, Option.bind_some]
  dsimp only
  rw [if_pos ⟨by decide, shp_bls l⟩]
  congr 1
  induction l with
  | nil => rfl
  | cons a l ih =>
    rw [List.map_cons, List.any_cons, ih]
    cases a <;> simp [PyData.eqv]
theorem mul_bl {S : Store} {v b : Bool} {n : Nat} (hn : n ≤ 100000) : binA v .Mult (.lst [.bl b]) (.int (n : Int)) S = mkL v (bls (List.replicate n b)) S := by
  show mulA v S (.lst [.bl b]) (.int (n : Int)) = _
  unfold mulA
  dsimp only
  rw [seqL_l]
  dsimp only
  rw [if_pos ⟨by omega, by omega, sz (by simp; omega)⟩]
  congr 1
  unfold rep bls
  rw [Int.toNat_natCast]
  induction n with
  | zero => rfl
  | succ n ih =>
    rw [List.replicate_succ, List.flatten_cons, ih (by omega), List.replicate_succ]
    rfl
def notD : D → D
  | .bl b => .bl (!b)
  | d => d
def andD : D → D
  | .wtp [.bl a, .bl b] => .bl (a && b)
  | d => d
def orD : D → D
  | .wtp [.bl a, .bl b] => .bl (a || b)
  | d => d
theorem map_not (l : List Bool) : (bls l).map notD = bls (l.map (!·)) := by simp [bls, notD, Function.comp_def]
theorem map_and : ∀ l m : List Bool, (zipF (bls l) (bls m)).map andD = bls (List.zipWith (· && ·) l m)
  | [], _ => by simp [bls, zipF]
  | _ :: _, [] => by simp [bls, zipF]
  | a :: l, b :: m => by
    have := map_and l m
    simp only [bls] at this
    simp [bls, zipF, andD, this]
theorem map_or : ∀ l m : List Bool, (zipF (bls l) (bls m)).map orD = bls (List.zipWith (· || ·) l m)
  | [], _ => by simp [bls, zipF]
  | _ :: _, [] => by simp [bls, zipF]
  | a :: l, b :: m => by
    have := map_or l m
    simp only [bls] at this
    simp [bls, zipF, orD, this]
theorem zip_mem : ∀ {l m : List Bool} {d : D}, d ∈ zipF (bls l) (bls m) → ∃ a b, d = .wtp [.bl a, .bl b]
  | [], _, d, h => by simp [bls, zipF] at h
  | _ :: _, [], d, h => by simp [bls, zipF] at h
  | a :: l, b :: m, d, h => by
    simp only [bls, List.map_cons, zipF, List.mem_cons] at h
    rcases h with rfl | h
    · exact ⟨a, b, rfl⟩
    · exact zip_mem (l := l) (m := m) h
theorem zip_len (l m : List Bool) (n : Nat) (h : l.length ≤ n) : (zipF (bls l) (bls m)).length ≤ n := by
  rw [zipF_len, bls_len]
  omega
end K23

namespace K23
open PySem Mn
theorem at0 {x : D} {l : List D} : L2.atI (x :: l) 0 = some x := by
  have := atI_nat (l := x :: l) (n := 0)
  exact this
theorem at1 {x y : D} {l : List D} : L2.atI (x :: y :: l) 1 = some y := by
  have := atI_nat (l := x :: y :: l) (n := 1)
  exact this
section
variable {A B : List Str} {T : List (Int × Int)} (hb : Bd A B) (hT : T.length ≤ 1000)
abbrev LV (A B : List Str) (T : List (Int × Int)) (w : W) : List Bool := lv T.length (sgv A B T) w
theorem so_b (hb : Bd A B) : ∀ y ∈ B, PyData.strOk y = true := fun y hy => nm_ok (hb.nm y (List.mem_append_right _ hy))
theorem so_a (hb : Bd A B) : ∀ y ∈ A, PyData.strOk y = true := fun y hy => nm_ok (hb.nm y (List.mem_append_left _ hy))
end
end K23

namespace K23
open PySem Mn
/-! ### the program: boards -/
theorem isi_s {v : Bool} {S : Store} {x : Str} : bltA v "isinstance" [.str x, .ty "str"] S = .ok (.bl true) S := by
  show (match L2.kitB "str" "str" with | some b => R.ok (D.bl b) S | none => .bad) = _
  rw [show L2.kitB "str" "str" = some true by decide +kernel]
theorem c_one {l : List Str} {x : Str} (k : Nat) (S : Store) (hx : PyData.strOk x = true) (hl : ∀ y ∈ l, PyData.strOk y = true) : CC (k + 1) "is_one_of" [.tup (l.map .str), .str x] S = .ok (.bl (decide (x ∈ l))) S := by
  rw [show CC (k + 1) "is_one_of" [.tup (l.map .str), .str x] S = _ from call_step (k := k) (d := d_is_one_of) rfl rfl]
  show leave .pure S (exB Gs 1000000 (CC k) d_is_one_of.body [some (.tup (l.map .str)), some (.str x)] S) = _
  simp only [d_is_one_of, v_maxd, v_dict, v_dget, x_dput, x_par, par_k, i_rngD, i_zip, v_agen, v_glob, v_chain, v_isx, x_raise, x_kept, x_nil, x_cons, x_set, x_unp, x_sets, x_expr, x_ret, x_pass, x_brk, x_cont, x_ite, x_for, x_whl, v_bl, v_int, v_str, v_ty, v_non, v_var, v_tup, v_lst, v_bin, v_neg, v_not, v_cmp, v_and, v_or, v_ife, v_call, v_blt, v_mth, v_sub, v_slc, v_comp, o_none, o_some, s_nil, s_cons, i_seq, i_rng1, i_rng2, i_enum, nx_nx, nx_rt, nx_bk, nx_ct, ite_t, ite_f, and_t, and_f, or_t, or_f, R.bind_ok, R.bind_assoc, ofO_some, tr_b, optI_i, itm_t, itm_l, seqL_l, gdOf_tup, gdOf_lst, neg_i, aug_i, add_i, sub_i, slc_t, slc_l, add_l, len_t, len_l, list_t, list_l, tuple_l, max_i, ls_i, le_i, gt_i, ge_i, sub_t, sub_l, List.getElem?_cons_zero, List.getElem?_cons_succ, List.set_cons_zero, List.set_cons_succ, Bool.not_true, Bool.not_false, isi_s, in_names hx hl]
  exact leave_same (by simp [below])
theorem c_bit (k : Nat) (S : Store) (x : Int) (i : Nat) : CC (k + 1) "has_bit" [.int x, .int (i : Int)] S = .ok (.bl (decide (Builtin.bitAnd (x / 2 ^ i) 1 = 1))) S := by
  rw [show CC (k + 1) "has_bit" [.int x, .int (i : Int)] S = _ from call_step (k := k) (d := d_has_bit) rfl rfl]
  show leave .pure S (exB Gs 1000000 (CC k) d_has_bit.body [some (.int x), some (.int (i : Int))] S) = _
  simp only [d_has_bit, v_maxd, v_dict, v_dget, x_dput, x_par, par_k, i_rngD, i_zip, v_agen, v_glob, v_chain, v_isx, x_raise, x_kept, x_nil, x_cons, x_set, x_unp, x_sets, x_expr, x_ret, x_pass, x_brk, x_cont, x_ite, x_for, x_whl, v_bl, v_int, v_str, v_ty, v_non, v_var, v_tup, v_lst, v_bin, v_neg, v_not, v_cmp, v_and, v_or, v_ife, v_call, v_blt, v_mth, v_sub, v_slc, v_comp, o_none, o_some, s_nil, s_cons, i_seq, i_rng1, i_rng2, i_enum, nx_nx, nx_rt, nx_bk, nx_ct, ite_t, ite_f, and_t, and_f, or_t, or_f, R.bind_ok, R.bind_assoc, ofO_some, tr_b, optI_i, itm_t, itm_l, seqL_l, gdOf_tup, gdOf_lst, neg_i, aug_i, add_i, sub_i, slc_t, slc_l, add_l, len_t, len_l, list_t, list_l, tuple_l, max_i, ls_i, le_i, gt_i, ge_i, sub_t, sub_l, List.getElem?_cons_zero, List.getElem?_cons_succ, List.set_cons_zero, List.set_cons_succ, Bool.not_true, Bool.not_false, rsh_i, band_i, eq_i]
  exact leave_same (by simp [below])
def sd (B : List Str) (x : Str) : Int := if decide (x ∈ B) = true then 1 else 0
def ix (A B : List Str) (x : Str) : Nat := if x ∈ B then B.idxOf x else A.idxOf x
theorem c_place {A B : List Str} {x : Str} (hb : Bd A B) (hx : x ∈ A ++ B) (k : Nat) (S : Store) : CC (k + 2) "place_of" [brd A B, .str x] S = .ok (.tup [.int (sd B x), .int (ix A B x : Nat)]) S := by
  have sx := nm_ok (hb.nm x hx)
  rw [show CC (k + 2) "place_of" [brd A B, .str x] S = _ from call_step (k := k + 1) (d := d_place_of) rfl rfl]
  show leave .pure S (exB Gs 1000000 (CC (k + 1)) d_place_of.body [some (brd A B), some (.str x), none, none] S) = _
  have two : ∀ (i : Int) (j : Int), mkT [D.int i, .int j] S = .ok (.tup [.int i, .int j]) S := fun i j => mkT_v (sz (by simp))
  have z : exB Gs 1000000 (CC (k + 1)) d_place_of.body [some (brd A B), some (.str x), none, none] S = .ok (.rt (.tup [.int (sd B x), .int (ix A B x : Nat)])) S := by
    have sq : seqA S (brd A B) = some [.tup (A.map .str), .tup (B.map .str)] := rfl
    have gf : gdOf S (brd A B) = [] := rfl
    simp only [d_place_of, v_maxd, v_dict, v_dget, x_dput, x_par, par_k, i_rngD, i_zip, v_agen, v_glob, v_chain, v_isx, x_raise, x_kept, x_nil, x_cons, x_set, x_unp, x_sets, x_expr, x_ret, x_pass, x_brk, x_cont, x_ite, x_for, x_whl, v_bl, v_int, v_str, v_ty, v_non, v_var, v_tup, v_lst, v_bin, v_neg, v_not, v_cmp, v_and, v_or, v_ife, v_call, v_blt, v_mth, v_sub, v_slc, v_comp, o_none, o_some, s_nil, s_cons, i_seq, i_rng1, i_rng2, i_enum, nx_nx, nx_rt, nx_bk, nx_ct, ite_t, ite_f, and_t, and_f, or_t, or_f, R.bind_ok, R.bind_assoc, ofO_some, tr_b, optI_i, itm_t, itm_l, seqL_l, gdOf_tup, gdOf_lst, neg_i, aug_i, add_i, sub_i, slc_t, slc_l, add_l, len_t, len_l, list_t, list_l, tuple_l, max_i, ls_i, le_i, gt_i, ge_i, sub_t, sub_l, List.getElem?_cons_zero, List.getElem?_cons_succ, List.set_cons_zero, List.set_cons_succ, Bool.not_true, Bool.not_false, sq, gf]
    unfold forB
    have en : enumF 0 [D.tup (A.map .str), .tup (B.map .str)] = [.wtp [.int 0, .tup (A.map .str)], .wtp [.int 1, .tup (B.map .str)]] := rfl
    rw [en]
    unfold forA
    rw [if_pos gdOk_nil]
    simp only [asg, asgs, List.set_cons_zero, List.set_cons_succ, v_maxd, v_dict, v_dget, x_dput, x_par, par_k, i_rngD, i_zip, v_agen, v_glob, v_chain, v_isx, x_raise, x_kept, x_nil, x_cons, x_set, x_unp, x_sets, x_expr, x_ret, x_pass, x_brk, x_cont, x_ite, x_for, x_whl, v_bl, v_int, v_str, v_ty, v_non, v_var, v_tup, v_lst, v_bin, v_neg, v_not, v_cmp, v_and, v_or, v_ife, v_call, v_blt, v_mth, v_sub, v_slc, v_comp, o_none, o_some, s_nil, s_cons, i_seq, i_rng1, i_rng2, i_enum, nx_nx, nx_rt, nx_bk, nx_ct, ite_t, ite_f, and_t, and_f, or_t, or_f, R.bind_ok, R.bind_assoc, ofO_some, tr_b, optI_i, itm_t, itm_l, seqL_l, gdOf_tup, gdOf_lst, neg_i, aug_i, add_i, sub_i, slc_t, slc_l, add_l, len_t, len_l, list_t, list_l, tuple_l, max_i, ls_i, le_i, gt_i, ge_i, sub_t, sub_l, List.getElem?_cons_zero, List.getElem?_cons_succ, List.set_cons_zero, List.set_cons_succ, Bool.not_true, Bool.not_false, c_one k S sx (so_a hb)]
    by_cases hA : x ∈ A
    · have hB : x ∉ B := fun h => (List.nodup_append.mp hb.nd).2.2 x hA x h rfl
      rw [decide_eq_true hA]
      simp only [v_maxd, v_dict, v_dget, x_dput, x_par, par_k, i_rngD, i_zip, v_agen, v_glob, v_chain, v_isx, x_raise, x_kept, x_nil, x_cons, x_set, x_unp, x_sets, x_expr, x_ret, x_pass, x_brk, x_cont, x_ite, x_for, x_whl, v_bl, v_int, v_str, v_ty, v_non, v_var, v_tup, v_lst, v_bin, v_neg, v_not, v_cmp, v_and, v_or, v_ife, v_call, v_blt, v_mth, v_sub, v_slc, v_comp, o_none, o_some, s_nil, s_cons, i_seq, i_rng1, i_rng2, i_enum, nx_nx, nx_rt, nx_bk, nx_ct, ite_t, ite_f, and_t, and_f, or_t, or_f, R.bind_ok, R.bind_assoc, ofO_some, tr_b, optI_i, itm_t, itm_l, seqL_l, gdOf_tup, gdOf_lst, neg_i, aug_i, add_i, sub_i, slc_t, slc_l, add_l, len_t, len_l, list_t, list_l, tuple_l, max_i, ls_i, le_i, gt_i, ge_i, sub_t, sub_l, List.getElem?_cons_zero, List.getElem?_cons_succ, List.set_cons_zero, List.set_cons_succ, Bool.not_true, Bool.not_false, recv_t, idx_ok hA, two]
      simp [sd, ix, hB]
    · have hB : x ∈ B := (List.mem_append.mp hx).elim (fun z => absurd z hA) id
      rw [decide_eq_false hA]
      simp only [v_maxd, v_dict, v_dget, x_dput, x_par, par_k, i_rngD, i_zip, v_agen, v_glob, v_chain, v_isx, x_raise, x_kept, x_nil, x_cons, x_set, x_unp, x_sets, x_expr, x_ret, x_pass, x_brk, x_cont, x_ite, x_for, x_whl, v_bl, v_int, v_str, v_ty, v_non, v_var, v_tup, v_lst, v_bin, v_neg, v_not, v_cmp, v_and, v_or, v_ife, v_call, v_blt, v_mth, v_sub, v_slc, v_comp, o_none, o_some, s_nil, s_cons, i_seq, i_rng1, i_rng2, i_enum, nx_nx, nx_rt, nx_bk, nx_ct, ite_t, ite_f, and_t, and_f, or_t, or_f, R.bind_ok, R.bind_assoc, ofO_some, tr_b, optI_i, itm_t, itm_l, seqL_l, gdOf_tup, gdOf_lst, neg_i, aug_i, add_i, sub_i, slc_t, slc_l, add_l, len_t, len_l, list_t, list_l, tuple_l, max_i, ls_i, le_i, gt_i, ge_i, sub_t, sub_l, List.getElem?_cons_zero, List.getElem?_cons_succ, List.set_cons_zero, List.set_cons_succ, Bool.not_true, Bool.not_false]
      unfold forA
      rw [if_pos gdOk_nil]
      simp only [asg, asgs, List.set_cons_zero, List.set_cons_succ, v_maxd, v_dict, v_dget, x_dput, x_par, par_k, i_rngD, i_zip, v_agen, v_glob, v_chain, v_isx, x_raise, x_kept, x_nil, x_cons, x_set, x_unp, x_sets, x_expr, x_ret, x_pass, x_brk, x_cont, x_ite, x_for, x_whl, v_bl, v_int, v_str, v_ty, v_non, v_var, v_tup, v_lst, v_bin, v_neg, v_not, v_cmp, v_and, v_or, v_ife, v_call, v_blt, v_mth, v_sub, v_slc, v_comp, o_none, o_some, s_nil, s_cons, i_seq, i_rng1, i_rng2, i_enum, nx_nx, nx_rt, nx_bk, nx_ct, ite_t, ite_f, and_t, and_f, or_t, or_f, R.bind_ok, R.bind_assoc, ofO_some, tr_b, optI_i, itm_t, itm_l, seqL_l, gdOf_tup, gdOf_lst, neg_i, aug_i, add_i, sub_i, slc_t, slc_l, add_l, len_t, len_l, list_t, list_l, tuple_l, max_i, ls_i, le_i, gt_i, ge_i, sub_t, sub_l, List.getElem?_cons_zero, List.getElem?_cons_succ, List.set_cons_zero, List.set_cons_succ, Bool.not_true, Bool.not_false, c_one k S sx (so_b hb)]
      rw [decide_eq_true hB]
      simp only [v_maxd, v_dict, v_dget, x_dput, x_par, par_k, i_rngD, i_zip, v_agen, v_glob, v_chain, v_isx, x_raise, x_kept, x_nil, x_cons, x_set, x_unp, x_sets, x_expr, x_ret, x_pass, x_brk, x_cont, x_ite, x_for, x_whl, v_bl, v_int, v_str, v_ty, v_non, v_var, v_tup, v_lst, v_bin, v_neg, v_not, v_cmp, v_and, v_or, v_ife, v_call, v_blt, v_mth, v_sub, v_slc, v_comp, o_none, o_some, s_nil, s_cons, i_seq, i_rng1, i_rng2, i_enum, nx_nx, nx_rt, nx_bk, nx_ct, ite_t, ite_f, and_t, and_f, or_t, or_f, R.bind_ok, R.bind_assoc, ofO_some, tr_b, optI_i, itm_t, itm_l, seqL_l, gdOf_tup, gdOf_lst, neg_i, aug_i, add_i, sub_i, slc_t, slc_l, add_l, len_t, len_l, list_t, list_l, tuple_l, max_i, ls_i, le_i, gt_i, ge_i, sub_t, sub_l, List.getElem?_cons_zero, List.getElem?_cons_succ, List.set_cons_zero, List.set_cons_succ, Bool.not_true, Bool.not_false, recv_t, idx_ok hB, two]
      simp [sd, ix, hB]
  rw [z]
  exact leave_same (by simp [below, belows])

/-! ### turns that are handed in -/
def TH (S : Store) (th : D) (T : List (Int × Int)) : Prop := th = .tup (T.map td) ∨ (∃ b, th = .ref b ∧ S[b]? = some (.lst (T.map td))) ∨ th = .lst (T.map td)
section
variable {S : Store} {th : D} {T : List (Int × Int)}
theorem TH.more (h : TH S th T) (X : Store) : TH (S ++ X) th T := by
  rcases h with h | ⟨b, h, e⟩ | h
  · exact .inl h
  · exact .inr (.inl ⟨b, h, by rw [List.getElem?_append_left (List.getElem?_eq_some_iff.mp e).1]; exact e⟩)
  · exact .inr (.inr h)
theorem TH.itm (h : TH S th T) : itemsOf S th = some (T.map td) := by
  rcases h with rfl | ⟨b, rfl, e⟩ | rfl
  · rfl
  · show seqL S (.ref b) = _
    exact seqL_r e
  · rfl
theorem gd_ref {n : Nat} {l : List D} (e : S[n]? = some (.lst l)) : gdOf S (.ref n) = [(n, l)] := by
  unfold gdOf
  dsimp only
  rw [e]
theorem gdOk_ref {n : Nat} {l : List D} (e : S[n]? = some (.lst l)) : gdOk S [(n, l)] := ⟨e, True.intro⟩
theorem TH.gd (h : TH S th T) : gdOk S (gdOf S th) := by
  rcases h with rfl | ⟨b, rfl, e⟩ | rfl
  · exact gdOk_nil
  · rw [gd_ref e]
    exact gdOk_ref e
  · exact gdOk_nil
theorem TH.len (h : TH S th T) {v : Bool} : bltA v "len" [th] S = .ok (.int (T.length : Nat)) S := by
  rcases h with rfl | ⟨b, rfl, e⟩ | rfl
  · rw [len_t, List.length_map]
  · rw [len_r e, List.length_map]
  · rw [len_l, List.length_map]
end
theorem bls_below (n : Nat) (l : List Bool) : belows n (bls l) = true := by
  induction l with
  | nil => rfl
  | cons a l ih =>
    show (below n (.bl a) && belows n (bls l)) = true
    rw [ih]; rfl
theorem leave_nx {S X : Store} {l : List Bool} : leave .new S (.ok (.rt (.ref (S ++ X).length)) (S ++ X ++ [.lst (bls l)])) = .ok (.ref S.length) (S ++ [.lst (bls l)]) := by
  show fin .new S (.ref (S ++ X).length) (S ++ X ++ [.lst (bls l)]) = _
  unfold fin
  have o : oldOk S (S ++ X ++ [.lst (bls l)]) := ⟨by simp, fun i hi => .inl (by rw [List.append_assoc, List.getElem?_append_left hi])⟩
  have e1 : (S ++ X ++ [O.lst (bls l)])[(S ++ X).length]? = some (.lst (bls l)) := get_push
  dsimp only
  rw [if_pos o, if_neg (by simp), e1]
  dsimp only
  rw [if_pos (bls_below _ _), List.append_assoc, List.take_left]
theorem c_sign {A B : List Str} {T : List (Int × Int)} {x : Str} {th : D} {S : Store} (hb : Bd A B) (hx : x ∈ A ++ B) (hT : T.length ≤ 1000) (h : TH S th T) (k : Nat) :
    CC (k + 3) "sign_along" [brd A B, .str x, th] S = .ok (.ref S.length) (S ++ [.lst (bls (sgv A B T x))]) := by
  rw [show CC (k + 3) "sign_along" [brd A B, .str x, th] S = _ from call_step (k := k + 2) (d := d_sign_along) rfl rfl]
  show leave .new S (exB Gs 1000000 (CC (k + 2)) d_sign_along.body [some (brd A B), some (.str x), some th, none, none, none] S) = _
  have z : exB Gs 1000000 (CC (k + 2)) d_sign_along.body [some (brd A B), some (.str x), some th, none, none, none] S = .ok (.rt (.ref S.length)) (S ++ [.lst (bls (sgv A B T x))]) := by
    simp only [d_sign_along, v_maxd, v_dict, v_dget, x_dput, x_par, par_k, i_rngD, i_zip, v_agen, v_glob, v_chain, v_isx, x_raise, x_kept, x_nil, x_cons, x_set, x_unp, x_sets, x_expr, x_ret, x_pass, x_brk, x_cont, x_ite, x_for, x_whl, v_bl, v_int, v_str, v_ty, v_non, v_var, v_tup, v_lst, v_bin, v_neg, v_not, v_cmp, v_and, v_or, v_ife, v_call, v_blt, v_mth, v_sub, v_slc, v_comp, o_none, o_some, s_nil, s_cons, i_seq, i_rng1, i_rng2, i_enum, nx_nx, nx_rt, nx_bk, nx_ct, ite_t, ite_f, and_t, and_f, or_t, or_f, R.bind_ok, R.bind_assoc, ofO_some, tr_b, optI_i, itm_t, itm_l, seqL_l, gdOf_tup, gdOf_lst, neg_i, aug_i, add_i, sub_i, slc_t, slc_l, add_l, len_t, len_l, list_t, list_l, tuple_l, max_i, ls_i, le_i, gt_i, ge_i, sub_t, sub_l, List.getElem?_cons_zero, List.getElem?_cons_succ, List.set_cons_zero, List.set_cons_succ, Bool.not_true, Bool.not_false, c_place hb hx k S, asg, asgs, h.itm]
    rw [comp_map (fun d => match d with
      | .tup [.int p, .int q] => .bl (bit (p, q) (decide (x ∈ B)) (ix A B x))
      | d => d) h.gd _ (sz' (by simp; omega)) (fun d hd => by
        obtain ⟨t, _, rfl⟩ := List.mem_map.mp hd
        refine ⟨_, rfl, ?_⟩
        simp only [wipe, List.set_cons_zero, List.set_cons_succ]
        have e1 : subA S (td t) (.int (sd B x)) = some (.int (if decide (x ∈ B) then t.2 else t.1)) := td_at
        simp only [v_maxd, v_dict, v_dget, x_dput, x_par, par_k, i_rngD, i_zip, v_agen, v_glob, v_chain, v_isx, x_raise, x_kept, x_nil, x_cons, x_set, x_unp, x_sets, x_expr, x_ret, x_pass, x_brk, x_cont, x_ite, x_for, x_whl, v_bl, v_int, v_str, v_ty, v_non, v_var, v_tup, v_lst, v_bin, v_neg, v_not, v_cmp, v_and, v_or, v_ife, v_call, v_blt, v_mth, v_sub, v_slc, v_comp, o_none, o_some, s_nil, s_cons, i_seq, i_rng1, i_rng2, i_enum, nx_nx, nx_rt, nx_bk, nx_ct, ite_t, ite_f, and_t, and_f, or_t, or_f, R.bind_ok, R.bind_assoc, ofO_some, tr_b, optI_i, itm_t, itm_l, seqL_l, gdOf_tup, gdOf_lst, neg_i, aug_i, add_i, sub_i, slc_t, slc_l, add_l, len_t, len_l, list_t, list_l, tuple_l, max_i, ls_i, le_i, gt_i, ge_i, sub_t, sub_l, List.getElem?_cons_zero, List.getElem?_cons_succ, List.set_cons_zero, List.set_cons_succ, Bool.not_true, Bool.not_false, e1]
        exact c_bit _ S _ _), R.bind_ok, List.map_map]
    have e : T.map ((fun d => match d with
      | D.tup [.int p, .int q] => D.bl (bit (p, q) (decide (x ∈ B)) (ix A B x))
      | d => d) ∘ td) = bls (sgv A B T x) := by
      simp [bls, sgv, Function.comp_def, td, ix]
    rw [e, mkL_r (sz (by rw [bls_len, sgv_len]; omega))]
    simp only [v_maxd, v_dict, v_dget, x_dput, x_par, par_k, i_rngD, i_zip, v_agen, v_glob, v_chain, v_isx, x_raise, x_kept, x_nil, x_cons, x_set, x_unp, x_sets, x_expr, x_ret, x_pass, x_brk, x_cont, x_ite, x_for, x_whl, v_bl, v_int, v_str, v_ty, v_non, v_var, v_tup, v_lst, v_bin, v_neg, v_not, v_cmp, v_and, v_or, v_ife, v_call, v_blt, v_mth, v_sub, v_slc, v_comp, o_none, o_some, s_nil, s_cons, i_seq, i_rng1, i_rng2, i_enum, nx_nx, nx_rt, nx_bk, nx_ct, ite_t, ite_f, and_t, and_f, or_t, or_f, R.bind_ok, R.bind_assoc, ofO_some, tr_b, optI_i, itm_t, itm_l, seqL_l, gdOf_tup, gdOf_lst, neg_i, aug_i, add_i, sub_i, slc_t, slc_l, add_l, len_t, len_l, list_t, list_l, tuple_l, max_i, ls_i, le_i, gt_i, ge_i, sub_t, sub_l, List.getElem?_cons_zero, List.getElem?_cons_succ, List.set_cons_zero, List.set_cons_succ, Bool.not_true, Bool.not_false]
  rw [z]
  have := leave_nx (S := S) (X := []) (l := sgv A B T x)
  simpa using this
theorem c_inner (k : Nat) (S : Store) (w : W) : CC (k + 1) "inner_of" [w.d] S = .ok (.tup (match w with
    | .yes | .no | .sg _ => []
    | .nt a | .bf a | .ws a => [a.d]
    | .an a b | .or a b | .si a b => [a.d, b.d])) S := by
  rw [show CC (k + 1) "inner_of" [w.d] S = _ from call_step (k := k) (d := d_inner_of) rfl rfl]
  show leave .pure S (exB Gs 1000000 (CC k) d_inner_of.body [some w.d] S) = _
  have nl : mkT [] S = .ok (.tup []) S := mkT_v (sz (by simp))
  cases w <;> simp (disch := decide +kernel) only [d_inner_of, v_maxd, v_dict, v_dget, x_dput, x_par, par_k, i_rngD, i_zip, v_agen, v_glob, v_chain, v_isx, x_raise, x_kept, x_nil, x_cons, x_set, x_unp, x_sets, x_expr, x_ret, x_pass, x_brk, x_cont, x_ite, x_for, x_whl, v_bl, v_int, v_str, v_ty, v_non, v_var, v_tup, v_lst, v_bin, v_neg, v_not, v_cmp, v_and, v_or, v_ife, v_call, v_blt, v_mth, v_sub, v_slc, v_comp, o_none, o_some, s_nil, s_cons, i_seq, i_rng1, i_rng2, i_enum, nx_nx, nx_rt, nx_bk, nx_ct, ite_t, ite_f, and_t, and_f, or_t, or_f, R.bind_ok, R.bind_assoc, ofO_some, tr_b, optI_i, itm_t, itm_l, seqL_l, gdOf_tup, gdOf_lst, neg_i, aug_i, add_i, sub_i, slc_t, slc_l, add_l, len_t, len_l, list_t, list_l, tuple_l, max_i, ls_i, le_i, gt_i, ge_i, sub_t, sub_l, List.getElem?_cons_zero, List.getElem?_cons_succ, List.set_cons_zero, List.set_cons_succ, Bool.not_true, Bool.not_false, W.d, at0, cw_t, cw_f, cut1, nl] <;> exact leave_same (by simp [below, belows, W.bel])
end K23

namespace K23
open PySem Mn
theorem push_at {S : Store} {o : O} : (S ++ [o])[S.length]? = some o := get_push
theorem zipF_bls : ∀ (as bs : List Bool) (i : Nat) (d : D), (zipF (bls as) (bls bs))[i]? = some d → ∃ a b, as[i]? = some a ∧ bs[i]? = some b ∧ d = .wtp [.bl a, .bl b] := by
  intro as bs i d h
  obtain ⟨x, y, h1, h2, h3⟩ := zipF_get _ _ i d h
  simp only [bls, List.getElem?_map] at h1 h2
  cases e1 : as[i]? with
  | none => rw [e1] at h1; cases h1
  | some a =>
    cases e2 : bs[i]? with
    | none => rw [e2] at h2; cases h2
    | some b =>
      rw [e1] at h1; rw [e2] at h2
      cases h1; cases h2
      exact ⟨a, b, rfl, rfl, h3⟩
/-- what is walked stays in a longer store -/
def Sq (S : Store) (d : D) (l : List Bool) : Prop := d = .lst (bls l) ∨ ∃ n, d = .ref n ∧ S[n]? = some (.lst (bls l))
theorem Sq.seq {S : Store} {d : D} {l : List Bool} (h : Sq S d l) : seqL S d = some (bls l) := by
  rcases h with rfl | ⟨n, rfl, e⟩
  · rfl
  · exact seqL_r e
theorem Sq.more {S : Store} {d : D} {l : List Bool} (h : Sq S d l) (X : Store) : Sq (S ++ X) d l := by
  rcases h with h | ⟨n, h, e⟩
  · exact .inl h
  · exact .inr ⟨n, h, by rw [List.getElem?_append_left (List.getElem?_eq_some_iff.mp e).1]; exact e⟩
theorem Sq.gd {S : Store} {d : D} {l : List Bool} (h : Sq S d l) (X : Store) : gdOk (S ++ X) (gdOf S d) := by
  rcases h with rfl | ⟨n, rfl, e⟩
  · exact gdOk_nil
  · rw [gd_ref e]
    exact gdOk_ref (by rw [List.getElem?_append_left (List.getElem?_eq_some_iff.mp e).1]; exact e)
theorem gdOk_app2 {S : Store} : ∀ {g k : Gd}, gdOk S g → gdOk S k → gdOk S (g ++ k)
  | [], _, _, h => h
  | (_, _) :: _, _, h, h2 => ⟨h.1, gdOk_app2 h.2 h2⟩
theorem c_alongS {x y : D} {as bs : List Bool} {S : Store} (hx : Sq S x as) (hy : Sq S y bs) (e : as.length = bs.length) (hl : bs.length ≤ 10000) (k : Nat) :
    CC (k + 1) "since_along" [x, y] S = .ok (.ref S.length) (S ++ [.lst (bls (sinA false as bs))]) := by
  rw [show CC (k + 1) "since_along" [x, y] S = _ from call_step (k := k) (d := d_since_along) rfl rfl]
  show leave .new S (exB Gs 1000000 (CC k) d_since_along.body [some x, some y, none, none, none, none] S) = _
  have z : Sat (exB Gs 1000000 (CC k) d_since_along.body [some x, some y, none, none, none, none] S) fun f S' => f = .rt (.ref S.length) ∧ S' = S ++ [.lst (bls (sinA false as bs))] := by
    simp only [d_since_along, v_maxd, v_dict, v_dget, x_dput, x_par, par_k, i_rngD, i_zip, v_agen, v_glob, v_chain, v_isx, x_raise, x_kept, x_nil, x_cons, x_set, x_unp, x_sets, x_expr, x_ret, x_pass, x_brk, x_cont, x_ite, x_for, x_whl, v_bl, v_int, v_str, v_ty, v_non, v_var, v_tup, v_lst, v_bin, v_neg, v_not, v_cmp, v_and, v_or, v_ife, v_call, v_blt, v_mth, v_sub, v_slc, v_comp, o_none, o_some, s_nil, s_cons, i_seq, i_rng1, i_rng2, i_enum, nx_nx, nx_rt, nx_bk, nx_ct, ite_t, ite_f, and_t, and_f, or_t, or_f, R.bind_ok, R.bind_assoc, ofO_some, tr_b, optI_i, itm_t, itm_l, seqL_l, gdOf_tup, gdOf_lst, neg_i, aug_i, add_i, sub_i, slc_t, slc_l, add_l, len_t, len_l, list_t, list_l, tuple_l, max_i, ls_i, le_i, gt_i, ge_i, sub_t, sub_l, List.getElem?_cons_zero, List.getElem?_cons_succ, List.set_cons_zero, List.set_cons_succ, Bool.not_true, Bool.not_false]
    rw [mkL_r (sz (by simp)), R.bind_ok]
    simp only [(hx.more [.lst []]).seq, (hy.more [.lst []]).seq, R.bind_ok, List.set_cons_zero, List.set_cons_succ]
    refine Sat.bind (P := fun f S' => (∃ h x4 x5, f = .nx [some x, some y, some (.ref S.length), some (.bl h), x4, x5]) ∧ S' = S ++ [.lst (bls (sinA false as bs))]) ?_ fun f S' ⟨⟨h, x4, x5, hf⟩, hS⟩ => ?_
    · unfold forB
      refine for_satG (fun i e S' => ∃ acc h x4 x5, S' = S ++ [.lst (bls acc)] ∧ acc.length = i ∧ e = [some x, some y, some (.ref S.length), some (.bl h), x4, x5] ∧ sinA false as bs = acc ++ sinA h (as.drop i) (bs.drop i)) ?_ ?_ ?_ ?_
      · rintro i e S' ⟨acc, h, x4, x5, rfl, _⟩
        have g1 : gdOf (S ++ [O.lst []]) x = gdOf S x := by
          rcases hx with rfl | ⟨n, rfl, q⟩
          · rfl
          · rw [gd_ref q, gd_ref (by rw [List.getElem?_append_left (List.getElem?_eq_some_iff.mp q).1]; exact q)]
        have g2 : gdOf (S ++ [O.lst []]) y = gdOf S y := by
          rcases hy with rfl | ⟨n, rfl, q⟩
          · rfl
          · rw [gd_ref q, gd_ref (by rw [List.getElem?_append_left (List.getElem?_eq_some_iff.mp q).1]; exact q)]
        rw [g1, g2]
        exact gdOk_app2 (hx.gd _) (hy.gd _)
      · rintro i d e S' hd ⟨acc, h, x4, x5, rfl, ha, rfl, hs⟩
        obtain ⟨a, b, h1, h2, rfl⟩ := zipF_bls as bs i d hd
        refine ⟨_, rfl, ?_⟩
        have hi := (List.getElem?_eq_some_iff.mp h2).1
        have da : as.drop i = a :: as.drop (i + 1) := by
          obtain ⟨q1, q2⟩ := List.getElem?_eq_some_iff.mp h1
          rw [List.drop_eq_getElem_cons q1, q2]
        have db : bs.drop i = b :: bs.drop (i + 1) := by
          obtain ⟨q1, q2⟩ := List.getElem?_eq_some_iff.mp h2
          rw [List.drop_eq_getElem_cons q1, q2]
        rw [da, db] at hs
        have fin : ∀ v : Bool, v = (b || (a && h)) → Sat (R.ok (F.nx [some x, some y, some (.ref S.length), some (.bl v), some (.bl a), some (.bl b)]) (S ++ [.lst (bls acc ++ [.bl v])]))
            (nxQ (fun e S' => ∃ acc h x4 x5, S' = S ++ [.lst (bls acc)] ∧ acc.length = i + 1 ∧ e = [some x, some y, some (.ref S.length), some (.bl h), x4, x5] ∧ sinA false as bs = acc ++ sinA h (as.drop (i + 1)) (bs.drop (i + 1)))
              fun f S' => (∃ h x4 x5, f = .nx [some x, some y, some (.ref S.length), some (.bl h), x4, x5]) ∧ S' = S ++ [.lst (bls (sinA false as bs))]) := fun v hv => by
          refine .ok ⟨acc ++ [v], v, _, _, by simp [bls], by simp [ha], rfl, ?_⟩
          rw [hs, hv]
          simp [sinA]
        have la : (bls acc).length < sizeLine := sz' (by rw [bls_len]; omega)
        cases b with
        | true =>
          simp only [v_maxd, v_dict, v_dget, x_dput, x_par, par_k, i_rngD, i_zip, v_agen, v_glob, v_chain, v_isx, x_raise, x_kept, x_nil, x_cons, x_set, x_unp, x_sets, x_expr, x_ret, x_pass, x_brk, x_cont, x_ite, x_for, x_whl, v_bl, v_int, v_str, v_ty, v_non, v_var, v_tup, v_lst, v_bin, v_neg, v_not, v_cmp, v_and, v_or, v_ife, v_call, v_blt, v_mth, v_sub, v_slc, v_comp, o_none, o_some, s_nil, s_cons, i_seq, i_rng1, i_rng2, i_enum, nx_nx, nx_rt, nx_bk, nx_ct, ite_t, ite_f, and_t, and_f, or_t, or_f, R.bind_ok, R.bind_assoc, ofO_some, tr_b, optI_i, itm_t, itm_l, seqL_l, gdOf_tup, gdOf_lst, neg_i, aug_i, add_i, sub_i, slc_t, slc_l, add_l, len_t, len_l, list_t, list_l, tuple_l, max_i, ls_i, le_i, gt_i, ge_i, sub_t, sub_l, List.getElem?_cons_zero, List.getElem?_cons_succ, List.set_cons_zero, List.set_cons_succ, Bool.not_true, Bool.not_false, asgs, List.set_cons_zero, List.set_cons_succ, recv_l push_at]
          rw [app_r push_at la, R.bind_ok, set_top]
          exact fin true (by simp)
        | false =>
          cases a with
          | true =>
            simp only [v_maxd, v_dict, v_dget, x_dput, x_par, par_k, i_rngD, i_zip, v_agen, v_glob, v_chain, v_isx, x_raise, x_kept, x_nil, x_cons, x_set, x_unp, x_sets, x_expr, x_ret, x_pass, x_brk, x_cont, x_ite, x_for, x_whl, v_bl, v_int, v_str, v_ty, v_non, v_var, v_tup, v_lst, v_bin, v_neg, v_not, v_cmp, v_and, v_or, v_ife, v_call, v_blt, v_mth, v_sub, v_slc, v_comp, o_none, o_some, s_nil, s_cons, i_seq, i_rng1, i_rng2, i_enum, nx_nx, nx_rt, nx_bk, nx_ct, ite_t, ite_f, and_t, and_f, or_t, or_f, R.bind_ok, R.bind_assoc, ofO_some, tr_b, optI_i, itm_t, itm_l, seqL_l, gdOf_tup, gdOf_lst, neg_i, aug_i, add_i, sub_i, slc_t, slc_l, add_l, len_t, len_l, list_t, list_l, tuple_l, max_i, ls_i, le_i, gt_i, ge_i, sub_t, sub_l, List.getElem?_cons_zero, List.getElem?_cons_succ, List.set_cons_zero, List.set_cons_succ, Bool.not_true, Bool.not_false, asgs, List.set_cons_zero, List.set_cons_succ, recv_l push_at]
            rw [app_r push_at la, R.bind_ok, set_top]
            exact fin h (by simp)
          | false =>
            simp only [v_maxd, v_dict, v_dget, x_dput, x_par, par_k, i_rngD, i_zip, v_agen, v_glob, v_chain, v_isx, x_raise, x_kept, x_nil, x_cons, x_set, x_unp, x_sets, x_expr, x_ret, x_pass, x_brk, x_cont, x_ite, x_for, x_whl, v_bl, v_int, v_str, v_ty, v_non, v_var, v_tup, v_lst, v_bin, v_neg, v_not, v_cmp, v_and, v_or, v_ife, v_call, v_blt, v_mth, v_sub, v_slc, v_comp, o_none, o_some, s_nil, s_cons, i_seq, i_rng1, i_rng2, i_enum, nx_nx, nx_rt, nx_bk, nx_ct, ite_t, ite_f, and_t, and_f, or_t, or_f, R.bind_ok, R.bind_assoc, ofO_some, tr_b, optI_i, itm_t, itm_l, seqL_l, gdOf_tup, gdOf_lst, neg_i, aug_i, add_i, sub_i, slc_t, slc_l, add_l, len_t, len_l, list_t, list_l, tuple_l, max_i, ls_i, le_i, gt_i, ge_i, sub_t, sub_l, List.getElem?_cons_zero, List.getElem?_cons_succ, List.set_cons_zero, List.set_cons_succ, Bool.not_true, Bool.not_false, asgs, List.set_cons_zero, List.set_cons_succ, recv_l push_at]
            rw [app_r push_at la, R.bind_ok, set_top]
            exact fin false (by simp)
      · rintro e' S' ⟨acc, h, x4, x5, rfl, ha, rfl, hs⟩
        have hn : (zipF (bls as) (bls bs)).length = bs.length := by rw [zipF_len, bls_len, bls_len, e]; omega
        rw [hn] at hs
        refine ⟨⟨h, x4, x5, rfl⟩, ?_⟩
        rw [hs, List.drop_of_length_le (Nat.le_refl bs.length), List.drop_of_length_le (by omega)]
        simp [sinA]
      · exact ⟨[], false, none, none, rfl, rfl, rfl, by simp⟩
    · subst hf hS
      simp only [v_maxd, v_dict, v_dget, x_dput, x_par, par_k, i_rngD, i_zip, v_agen, v_glob, v_chain, v_isx, x_raise, x_kept, x_nil, x_cons, x_set, x_unp, x_sets, x_expr, x_ret, x_pass, x_brk, x_cont, x_ite, x_for, x_whl, v_bl, v_int, v_str, v_ty, v_non, v_var, v_tup, v_lst, v_bin, v_neg, v_not, v_cmp, v_and, v_or, v_ife, v_call, v_blt, v_mth, v_sub, v_slc, v_comp, o_none, o_some, s_nil, s_cons, i_seq, i_rng1, i_rng2, i_enum, nx_nx, nx_rt, nx_bk, nx_ct, ite_t, ite_f, and_t, and_f, or_t, or_f, R.bind_ok, R.bind_assoc, ofO_some, tr_b, optI_i, itm_t, itm_l, seqL_l, gdOf_tup, gdOf_lst, neg_i, aug_i, add_i, sub_i, slc_t, slc_l, add_l, len_t, len_l, list_t, list_l, tuple_l, max_i, ls_i, le_i, gt_i, ge_i, sub_t, sub_l, List.getElem?_cons_zero, List.getElem?_cons_succ, List.set_cons_zero, List.set_cons_succ, Bool.not_true, Bool.not_false]
      exact .ok ⟨rfl, rfl⟩
  obtain ⟨f, S', e1, rfl, rfl⟩ := z
  rw [e1]
  have := leave_nx (S := S) (X := []) (l := sinA false as bs)
  simpa using this
theorem itm_p {S : Store} {n : Nat} {l : List D} (h : S[n]? = some (.lst l)) : itemsOf S (.ref n) = some l := by
  show seqL S (.ref n) = _
  exact seqL_r h
theorem add_lr {v : Bool} {S : Store} {n : Nat} {a l : List D} (h : S[n]? = some (.lst l)) : binA v .Add (.lst a) (.ref n) S = mkL v (a ++ l) S := by
  show addA v S (.lst a) (.ref n) = _
  unfold addA
  dsimp only
  rw [seqL_l, seqL_r h]
section
variable {A B : List Str} {T : List (Int × Int)} (hb : Bd A B) (hT : T.length ≤ 1000)
abbrev PV (A B : List Str) (T : List (Int × Int)) (w : W) : List Bool := val T.length (sgv A B T) w
include hb hT
theorem c_along : ∀ (w : W) (k : Nat) (S : Store) (th : D), TH S th T → w.ok (A ++ B) → CC (k + w.dep + 3) "values_along" [brd A B, w.d, th] S = .ok (.ref S.length) (S ++ [.lst (bls (PV A B T w))]) := by
  have hlen : ∀ w, (PV A B T w).length = T.length := fun w => by
    obtain ⟨h1, h2⟩ := val_lv T.length (sgv A B T) (sgv_len A B T) w
    show (val T.length (sgv A B T) w).length = _
    rw [h1, h2]
  have st : ∀ (w : W) (K : Nat) (S X : Store) (th : D), exB Gs 1000000 (CC K) d_values_along.body [some (brd A B), some w.d, some th, none, none, none, none, none, none] S = .ok (.rt (.ref (S ++ X).length)) (S ++ X ++ [.lst (bls (PV A B T w))]) →
      CC (K + 1) "values_along" [brd A B, w.d, th] S = .ok (.ref S.length) (S ++ [.lst (bls (PV A B T w))]) := fun w K S X th h => by
    rw [show CC (K + 1) "values_along" [brd A B, w.d, th] S = _ from call_step (k := K) (d := d_values_along) rfl rfl]
    show leave .new S (exB Gs 1000000 (CC K) d_values_along.body [some (brd A B), some w.d, some th, none, none, none, none, none, none] S) = _
    rw [h]
    exact leave_nx
  have one : ∀ (b : Bool) (S : Store), mkL true [D.bl b] S = .ok (.lst [.bl b]) S := fun b S => mkL_v (sz (by simp))
  have non : ∀ (S : Store), mkL true [] S = .ok (.lst []) S := fun S => mkL_v (sz (by simp))
  have lr : ∀ l : List Bool, l.length ≤ 1000 → ∀ S : Store, mkL false (bls l) S = .ok (.ref S.length) (S ++ [.lst (bls l)]) := fun l hl S => mkL_r (sz (by rw [bls_len]; omega))
  have lv2 : ∀ l : List Bool, l.length ≤ 2000 → ∀ S : Store, mkL true (bls l) S = .ok (.lst (bls l)) S := fun l hl S => mkL_v (sz (by rw [bls_len]; omega))
  have c0 : ∀ (G : Globs) (call : String → List D → Store → R D) (i : Nat) (t : E) (e0 : Mn.Env) (S : Store), cmpB G call [] (.nm i) .none t e0 [] S = .ok [] S := fun G call i t e0 S => by
    unfold cmpB compA
    rw [if_pos gdOk_nil]
  intro w
  induction w with
  | yes =>
    intro k S th h _
    refine st .yes _ S [] th ?_
    simp (disch := decide +kernel) only [d_values_along, v_maxd, v_dict, v_dget, x_dput, x_par, par_k, i_rngD, i_zip, v_agen, v_glob, v_chain, v_isx, x_raise, x_kept, x_nil, x_cons, x_set, x_unp, x_sets, x_expr, x_ret, x_pass, x_brk, x_cont, x_ite, x_for, x_whl, v_bl, v_int, v_str, v_ty, v_non, v_var, v_tup, v_lst, v_bin, v_neg, v_not, v_cmp, v_and, v_or, v_ife, v_call, v_blt, v_mth, v_sub, v_slc, v_comp, o_none, o_some, s_nil, s_cons, i_seq, i_rng1, i_rng2, i_enum, nx_nx, nx_rt, nx_bk, nx_ct, ite_t, ite_f, and_t, and_f, or_t, or_f, R.bind_ok, R.bind_assoc, ofO_some, tr_b, optI_i, itm_t, itm_l, seqL_l, gdOf_tup, gdOf_lst, neg_i, aug_i, add_i, sub_i, slc_t, slc_l, add_l, len_t, len_l, list_t, list_l, tuple_l, max_i, ls_i, le_i, gt_i, ge_i, sub_t, sub_l, List.getElem?_cons_zero, List.getElem?_cons_succ, List.set_cons_zero, List.set_cons_succ, Bool.not_true, Bool.not_false, W.d, at0, at1, cw_t, cw_f, show ∀ (k : Nat) (S : Store), CC (k + 1) "inner_of" [.tup [.str "yes"]] S = .ok (.tup []) S from fun k S => c_inner k S .yes, c0, non, one, h.len]
    rw [mul_bl (by omega), lr _ (by simp; omega)]
    simp only [v_maxd, v_dict, v_dget, x_dput, x_par, par_k, i_rngD, i_zip, v_agen, v_glob, v_chain, v_isx, x_raise, x_kept, x_nil, x_cons, x_set, x_unp, x_sets, x_expr, x_ret, x_pass, x_brk, x_cont, x_ite, x_for, x_whl, v_bl, v_int, v_str, v_ty, v_non, v_var, v_tup, v_lst, v_bin, v_neg, v_not, v_cmp, v_and, v_or, v_ife, v_call, v_blt, v_mth, v_sub, v_slc, v_comp, o_none, o_some, s_nil, s_cons, i_seq, i_rng1, i_rng2, i_enum, nx_nx, nx_rt, nx_bk, nx_ct, ite_t, ite_f, and_t, and_f, or_t, or_f, R.bind_ok, R.bind_assoc, ofO_some, tr_b, optI_i, itm_t, itm_l, seqL_l, gdOf_tup, gdOf_lst, neg_i, aug_i, add_i, sub_i, slc_t, slc_l, add_l, len_t, len_l, list_t, list_l, tuple_l, max_i, ls_i, le_i, gt_i, ge_i, sub_t, sub_l, List.getElem?_cons_zero, List.getElem?_cons_succ, List.set_cons_zero, List.set_cons_succ, Bool.not_true, Bool.not_false, List.append_nil]
    rfl
  | no =>
    intro k S th h _
    refine st .no _ S [] th ?_
    simp (disch := decide +kernel) only [d_values_along, v_maxd, v_dict, v_dget, x_dput, x_par, par_k, i_rngD, i_zip, v_agen, v_glob, v_chain, v_isx, x_raise, x_kept, x_nil, x_cons, x_set, x_unp, x_sets, x_expr, x_ret, x_pass, x_brk, x_cont, x_ite, x_for, x_whl, v_bl, v_int, v_str, v_ty, v_non, v_var, v_tup, v_lst, v_bin, v_neg, v_not, v_cmp, v_and, v_or, v_ife, v_call, v_blt, v_mth, v_sub, v_slc, v_comp, o_none, o_some, s_nil, s_cons, i_seq, i_rng1, i_rng2, i_enum, nx_nx, nx_rt, nx_bk, nx_ct, ite_t, ite_f, and_t, and_f, or_t, or_f, R.bind_ok, R.bind_assoc, ofO_some, tr_b, optI_i, itm_t, itm_l, seqL_l, gdOf_tup, gdOf_lst, neg_i, aug_i, add_i, sub_i, slc_t, slc_l, add_l, len_t, len_l, list_t, list_l, tuple_l, max_i, ls_i, le_i, gt_i, ge_i, sub_t, sub_l, List.getElem?_cons_zero, List.getElem?_cons_succ, List.set_cons_zero, List.set_cons_succ, Bool.not_true, Bool.not_false, W.d, at0, at1, cw_t, cw_f, show ∀ (k : Nat) (S : Store), CC (k + 1) "inner_of" [.tup [.str "no"]] S = .ok (.tup []) S from fun k S => c_inner k S .no, c0, non, one, h.len]
    rw [mul_bl (by omega), lr _ (by simp; omega)]
    simp only [v_maxd, v_dict, v_dget, x_dput, x_par, par_k, i_rngD, i_zip, v_agen, v_glob, v_chain, v_isx, x_raise, x_kept, x_nil, x_cons, x_set, x_unp, x_sets, x_expr, x_ret, x_pass, x_brk, x_cont, x_ite, x_for, x_whl, v_bl, v_int, v_str, v_ty, v_non, v_var, v_tup, v_lst, v_bin, v_neg, v_not, v_cmp, v_and, v_or, v_ife, v_call, v_blt, v_mth, v_sub, v_slc, v_comp, o_none, o_some, s_nil, s_cons, i_seq, i_rng1, i_rng2, i_enum, nx_nx, nx_rt, nx_bk, nx_ct, ite_t, ite_f, and_t, and_f, or_t, or_f, R.bind_ok, R.bind_assoc, ofO_some, tr_b, optI_i, itm_t, itm_l, seqL_l, gdOf_tup, gdOf_lst, neg_i, aug_i, add_i, sub_i, slc_t, slc_l, add_l, len_t, len_l, list_t, list_l, tuple_l, max_i, ls_i, le_i, gt_i, ge_i, sub_t, sub_l, List.getElem?_cons_zero, List.getElem?_cons_succ, List.set_cons_zero, List.set_cons_succ, Bool.not_true, Bool.not_false, List.append_nil]
    rfl
  | sg x =>
    intro k S th h hx
    refine st (.sg x) _ S [] th ?_
    simp (disch := decide +kernel) only [d_values_along, v_maxd, v_dict, v_dget, x_dput, x_par, par_k, i_rngD, i_zip, v_agen, v_glob, v_chain, v_isx, x_raise, x_kept, x_nil, x_cons, x_set, x_unp, x_sets, x_expr, x_ret, x_pass, x_brk, x_cont, x_ite, x_for, x_whl, v_bl, v_int, v_str, v_ty, v_non, v_var, v_tup, v_lst, v_bin, v_neg, v_not, v_cmp, v_and, v_or, v_ife, v_call, v_blt, v_mth, v_sub, v_slc, v_comp, o_none, o_some, s_nil, s_cons, i_seq, i_rng1, i_rng2, i_enum, nx_nx, nx_rt, nx_bk, nx_ct, ite_t, ite_f, and_t, and_f, or_t, or_f, R.bind_ok, R.bind_assoc, ofO_some, tr_b, optI_i, itm_t, itm_l, seqL_l, gdOf_tup, gdOf_lst, neg_i, aug_i, add_i, sub_i, slc_t, slc_l, add_l, len_t, len_l, list_t, list_l, tuple_l, max_i, ls_i, le_i, gt_i, ge_i, sub_t, sub_l, List.getElem?_cons_zero, List.getElem?_cons_succ, List.set_cons_zero, List.set_cons_succ, Bool.not_true, Bool.not_false, W.d, at0, at1, cw_t, cw_f]
    rw [show k + (W.sg x).dep + 2 = k + 3 from rfl, c_sign hb hx hT h k]
    simp only [v_maxd, v_dict, v_dget, x_dput, x_par, par_k, i_rngD, i_zip, v_agen, v_glob, v_chain, v_isx, x_raise, x_kept, x_nil, x_cons, x_set, x_unp, x_sets, x_expr, x_ret, x_pass, x_brk, x_cont, x_ite, x_for, x_whl, v_bl, v_int, v_str, v_ty, v_non, v_var, v_tup, v_lst, v_bin, v_neg, v_not, v_cmp, v_and, v_or, v_ife, v_call, v_blt, v_mth, v_sub, v_slc, v_comp, o_none, o_some, s_nil, s_cons, i_seq, i_rng1, i_rng2, i_enum, nx_nx, nx_rt, nx_bk, nx_ct, ite_t, ite_f, and_t, and_f, or_t, or_f, R.bind_ok, R.bind_assoc, ofO_some, tr_b, optI_i, itm_t, itm_l, seqL_l, gdOf_tup, gdOf_lst, neg_i, aug_i, add_i, sub_i, slc_t, slc_l, add_l, len_t, len_l, list_t, list_l, tuple_l, max_i, ls_i, le_i, gt_i, ge_i, sub_t, sub_l, List.getElem?_cons_zero, List.getElem?_cons_succ, List.set_cons_zero, List.set_cons_succ, Bool.not_true, Bool.not_false, List.append_nil]
    rfl
  | nt a ih =>
    intro k S th h ha
    refine st (.nt a) _ S [.lst (bls (PV A B T a))] th ?_
    have h1 := h.more [.lst (bls (PV A B T a))]
    have pa : (S ++ [O.lst (bls (PV A B T a))])[S.length]? = some (.lst (bls (PV A B T a))) := push_at
    simp (disch := decide +kernel) only [d_values_along, v_maxd, v_dict, v_dget, x_dput, x_par, par_k, i_rngD, i_zip, v_agen, v_glob, v_chain, v_isx, x_raise, x_kept, x_nil, x_cons, x_set, x_unp, x_sets, x_expr, x_ret, x_pass, x_brk, x_cont, x_ite, x_for, x_whl, v_bl, v_int, v_str, v_ty, v_non, v_var, v_tup, v_lst, v_bin, v_neg, v_not, v_cmp, v_and, v_or, v_ife, v_call, v_blt, v_mth, v_sub, v_slc, v_comp, o_none, o_some, s_nil, s_cons, i_seq, i_rng1, i_rng2, i_enum, nx_nx, nx_rt, nx_bk, nx_ct, ite_t, ite_f, and_t, and_f, or_t, or_f, R.bind_ok, R.bind_assoc, ofO_some, tr_b, optI_i, itm_t, itm_l, seqL_l, gdOf_tup, gdOf_lst, neg_i, aug_i, add_i, sub_i, slc_t, slc_l, add_l, len_t, len_l, list_t, list_l, tuple_l, max_i, ls_i, le_i, gt_i, ge_i, sub_t, sub_l, List.getElem?_cons_zero, List.getElem?_cons_succ, List.set_cons_zero, List.set_cons_succ, Bool.not_true, Bool.not_false, W.d, at0, at1, cw_t, cw_f, show ∀ (k : Nat) (S : Store), CC (k + 1) "inner_of" [.tup [.str "not", a.d]] S = .ok (.tup [a.d]) S from fun k S => c_inner k S (.nt a)]
    rw [comp_one (y := .ref S.length) (S1 := S ++ [.lst (bls (PV A B T a))]) (by
      simp only [wipe, List.set_cons_zero, List.set_cons_succ, v_maxd, v_dict, v_dget, x_dput, x_par, par_k, i_rngD, i_zip, v_agen, v_glob, v_chain, v_isx, x_raise, x_kept, x_nil, x_cons, x_set, x_unp, x_sets, x_expr, x_ret, x_pass, x_brk, x_cont, x_ite, x_for, x_whl, v_bl, v_int, v_str, v_ty, v_non, v_var, v_tup, v_lst, v_bin, v_neg, v_not, v_cmp, v_and, v_or, v_ife, v_call, v_blt, v_mth, v_sub, v_slc, v_comp, o_none, o_some, s_nil, s_cons, i_seq, i_rng1, i_rng2, i_enum, nx_nx, nx_rt, nx_bk, nx_ct, ite_t, ite_f, and_t, and_f, or_t, or_f, R.bind_ok, R.bind_assoc, ofO_some, tr_b, optI_i, itm_t, itm_l, seqL_l, gdOf_tup, gdOf_lst, neg_i, aug_i, add_i, sub_i, slc_t, slc_l, add_l, len_t, len_l, list_t, list_l, tuple_l, max_i, ls_i, le_i, gt_i, ge_i, sub_t, sub_l, List.getElem?_cons_zero, List.getElem?_cons_succ, List.set_cons_zero, List.set_cons_succ, Bool.not_true, Bool.not_false]
      exact ih k S th h ha), R.bind_ok, mkL_v (sz (by simp)), R.bind_ok]
    try simp (disch := decide +kernel) only [v_maxd, v_dict, v_dget, x_dput, x_par, par_k, i_rngD, i_zip, v_agen, v_glob, v_chain, v_isx, x_raise, x_kept, x_nil, x_cons, x_set, x_unp, x_sets, x_expr, x_ret, x_pass, x_brk, x_cont, x_ite, x_for, x_whl, v_bl, v_int, v_str, v_ty, v_non, v_var, v_tup, v_lst, v_bin, v_neg, v_not, v_cmp, v_and, v_or, v_ife, v_call, v_blt, v_mth, v_sub, v_slc, v_comp, o_none, o_some, s_nil, s_cons, i_seq, i_rng1, i_rng2, i_enum, nx_nx, nx_rt, nx_bk, nx_ct, ite_t, ite_f, and_t, and_f, or_t, or_f, R.bind_ok, R.bind_assoc, ofO_some, tr_b, optI_i, itm_t, itm_l, seqL_l, gdOf_tup, gdOf_lst, neg_i, aug_i, add_i, sub_i, slc_t, slc_l, add_l, len_t, len_l, list_t, list_l, tuple_l, max_i, ls_i, le_i, gt_i, ge_i, sub_t, sub_l, List.getElem?_cons_zero, List.getElem?_cons_succ, List.set_cons_zero, List.set_cons_succ, Bool.not_true, Bool.not_false, at0, at1, cw_t, cw_f, List.set_cons_zero, List.set_cons_succ, itm_p pa, gd_ref pa, h1.len, one]
    rw [comp_map notD (gdOk_ref pa) _ (sz' (by rw [bls_len, hlen]; omega)) (fun d hd => by
      obtain ⟨b, _, rfl⟩ := List.mem_map.mp hd
      refine ⟨_, rfl, ?_⟩
      simp only [wipe, List.set_cons_zero, List.set_cons_succ, v_maxd, v_dict, v_dget, x_dput, x_par, par_k, i_rngD, i_zip, v_agen, v_glob, v_chain, v_isx, x_raise, x_kept, x_nil, x_cons, x_set, x_unp, x_sets, x_expr, x_ret, x_pass, x_brk, x_cont, x_ite, x_for, x_whl, v_bl, v_int, v_str, v_ty, v_non, v_var, v_tup, v_lst, v_bin, v_neg, v_not, v_cmp, v_and, v_or, v_ife, v_call, v_blt, v_mth, v_sub, v_slc, v_comp, o_none, o_some, s_nil, s_cons, i_seq, i_rng1, i_rng2, i_enum, nx_nx, nx_rt, nx_bk, nx_ct, ite_t, ite_f, and_t, and_f, or_t, or_f, R.bind_ok, R.bind_assoc, ofO_some, tr_b, optI_i, itm_t, itm_l, seqL_l, gdOf_tup, gdOf_lst, neg_i, aug_i, add_i, sub_i, slc_t, slc_l, add_l, len_t, len_l, list_t, list_l, tuple_l, max_i, ls_i, le_i, gt_i, ge_i, sub_t, sub_l, List.getElem?_cons_zero, List.getElem?_cons_succ, List.set_cons_zero, List.set_cons_succ, Bool.not_true, Bool.not_false]
      rfl), R.bind_ok, map_not, lr _ (by rw [List.length_map, hlen]; exact hT)]
    simp only [v_maxd, v_dict, v_dget, x_dput, x_par, par_k, i_rngD, i_zip, v_agen, v_glob, v_chain, v_isx, x_raise, x_kept, x_nil, x_cons, x_set, x_unp, x_sets, x_expr, x_ret, x_pass, x_brk, x_cont, x_ite, x_for, x_whl, v_bl, v_int, v_str, v_ty, v_non, v_var, v_tup, v_lst, v_bin, v_neg, v_not, v_cmp, v_and, v_or, v_ife, v_call, v_blt, v_mth, v_sub, v_slc, v_comp, o_none, o_some, s_nil, s_cons, i_seq, i_rng1, i_rng2, i_enum, nx_nx, nx_rt, nx_bk, nx_ct, ite_t, ite_f, and_t, and_f, or_t, or_f, R.bind_ok, R.bind_assoc, ofO_some, tr_b, optI_i, itm_t, itm_l, seqL_l, gdOf_tup, gdOf_lst, neg_i, aug_i, add_i, sub_i, slc_t, slc_l, add_l, len_t, len_l, list_t, list_l, tuple_l, max_i, ls_i, le_i, gt_i, ge_i, sub_t, sub_l, List.getElem?_cons_zero, List.getElem?_cons_succ, List.set_cons_zero, List.set_cons_succ, Bool.not_true, Bool.not_false]
    rfl
  | an a b iha ihb =>
    intro k S th h hab
    refine st (.an a b) _ S ([.lst (bls (PV A B T a))] ++ [.lst (bls (PV A B T b))]) th ?_
    have eX : S ++ ([O.lst (bls (PV A B T a))] ++ [.lst (bls (PV A B T b))]) = S ++ [.lst (bls (PV A B T a))] ++ [.lst (bls (PV A B T b))] := (List.append_assoc _ _ _).symm
    rw [eX]
    have ea : CC (k + max a.dep b.dep + 3) "values_along" [brd A B, a.d, th] S = .ok (.ref S.length) (S ++ [.lst (bls (PV A B T a))]) := by
      have := iha (k + (max a.dep b.dep - a.dep)) S th h hab.1
      rwa [show k + (max a.dep b.dep - a.dep) + a.dep + 3 = k + max a.dep b.dep + 3 by omega] at this
    have eb : CC (k + max a.dep b.dep + 3) "values_along" [brd A B, b.d, th] (S ++ [.lst (bls (PV A B T a))]) = .ok (.ref (S ++ [O.lst (bls (PV A B T a))]).length) (S ++ [.lst (bls (PV A B T a))] ++ [.lst (bls (PV A B T b))]) := by
      have := ihb (k + (max a.dep b.dep - b.dep)) (S ++ [.lst (bls (PV A B T a))]) th (h.more _) hab.2
      rwa [show k + (max a.dep b.dep - b.dep) + b.dep + 3 = k + max a.dep b.dep + 3 by omega] at this
    have pb : (S ++ [O.lst (bls (PV A B T a))] ++ [.lst (bls (PV A B T b))])[(S ++ [O.lst (bls (PV A B T a))]).length]? = some (.lst (bls (PV A B T b))) := push_at
    have pa : (S ++ [O.lst (bls (PV A B T a))] ++ [.lst (bls (PV A B T b))])[S.length]? = some (.lst (bls (PV A B T a))) := get_push_old push_at
    simp (disch := decide +kernel) only [d_values_along, v_maxd, v_dict, v_dget, x_dput, x_par, par_k, i_rngD, i_zip, v_agen, v_glob, v_chain, v_isx, x_raise, x_kept, x_nil, x_cons, x_set, x_unp, x_sets, x_expr, x_ret, x_pass, x_brk, x_cont, x_ite, x_for, x_whl, v_bl, v_int, v_str, v_ty, v_non, v_var, v_tup, v_lst, v_bin, v_neg, v_not, v_cmp, v_and, v_or, v_ife, v_call, v_blt, v_mth, v_sub, v_slc, v_comp, o_none, o_some, s_nil, s_cons, i_seq, i_rng1, i_rng2, i_enum, nx_nx, nx_rt, nx_bk, nx_ct, ite_t, ite_f, and_t, and_f, or_t, or_f, R.bind_ok, R.bind_assoc, ofO_some, tr_b, optI_i, itm_t, itm_l, seqL_l, gdOf_tup, gdOf_lst, neg_i, aug_i, add_i, sub_i, slc_t, slc_l, add_l, len_t, len_l, list_t, list_l, tuple_l, max_i, ls_i, le_i, gt_i, ge_i, sub_t, sub_l, List.getElem?_cons_zero, List.getElem?_cons_succ, List.set_cons_zero, List.set_cons_succ, Bool.not_true, Bool.not_false, W.d, at0, at1, cw_t, cw_f, show ∀ (k : Nat) (S : Store), CC (k + 1) "inner_of" [.tup [.str "and", a.d, b.d]] S = .ok (.tup [a.d, b.d]) S from fun k S => c_inner k S (.an a b)]
    rw [comp_two (y := .ref S.length) (z := .ref (S ++ [O.lst (bls (PV A B T a))]).length) (S1 := S ++ [.lst (bls (PV A B T a))]) (S2 := S ++ [.lst (bls (PV A B T a))] ++ [.lst (bls (PV A B T b))]) (by
      simp only [wipe, List.set_cons_zero, List.set_cons_succ, v_maxd, v_dict, v_dget, x_dput, x_par, par_k, i_rngD, i_zip, v_agen, v_glob, v_chain, v_isx, x_raise, x_kept, x_nil, x_cons, x_set, x_unp, x_sets, x_expr, x_ret, x_pass, x_brk, x_cont, x_ite, x_for, x_whl, v_bl, v_int, v_str, v_ty, v_non, v_var, v_tup, v_lst, v_bin, v_neg, v_not, v_cmp, v_and, v_or, v_ife, v_call, v_blt, v_mth, v_sub, v_slc, v_comp, o_none, o_some, s_nil, s_cons, i_seq, i_rng1, i_rng2, i_enum, nx_nx, nx_rt, nx_bk, nx_ct, ite_t, ite_f, and_t, and_f, or_t, or_f, R.bind_ok, R.bind_assoc, ofO_some, tr_b, optI_i, itm_t, itm_l, seqL_l, gdOf_tup, gdOf_lst, neg_i, aug_i, add_i, sub_i, slc_t, slc_l, add_l, len_t, len_l, list_t, list_l, tuple_l, max_i, ls_i, le_i, gt_i, ge_i, sub_t, sub_l, List.getElem?_cons_zero, List.getElem?_cons_succ, List.set_cons_zero, List.set_cons_succ, Bool.not_true, Bool.not_false]
      exact ea) (by
      simp only [wipe, List.set_cons_zero, List.set_cons_succ, v_maxd, v_dict, v_dget, x_dput, x_par, par_k, i_rngD, i_zip, v_agen, v_glob, v_chain, v_isx, x_raise, x_kept, x_nil, x_cons, x_set, x_unp, x_sets, x_expr, x_ret, x_pass, x_brk, x_cont, x_ite, x_for, x_whl, v_bl, v_int, v_str, v_ty, v_non, v_var, v_tup, v_lst, v_bin, v_neg, v_not, v_cmp, v_and, v_or, v_ife, v_call, v_blt, v_mth, v_sub, v_slc, v_comp, o_none, o_some, s_nil, s_cons, i_seq, i_rng1, i_rng2, i_enum, nx_nx, nx_rt, nx_bk, nx_ct, ite_t, ite_f, and_t, and_f, or_t, or_f, R.bind_ok, R.bind_assoc, ofO_some, tr_b, optI_i, itm_t, itm_l, seqL_l, gdOf_tup, gdOf_lst, neg_i, aug_i, add_i, sub_i, slc_t, slc_l, add_l, len_t, len_l, list_t, list_l, tuple_l, max_i, ls_i, le_i, gt_i, ge_i, sub_t, sub_l, List.getElem?_cons_zero, List.getElem?_cons_succ, List.set_cons_zero, List.set_cons_succ, Bool.not_true, Bool.not_false]
      exact eb), R.bind_ok, mkL_v (sz (by simp)), R.bind_ok]
    generalize S ++ [O.lst (bls (PV A B T a))] ++ [.lst (bls (PV A B T b))] = S2 at pa pb ⊢
    generalize (S ++ [O.lst (bls (PV A B T a))]).length = m at pb ⊢
    generalize S.length = n at pa ⊢
    try simp (disch := decide +kernel) only [v_maxd, v_dict, v_dget, x_dput, x_par, par_k, i_rngD, i_zip, v_agen, v_glob, v_chain, v_isx, x_raise, x_kept, x_nil, x_cons, x_set, x_unp, x_sets, x_expr, x_ret, x_pass, x_brk, x_cont, x_ite, x_for, x_whl, v_bl, v_int, v_str, v_ty, v_non, v_var, v_tup, v_lst, v_bin, v_neg, v_not, v_cmp, v_and, v_or, v_ife, v_call, v_blt, v_mth, v_sub, v_slc, v_comp, o_none, o_some, s_nil, s_cons, i_seq, i_rng1, i_rng2, i_enum, nx_nx, nx_rt, nx_bk, nx_ct, ite_t, ite_f, and_t, and_f, or_t, or_f, R.bind_ok, R.bind_assoc, ofO_some, tr_b, optI_i, itm_t, itm_l, seqL_l, gdOf_tup, gdOf_lst, neg_i, aug_i, add_i, sub_i, slc_t, slc_l, add_l, len_t, len_l, list_t, list_l, tuple_l, max_i, ls_i, le_i, gt_i, ge_i, sub_t, sub_l, List.getElem?_cons_zero, List.getElem?_cons_succ, List.set_cons_zero, List.set_cons_succ, Bool.not_true, Bool.not_false, at0, at1, cw_t, cw_f, List.set_cons_zero, List.set_cons_succ, seqL_r pa, seqL_r pb, gd_ref pa, gd_ref pb]
    rw [comp_map andD (gdOk_app2 (gdOk_ref pa) (gdOk_ref pb)) _ (sz' (Nat.le_trans (zip_len _ _ 1000 (by rw [hlen]; exact hT)) (by decide))) (fun d hd => by
      obtain ⟨p, q, rfl⟩ := zip_mem hd
      refine ⟨_, rfl, ?_⟩
      simp only [wipe, List.set_cons_zero, List.set_cons_succ, v_maxd, v_dict, v_dget, x_dput, x_par, par_k, i_rngD, i_zip, v_agen, v_glob, v_chain, v_isx, x_raise, x_kept, x_nil, x_cons, x_set, x_unp, x_sets, x_expr, x_ret, x_pass, x_brk, x_cont, x_ite, x_for, x_whl, v_bl, v_int, v_str, v_ty, v_non, v_var, v_tup, v_lst, v_bin, v_neg, v_not, v_cmp, v_and, v_or, v_ife, v_call, v_blt, v_mth, v_sub, v_slc, v_comp, o_none, o_some, s_nil, s_cons, i_seq, i_rng1, i_rng2, i_enum, nx_nx, nx_rt, nx_bk, nx_ct, ite_t, ite_f, and_t, and_f, or_t, or_f, R.bind_ok, R.bind_assoc, ofO_some, tr_b, optI_i, itm_t, itm_l, seqL_l, gdOf_tup, gdOf_lst, neg_i, aug_i, add_i, sub_i, slc_t, slc_l, add_l, len_t, len_l, list_t, list_l, tuple_l, max_i, ls_i, le_i, gt_i, ge_i, sub_t, sub_l, List.getElem?_cons_zero, List.getElem?_cons_succ, List.set_cons_zero, List.set_cons_succ, Bool.not_true, Bool.not_false]
      cases p <;> cases q <;> (simp only [v_maxd, v_dict, v_dget, x_dput, x_par, par_k, i_rngD, i_zip, v_agen, v_glob, v_chain, v_isx, x_raise, x_kept, x_nil, x_cons, x_set, x_unp, x_sets, x_expr, x_ret, x_pass, x_brk, x_cont, x_ite, x_for, x_whl, v_bl, v_int, v_str, v_ty, v_non, v_var, v_tup, v_lst, v_bin, v_neg, v_not, v_cmp, v_and, v_or, v_ife, v_call, v_blt, v_mth, v_sub, v_slc, v_comp, o_none, o_some, s_nil, s_cons, i_seq, i_rng1, i_rng2, i_enum, nx_nx, nx_rt, nx_bk, nx_ct, ite_t, ite_f, and_t, and_f, or_t, or_f, R.bind_ok, R.bind_assoc, ofO_some, tr_b, optI_i, itm_t, itm_l, seqL_l, gdOf_tup, gdOf_lst, neg_i, aug_i, add_i, sub_i, slc_t, slc_l, add_l, len_t, len_l, list_t, list_l, tuple_l, max_i, ls_i, le_i, gt_i, ge_i, sub_t, sub_l, List.getElem?_cons_zero, List.getElem?_cons_succ, List.set_cons_zero, List.set_cons_succ, Bool.not_true, Bool.not_false]; rfl)), R.bind_ok, map_and, lr _ (by rw [List.length_zipWith, hlen, hlen]; omega)]
    simp only [v_maxd, v_dict, v_dget, x_dput, x_par, par_k, i_rngD, i_zip, v_agen, v_glob, v_chain, v_isx, x_raise, x_kept, x_nil, x_cons, x_set, x_unp, x_sets, x_expr, x_ret, x_pass, x_brk, x_cont, x_ite, x_for, x_whl, v_bl, v_int, v_str, v_ty, v_non, v_var, v_tup, v_lst, v_bin, v_neg, v_not, v_cmp, v_and, v_or, v_ife, v_call, v_blt, v_mth, v_sub, v_slc, v_comp, o_none, o_some, s_nil, s_cons, i_seq, i_rng1, i_rng2, i_enum, nx_nx, nx_rt, nx_bk, nx_ct, ite_t, ite_f, and_t, and_f, or_t, or_f, R.bind_ok, R.bind_assoc, ofO_some, tr_b, optI_i, itm_t, itm_l, seqL_l, gdOf_tup, gdOf_lst, neg_i, aug_i, add_i, sub_i, slc_t, slc_l, add_l, len_t, len_l, list_t, list_l, tuple_l, max_i, ls_i, le_i, gt_i, ge_i, sub_t, sub_l, List.getElem?_cons_zero, List.getElem?_cons_succ, List.set_cons_zero, List.set_cons_succ, Bool.not_true, Bool.not_false]
    rfl
  | or a b iha ihb =>
    intro k S th h hab
    refine st (.or a b) _ S ([.lst (bls (PV A B T a))] ++ [.lst (bls (PV A B T b))]) th ?_
    have eX : S ++ ([O.lst (bls (PV A B T a))] ++ [.lst (bls (PV A B T b))]) = S ++ [.lst (bls (PV A B T a))] ++ [.lst (bls (PV A B T b))] := (List.append_assoc _ _ _).symm
    rw [eX]
    have ea : CC (k + max a.dep b.dep + 3) "values_along" [brd A B, a.d, th] S = .ok (.ref S.length) (S ++ [.lst (bls (PV A B T a))]) := by
      have := iha (k + (max a.dep b.dep - a.dep)) S th h hab.1
      rwa [show k + (max a.dep b.dep - a.dep) + a.dep + 3 = k + max a.dep b.dep + 3 by omega] at this
    have eb : CC (k + max a.dep b.dep + 3) "values_along" [brd A B, b.d, th] (S ++ [.lst (bls (PV A B T a))]) = .ok (.ref (S ++ [O.lst (bls (PV A B T a))]).length) (S ++ [.lst (bls (PV A B T a))] ++ [.lst (bls (PV A B T b))]) := by
      have := ihb (k + (max a.dep b.dep - b.dep)) (S ++ [.lst (bls (PV A B T a))]) th (h.more _) hab.2
      rwa [show k + (max a.dep b.dep - b.dep) + b.dep + 3 = k + max a.dep b.dep + 3 by omega] at this
    have pb : (S ++ [O.lst (bls (PV A B T a))] ++ [.lst (bls (PV A B T b))])[(S ++ [O.lst (bls (PV A B T a))]).length]? = some (.lst (bls (PV A B T b))) := push_at
    have pa : (S ++ [O.lst (bls (PV A B T a))] ++ [.lst (bls (PV A B T b))])[S.length]? = some (.lst (bls (PV A B T a))) := get_push_old push_at
    simp (disch := decide +kernel) only [d_values_along, v_maxd, v_dict, v_dget, x_dput, x_par, par_k, i_rngD, i_zip, v_agen, v_glob, v_chain, v_isx, x_raise, x_kept, x_nil, x_cons, x_set, x_unp, x_sets, x_expr, x_ret, x_pass, x_brk, x_cont, x_ite, x_for, x_whl, v_bl, v_int, v_str, v_ty, v_non, v_var, v_tup, v_lst, v_bin, v_neg, v_not, v_cmp, v_and, v_or, v_ife, v_call, v_blt, v_mth, v_sub, v_slc, v_comp, o_none, o_some, s_nil, s_cons, i_seq, i_rng1, i_rng2, i_enum, nx_nx, nx_rt, nx_bk, nx_ct, ite_t, ite_f, and_t, and_f, or_t, or_f, R.bind_ok, R.bind_assoc, ofO_some, tr_b, optI_i, itm_t, itm_l, seqL_l, gdOf_tup, gdOf_lst, neg_i, aug_i, add_i, sub_i, slc_t, slc_l, add_l, len_t, len_l, list_t, list_l, tuple_l, max_i, ls_i, le_i, gt_i, ge_i, sub_t, sub_l, List.getElem?_cons_zero, List.getElem?_cons_succ, List.set_cons_zero, List.set_cons_succ, Bool.not_true, Bool.not_false, W.d, at0, at1, cw_t, cw_f, show ∀ (k : Nat) (S : Store), CC (k + 1) "inner_of" [.tup [.str "or", a.d, b.d]] S = .ok (.tup [a.d, b.d]) S from fun k S => c_inner k S (.or a b)]
    rw [comp_two (y := .ref S.length) (z := .ref (S ++ [O.lst (bls (PV A B T a))]).length) (S1 := S ++ [.lst (bls (PV A B T a))]) (S2 := S ++ [.lst (bls (PV A B T a))] ++ [.lst (bls (PV A B T b))]) (by
      simp only [wipe, List.set_cons_zero, List.set_cons_succ, v_maxd, v_dict, v_dget, x_dput, x_par, par_k, i_rngD, i_zip, v_agen, v_glob, v_chain, v_isx, x_raise, x_kept, x_nil, x_cons, x_set, x_unp, x_sets, x_expr, x_ret, x_pass, x_brk, x_cont, x_ite, x_for, x_whl, v_bl, v_int, v_str, v_ty, v_non, v_var, v_tup, v_lst, v_bin, v_neg, v_not, v_cmp, v_and, v_or, v_ife, v_call, v_blt, v_mth, v_sub, v_slc, v_comp, o_none, o_some, s_nil, s_cons, i_seq, i_rng1, i_rng2, i_enum, nx_nx, nx_rt, nx_bk, nx_ct, ite_t, ite_f, and_t, and_f, or_t, or_f, R.bind_ok, R.bind_assoc, ofO_some, tr_b, optI_i, itm_t, itm_l, seqL_l, gdOf_tup, gdOf_lst, neg_i, aug_i, add_i, sub_i, slc_t, slc_l, add_l, len_t, len_l, list_t, list_l, tuple_l, max_i, ls_i, le_i, gt_i, ge_i, sub_t, sub_l, List.getElem?_cons_zero, List.getElem?_cons_succ, List.set_cons_zero, List.set_cons_succ, Bool.not_true, Bool.not_false]
      exact ea) (by
      simp only [wipe, List.set_cons_zero, List.set_cons_succ, v_maxd, v_dict, v_dget, x_dput, x_par, par_k, i_rngD, i_zip, v_agen, v_glob, v_chain, v_isx, x_raise, x_kept, x_nil, x_cons, x_set, x_unp, x_sets, x_expr, x_ret, x_pass, x_brk, x_cont, x_ite, x_for, x_whl, v_bl, v_int, v_str, v_ty, v_non, v_var, v_tup, v_lst, v_bin, v_neg, v_not, v_cmp, v_and, v_or, v_ife, v_call, v_blt, v_mth, v_sub, v_slc, v_comp, o_none, o_some, s_nil, s_cons, i_seq, i_rng1, i_rng2, i_enum, nx_nx, nx_rt, nx_bk, nx_ct, ite_t, ite_f, and_t, and_f, or_t, or_f, R.bind_ok, R.bind_assoc, ofO_some, tr_b, optI_i, itm_t, itm_l, seqL_l, gdOf_tup, gdOf_lst, neg_i, aug_i, add_i, sub_i, slc_t, slc_l, add_l, len_t, len_l, list_t, list_l, tuple_l, max_i, ls_i, le_i, gt_i, ge_i, sub_t, sub_l, List.getElem?_cons_zero, List.getElem?_cons_succ, List.set_cons_zero, List.set_cons_succ, Bool.not_true, Bool.not_false]
      exact eb), R.bind_ok, mkL_v (sz (by simp)), R.bind_ok]
    generalize S ++ [O.lst (bls (PV A B T a))] ++ [.lst (bls (PV A B T b))] = S2 at pa pb ⊢
    generalize (S ++ [O.lst (bls (PV A B T a))]).length = m at pb ⊢
    generalize S.length = n at pa ⊢
    try simp (disch := decide +kernel) only [v_maxd, v_dict, v_dget, x_dput, x_par, par_k, i_rngD, i_zip, v_agen, v_glob, v_chain, v_isx, x_raise, x_kept, x_nil, x_cons, x_set, x_unp, x_sets, x_expr, x_ret, x_pass, x_brk, x_cont, x_ite, x_for, x_whl, v_bl, v_int, v_str, v_ty, v_non, v_var, v_tup, v_lst, v_bin, v_neg, v_not, v_cmp, v_and, v_or, v_ife, v_call, v_blt, v_mth, v_sub, v_slc, v_comp, o_none, o_some, s_nil, s_cons, i_seq, i_rng1, i_rng2, i_enum, nx_nx, nx_rt, nx_bk, nx_ct, ite_t, ite_f, and_t, and_f, or_t, or_f, R.bind_ok, R.bind_assoc, ofO_some, tr_b, optI_i, itm_t, itm_l, seqL_l, gdOf_tup, gdOf_lst, neg_i, aug_i, add_i, sub_i, slc_t, slc_l, add_l, len_t, len_l, list_t, list_l, tuple_l, max_i, ls_i, le_i, gt_i, ge_i, sub_t, sub_l, List.getElem?_cons_zero, List.getElem?_cons_succ, List.set_cons_zero, List.set_cons_succ, Bool.not_true, Bool.not_false, at0, at1, cw_t, cw_f, List.set_cons_zero, List.set_cons_succ, seqL_r pa, seqL_r pb, gd_ref pa, gd_ref pb]
    rw [comp_map orD (gdOk_app2 (gdOk_ref pa) (gdOk_ref pb)) _ (sz' (Nat.le_trans (zip_len _ _ 1000 (by rw [hlen]; exact hT)) (by decide))) (fun d hd => by
      obtain ⟨p, q, rfl⟩ := zip_mem hd
      refine ⟨_, rfl, ?_⟩
      simp only [wipe, List.set_cons_zero, List.set_cons_succ, v_maxd, v_dict, v_dget, x_dput, x_par, par_k, i_rngD, i_zip, v_agen, v_glob, v_chain, v_isx, x_raise, x_kept, x_nil, x_cons, x_set, x_unp, x_sets, x_expr, x_ret, x_pass, x_brk, x_cont, x_ite, x_for, x_whl, v_bl, v_int, v_str, v_ty, v_non, v_var, v_tup, v_lst, v_bin, v_neg, v_not, v_cmp, v_and, v_or, v_ife, v_call, v_blt, v_mth, v_sub, v_slc, v_comp, o_none, o_some, s_nil, s_cons, i_seq, i_rng1, i_rng2, i_enum, nx_nx, nx_rt, nx_bk, nx_ct, ite_t, ite_f, and_t, and_f, or_t, or_f, R.bind_ok, R.bind_assoc, ofO_some, tr_b, optI_i, itm_t, itm_l, seqL_l, gdOf_tup, gdOf_lst, neg_i, aug_i, add_i, sub_i, slc_t, slc_l, add_l, len_t, len_l, list_t, list_l, tuple_l, max_i, ls_i, le_i, gt_i, ge_i, sub_t, sub_l, List.getElem?_cons_zero, List.getElem?_cons_succ, List.set_cons_zero, List.set_cons_succ, Bool.not_true, Bool.not_false]
      cases p <;> cases q <;> (simp only [v_maxd, v_dict, v_dget, x_dput, x_par, par_k, i_rngD, i_zip, v_agen, v_glob, v_chain, v_isx, x_raise, x_kept, x_nil, x_cons, x_set, x_unp, x_sets, x_expr, x_ret, x_pass, x_brk, x_cont, x_ite, x_for, x_whl, v_bl, v_int, v_str, v_ty, v_non, v_var, v_tup, v_lst, v_bin, v_neg, v_not, v_cmp, v_and, v_or, v_ife, v_call, v_blt, v_mth, v_sub, v_slc, v_comp, o_none, o_some, s_nil, s_cons, i_seq, i_rng1, i_rng2, i_enum, nx_nx, nx_rt, nx_bk, nx_ct, ite_t, ite_f, and_t, and_f, or_t, or_f, R.bind_ok, R.bind_assoc, ofO_some, tr_b, optI_i, itm_t, itm_l, seqL_l, gdOf_tup, gdOf_lst, neg_i, aug_i, add_i, sub_i, slc_t, slc_l, add_l, len_t, len_l, list_t, list_l, tuple_l, max_i, ls_i, le_i, gt_i, ge_i, sub_t, sub_l, List.getElem?_cons_zero, List.getElem?_cons_succ, List.set_cons_zero, List.set_cons_succ, Bool.not_true, Bool.not_false]; rfl)), R.bind_ok, map_or, lr _ (by rw [List.length_zipWith, hlen, hlen]; omega)]
    simp only [v_maxd, v_dict, v_dget, x_dput, x_par, par_k, i_rngD, i_zip, v_agen, v_glob, v_chain, v_isx, x_raise, x_kept, x_nil, x_cons, x_set, x_unp, x_sets, x_expr, x_ret, x_pass, x_brk, x_cont, x_ite, x_for, x_whl, v_bl, v_int, v_str, v_ty, v_non, v_var, v_tup, v_lst, v_bin, v_neg, v_not, v_cmp, v_and, v_or, v_ife, v_call, v_blt, v_mth, v_sub, v_slc, v_comp, o_none, o_some, s_nil, s_cons, i_seq, i_rng1, i_rng2, i_enum, nx_nx, nx_rt, nx_bk, nx_ct, ite_t, ite_f, and_t, and_f, or_t, or_f, R.bind_ok, R.bind_assoc, ofO_some, tr_b, optI_i, itm_t, itm_l, seqL_l, gdOf_tup, gdOf_lst, neg_i, aug_i, add_i, sub_i, slc_t, slc_l, add_l, len_t, len_l, list_t, list_l, tuple_l, max_i, ls_i, le_i, gt_i, ge_i, sub_t, sub_l, List.getElem?_cons_zero, List.getElem?_cons_succ, List.set_cons_zero, List.set_cons_succ, Bool.not_true, Bool.not_false]
    rfl
  | bf a ih =>
    intro k S th h ha
    refine st (.bf a) _ S [.lst (bls (PV A B T a))] th ?_
    have h1 := h.more [.lst (bls (PV A B T a))]
    have pa : (S ++ [O.lst (bls (PV A B T a))])[S.length]? = some (.lst (bls (PV A B T a))) := push_at
    simp (disch := decide +kernel) only [d_values_along, v_maxd, v_dict, v_dget, x_dput, x_par, par_k, i_rngD, i_zip, v_agen, v_glob, v_chain, v_isx, x_raise, x_kept, x_nil, x_cons, x_set, x_unp, x_sets, x_expr, x_ret, x_pass, x_brk, x_cont, x_ite, x_for, x_whl, v_bl, v_int, v_str, v_ty, v_non, v_var, v_tup, v_lst, v_bin, v_neg, v_not, v_cmp, v_and, v_or, v_ife, v_call, v_blt, v_mth, v_sub, v_slc, v_comp, o_none, o_some, s_nil, s_cons, i_seq, i_rng1, i_rng2, i_enum, nx_nx, nx_rt, nx_bk, nx_ct, ite_t, ite_f, and_t, and_f, or_t, or_f, R.bind_ok, R.bind_assoc, ofO_some, tr_b, optI_i, itm_t, itm_l, seqL_l, gdOf_tup, gdOf_lst, neg_i, aug_i, add_i, sub_i, slc_t, slc_l, add_l, len_t, len_l, list_t, list_l, tuple_l, max_i, ls_i, le_i, gt_i, ge_i, sub_t, sub_l, List.getElem?_cons_zero, List.getElem?_cons_succ, List.set_cons_zero, List.set_cons_succ, Bool.not_true, Bool.not_false, W.d, at0, at1, cw_t, cw_f, show ∀ (k : Nat) (S : Store), CC (k + 1) "inner_of" [.tup [.str "before", a.d]] S = .ok (.tup [a.d]) S from fun k S => c_inner k S (.bf a)]
    rw [comp_one (y := .ref S.length) (S1 := S ++ [.lst (bls (PV A B T a))]) (by
      simp only [wipe, List.set_cons_zero, List.set_cons_succ, v_maxd, v_dict, v_dget, x_dput, x_par, par_k, i_rngD, i_zip, v_agen, v_glob, v_chain, v_isx, x_raise, x_kept, x_nil, x_cons, x_set, x_unp, x_sets, x_expr, x_ret, x_pass, x_brk, x_cont, x_ite, x_for, x_whl, v_bl, v_int, v_str, v_ty, v_non, v_var, v_tup, v_lst, v_bin, v_neg, v_not, v_cmp, v_and, v_or, v_ife, v_call, v_blt, v_mth, v_sub, v_slc, v_comp, o_none, o_some, s_nil, s_cons, i_seq, i_rng1, i_rng2, i_enum, nx_nx, nx_rt, nx_bk, nx_ct, ite_t, ite_f, and_t, and_f, or_t, or_f, R.bind_ok, R.bind_assoc, ofO_some, tr_b, optI_i, itm_t, itm_l, seqL_l, gdOf_tup, gdOf_lst, neg_i, aug_i, add_i, sub_i, slc_t, slc_l, add_l, len_t, len_l, list_t, list_l, tuple_l, max_i, ls_i, le_i, gt_i, ge_i, sub_t, sub_l, List.getElem?_cons_zero, List.getElem?_cons_succ, List.set_cons_zero, List.set_cons_succ, Bool.not_true, Bool.not_false]
      exact ih k S th h ha), R.bind_ok, mkL_v (sz (by simp)), R.bind_ok]
    try simp (disch := decide +kernel) only [v_maxd, v_dict, v_dget, x_dput, x_par, par_k, i_rngD, i_zip, v_agen, v_glob, v_chain, v_isx, x_raise, x_kept, x_nil, x_cons, x_set, x_unp, x_sets, x_expr, x_ret, x_pass, x_brk, x_cont, x_ite, x_for, x_whl, v_bl, v_int, v_str, v_ty, v_non, v_var, v_tup, v_lst, v_bin, v_neg, v_not, v_cmp, v_and, v_or, v_ife, v_call, v_blt, v_mth, v_sub, v_slc, v_comp, o_none, o_some, s_nil, s_cons, i_seq, i_rng1, i_rng2, i_enum, nx_nx, nx_rt, nx_bk, nx_ct, ite_t, ite_f, and_t, and_f, or_t, or_f, R.bind_ok, R.bind_assoc, ofO_some, tr_b, optI_i, itm_t, itm_l, seqL_l, gdOf_tup, gdOf_lst, neg_i, aug_i, add_i, sub_i, slc_t, slc_l, add_l, len_t, len_l, list_t, list_l, tuple_l, max_i, ls_i, le_i, gt_i, ge_i, sub_t, sub_l, List.getElem?_cons_zero, List.getElem?_cons_succ, List.set_cons_zero, List.set_cons_succ, Bool.not_true, Bool.not_false, at0, at1, cw_t, cw_f, List.set_cons_zero, List.set_cons_succ, itm_p pa, gd_ref pa, h1.len, one]
    rw [add_lr pa]
    have e1 : [D.bl false] ++ bls (PV A B T a) = bls (false :: PV A B T a) := rfl
    rw [e1, lv2 _ (by simp [hlen]; omega), R.bind_ok]
    simp only [v_maxd, v_dict, v_dget, x_dput, x_par, par_k, i_rngD, i_zip, v_agen, v_glob, v_chain, v_isx, x_raise, x_kept, x_nil, x_cons, x_set, x_unp, x_sets, x_expr, x_ret, x_pass, x_brk, x_cont, x_ite, x_for, x_whl, v_bl, v_int, v_str, v_ty, v_non, v_var, v_tup, v_lst, v_bin, v_neg, v_not, v_cmp, v_and, v_or, v_ife, v_call, v_blt, v_mth, v_sub, v_slc, v_comp, o_none, o_some, s_nil, s_cons, i_seq, i_rng1, i_rng2, i_enum, nx_nx, nx_rt, nx_bk, nx_ct, ite_t, ite_f, and_t, and_f, or_t, or_f, R.bind_ok, R.bind_assoc, ofO_some, tr_b, optI_i, itm_t, itm_l, seqL_l, gdOf_tup, gdOf_lst, neg_i, aug_i, add_i, sub_i, slc_t, slc_l, add_l, len_t, len_l, list_t, list_l, tuple_l, max_i, ls_i, le_i, gt_i, ge_i, sub_t, sub_l, List.getElem?_cons_zero, List.getElem?_cons_succ, List.set_cons_zero, List.set_cons_succ, Bool.not_true, Bool.not_false, h1.len, cut_to]
    have e2 : (bls (false :: PV A B T a)).take T.length = bls ((false :: PV A B T a).take T.length) := by simp [bls]
    rw [e2, lr _ (by simp; omega)]
    simp only [v_maxd, v_dict, v_dget, x_dput, x_par, par_k, i_rngD, i_zip, v_agen, v_glob, v_chain, v_isx, x_raise, x_kept, x_nil, x_cons, x_set, x_unp, x_sets, x_expr, x_ret, x_pass, x_brk, x_cont, x_ite, x_for, x_whl, v_bl, v_int, v_str, v_ty, v_non, v_var, v_tup, v_lst, v_bin, v_neg, v_not, v_cmp, v_and, v_or, v_ife, v_call, v_blt, v_mth, v_sub, v_slc, v_comp, o_none, o_some, s_nil, s_cons, i_seq, i_rng1, i_rng2, i_enum, nx_nx, nx_rt, nx_bk, nx_ct, ite_t, ite_f, and_t, and_f, or_t, or_f, R.bind_ok, R.bind_assoc, ofO_some, tr_b, optI_i, itm_t, itm_l, seqL_l, gdOf_tup, gdOf_lst, neg_i, aug_i, add_i, sub_i, slc_t, slc_l, add_l, len_t, len_l, list_t, list_l, tuple_l, max_i, ls_i, le_i, gt_i, ge_i, sub_t, sub_l, List.getElem?_cons_zero, List.getElem?_cons_succ, List.set_cons_zero, List.set_cons_succ, Bool.not_true, Bool.not_false]
    rfl
  | ws a ih =>
    intro k S th h ha
    refine st (.ws a) _ S [.lst (bls (PV A B T a))] th ?_
    have h1 := h.more [.lst (bls (PV A B T a))]
    have pa : (S ++ [O.lst (bls (PV A B T a))])[S.length]? = some (.lst (bls (PV A B T a))) := push_at
    simp (disch := decide +kernel) only [d_values_along, v_maxd, v_dict, v_dget, x_dput, x_par, par_k, i_rngD, i_zip, v_agen, v_glob, v_chain, v_isx, x_raise, x_kept, x_nil, x_cons, x_set, x_unp, x_sets, x_expr, x_ret, x_pass, x_brk, x_cont, x_ite, x_for, x_whl, v_bl, v_int, v_str, v_ty, v_non, v_var, v_tup, v_lst, v_bin, v_neg, v_not, v_cmp, v_and, v_or, v_ife, v_call, v_blt, v_mth, v_sub, v_slc, v_comp, o_none, o_some, s_nil, s_cons, i_seq, i_rng1, i_rng2, i_enum, nx_nx, nx_rt, nx_bk, nx_ct, ite_t, ite_f, and_t, and_f, or_t, or_f, R.bind_ok, R.bind_assoc, ofO_some, tr_b, optI_i, itm_t, itm_l, seqL_l, gdOf_tup, gdOf_lst, neg_i, aug_i, add_i, sub_i, slc_t, slc_l, add_l, len_t, len_l, list_t, list_l, tuple_l, max_i, ls_i, le_i, gt_i, ge_i, sub_t, sub_l, List.getElem?_cons_zero, List.getElem?_cons_succ, List.set_cons_zero, List.set_cons_succ, Bool.not_true, Bool.not_false, W.d, at0, at1, cw_t, cw_f, show ∀ (k : Nat) (S : Store), CC (k + 1) "inner_of" [.tup [.str "was", a.d]] S = .ok (.tup [a.d]) S from fun k S => c_inner k S (.ws a)]
    rw [comp_one (y := .ref S.length) (S1 := S ++ [.lst (bls (PV A B T a))]) (by
      simp only [wipe, List.set_cons_zero, List.set_cons_succ, v_maxd, v_dict, v_dget, x_dput, x_par, par_k, i_rngD, i_zip, v_agen, v_glob, v_chain, v_isx, x_raise, x_kept, x_nil, x_cons, x_set, x_unp, x_sets, x_expr, x_ret, x_pass, x_brk, x_cont, x_ite, x_for, x_whl, v_bl, v_int, v_str, v_ty, v_non, v_var, v_tup, v_lst, v_bin, v_neg, v_not, v_cmp, v_and, v_or, v_ife, v_call, v_blt, v_mth, v_sub, v_slc, v_comp, o_none, o_some, s_nil, s_cons, i_seq, i_rng1, i_rng2, i_enum, nx_nx, nx_rt, nx_bk, nx_ct, ite_t, ite_f, and_t, and_f, or_t, or_f, R.bind_ok, R.bind_assoc, ofO_some, tr_b, optI_i, itm_t, itm_l, seqL_l, gdOf_tup, gdOf_lst, neg_i, aug_i, add_i, sub_i, slc_t, slc_l, add_l, len_t, len_l, list_t, list_l, tuple_l, max_i, ls_i, le_i, gt_i, ge_i, sub_t, sub_l, List.getElem?_cons_zero, List.getElem?_cons_succ, List.set_cons_zero, List.set_cons_succ, Bool.not_true, Bool.not_false]
      exact ih k S th h ha), R.bind_ok, mkL_v (sz (by simp)), R.bind_ok]
    try simp (disch := decide +kernel) only [v_maxd, v_dict, v_dget, x_dput, x_par, par_k, i_rngD, i_zip, v_agen, v_glob, v_chain, v_isx, x_raise, x_kept, x_nil, x_cons, x_set, x_unp, x_sets, x_expr, x_ret, x_pass, x_brk, x_cont, x_ite, x_for, x_whl, v_bl, v_int, v_str, v_ty, v_non, v_var, v_tup, v_lst, v_bin, v_neg, v_not, v_cmp, v_and, v_or, v_ife, v_call, v_blt, v_mth, v_sub, v_slc, v_comp, o_none, o_some, s_nil, s_cons, i_seq, i_rng1, i_rng2, i_enum, nx_nx, nx_rt, nx_bk, nx_ct, ite_t, ite_f, and_t, and_f, or_t, or_f, R.bind_ok, R.bind_assoc, ofO_some, tr_b, optI_i, itm_t, itm_l, seqL_l, gdOf_tup, gdOf_lst, neg_i, aug_i, add_i, sub_i, slc_t, slc_l, add_l, len_t, len_l, list_t, list_l, tuple_l, max_i, ls_i, le_i, gt_i, ge_i, sub_t, sub_l, List.getElem?_cons_zero, List.getElem?_cons_succ, List.set_cons_zero, List.set_cons_succ, Bool.not_true, Bool.not_false, at0, at1, cw_t, cw_f, List.set_cons_zero, List.set_cons_succ, itm_p pa, gd_ref pa, h1.len, one]
    rw [mul_bl (by omega), lv2 _ (by simp; omega), R.bind_ok]
    try simp only [v_maxd, v_dict, v_dget, x_dput, x_par, par_k, i_rngD, i_zip, v_agen, v_glob, v_chain, v_isx, x_raise, x_kept, x_nil, x_cons, x_set, x_unp, x_sets, x_expr, x_ret, x_pass, x_brk, x_cont, x_ite, x_for, x_whl, v_bl, v_int, v_str, v_ty, v_non, v_var, v_tup, v_lst, v_bin, v_neg, v_not, v_cmp, v_and, v_or, v_ife, v_call, v_blt, v_mth, v_sub, v_slc, v_comp, o_none, o_some, s_nil, s_cons, i_seq, i_rng1, i_rng2, i_enum, nx_nx, nx_rt, nx_bk, nx_ct, ite_t, ite_f, and_t, and_f, or_t, or_f, R.bind_ok, R.bind_assoc, ofO_some, tr_b, optI_i, itm_t, itm_l, seqL_l, gdOf_tup, gdOf_lst, neg_i, aug_i, add_i, sub_i, slc_t, slc_l, add_l, len_t, len_l, list_t, list_l, tuple_l, max_i, ls_i, le_i, gt_i, ge_i, sub_t, sub_l, List.getElem?_cons_zero, List.getElem?_cons_succ, List.set_cons_zero, List.set_cons_succ, Bool.not_true, Bool.not_false, at0]
    rw [show k + (W.ws a).dep + 2 = k + a.dep + 2 + 1 from rfl, c_alongS (.inl rfl) (.inr ⟨_, rfl, pa⟩) (by rw [List.length_replicate, hlen]) (by rw [hlen]; omega)]
    simp only [v_maxd, v_dict, v_dget, x_dput, x_par, par_k, i_rngD, i_zip, v_agen, v_glob, v_chain, v_isx, x_raise, x_kept, x_nil, x_cons, x_set, x_unp, x_sets, x_expr, x_ret, x_pass, x_brk, x_cont, x_ite, x_for, x_whl, v_bl, v_int, v_str, v_ty, v_non, v_var, v_tup, v_lst, v_bin, v_neg, v_not, v_cmp, v_and, v_or, v_ife, v_call, v_blt, v_mth, v_sub, v_slc, v_comp, o_none, o_some, s_nil, s_cons, i_seq, i_rng1, i_rng2, i_enum, nx_nx, nx_rt, nx_bk, nx_ct, ite_t, ite_f, and_t, and_f, or_t, or_f, R.bind_ok, R.bind_assoc, ofO_some, tr_b, optI_i, itm_t, itm_l, seqL_l, gdOf_tup, gdOf_lst, neg_i, aug_i, add_i, sub_i, slc_t, slc_l, add_l, len_t, len_l, list_t, list_l, tuple_l, max_i, ls_i, le_i, gt_i, ge_i, sub_t, sub_l, List.getElem?_cons_zero, List.getElem?_cons_succ, List.set_cons_zero, List.set_cons_succ, Bool.not_true, Bool.not_false]
    rfl
  | si a b iha ihb =>
    intro k S th h hab
    refine st (.si a b) _ S ([.lst (bls (PV A B T a))] ++ [.lst (bls (PV A B T b))]) th ?_
    have eX : S ++ ([O.lst (bls (PV A B T a))] ++ [.lst (bls (PV A B T b))]) = S ++ [.lst (bls (PV A B T a))] ++ [.lst (bls (PV A B T b))] := (List.append_assoc _ _ _).symm
    rw [eX]
    have ea : CC (k + max a.dep b.dep + 3) "values_along" [brd A B, a.d, th] S = .ok (.ref S.length) (S ++ [.lst (bls (PV A B T a))]) := by
      have := iha (k + (max a.dep b.dep - a.dep)) S th h hab.1
      rwa [show k + (max a.dep b.dep - a.dep) + a.dep + 3 = k + max a.dep b.dep + 3 by omega] at this
    have eb : CC (k + max a.dep b.dep + 3) "values_along" [brd A B, b.d, th] (S ++ [.lst (bls (PV A B T a))]) = .ok (.ref (S ++ [O.lst (bls (PV A B T a))]).length) (S ++ [.lst (bls (PV A B T a))] ++ [.lst (bls (PV A B T b))]) := by
      have := ihb (k + (max a.dep b.dep - b.dep)) (S ++ [.lst (bls (PV A B T a))]) th (h.more _) hab.2
      rwa [show k + (max a.dep b.dep - b.dep) + b.dep + 3 = k + max a.dep b.dep + 3 by omega] at this
    have pb : (S ++ [O.lst (bls (PV A B T a))] ++ [.lst (bls (PV A B T b))])[(S ++ [O.lst (bls (PV A B T a))]).length]? = some (.lst (bls (PV A B T b))) := push_at
    have pa : (S ++ [O.lst (bls (PV A B T a))] ++ [.lst (bls (PV A B T b))])[S.length]? = some (.lst (bls (PV A B T a))) := get_push_old push_at
    simp (disch := decide +kernel) only [d_values_along, v_maxd, v_dict, v_dget, x_dput, x_par, par_k, i_rngD, i_zip, v_agen, v_glob, v_chain, v_isx, x_raise, x_kept, x_nil, x_cons, x_set, x_unp, x_sets, x_expr, x_ret, x_pass, x_brk, x_cont, x_ite, x_for, x_whl, v_bl, v_int, v_str, v_ty, v_non, v_var, v_tup, v_lst, v_bin, v_neg, v_not, v_cmp, v_and, v_or, v_ife, v_call, v_blt, v_mth, v_sub, v_slc, v_comp, o_none, o_some, s_nil, s_cons, i_seq, i_rng1, i_rng2, i_enum, nx_nx, nx_rt, nx_bk, nx_ct, ite_t, ite_f, and_t, and_f, or_t, or_f, R.bind_ok, R.bind_assoc, ofO_some, tr_b, optI_i, itm_t, itm_l, seqL_l, gdOf_tup, gdOf_lst, neg_i, aug_i, add_i, sub_i, slc_t, slc_l, add_l, len_t, len_l, list_t, list_l, tuple_l, max_i, ls_i, le_i, gt_i, ge_i, sub_t, sub_l, List.getElem?_cons_zero, List.getElem?_cons_succ, List.set_cons_zero, List.set_cons_succ, Bool.not_true, Bool.not_false, W.d, at0, at1, cw_t, cw_f, show ∀ (k : Nat) (S : Store), CC (k + 1) "inner_of" [.tup [.str "since", a.d, b.d]] S = .ok (.tup [a.d, b.d]) S from fun k S => c_inner k S (.si a b)]
    rw [comp_two (y := .ref S.length) (z := .ref (S ++ [O.lst (bls (PV A B T a))]).length) (S1 := S ++ [.lst (bls (PV A B T a))]) (S2 := S ++ [.lst (bls (PV A B T a))] ++ [.lst (bls (PV A B T b))]) (by
      simp only [wipe, List.set_cons_zero, List.set_cons_succ, v_maxd, v_dict, v_dget, x_dput, x_par, par_k, i_rngD, i_zip, v_agen, v_glob, v_chain, v_isx, x_raise, x_kept, x_nil, x_cons, x_set, x_unp, x_sets, x_expr, x_ret, x_pass, x_brk, x_cont, x_ite, x_for, x_whl, v_bl, v_int, v_str, v_ty, v_non, v_var, v_tup, v_lst, v_bin, v_neg, v_not, v_cmp, v_and, v_or, v_ife, v_call, v_blt, v_mth, v_sub, v_slc, v_comp, o_none, o_some, s_nil, s_cons, i_seq, i_rng1, i_rng2, i_enum, nx_nx, nx_rt, nx_bk, nx_ct, ite_t, ite_f, and_t, and_f, or_t, or_f, R.bind_ok, R.bind_assoc, ofO_some, tr_b, optI_i, itm_t, itm_l, seqL_l, gdOf_tup, gdOf_lst, neg_i, aug_i, add_i, sub_i, slc_t, slc_l, add_l, len_t, len_l, list_t, list_l, tuple_l, max_i, ls_i, le_i, gt_i, ge_i, sub_t, sub_l, List.getElem?_cons_zero, List.getElem?_cons_succ, List.set_cons_zero, List.set_cons_succ, Bool.not_true, Bool.not_false]
      exact ea) (by
      simp only [wipe, List.set_cons_zero, List.set_cons_succ, v_maxd, v_dict, v_dget, x_dput, x_par, par_k, i_rngD, i_zip, v_agen, v_glob, v_chain, v_isx, x_raise, x_kept, x_nil, x_cons, x_set, x_unp, x_sets, x_expr, x_ret, x_pass, x_brk, x_cont, x_ite, x_for, x_whl, v_bl, v_int, v_str, v_ty, v_non, v_var, v_tup, v_lst, v_bin, v_neg, v_not, v_cmp, v_and, v_or, v_ife, v_call, v_blt, v_mth, v_sub, v_slc, v_comp, o_none, o_some, s_nil, s_cons, i_seq, i_rng1, i_rng2, i_enum, nx_nx, nx_rt, nx_bk, nx_ct, ite_t, ite_f, and_t, and_f, or_t, or_f, R.bind_ok, R.bind_assoc, ofO_some, tr_b, optI_i, itm_t, itm_l, seqL_l, gdOf_tup, gdOf_lst, neg_i, aug_i, add_i, sub_i, slc_t, slc_l, add_l, len_t, len_l, list_t, list_l, tuple_l, max_i, ls_i, le_i, gt_i, ge_i, sub_t, sub_l, List.getElem?_cons_zero, List.getElem?_cons_succ, List.set_cons_zero, List.set_cons_succ, Bool.not_true, Bool.not_false]
      exact eb), R.bind_ok, mkL_v (sz (by simp)), R.bind_ok]
    generalize S ++ [O.lst (bls (PV A B T a))] ++ [.lst (bls (PV A B T b))] = S2 at pa pb ⊢
    generalize (S ++ [O.lst (bls (PV A B T a))]).length = m at pb ⊢
    generalize S.length = n at pa ⊢
    try simp (disch := decide +kernel) only [v_maxd, v_dict, v_dget, x_dput, x_par, par_k, i_rngD, i_zip, v_agen, v_glob, v_chain, v_isx, x_raise, x_kept, x_nil, x_cons, x_set, x_unp, x_sets, x_expr, x_ret, x_pass, x_brk, x_cont, x_ite, x_for, x_whl, v_bl, v_int, v_str, v_ty, v_non, v_var, v_tup, v_lst, v_bin, v_neg, v_not, v_cmp, v_and, v_or, v_ife, v_call, v_blt, v_mth, v_sub, v_slc, v_comp, o_none, o_some, s_nil, s_cons, i_seq, i_rng1, i_rng2, i_enum, nx_nx, nx_rt, nx_bk, nx_ct, ite_t, ite_f, and_t, and_f, or_t, or_f, R.bind_ok, R.bind_assoc, ofO_some, tr_b, optI_i, itm_t, itm_l, seqL_l, gdOf_tup, gdOf_lst, neg_i, aug_i, add_i, sub_i, slc_t, slc_l, add_l, len_t, len_l, list_t, list_l, tuple_l, max_i, ls_i, le_i, gt_i, ge_i, sub_t, sub_l, List.getElem?_cons_zero, List.getElem?_cons_succ, List.set_cons_zero, List.set_cons_succ, Bool.not_true, Bool.not_false, at0, at1, cw_t, cw_f, List.set_cons_zero, List.set_cons_succ, seqL_r pa, seqL_r pb, gd_ref pa, gd_ref pb]
    rw [show k + (W.si a b).dep + 2 = k + max a.dep b.dep + 2 + 1 from rfl, c_alongS (.inr ⟨_, rfl, pa⟩) (.inr ⟨_, rfl, pb⟩) (by rw [hlen, hlen]) (by rw [hlen]; omega)]
    simp only [v_maxd, v_dict, v_dget, x_dput, x_par, par_k, i_rngD, i_zip, v_agen, v_glob, v_chain, v_isx, x_raise, x_kept, x_nil, x_cons, x_set, x_unp, x_sets, x_expr, x_ret, x_pass, x_brk, x_cont, x_ite, x_for, x_whl, v_bl, v_int, v_str, v_ty, v_non, v_var, v_tup, v_lst, v_bin, v_neg, v_not, v_cmp, v_and, v_or, v_ife, v_call, v_blt, v_mth, v_sub, v_slc, v_comp, o_none, o_some, s_nil, s_cons, i_seq, i_rng1, i_rng2, i_enum, nx_nx, nx_rt, nx_bk, nx_ct, ite_t, ite_f, and_t, and_f, or_t, or_f, R.bind_ok, R.bind_assoc, ofO_some, tr_b, optI_i, itm_t, itm_l, seqL_l, gdOf_tup, gdOf_lst, neg_i, aug_i, add_i, sub_i, slc_t, slc_l, add_l, len_t, len_l, list_t, list_l, tuple_l, max_i, ls_i, le_i, gt_i, ge_i, sub_t, sub_l, List.getElem?_cons_zero, List.getElem?_cons_succ, List.set_cons_zero, List.set_cons_succ, Bool.not_true, Bool.not_false]
    rfl
end
end K23

namespace K23
open PySem Mn
/-! ### repr of truths -/
def so (n : Nat) (z : Str) : Prop := PyData.strOk z = true ∧ z.length ≤ n
theorem so_iff {z : Str} : PyData.strOk z = true ↔ ∀ c ∈ z.cps.toList, c < 0x110000 := by
  unfold PyData.strOk
  rw [← Array.all_toList, List.all_eq_true]
  simp
theorem len_cps {z : Str} : z.length = z.cps.toList.length := by
  show z.cps.size = _
  simp
theorem so.app {n m : Nat} {x y : Str} (h : so n x) (h' : so m y) : so (n + m) (x ++ y) := by
  have e : (x ++ y).cps = x.cps ++ y.cps := rfl
  refine ⟨so_iff.mpr fun c hc => ?_, ?_⟩
  · rw [e, Array.toList_append] at hc
    rcases List.mem_append.mp hc with hc | hc
    · exact so_iff.mp h.1 c hc
    · exact so_iff.mp h'.1 c hc
  · rw [len_cps, e, Array.toList_append, List.length_append, ← len_cps, ← len_cps]
    exact Nat.add_le_add h.2 h'.2
theorem so.weak {n m : Nat} {z : Str} (h : so n z) (hm : n ≤ m) : so m z := ⟨h.1, Nat.le_trans h.2 hm⟩
theorem so_tf : ∀ (ts : List Str) (k n : Nat) (acc : Str), so n acc → (∀ t ∈ ts, so 5 t) → so (n + ts.length * 7) (textFrom k acc ts)
  | [], k, n, acc, h, _ => h.weak (by simp)
  | t :: ts, k, n, acc, h, ht => by
    have h1 := ht t (by simp)
    have h2 : so 2 (Str.ofString (if k > 0 then ", " else "")) := by
      split
      · exact ⟨by decide +kernel, by decide +kernel⟩
      · exact ⟨by decide +kernel, by decide +kernel⟩
    exact (so_tf ts (k + 1) (n + 2 + 5) _ ((h.app h2).app h1) fun t h => ht t (List.mem_cons_of_mem _ h)).weak (by simp; omega)
theorem shown_so (l : List Bool) : so (2 + l.length * 7) (PyData.list (l.map PyData.bool)).shown := by
  have e : PyData.shownAll (l.map PyData.bool) = l.map fun b => if b then ("True" : Str) else "False" := by
    induction l with
    | nil => rfl
    | cons a l ih => simp only [List.map_cons, PyData.shownAll, ih, PyData.shown]
  show so _ (listText (PyData.shownAll (l.map PyData.bool)))
  rw [e]
  unfold listText
  have h1 : so 1 ("[" : Str) := ⟨by decide +kernel, by decide +kernel⟩
  have h2 : so 1 ("]" : Str) := ⟨by decide +kernel, by decide +kernel⟩
  refine so.weak ((so_tf _ 0 1 "[" h1 fun t ht => ?_).app h2) (by simp; omega)
  obtain ⟨b, _, rfl⟩ := List.mem_map.mp ht
  cases b
  · exact ⟨by decide +kernel, by decide +kernel⟩
  · exact ⟨by decide +kernel, by decide +kernel⟩
theorem show_bls (l : List Bool) : PyData.showableAll (l.map PyData.bool) = true ∧ PyData.hasDictAll (l.map PyData.bool) = false := by
  induction l with
  | nil => exact ⟨rfl, rfl⟩
  | cons a l ih => simp [PyData.showableAll, PyData.hasDictAll, PyData.showable, PyData.hasDict, ih.1, ih.2]
theorem repr_bls {v : Bool} {S : Store} {d : D} {l : List Bool} (h : seqA S d = some (bls l)) (hp : py S d = some (.list (l.map PyData.bool))) (hl : l.length ≤ 1000) : bltA v "repr" [d] S = .ok (.str (PyData.list (l.map PyData.bool)).shown) S := by
  show (match seqA S d, py S d with
    | some _, some p => if p.showable = true ∧ p.hasDict = false ∧ p.shown.length ≤ sizeLine ∧ p.depth ≤ 64 then R.ok (D.str p.shown) S else .bad
    | _, _ => .bad) = _
  rw [h, hp]
  dsimp only
  obtain ⟨h1, h2⟩ := show_bls l
  obtain ⟨h3, h4⟩ := lay_bls l
  rw [if_pos ⟨by simp only [PyData.showable]; exact h1, by simp only [PyData.hasDict]; exact h2, sz (Nat.le_trans (shown_so l).2 (by omega)), by simp only [PyData.depth]; omega⟩]
/-! ### draws -/
theorem dic_ok {S : Store} {c s : Int} : dicA ["cell", "seed"] [.int c, .int s] S = .ok (.ref S.length) (S ++ [drw c s]) := by
  unfold dicA
  rw [if_pos ⟨rfl, by decide +kernel, by decide, by decide⟩]
  rfl
theorem ints_pick (l : List Int) (lo hi st : Option Int) : ∃ m, intsOf (pickL (l.map D.int) lo hi st) = some m := by
  have : ∀ (is : List Nat), ∃ m, intsOf (is.filterMap fun i => (l.map D.int)[i]?) = some m := fun is => by
    induction is with
    | nil => exact ⟨[], rfl⟩
    | cons i is ih =>
      obtain ⟨m, h⟩ := ih
      rw [List.filterMap_cons]
      cases e : (l.map D.int)[i]? with
      | none => exact ⟨m, h⟩
      | some d =>
        rw [List.getElem?_map] at e
        cases e2 : l[i]? with
        | none => rw [e2] at e; cases e
        | some n =>
          rw [e2] at e
          cases e
          exact ⟨n :: m, by
            show (intsOf (is.filterMap fun i => (l.map D.int)[i]?)).map (n :: ·) = _
            rw [h]
            rfl⟩
  exact this _
theorem pick_len {l : List D} {lo hi st : Option Int} : (pickL l lo hi st).length ≤ l.length := by
  unfold pickL
  refine Nat.le_trans (List.length_filterMap_le _ _) (sliceRange_length_le _ _ _ _ (fun hc => ?_) fun hc => ?_)
  · simp only [sliceBounds] at hc ⊢
    simp only [hc, if_true]
    constructor
    · cases lo with
      | none => simp
      | some i => dsimp only; omega
    · cases hi with
      | none => simp
      | some i => dsimp only; omega
  · simp only [sliceBounds] at hc ⊢
    simp only [hc, if_false]
    constructor
    · cases lo with
      | none => simp
      | some i => dsimp only; omega
    · cases hi with
      | none => simp
      | some i => dsimp only; omega
theorem sum_ev {Gs : Globs} {call : String → List D → Store → R D} (ns : List Int) (hn : ns.length ≤ 1000) {i : Nat} {e : Mn.Env} {S : Store} (h0 : e[0]? = some (some (.lst (ns.map .int)))) (h3 : e[3]? = some (some (.int (i : Int)))) :
    ∃ m : Int, evE Gs call (.blt true "sum" (.cons (.slcS true (.var 0) (.bin true .Add (.int 21) (.var 3)) (.int 21)) .nil)) e S = .ok (.int m) S := by
  obtain ⟨m, hm⟩ := ints_pick ns (some (21 + (i : Int))) none (some 21)
  refine ⟨m.sum, ?_⟩
  have e1 : slcsA true (.lst (ns.map D.int)) (.int (21 + (i : Int))) (.int 21) S = .ok (.lst (pickL (ns.map D.int) (some (21 + (i : Int))) none (some 21))) S := by
    show (if (21 : Int) ≠ 0 then (match seqL S (.lst (ns.map D.int)) with | some l => mkL true (pickL l (some (21 + (i : Int))) none (some 21)) S | none => .bad) else .bad) = _
    rw [if_pos (by decide), seqL_l]
    exact mkL_v (sz (Nat.le_trans pick_len (by simp; omega)))
  have e2 : bltA true "sum" [.lst (pickL (ns.map D.int) (some (21 + (i : Int))) none (some 21))] S = .ok (.int m.sum) S := by
    show (match (seqL S (.lst (pickL (ns.map D.int) (some (21 + (i : Int))) none (some 21)))).bind intsOf with | some l => R.ok (D.int l.sum) S | none => .bad) = _
    rw [seqL_l, Option.bind_some, hm]
  simp only [v_blt, v_slcS, v_bin, v_int, v_var, s_cons, s_nil, h0, h3, R.bind_ok, add_i, e1, e2]
theorem c_draws (k : Nat) (ns : List Int) (hn : ns.length ≤ 1000) : Sat (CC (k + 2) "_law_draws" [.lst (ns.map .int)] []) fun d S' => ∃ l, d = .ref 0 ∧ S'[0]? = some (.lst l) ∧ ∀ d ∈ l, ∃ a, d = .ref a ∧ Dr S' a := by
  rw [show CC (k + 2) "_law_draws" [.lst (ns.map .int)] [] = _ from call_step (k := k + 1) (d := d__law_draws) rfl rfl]
  show Sat (leave .raw [] (exB Gs 1000000 (CC (k + 1)) d__law_draws.body [some (.lst (ns.map .int)), none, none, none, none, none] [])) _
  have gi : ∀ l : List Int, gd (.lst (l.map D.int)) 64 = true := fun l => by
    show gds (l.map D.int) 63 = true
    exact gds_of fun d hd => by
      obtain ⟨n, _, rfl⟩ := List.mem_map.mp hd
      simp [gd]
  suffices h : Sat (exB Gs 1000000 (CC (k + 1)) d__law_draws.body [some (.lst (ns.map .int)), none, none, none, none, none] []) fun f S' => f = .rt (.ref 0) ∧ ∃ l, S'[0]? = some (.lst l) ∧ ∀ d ∈ l, ∃ a, d = .ref a ∧ Dr S' a by
    obtain ⟨f, S', e, rfl, l, h1, h2⟩ := h
    rw [e]
    exact ⟨_, _, rfl, l, rfl, h1, h2⟩
  obtain ⟨cs, hcs, e⟩ : ∃ cs : List Int, cs.length ≤ 1000 ∧ evE Gs (CC (k + 1)) (.ife (.cmp .NotEq (.var 0) (.lst true .nil)) (.slc true (.var 0) .none (.some (.int 21))) (.lst true (.cons (.int 0) .nil))) [some (.lst (ns.map .int)), none, none, none, none, none] [] = .ok (.lst (cs.map .int)) [] := by
    by_cases h0 : ns = []
    · subst h0
      refine ⟨[0], by simp, ?_⟩
      simp only [v_maxd, v_dict, v_dget, x_dput, x_par, par_k, i_rngD, i_zip, v_agen, v_glob, v_chain, v_isx, x_raise, x_kept, x_nil, x_cons, x_set, x_unp, x_sets, x_expr, x_ret, x_pass, x_brk, x_cont, x_ite, x_for, x_whl, v_bl, v_int, v_str, v_ty, v_non, v_var, v_tup, v_lst, v_bin, v_neg, v_not, v_cmp, v_and, v_or, v_ife, v_call, v_blt, v_mth, v_sub, v_slc, v_comp, o_none, o_some, s_nil, s_cons, i_seq, i_rng1, i_rng2, i_enum, nx_nx, nx_rt, nx_bk, nx_ct, ite_t, ite_f, and_t, and_f, or_t, or_f, R.bind_ok, R.bind_assoc, ofO_some, tr_b, optI_i, itm_t, itm_l, seqL_l, gdOf_tup, gdOf_lst, neg_i, aug_i, add_i, sub_i, slc_t, slc_l, add_l, len_t, len_l, list_t, list_l, tuple_l, max_i, ls_i, le_i, gt_i, ge_i, sub_t, sub_l, List.getElem?_cons_zero, List.getElem?_cons_succ, List.set_cons_zero, List.set_cons_succ, Bool.not_true, Bool.not_false, mkL_v (l := []) (sz (by simp))]
      rw [ne_g (d := .lst (([] : List Int).map D.int)) (e := .lst []) (gi []) (gi [])]
      simp only [v_maxd, v_dict, v_dget, x_dput, x_par, par_k, i_rngD, i_zip, v_agen, v_glob, v_chain, v_isx, x_raise, x_kept, x_nil, x_cons, x_set, x_unp, x_sets, x_expr, x_ret, x_pass, x_brk, x_cont, x_ite, x_for, x_whl, v_bl, v_int, v_str, v_ty, v_non, v_var, v_tup, v_lst, v_bin, v_neg, v_not, v_cmp, v_and, v_or, v_ife, v_call, v_blt, v_mth, v_sub, v_slc, v_comp, o_none, o_some, s_nil, s_cons, i_seq, i_rng1, i_rng2, i_enum, nx_nx, nx_rt, nx_bk, nx_ct, ite_t, ite_f, and_t, and_f, or_t, or_f, R.bind_ok, R.bind_assoc, ofO_some, tr_b, optI_i, itm_t, itm_l, seqL_l, gdOf_tup, gdOf_lst, neg_i, aug_i, add_i, sub_i, slc_t, slc_l, add_l, len_t, len_l, list_t, list_l, tuple_l, max_i, ls_i, le_i, gt_i, ge_i, sub_t, sub_l, List.getElem?_cons_zero, List.getElem?_cons_succ, List.set_cons_zero, List.set_cons_succ, Bool.not_true, Bool.not_false, List.map_nil, decide_true, Bool.not_true, mkL_v (l := [D.int 0]) (sz (by simp))]
      rfl
    · refine ⟨ns.take 21, by simp; omega, ?_⟩
      simp only [v_maxd, v_dict, v_dget, x_dput, x_par, par_k, i_rngD, i_zip, v_agen, v_glob, v_chain, v_isx, x_raise, x_kept, x_nil, x_cons, x_set, x_unp, x_sets, x_expr, x_ret, x_pass, x_brk, x_cont, x_ite, x_for, x_whl, v_bl, v_int, v_str, v_ty, v_non, v_var, v_tup, v_lst, v_bin, v_neg, v_not, v_cmp, v_and, v_or, v_ife, v_call, v_blt, v_mth, v_sub, v_slc, v_comp, o_none, o_some, s_nil, s_cons, i_seq, i_rng1, i_rng2, i_enum, nx_nx, nx_rt, nx_bk, nx_ct, ite_t, ite_f, and_t, and_f, or_t, or_f, R.bind_ok, R.bind_assoc, ofO_some, tr_b, optI_i, itm_t, itm_l, seqL_l, gdOf_tup, gdOf_lst, neg_i, aug_i, add_i, sub_i, slc_t, slc_l, add_l, len_t, len_l, list_t, list_l, tuple_l, max_i, ls_i, le_i, gt_i, ge_i, sub_t, sub_l, List.getElem?_cons_zero, List.getElem?_cons_succ, List.set_cons_zero, List.set_cons_succ, Bool.not_true, Bool.not_false, mkL_v (l := []) (sz (by simp))]
      rw [ne_g (e := .lst []) (gi ns) (gi []), show decide (D.lst (ns.map D.int) = .lst []) = false from decide_eq_false (by simpa using h0)]
      have c21 : cutA (ns.map D.int) none (some 21) = (ns.take 21).map D.int := by
        have := cut_to (l := ns.map D.int) (k := 21)
        rw [← List.map_take] at this
        exact this
      simp only [v_maxd, v_dict, v_dget, x_dput, x_par, par_k, i_rngD, i_zip, v_agen, v_glob, v_chain, v_isx, x_raise, x_kept, x_nil, x_cons, x_set, x_unp, x_sets, x_expr, x_ret, x_pass, x_brk, x_cont, x_ite, x_for, x_whl, v_bl, v_int, v_str, v_ty, v_non, v_var, v_tup, v_lst, v_bin, v_neg, v_not, v_cmp, v_and, v_or, v_ife, v_call, v_blt, v_mth, v_sub, v_slc, v_comp, o_none, o_some, s_nil, s_cons, i_seq, i_rng1, i_rng2, i_enum, nx_nx, nx_rt, nx_bk, nx_ct, ite_t, ite_f, and_t, and_f, or_t, or_f, R.bind_ok, R.bind_assoc, ofO_some, tr_b, optI_i, itm_t, itm_l, seqL_l, gdOf_tup, gdOf_lst, neg_i, aug_i, add_i, sub_i, slc_t, slc_l, add_l, len_t, len_l, list_t, list_l, tuple_l, max_i, ls_i, le_i, gt_i, ge_i, sub_t, sub_l, List.getElem?_cons_zero, List.getElem?_cons_succ, List.set_cons_zero, List.set_cons_succ, Bool.not_true, Bool.not_false, Bool.not_false, if_true, c21]
      exact mkL_v (sz (by simp; omega))
  simp only [d__law_draws, x_cons, x_set]
  rw [e]
  try simp only [v_maxd, v_dict, v_dget, x_dput, x_par, par_k, i_rngD, i_zip, v_agen, v_glob, v_chain, v_isx, x_raise, x_kept, x_nil, x_cons, x_set, x_unp, x_sets, x_expr, x_ret, x_pass, x_brk, x_cont, x_ite, x_for, x_whl, v_bl, v_int, v_str, v_ty, v_non, v_var, v_tup, v_lst, v_bin, v_neg, v_not, v_cmp, v_and, v_or, v_ife, v_call, v_blt, v_mth, v_sub, v_slc, v_comp, o_none, o_some, s_nil, s_cons, i_seq, i_rng1, i_rng2, i_enum, nx_nx, nx_rt, nx_bk, nx_ct, ite_t, ite_f, and_t, and_f, or_t, or_f, R.bind_ok, R.bind_assoc, ofO_some, tr_b, optI_i, itm_t, itm_l, seqL_l, gdOf_tup, gdOf_lst, neg_i, aug_i, add_i, sub_i, slc_t, slc_l, add_l, len_t, len_l, list_t, list_l, tuple_l, max_i, ls_i, le_i, gt_i, ge_i, sub_t, sub_l, List.getElem?_cons_zero, List.getElem?_cons_succ, List.set_cons_zero, List.set_cons_succ, Bool.not_true, Bool.not_false]
  rw [mkL_r (sz (by simp)), R.bind_ok, show ∀ S : Store, seqA S (D.lst (cs.map D.int)) = some (cs.map D.int) from fun _ => rfl, ofO_some, R.bind_ok]
  show Sat ((forB Gs 1000000 (CC (k + 1)) [] (.tp [3, 4]) _ (enumF 0 (cs.map D.int)) [some (.lst (ns.map .int)), some (.lst (cs.map .int)), some (.ref 0), none, none, none] [.lst []]).bind _) _
  refine Sat.bind (P := fun f S' => (∃ x y z, f = .nx [some (.lst (ns.map .int)), some (.lst (cs.map .int)), some (.ref 0), x, y, z]) ∧ ∃ l, S'[0]? = some (.lst l) ∧ ∀ d ∈ l, ∃ a, d = .ref a ∧ Dr S' a) ?_ fun f S' ⟨⟨x, y, z, hf⟩, hl⟩ => ?_
  · unfold forB
    refine for_satG (g := []) (fun i e S' => (∃ x y z, e = [some (.lst (ns.map .int)), some (.lst (cs.map .int)), some (.ref 0), x, y, z]) ∧ ∃ l, S'[0]? = some (.lst l) ∧ l.length = i ∧ ∀ d ∈ l, ∃ a, d = .ref a ∧ Dr S' a) (fun _ _ _ _ => gdOk_nil) ?_ (fun e S' ⟨⟨x, y, z, he⟩, l, h1, _, h2⟩ => ⟨⟨x, y, z, by rw [he]⟩, l, h1, h2⟩) ⟨⟨none, none, none, rfl⟩, [], rfl, rfl, by simp⟩
    rintro i d e S' hd ⟨⟨x, y, z, rfl⟩, l, h1, hl, h2⟩
    rw [enumF_get, Nat.zero_add] at hd
    cases ec : (cs.map D.int)[i]? with
    | none => rw [ec] at hd; cases hd
    | some dc =>
      rw [ec] at hd
      cases hd
      have hi : i < cs.length := by
        have := (List.getElem?_eq_some_iff.mp ec).1
        simpa using this
      obtain ⟨c, rfl⟩ : ∃ n, dc = .int n := by
        obtain ⟨n, _, h⟩ := List.mem_map.mp (List.mem_of_getElem? ec)
        exact ⟨n, h.symm⟩
      refine ⟨_, rfl, ?_⟩
      have pw : binA true .Pow (.int 10) (.int 18) S' = .ok (.int (10 ^ (18 : Int).toNat)) S' := pow_i (by decide) (by decide)
      have mb : ∀ b : Bool, binA true .Mult (.int c) (.int (if b then 1 else 0)) S' = .ok (.int (c * if b then 1 else 0)) S' := fun b => mul_r (by cases b <;> decide)
      have hj : (0 : Int) ≤ (i : Int) + 1 ∧ (i : Int) + 1 ≤ 1000000 := by omega
      obtain ⟨sm, hsm⟩ := sum_ev (Gs := Gs) (call := CC (k + 1)) ns hn (i := i) (e := [some (.lst (ns.map .int)), some (.lst (cs.map .int)), some (.ref 0), some (.int (i : Int)), some (.int c), z]) (S := S') rfl rfl
      have m7 : binA true .Mult (.int 7) (.int sm) S' = .ok (.int (7 * sm)) S' := mul_l (by decide)
      simp only [asgs, List.set_cons_zero, List.set_cons_succ]
      simp only [x_cons, x_set, v_bin, v_var, v_int, R.bind_ok, R.bind_assoc, List.getElem?_cons_zero, List.getElem?_cons_succ, hsm, m7, add_i, nx_nx, List.set_cons_zero, List.set_cons_succ]
      simp only [v_maxd, v_dict, v_dget, x_dput, x_par, par_k, i_rngD, i_zip, v_agen, v_glob, v_chain, v_isx, x_raise, x_kept, x_nil, x_cons, x_set, x_unp, x_sets, x_expr, x_ret, x_pass, x_brk, x_cont, x_ite, x_for, x_whl, v_bl, v_int, v_str, v_ty, v_non, v_var, v_tup, v_lst, v_bin, v_neg, v_not, v_cmp, v_and, v_or, v_ife, v_call, v_blt, v_mth, v_sub, v_slc, v_comp, o_none, o_some, s_nil, s_cons, i_seq, i_rng1, i_rng2, i_enum, nx_nx, nx_rt, nx_bk, nx_ct, ite_t, ite_f, and_t, and_f, or_t, or_f, R.bind_ok, R.bind_assoc, ofO_some, tr_b, optI_i, itm_t, itm_l, seqL_l, gdOf_tup, gdOf_lst, neg_i, aug_i, add_i, sub_i, slc_t, slc_l, add_l, len_t, len_l, list_t, list_l, tuple_l, max_i, ls_i, le_i, gt_i, ge_i, sub_t, sub_l, List.getElem?_cons_zero, List.getElem?_cons_succ, List.set_cons_zero, List.set_cons_succ, Bool.not_true, Bool.not_false, recv_l h1, pw, int_b, mb, c_mixed k _ _ hj, dic_ok]
      have h3 : (S' ++ [drw (c * if decide (10 ^ (18 : Int).toNat ≤ c) then 1 else 0) (mixed (c + 7 * sm) (i + 1))])[0]? = some (.lst l) := get_push_old h1
      rw [app_r h3 (sz' (by omega)), R.bind_ok]
      refine .ok ⟨⟨_, _, _, rfl⟩, l ++ [.ref S'.length], get_set h3, by simp [hl], fun d hd => ?_⟩
      have old : ∀ a, Dr (S' ++ [drw (c * if decide (10 ^ (18 : Int).toNat ≤ c) then 1 else 0) (mixed (c + 7 * sm) (i + 1))]) a → Dr ((S' ++ [drw (c * if decide (10 ^ (18 : Int).toNat ≤ c) then 1 else 0) (mixed (c + 7 * sm) (i + 1))]).set 0 (.lst (l ++ [.ref S'.length]))) a := fun a ⟨p, q, z⟩ => by
        have ne : 0 ≠ a := fun z2 => by
          rw [← z2, h3] at z
          cases z
        exact ⟨p, q, by rw [get_set_ne ne]; exact z⟩
      rcases List.mem_append.mp hd with hd | hd
      · obtain ⟨a, rfl, ha⟩ := h2 d hd
        exact ⟨a, rfl, old a (ha.push _)⟩
      · rw [List.mem_singleton.mp hd]
        exact ⟨_, rfl, old _ ⟨_, _, get_push⟩⟩
  · subst hf
    simp only [v_maxd, v_dict, v_dget, x_dput, x_par, par_k, i_rngD, i_zip, v_agen, v_glob, v_chain, v_isx, x_raise, x_kept, x_nil, x_cons, x_set, x_unp, x_sets, x_expr, x_ret, x_pass, x_brk, x_cont, x_ite, x_for, x_whl, v_bl, v_int, v_str, v_ty, v_non, v_var, v_tup, v_lst, v_bin, v_neg, v_not, v_cmp, v_and, v_or, v_ife, v_call, v_blt, v_mth, v_sub, v_slc, v_comp, o_none, o_some, s_nil, s_cons, i_seq, i_rng1, i_rng2, i_enum, nx_nx, nx_rt, nx_bk, nx_ct, ite_t, ite_f, and_t, and_f, or_t, or_f, R.bind_ok, R.bind_assoc, ofO_some, tr_b, optI_i, itm_t, itm_l, seqL_l, gdOf_tup, gdOf_lst, neg_i, aug_i, add_i, sub_i, slc_t, slc_l, add_l, len_t, len_l, list_t, list_l, tuple_l, max_i, ls_i, le_i, gt_i, ge_i, sub_t, sub_l, List.getElem?_cons_zero, List.getElem?_cons_succ, List.set_cons_zero, List.set_cons_succ, Bool.not_true, Bool.not_false]
    exact .ok ⟨rfl, hl⟩
end K23

namespace K23
open PySem Mn
/-! what is no ref, of any kind -/
mutual
def pl : D → Bool
  | .non => true
  | .bl _ => true
  | .int _ => true
  | .str _ => true
  | .tup l => pls l
  | .lst l => pls l
  | _ => false
def pls : List D → Bool
  | [] => true
  | d :: r => pl d && pls r
end
theorem pls_all : ∀ {l : List D}, pls l = true → ∀ d ∈ l, pl d = true
  | [], _, d, h => by cases h
  | e :: r, hl, d, h => by
    simp only [pls, Bool.and_eq_true] at hl
    rcases List.mem_cons.mp h with rfl | h
    · exact hl.1
    · exact pls_all hl.2 d h
theorem pls_of : ∀ {l : List D}, (∀ d ∈ l, pl d = true) → pls l = true
  | [], _ => rfl
  | d :: r, h => by
    simp only [pls, Bool.and_eq_true]
    exact ⟨h d List.mem_cons_self, pls_of fun x hx => h x (List.mem_cons_of_mem _ hx)⟩
mutual
theorem pl_below : ∀ (d : D) (n : Nat), pl d = true → below n d = true
  | .non, n, h => by simp [below]
  | .bl _, n, h => by simp [below]
  | .int _, n, h => by simp [below]
  | .str _, n, h => by simp [below]
  | .tup l, n, h => by
    simp only [pl, below] at h ⊢
    exact pls_below l n h
  | .lst l, n, h => by
    simp only [pl, below] at h ⊢
    exact pls_below l n h
  | .ref _, n, h => by simp [pl] at h
  | .fn _, n, h => by simp [pl] at h
  | .cls _, n, h => by simp [pl] at h
  | .ty _, n, h => by simp [pl] at h
  | .exn _ _, n, h => by simp [pl] at h
theorem pls_below : ∀ (l : List D) (n : Nat), pls l = true → belows n l = true
  | [], n, h => by simp [belows]
  | d :: r, n, h => by
    simp only [pls, belows, Bool.and_eq_true] at h ⊢
    exact ⟨pl_below d n h.1, pls_below r n h.2⟩
end
def isTup : D → Bool
  | .tup _ => true
  | _ => false
def isInt : D → Bool
  | .int _ => true
  | .bl _ => true
  | _ => false
def isBl : D → Bool
  | .bl _ => true
  | _ => false
theorem isi_tup {v : Bool} {S : Store} {d : D} (h : pl d = true) : bltA v "isinstance" [d, .ty "tuple"] S = .ok (.bl (isTup d)) S := by
  cases d <;> first | rfl | (simp [pl] at h; done)
theorem isi_int {v : Bool} {S : Store} {d : D} (h : pl d = true) : bltA v "isinstance" [d, .ty "int"] S = .ok (.bl (isInt d)) S := by
  cases d <;> first | rfl | (simp [pl] at h; done)
theorem isi_bl {v : Bool} {S : Store} {d : D} (h : pl d = true) : bltA v "isinstance" [d, .ty "bool"] S = .ok (.bl (isBl d)) S := by
  cases d <;> first | rfl | (simp [pl] at h; done)
def cnt : D → Bool
  | .int i => decide (0 ≤ i)
  | _ => false
/-- evaluations that keep the store: leaving -/
theorem lv_ok {S : Store} {r : R F} {d : D} (h : r = .ok (.rt d) S) (hd : below S.length d = true) : leave .pure S r = .ok d S := by
  rw [h]
  exact leave_same hd
theorem c_count (k : Nat) (S : Store) (d : D) (h : pl d = true) : CC (k + 1) "is_count" [d] S = .ok (.bl (cnt d)) S := by
  show leave .pure S (exB Gs 1000000 (CC k) d_is_count.body [some d] S) = _
  refine lv_ok ?_ (by simp [below])
  simp only [d_is_count, v_maxd, v_dict, v_dget, x_dput, x_par, par_k, i_rngD, i_zip, v_agen, v_glob, v_chain, v_isx, x_raise, x_kept, x_nil, x_cons, x_set, x_unp, x_sets, x_expr, x_ret, x_pass, x_brk, x_cont, x_ite, x_for, x_whl, v_bl, v_int, v_str, v_ty, v_non, v_var, v_tup, v_lst, v_bin, v_neg, v_not, v_cmp, v_and, v_or, v_ife, v_call, v_blt, v_mth, v_sub, v_slc, v_comp, o_none, o_some, s_nil, s_cons, i_seq, i_rng1, i_rng2, i_enum, nx_nx, nx_rt, nx_bk, nx_ct, ite_t, ite_f, and_t, and_f, or_t, or_f, R.bind_ok, R.bind_assoc, ofO_some, tr_b, optI_i, itm_t, itm_l, seqL_l, gdOf_tup, gdOf_lst, neg_i, aug_i, add_i, sub_i, slc_t, slc_l, add_l, len_t, len_l, list_t, list_l, tuple_l, max_i, ls_i, le_i, gt_i, ge_i, sub_t, sub_l, List.getElem?_cons_zero, List.getElem?_cons_succ, List.set_cons_zero, List.set_cons_succ, Bool.not_true, Bool.not_false, isi_int h, isi_bl h]
  cases d <;> first | (simp [pl] at h; done) | (simp only [isInt, isBl, isi_bl h, cnt, v_maxd, v_dict, v_dget, x_dput, x_par, par_k, i_rngD, i_zip, v_agen, v_glob, v_chain, v_isx, x_raise, x_kept, x_nil, x_cons, x_set, x_unp, x_sets, x_expr, x_ret, x_pass, x_brk, x_cont, x_ite, x_for, x_whl, v_bl, v_int, v_str, v_ty, v_non, v_var, v_tup, v_lst, v_bin, v_neg, v_not, v_cmp, v_and, v_or, v_ife, v_call, v_blt, v_mth, v_sub, v_slc, v_comp, o_none, o_some, s_nil, s_cons, i_seq, i_rng1, i_rng2, i_enum, nx_nx, nx_rt, nx_bk, nx_ct, ite_t, ite_f, and_t, and_f, or_t, or_f, R.bind_ok, R.bind_assoc, ofO_some, tr_b, optI_i, itm_t, itm_l, seqL_l, gdOf_tup, gdOf_lst, neg_i, aug_i, add_i, sub_i, slc_t, slc_l, add_l, len_t, len_l, list_t, list_l, tuple_l, max_i, ls_i, le_i, gt_i, ge_i, sub_t, sub_l, List.getElem?_cons_zero, List.getElem?_cons_succ, List.set_cons_zero, List.set_cons_succ, Bool.not_true, Bool.not_false, Bool.not_true, Bool.not_false]; done)
def blw (m : Int) : D → Bool
  | .int i => decide (0 ≤ i) && decide (i < m)
  | _ => false
theorem c_below (k : Nat) (S : Store) (m : Int) (d : D) (h : pl d = true) : CC (k + 2) "is_below" [.int m, d] S = .ok (.bl (blw m d)) S := by
  show leave .pure S (exB Gs 1000000 (CC (k + 1)) d_is_below.body [some (.int m), some d] S) = _
  refine lv_ok ?_ (by simp [below])
  simp only [d_is_below, v_maxd, v_dict, v_dget, x_dput, x_par, par_k, i_rngD, i_zip, v_agen, v_glob, v_chain, v_isx, x_raise, x_kept, x_nil, x_cons, x_set, x_unp, x_sets, x_expr, x_ret, x_pass, x_brk, x_cont, x_ite, x_for, x_whl, v_bl, v_int, v_str, v_ty, v_non, v_var, v_tup, v_lst, v_bin, v_neg, v_not, v_cmp, v_and, v_or, v_ife, v_call, v_blt, v_mth, v_sub, v_slc, v_comp, o_none, o_some, s_nil, s_cons, i_seq, i_rng1, i_rng2, i_enum, nx_nx, nx_rt, nx_bk, nx_ct, ite_t, ite_f, and_t, and_f, or_t, or_f, R.bind_ok, R.bind_assoc, ofO_some, tr_b, optI_i, itm_t, itm_l, seqL_l, gdOf_tup, gdOf_lst, neg_i, aug_i, add_i, sub_i, slc_t, slc_l, add_l, len_t, len_l, list_t, list_l, tuple_l, max_i, ls_i, le_i, gt_i, ge_i, sub_t, sub_l, List.getElem?_cons_zero, List.getElem?_cons_succ, List.set_cons_zero, List.set_cons_succ, Bool.not_true, Bool.not_false, c_count k S d h]
  cases d with
  | int i =>
    simp only [cnt, blw]
    cases hc : decide (0 ≤ i) <;> simp only [v_maxd, v_dict, v_dget, x_dput, x_par, par_k, i_rngD, i_zip, v_agen, v_glob, v_chain, v_isx, x_raise, x_kept, x_nil, x_cons, x_set, x_unp, x_sets, x_expr, x_ret, x_pass, x_brk, x_cont, x_ite, x_for, x_whl, v_bl, v_int, v_str, v_ty, v_non, v_var, v_tup, v_lst, v_bin, v_neg, v_not, v_cmp, v_and, v_or, v_ife, v_call, v_blt, v_mth, v_sub, v_slc, v_comp, o_none, o_some, s_nil, s_cons, i_seq, i_rng1, i_rng2, i_enum, nx_nx, nx_rt, nx_bk, nx_ct, ite_t, ite_f, and_t, and_f, or_t, or_f, R.bind_ok, R.bind_assoc, ofO_some, tr_b, optI_i, itm_t, itm_l, seqL_l, gdOf_tup, gdOf_lst, neg_i, aug_i, add_i, sub_i, slc_t, slc_l, add_l, len_t, len_l, list_t, list_l, tuple_l, max_i, ls_i, le_i, gt_i, ge_i, sub_t, sub_l, List.getElem?_cons_zero, List.getElem?_cons_succ, List.set_cons_zero, List.set_cons_succ, Bool.not_true, Bool.not_false, Bool.false_and, Bool.true_and]
  | _ => first | (simp [pl] at h; done) | (simp only [cnt, blw, v_maxd, v_dict, v_dget, x_dput, x_par, par_k, i_rngD, i_zip, v_agen, v_glob, v_chain, v_isx, x_raise, x_kept, x_nil, x_cons, x_set, x_unp, x_sets, x_expr, x_ret, x_pass, x_brk, x_cont, x_ite, x_for, x_whl, v_bl, v_int, v_str, v_ty, v_non, v_var, v_tup, v_lst, v_bin, v_neg, v_not, v_cmp, v_and, v_or, v_ife, v_call, v_blt, v_mth, v_sub, v_slc, v_comp, o_none, o_some, s_nil, s_cons, i_seq, i_rng1, i_rng2, i_enum, nx_nx, nx_rt, nx_bk, nx_ct, ite_t, ite_f, and_t, and_f, or_t, or_f, R.bind_ok, R.bind_assoc, ofO_some, tr_b, optI_i, itm_t, itm_l, seqL_l, gdOf_tup, gdOf_lst, neg_i, aug_i, add_i, sub_i, slc_t, slc_l, add_l, len_t, len_l, list_t, list_l, tuple_l, max_i, ls_i, le_i, gt_i, ge_i, sub_t, sub_l, List.getElem?_cons_zero, List.getElem?_cons_succ, List.set_cons_zero, List.set_cons_succ, Bool.not_true, Bool.not_false]; done)
theorem c_letters (k : Nat) (S : Store) (A : List D) (hA : A.length ≤ 1000) : CC (k + 1) "letters_of" [.tup A] S = .ok (.int (2 ^ A.length)) S := by
  show leave .pure S (exB Gs 1000000 (CC k) d_letters_of.body [some (.tup A)] S) = _
  refine lv_ok ?_ (by simp [below])
  have z : binA true .LShift (.int 1) (.int A.length) S = .ok (.int (2 ^ A.length)) S := by
    show R.ofO ((if 0 ≤ (A.length : Int) ∧ (A.length : Int) ≤ 1000000 ∧ (1 : Int).natAbs < 2 ^ 64 then some ((1 : Int) * 2 ^ (A.length : Int).toNat) else none).map D.int) S = _
    rw [if_pos ⟨by omega, by omega, by decide⟩]
    simp [R.ofO]
  simp only [d_letters_of, v_maxd, v_dict, v_dget, x_dput, x_par, par_k, i_rngD, i_zip, v_agen, v_glob, v_chain, v_isx, x_raise, x_kept, x_nil, x_cons, x_set, x_unp, x_sets, x_expr, x_ret, x_pass, x_brk, x_cont, x_ite, x_for, x_whl, v_bl, v_int, v_str, v_ty, v_non, v_var, v_tup, v_lst, v_bin, v_neg, v_not, v_cmp, v_and, v_or, v_ife, v_call, v_blt, v_mth, v_sub, v_slc, v_comp, o_none, o_some, s_nil, s_cons, i_seq, i_rng1, i_rng2, i_enum, nx_nx, nx_rt, nx_bk, nx_ct, ite_t, ite_f, and_t, and_f, or_t, or_f, R.bind_ok, R.bind_assoc, ofO_some, tr_b, optI_i, itm_t, itm_l, seqL_l, gdOf_tup, gdOf_lst, neg_i, aug_i, add_i, sub_i, slc_t, slc_l, add_l, len_t, len_l, list_t, list_l, tuple_l, max_i, ls_i, le_i, gt_i, ge_i, sub_t, sub_l, List.getElem?_cons_zero, List.getElem?_cons_succ, List.set_cons_zero, List.set_cons_succ, Bool.not_true, Bool.not_false, z]
theorem c_letter (k : Nat) (S : Store) (A : List D) (hA : A.length ≤ 1000) (d : D) (h : pl d = true) : CC (k + 3) "is_letter" [.tup A, d] S = .ok (.bl (blw (2 ^ A.length) d)) S := by
  show leave .pure S (exB Gs 1000000 (CC (k + 2)) d_is_letter.body [some (.tup A), some d] S) = _
  refine lv_ok ?_ (by simp [below])
  simp only [d_is_letter, v_maxd, v_dict, v_dget, x_dput, x_par, par_k, i_rngD, i_zip, v_agen, v_glob, v_chain, v_isx, x_raise, x_kept, x_nil, x_cons, x_set, x_unp, x_sets, x_expr, x_ret, x_pass, x_brk, x_cont, x_ite, x_for, x_whl, v_bl, v_int, v_str, v_ty, v_non, v_var, v_tup, v_lst, v_bin, v_neg, v_not, v_cmp, v_and, v_or, v_ife, v_call, v_blt, v_mth, v_sub, v_slc, v_comp, o_none, o_some, s_nil, s_cons, i_seq, i_rng1, i_rng2, i_enum, nx_nx, nx_rt, nx_bk, nx_ct, ite_t, ite_f, and_t, and_f, or_t, or_f, R.bind_ok, R.bind_assoc, ofO_some, tr_b, optI_i, itm_t, itm_l, seqL_l, gdOf_tup, gdOf_lst, neg_i, aug_i, add_i, sub_i, slc_t, slc_l, add_l, len_t, len_l, list_t, list_l, tuple_l, max_i, ls_i, le_i, gt_i, ge_i, sub_t, sub_l, List.getElem?_cons_zero, List.getElem?_cons_succ, List.set_cons_zero, List.set_cons_succ, Bool.not_true, Bool.not_false, c_letters (k + 1) S A hA, c_below k S _ d h]
def trn (a b : Nat) : D → Bool
  | .tup [x, y] => blw (2 ^ a) x && blw (2 ^ b) y
  | _ => false
theorem at2_0 {a b : D} : L2.atI [a, b] 0 = some a := nr rfl
theorem at2_1 {a b : D} : L2.atI [a, b] 1 = some b := nr rfl
theorem ne_i {S : Store} {i j : Int} : cmpA .NotEq (.int i) (.int j) S = some (!decide (i = j)) := by
  rw [ne_g (by simp [gd]) (by simp [gd])]
  simp
def brdD (A B : List D) : D := .tup [.tup A, .tup B]
theorem brdD0 {S : Store} {A B : List D} : subA S (brdD A B) (.int 0) = some (.tup A) := nr rfl
theorem brdD1 {S : Store} {A B : List D} : subA S (brdD A B) (.int 1) = some (.tup B) := nr rfl
theorem c_turn (k : Nat) (S : Store) (A B : List D) (hA : A.length ≤ 1000) (hB : B.length ≤ 1000) (d : D) (h : pl d = true) : CC (k + 4) "is_turn" [brdD A B, d] S = .ok (.bl (trn A.length B.length d)) S := by
  show leave .pure S (exB Gs 1000000 (CC (k + 3)) d_is_turn.body [some (brdD A B), some d] S) = _
  refine lv_ok ?_ (by simp [below])
  simp only [d_is_turn, v_maxd, v_dict, v_dget, x_dput, x_par, par_k, i_rngD, i_zip, v_agen, v_glob, v_chain, v_isx, x_raise, x_kept, x_nil, x_cons, x_set, x_unp, x_sets, x_expr, x_ret, x_pass, x_brk, x_cont, x_ite, x_for, x_whl, v_bl, v_int, v_str, v_ty, v_non, v_var, v_tup, v_lst, v_bin, v_neg, v_not, v_cmp, v_and, v_or, v_ife, v_call, v_blt, v_mth, v_sub, v_slc, v_comp, o_none, o_some, s_nil, s_cons, i_seq, i_rng1, i_rng2, i_enum, nx_nx, nx_rt, nx_bk, nx_ct, ite_t, ite_f, and_t, and_f, or_t, or_f, R.bind_ok, R.bind_assoc, ofO_some, tr_b, optI_i, itm_t, itm_l, seqL_l, gdOf_tup, gdOf_lst, neg_i, aug_i, add_i, sub_i, slc_t, slc_l, add_l, len_t, len_l, list_t, list_l, tuple_l, max_i, ls_i, le_i, gt_i, ge_i, sub_t, sub_l, List.getElem?_cons_zero, List.getElem?_cons_succ, List.set_cons_zero, List.set_cons_succ, Bool.not_true, Bool.not_false, isi_tup h]
  cases d with
  | tup l =>
    simp only [isTup, v_maxd, v_dict, v_dget, x_dput, x_par, par_k, i_rngD, i_zip, v_agen, v_glob, v_chain, v_isx, x_raise, x_kept, x_nil, x_cons, x_set, x_unp, x_sets, x_expr, x_ret, x_pass, x_brk, x_cont, x_ite, x_for, x_whl, v_bl, v_int, v_str, v_ty, v_non, v_var, v_tup, v_lst, v_bin, v_neg, v_not, v_cmp, v_and, v_or, v_ife, v_call, v_blt, v_mth, v_sub, v_slc, v_comp, o_none, o_some, s_nil, s_cons, i_seq, i_rng1, i_rng2, i_enum, nx_nx, nx_rt, nx_bk, nx_ct, ite_t, ite_f, and_t, and_f, or_t, or_f, R.bind_ok, R.bind_assoc, ofO_some, tr_b, optI_i, itm_t, itm_l, seqL_l, gdOf_tup, gdOf_lst, neg_i, aug_i, add_i, sub_i, slc_t, slc_l, add_l, len_t, len_l, list_t, list_l, tuple_l, max_i, ls_i, le_i, gt_i, ge_i, sub_t, sub_l, List.getElem?_cons_zero, List.getElem?_cons_succ, List.set_cons_zero, List.set_cons_succ, Bool.not_true, Bool.not_false, ne_i]
    by_cases hl : (l.length : Int) = 2
    · obtain ⟨x, y, rfl⟩ : ∃ x y, l = [x, y] := by
        match l, hl with
        | [x, y], _ => exact ⟨x, y, rfl⟩
        | [], h => exact absurd h (by simp)
        | [x], h => exact absurd h (by simp)
        | x :: y :: z :: r, h => exact absurd h (by simp; omega)
      have hx : pl x = true := pls_all h x (by simp)
      have hy : pl y = true := pls_all h y (by simp)
      simp only [decide_eq_true hl, v_maxd, v_dict, v_dget, x_dput, x_par, par_k, i_rngD, i_zip, v_agen, v_glob, v_chain, v_isx, x_raise, x_kept, x_nil, x_cons, x_set, x_unp, x_sets, x_expr, x_ret, x_pass, x_brk, x_cont, x_ite, x_for, x_whl, v_bl, v_int, v_str, v_ty, v_non, v_var, v_tup, v_lst, v_bin, v_neg, v_not, v_cmp, v_and, v_or, v_ife, v_call, v_blt, v_mth, v_sub, v_slc, v_comp, o_none, o_some, s_nil, s_cons, i_seq, i_rng1, i_rng2, i_enum, nx_nx, nx_rt, nx_bk, nx_ct, ite_t, ite_f, and_t, and_f, or_t, or_f, R.bind_ok, R.bind_assoc, ofO_some, tr_b, optI_i, itm_t, itm_l, seqL_l, gdOf_tup, gdOf_lst, neg_i, aug_i, add_i, sub_i, slc_t, slc_l, add_l, len_t, len_l, list_t, list_l, tuple_l, max_i, ls_i, le_i, gt_i, ge_i, sub_t, sub_l, List.getElem?_cons_zero, List.getElem?_cons_succ, List.set_cons_zero, List.set_cons_succ, Bool.not_true, Bool.not_false, brdD0, brdD1, at2_0, at2_1, c_letter k S A hA x hx, c_letter k S B hB y hy, trn]
      cases hb : blw (2 ^ A.length) x <;> simp only [v_maxd, v_dict, v_dget, x_dput, x_par, par_k, i_rngD, i_zip, v_agen, v_glob, v_chain, v_isx, x_raise, x_kept, x_nil, x_cons, x_set, x_unp, x_sets, x_expr, x_ret, x_pass, x_brk, x_cont, x_ite, x_for, x_whl, v_bl, v_int, v_str, v_ty, v_non, v_var, v_tup, v_lst, v_bin, v_neg, v_not, v_cmp, v_and, v_or, v_ife, v_call, v_blt, v_mth, v_sub, v_slc, v_comp, o_none, o_some, s_nil, s_cons, i_seq, i_rng1, i_rng2, i_enum, nx_nx, nx_rt, nx_bk, nx_ct, ite_t, ite_f, and_t, and_f, or_t, or_f, R.bind_ok, R.bind_assoc, ofO_some, tr_b, optI_i, itm_t, itm_l, seqL_l, gdOf_tup, gdOf_lst, neg_i, aug_i, add_i, sub_i, slc_t, slc_l, add_l, len_t, len_l, list_t, list_l, tuple_l, max_i, ls_i, le_i, gt_i, ge_i, sub_t, sub_l, List.getElem?_cons_zero, List.getElem?_cons_succ, List.set_cons_zero, List.set_cons_succ, Bool.not_true, Bool.not_false, Bool.false_and, Bool.true_and, brdD1, at2_1, c_letter k S B hB y hy]
    · have e : trn A.length B.length (.tup l) = false := by
        unfold trn
        split
        · rename_i x y e
          cases e
          exact absurd rfl hl
        · rfl
      simp only [decide_eq_false hl, v_maxd, v_dict, v_dget, x_dput, x_par, par_k, i_rngD, i_zip, v_agen, v_glob, v_chain, v_isx, x_raise, x_kept, x_nil, x_cons, x_set, x_unp, x_sets, x_expr, x_ret, x_pass, x_brk, x_cont, x_ite, x_for, x_whl, v_bl, v_int, v_str, v_ty, v_non, v_var, v_tup, v_lst, v_bin, v_neg, v_not, v_cmp, v_and, v_or, v_ife, v_call, v_blt, v_mth, v_sub, v_slc, v_comp, o_none, o_some, s_nil, s_cons, i_seq, i_rng1, i_rng2, i_enum, nx_nx, nx_rt, nx_bk, nx_ct, ite_t, ite_f, and_t, and_f, or_t, or_f, R.bind_ok, R.bind_assoc, ofO_some, tr_b, optI_i, itm_t, itm_l, seqL_l, gdOf_tup, gdOf_lst, neg_i, aug_i, add_i, sub_i, slc_t, slc_l, add_l, len_t, len_l, list_t, list_l, tuple_l, max_i, ls_i, le_i, gt_i, ge_i, sub_t, sub_l, List.getElem?_cons_zero, List.getElem?_cons_succ, List.set_cons_zero, List.set_cons_succ, Bool.not_true, Bool.not_false, e]
  | _ => first | (simp [pl] at h; done) | (simp only [isTup, trn, v_maxd, v_dict, v_dget, x_dput, x_par, par_k, i_rngD, i_zip, v_agen, v_glob, v_chain, v_isx, x_raise, x_kept, x_nil, x_cons, x_set, x_unp, x_sets, x_expr, x_ret, x_pass, x_brk, x_cont, x_ite, x_for, x_whl, v_bl, v_int, v_str, v_ty, v_non, v_var, v_tup, v_lst, v_bin, v_neg, v_not, v_cmp, v_and, v_or, v_ife, v_call, v_blt, v_mth, v_sub, v_slc, v_comp, o_none, o_some, s_nil, s_cons, i_seq, i_rng1, i_rng2, i_enum, nx_nx, nx_rt, nx_bk, nx_ct, ite_t, ite_f, and_t, and_f, or_t, or_f, R.bind_ok, R.bind_assoc, ofO_some, tr_b, optI_i, itm_t, itm_l, seqL_l, gdOf_tup, gdOf_lst, neg_i, aug_i, add_i, sub_i, slc_t, slc_l, add_l, len_t, len_l, list_t, list_l, tuple_l, max_i, ls_i, le_i, gt_i, ge_i, sub_t, sub_l, List.getElem?_cons_zero, List.getElem?_cons_succ, List.set_cons_zero, List.set_cons_succ, Bool.not_true, Bool.not_false]; done)
def trs (a b : Nat) (least : Int) : D → Bool
  | .tup l => decide (least ≤ l.length) && (decide (l.length ≤ 200) && l.all (trn a b))
  | _ => false
theorem c_turns_ (k : Nat) (S : Store) (A B : List D) (hA : A.length ≤ 1000) (hB : B.length ≤ 1000) (least : Int) (d : D) (h : pl d = true) : CC (k + 5) "are_turns" [brdD A B, d, .int least] S = .ok (.bl (trs A.length B.length least d)) S := by
  show leave .pure S (exB Gs 1000000 (CC (k + 4)) d_are_turns.body [some (brdD A B), some d, some (.int least), none] S) = _
  refine lv_ok ?_ (by simp [below])
  simp only [d_are_turns, v_maxd, v_dict, v_dget, x_dput, x_par, par_k, i_rngD, i_zip, v_agen, v_glob, v_chain, v_isx, x_raise, x_kept, x_nil, x_cons, x_set, x_unp, x_sets, x_expr, x_ret, x_pass, x_brk, x_cont, x_ite, x_for, x_whl, v_bl, v_int, v_str, v_ty, v_non, v_var, v_tup, v_lst, v_bin, v_neg, v_not, v_cmp, v_and, v_or, v_ife, v_call, v_blt, v_mth, v_sub, v_slc, v_comp, o_none, o_some, s_nil, s_cons, i_seq, i_rng1, i_rng2, i_enum, nx_nx, nx_rt, nx_bk, nx_ct, ite_t, ite_f, and_t, and_f, or_t, or_f, R.bind_ok, R.bind_assoc, ofO_some, tr_b, optI_i, itm_t, itm_l, seqL_l, gdOf_tup, gdOf_lst, neg_i, aug_i, add_i, sub_i, slc_t, slc_l, add_l, len_t, len_l, list_t, list_l, tuple_l, max_i, ls_i, le_i, gt_i, ge_i, sub_t, sub_l, List.getElem?_cons_zero, List.getElem?_cons_succ, List.set_cons_zero, List.set_cons_succ, Bool.not_true, Bool.not_false, isi_tup h]
  cases d with
  | tup l =>
    have hg : Gs "MOST_TURNS" = some (.int 200) := rfl
    have z : agB Gs (CC (k + 4)) [] true (.nm 3) (.call "is_turn" (.cons (.var 0) (.cons (.var 3) .nil))) (wipe [some (brdD A B), some (.tup l), some (.int least), none] [3]) l S = .ok (l.all (trn A.length B.length)) S := by
      unfold agB
      refine gen_sat (q := true) (trn A.length B.length) fun x hx => ⟨_, rfl, ?_⟩
      show evE Gs (CC (k + 4)) (.call "is_turn" (.cons (.var 0) (.cons (.var 3) .nil))) [some (brdD A B), some (.tup l), some (.int least), some x] S = _
      simp only [v_maxd, v_dict, v_dget, x_dput, x_par, par_k, i_rngD, i_zip, v_agen, v_glob, v_chain, v_isx, x_raise, x_kept, x_nil, x_cons, x_set, x_unp, x_sets, x_expr, x_ret, x_pass, x_brk, x_cont, x_ite, x_for, x_whl, v_bl, v_int, v_str, v_ty, v_non, v_var, v_tup, v_lst, v_bin, v_neg, v_not, v_cmp, v_and, v_or, v_ife, v_call, v_blt, v_mth, v_sub, v_slc, v_comp, o_none, o_some, s_nil, s_cons, i_seq, i_rng1, i_rng2, i_enum, nx_nx, nx_rt, nx_bk, nx_ct, ite_t, ite_f, and_t, and_f, or_t, or_f, R.bind_ok, R.bind_assoc, ofO_some, tr_b, optI_i, itm_t, itm_l, seqL_l, gdOf_tup, gdOf_lst, neg_i, aug_i, add_i, sub_i, slc_t, slc_l, add_l, len_t, len_l, list_t, list_l, tuple_l, max_i, ls_i, le_i, gt_i, ge_i, sub_t, sub_l, List.getElem?_cons_zero, List.getElem?_cons_succ, List.set_cons_zero, List.set_cons_succ, Bool.not_true, Bool.not_false, c_turn k S A B hA hB x (pls_all h x hx)]
    simp only [isTup, v_maxd, v_dict, v_dget, x_dput, x_par, par_k, i_rngD, i_zip, v_agen, v_glob, v_chain, v_isx, x_raise, x_kept, x_nil, x_cons, x_set, x_unp, x_sets, x_expr, x_ret, x_pass, x_brk, x_cont, x_ite, x_for, x_whl, v_bl, v_int, v_str, v_ty, v_non, v_var, v_tup, v_lst, v_bin, v_neg, v_not, v_cmp, v_and, v_or, v_ife, v_call, v_blt, v_mth, v_sub, v_slc, v_comp, o_none, o_some, s_nil, s_cons, i_seq, i_rng1, i_rng2, i_enum, nx_nx, nx_rt, nx_bk, nx_ct, ite_t, ite_f, and_t, and_f, or_t, or_f, R.bind_ok, R.bind_assoc, ofO_some, tr_b, optI_i, itm_t, itm_l, seqL_l, gdOf_tup, gdOf_lst, neg_i, aug_i, add_i, sub_i, slc_t, slc_l, add_l, len_t, len_l, list_t, list_l, tuple_l, max_i, ls_i, le_i, gt_i, ge_i, sub_t, sub_l, List.getElem?_cons_zero, List.getElem?_cons_succ, List.set_cons_zero, List.set_cons_succ, Bool.not_true, Bool.not_false, trs]
    cases h1 : decide (least ≤ (l.length : Int)) with
    | false =>
      simp only [v_maxd, v_dict, v_dget, x_dput, x_par, par_k, i_rngD, i_zip, v_agen, v_glob, v_chain, v_isx, x_raise, x_kept, x_nil, x_cons, x_set, x_unp, x_sets, x_expr, x_ret, x_pass, x_brk, x_cont, x_ite, x_for, x_whl, v_bl, v_int, v_str, v_ty, v_non, v_var, v_tup, v_lst, v_bin, v_neg, v_not, v_cmp, v_and, v_or, v_ife, v_call, v_blt, v_mth, v_sub, v_slc, v_comp, o_none, o_some, s_nil, s_cons, i_seq, i_rng1, i_rng2, i_enum, nx_nx, nx_rt, nx_bk, nx_ct, ite_t, ite_f, and_t, and_f, or_t, or_f, R.bind_ok, R.bind_assoc, ofO_some, tr_b, optI_i, itm_t, itm_l, seqL_l, gdOf_tup, gdOf_lst, neg_i, aug_i, add_i, sub_i, slc_t, slc_l, add_l, len_t, len_l, list_t, list_l, tuple_l, max_i, ls_i, le_i, gt_i, ge_i, sub_t, sub_l, List.getElem?_cons_zero, List.getElem?_cons_succ, List.set_cons_zero, List.set_cons_succ, Bool.not_true, Bool.not_false, Bool.false_and, Bool.false_eq_true, if_false]
    | true =>
      simp only [v_maxd, v_dict, v_dget, x_dput, x_par, par_k, i_rngD, i_zip, v_agen, v_glob, v_chain, v_isx, x_raise, x_kept, x_nil, x_cons, x_set, x_unp, x_sets, x_expr, x_ret, x_pass, x_brk, x_cont, x_ite, x_for, x_whl, v_bl, v_int, v_str, v_ty, v_non, v_var, v_tup, v_lst, v_bin, v_neg, v_not, v_cmp, v_and, v_or, v_ife, v_call, v_blt, v_mth, v_sub, v_slc, v_comp, o_none, o_some, s_nil, s_cons, i_seq, i_rng1, i_rng2, i_enum, nx_nx, nx_rt, nx_bk, nx_ct, ite_t, ite_f, and_t, and_f, or_t, or_f, R.bind_ok, R.bind_assoc, ofO_some, tr_b, optI_i, itm_t, itm_l, seqL_l, gdOf_tup, gdOf_lst, neg_i, aug_i, add_i, sub_i, slc_t, slc_l, add_l, len_t, len_l, list_t, list_l, tuple_l, max_i, ls_i, le_i, gt_i, ge_i, sub_t, sub_l, List.getElem?_cons_zero, List.getElem?_cons_succ, List.set_cons_zero, List.set_cons_succ, Bool.not_true, Bool.not_false, if_true, hg]
      have e2 : decide ((l.length : Int) ≤ 200) = decide (l.length ≤ 200) := by
        by_cases q : l.length ≤ 200
        · rw [decide_eq_true q, decide_eq_true (by omega)]
        · rw [decide_eq_false q, decide_eq_false (by omega)]
      rw [e2]
      cases h2 : decide (l.length ≤ 200) with
      | false => simp only [v_maxd, v_dict, v_dget, x_dput, x_par, par_k, i_rngD, i_zip, v_agen, v_glob, v_chain, v_isx, x_raise, x_kept, x_nil, x_cons, x_set, x_unp, x_sets, x_expr, x_ret, x_pass, x_brk, x_cont, x_ite, x_for, x_whl, v_bl, v_int, v_str, v_ty, v_non, v_var, v_tup, v_lst, v_bin, v_neg, v_not, v_cmp, v_and, v_or, v_ife, v_call, v_blt, v_mth, v_sub, v_slc, v_comp, o_none, o_some, s_nil, s_cons, i_seq, i_rng1, i_rng2, i_enum, nx_nx, nx_rt, nx_bk, nx_ct, ite_t, ite_f, and_t, and_f, or_t, or_f, R.bind_ok, R.bind_assoc, ofO_some, tr_b, optI_i, itm_t, itm_l, seqL_l, gdOf_tup, gdOf_lst, neg_i, aug_i, add_i, sub_i, slc_t, slc_l, add_l, len_t, len_l, list_t, list_l, tuple_l, max_i, ls_i, le_i, gt_i, ge_i, sub_t, sub_l, List.getElem?_cons_zero, List.getElem?_cons_succ, List.set_cons_zero, List.set_cons_succ, Bool.not_true, Bool.not_false, Bool.false_and, Bool.true_and]
      | true => simp only [v_maxd, v_dict, v_dget, x_dput, x_par, par_k, i_rngD, i_zip, v_agen, v_glob, v_chain, v_isx, x_raise, x_kept, x_nil, x_cons, x_set, x_unp, x_sets, x_expr, x_ret, x_pass, x_brk, x_cont, x_ite, x_for, x_whl, v_bl, v_int, v_str, v_ty, v_non, v_var, v_tup, v_lst, v_bin, v_neg, v_not, v_cmp, v_and, v_or, v_ife, v_call, v_blt, v_mth, v_sub, v_slc, v_comp, o_none, o_some, s_nil, s_cons, i_seq, i_rng1, i_rng2, i_enum, nx_nx, nx_rt, nx_bk, nx_ct, ite_t, ite_f, and_t, and_f, or_t, or_f, R.bind_ok, R.bind_assoc, ofO_some, tr_b, optI_i, itm_t, itm_l, seqL_l, gdOf_tup, gdOf_lst, neg_i, aug_i, add_i, sub_i, slc_t, slc_l, add_l, len_t, len_l, list_t, list_l, tuple_l, max_i, ls_i, le_i, gt_i, ge_i, sub_t, sub_l, List.getElem?_cons_zero, List.getElem?_cons_succ, List.set_cons_zero, List.set_cons_succ, Bool.not_true, Bool.not_false, Bool.true_and, z]
  | _ => first | (simp [pl] at h; done) | (simp only [isTup, trs, v_maxd, v_dict, v_dget, x_dput, x_par, par_k, i_rngD, i_zip, v_agen, v_glob, v_chain, v_isx, x_raise, x_kept, x_nil, x_cons, x_set, x_unp, x_sets, x_expr, x_ret, x_pass, x_brk, x_cont, x_ite, x_for, x_whl, v_bl, v_int, v_str, v_ty, v_non, v_var, v_tup, v_lst, v_bin, v_neg, v_not, v_cmp, v_and, v_or, v_ife, v_call, v_blt, v_mth, v_sub, v_slc, v_comp, o_none, o_some, s_nil, s_cons, i_seq, i_rng1, i_rng2, i_enum, nx_nx, nx_rt, nx_bk, nx_ct, ite_t, ite_f, and_t, and_f, or_t, or_f, R.bind_ok, R.bind_assoc, ofO_some, tr_b, optI_i, itm_t, itm_l, seqL_l, gdOf_tup, gdOf_lst, neg_i, aug_i, add_i, sub_i, slc_t, slc_l, add_l, len_t, len_l, list_t, list_l, tuple_l, max_i, ls_i, le_i, gt_i, ge_i, sub_t, sub_l, List.getElem?_cons_zero, List.getElem?_cons_succ, List.set_cons_zero, List.set_cons_succ, Bool.not_true, Bool.not_false]; done)
def lop (a b : Nat) : D → Bool
  | .tup [x, y] => trs a b 0 x && trs a b 1 y
  | _ => false
theorem c_isloop (k : Nat) (S : Store) (A B : List D) (hA : A.length ≤ 1000) (hB : B.length ≤ 1000) (d : D) (h : pl d = true) : CC (k + 6) "is_loop" [brdD A B, d] S = .ok (.bl (lop A.length B.length d)) S := by
  show leave .pure S (exB Gs 1000000 (CC (k + 5)) d_is_loop.body [some (brdD A B), some d] S) = _
  refine lv_ok ?_ (by simp [below])
  simp only [d_is_loop, v_maxd, v_dict, v_dget, x_dput, x_par, par_k, i_rngD, i_zip, v_agen, v_glob, v_chain, v_isx, x_raise, x_kept, x_nil, x_cons, x_set, x_unp, x_sets, x_expr, x_ret, x_pass, x_brk, x_cont, x_ite, x_for, x_whl, v_bl, v_int, v_str, v_ty, v_non, v_var, v_tup, v_lst, v_bin, v_neg, v_not, v_cmp, v_and, v_or, v_ife, v_call, v_blt, v_mth, v_sub, v_slc, v_comp, o_none, o_some, s_nil, s_cons, i_seq, i_rng1, i_rng2, i_enum, nx_nx, nx_rt, nx_bk, nx_ct, ite_t, ite_f, and_t, and_f, or_t, or_f, R.bind_ok, R.bind_assoc, ofO_some, tr_b, optI_i, itm_t, itm_l, seqL_l, gdOf_tup, gdOf_lst, neg_i, aug_i, add_i, sub_i, slc_t, slc_l, add_l, len_t, len_l, list_t, list_l, tuple_l, max_i, ls_i, le_i, gt_i, ge_i, sub_t, sub_l, List.getElem?_cons_zero, List.getElem?_cons_succ, List.set_cons_zero, List.set_cons_succ, Bool.not_true, Bool.not_false, isi_tup h]
  cases d with
  | tup l =>
    simp only [isTup, v_maxd, v_dict, v_dget, x_dput, x_par, par_k, i_rngD, i_zip, v_agen, v_glob, v_chain, v_isx, x_raise, x_kept, x_nil, x_cons, x_set, x_unp, x_sets, x_expr, x_ret, x_pass, x_brk, x_cont, x_ite, x_for, x_whl, v_bl, v_int, v_str, v_ty, v_non, v_var, v_tup, v_lst, v_bin, v_neg, v_not, v_cmp, v_and, v_or, v_ife, v_call, v_blt, v_mth, v_sub, v_slc, v_comp, o_none, o_some, s_nil, s_cons, i_seq, i_rng1, i_rng2, i_enum, nx_nx, nx_rt, nx_bk, nx_ct, ite_t, ite_f, and_t, and_f, or_t, or_f, R.bind_ok, R.bind_assoc, ofO_some, tr_b, optI_i, itm_t, itm_l, seqL_l, gdOf_tup, gdOf_lst, neg_i, aug_i, add_i, sub_i, slc_t, slc_l, add_l, len_t, len_l, list_t, list_l, tuple_l, max_i, ls_i, le_i, gt_i, ge_i, sub_t, sub_l, List.getElem?_cons_zero, List.getElem?_cons_succ, List.set_cons_zero, List.set_cons_succ, Bool.not_true, Bool.not_false, ne_i]
    by_cases hl : (l.length : Int) = 2
    · obtain ⟨x, y, rfl⟩ : ∃ x y, l = [x, y] := by
        match l, hl with
        | [x, y], _ => exact ⟨x, y, rfl⟩
        | [], h => exact absurd h (by simp)
        | [x], h => exact absurd h (by simp)
        | x :: y :: z :: r, h => exact absurd h (by simp; omega)
      have hx : pl x = true := pls_all h x (by simp)
      have hy : pl y = true := pls_all h y (by simp)
      simp only [decide_eq_true hl, v_maxd, v_dict, v_dget, x_dput, x_par, par_k, i_rngD, i_zip, v_agen, v_glob, v_chain, v_isx, x_raise, x_kept, x_nil, x_cons, x_set, x_unp, x_sets, x_expr, x_ret, x_pass, x_brk, x_cont, x_ite, x_for, x_whl, v_bl, v_int, v_str, v_ty, v_non, v_var, v_tup, v_lst, v_bin, v_neg, v_not, v_cmp, v_and, v_or, v_ife, v_call, v_blt, v_mth, v_sub, v_slc, v_comp, o_none, o_some, s_nil, s_cons, i_seq, i_rng1, i_rng2, i_enum, nx_nx, nx_rt, nx_bk, nx_ct, ite_t, ite_f, and_t, and_f, or_t, or_f, R.bind_ok, R.bind_assoc, ofO_some, tr_b, optI_i, itm_t, itm_l, seqL_l, gdOf_tup, gdOf_lst, neg_i, aug_i, add_i, sub_i, slc_t, slc_l, add_l, len_t, len_l, list_t, list_l, tuple_l, max_i, ls_i, le_i, gt_i, ge_i, sub_t, sub_l, List.getElem?_cons_zero, List.getElem?_cons_succ, List.set_cons_zero, List.set_cons_succ, Bool.not_true, Bool.not_false, at2_0, at2_1, c_turns_ k S A B hA hB _ x hx, c_turns_ k S A B hA hB _ y hy, lop]
      cases hb : trs A.length B.length 0 x <;> simp only [v_maxd, v_dict, v_dget, x_dput, x_par, par_k, i_rngD, i_zip, v_agen, v_glob, v_chain, v_isx, x_raise, x_kept, x_nil, x_cons, x_set, x_unp, x_sets, x_expr, x_ret, x_pass, x_brk, x_cont, x_ite, x_for, x_whl, v_bl, v_int, v_str, v_ty, v_non, v_var, v_tup, v_lst, v_bin, v_neg, v_not, v_cmp, v_and, v_or, v_ife, v_call, v_blt, v_mth, v_sub, v_slc, v_comp, o_none, o_some, s_nil, s_cons, i_seq, i_rng1, i_rng2, i_enum, nx_nx, nx_rt, nx_bk, nx_ct, ite_t, ite_f, and_t, and_f, or_t, or_f, R.bind_ok, R.bind_assoc, ofO_some, tr_b, optI_i, itm_t, itm_l, seqL_l, gdOf_tup, gdOf_lst, neg_i, aug_i, add_i, sub_i, slc_t, slc_l, add_l, len_t, len_l, list_t, list_l, tuple_l, max_i, ls_i, le_i, gt_i, ge_i, sub_t, sub_l, List.getElem?_cons_zero, List.getElem?_cons_succ, List.set_cons_zero, List.set_cons_succ, Bool.not_true, Bool.not_false, Bool.false_and, Bool.true_and, at2_1, c_turns_ k S A B hA hB _ y hy]
    · have e : lop A.length B.length (.tup l) = false := by
        unfold lop
        split
        · rename_i x y e
          cases e
          exact absurd rfl hl
        · rfl
      simp only [decide_eq_false hl, v_maxd, v_dict, v_dget, x_dput, x_par, par_k, i_rngD, i_zip, v_agen, v_glob, v_chain, v_isx, x_raise, x_kept, x_nil, x_cons, x_set, x_unp, x_sets, x_expr, x_ret, x_pass, x_brk, x_cont, x_ite, x_for, x_whl, v_bl, v_int, v_str, v_ty, v_non, v_var, v_tup, v_lst, v_bin, v_neg, v_not, v_cmp, v_and, v_or, v_ife, v_call, v_blt, v_mth, v_sub, v_slc, v_comp, o_none, o_some, s_nil, s_cons, i_seq, i_rng1, i_rng2, i_enum, nx_nx, nx_rt, nx_bk, nx_ct, ite_t, ite_f, and_t, and_f, or_t, or_f, R.bind_ok, R.bind_assoc, ofO_some, tr_b, optI_i, itm_t, itm_l, seqL_l, gdOf_tup, gdOf_lst, neg_i, aug_i, add_i, sub_i, slc_t, slc_l, add_l, len_t, len_l, list_t, list_l, tuple_l, max_i, ls_i, le_i, gt_i, ge_i, sub_t, sub_l, List.getElem?_cons_zero, List.getElem?_cons_succ, List.set_cons_zero, List.set_cons_succ, Bool.not_true, Bool.not_false, e]
  | _ => first | (simp [pl] at h; done) | (simp only [isTup, lop, v_maxd, v_dict, v_dget, x_dput, x_par, par_k, i_rngD, i_zip, v_agen, v_glob, v_chain, v_isx, x_raise, x_kept, x_nil, x_cons, x_set, x_unp, x_sets, x_expr, x_ret, x_pass, x_brk, x_cont, x_ite, x_for, x_whl, v_bl, v_int, v_str, v_ty, v_non, v_var, v_tup, v_lst, v_bin, v_neg, v_not, v_cmp, v_and, v_or, v_ife, v_call, v_blt, v_mth, v_sub, v_slc, v_comp, o_none, o_some, s_nil, s_cons, i_seq, i_rng1, i_rng2, i_enum, nx_nx, nx_rt, nx_bk, nx_ct, ite_t, ite_f, and_t, and_f, or_t, or_f, R.bind_ok, R.bind_assoc, ofO_some, tr_b, optI_i, itm_t, itm_l, seqL_l, gdOf_tup, gdOf_lst, neg_i, aug_i, add_i, sub_i, slc_t, slc_l, add_l, len_t, len_l, list_t, list_l, tuple_l, max_i, ls_i, le_i, gt_i, ge_i, sub_t, sub_l, List.getElem?_cons_zero, List.getElem?_cons_succ, List.set_cons_zero, List.set_cons_succ, Bool.not_true, Bool.not_false]; done)
end K23

/-! K23x: along an endless row a wish's values go on alike from as many rounds on as looks stand within one another. -/
namespace K23
/-- since, along an endless row -/
def sinI (a b : Nat → Bool) : Nat → Bool
  | 0 => b 0
  | k + 1 => b (k + 1) || (a (k + 1) && sinI a b k)
def wasI (a : Nat → Bool) : Nat → Bool
  | 0 => a 0
  | k + 1 => a (k + 1) || wasI a k
def befI (a : Nat → Bool) : Nat → Bool
  | 0 => false
  | k + 1 => a k
def vI (f : PySem.Str → Nat → Bool) : W → Nat → Bool
  | .yes => fun _ => true
  | .no => fun _ => false
  | .sg x => f x
  | .nt a => fun k => !vI f a k
  | .an a b => fun k => vI f a k && vI f b k
  | .or a b => fun k => vI f a k || vI f b k
  | .bf a => befI (vI f a)
  | .ws a => wasI (vI f a)
  | .si a b => sinI (vI f a) (vI f b)
/-- how many looks stand within one another -/
def ld : W → Nat
  | .yes | .no | .sg _ => 0
  | .nt a => ld a
  | .an a b | .or a b => max (ld a) (ld b)
  | .bf a | .ws a => ld a + 1
  | .si a b => max (ld a) (ld b) + 1
def Per (s p : Nat) (g : Nat → Bool) : Prop := ∀ k, s ≤ k → g (k + p) = g k
theorem Per.mono {s s' p : Nat} {g : Nat → Bool} (h : Per s p g) (hs : s ≤ s') : Per s' p g := fun k hk => h k (Nat.le_trans hs hk)
theorem wasI_iff {a : Nat → Bool} : ∀ k, wasI a k = true ↔ ∃ j, j ≤ k ∧ a j = true
  | 0 => by
    simp only [wasI, Nat.le_zero]
    exact ⟨fun h => ⟨0, rfl, h⟩, fun ⟨j, e, h⟩ => by rw [← e]; exact h⟩
  | k + 1 => by
    simp only [wasI, Bool.or_eq_true, wasI_iff k]
    constructor
    · rintro (h | ⟨j, hj, h⟩)
      · exact ⟨k + 1, Nat.le_refl _, h⟩
      · exact ⟨j, by omega, h⟩
    · rintro ⟨j, hj, h⟩
      by_cases e : j = k + 1
      · subst e; exact .inl h
      · exact .inr ⟨j, by omega, h⟩
theorem Per.was {s p : Nat} {a : Nat → Bool} (h : Per s p a) : Per (s + p) p (wasI a) := fun k hk => by
  rw [Bool.eq_iff_iff, wasI_iff, wasI_iff]
  constructor
  · rintro ⟨j, hj, ha⟩
    by_cases e : j ≤ k
    · exact ⟨j, e, ha⟩
    · have := h (j - p) (by omega)
      rw [show j - p + p = j by omega] at this
      exact ⟨j - p, by omega, by rw [← this]; exact ha⟩
  · rintro ⟨j, hj, ha⟩
    exact ⟨j, by omega, ha⟩
theorem Per.bef {s p : Nat} {a : Nat → Bool} (hp : 1 ≤ p) (h : Per s p a) : Per (s + p) p (befI a) := fun k hk => by
  cases k with
  | zero => omega
  | succ k =>
    rw [show k + 1 + p = (k + p) + 1 by omega]
    exact h k (by omega)
theorem sinI_next {a b : Nat → Bool} (k : Nat) (hk : 1 ≤ k) : sinI a b k = (b k || (a k && sinI a b (k - 1))) := by
  cases k with
  | zero => omega
  | succ k => rfl
theorem sinI_hit {a b : Nat → Bool} (k : Nat) (hk : 1 ≤ k) (h : b k = true ∨ a k = false) : sinI a b k = b k := by
  rw [sinI_next k hk]
  rcases h with h | h <;> simp [h]
theorem Per.sin {s p : Nat} {a b : Nat → Bool} (hp : 1 ≤ p) (ha : Per s p a) (hb : Per s p b) : Per (s + p) p (sinI a b) := fun k hk => by
  by_cases h : ∃ j, k - p < j ∧ j ≤ k ∧ (b j = true ∨ a j = false)
  · obtain ⟨j, h1, h2, h3⟩ := h
    have e0 : sinI a b (j + p) = sinI a b j := by
      rw [sinI_hit j (by omega) h3, sinI_hit (j + p) (by omega) (by rw [ha j (by omega), hb j (by omega)]; exact h3), hb j (by omega)]
    have go : ∀ i, sinI a b (j + i + p) = sinI a b (j + i) := fun i => by
      induction i with
      | zero => exact e0
      | succ i ih =>
        rw [show j + (i + 1) + p = (j + i + p) + 1 by omega, show j + (i + 1) = (j + i) + 1 by omega]
        simp only [sinI, ih]
        have qa := ha (j + i + 1) (by omega)
        have qb := hb (j + i + 1) (by omega)
        rw [show j + i + 1 + p = j + i + p + 1 by omega] at qa qb
        rw [qa, qb]
    have := go (k - j)
    rwa [show j + (k - j) = k by omega] at this
  · have no : ∀ j, k < j → j ≤ k + p → b j = false ∧ a j = true := fun j h1 h2 => by
      have qa := ha (j - p) (by omega)
      have qb := hb (j - p) (by omega)
      rw [show j - p + p = j by omega] at qa qb
      rw [qa, qb]
      refine ⟨?_, ?_⟩
      · cases e : b (j - p) with
        | false => rfl
        | true => exact absurd ⟨j - p, by omega, by omega, .inl e⟩ h
      · cases e : a (j - p) with
        | true => rfl
        | false => exact absurd ⟨j - p, by omega, by omega, .inr e⟩ h
    have go : ∀ i, i ≤ p → sinI a b (k + i) = sinI a b k := fun i => by
      induction i with
      | zero => intro _; rfl
      | succ i ih =>
        intro hi
        obtain ⟨n1, n2⟩ := no (k + i + 1) (by omega) (by omega)
        rw [show k + (i + 1) = (k + i) + 1 by omega]
        simp only [sinI, n1, n2, Bool.false_or, Bool.true_and]
        exact ih (by omega)
    exact go p (Nat.le_refl _)
/-- from as many rounds on as looks stand within one another -/
theorem per_vI {s p : Nat} (hp : 1 ≤ p) {f : PySem.Str → Nat → Bool} (hf : ∀ x, Per s p (f x)) : ∀ w : W, Per (s + ld w * p) p (vI f w)
  | .yes => fun _ _ => rfl
  | .no => fun _ _ => rfl
  | .sg x => (hf x).mono (by omega)
  | .nt a => fun k hk => by
    have := per_vI hp hf a k hk
    simp only [vI, this]
  | .an a b => fun k hk => by
    have m1 : ld a * p ≤ max (ld a) (ld b) * p := Nat.mul_le_mul_right _ (Nat.le_max_left _ _)
    have m2 : ld b * p ≤ max (ld a) (ld b) * p := Nat.mul_le_mul_right _ (Nat.le_max_right _ _)
    have hk : s + max (ld a) (ld b) * p ≤ k := hk
    simp only [vI, per_vI hp hf a k (by omega), per_vI hp hf b k (by omega)]
  | .or a b => fun k hk => by
    have m1 : ld a * p ≤ max (ld a) (ld b) * p := Nat.mul_le_mul_right _ (Nat.le_max_left _ _)
    have m2 : ld b * p ≤ max (ld a) (ld b) * p := Nat.mul_le_mul_right _ (Nat.le_max_right _ _)
    have hk : s + max (ld a) (ld b) * p ≤ k := hk
    simp only [vI, per_vI hp hf a k (by omega), per_vI hp hf b k (by omega)]
  | .bf a => by
    have := (per_vI hp hf a).bef hp
    refine this.mono ?_
    show s + ld a * p + p ≤ s + (ld a + 1) * p
    rw [Nat.add_mul]; omega
  | .ws a => by
    have := (per_vI hp hf a).was
    refine this.mono ?_
    show s + ld a * p + p ≤ s + (ld a + 1) * p
    rw [Nat.add_mul]; omega
  | .si a b => by
    have m1 : ld a * p ≤ max (ld a) (ld b) * p := Nat.mul_le_mul_right _ (Nat.le_max_left _ _)
    have m2 : ld b * p ≤ max (ld a) (ld b) * p := Nat.mul_le_mul_right _ (Nat.le_max_right _ _)
    have := Per.sin hp ((per_vI hp hf a).mono (s' := s + max (ld a) (ld b) * p) (by omega)) ((per_vI hp hf b).mono (s' := s + max (ld a) (ld b) * p) (by omega))
    refine this.mono ?_
    show s + max (ld a) (ld b) * p + p ≤ s + (max (ld a) (ld b) + 1) * p
    rw [Nat.add_mul]; omega
theorem sin_was {a : Nat → Bool} : sinI (fun _ => true) a = wasI a := funext fun k => by
  induction k with
  | zero => rfl
  | succ k ih => simp only [sinI, wasI, ih, Bool.true_and]
/-- the values along a piece of the row are the endless row's -/
theorem sinA_I {a b : Nat → Bool} (n : Nat) : sinA false ((List.range n).map a) ((List.range n).map b) = (List.range n).map (sinI a b) := by
  rw [sinA_range (by simp)]
  simp only [List.length_map, List.length_range]
  refine List.map_congr_left fun k hk => ?_
  have hk : k < n := by simpa using hk
  induction k with
  | zero =>
    show (_ || (_ && false)) = sinI a b 0
    rw [List.getD_eq_getElem?_getD, List.getElem?_map, List.getElem?_range hk]
    simp [sinI]
  | succ k ih =>
    show (_ || (_ && sinC false _ _ k)) = sinI a b (k + 1)
    rw [ih (by simp; omega) (by omega), List.getD_eq_getElem?_getD, List.getElem?_map, List.getElem?_range hk, List.getD_eq_getElem?_getD, List.getElem?_map, List.getElem?_range hk]
    rfl
theorem val_I {n : Nat} {f : PySem.Str → Nat → Bool} : ∀ w : W, val n (fun x => (List.range n).map (f x)) w = (List.range n).map (vI f w)
  | .yes => by simp [val, vI, List.map_const']
  | .no => by simp [val, vI, List.map_const']
  | .sg x => rfl
  | .nt a => by
    simp only [val, vI, val_I a, List.map_map]
    rfl
  | .an a b => by
    simp only [val, vI, val_I a, val_I b]
    rw [List.zipWith_map, List.zipWith_self]
  | .or a b => by
    simp only [val, vI, val_I a, val_I b]
    rw [List.zipWith_map, List.zipWith_self]
  | .bf a => by
    simp only [val, vI, val_I a]
    refine List.ext_getElem? fun k => ?_
    by_cases hk : k < n
    · rw [List.getElem?_take_of_lt hk, List.getElem?_map, List.getElem?_range hk]
      cases k with
      | zero => rfl
      | succ k =>
        rw [List.getElem?_cons_succ, List.getElem?_map, List.getElem?_range (by omega)]
        rfl
    · rw [List.getElem?_eq_none (by simp; omega), List.getElem?_eq_none (by simp; omega)]
  | .ws a => by
    simp only [val, vI, val_I a]
    rw [show List.replicate n true = (List.range n).map (fun _ => true) by simp [List.map_const'], sinA_I]
    rw [sin_was]
  | .si a b => by
    simp only [val, vI, val_I a, val_I b]
    rw [sinA_I]
end K23

namespace K23
open PySem Mn
/-! ### more single steps -/
theorem nw_t {S : Store} {x y : Str} (h : (PyData.strOk x && PyData.strOk y && !decide (x = y)) = true) : cmpA .NotEq (.str x) (.str y) S = some true := by
  simp only [Bool.and_eq_true, Bool.not_eq_true'] at h
  rw [ne_g (s_gd h.1.1 64) (s_gd h.1.2 64)]
  simpa using h.2
theorem nw_f {S : Store} {x y : Str} (h : (PyData.strOk x && PyData.strOk y && decide (x = y)) = true) : cmpA .NotEq (.str x) (.str y) S = some false := by
  simp only [Bool.and_eq_true] at h
  rw [ne_g (s_gd h.1.1 64) (s_gd h.1.2 64)]
  simpa using h.2
section
variable {G : Globs} {N : Nat} {call : String → List D → Store → R D} {b : Sts} {e e2 e3 : Mn.Env} {S S1 S2 : Store} {i : Nat}
theorem for_none {tg : Tg} : forB G N call [] tg b [] e S = .ok (.nx e) S := by
  unfold forB forA
  rw [if_pos gdOk_nil]
theorem for_one {d : D} (h : exB G N call b (e.set i (some d)) S = .ok (.nx e2) S1) : forB G N call [] (.nm i) b [d] e S = .ok (.nx e2) S1 := by
  unfold forB
  simp only [forA, gdOk_nil, if_true, asg, h, R.bind_ok]
theorem for_two {d d2 : D} (h : exB G N call b (e.set i (some d)) S = .ok (.nx e2) S1) (h2 : exB G N call b (e2.set i (some d2)) S1 = .ok (.nx e3) S2) : forB G N call [] (.nm i) b [d, d2] e S = .ok (.nx e3) S2 := by
  unfold forB
  simp only [forA, gdOk_nil, if_true, asg, h, h2, R.bind_ok]
end
theorem leave_non {S : Store} {e : Mn.Env} : leave .pure S (.ok (.nx e) S) = .ok .non S := by
  show fin .pure S .non S = _
  unfold fin
  rw [if_pos (oldOk_refl S), outD_below (by simp [below])]
  show R.ok D.non (S.take S.length) = _
  rw [List.take_length]
theorem leave_own {S : Store} {l : List D} (h : belows S.length l = true) : leave .pure S (.ok (.rt (.ref S.length)) (S ++ [.lst l])) = .ok (.lst l) S := by
  show fin .pure S (.ref S.length) (S ++ [.lst l]) = _
  unfold fin
  have o : oldOk S (S ++ [.lst l]) := ⟨by simp, fun i hi => .inl (by simp [List.getElem?_append_left hi])⟩
  have e : outD (S ++ [O.lst l]) S.length (.ref S.length) = some (.lst l) := by
    unfold outD
    rw [if_neg (by simp [below])]
    dsimp only
    rw [get_push]
    dsimp only
    rw [if_pos h]
  rw [if_pos o, e]
  dsimp only
  rw [List.take_left]
theorem blsOf_bls : ∀ l : List Bool, blsOf (bls l) = some l
  | [] => rfl
  | b :: r => by
    have := blsOf_bls r
    simp only [bls] at this
    simp [bls, blsOf, this]
theorem all_bls {v : Bool} {S : Store} {l : List Bool} : bltA v "all" [.lst (bls l)] S = .ok (.bl (l.all id)) S := by
  show (match (seqL S (.lst (bls l))).bind blsOf with | some l => R.ok (D.bl (l.all id)) S | none => .bad) = _
  rw [seqL_l, Option.bind_some, blsOf_bls]
theorem any_bls {v : Bool} {S : Store} {l : List Bool} : bltA v "any" [.lst (bls l)] S = .ok (.bl (l.any id)) S := by
  show (match (seqL S (.lst (bls l))).bind blsOf with | some l => R.ok (D.bl (l.any id)) S | none => .bad) = _
  rw [seqL_l, Option.bind_some, blsOf_bls]
/-! ### loops -/
def rp (n : Nat) (U : List (Int × Int)) : List (Int × Int) := (List.replicate n U).flatten
def lp (F U : List (Int × Int)) (n : Nat) : List (Int × Int) := F ++ rp n U
theorem rp_len (n : Nat) (U : List (Int × Int)) : (rp n U).length = n * U.length := by
  unfold rp
  induction n with
  | zero => simp
  | succ n ih =>
    rw [List.replicate_succ, List.flatten_cons, List.length_append, ih, Nat.succ_mul]
    omega
theorem lp_len (F U : List (Int × Int)) (n : Nat) : (lp F U n).length = F.length + n * U.length := by
  simp [lp, rp_len]
theorem rep_td (n : Nat) (U : List (Int × Int)) : rep (n : Int) (U.map td) = (rp n U).map td := by
  unfold rep rp
  rw [Int.toNat_natCast, List.map_flatten, List.map_replicate]
def LD (F U : List (Int × Int)) : D := .tup [.tup (F.map td), .tup (U.map td)]
def LK (A B : List Str) (F U : List (Int × Int)) : Prop := F.length ≤ 8 ∧ 1 ≤ U.length ∧ U.length ≤ 8 ∧ (∀ t ∈ F, tok A B t) ∧ ∀ t ∈ U, tok A B t
/-- the endless row -/
def row (F U : List (Int × Int)) (k : Nat) : Int × Int := if k < F.length then F.getD k (0, 0) else U.getD ((k - F.length) % U.length) (0, 0)
theorem rp_get {U : List (Int × Int)} (hR : 1 ≤ U.length) : ∀ (n k : Nat), k < n * U.length → (rp n U)[k]? = some (U.getD (k % U.length) (0, 0))
  | 0, k, h => by omega
  | n + 1, k, h => by
    have e : rp (n + 1) U = U ++ rp n U := by simp [rp, List.replicate_succ]
    rw [e]
    by_cases hk : k < U.length
    · rw [List.getElem?_append_left hk, Nat.mod_eq_of_lt hk, List.getD_eq_getElem?_getD, List.getElem?_eq_getElem hk]
      rfl
    · rw [Nat.succ_mul] at h
      rw [List.getElem?_append_right (by omega), rp_get hR n (k - U.length) (by omega)]
      congr 2
      rw [← Nat.mod_eq_sub_mod (by omega)]
theorem lp_get {F U : List (Int × Int)} (hR : 1 ≤ U.length) (n k : Nat) (h : k < (lp F U n).length) : (lp F U n)[k]? = some (row F U k) := by
  rw [lp_len] at h
  unfold lp row
  by_cases hk : k < F.length
  · rw [List.getElem?_append_left hk, if_pos hk, List.getD_eq_getElem?_getD, List.getElem?_eq_getElem hk]
    rfl
  · rw [List.getElem?_append_right (by omega), if_neg hk, rp_get hR n (k - F.length) (by omega)]
theorem row_per {F U : List (Int × Int)} (k : Nat) (h : F.length ≤ k) : row F U (k + U.length) = row F U k := by
  unfold row
  rw [if_neg (by omega), if_neg (by omega), show k + U.length - F.length = (k - F.length) + U.length by omega, Nat.add_mod_right]
def sgI (A B : List Str) (F U : List (Int × Int)) (x : Str) (k : Nat) : Bool := bit (row F U k) (decide (x ∈ B)) (if x ∈ B then B.idxOf x else A.idxOf x)
theorem sgv_I {A B : List Str} {F U : List (Int × Int)} (hR : 1 ≤ U.length) (n : Nat) : sgv A B (lp F U n) = fun x => (List.range (lp F U n).length).map (sgI A B F U x) := by
  funext x
  unfold sgv
  refine List.ext_getElem? fun k => ?_
  rw [List.getElem?_map, List.getElem?_map]
  by_cases hk : k < (lp F U n).length
  · rw [lp_get hR n k hk, List.getElem?_range hk]
    rfl
  · rw [List.getElem?_eq_none (by omega), List.getElem?_eq_none (by simp; omega)]
    rfl
theorem sg_per {A B : List Str} {F U : List (Int × Int)} (x : Str) : Per F.length U.length (sgI A B F U x) := fun k hk => by
  unfold sgI
  rw [row_per k hk]
/-- the values of the endless row -/
abbrev HI (A B : List Str) (F U : List (Int × Int)) (w : W) : Nat → Bool := vI (sgI A B F U) w
theorem PV_I {A B : List Str} {F U : List (Int × Int)} (hR : 1 ≤ U.length) (n : Nat) (w : W) : PV A B (lp F U n) w = (List.range (lp F U n).length).map (HI A B F U w) := by
  show val (lp F U n).length (sgv A B (lp F U n)) w = _
  rw [sgv_I hR n]
  exact val_I w
theorem HI_per {A B : List Str} {F U : List (Int × Int)} (hR : 1 ≤ U.length) (w : W) : Per (F.length + ld w * U.length) U.length (HI A B F U w) :=
  per_vI hR (fun x => sg_per x) w
theorem per_all {s p : Nat} {g : Nat → Bool} (hp : 1 ≤ p) (h : Per s p g) (n : Nat) (hn : s + p ≤ n) (ha : ∀ k, k < n → g k = true) : ∀ k, g k = true := fun k => by
  induction k using Nat.strongRecOn with
  | _ k ih =>
    by_cases hk : k < n
    · exact ha k hk
    · have := h (k - p) (by omega)
      rw [show k - p + p = k by omega] at this
      rw [this]
      exact ih (k - p) (by omega)
theorem per_mul {s p : Nat} {g : Nat → Bool} (h : Per s p g) (k : Nat) (hk : s ≤ k) : ∀ j, g (k + j * p) = g k
  | 0 => by simp
  | j + 1 => by
    rw [Nat.succ_mul, ← Nat.add_assoc, h (k + j * p) (by omega), per_mul h k hk j]
theorem per_win {s p : Nat} {g : Nat → Bool} (hp : 1 ≤ p) (h : Per s p g) (m : Nat) (hm : s ≤ m) (k : Nat) (hk : s ≤ k) (hg : g k = true) : ∃ j, m ≤ j ∧ j < m + p ∧ g j = true := by
  have hle : m ≤ k + m * p := by
    have : m * 1 ≤ m * p := Nat.mul_le_mul_left _ hp
    omega
  have e := Nat.div_add_mod (k + m * p - m) p
  have hr := Nat.mod_lt (k + m * p - m) (show 0 < p by omega)
  refine ⟨m + (k + m * p - m) % p, by omega, by omega, ?_⟩
  have e1 := per_mul h k hk m
  have e2 := per_mul h (m + (k + m * p - m) % p) (by omega) ((k + m * p - m) / p)
  have e3 : m + (k + m * p - m) % p + (k + m * p - m) / p * p = k + m * p := by
    rw [Nat.mul_comm ((k + m * p - m) / p) p]
    omega
  rw [e3, e1, hg] at e2
  exact e2.symm
/-- it holds always; again -/
def alw (g : Nat → Bool) : Prop := ∀ k, g k = true
def agn (s : Nat) (g : Nat → Bool) : Prop := ∃ k, s ≤ k ∧ g k = true
theorem all_rng {g : Nat → Bool} {n : Nat} : ((List.range n).map g).all id = true ↔ ∀ k, k < n → g k = true := by
  simp
theorem any_rng {g : Nat → Bool} {n m : Nat} : (((List.range n).map g).drop m).any id = true ↔ ∃ k, m ≤ k ∧ k < n ∧ g k = true := by
  rw [List.any_eq_true]
  constructor
  · rintro ⟨b, hb, hb2⟩
    obtain ⟨i, hi⟩ := List.getElem?_of_mem hb
    rw [List.getElem?_drop, List.getElem?_map] at hi
    by_cases h : m + i < n
    · rw [List.getElem?_range h] at hi
      cases hi
      exact ⟨m + i, by omega, h, hb2⟩
    · rw [List.getElem?_eq_none (by simp; omega)] at hi
      cases hi
  · rintro ⟨k, h1, h2, h3⟩
    refine ⟨g k, List.mem_of_getElem? (i := k - m) ?_, h3⟩
    rw [List.getElem?_drop, List.getElem?_map, show m + (k - m) = k by omega, List.getElem?_range h2]
    rfl
theorem all_same {s p n n' : Nat} {g : Nat → Bool} (hp : 1 ≤ p) (h : Per s p g) (hn : s + p ≤ n) (hn' : s + p ≤ n') : ((List.range n).map g).all id = ((List.range n').map g).all id := by
  rw [Bool.eq_iff_iff, all_rng, all_rng]
  exact ⟨fun z k _ => per_all hp h n hn z k, fun z k _ => per_all hp h n' hn' z k⟩
theorem any_same {s p n n' : Nat} {g : Nat → Bool} (hp : 1 ≤ p) (h : Per s p g) (hn : s + p ≤ n) (hn' : s + p ≤ n') : (((List.range n).map g).drop (n - p)).any id = (((List.range n').map g).drop (n' - p)).any id := by
  rw [Bool.eq_iff_iff, any_rng, any_rng]
  constructor
  · rintro ⟨k, h1, h2, h3⟩
    obtain ⟨j, j1, j2, j3⟩ := per_win hp h (n' - p) (by omega) k (by omega) h3
    exact ⟨j, j1, by omega, j3⟩
  · rintro ⟨k, h1, h2, h3⟩
    obtain ⟨j, j1, j2, j3⟩ := per_win hp h (n - p) (by omega) k (by omega) h3
    exact ⟨j, j1, by omega, j3⟩
/-! ### the program -/
theorem need_ok {A B : List Str} {F U : List (Int × Int)} (hb : Bd A B) (hl : LK A B F U) (k : Nat) (S : Store) : CC (k + 7) "need_loop" [brd A B, LD F U] S = .ok .non S := by
  rw [show CC (k + 7) "need_loop" [brd A B, LD F U] S = _ from call_step (k := k + 6) (d := d_need_loop) rfl rfl]
  show leave .pure S (exB Gs 1000000 (CC (k + 6)) d_need_loop.body [some (brd A B), some (LD F U)] S) = _
  have tp : ∀ T : List (Int × Int), pl (.tup (T.map td)) = true := fun T => by
    show pls (T.map td) = true
    exact pls_of fun d hd => by
      obtain ⟨t, _, rfl⟩ := List.mem_map.mp hd
      rfl
  have tr : ∀ (T : List (Int × Int)) (m : Int), (∀ t ∈ T, tok A B t) → m ≤ T.length → T.length ≤ 200 → trs (A.map D.str).length (B.map D.str).length m (.tup (T.map td)) = true := fun T m h1 h2 h3 => by
    unfold trs
    rw [Bool.and_eq_true, Bool.and_eq_true]
    refine ⟨decide_eq_true (by rw [List.length_map]; exact h2), decide_eq_true (by rw [List.length_map]; exact h3), ?_⟩
    rw [List.all_eq_true]
    intro d hd
    obtain ⟨t, ht, rfl⟩ := List.mem_map.mp hd
    obtain ⟨a, b, c, e⟩ := h1 t ht
    simp only [td, trn, blw, List.length_map, Bool.and_eq_true, decide_eq_true_eq]
    exact ⟨⟨a, b⟩, c, e⟩
  have z : CC (k + 6) "is_loop" [brd A B, LD F U] S = .ok (.bl true) S := by
    have h := c_isloop k S (A.map .str) (B.map .str) (by have := hb.la; simp; omega) (by have := hb.lb; simp; omega) (LD F U) (by
      show (pl (.tup (F.map td)) && (pl (.tup (U.map td)) && true)) = true
      rw [tp, tp]; rfl)
    have e : lop (A.map D.str).length (B.map D.str).length (LD F U) = true := by
      show (trs _ _ 0 _ && trs _ _ 1 _) = true
      rw [tr F 0 hl.2.2.2.1 (by omega) (by have := hl.1; omega), tr U 1 hl.2.2.2.2 (by have := hl.2.1; omega) (by have := hl.2.2.1; omega)]
      rfl
    rw [e] at h
    exact h
  simp only [d_need_loop, v_maxd, v_dict, v_dget, x_dput, x_par, par_k, i_rngD, i_zip, v_agen, v_glob, v_chain, v_isx, x_raise, x_kept, x_nil, x_cons, x_set, x_unp, x_sets, x_expr, x_ret, x_pass, x_brk, x_cont, x_ite, x_for, x_whl, v_bl, v_int, v_str, v_ty, v_non, v_var, v_tup, v_lst, v_bin, v_neg, v_not, v_cmp, v_and, v_or, v_ife, v_call, v_blt, v_mth, v_sub, v_slc, v_comp, o_none, o_some, s_nil, s_cons, i_seq, i_rng1, i_rng2, i_enum, nx_nx, nx_rt, nx_bk, nx_ct, ite_t, ite_f, and_t, and_f, or_t, or_f, R.bind_ok, R.bind_assoc, ofO_some, tr_b, optI_i, itm_t, itm_l, seqL_l, gdOf_tup, gdOf_lst, neg_i, aug_i, add_i, sub_i, slc_t, slc_l, add_l, len_t, len_l, list_t, list_l, tuple_l, max_i, ls_i, le_i, gt_i, ge_i, sub_t, sub_l, List.getElem?_cons_zero, List.getElem?_cons_succ, List.set_cons_zero, List.set_cons_succ, Bool.not_true, Bool.not_false, z]
  exact leave_non
theorem isl_in {S : Store} {x : Str} (h : PyData.strOk x = true) : cmpA .In (.str x) (.tup [.str "before", .str "was", .str "since"]) S = some (decide (x = "before" ∨ x = "was" ∨ x = "since")) := by
  rw [in_t (s_gd h 63) (by decide +kernel)]
  congr 1
  rw [Bool.eq_iff_iff]
  simp
def W.wd : W → Str
  | .yes => "yes" | .no => "no" | .sg _ => "sign" | .nt _ => "not" | .an _ _ => "and" | .or _ _ => "or" | .bf _ => "before" | .ws _ => "was" | .si _ _ => "since"
def W.isl : W → Bool
  | .bf _ | .ws _ | .si _ _ => true
  | _ => false
theorem W.wd_ok (w : W) : PyData.strOk w.wd = true := by cases w <;> (simp only [W.wd]; decide +kernel)
theorem W.isl_wd (w : W) : decide (w.wd = "before" ∨ w.wd = "was" ∨ w.wd = "since") = w.isl := by cases w <;> (simp only [W.wd, W.isl]; first | exact decide_eq_true (by decide +kernel) | exact decide_eq_false (by decide +kernel))
theorem W.at0 (w : W) (S : Store) : subA S w.d (.int 0) = some (.str w.wd) := by cases w <;> rfl
theorem c_islook (k : Nat) (S : Store) (w : W) : CC (k + 1) "is_look" [w.d] S = .ok (.bl w.isl) S := by
  rw [show CC (k + 1) "is_look" [w.d] S = _ from call_step (k := k) (d := d_is_look) rfl rfl]
  show leave .pure S (exB Gs 1000000 (CC k) d_is_look.body [some w.d] S) = _
  have g : Gs "LOOKS_BACK" = some (.tup [.str "before", .str "was", .str "since"]) := rfl
  simp only [d_is_look, v_maxd, v_dict, v_dget, x_dput, x_par, par_k, i_rngD, i_zip, v_agen, v_glob, v_chain, v_isx, x_raise, x_kept, x_nil, x_cons, x_set, x_unp, x_sets, x_expr, x_ret, x_pass, x_brk, x_cont, x_ite, x_for, x_whl, v_bl, v_int, v_str, v_ty, v_non, v_var, v_tup, v_lst, v_bin, v_neg, v_not, v_cmp, v_and, v_or, v_ife, v_call, v_blt, v_mth, v_sub, v_slc, v_comp, o_none, o_some, s_nil, s_cons, i_seq, i_rng1, i_rng2, i_enum, nx_nx, nx_rt, nx_bk, nx_ct, ite_t, ite_f, and_t, and_f, or_t, or_f, R.bind_ok, R.bind_assoc, ofO_some, tr_b, optI_i, itm_t, itm_l, seqL_l, gdOf_tup, gdOf_lst, neg_i, aug_i, add_i, sub_i, slc_t, slc_l, add_l, len_t, len_l, list_t, list_l, tuple_l, max_i, ls_i, le_i, gt_i, ge_i, sub_t, sub_l, List.getElem?_cons_zero, List.getElem?_cons_succ, List.set_cons_zero, List.set_cons_succ, Bool.not_true, Bool.not_false, w.at0, g, isl_in w.wd_ok, W.isl_wd]
  exact leave_same (by simp [below])
theorem mx0 {S : Store} : maxdA S (.lst []) (.int 0) = some (.int 0) := rfl
theorem mx1 {S : Store} {n : Nat} : maxdA S (.lst [.int (n : Int)]) (.int 0) = some (.int (n : Int)) := rfl
theorem mx2 {S : Store} {n m : Nat} : maxdA S (.lst [.int (n : Int), .int (m : Int)]) (.int 0) = some (.int ((max n m : Nat) : Int)) := by
  show some (D.int (max (n : Int) (m : Int))) = _
  congr 2
  omega
theorem c_deep : ∀ (w : W) (k : Nat) (S : Store), CC (k + w.dep + 1) "looks_deep" [w.d] S = .ok (.int (ld w : Nat)) S := by
  have c0 : ∀ (G : Globs) (call : String → List D → Store → R D) (i : Nat) (t : E) (e0 : Mn.Env) (S : Store), cmpB G call [] (.nm i) .none t e0 [] S = .ok [] S := fun G call i t e0 S => by
    unfold cmpB compA
    rw [if_pos gdOk_nil]
  have st : ∀ (w : W) (K : Nat) (S : Store) (n : Int), exB Gs 1000000 (CC K) d_looks_deep.body [some w.d, none, none] S = .ok (.rt (.int n)) S →
      CC (K + 1) "looks_deep" [w.d] S = .ok (.int n) S := fun w K S n h => by
    rw [show CC (K + 1) "looks_deep" [w.d] S = _ from call_step (k := K) (d := d_looks_deep) rfl rfl]
    show leave .pure S (exB Gs 1000000 (CC K) d_looks_deep.body [some w.d, none, none] S) = _
    rw [h]
    exact leave_same (by simp [below])
  have lf : ∀ (w : W) (k : Nat) (S : Store), (match w with | .yes | .no | .sg _ => True | _ => False) → CC (k + w.dep + 1) "looks_deep" [w.d] S = .ok (.int (ld w : Nat)) S := fun w k S hw => by
    refine st w _ S _ ?_
    have ci := c_inner k S w
    have il := c_islook k S w
    cases w <;> first | (exact hw.elim) | skip
    all_goals
      simp only [W.dep] at ci il ⊢
      simp only [d_looks_deep, v_maxd, v_dict, v_dget, x_dput, x_par, par_k, i_rngD, i_zip, v_agen, v_glob, v_chain, v_isx, x_raise, x_kept, x_nil, x_cons, x_set, x_unp, x_sets, x_expr, x_ret, x_pass, x_brk, x_cont, x_ite, x_for, x_whl, v_bl, v_int, v_str, v_ty, v_non, v_var, v_tup, v_lst, v_bin, v_neg, v_not, v_cmp, v_and, v_or, v_ife, v_call, v_blt, v_mth, v_sub, v_slc, v_comp, o_none, o_some, s_nil, s_cons, i_seq, i_rng1, i_rng2, i_enum, nx_nx, nx_rt, nx_bk, nx_ct, ite_t, ite_f, and_t, and_f, or_t, or_f, R.bind_ok, R.bind_assoc, ofO_some, tr_b, optI_i, itm_t, itm_l, seqL_l, gdOf_tup, gdOf_lst, neg_i, aug_i, add_i, sub_i, slc_t, slc_l, add_l, len_t, len_l, list_t, list_l, tuple_l, max_i, ls_i, le_i, gt_i, ge_i, sub_t, sub_l, List.getElem?_cons_zero, List.getElem?_cons_succ, List.set_cons_zero, List.set_cons_succ, Bool.not_true, Bool.not_false, ci, c0]
      rw [mkL_v (sz (by simp)), R.bind_ok]
      simp only [v_maxd, v_dict, v_dget, x_dput, x_par, par_k, i_rngD, i_zip, v_agen, v_glob, v_chain, v_isx, x_raise, x_kept, x_nil, x_cons, x_set, x_unp, x_sets, x_expr, x_ret, x_pass, x_brk, x_cont, x_ite, x_for, x_whl, v_bl, v_int, v_str, v_ty, v_non, v_var, v_tup, v_lst, v_bin, v_neg, v_not, v_cmp, v_and, v_or, v_ife, v_call, v_blt, v_mth, v_sub, v_slc, v_comp, o_none, o_some, s_nil, s_cons, i_seq, i_rng1, i_rng2, i_enum, nx_nx, nx_rt, nx_bk, nx_ct, ite_t, ite_f, and_t, and_f, or_t, or_f, R.bind_ok, R.bind_assoc, ofO_some, tr_b, optI_i, itm_t, itm_l, seqL_l, gdOf_tup, gdOf_lst, neg_i, aug_i, add_i, sub_i, slc_t, slc_l, add_l, len_t, len_l, list_t, list_l, tuple_l, max_i, ls_i, le_i, gt_i, ge_i, sub_t, sub_l, List.getElem?_cons_zero, List.getElem?_cons_succ, List.set_cons_zero, List.set_cons_succ, Bool.not_true, Bool.not_false, mx0, il, W.isl]
      rfl
  have one : ∀ (w a : W) (k : Nat) (S : Store), (CC (k + a.dep + 1) "looks_deep" [a.d] S = .ok (.int (ld a : Nat)) S) → w.dep = a.dep + 1 → CC (k + a.dep + 1) "inner_of" [w.d] S = .ok (.tup [a.d]) S → ((if w.isl then ld a + 1 else ld a) = ld w) → CC (k + w.dep + 1) "looks_deep" [w.d] S = .ok (.int (ld w : Nat)) S := fun w a k S ih hd hi hl => by
    refine st w _ S _ ?_
    have il := c_islook (k + a.dep) S w
    rw [hd, show k + (a.dep + 1) = k + a.dep + 1 by omega]
    simp only [d_looks_deep, v_maxd, v_dict, v_dget, x_dput, x_par, par_k, i_rngD, i_zip, v_agen, v_glob, v_chain, v_isx, x_raise, x_kept, x_nil, x_cons, x_set, x_unp, x_sets, x_expr, x_ret, x_pass, x_brk, x_cont, x_ite, x_for, x_whl, v_bl, v_int, v_str, v_ty, v_non, v_var, v_tup, v_lst, v_bin, v_neg, v_not, v_cmp, v_and, v_or, v_ife, v_call, v_blt, v_mth, v_sub, v_slc, v_comp, o_none, o_some, s_nil, s_cons, i_seq, i_rng1, i_rng2, i_enum, nx_nx, nx_rt, nx_bk, nx_ct, ite_t, ite_f, and_t, and_f, or_t, or_f, R.bind_ok, R.bind_assoc, ofO_some, tr_b, optI_i, itm_t, itm_l, seqL_l, gdOf_tup, gdOf_lst, neg_i, aug_i, add_i, sub_i, slc_t, slc_l, add_l, len_t, len_l, list_t, list_l, tuple_l, max_i, ls_i, le_i, gt_i, ge_i, sub_t, sub_l, List.getElem?_cons_zero, List.getElem?_cons_succ, List.set_cons_zero, List.set_cons_succ, Bool.not_true, Bool.not_false, hi]
    rw [comp_one (y := .int (ld a : Nat)) (S1 := S) (by
      simp only [wipe, List.set_cons_zero, List.set_cons_succ, v_maxd, v_dict, v_dget, x_dput, x_par, par_k, i_rngD, i_zip, v_agen, v_glob, v_chain, v_isx, x_raise, x_kept, x_nil, x_cons, x_set, x_unp, x_sets, x_expr, x_ret, x_pass, x_brk, x_cont, x_ite, x_for, x_whl, v_bl, v_int, v_str, v_ty, v_non, v_var, v_tup, v_lst, v_bin, v_neg, v_not, v_cmp, v_and, v_or, v_ife, v_call, v_blt, v_mth, v_sub, v_slc, v_comp, o_none, o_some, s_nil, s_cons, i_seq, i_rng1, i_rng2, i_enum, nx_nx, nx_rt, nx_bk, nx_ct, ite_t, ite_f, and_t, and_f, or_t, or_f, R.bind_ok, R.bind_assoc, ofO_some, tr_b, optI_i, itm_t, itm_l, seqL_l, gdOf_tup, gdOf_lst, neg_i, aug_i, add_i, sub_i, slc_t, slc_l, add_l, len_t, len_l, list_t, list_l, tuple_l, max_i, ls_i, le_i, gt_i, ge_i, sub_t, sub_l, List.getElem?_cons_zero, List.getElem?_cons_succ, List.set_cons_zero, List.set_cons_succ, Bool.not_true, Bool.not_false]
      exact ih), R.bind_ok, mkL_v (sz (by simp)), R.bind_ok]
    simp only [v_maxd, v_dict, v_dget, x_dput, x_par, par_k, i_rngD, i_zip, v_agen, v_glob, v_chain, v_isx, x_raise, x_kept, x_nil, x_cons, x_set, x_unp, x_sets, x_expr, x_ret, x_pass, x_brk, x_cont, x_ite, x_for, x_whl, v_bl, v_int, v_str, v_ty, v_non, v_var, v_tup, v_lst, v_bin, v_neg, v_not, v_cmp, v_and, v_or, v_ife, v_call, v_blt, v_mth, v_sub, v_slc, v_comp, o_none, o_some, s_nil, s_cons, i_seq, i_rng1, i_rng2, i_enum, nx_nx, nx_rt, nx_bk, nx_ct, ite_t, ite_f, and_t, and_f, or_t, or_f, R.bind_ok, R.bind_assoc, ofO_some, tr_b, optI_i, itm_t, itm_l, seqL_l, gdOf_tup, gdOf_lst, neg_i, aug_i, add_i, sub_i, slc_t, slc_l, add_l, len_t, len_l, list_t, list_l, tuple_l, max_i, ls_i, le_i, gt_i, ge_i, sub_t, sub_l, List.getElem?_cons_zero, List.getElem?_cons_succ, List.set_cons_zero, List.set_cons_succ, Bool.not_true, Bool.not_false, mx1, il]
    cases hw : w.isl with
    | true =>
      rw [hw, if_pos rfl] at hl
      simp only [if_true, v_maxd, v_dict, v_dget, x_dput, x_par, par_k, i_rngD, i_zip, v_agen, v_glob, v_chain, v_isx, x_raise, x_kept, x_nil, x_cons, x_set, x_unp, x_sets, x_expr, x_ret, x_pass, x_brk, x_cont, x_ite, x_for, x_whl, v_bl, v_int, v_str, v_ty, v_non, v_var, v_tup, v_lst, v_bin, v_neg, v_not, v_cmp, v_and, v_or, v_ife, v_call, v_blt, v_mth, v_sub, v_slc, v_comp, o_none, o_some, s_nil, s_cons, i_seq, i_rng1, i_rng2, i_enum, nx_nx, nx_rt, nx_bk, nx_ct, ite_t, ite_f, and_t, and_f, or_t, or_f, R.bind_ok, R.bind_assoc, ofO_some, tr_b, optI_i, itm_t, itm_l, seqL_l, gdOf_tup, gdOf_lst, neg_i, aug_i, add_i, sub_i, slc_t, slc_l, add_l, len_t, len_l, list_t, list_l, tuple_l, max_i, ls_i, le_i, gt_i, ge_i, sub_t, sub_l, List.getElem?_cons_zero, List.getElem?_cons_succ, List.set_cons_zero, List.set_cons_succ, Bool.not_true, Bool.not_false, ← hl]
      rfl
    | false =>
      rw [hw, if_neg (by simp)] at hl
      simp only [Bool.false_eq_true, if_false, v_maxd, v_dict, v_dget, x_dput, x_par, par_k, i_rngD, i_zip, v_agen, v_glob, v_chain, v_isx, x_raise, x_kept, x_nil, x_cons, x_set, x_unp, x_sets, x_expr, x_ret, x_pass, x_brk, x_cont, x_ite, x_for, x_whl, v_bl, v_int, v_str, v_ty, v_non, v_var, v_tup, v_lst, v_bin, v_neg, v_not, v_cmp, v_and, v_or, v_ife, v_call, v_blt, v_mth, v_sub, v_slc, v_comp, o_none, o_some, s_nil, s_cons, i_seq, i_rng1, i_rng2, i_enum, nx_nx, nx_rt, nx_bk, nx_ct, ite_t, ite_f, and_t, and_f, or_t, or_f, R.bind_ok, R.bind_assoc, ofO_some, tr_b, optI_i, itm_t, itm_l, seqL_l, gdOf_tup, gdOf_lst, neg_i, aug_i, add_i, sub_i, slc_t, slc_l, add_l, len_t, len_l, list_t, list_l, tuple_l, max_i, ls_i, le_i, gt_i, ge_i, sub_t, sub_l, List.getElem?_cons_zero, List.getElem?_cons_succ, List.set_cons_zero, List.set_cons_succ, Bool.not_true, Bool.not_false, hl]
  have two : ∀ (w a b : W) (k : Nat) (S : Store), (∀ k, CC (k + a.dep + 1) "looks_deep" [a.d] S = .ok (.int (ld a : Nat)) S) → (∀ k, CC (k + b.dep + 1) "looks_deep" [b.d] S = .ok (.int (ld b : Nat)) S) → w.dep = max a.dep b.dep + 1 → (∀ k, CC (k + 1) "inner_of" [w.d] S = .ok (.tup [a.d, b.d]) S) → ((if w.isl then max (ld a) (ld b) + 1 else max (ld a) (ld b)) = ld w) → CC (k + w.dep + 1) "looks_deep" [w.d] S = .ok (.int (ld w : Nat)) S := fun w a b k S iha ihb hd hi hl => by
    refine st w _ S _ ?_
    have il := c_islook (k + max a.dep b.dep) S w
    have ea := iha (k + (max a.dep b.dep - a.dep))
    rw [show k + (max a.dep b.dep - a.dep) + a.dep + 1 = k + max a.dep b.dep + 1 by omega] at ea
    have eb := ihb (k + (max a.dep b.dep - b.dep))
    rw [show k + (max a.dep b.dep - b.dep) + b.dep + 1 = k + max a.dep b.dep + 1 by omega] at eb
    rw [hd, show k + (max a.dep b.dep + 1) = k + max a.dep b.dep + 1 by omega]
    simp only [d_looks_deep, v_maxd, v_dict, v_dget, x_dput, x_par, par_k, i_rngD, i_zip, v_agen, v_glob, v_chain, v_isx, x_raise, x_kept, x_nil, x_cons, x_set, x_unp, x_sets, x_expr, x_ret, x_pass, x_brk, x_cont, x_ite, x_for, x_whl, v_bl, v_int, v_str, v_ty, v_non, v_var, v_tup, v_lst, v_bin, v_neg, v_not, v_cmp, v_and, v_or, v_ife, v_call, v_blt, v_mth, v_sub, v_slc, v_comp, o_none, o_some, s_nil, s_cons, i_seq, i_rng1, i_rng2, i_enum, nx_nx, nx_rt, nx_bk, nx_ct, ite_t, ite_f, and_t, and_f, or_t, or_f, R.bind_ok, R.bind_assoc, ofO_some, tr_b, optI_i, itm_t, itm_l, seqL_l, gdOf_tup, gdOf_lst, neg_i, aug_i, add_i, sub_i, slc_t, slc_l, add_l, len_t, len_l, list_t, list_l, tuple_l, max_i, ls_i, le_i, gt_i, ge_i, sub_t, sub_l, List.getElem?_cons_zero, List.getElem?_cons_succ, List.set_cons_zero, List.set_cons_succ, Bool.not_true, Bool.not_false, hi]
    rw [comp_two (y := .int (ld a : Nat)) (z := .int (ld b : Nat)) (S1 := S) (S2 := S) (by
      simp only [wipe, List.set_cons_zero, List.set_cons_succ, v_maxd, v_dict, v_dget, x_dput, x_par, par_k, i_rngD, i_zip, v_agen, v_glob, v_chain, v_isx, x_raise, x_kept, x_nil, x_cons, x_set, x_unp, x_sets, x_expr, x_ret, x_pass, x_brk, x_cont, x_ite, x_for, x_whl, v_bl, v_int, v_str, v_ty, v_non, v_var, v_tup, v_lst, v_bin, v_neg, v_not, v_cmp, v_and, v_or, v_ife, v_call, v_blt, v_mth, v_sub, v_slc, v_comp, o_none, o_some, s_nil, s_cons, i_seq, i_rng1, i_rng2, i_enum, nx_nx, nx_rt, nx_bk, nx_ct, ite_t, ite_f, and_t, and_f, or_t, or_f, R.bind_ok, R.bind_assoc, ofO_some, tr_b, optI_i, itm_t, itm_l, seqL_l, gdOf_tup, gdOf_lst, neg_i, aug_i, add_i, sub_i, slc_t, slc_l, add_l, len_t, len_l, list_t, list_l, tuple_l, max_i, ls_i, le_i, gt_i, ge_i, sub_t, sub_l, List.getElem?_cons_zero, List.getElem?_cons_succ, List.set_cons_zero, List.set_cons_succ, Bool.not_true, Bool.not_false]
      exact ea) (by
      simp only [wipe, List.set_cons_zero, List.set_cons_succ, v_maxd, v_dict, v_dget, x_dput, x_par, par_k, i_rngD, i_zip, v_agen, v_glob, v_chain, v_isx, x_raise, x_kept, x_nil, x_cons, x_set, x_unp, x_sets, x_expr, x_ret, x_pass, x_brk, x_cont, x_ite, x_for, x_whl, v_bl, v_int, v_str, v_ty, v_non, v_var, v_tup, v_lst, v_bin, v_neg, v_not, v_cmp, v_and, v_or, v_ife, v_call, v_blt, v_mth, v_sub, v_slc, v_comp, o_none, o_some, s_nil, s_cons, i_seq, i_rng1, i_rng2, i_enum, nx_nx, nx_rt, nx_bk, nx_ct, ite_t, ite_f, and_t, and_f, or_t, or_f, R.bind_ok, R.bind_assoc, ofO_some, tr_b, optI_i, itm_t, itm_l, seqL_l, gdOf_tup, gdOf_lst, neg_i, aug_i, add_i, sub_i, slc_t, slc_l, add_l, len_t, len_l, list_t, list_l, tuple_l, max_i, ls_i, le_i, gt_i, ge_i, sub_t, sub_l, List.getElem?_cons_zero, List.getElem?_cons_succ, List.set_cons_zero, List.set_cons_succ, Bool.not_true, Bool.not_false]
      exact eb), R.bind_ok, mkL_v (sz (by simp)), R.bind_ok]
    simp only [v_maxd, v_dict, v_dget, x_dput, x_par, par_k, i_rngD, i_zip, v_agen, v_glob, v_chain, v_isx, x_raise, x_kept, x_nil, x_cons, x_set, x_unp, x_sets, x_expr, x_ret, x_pass, x_brk, x_cont, x_ite, x_for, x_whl, v_bl, v_int, v_str, v_ty, v_non, v_var, v_tup, v_lst, v_bin, v_neg, v_not, v_cmp, v_and, v_or, v_ife, v_call, v_blt, v_mth, v_sub, v_slc, v_comp, o_none, o_some, s_nil, s_cons, i_seq, i_rng1, i_rng2, i_enum, nx_nx, nx_rt, nx_bk, nx_ct, ite_t, ite_f, and_t, and_f, or_t, or_f, R.bind_ok, R.bind_assoc, ofO_some, tr_b, optI_i, itm_t, itm_l, seqL_l, gdOf_tup, gdOf_lst, neg_i, aug_i, add_i, sub_i, slc_t, slc_l, add_l, len_t, len_l, list_t, list_l, tuple_l, max_i, ls_i, le_i, gt_i, ge_i, sub_t, sub_l, List.getElem?_cons_zero, List.getElem?_cons_succ, List.set_cons_zero, List.set_cons_succ, Bool.not_true, Bool.not_false, mx2, il]
    cases hw : w.isl with
    | true =>
      rw [hw, if_pos rfl] at hl
      simp only [if_true, v_maxd, v_dict, v_dget, x_dput, x_par, par_k, i_rngD, i_zip, v_agen, v_glob, v_chain, v_isx, x_raise, x_kept, x_nil, x_cons, x_set, x_unp, x_sets, x_expr, x_ret, x_pass, x_brk, x_cont, x_ite, x_for, x_whl, v_bl, v_int, v_str, v_ty, v_non, v_var, v_tup, v_lst, v_bin, v_neg, v_not, v_cmp, v_and, v_or, v_ife, v_call, v_blt, v_mth, v_sub, v_slc, v_comp, o_none, o_some, s_nil, s_cons, i_seq, i_rng1, i_rng2, i_enum, nx_nx, nx_rt, nx_bk, nx_ct, ite_t, ite_f, and_t, and_f, or_t, or_f, R.bind_ok, R.bind_assoc, ofO_some, tr_b, optI_i, itm_t, itm_l, seqL_l, gdOf_tup, gdOf_lst, neg_i, aug_i, add_i, sub_i, slc_t, slc_l, add_l, len_t, len_l, list_t, list_l, tuple_l, max_i, ls_i, le_i, gt_i, ge_i, sub_t, sub_l, List.getElem?_cons_zero, List.getElem?_cons_succ, List.set_cons_zero, List.set_cons_succ, Bool.not_true, Bool.not_false, ← hl]
      rfl
    | false =>
      rw [hw, if_neg (by simp)] at hl
      simp only [Bool.false_eq_true, if_false, v_maxd, v_dict, v_dget, x_dput, x_par, par_k, i_rngD, i_zip, v_agen, v_glob, v_chain, v_isx, x_raise, x_kept, x_nil, x_cons, x_set, x_unp, x_sets, x_expr, x_ret, x_pass, x_brk, x_cont, x_ite, x_for, x_whl, v_bl, v_int, v_str, v_ty, v_non, v_var, v_tup, v_lst, v_bin, v_neg, v_not, v_cmp, v_and, v_or, v_ife, v_call, v_blt, v_mth, v_sub, v_slc, v_comp, o_none, o_some, s_nil, s_cons, i_seq, i_rng1, i_rng2, i_enum, nx_nx, nx_rt, nx_bk, nx_ct, ite_t, ite_f, and_t, and_f, or_t, or_f, R.bind_ok, R.bind_assoc, ofO_some, tr_b, optI_i, itm_t, itm_l, seqL_l, gdOf_tup, gdOf_lst, neg_i, aug_i, add_i, sub_i, slc_t, slc_l, add_l, len_t, len_l, list_t, list_l, tuple_l, max_i, ls_i, le_i, gt_i, ge_i, sub_t, sub_l, List.getElem?_cons_zero, List.getElem?_cons_succ, List.set_cons_zero, List.set_cons_succ, Bool.not_true, Bool.not_false, hl]
  intro w
  induction w with
  | yes => exact fun k S => lf .yes k S True.intro
  | no => exact fun k S => lf .no k S True.intro
  | sg x => exact fun k S => lf (.sg x) k S True.intro
  | nt a ih => exact fun k S => one (.nt a) a k S (ih k S) rfl (c_inner _ S (.nt a)) rfl
  | bf a ih => exact fun k S => one (.bf a) a k S (ih k S) rfl (c_inner _ S (.bf a)) rfl
  | ws a ih => exact fun k S => one (.ws a) a k S (ih k S) rfl (c_inner _ S (.ws a)) rfl
  | an a b iha ihb => exact fun k S => two (.an a b) a b k S (fun k => iha k S) (fun k => ihb k S) rfl (fun k => c_inner k S (.an a b)) rfl
  | or a b iha ihb => exact fun k S => two (.or a b) a b k S (fun k => iha k S) (fun k => ihb k S) rfl (fun k => c_inner k S (.or a b)) rfl
  | si a b iha ihb => exact fun k S => two (.si a b) a b k S (fun k => iha k S) (fun k => ihb k S) rfl (fun k => c_inner k S (.si a b)) rfl
theorem ld_dep : ∀ w : W, ld w ≤ w.dep
  | .yes | .no | .sg _ => by simp [ld]
  | .nt a => by have := ld_dep a; simp only [ld, W.dep]; omega
  | .bf a | .ws a => by have := ld_dep a; simp only [ld, W.dep]; omega
  | .an a b | .or a b | .si a b => by have := ld_dep a; have := ld_dep b; simp only [ld, W.dep]; omega
theorem c_von {A B : List Str} {F U : List (Int × Int)} (hb : Bd A B) (hl : LK A B F U) (w : W) (hw : w.ok (A ++ B)) (hd : w.dep ≤ 30) (k : Nat) (S : Store) :
    CC (k + w.dep + 4) "values_on" [brd A B, w.d, LD F U] S = .ok (.lst (bls (PV A B (lp F U (1 + ld w)) w))) S := by
  have hld := ld_dep w
  have h1 := hl.1
  have h2 := hl.2.2.1
  have hlen : (lp F U (1 + ld w)).length ≤ 1000 := by
    rw [lp_len]
    have : (1 + ld w) * U.length ≤ 31 * 8 := Nat.mul_le_mul (by omega) h2
    omega
  rw [show CC (k + w.dep + 4) "values_on" [brd A B, w.d, LD F U] S = _ from call_step (k := k + w.dep + 3) (d := d_values_on) rfl rfl]
  show leave .pure S (exB Gs 1000000 (CC (k + w.dep + 3)) d_values_on.body [some (brd A B), some w.d, some (LD F U), none, none] S) = _
  have e1 : asg (.tp [3, 4]) (LD F U) [some (brd A B), some w.d, some (LD F U), none, none] = some [some (brd A B), some w.d, some (LD F U), some (.tup (F.map td)), some (.tup (U.map td))] := rfl
  have e2 : CC (k + w.dep + 3) "looks_deep" [w.d] S = .ok (.int (ld w : Nat)) S := c_deep w (k + 2) S ▸ by rw [show k + 2 + w.dep + 1 = k + w.dep + 3 by omega]
  have e3 : (1 : Int) + (ld w : Nat) = ((1 + ld w : Nat) : Int) := by omega
  simp only [d_values_on, v_maxd, v_dict, v_dget, x_dput, x_par, par_k, i_rngD, i_zip, v_agen, v_glob, v_chain, v_isx, x_raise, x_kept, x_nil, x_cons, x_set, x_unp, x_sets, x_expr, x_ret, x_pass, x_brk, x_cont, x_ite, x_for, x_whl, v_bl, v_int, v_str, v_ty, v_non, v_var, v_tup, v_lst, v_bin, v_neg, v_not, v_cmp, v_and, v_or, v_ife, v_call, v_blt, v_mth, v_sub, v_slc, v_comp, o_none, o_some, s_nil, s_cons, i_seq, i_rng1, i_rng2, i_enum, nx_nx, nx_rt, nx_bk, nx_ct, ite_t, ite_f, and_t, and_f, or_t, or_f, R.bind_ok, R.bind_assoc, ofO_some, tr_b, optI_i, itm_t, itm_l, seqL_l, gdOf_tup, gdOf_lst, neg_i, aug_i, add_i, sub_i, slc_t, slc_l, add_l, len_t, len_l, list_t, list_l, tuple_l, max_i, ls_i, le_i, gt_i, ge_i, sub_t, sub_l, List.getElem?_cons_zero, List.getElem?_cons_succ, List.set_cons_zero, List.set_cons_succ, Bool.not_true, Bool.not_false, e1, e2, e3]
  rw [mul_tt (by omega) (by simp; omega), R.bind_ok, rep_td, add_t (sz (by
    have := hlen
    rw [lp, List.length_append] at this
    simp only [List.length_map]
    omega)), R.bind_ok, ← List.map_append]
  rw [show F ++ rp (1 + ld w) U = lp F U (1 + ld w) from rfl, c_along hb hlen w k S _ (.inl rfl) hw, R.bind_ok]
  exact leave_own (bls_below _ _)
theorem c_always {A B : List Str} {F U : List (Int × Int)} (hb : Bd A B) (hl : LK A B F U) (w : W) (hw : w.ok (A ++ B)) (hd : w.dep ≤ 30) (k : Nat) (S : Store) :
    CC (k + w.dep + 8) "holds_always" [brd A B, w.d, LD F U] S = .ok (.bl ((PV A B (lp F U (1 + ld w)) w).all id)) S := by
  rw [show CC (k + w.dep + 8) "holds_always" [brd A B, w.d, LD F U] S = _ from call_step (k := k + w.dep + 7) (d := d_holds_always) rfl rfl]
  show leave .pure S (exB Gs 1000000 (CC (k + w.dep + 7)) d_holds_always.body [some (brd A B), some w.d, some (LD F U)] S) = _
  have e1 := need_ok hb hl (k + w.dep) S
  have e2 := c_von hb hl w hw hd (k + 3) S
  rw [show k + 3 + w.dep + 4 = k + w.dep + 7 by omega] at e2
  simp only [d_holds_always, v_maxd, v_dict, v_dget, x_dput, x_par, par_k, i_rngD, i_zip, v_agen, v_glob, v_chain, v_isx, x_raise, x_kept, x_nil, x_cons, x_set, x_unp, x_sets, x_expr, x_ret, x_pass, x_brk, x_cont, x_ite, x_for, x_whl, v_bl, v_int, v_str, v_ty, v_non, v_var, v_tup, v_lst, v_bin, v_neg, v_not, v_cmp, v_and, v_or, v_ife, v_call, v_blt, v_mth, v_sub, v_slc, v_comp, o_none, o_some, s_nil, s_cons, i_seq, i_rng1, i_rng2, i_enum, nx_nx, nx_rt, nx_bk, nx_ct, ite_t, ite_f, and_t, and_f, or_t, or_f, R.bind_ok, R.bind_assoc, ofO_some, tr_b, optI_i, itm_t, itm_l, seqL_l, gdOf_tup, gdOf_lst, neg_i, aug_i, add_i, sub_i, slc_t, slc_l, add_l, len_t, len_l, list_t, list_l, tuple_l, max_i, ls_i, le_i, gt_i, ge_i, sub_t, sub_l, List.getElem?_cons_zero, List.getElem?_cons_succ, List.set_cons_zero, List.set_cons_succ, Bool.not_true, Bool.not_false, e1, e2, all_bls]
  exact leave_same (by simp [below])
theorem bls_drop (l : List Bool) (n : Nat) : (bls l).drop n = bls (l.drop n) := by simp [bls]
theorem c_again {A B : List Str} {F U : List (Int × Int)} (hb : Bd A B) (hl : LK A B F U) (w : W) (hw : w.ok (A ++ B)) (hd : w.dep ≤ 30) (k : Nat) (S : Store) :
    CC (k + w.dep + 8) "holds_again" [brd A B, w.d, LD F U] S = .ok (.bl (((PV A B (lp F U (1 + ld w)) w).drop ((lp F U (1 + ld w)).length - U.length)).any id)) S := by
  rw [show CC (k + w.dep + 8) "holds_again" [brd A B, w.d, LD F U] S = _ from call_step (k := k + w.dep + 7) (d := d_holds_again) rfl rfl]
  show leave .pure S (exB Gs 1000000 (CC (k + w.dep + 7)) d_holds_again.body [some (brd A B), some w.d, some (LD F U), none] S) = _
  have e1 := need_ok hb hl (k + w.dep) S
  have e2 := c_von hb hl w hw hd (k + 3) S
  rw [show k + 3 + w.dep + 4 = k + w.dep + 7 by omega] at e2
  have e3 : subA S (LD F U) (.int 1) = some (.tup (U.map td)) := rfl
  have hlen : (PV A B (lp F U (1 + ld w)) w).length = (lp F U (1 + ld w)).length := by
    obtain ⟨h1, h2⟩ := val_lv (lp F U (1 + ld w)).length (sgv A B (lp F U (1 + ld w))) (sgv_len A B _) w
    show (val _ _ w).length = _
    rw [h1, h2]
  have hle : U.length ≤ (lp F U (1 + ld w)).length := by
    rw [lp_len, Nat.add_mul]
    omega
  have e4 : ((lp F U (1 + ld w)).length : Int) - (U.length : Int) = (((lp F U (1 + ld w)).length - U.length : Nat) : Int) := by omega
  simp only [d_holds_again, v_maxd, v_dict, v_dget, x_dput, x_par, par_k, i_rngD, i_zip, v_agen, v_glob, v_chain, v_isx, x_raise, x_kept, x_nil, x_cons, x_set, x_unp, x_sets, x_expr, x_ret, x_pass, x_brk, x_cont, x_ite, x_for, x_whl, v_bl, v_int, v_str, v_ty, v_non, v_var, v_tup, v_lst, v_bin, v_neg, v_not, v_cmp, v_and, v_or, v_ife, v_call, v_blt, v_mth, v_sub, v_slc, v_comp, o_none, o_some, s_nil, s_cons, i_seq, i_rng1, i_rng2, i_enum, nx_nx, nx_rt, nx_bk, nx_ct, ite_t, ite_f, and_t, and_f, or_t, or_f, R.bind_ok, R.bind_assoc, ofO_some, tr_b, optI_i, itm_t, itm_l, seqL_l, gdOf_tup, gdOf_lst, neg_i, aug_i, add_i, sub_i, slc_t, slc_l, add_l, len_t, len_l, list_t, list_l, tuple_l, max_i, ls_i, le_i, gt_i, ge_i, sub_t, sub_l, List.getElem?_cons_zero, List.getElem?_cons_succ, List.set_cons_zero, List.set_cons_succ, Bool.not_true, Bool.not_false, e1, e2, e3, bls_len, hlen, List.length_map, e4, cut_from, bls_drop]
  have hz : (PV A B (lp F U (1 + ld w)) w).length ≤ 1000 := by
    rw [hlen, lp_len]
    have h1 := hl.1
    have h2 := hl.2.2.1
    have hld := ld_dep w
    have : (1 + ld w) * U.length ≤ 31 * 8 := Nat.mul_le_mul (by omega) h2
    omega
  rw [mkL_v (sz (by rw [bls_len, List.length_drop]; omega)), R.bind_ok]
  simp only [v_maxd, v_dict, v_dget, x_dput, x_par, par_k, i_rngD, i_zip, v_agen, v_glob, v_chain, v_isx, x_raise, x_kept, x_nil, x_cons, x_set, x_unp, x_sets, x_expr, x_ret, x_pass, x_brk, x_cont, x_ite, x_for, x_whl, v_bl, v_int, v_str, v_ty, v_non, v_var, v_tup, v_lst, v_bin, v_neg, v_not, v_cmp, v_and, v_or, v_ife, v_call, v_blt, v_mth, v_sub, v_slc, v_comp, o_none, o_some, s_nil, s_cons, i_seq, i_rng1, i_rng2, i_enum, nx_nx, nx_rt, nx_bk, nx_ct, ite_t, ite_f, and_t, and_f, or_t, or_f, R.bind_ok, R.bind_assoc, ofO_some, tr_b, optI_i, itm_t, itm_l, seqL_l, gdOf_tup, gdOf_lst, neg_i, aug_i, add_i, sub_i, slc_t, slc_l, add_l, len_t, len_l, list_t, list_l, tuple_l, max_i, ls_i, le_i, gt_i, ge_i, sub_t, sub_l, List.getElem?_cons_zero, List.getElem?_cons_succ, List.set_cons_zero, List.set_cons_succ, Bool.not_true, Bool.not_false, any_bls]
  exact leave_same (by simp [below])
end K23

namespace K23
open PySem Mn
/-! ### values hang on the turns ahead alone -/
theorem sinA_take : ∀ (h : Bool) (as bs : List Bool) (m : Nat), (sinA h as bs).take m = sinA h (as.take m) (bs.take m)
  | _, _, _, 0 => by simp [sinA]
  | h, a :: as, b :: bs, m + 1 => by simp only [sinA, List.take_succ_cons, sinA_take _ as bs m]
  | _, [], _, _ + 1 => by simp [sinA]
  | _, _ :: _, [], _ + 1 => by simp [sinA]
theorem val_take {n m : Nat} (hm : m ≤ n) {f : Str → List Bool} : ∀ w : W, val m (fun x => (f x).take m) w = (val n f w).take m
  | .yes => by simp only [val]; rw [List.take_replicate, Nat.min_eq_left hm]
  | .no => by simp only [val]; rw [List.take_replicate, Nat.min_eq_left hm]
  | .sg x => rfl
  | .nt a => by simp only [val, val_take hm a, List.map_take]
  | .an a b => by simp only [val, val_take hm a, val_take hm b, List.take_zipWith]
  | .or a b => by simp only [val, val_take hm a, val_take hm b, List.take_zipWith]
  | .bf a => by
    simp only [val, val_take hm a]
    rw [List.take_take, Nat.min_eq_left hm]
    cases m with
    | zero => rfl
    | succ m =>
      rw [List.take_succ_cons, List.take_succ_cons, List.take_take, Nat.min_eq_left (by omega)]
  | .ws a => by
    simp only [val, val_take hm a, sinA_take]
    rw [List.take_replicate, Nat.min_eq_left hm]
  | .si a b => by simp only [val, val_take hm a, val_take hm b, sinA_take]
theorem PV_take {A B : List Str} {T : List (Int × Int)} {m : Nat} (hm : m ≤ T.length) (w : W) : PV A B (T.take m) w = (PV A B T w).take m := by
  show val (T.take m).length (sgv A B (T.take m)) w = _
  have e : sgv A B (T.take m) = fun x => (sgv A B T x).take m := by
    funext x
    simp [sgv, List.map_take]
  rw [e, List.length_take, Nat.min_eq_left hm]
  exact val_take hm w
theorem PV_len (A B : List Str) (T : List (Int × Int)) (w : W) : (PV A B T w).length = T.length := by
  obtain ⟨h1, h2⟩ := val_lv T.length (sgv A B T) (sgv_len A B T) w
  show (val _ _ w).length = _
  rw [h1, h2]
/-! ### a finite row -/
def fx (A B : List Str) (T : List (Int × Int)) (x : Str) (k : Nat) : Bool := (sgv A B T x).getD k false
theorem PV_fin {A B : List Str} {T : List (Int × Int)} (w : W) : PV A B T w = (List.range T.length).map (vI (fx A B T) w) := by
  have e : sgv A B T = fun x => (List.range T.length).map (fx A B T x) := by
    funext x
    refine List.ext_getElem? fun k => ?_
    rw [List.getElem?_map]
    by_cases hk : k < T.length
    · rw [List.getElem?_range hk, List.getElem?_eq_getElem (by rw [sgv_len]; exact hk)]
      show some _ = some ((sgv A B T x).getD k false)
      rw [List.getD_eq_getElem?_getD, List.getElem?_eq_getElem (by rw [sgv_len]; exact hk)]
      rfl
    · rw [List.getElem?_eq_none (by rw [sgv_len]; omega), List.getElem?_eq_none (by simp; omega)]
      rfl
  show val T.length (sgv A B T) w = _
  rw [e]
  exact val_I w
/-! ### what words say -/
theorem was_unf (a : Nat → Bool) (k : Nat) : wasI a k = (a k || befI (wasI a) k) := by
  cases k with
  | zero => simp [wasI, befI]
  | succ k => rfl
theorem sin_unf (a b : Nat → Bool) (k : Nat) : sinI a b k = (b k || (a k && befI (sinI a b) k)) := by
  cases k with
  | zero => simp [sinI, befI]
  | succ k => rfl
theorem sin_both (a b : Nat → Bool) (k : Nat) : sinI a (fun k => b k || !a k) k = (sinI a b k || sinI a (fun k => !a k) k) := by
  induction k with
  | zero => rfl
  | succ k ih =>
    simp only [sinI, ih]
    generalize sinI a b k = x
    generalize sinI a (fun k => !a k) k = y
    cases a (k + 1) <;> cases b (k + 1) <;> cases x <;> cases y <;> rfl
theorem sin_third (a b : Nat → Bool) (k : Nat) : sinI (fun k => a k && b k) b k = (sinI a b k && sinI b b k) := by
  induction k with
  | zero => simp [sinI]
  | succ k ih =>
    simp only [sinI, ih]
    generalize sinI a b k = x
    generalize sinI b b k = y
    cases a (k + 1) <;> cases b (k + 1) <;> cases x <;> cases y <;> rfl
theorem bef_and (a b : Nat → Bool) (k : Nat) : befI (fun k => a k && b k) k = (befI a k && befI b k) := by
  cases k <;> rfl
theorem bef_was (a : Nat → Bool) (k : Nat) : befI (wasI a) k = wasI (befI a) k := by
  induction k with
  | zero => rfl
  | succ k ih =>
    show wasI a k = (befI a (k + 1) || wasI (befI a) k)
    rw [← ih, was_unf]
    rfl
def prs (a b : W) : List (W × W) :=
  [(.ws a, .or a (.bf (.ws a))), (.si a b, .or b (.an a (.bf (.si a b)))), (.ws a, .si .yes a), (.or a b, .nt (.an (.nt a) (.nt b))),
   (.si a (.or b (.nt a)), .or (.si a b) (.si a (.nt a))), (.si (.an a b) b, .an (.si a b) (.si b b)), (.bf (.an a b), .an (.bf a) (.bf b)), (.bf (.ws a), .ws (.bf a))]
theorem prs_eq (f : Str → Nat → Bool) (a b : W) : ∀ p ∈ prs a b, vI f p.1 = vI f p.2 := by
  intro p hp
  simp only [prs, List.mem_cons, List.not_mem_nil, or_false] at hp
  rcases hp with rfl | rfl | rfl | rfl | rfl | rfl | rfl | rfl
  · funext k; exact was_unf _ k
  · funext k; exact sin_unf _ _ k
  · exact sin_was.symm
  · funext k
    show (vI f a k || vI f b k) = !(!vI f a k && !vI f b k)
    cases vI f a k <;> cases vI f b k <;> rfl
  · funext k; exact sin_both _ _ k
  · funext k; exact sin_third _ _ k
  · funext k; exact bef_and _ _ k
  · funext k; exact bef_was _ k
theorem prs_ok {ns : List Str} {a b : W} (ha : a.ok ns) (hb : b.ok ns) {n : Nat} (da : a.dep ≤ n) (db : b.dep ≤ n) : ∀ p ∈ prs a b, (p.1.ok ns ∧ p.1.dep ≤ n + 4) ∧ (p.2.ok ns ∧ p.2.dep ≤ n + 4) := by
  intro p hp
  simp only [prs, List.mem_cons, List.not_mem_nil, or_false] at hp
  rcases hp with rfl | rfl | rfl | rfl | rfl | rfl | rfl | rfl <;> simp only [W.ok, W.dep, ha, hb, and_self, true_and] <;> omega
/-! ### the law's pairs -/
def pd (p : W × W) : D := .tup [p.1.d, p.2.d]
theorem app_top {S : Store} {l : List D} {d : D} (h : l.length ≤ 50) : mthA "list" "append" (.ref S.length) [d] (S ++ [.lst l]) = .ok .non (S ++ [.lst (l ++ [d])]) := by
  rw [app_r push_at (sz' (by omega)), set_top]
theorem recv_top {S : Store} {l : List D} : recvA "list" (S ++ [.lst l]) (.ref S.length) = some () := recv_l push_at
theorem c_pairs (a b : W) (k : Nat) (S : Store) : CC (k + 1) "_law_pairs" [a.d, b.d] S = .ok (.lst ((prs a b).map pd)) S := by
  rw [show CC (k + 1) "_law_pairs" [a.d, b.d] S = _ from call_step (k := k) (d := d__law_pairs) rfl rfl]
  show leave .pure S (exB Gs 1000000 (CC k) d__law_pairs.body [some a.d, some b.d, none, none, none, none, none] S) = _
  have t1 : ∀ (x : D) (S : Store), mkT [x] S = .ok (.tup [x]) S := fun _ _ => mkT_v (sz (by simp))
  have t2 : ∀ (x y : D) (S : Store), mkT [x, y] S = .ok (.tup [x, y]) S := fun _ _ _ => mkT_v (sz (by simp))
  have t3 : ∀ (x y z : D) (S : Store), mkT [x, y, z] S = .ok (.tup [x, y, z]) S := fun _ _ _ _ => mkT_v (sz (by simp))
  have l2 : ∀ (x y : D) (S : Store), mkL false [x, y] S = .ok (.ref S.length) (S ++ [.lst [x, y]]) := fun _ _ _ => mkL_r (sz (by simp))
  have z : exB Gs 1000000 (CC k) d__law_pairs.body [some a.d, some b.d, none, none, none, none, none] S = .ok (.rt (.ref S.length)) (S ++ [.lst ((prs a b).map pd)]) := by
    simp (disch := simp) only [d__law_pairs, v_maxd, v_dict, v_dget, x_dput, x_par, par_k, i_rngD, i_zip, v_agen, v_glob, v_chain, v_isx, x_raise, x_kept, x_nil, x_cons, x_set, x_unp, x_sets, x_expr, x_ret, x_pass, x_brk, x_cont, x_ite, x_for, x_whl, v_bl, v_int, v_str, v_ty, v_non, v_var, v_tup, v_lst, v_bin, v_neg, v_not, v_cmp, v_and, v_or, v_ife, v_call, v_blt, v_mth, v_sub, v_slc, v_comp, o_none, o_some, s_nil, s_cons, i_seq, i_rng1, i_rng2, i_enum, nx_nx, nx_rt, nx_bk, nx_ct, ite_t, ite_f, and_t, and_f, or_t, or_f, R.bind_ok, R.bind_assoc, ofO_some, tr_b, optI_i, itm_t, itm_l, seqL_l, gdOf_tup, gdOf_lst, neg_i, aug_i, add_i, sub_i, slc_t, slc_l, add_l, len_t, len_l, list_t, list_l, tuple_l, max_i, ls_i, le_i, gt_i, ge_i, sub_t, sub_l, List.getElem?_cons_zero, List.getElem?_cons_succ, List.set_cons_zero, List.set_cons_succ, Bool.not_true, Bool.not_false, t1, t2, t3, l2, recv_top, app_top]
    rfl
  rw [z]
  refine leave_own ?_
  simp [prs, pd, belows, below, W.bel]
theorem get_push_old' {S X : Store} {o : O} : (S ++ [o] ++ X)[S.length]? = some o := by
  rw [List.append_assoc, List.getElem?_append_right (Nat.le_refl _), Nat.sub_self]
  rfl
/-! ### rows -/
theorem eq_bls {S : Store} {x y : D} {l m : List Bool} (hx : py S x = some (.list (l.map PyData.bool))) (hy : py S y = some (.list (m.map PyData.bool))) : cmpA .Eq x y S = some (decide (l = m)) := by
  show eqA S x y = _
  unfold eqA
  rw [hx, Option.bind_some, hy, Option.bind_some, if_pos ⟨shp_bls l, shp_bls m⟩]
  show some (PyData.eqv (.list (l.map PyData.bool)) (.list (m.map PyData.bool))) = _
  simp only [PyData.eqv, eqv_bls]
theorem slc_r {v : Bool} {S : Store} {n : Nat} {l : List D} {lo hi : Option Int} (h : S[n]? = some (.lst l)) : slcA v (.ref n) lo hi S = mkL v (cutA l lo hi) S := by
  show (match seqL S (.ref n) with | some l => mkL v (cutA l lo hi) S | none => .bad) = _
  rw [seqL_r h]
theorem cut_neg1 {l : List D} : cutA l none (some (-1)) = l.take (l.length - 1) := by
  unfold cutA
  rw [HT.sIx_none]
  have e : HT.sIx l.length l.length (some (-1)) = l.length - 1 := by
    simp [HT.sIx]
    omega
  rw [e]
  simp
theorem bls_take (l : List Bool) (n : Nat) : (bls l).take n = bls (l.take n) := by simp [bls]
theorem leave_more {S X : Store} {d : D} (h : below S.length d = true) : leave .pure S (.ok (.rt d) (S ++ X)) = .ok d S := by
  show fin .pure S d (S ++ X) = _
  unfold fin
  rw [if_pos ⟨by simp, fun i hi => .inl (by simp [List.getElem?_append_left hi])⟩, outD_below h]
  show R.ok d ((S ++ X).take S.length) = _
  rw [List.take_left]
theorem c_al {A B : List Str} {T : List (Int × Int)} (hb : Bd A B) (hT : T.length ≤ 1000) (w : W) (hd : w.dep ≤ 20) (hw : w.ok (A ++ B)) (k : Nat) (S : Store) (th : D) (h : TH S th T) : CC (k + 23) "values_along" [brd A B, w.d, th] S = .ok (.ref S.length) (S ++ [.lst (bls (PV A B T w))]) := by
  have := c_along hb hT w (k + 20 - w.dep) S th h hw
  rwa [show k + 20 - w.dep + w.dep + 3 = k + 23 by omega] at this
theorem c_rows {A B : List Str} {T : List (Int × Int)} (hb : Bd A B) (h1 : 1 ≤ T.length) (hT : T.length ≤ 1000) (a b : W) (ha : a.ok (A ++ B)) (hb' : b.ok (A ++ B)) (da : a.dep ≤ 3) (db : b.dep ≤ 3) (k : Nat) (S : Store) :
    CC (k + 24) "_law_rows_right" [brd A B, a.d, b.d, .lst (T.map td)] S = .ok (.bl true) S := by
  rw [show CC (k + 24) "_law_rows_right" [brd A B, a.d, b.d, .lst (T.map td)] S = _ from call_step (k := k + 23) (d := d__law_rows_right) rfl rfl]
  show leave .pure S (exB Gs 1000000 (CC (k + 23)) d__law_rows_right.body [some (brd A B), some a.d, some b.d, some (.lst (T.map td)), none, none, none, none, none] S) = _
  suffices h : Sat (exB Gs 1000000 (CC (k + 23)) d__law_rows_right.body [some (brd A B), some a.d, some b.d, some (.lst (T.map td)), none, none, none, none, none] S) (fun f S' => f = .rt (.bl true) ∧ ∃ X, S' = S ++ X) by
    obtain ⟨f, S', e, rfl, X, rfl⟩ := h
    rw [e]
    exact leave_more (by simp [below])
  have t1 : ∀ (x : D) (S : Store), mkT [x] S = .ok (.tup [x]) S := fun _ _ => mkT_v (sz (by simp))
  have t2 : ∀ (x y : D) (S : Store), mkT [x, y] S = .ok (.tup [x, y]) S := fun _ _ _ => mkT_v (sz (by simp))
  have lb : ∀ l : List Bool, l.length ≤ 2000 → ∀ S : Store, mkL true (bls l) S = .ok (.lst (bls l)) S := fun l hl S => mkL_v (sz (by rw [bls_len]; omega))
  have hl := PV_len A B T a
  have at0 : ∀ X : Store, (S ++ [O.lst (bls (PV A B T a))] ++ X)[S.length]? = some (.lst (bls (PV A B T a))) := fun X => get_push_old' (X := X)
  simp only [d__law_rows_right, v_maxd, v_dict, v_dget, x_dput, x_par, par_k, i_rngD, i_zip, v_agen, v_glob, v_chain, v_isx, x_raise, x_kept, x_nil, x_cons, x_set, x_unp, x_sets, x_expr, x_ret, x_pass, x_brk, x_cont, x_ite, x_for, x_whl, v_bl, v_int, v_str, v_ty, v_non, v_var, v_tup, v_lst, v_bin, v_neg, v_not, v_cmp, v_and, v_or, v_ife, v_call, v_blt, v_mth, v_sub, v_slc, v_comp, o_none, o_some, s_nil, s_cons, i_seq, i_rng1, i_rng2, i_enum, nx_nx, nx_rt, nx_bk, nx_ct, ite_t, ite_f, and_t, and_f, or_t, or_f, R.bind_ok, R.bind_assoc, ofO_some, tr_b, optI_i, itm_t, itm_l, seqL_l, gdOf_tup, gdOf_lst, neg_i, aug_i, add_i, sub_i, slc_t, slc_l, add_l, len_t, len_l, list_t, list_l, tuple_l, max_i, ls_i, le_i, gt_i, ge_i, sub_t, sub_l, List.getElem?_cons_zero, List.getElem?_cons_succ, List.set_cons_zero, List.set_cons_succ, Bool.not_true, Bool.not_false, c_al hb hT a (by omega) ha k S _ (.inr (.inr rfl)), List.length_map]
  rw [if_pos (by omega), R.bind_ok]
  simp only [Int.toNat_natCast]
  refine Sat.bind (P := fun f S' => ∃ x5 X, f = .nx [some (brd A B), some a.d, some b.d, some (.lst (T.map td)), some (.ref S.length), x5, none, none, none] ∧ S' = S ++ [.lst (bls (PV A B T a))] ++ X) ?_ fun f S1 ⟨x5, X, hf, hS⟩ => ?_
  · unfold forB
    refine for_satG (g := []) (fun i e S' => ∃ x5 X, e = [some (brd A B), some a.d, some b.d, some (.lst (T.map td)), some (.ref S.length), x5, none, none, none] ∧ S' = S ++ [.lst (bls (PV A B T a))] ++ X) (fun _ _ _ _ => gdOk_nil) ?_ (fun e S' ⟨x5, X, he, hS⟩ => ⟨x5, X, by rw [he], hS⟩) ⟨_, [], rfl, by simp⟩
    rintro i d e S1 hd ⟨x5, X, rfl, rfl⟩
    obtain ⟨hi, rfl⟩ := rng_get0 hd
    refine ⟨_, rfl, ?_⟩
    have l1 : ((T.take i).map td).length ≤ 1000 := by simp; omega
    simp only [List.set_cons_zero, List.set_cons_succ, v_maxd, v_dict, v_dget, x_dput, x_par, par_k, i_rngD, i_zip, v_agen, v_glob, v_chain, v_isx, x_raise, x_kept, x_nil, x_cons, x_set, x_unp, x_sets, x_expr, x_ret, x_pass, x_brk, x_cont, x_ite, x_for, x_whl, v_bl, v_int, v_str, v_ty, v_non, v_var, v_tup, v_lst, v_bin, v_neg, v_not, v_cmp, v_and, v_or, v_ife, v_call, v_blt, v_mth, v_sub, v_slc, v_comp, o_none, o_some, s_nil, s_cons, i_seq, i_rng1, i_rng2, i_enum, nx_nx, nx_rt, nx_bk, nx_ct, ite_t, ite_f, and_t, and_f, or_t, or_f, R.bind_ok, R.bind_assoc, ofO_some, tr_b, optI_i, itm_t, itm_l, seqL_l, gdOf_tup, gdOf_lst, neg_i, aug_i, add_i, sub_i, slc_t, slc_l, add_l, len_t, len_l, list_t, list_l, tuple_l, max_i, ls_i, le_i, gt_i, ge_i, sub_t, sub_l, List.getElem?_cons_zero, List.getElem?_cons_succ, List.set_cons_zero, List.set_cons_succ, Bool.not_true, Bool.not_false, cut_to]
    rw [← List.map_take, mkL_v (sz (by omega)), R.bind_ok]
    try simp only [v_maxd, v_dict, v_dget, x_dput, x_par, par_k, i_rngD, i_zip, v_agen, v_glob, v_chain, v_isx, x_raise, x_kept, x_nil, x_cons, x_set, x_unp, x_sets, x_expr, x_ret, x_pass, x_brk, x_cont, x_ite, x_for, x_whl, v_bl, v_int, v_str, v_ty, v_non, v_var, v_tup, v_lst, v_bin, v_neg, v_not, v_cmp, v_and, v_or, v_ife, v_call, v_blt, v_mth, v_sub, v_slc, v_comp, o_none, o_some, s_nil, s_cons, i_seq, i_rng1, i_rng2, i_enum, nx_nx, nx_rt, nx_bk, nx_ct, ite_t, ite_f, and_t, and_f, or_t, or_f, R.bind_ok, R.bind_assoc, ofO_some, tr_b, optI_i, itm_t, itm_l, seqL_l, gdOf_tup, gdOf_lst, neg_i, aug_i, add_i, sub_i, slc_t, slc_l, add_l, len_t, len_l, list_t, list_l, tuple_l, max_i, ls_i, le_i, gt_i, ge_i, sub_t, sub_l, List.getElem?_cons_zero, List.getElem?_cons_succ, List.set_cons_zero, List.set_cons_succ, Bool.not_true, Bool.not_false]
    have hTi : (T.take i).length ≤ 1000 := by simp; omega
    rw [c_al hb hTi a (by omega) ha k _ _ (.inr (.inr rfl)), R.bind_ok]
    generalize hS1 : S ++ [O.lst (bls (PV A B T a))] ++ X = S1
    have p1 : (S1 ++ [O.lst (bls (PV A B (T.take i) a))])[S1.length]? = some (.lst (bls (PV A B (T.take i) a))) := push_at
    have p0 : (S1 ++ [O.lst (bls (PV A B (T.take i) a))])[S.length]? = some (.lst (bls (PV A B T a))) := by
      rw [← hS1]
      exact get_push_old (at0 X)
    simp only [slc_r p0, cut_to, bls_take, lb ((PV A B T a).take i) (by rw [List.length_take, hl]; omega), R.bind_ok]
    rw [ne_bls (l := PV A B (T.take i) a) (m := (PV A B T a).take i) (by rw [py_r p1, py_bls]) (py_bls _), PV_take (by omega) a]
    simp only [decide_true, Bool.not_true, v_maxd, v_dict, v_dget, x_dput, x_par, par_k, i_rngD, i_zip, v_agen, v_glob, v_chain, v_isx, x_raise, x_kept, x_nil, x_cons, x_set, x_unp, x_sets, x_expr, x_ret, x_pass, x_brk, x_cont, x_ite, x_for, x_whl, v_bl, v_int, v_str, v_ty, v_non, v_var, v_tup, v_lst, v_bin, v_neg, v_not, v_cmp, v_and, v_or, v_ife, v_call, v_blt, v_mth, v_sub, v_slc, v_comp, o_none, o_some, s_nil, s_cons, i_seq, i_rng1, i_rng2, i_enum, nx_nx, nx_rt, nx_bk, nx_ct, ite_t, ite_f, and_t, and_f, or_t, or_f, R.bind_ok, R.bind_assoc, ofO_some, tr_b, optI_i, itm_t, itm_l, seqL_l, gdOf_tup, gdOf_lst, neg_i, aug_i, add_i, sub_i, slc_t, slc_l, add_l, len_t, len_l, list_t, list_l, tuple_l, max_i, ls_i, le_i, gt_i, ge_i, sub_t, sub_l, List.getElem?_cons_zero, List.getElem?_cons_succ, List.set_cons_zero, List.set_cons_succ, Bool.not_true, Bool.not_false]
    exact .ok ⟨_, X ++ [.lst (bls ((PV A B T a).take i))], rfl, by rw [← hS1]; simp⟩
  · subst hf hS
    simp only [v_maxd, v_dict, v_dget, x_dput, x_par, par_k, i_rngD, i_zip, v_agen, v_glob, v_chain, v_isx, x_raise, x_kept, x_nil, x_cons, x_set, x_unp, x_sets, x_expr, x_ret, x_pass, x_brk, x_cont, x_ite, x_for, x_whl, v_bl, v_int, v_str, v_ty, v_non, v_var, v_tup, v_lst, v_bin, v_neg, v_not, v_cmp, v_and, v_or, v_ife, v_call, v_blt, v_mth, v_sub, v_slc, v_comp, o_none, o_some, s_nil, s_cons, i_seq, i_rng1, i_rng2, i_enum, nx_nx, nx_rt, nx_bk, nx_ct, ite_t, ite_f, and_t, and_f, or_t, or_f, R.bind_ok, R.bind_assoc, ofO_some, tr_b, optI_i, itm_t, itm_l, seqL_l, gdOf_tup, gdOf_lst, neg_i, aug_i, add_i, sub_i, slc_t, slc_l, add_l, len_t, len_l, list_t, list_l, tuple_l, max_i, ls_i, le_i, gt_i, ge_i, sub_t, sub_l, List.getElem?_cons_zero, List.getElem?_cons_succ, List.set_cons_zero, List.set_cons_succ, Bool.not_true, Bool.not_false, t1, t2]
    rw [show D.tup [.str "before", .tup [.str "not", a.d]] = (W.bf (.nt a)).d from rfl, c_al hb hT (.bf (.nt a)) (by simp only [W.dep]; omega) ha k _ _ (.inr (.inr rfl)), R.bind_ok]
    generalize hS1 : S ++ [O.lst (bls (PV A B T a))] ++ X = S1
    have p1 : (S1 ++ [O.lst (bls (PV A B T (.bf (.nt a))))])[S1.length]? = some (.lst (bls (PV A B T (.bf (.nt a))))) := push_at
    have p0 : (S1 ++ [O.lst (bls (PV A B T (.bf (.nt a))))])[S.length]? = some (.lst (bls (PV A B T a))) := by
      rw [← hS1]
      exact get_push_old (at0 X)
    simp only [mkL_v (l := [D.bl false]) (sz (by simp)), v_maxd, v_dict, v_dget, x_dput, x_par, par_k, i_rngD, i_zip, v_agen, v_glob, v_chain, v_isx, x_raise, x_kept, x_nil, x_cons, x_set, x_unp, x_sets, x_expr, x_ret, x_pass, x_brk, x_cont, x_ite, x_for, x_whl, v_bl, v_int, v_str, v_ty, v_non, v_var, v_tup, v_lst, v_bin, v_neg, v_not, v_cmp, v_and, v_or, v_ife, v_call, v_blt, v_mth, v_sub, v_slc, v_comp, o_none, o_some, s_nil, s_cons, i_seq, i_rng1, i_rng2, i_enum, nx_nx, nx_rt, nx_bk, nx_ct, ite_t, ite_f, and_t, and_f, or_t, or_f, R.bind_ok, R.bind_assoc, ofO_some, tr_b, optI_i, itm_t, itm_l, seqL_l, gdOf_tup, gdOf_lst, neg_i, aug_i, add_i, sub_i, slc_t, slc_l, add_l, len_t, len_l, list_t, list_l, tuple_l, max_i, ls_i, le_i, gt_i, ge_i, sub_t, sub_l, List.getElem?_cons_zero, List.getElem?_cons_succ, List.set_cons_zero, List.set_cons_succ, Bool.not_true, Bool.not_false, slc_r p0, cut_neg1, bls_take, bls_len]
    rw [lb _ (by rw [List.length_take, hl]; omega), R.bind_ok]
    try simp only [v_maxd, v_dict, v_dget, x_dput, x_par, par_k, i_rngD, i_zip, v_agen, v_glob, v_chain, v_isx, x_raise, x_kept, x_nil, x_cons, x_set, x_unp, x_sets, x_expr, x_ret, x_pass, x_brk, x_cont, x_ite, x_for, x_whl, v_bl, v_int, v_str, v_ty, v_non, v_var, v_tup, v_lst, v_bin, v_neg, v_not, v_cmp, v_and, v_or, v_ife, v_call, v_blt, v_mth, v_sub, v_slc, v_comp, o_none, o_some, s_nil, s_cons, i_seq, i_rng1, i_rng2, i_enum, nx_nx, nx_rt, nx_bk, nx_ct, ite_t, ite_f, and_t, and_f, or_t, or_f, R.bind_ok, R.bind_assoc, ofO_some, tr_b, optI_i, itm_t, itm_l, seqL_l, gdOf_tup, gdOf_lst, neg_i, aug_i, add_i, sub_i, slc_t, slc_l, add_l, len_t, len_l, list_t, list_l, tuple_l, max_i, ls_i, le_i, gt_i, ge_i, sub_t, sub_l, List.getElem?_cons_zero, List.getElem?_cons_succ, List.set_cons_zero, List.set_cons_succ, Bool.not_true, Bool.not_false]
    rw [comp_map notD gdOk_nil _ (sz' (by rw [bls_len, List.length_take, hl]; omega)) (fun d hd => by
      obtain ⟨b, _, rfl⟩ := List.mem_map.mp hd
      refine ⟨_, rfl, ?_⟩
      simp only [wipe, List.set_cons_zero, List.set_cons_succ, v_maxd, v_dict, v_dget, x_dput, x_par, par_k, i_rngD, i_zip, v_agen, v_glob, v_chain, v_isx, x_raise, x_kept, x_nil, x_cons, x_set, x_unp, x_sets, x_expr, x_ret, x_pass, x_brk, x_cont, x_ite, x_for, x_whl, v_bl, v_int, v_str, v_ty, v_non, v_var, v_tup, v_lst, v_bin, v_neg, v_not, v_cmp, v_and, v_or, v_ife, v_call, v_blt, v_mth, v_sub, v_slc, v_comp, o_none, o_some, s_nil, s_cons, i_seq, i_rng1, i_rng2, i_enum, nx_nx, nx_rt, nx_bk, nx_ct, ite_t, ite_f, and_t, and_f, or_t, or_f, R.bind_ok, R.bind_assoc, ofO_some, tr_b, optI_i, itm_t, itm_l, seqL_l, gdOf_tup, gdOf_lst, neg_i, aug_i, add_i, sub_i, slc_t, slc_l, add_l, len_t, len_l, list_t, list_l, tuple_l, max_i, ls_i, le_i, gt_i, ge_i, sub_t, sub_l, List.getElem?_cons_zero, List.getElem?_cons_succ, List.set_cons_zero, List.set_cons_succ, Bool.not_true, Bool.not_false]
      rfl), R.bind_ok, map_not, lb _ (by rw [List.length_map, List.length_take, hl]; omega), R.bind_ok]
    try simp only [v_maxd, v_dict, v_dget, x_dput, x_par, par_k, i_rngD, i_zip, v_agen, v_glob, v_chain, v_isx, x_raise, x_kept, x_nil, x_cons, x_set, x_unp, x_sets, x_expr, x_ret, x_pass, x_brk, x_cont, x_ite, x_for, x_whl, v_bl, v_int, v_str, v_ty, v_non, v_var, v_tup, v_lst, v_bin, v_neg, v_not, v_cmp, v_and, v_or, v_ife, v_call, v_blt, v_mth, v_sub, v_slc, v_comp, o_none, o_some, s_nil, s_cons, i_seq, i_rng1, i_rng2, i_enum, nx_nx, nx_rt, nx_bk, nx_ct, ite_t, ite_f, and_t, and_f, or_t, or_f, R.bind_ok, R.bind_assoc, ofO_some, tr_b, optI_i, itm_t, itm_l, seqL_l, gdOf_tup, gdOf_lst, neg_i, aug_i, add_i, sub_i, slc_t, slc_l, add_l, len_t, len_l, list_t, list_l, tuple_l, max_i, ls_i, le_i, gt_i, ge_i, sub_t, sub_l, List.getElem?_cons_zero, List.getElem?_cons_succ, List.set_cons_zero, List.set_cons_succ, Bool.not_true, Bool.not_false]
    rw [show [D.bl false] ++ bls (((PV A B T a).take ((PV A B T a).length - 1)).map (!·)) = bls (false :: ((PV A B T a).take ((PV A B T a).length - 1)).map (!·)) from rfl, lb _ (by simp [hl]; omega), R.bind_ok]
    have e2 : PV A B T (.bf (.nt a)) = false :: ((PV A B T a).take ((PV A B T a).length - 1)).map (!·) := by
      show (false :: (PV A B T a).map (!·)).take T.length = _
      rw [hl]
      obtain ⟨n, hn⟩ : ∃ n, T.length = n + 1 := ⟨T.length - 1, by omega⟩
      rw [hn, List.take_succ_cons, Nat.add_sub_cancel, List.map_take]
    rw [ne_bls (by rw [py_r p1, py_bls]) (py_bls _), ← e2]
    simp only [decide_true, Bool.not_true, v_maxd, v_dict, v_dget, x_dput, x_par, par_k, i_rngD, i_zip, v_agen, v_glob, v_chain, v_isx, x_raise, x_kept, x_nil, x_cons, x_set, x_unp, x_sets, x_expr, x_ret, x_pass, x_brk, x_cont, x_ite, x_for, x_whl, v_bl, v_int, v_str, v_ty, v_non, v_var, v_tup, v_lst, v_bin, v_neg, v_not, v_cmp, v_and, v_or, v_ife, v_call, v_blt, v_mth, v_sub, v_slc, v_comp, o_none, o_some, s_nil, s_cons, i_seq, i_rng1, i_rng2, i_enum, nx_nx, nx_rt, nx_bk, nx_ct, ite_t, ite_f, and_t, and_f, or_t, or_f, R.bind_ok, R.bind_assoc, ofO_some, tr_b, optI_i, itm_t, itm_l, seqL_l, gdOf_tup, gdOf_lst, neg_i, aug_i, add_i, sub_i, slc_t, slc_l, add_l, len_t, len_l, list_t, list_l, tuple_l, max_i, ls_i, le_i, gt_i, ge_i, sub_t, sub_l, List.getElem?_cons_zero, List.getElem?_cons_succ, List.set_cons_zero, List.set_cons_succ, Bool.not_true, Bool.not_false, c_pairs]
    refine Sat.bind (P := fun f S' => ∃ x6 x7 X, f = .nx [some (brd A B), some a.d, some b.d, some (.lst (T.map td)), some (.ref S.length), x5, x6, x7, none] ∧ S' = S ++ [.lst (bls (PV A B T a))] ++ X) ?_ fun f S2 ⟨x6, x7, X, hf, hS⟩ => ?_
    · unfold forB
      refine for_satG (g := []) (fun i e S' => ∃ x6 x7 X, e = [some (brd A B), some a.d, some b.d, some (.lst (T.map td)), some (.ref S.length), x5, x6, x7, none] ∧ S' = S ++ [.lst (bls (PV A B T a))] ++ X) (fun _ _ _ _ => gdOk_nil) ?_ (fun e S' ⟨x6, x7, X, he, hS⟩ => ⟨x6, x7, X, by rw [he], hS⟩) ⟨none, none, X ++ [.lst (bls (PV A B T (.bf (.nt a))))], rfl, by rw [← hS1]; simp⟩
      rintro i d e S2 hd ⟨x6, x7, X, rfl, rfl⟩
      obtain ⟨p, hp, rfl⟩ := List.mem_map.mp (List.mem_of_getElem? hd)
      obtain ⟨⟨o1, q1⟩, o2, q2⟩ := prs_ok ha hb' da db p hp
      refine ⟨_, rfl, ?_⟩
      simp only [asgs, List.set_cons_zero, List.set_cons_succ, v_maxd, v_dict, v_dget, x_dput, x_par, par_k, i_rngD, i_zip, v_agen, v_glob, v_chain, v_isx, x_raise, x_kept, x_nil, x_cons, x_set, x_unp, x_sets, x_expr, x_ret, x_pass, x_brk, x_cont, x_ite, x_for, x_whl, v_bl, v_int, v_str, v_ty, v_non, v_var, v_tup, v_lst, v_bin, v_neg, v_not, v_cmp, v_and, v_or, v_ife, v_call, v_blt, v_mth, v_sub, v_slc, v_comp, o_none, o_some, s_nil, s_cons, i_seq, i_rng1, i_rng2, i_enum, nx_nx, nx_rt, nx_bk, nx_ct, ite_t, ite_f, and_t, and_f, or_t, or_f, R.bind_ok, R.bind_assoc, ofO_some, tr_b, optI_i, itm_t, itm_l, seqL_l, gdOf_tup, gdOf_lst, neg_i, aug_i, add_i, sub_i, slc_t, slc_l, add_l, len_t, len_l, list_t, list_l, tuple_l, max_i, ls_i, le_i, gt_i, ge_i, sub_t, sub_l, List.getElem?_cons_zero, List.getElem?_cons_succ, List.set_cons_zero, List.set_cons_succ, Bool.not_true, Bool.not_false]
      generalize hS2 : S ++ [O.lst (bls (PV A B T a))] ++ X = S2
      rw [c_al hb hT p.1 (by omega) o1 k _ _ (.inr (.inr rfl)), R.bind_ok, c_al hb hT p.2 (by omega) o2 k _ _ (.inr (.inr rfl)), R.bind_ok]
      have p1 : (S2 ++ [O.lst (bls (PV A B T p.1))] ++ [.lst (bls (PV A B T p.2))])[S2.length]? = some (.lst (bls (PV A B T p.1))) := get_push_old push_at
      have p2 : (S2 ++ [O.lst (bls (PV A B T p.1))] ++ [.lst (bls (PV A B T p.2))])[(S2 ++ [O.lst (bls (PV A B T p.1))]).length]? = some (.lst (bls (PV A B T p.2))) := push_at
      rw [ne_bls (by rw [py_r p1, py_bls]) (by rw [py_r p2, py_bls])]
      have e3 : PV A B T p.1 = PV A B T p.2 := by rw [PV_fin, PV_fin, prs_eq _ a b p hp]
      rw [e3]
      simp only [decide_true, Bool.not_true, v_maxd, v_dict, v_dget, x_dput, x_par, par_k, i_rngD, i_zip, v_agen, v_glob, v_chain, v_isx, x_raise, x_kept, x_nil, x_cons, x_set, x_unp, x_sets, x_expr, x_ret, x_pass, x_brk, x_cont, x_ite, x_for, x_whl, v_bl, v_int, v_str, v_ty, v_non, v_var, v_tup, v_lst, v_bin, v_neg, v_not, v_cmp, v_and, v_or, v_ife, v_call, v_blt, v_mth, v_sub, v_slc, v_comp, o_none, o_some, s_nil, s_cons, i_seq, i_rng1, i_rng2, i_enum, nx_nx, nx_rt, nx_bk, nx_ct, ite_t, ite_f, and_t, and_f, or_t, or_f, R.bind_ok, R.bind_assoc, ofO_some, tr_b, optI_i, itm_t, itm_l, seqL_l, gdOf_tup, gdOf_lst, neg_i, aug_i, add_i, sub_i, slc_t, slc_l, add_l, len_t, len_l, list_t, list_l, tuple_l, max_i, ls_i, le_i, gt_i, ge_i, sub_t, sub_l, List.getElem?_cons_zero, List.getElem?_cons_succ, List.set_cons_zero, List.set_cons_succ, Bool.not_true, Bool.not_false]
      exact .ok ⟨_, _, X ++ [.lst (bls (PV A B T p.2)), .lst (bls (PV A B T p.2))], rfl, by rw [← hS2]; simp⟩
    · subst hf hS
      simp only [v_maxd, v_dict, v_dget, x_dput, x_par, par_k, i_rngD, i_zip, v_agen, v_glob, v_chain, v_isx, x_raise, x_kept, x_nil, x_cons, x_set, x_unp, x_sets, x_expr, x_ret, x_pass, x_brk, x_cont, x_ite, x_for, x_whl, v_bl, v_int, v_str, v_ty, v_non, v_var, v_tup, v_lst, v_bin, v_neg, v_not, v_cmp, v_and, v_or, v_ife, v_call, v_blt, v_mth, v_sub, v_slc, v_comp, o_none, o_some, s_nil, s_cons, i_seq, i_rng1, i_rng2, i_enum, nx_nx, nx_rt, nx_bk, nx_ct, ite_t, ite_f, and_t, and_f, or_t, or_f, R.bind_ok, R.bind_assoc, ofO_some, tr_b, optI_i, itm_t, itm_l, seqL_l, gdOf_tup, gdOf_lst, neg_i, aug_i, add_i, sub_i, slc_t, slc_l, add_l, len_t, len_l, list_t, list_l, tuple_l, max_i, ls_i, le_i, gt_i, ge_i, sub_t, sub_l, List.getElem?_cons_zero, List.getElem?_cons_succ, List.set_cons_zero, List.set_cons_succ, Bool.not_true, Bool.not_false, t2]
      rw [show D.tup [.str "not", .tup [.str "not", a.d]] = (W.nt (.nt a)).d from rfl, c_al hb hT (.nt (.nt a)) (by simp only [W.dep]; omega) ha k _ _ (.inr (.inr rfl)), R.bind_ok]
      generalize hS2 : S ++ [O.lst (bls (PV A B T a))] ++ X = S2
      have p1 : (S2 ++ [O.lst (bls (PV A B T (.nt (.nt a))))])[S2.length]? = some (.lst (bls (PV A B T (.nt (.nt a))))) := push_at
      have p0 : (S2 ++ [O.lst (bls (PV A B T (.nt (.nt a))))])[S.length]? = some (.lst (bls (PV A B T a))) := by
        rw [← hS2]
        exact get_push_old (at0 X)
      have e4 : PV A B T (.nt (.nt a)) = PV A B T a := by
        show ((PV A B T a).map (!·)).map (!·) = _
        rw [List.map_map]
        simp [Function.comp_def]
      rw [eq_bls (by rw [py_r p1, py_bls]) (by rw [py_r p0, py_bls]), e4]
      simp only [decide_true, v_maxd, v_dict, v_dget, x_dput, x_par, par_k, i_rngD, i_zip, v_agen, v_glob, v_chain, v_isx, x_raise, x_kept, x_nil, x_cons, x_set, x_unp, x_sets, x_expr, x_ret, x_pass, x_brk, x_cont, x_ite, x_for, x_whl, v_bl, v_int, v_str, v_ty, v_non, v_var, v_tup, v_lst, v_bin, v_neg, v_not, v_cmp, v_and, v_or, v_ife, v_call, v_blt, v_mth, v_sub, v_slc, v_comp, o_none, o_some, s_nil, s_cons, i_seq, i_rng1, i_rng2, i_enum, nx_nx, nx_rt, nx_bk, nx_ct, ite_t, ite_f, and_t, and_f, or_t, or_f, R.bind_ok, R.bind_assoc, ofO_some, tr_b, optI_i, itm_t, itm_l, seqL_l, gdOf_tup, gdOf_lst, neg_i, aug_i, add_i, sub_i, slc_t, slc_l, add_l, len_t, len_l, list_t, list_l, tuple_l, max_i, ls_i, le_i, gt_i, ge_i, sub_t, sub_l, List.getElem?_cons_zero, List.getElem?_cons_succ, List.set_cons_zero, List.set_cons_succ, Bool.not_true, Bool.not_false]
      exact .ok ⟨rfl, [.lst (bls (PV A B T a))] ++ X ++ [.lst (bls (PV A B T a))], by rw [← hS2]; simp⟩
end K23

namespace K23
open PySem Mn
/-! ### loops of one row -/
abbrev alwB (A B : List Str) (F U : List (Int × Int)) (w : W) : Bool := (PV A B (lp F U (1 + ld w)) w).all id
abbrev agnB (A B : List Str) (F U : List (Int × Int)) (w : W) : Bool := ((PV A B (lp F U (1 + ld w)) w).drop ((lp F U (1 + ld w)).length - U.length)).any id
section
variable {A B : List Str} {F U : List (Int × Int)}
theorem alw_iff (hU : 1 ≤ U.length) (w : W) : alwB A B F U w = true ↔ ∀ k, HI A B F U w k = true := by
  show (PV A B (lp F U (1 + ld w)) w).all id = true ↔ _
  rw [PV_I hU, all_rng]
  have q1 : F.length + ld w * U.length + U.length ≤ (lp F U (1 + ld w)).length := by rw [lp_len, Nat.add_mul]; omega
  exact ⟨fun h => per_all hU (HI_per hU w) _ q1 h, fun h k _ => h k⟩
theorem agn_iff (hU : 1 ≤ U.length) (w : W) : agnB A B F U w = true ↔ ∀ n, ∃ k, n ≤ k ∧ HI A B F U w k = true := by
  show ((PV A B (lp F U (1 + ld w)) w).drop ((lp F U (1 + ld w)).length - U.length)).any id = true ↔ _
  rw [PV_I hU, any_rng]
  have q1 : F.length + ld w * U.length + U.length = (lp F U (1 + ld w)).length := by rw [lp_len, Nat.add_mul]; omega
  have hp := HI_per (A := A) (B := B) (F := F) hU w
  constructor
  · rintro ⟨k, h1, h2, h3⟩ n
    refine ⟨k + n * U.length, ?_, ?_⟩
    · have : n * 1 ≤ n * U.length := Nat.mul_le_mul_left _ hU
      omega
    · rw [per_mul hp k (by omega) n]
      exact h3
  · intro h
    obtain ⟨k, h1, h2⟩ := h (F.length + ld w * U.length)
    obtain ⟨j, j1, j2, j3⟩ := per_win hU hp ((lp F U (1 + ld w)).length - U.length) (by omega) k h1 h2
    exact ⟨j, j1, by omega, j3⟩
theorem HI_row {F' U' : List (Int × Int)} (h : ∀ k, row F' U' k = row F U k) (w : W) : HI A B F' U' w = HI A B F U w := by
  have : sgI A B F' U' = sgI A B F U := by
    funext x k
    unfold sgI
    rw [h]
  show vI _ w = vI _ w
  rw [this]
theorem alw_row {F' U' : List (Int × Int)} (hU : 1 ≤ U.length) (hU' : 1 ≤ U'.length) (h : ∀ k, row F' U' k = row F U k) (w : W) : alwB A B F' U' w = alwB A B F U w := by
  rw [Bool.eq_iff_iff, alw_iff hU', alw_iff hU, HI_row h]
theorem agn_row {F' U' : List (Int × Int)} (hU : 1 ≤ U.length) (hU' : 1 ≤ U'.length) (h : ∀ k, row F' U' k = row F U k) (w : W) : agnB A B F' U' w = agnB A B F U w := by
  rw [Bool.eq_iff_iff, agn_iff hU', agn_iff hU, HI_row h]
theorem row_a (hU : 1 ≤ U.length) (k : Nat) : row (F ++ U) U k = row F U k := by
  unfold row
  rw [List.length_append]
  by_cases h1 : k < F.length
  · rw [if_pos (by omega), if_pos h1, List.getD_eq_getElem?_getD, List.getD_eq_getElem?_getD, List.getElem?_append_left h1]
  · rw [if_neg h1]
    by_cases h2 : k < F.length + U.length
    · rw [if_pos h2, List.getD_eq_getElem?_getD, List.getD_eq_getElem?_getD, List.getElem?_append_right (by omega), Nat.mod_eq_of_lt (by omega)]
    · rw [if_neg h2]
      congr 1
      rw [show k - (F.length + U.length) = (k - F.length) - U.length by omega, ← Nat.mod_eq_sub_mod (by omega)]
theorem row_b (hU : 1 ≤ U.length) (k : Nat) : row F (rp 2 U) k = row F U k := by
  have e : rp 2 U = U ++ U := by simp [rp, List.replicate_succ]
  rw [e]
  unfold row
  by_cases h1 : k < F.length
  · rw [if_pos h1, if_pos h1]
  · rw [if_neg h1, if_neg h1, List.length_append]
    generalize k - F.length = j
    have m1 := Nat.mod_lt j (show 0 < U.length + U.length by omega)
    have m2 : j % (U.length + U.length) % U.length = j % U.length := Nat.mod_mod_of_dvd _ ⟨2, by omega⟩
    rw [← m2]
    generalize j % (U.length + U.length) = i at m1
    rw [List.getD_eq_getElem?_getD, List.getD_eq_getElem?_getD]
    by_cases h2 : i < U.length
    · rw [List.getElem?_append_left h2, Nat.mod_eq_of_lt h2]
    · rw [List.getElem?_append_right (by omega), Nat.mod_eq_sub_mod (by omega), Nat.mod_eq_of_lt (by omega)]
theorem row_c {u : Int × Int} {V : List (Int × Int)} (k : Nat) : row (F ++ [u]) (V ++ [u]) k = row F (u :: V) k := by
  unfold row
  simp only [List.length_append, List.length_cons, List.length_nil, Nat.zero_add]
  by_cases h1 : k < F.length
  · rw [if_pos (by omega), if_pos h1, List.getD_eq_getElem?_getD, List.getD_eq_getElem?_getD, List.getElem?_append_left h1]
  · rw [if_neg h1]
    by_cases h2 : k < F.length + 1
    · have : k = F.length := by omega
      subst this
      rw [if_pos h2, List.getD_eq_getElem?_getD, List.getElem?_append_right (Nat.le_refl _), Nat.sub_self, Nat.zero_mod]
      rfl
    · rw [if_neg h2]
      obtain ⟨j, hj⟩ : ∃ j, k = F.length + 1 + j := ⟨k - (F.length + 1), by omega⟩
      subst hj
      rw [show F.length + 1 + j - (F.length + 1) = j by omega, show F.length + 1 + j - F.length = j + 1 by omega]
      have m1 := Nat.mod_lt j (show 0 < V.length + 1 by omega)
      have m2 : (j + 1) % (V.length + 1) = (j % (V.length + 1) + 1) % (V.length + 1) := by rw [Nat.add_mod, Nat.add_mod (j % (V.length + 1)) 1, Nat.mod_mod]
      rw [m2]
      generalize j % (V.length + 1) = i at m1
      rw [List.getD_eq_getElem?_getD, List.getD_eq_getElem?_getD]
      by_cases h3 : i < V.length
      · rw [List.getElem?_append_left h3, Nat.mod_eq_of_lt (by omega), List.getElem?_cons_succ]
      · have : i = V.length := by omega
        subst this
        rw [List.getElem?_append_right (Nat.le_refl _), Nat.sub_self, Nat.mod_self]
        rfl
/-- was not: it is broken once -/
theorem brk_iff (hU : 1 ≤ U.length) (w : W) : agnB A B F U (.ws (.nt w)) = !alwB A B F U w := by
  rw [Bool.eq_iff_iff, agn_iff hU, Bool.not_eq_true']
  have e : HI A B F U (.ws (.nt w)) = wasI (fun k => !HI A B F U w k) := rfl
  rw [e]
  constructor
  · intro h
    obtain ⟨k, _, hk⟩ := h 0
    obtain ⟨j, _, hj⟩ := (wasI_iff k).mp hk
    cases ha : alwB A B F U w with
    | false => rfl
    | true =>
      rw [(alw_iff hU w).mp ha j] at hj
      cases hj
  · intro h n
    have : ¬ ∀ k, HI A B F U w k = true := fun z => by
      rw [(alw_iff hU w).mpr z] at h
      cases h
    obtain ⟨j, hj⟩ := Classical.not_forall.mp this
    refine ⟨n + j, by omega, (wasI_iff _).mpr ⟨j, by omega, ?_⟩⟩
    simpa using hj
theorem was_iff (hU : 1 ≤ U.length) (w : W) : alwB A B F U (.ws w) = HI A B F U w 0 := by
  rw [Bool.eq_iff_iff, alw_iff hU]
  have e : HI A B F U (.ws w) = wasI (HI A B F U w) := rfl
  rw [e]
  constructor
  · intro h; exact h 0
  · intro h k; exact (wasI_iff k).mpr ⟨0, by omega, h⟩
theorem first_val (hU : 1 ≤ U.length) (w : W) : PV A B ((F ++ U).take 1) w = [HI A B F U w 0] := by
  have e : F ++ U = lp F U 1 := by simp [lp, rp]
  have h1 : 1 ≤ (lp F U 1).length := by rw [lp_len]; omega
  rw [e, PV_take h1, PV_I hU]
  obtain ⟨n, hn⟩ : ∃ n, (lp F U 1).length = n + 1 := ⟨(lp F U 1).length - 1, by omega⟩
  rw [hn, List.range_succ_eq_map]
  simp
end
/-! ### pairs of truths -/
def tt (a b : Bool) : D := .tup [.bl a, .bl b]
theorem ne_four {S : Store} (a b : Bool) : cmpA .NotEq (.lst [tt a b, tt a b, tt a b, tt a b]) (.lst [tt a b, tt a b, tt a b, tt a b]) S = some false := by
  show (eqA S (.lst [tt a b, tt a b, tt a b, tt a b]) (.lst [tt a b, tt a b, tt a b, tt a b])).map (!·) = _
  unfold eqA
  have e : py S (.lst [tt a b, tt a b, tt a b, tt a b]) = some (.list [.tuple [.bool a, .bool b], .tuple [.bool a, .bool b], .tuple [.bool a, .bool b], .tuple [.bool a, .bool b]]) := rfl
  rw [e]
  simp only [Option.bind_some]
  cases a <;> cases b <;> decide +kernel
theorem eq_b {S : Store} {a b : Bool} : cmpA .Eq (.bl a) (.bl b) S = some (a == b) := eqA_bl a b
theorem c_alw {A B : List Str} {F U : List (Int × Int)} (hb : Bd A B) (hl : LK A B F U) (w : W) (hw : w.ok (A ++ B)) (hd : w.dep ≤ 10) (k : Nat) (S : Store) :
    CC (k + 18) "holds_always" [brd A B, w.d, LD F U] S = .ok (.bl (alwB A B F U w)) S := by
  have := c_always hb hl w hw (by omega) (k + 10 - w.dep) S
  rwa [show k + 10 - w.dep + w.dep + 8 = k + 18 by omega] at this
theorem c_agn {A B : List Str} {F U : List (Int × Int)} (hb : Bd A B) (hl : LK A B F U) (w : W) (hw : w.ok (A ++ B)) (hd : w.dep ≤ 10) (k : Nat) (S : Store) :
    CC (k + 18) "holds_again" [brd A B, w.d, LD F U] S = .ok (.bl (agnB A B F U w)) S := by
  have := c_again hb hl w hw (by omega) (k + 10 - w.dep) S
  rwa [show k + 10 - w.dep + w.dep + 8 = k + 18 by omega] at this
theorem comp_four {G : Globs} {call : String → List D → Store → R D} {t : E} {e0 : Mn.Env} {S : Store} {i : Nat} {d1 d2 d3 d4 y1 y2 y3 y4 : D} (h1 : evE G call t (e0.set i (some d1)) S = .ok y1 S) (h2 : evE G call t (e0.set i (some d2)) S = .ok y2 S) (h3 : evE G call t (e0.set i (some d3)) S = .ok y3 S) (h4 : evE G call t (e0.set i (some d4)) S = .ok y4 S) :
    cmpB G call [] (.nm i) .none t e0 [d1, d2, d3, d4] S = .ok [y1, y2, y3, y4] S := by
  unfold cmpB
  simp only [compA, gdOk_nil, if_true, asg, oc_none, tru, R.bind_ok, tr_b, ofO_some, nox_ok, h1, h2, h3, h4, List.nil_append, List.length_nil, List.length_append, List.length_cons, List.cons_append]
  rw [if_pos (by decide), if_pos (by decide), if_pos (by decide), if_pos (by decide)]
theorem c_loops {A B : List Str} {F U : List (Int × Int)} (hb : Bd A B) (hF : F.length ≤ 3) (hU1 : 1 ≤ U.length) (hU3 : U.length ≤ 3) (kF : ∀ t ∈ F, tok A B t) (kU : ∀ t ∈ U, tok A B t) (a : W) (ha : a.ok (A ++ B)) (da : a.dep ≤ 3) (k : Nat) (S : Store) :
    CC (k + 24) "_law_loops_right" [brd A B, a.d, LD F U] S = .ok (.bl true) S := by
  obtain ⟨u, V, rfl⟩ : ∃ u V, U = u :: V := by
    cases U with
    | nil => simp at hU1
    | cons u V => exact ⟨u, V, rfl⟩
  have kFU : ∀ t ∈ F ++ (u :: V), tok A B t := fun t h => (List.mem_append.mp h).elim (kF t) (kU t)
  have hlV : V.length + 1 ≤ 3 := hU3
  have l1 : LK A B F (u :: V) := ⟨by omega, hU1, by simp only [List.length_cons]; omega, kF, kU⟩
  have l2 : LK A B (F ++ u :: V) (u :: V) := ⟨by simp; omega, hU1, by simp only [List.length_cons]; omega, kFU, kU⟩
  have l3 : LK A B F (rp 2 (u :: V)) := ⟨by omega, by rw [rp_len]; simp only [List.length_cons]; omega, by rw [rp_len]; simp only [List.length_cons]; omega, kF, fun t h => by
    have e : rp 2 (u :: V) = (u :: V) ++ (u :: V) := by simp [rp, List.replicate_succ]
    rw [e] at h
    exact (List.mem_append.mp h).elim (kU t) (kU t)⟩
  have l4 : LK A B (F ++ [u]) (V ++ [u]) := ⟨by simp; omega, by simp, by simp; omega, fun t h => (List.mem_append.mp h).elim (kF t) fun z => kU t (by rw [List.mem_singleton.mp z]; simp), fun t h => (List.mem_append.mp h).elim (fun z => kU t (List.mem_cons_of_mem _ z)) fun z => kU t (by rw [List.mem_singleton.mp z]; simp)⟩
  rw [show CC (k + 24) "_law_loops_right" [brd A B, a.d, LD F (u :: V)] S = _ from call_step (k := k + 23) (d := d__law_loops_right) rfl rfl]
  show leave .pure S (exB Gs 1000000 (CC (k + 23)) d__law_loops_right.body [some (brd A B), some a.d, some (LD F (u :: V)), none, none, none, none, none, none] S) = _
  have t1 : ∀ (x : D) (S : Store), mkT [x] S = .ok (.tup [x]) S := fun _ _ => mkT_v (sz (by simp))
  have t2 : ∀ (x y : D) (S : Store), mkT [x, y] S = .ok (.tup [x, y]) S := fun _ _ _ => mkT_v (sz (by simp))
  have e0 : asg (.tp [6, 7]) (LD F (u :: V)) [some (brd A B), some a.d, some (LD F (u :: V)), none, none, none, none, none, none] = some [some (brd A B), some a.d, some (LD F (u :: V)), none, none, none, some (.tup (F.map td)), some (.tup ((u :: V).map td)), none] := rfl
  have c1 : cutA ((u :: V).map td) none (some 1) = [td u] := by
    have := cut_to (l := (u :: V).map td) (k := 1)
    simpa using this
  have c2 : cutA ((u :: V).map td) (some 1) none = V.map td := cut1
  have m2 : binA true .Mult (.tup ((u :: V).map td)) (.int 2) S = .ok (.tup ((rp 2 (u :: V)).map td)) S := by
    have := mul_tt (S := S) (l := (u :: V).map td) (k := 2) (by decide) (by simp; omega)
    rw [this]
    have := rep_td 2 (u :: V)
    rw [show ((2 : Nat) : Int) = 2 from rfl] at this
    rw [this]
  have a1 : binA true .Add (.tup (F.map td)) (.tup ((u :: V).map td)) S = .ok (.tup ((F ++ u :: V).map td)) S := by
    rw [add_t (sz (by simp; omega)), List.map_append]
  have a2 : binA true .Add (.tup (F.map td)) (.tup [td u]) S = .ok (.tup ((F ++ [u]).map td)) S := by
    rw [add_t (sz (by simp; omega)), List.map_append]
    rfl
  have a3 : binA true .Add (.tup (V.map td)) (.tup [td u]) S = .ok (.tup ((V ++ [u]).map td)) S := by
    rw [add_t (sz (by simp; omega)), List.map_append]
    rfl
  have w1 := fun w hw hd => c_alw hb l1 w hw hd (k + 5) S
  have w2 := fun w hw hd => c_alw hb l2 w hw hd (k + 5) S
  have w3 := fun w hw hd => c_alw hb l3 w hw hd (k + 5) S
  have w4 := fun w hw hd => c_alw hb l4 w hw hd (k + 5) S
  have g1 := fun w hw hd => c_agn hb l1 w hw hd (k + 5) S
  have g2 := fun w hw hd => c_agn hb l2 w hw hd (k + 5) S
  have g3 := fun w hw hd => c_agn hb l3 w hw hd (k + 5) S
  have g4 := fun w hw hd => c_agn hb l4 w hw hd (k + 5) S
  have z : ∃ X, exB Gs 1000000 (CC (k + 23)) d__law_loops_right.body [some (brd A B), some a.d, some (LD F (u :: V)), none, none, none, none, none, none] S = .ok (.rt (.bl true)) (S ++ X) := by
    simp only [d__law_loops_right, v_maxd, v_dict, v_dget, x_dput, x_par, par_k, i_rngD, i_zip, v_agen, v_glob, v_chain, v_isx, x_raise, x_kept, x_nil, x_cons, x_set, x_unp, x_sets, x_expr, x_ret, x_pass, x_brk, x_cont, x_ite, x_for, x_whl, v_bl, v_int, v_str, v_ty, v_non, v_var, v_tup, v_lst, v_bin, v_neg, v_not, v_cmp, v_and, v_or, v_ife, v_call, v_blt, v_mth, v_sub, v_slc, v_comp, o_none, o_some, s_nil, s_cons, i_seq, i_rng1, i_rng2, i_enum, nx_nx, nx_rt, nx_bk, nx_ct, ite_t, ite_f, and_t, and_f, or_t, or_f, R.bind_ok, R.bind_assoc, ofO_some, tr_b, optI_i, itm_t, itm_l, seqL_l, gdOf_tup, gdOf_lst, neg_i, aug_i, add_i, sub_i, slc_t, slc_l, add_l, len_t, len_l, list_t, list_l, tuple_l, max_i, ls_i, le_i, gt_i, ge_i, sub_t, sub_l, List.getElem?_cons_zero, List.getElem?_cons_succ, List.set_cons_zero, List.set_cons_succ, Bool.not_true, Bool.not_false, e0, c1, c2, m2, a1, a2, a3, t2, t1]
    rw [mkL_v (sz (by simp)), R.bind_ok]
    try simp only [v_maxd, v_dict, v_dget, x_dput, x_par, par_k, i_rngD, i_zip, v_agen, v_glob, v_chain, v_isx, x_raise, x_kept, x_nil, x_cons, x_set, x_unp, x_sets, x_expr, x_ret, x_pass, x_brk, x_cont, x_ite, x_for, x_whl, v_bl, v_int, v_str, v_ty, v_non, v_var, v_tup, v_lst, v_bin, v_neg, v_not, v_cmp, v_and, v_or, v_ife, v_call, v_blt, v_mth, v_sub, v_slc, v_comp, o_none, o_some, s_nil, s_cons, i_seq, i_rng1, i_rng2, i_enum, nx_nx, nx_rt, nx_bk, nx_ct, ite_t, ite_f, and_t, and_f, or_t, or_f, R.bind_ok, R.bind_assoc, ofO_some, tr_b, optI_i, itm_t, itm_l, seqL_l, gdOf_tup, gdOf_lst, neg_i, aug_i, add_i, sub_i, slc_t, slc_l, add_l, len_t, len_l, list_t, list_l, tuple_l, max_i, ls_i, le_i, gt_i, ge_i, sub_t, sub_l, List.getElem?_cons_zero, List.getElem?_cons_succ, List.set_cons_zero, List.set_cons_succ, Bool.not_true, Bool.not_false]
    have hw : ∀ (F' U' : List (Int × Int)), D.tup [.tup (F'.map td), .tup (U'.map td)] = LD F' U' := fun _ _ => rfl
    simp only [hw]
    rw [comp_four (y1 := tt (alwB A B F (u :: V) a) (agnB A B F (u :: V) a)) (y2 := tt (alwB A B F (u :: V) a) (agnB A B F (u :: V) a)) (y3 := tt (alwB A B F (u :: V) a) (agnB A B F (u :: V) a)) (y4 := tt (alwB A B F (u :: V) a) (agnB A B F (u :: V) a)) (by
        simp only [wipe, List.set_cons_zero, List.set_cons_succ, v_maxd, v_dict, v_dget, x_dput, x_par, par_k, i_rngD, i_zip, v_agen, v_glob, v_chain, v_isx, x_raise, x_kept, x_nil, x_cons, x_set, x_unp, x_sets, x_expr, x_ret, x_pass, x_brk, x_cont, x_ite, x_for, x_whl, v_bl, v_int, v_str, v_ty, v_non, v_var, v_tup, v_lst, v_bin, v_neg, v_not, v_cmp, v_and, v_or, v_ife, v_call, v_blt, v_mth, v_sub, v_slc, v_comp, o_none, o_some, s_nil, s_cons, i_seq, i_rng1, i_rng2, i_enum, nx_nx, nx_rt, nx_bk, nx_ct, ite_t, ite_f, and_t, and_f, or_t, or_f, R.bind_ok, R.bind_assoc, ofO_some, tr_b, optI_i, itm_t, itm_l, seqL_l, gdOf_tup, gdOf_lst, neg_i, aug_i, add_i, sub_i, slc_t, slc_l, add_l, len_t, len_l, list_t, list_l, tuple_l, max_i, ls_i, le_i, gt_i, ge_i, sub_t, sub_l, List.getElem?_cons_zero, List.getElem?_cons_succ, List.set_cons_zero, List.set_cons_succ, Bool.not_true, Bool.not_false, w1 a ha (by omega), g1 a ha (by omega), t2]
        rfl) (by
        simp only [wipe, List.set_cons_zero, List.set_cons_succ, v_maxd, v_dict, v_dget, x_dput, x_par, par_k, i_rngD, i_zip, v_agen, v_glob, v_chain, v_isx, x_raise, x_kept, x_nil, x_cons, x_set, x_unp, x_sets, x_expr, x_ret, x_pass, x_brk, x_cont, x_ite, x_for, x_whl, v_bl, v_int, v_str, v_ty, v_non, v_var, v_tup, v_lst, v_bin, v_neg, v_not, v_cmp, v_and, v_or, v_ife, v_call, v_blt, v_mth, v_sub, v_slc, v_comp, o_none, o_some, s_nil, s_cons, i_seq, i_rng1, i_rng2, i_enum, nx_nx, nx_rt, nx_bk, nx_ct, ite_t, ite_f, and_t, and_f, or_t, or_f, R.bind_ok, R.bind_assoc, ofO_some, tr_b, optI_i, itm_t, itm_l, seqL_l, gdOf_tup, gdOf_lst, neg_i, aug_i, add_i, sub_i, slc_t, slc_l, add_l, len_t, len_l, list_t, list_l, tuple_l, max_i, ls_i, le_i, gt_i, ge_i, sub_t, sub_l, List.getElem?_cons_zero, List.getElem?_cons_succ, List.set_cons_zero, List.set_cons_succ, Bool.not_true, Bool.not_false, w2 a ha (by omega), g2 a ha (by omega), t2]
        rw [alw_row hU1 hU1 (row_a hU1) a, agn_row hU1 hU1 (row_a hU1) a]
        rfl) (by
        simp only [wipe, List.set_cons_zero, List.set_cons_succ, v_maxd, v_dict, v_dget, x_dput, x_par, par_k, i_rngD, i_zip, v_agen, v_glob, v_chain, v_isx, x_raise, x_kept, x_nil, x_cons, x_set, x_unp, x_sets, x_expr, x_ret, x_pass, x_brk, x_cont, x_ite, x_for, x_whl, v_bl, v_int, v_str, v_ty, v_non, v_var, v_tup, v_lst, v_bin, v_neg, v_not, v_cmp, v_and, v_or, v_ife, v_call, v_blt, v_mth, v_sub, v_slc, v_comp, o_none, o_some, s_nil, s_cons, i_seq, i_rng1, i_rng2, i_enum, nx_nx, nx_rt, nx_bk, nx_ct, ite_t, ite_f, and_t, and_f, or_t, or_f, R.bind_ok, R.bind_assoc, ofO_some, tr_b, optI_i, itm_t, itm_l, seqL_l, gdOf_tup, gdOf_lst, neg_i, aug_i, add_i, sub_i, slc_t, slc_l, add_l, len_t, len_l, list_t, list_l, tuple_l, max_i, ls_i, le_i, gt_i, ge_i, sub_t, sub_l, List.getElem?_cons_zero, List.getElem?_cons_succ, List.set_cons_zero, List.set_cons_succ, Bool.not_true, Bool.not_false, w3 a ha (by omega), g3 a ha (by omega), t2]
        rw [alw_row hU1 l3.2.1 (row_b hU1) a, agn_row hU1 l3.2.1 (row_b hU1) a]
        rfl) (by
        simp only [wipe, List.set_cons_zero, List.set_cons_succ, v_maxd, v_dict, v_dget, x_dput, x_par, par_k, i_rngD, i_zip, v_agen, v_glob, v_chain, v_isx, x_raise, x_kept, x_nil, x_cons, x_set, x_unp, x_sets, x_expr, x_ret, x_pass, x_brk, x_cont, x_ite, x_for, x_whl, v_bl, v_int, v_str, v_ty, v_non, v_var, v_tup, v_lst, v_bin, v_neg, v_not, v_cmp, v_and, v_or, v_ife, v_call, v_blt, v_mth, v_sub, v_slc, v_comp, o_none, o_some, s_nil, s_cons, i_seq, i_rng1, i_rng2, i_enum, nx_nx, nx_rt, nx_bk, nx_ct, ite_t, ite_f, and_t, and_f, or_t, or_f, R.bind_ok, R.bind_assoc, ofO_some, tr_b, optI_i, itm_t, itm_l, seqL_l, gdOf_tup, gdOf_lst, neg_i, aug_i, add_i, sub_i, slc_t, slc_l, add_l, len_t, len_l, list_t, list_l, tuple_l, max_i, ls_i, le_i, gt_i, ge_i, sub_t, sub_l, List.getElem?_cons_zero, List.getElem?_cons_succ, List.set_cons_zero, List.set_cons_succ, Bool.not_true, Bool.not_false, w4 a ha (by omega), g4 a ha (by omega), t2]
        rw [alw_row hU1 l4.2.1 row_c a, agn_row hU1 l4.2.1 row_c a]
        rfl), R.bind_ok, mkL_v (sz (by simp)), R.bind_ok]
    have c3 : ∀ x y z v : D, cutA [x, y, z, v] none (some 1) = [x] := fun x y z v => by
      have := cut_to (l := [x, y, z, v]) (k := 1)
      exact this
    try simp only [v_maxd, v_dict, v_dget, x_dput, x_par, par_k, i_rngD, i_zip, v_agen, v_glob, v_chain, v_isx, x_raise, x_kept, x_nil, x_cons, x_set, x_unp, x_sets, x_expr, x_ret, x_pass, x_brk, x_cont, x_ite, x_for, x_whl, v_bl, v_int, v_str, v_ty, v_non, v_var, v_tup, v_lst, v_bin, v_neg, v_not, v_cmp, v_and, v_or, v_ife, v_call, v_blt, v_mth, v_sub, v_slc, v_comp, o_none, o_some, s_nil, s_cons, i_seq, i_rng1, i_rng2, i_enum, nx_nx, nx_rt, nx_bk, nx_ct, ite_t, ite_f, and_t, and_f, or_t, or_f, R.bind_ok, R.bind_assoc, ofO_some, tr_b, optI_i, itm_t, itm_l, seqL_l, gdOf_tup, gdOf_lst, neg_i, aug_i, add_i, sub_i, slc_t, slc_l, add_l, len_t, len_l, list_t, list_l, tuple_l, max_i, ls_i, le_i, gt_i, ge_i, sub_t, sub_l, List.getElem?_cons_zero, List.getElem?_cons_succ, List.set_cons_zero, List.set_cons_succ, Bool.not_true, Bool.not_false, c3]
    rw [mkL_v (sz (by simp)), R.bind_ok]
    try simp only [v_maxd, v_dict, v_dget, x_dput, x_par, par_k, i_rngD, i_zip, v_agen, v_glob, v_chain, v_isx, x_raise, x_kept, x_nil, x_cons, x_set, x_unp, x_sets, x_expr, x_ret, x_pass, x_brk, x_cont, x_ite, x_for, x_whl, v_bl, v_int, v_str, v_ty, v_non, v_var, v_tup, v_lst, v_bin, v_neg, v_not, v_cmp, v_and, v_or, v_ife, v_call, v_blt, v_mth, v_sub, v_slc, v_comp, o_none, o_some, s_nil, s_cons, i_seq, i_rng1, i_rng2, i_enum, nx_nx, nx_rt, nx_bk, nx_ct, ite_t, ite_f, and_t, and_f, or_t, or_f, R.bind_ok, R.bind_assoc, ofO_some, tr_b, optI_i, itm_t, itm_l, seqL_l, gdOf_tup, gdOf_lst, neg_i, aug_i, add_i, sub_i, slc_t, slc_l, add_l, len_t, len_l, list_t, list_l, tuple_l, max_i, ls_i, le_i, gt_i, ge_i, sub_t, sub_l, List.getElem?_cons_zero, List.getElem?_cons_succ, List.set_cons_zero, List.set_cons_succ, Bool.not_true, Bool.not_false]
    have m4 : ∀ x : D, binA true .Mult (.lst [x]) (.int 4) S = .ok (.lst [x, x, x, x]) S := fun x => by
      show mulA true S (.lst [x]) (.int 4) = _
      unfold mulA
      dsimp only
      rw [seqL_l]
      dsimp only
      rw [if_pos ⟨by decide, by decide, sz (by simp)⟩]
      exact mkL_v (sz (by simp [rep]))
    have s0 : ∀ x y z v : D, L2.atI [x, y, z, v] 0 = some x := fun x y z v => at0
    have s1 : ∀ (x y : Bool) (S : Store), subA S (tt x y) (.int 0) = some (.bl x) := fun _ _ _ => rfl
    simp only [m4, ne_four, v_maxd, v_dict, v_dget, x_dput, x_par, par_k, i_rngD, i_zip, v_agen, v_glob, v_chain, v_isx, x_raise, x_kept, x_nil, x_cons, x_set, x_unp, x_sets, x_expr, x_ret, x_pass, x_brk, x_cont, x_ite, x_for, x_whl, v_bl, v_int, v_str, v_ty, v_non, v_var, v_tup, v_lst, v_bin, v_neg, v_not, v_cmp, v_and, v_or, v_ife, v_call, v_blt, v_mth, v_sub, v_slc, v_comp, o_none, o_some, s_nil, s_cons, i_seq, i_rng1, i_rng2, i_enum, nx_nx, nx_rt, nx_bk, nx_ct, ite_t, ite_f, and_t, and_f, or_t, or_f, R.bind_ok, R.bind_assoc, ofO_some, tr_b, optI_i, itm_t, itm_l, seqL_l, gdOf_tup, gdOf_lst, neg_i, aug_i, add_i, sub_i, slc_t, slc_l, add_l, len_t, len_l, list_t, list_l, tuple_l, max_i, ls_i, le_i, gt_i, ge_i, sub_t, sub_l, List.getElem?_cons_zero, List.getElem?_cons_succ, List.set_cons_zero, List.set_cons_succ, Bool.not_true, Bool.not_false, t2, t1, show D.tup [.str "was", .tup [.str "not", a.d]] = (W.ws (.nt a)).d from rfl, g1 (.ws (.nt a)) ha (by simp only [W.dep]; omega), s0, s1, brk_iff hU1 a, eq_b]
    have nb : ((!alwB A B F (u :: V) a) == alwB A B F (u :: V) a) = false := by cases alwB A B F (u :: V) a <;> rfl
    rw [nb]
    simp only [v_maxd, v_dict, v_dget, x_dput, x_par, par_k, i_rngD, i_zip, v_agen, v_glob, v_chain, v_isx, x_raise, x_kept, x_nil, x_cons, x_set, x_unp, x_sets, x_expr, x_ret, x_pass, x_brk, x_cont, x_ite, x_for, x_whl, v_bl, v_int, v_str, v_ty, v_non, v_var, v_tup, v_lst, v_bin, v_neg, v_not, v_cmp, v_and, v_or, v_ife, v_call, v_blt, v_mth, v_sub, v_slc, v_comp, o_none, o_some, s_nil, s_cons, i_seq, i_rng1, i_rng2, i_enum, nx_nx, nx_rt, nx_bk, nx_ct, ite_t, ite_f, and_t, and_f, or_t, or_f, R.bind_ok, R.bind_assoc, ofO_some, tr_b, optI_i, itm_t, itm_l, seqL_l, gdOf_tup, gdOf_lst, neg_i, aug_i, add_i, sub_i, slc_t, slc_l, add_l, len_t, len_l, list_t, list_l, tuple_l, max_i, ls_i, le_i, gt_i, ge_i, sub_t, sub_l, List.getElem?_cons_zero, List.getElem?_cons_succ, List.set_cons_zero, List.set_cons_succ, Bool.not_true, Bool.not_false, t2, show D.tup [.str "was", a.d] = (W.ws a).d from rfl, w1 (.ws a) ha (by simp only [W.dep]; omega), was_iff hU1 a]
    rw [mkL_v (sz (by simp)), R.bind_ok]
    have c4 : cutA ((F ++ u :: V).map td) none (some 1) = ((F ++ u :: V).take 1).map td := by
      have := cut_to (l := (F ++ u :: V).map td) (k := 1)
      rw [← List.map_take] at this
      exact this
    try simp only [v_maxd, v_dict, v_dget, x_dput, x_par, par_k, i_rngD, i_zip, v_agen, v_glob, v_chain, v_isx, x_raise, x_kept, x_nil, x_cons, x_set, x_unp, x_sets, x_expr, x_ret, x_pass, x_brk, x_cont, x_ite, x_for, x_whl, v_bl, v_int, v_str, v_ty, v_non, v_var, v_tup, v_lst, v_bin, v_neg, v_not, v_cmp, v_and, v_or, v_ife, v_call, v_blt, v_mth, v_sub, v_slc, v_comp, o_none, o_some, s_nil, s_cons, i_seq, i_rng1, i_rng2, i_enum, nx_nx, nx_rt, nx_bk, nx_ct, ite_t, ite_f, and_t, and_f, or_t, or_f, R.bind_ok, R.bind_assoc, ofO_some, tr_b, optI_i, itm_t, itm_l, seqL_l, gdOf_tup, gdOf_lst, neg_i, aug_i, add_i, sub_i, slc_t, slc_l, add_l, len_t, len_l, list_t, list_l, tuple_l, max_i, ls_i, le_i, gt_i, ge_i, sub_t, sub_l, List.getElem?_cons_zero, List.getElem?_cons_succ, List.set_cons_zero, List.set_cons_succ, Bool.not_true, Bool.not_false, a1, c4]
    rw [c_al hb (T := (F ++ u :: V).take 1) (by simp; omega) a (by omega) ha k S _ (.inl rfl), R.bind_ok, first_val hU1 a]
    have p1 : (S ++ [O.lst (bls [HI A B F (u :: V) a 0])])[S.length]? = some (.lst (bls [HI A B F (u :: V) a 0])) := push_at
    rw [show [D.bl (HI A B F (u :: V) a 0)] = bls [HI A B F (u :: V) a 0] from rfl, eq_bls (l := [HI A B F (u :: V) a 0]) (m := [HI A B F (u :: V) a 0]) (py_bls _) (by rw [py_r p1, py_bls])]
    simp only [decide_true, v_maxd, v_dict, v_dget, x_dput, x_par, par_k, i_rngD, i_zip, v_agen, v_glob, v_chain, v_isx, x_raise, x_kept, x_nil, x_cons, x_set, x_unp, x_sets, x_expr, x_ret, x_pass, x_brk, x_cont, x_ite, x_for, x_whl, v_bl, v_int, v_str, v_ty, v_non, v_var, v_tup, v_lst, v_bin, v_neg, v_not, v_cmp, v_and, v_or, v_ife, v_call, v_blt, v_mth, v_sub, v_slc, v_comp, o_none, o_some, s_nil, s_cons, i_seq, i_rng1, i_rng2, i_enum, nx_nx, nx_rt, nx_bk, nx_ct, ite_t, ite_f, and_t, and_f, or_t, or_f, R.bind_ok, R.bind_assoc, ofO_some, tr_b, optI_i, itm_t, itm_l, seqL_l, gdOf_tup, gdOf_lst, neg_i, aug_i, add_i, sub_i, slc_t, slc_l, add_l, len_t, len_l, list_t, list_l, tuple_l, max_i, ls_i, le_i, gt_i, ge_i, sub_t, sub_l, List.getElem?_cons_zero, List.getElem?_cons_succ, List.set_cons_zero, List.set_cons_succ, Bool.not_true, Bool.not_false]
    exact ⟨_, rfl⟩
  obtain ⟨X, z⟩ := z
  rw [z]
  exact leave_more (by simp [below])
end K23

namespace K23
open PySem Mn
/-- the draws stand -/
def GG (S : Store) (l : List D) : Prop := S[0]? = some (.lst l) ∧ ∀ d ∈ l, ∃ a, d = .ref a ∧ Dr S a
section
variable {S S' : Store} {l : List D} {a b : Nat}
theorem dr_ne {m : List D} (h : S[b]? = some (.lst m)) (d : Dr S a) : a ≠ b := fun z => by
  obtain ⟨c, s, e⟩ := d
  rw [z, h] at e
  cases e
theorem GG.up (g : GG S l) (d : Dr S a) (u : Up S a S') : GG S' l :=
  ⟨by rw [u.at (dr_ne g.1 d)]; exact g.1, fun x hx => by
    obtain ⟨b, rfl, hb⟩ := g.2 x hx
    exact ⟨b, rfl, u.keep hb⟩⟩
theorem GG.push (g : GG S l) (X : Store) : GG (S ++ X) l :=
  ⟨by rw [List.getElem?_append_left (List.getElem?_eq_some_iff.mp g.1).1]; exact g.1, fun x hx => by
    obtain ⟨b, rfl, hb⟩ := g.2 x hx
    exact ⟨b, rfl, hb.push _⟩⟩
theorem GG.set (g : GG S l) {m m' : List D} (h : S[b]? = some (.lst m)) (h0 : b ≠ 0) : GG (S.set b (.lst m')) l :=
  ⟨by rw [get_set_ne h0]; exact g.1, fun x hx => by
    obtain ⟨c, rfl, hc⟩ := g.2 x hx
    have ne := dr_ne h hc
    obtain ⟨p, q, e⟩ := hc
    exact ⟨c, rfl, p, q, by rw [get_set_ne ne.symm]; exact e⟩⟩
end
theorem c_loop {A B : List Str} (hb : Bd A B) (m n : Nat) (hm : m ≤ 4) (hn : n ≤ 4) (hn1 : 1 ≤ n) (k : Nat) (S : Store) (a : Nat) (h : Dr S a) :
    Sat (CC (k + 4) "_law_loop" [.ref a, brd A B, .int (m : Int), .int (n : Int)] S) fun d S' => ∃ F U, d = LD F U ∧ (F.length ≤ m ∧ 1 ≤ U.length ∧ U.length ≤ n ∧ (∀ t ∈ F, tok A B t) ∧ ∀ t ∈ U, tok A B t) ∧ Up S a S' := by
  rw [show CC (k + 4) "_law_loop" [.ref a, brd A B, .int (m : Int), .int (n : Int)] S = _ from call_step (k := k + 3) (d := d__law_loop) rfl rfl]
  show Sat (leave .pure S (exB Gs 1000000 (CC (k + 3)) d__law_loop.body [some (.ref a), some (brd A B), some (.int (m : Int)), some (.int (n : Int)), none] S)) _
  refine Sat.leave ?_
  simp only [d__law_loop, v_maxd, v_dict, v_dget, x_dput, x_par, par_k, i_rngD, i_zip, v_agen, v_glob, v_chain, v_isx, x_raise, x_kept, x_nil, x_cons, x_set, x_unp, x_sets, x_expr, x_ret, x_pass, x_brk, x_cont, x_ite, x_for, x_whl, v_bl, v_int, v_str, v_ty, v_non, v_var, v_tup, v_lst, v_bin, v_neg, v_not, v_cmp, v_and, v_or, v_ife, v_call, v_blt, v_mth, v_sub, v_slc, v_comp, o_none, o_some, s_nil, s_cons, i_seq, i_rng1, i_rng2, i_enum, nx_nx, nx_rt, nx_bk, nx_ct, ite_t, ite_f, and_t, and_f, or_t, or_f, R.bind_ok, R.bind_assoc, ofO_some, tr_b, optI_i, itm_t, itm_l, seqL_l, gdOf_tup, gdOf_lst, neg_i, aug_i, add_i, sub_i, slc_t, slc_l, add_l, len_t, len_l, list_t, list_l, tuple_l, max_i, ls_i, le_i, gt_i, ge_i, sub_t, sub_l, List.getElem?_cons_zero, List.getElem?_cons_succ, List.set_cons_zero, List.set_cons_succ, Bool.not_true, Bool.not_false]
  refine (c_take (k + 1) S a ((m : Int) + 1) (by omega) h).bind fun d S1 ⟨v, hd, v0, v1, u1⟩ => ?_
  subst hd
  obtain ⟨v, rfl⟩ := Int.eq_ofNat_of_zero_le v0
  try simp only [v_maxd, v_dict, v_dget, x_dput, x_par, par_k, i_rngD, i_zip, v_agen, v_glob, v_chain, v_isx, x_raise, x_kept, x_nil, x_cons, x_set, x_unp, x_sets, x_expr, x_ret, x_pass, x_brk, x_cont, x_ite, x_for, x_whl, v_bl, v_int, v_str, v_ty, v_non, v_var, v_tup, v_lst, v_bin, v_neg, v_not, v_cmp, v_and, v_or, v_ife, v_call, v_blt, v_mth, v_sub, v_slc, v_comp, o_none, o_some, s_nil, s_cons, i_seq, i_rng1, i_rng2, i_enum, nx_nx, nx_rt, nx_bk, nx_ct, ite_t, ite_f, and_t, and_f, or_t, or_f, R.bind_ok, R.bind_assoc, ofO_some, tr_b, optI_i, itm_t, itm_l, seqL_l, gdOf_tup, gdOf_lst, neg_i, aug_i, add_i, sub_i, slc_t, slc_l, add_l, len_t, len_l, list_t, list_l, tuple_l, max_i, ls_i, le_i, gt_i, ge_i, sub_t, sub_l, List.getElem?_cons_zero, List.getElem?_cons_succ, List.set_cons_zero, List.set_cons_succ, Bool.not_true, Bool.not_false]
  refine (c_turns k S1 a v A B hb (u1.dr h) (by omega)).bind fun d S2 ⟨F, hd, hF, kF, u2⟩ => ?_
  subst hd
  have u2 := u1.trans u2
  try simp only [v_maxd, v_dict, v_dget, x_dput, x_par, par_k, i_rngD, i_zip, v_agen, v_glob, v_chain, v_isx, x_raise, x_kept, x_nil, x_cons, x_set, x_unp, x_sets, x_expr, x_ret, x_pass, x_brk, x_cont, x_ite, x_for, x_whl, v_bl, v_int, v_str, v_ty, v_non, v_var, v_tup, v_lst, v_bin, v_neg, v_not, v_cmp, v_and, v_or, v_ife, v_call, v_blt, v_mth, v_sub, v_slc, v_comp, o_none, o_some, s_nil, s_cons, i_seq, i_rng1, i_rng2, i_enum, nx_nx, nx_rt, nx_bk, nx_ct, ite_t, ite_f, and_t, and_f, or_t, or_f, R.bind_ok, R.bind_assoc, ofO_some, tr_b, optI_i, itm_t, itm_l, seqL_l, gdOf_tup, gdOf_lst, neg_i, aug_i, add_i, sub_i, slc_t, slc_l, add_l, len_t, len_l, list_t, list_l, tuple_l, max_i, ls_i, le_i, gt_i, ge_i, sub_t, sub_l, List.getElem?_cons_zero, List.getElem?_cons_succ, List.set_cons_zero, List.set_cons_succ, Bool.not_true, Bool.not_false]
  rw [mkT_v (sz (by simp; omega)), R.bind_ok]
  try simp only [v_maxd, v_dict, v_dget, x_dput, x_par, par_k, i_rngD, i_zip, v_agen, v_glob, v_chain, v_isx, x_raise, x_kept, x_nil, x_cons, x_set, x_unp, x_sets, x_expr, x_ret, x_pass, x_brk, x_cont, x_ite, x_for, x_whl, v_bl, v_int, v_str, v_ty, v_non, v_var, v_tup, v_lst, v_bin, v_neg, v_not, v_cmp, v_and, v_or, v_ife, v_call, v_blt, v_mth, v_sub, v_slc, v_comp, o_none, o_some, s_nil, s_cons, i_seq, i_rng1, i_rng2, i_enum, nx_nx, nx_rt, nx_bk, nx_ct, ite_t, ite_f, and_t, and_f, or_t, or_f, R.bind_ok, R.bind_assoc, ofO_some, tr_b, optI_i, itm_t, itm_l, seqL_l, gdOf_tup, gdOf_lst, neg_i, aug_i, add_i, sub_i, slc_t, slc_l, add_l, len_t, len_l, list_t, list_l, tuple_l, max_i, ls_i, le_i, gt_i, ge_i, sub_t, sub_l, List.getElem?_cons_zero, List.getElem?_cons_succ, List.set_cons_zero, List.set_cons_succ, Bool.not_true, Bool.not_false]
  refine (c_take (k + 1) S2 a (n : Int) (by omega) (u2.dr h)).bind fun d S3 ⟨w, hd, w0, w1, u3⟩ => ?_
  subst hd
  have u3 := u2.trans u3
  obtain ⟨w, rfl⟩ := Int.eq_ofNat_of_zero_le w0
  try simp only [v_maxd, v_dict, v_dget, x_dput, x_par, par_k, i_rngD, i_zip, v_agen, v_glob, v_chain, v_isx, x_raise, x_kept, x_nil, x_cons, x_set, x_unp, x_sets, x_expr, x_ret, x_pass, x_brk, x_cont, x_ite, x_for, x_whl, v_bl, v_int, v_str, v_ty, v_non, v_var, v_tup, v_lst, v_bin, v_neg, v_not, v_cmp, v_and, v_or, v_ife, v_call, v_blt, v_mth, v_sub, v_slc, v_comp, o_none, o_some, s_nil, s_cons, i_seq, i_rng1, i_rng2, i_enum, nx_nx, nx_rt, nx_bk, nx_ct, ite_t, ite_f, and_t, and_f, or_t, or_f, R.bind_ok, R.bind_assoc, ofO_some, tr_b, optI_i, itm_t, itm_l, seqL_l, gdOf_tup, gdOf_lst, neg_i, aug_i, add_i, sub_i, slc_t, slc_l, add_l, len_t, len_l, list_t, list_l, tuple_l, max_i, ls_i, le_i, gt_i, ge_i, sub_t, sub_l, List.getElem?_cons_zero, List.getElem?_cons_succ, List.set_cons_zero, List.set_cons_succ, Bool.not_true, Bool.not_false]
  rw [show (1 : Int) + (w : Int) = ((1 + w : Nat) : Int) by omega]
  refine (c_turns k S3 a (1 + w) A B hb (u3.dr h) (by omega)).bind fun d S4 ⟨U, hd, hU, kU, u4⟩ => ?_
  subst hd
  have u4 := u3.trans u4
  try simp only [v_maxd, v_dict, v_dget, x_dput, x_par, par_k, i_rngD, i_zip, v_agen, v_glob, v_chain, v_isx, x_raise, x_kept, x_nil, x_cons, x_set, x_unp, x_sets, x_expr, x_ret, x_pass, x_brk, x_cont, x_ite, x_for, x_whl, v_bl, v_int, v_str, v_ty, v_non, v_var, v_tup, v_lst, v_bin, v_neg, v_not, v_cmp, v_and, v_or, v_ife, v_call, v_blt, v_mth, v_sub, v_slc, v_comp, o_none, o_some, s_nil, s_cons, i_seq, i_rng1, i_rng2, i_enum, nx_nx, nx_rt, nx_bk, nx_ct, ite_t, ite_f, and_t, and_f, or_t, or_f, R.bind_ok, R.bind_assoc, ofO_some, tr_b, optI_i, itm_t, itm_l, seqL_l, gdOf_tup, gdOf_lst, neg_i, aug_i, add_i, sub_i, slc_t, slc_l, add_l, len_t, len_l, list_t, list_l, tuple_l, max_i, ls_i, le_i, gt_i, ge_i, sub_t, sub_l, List.getElem?_cons_zero, List.getElem?_cons_succ, List.set_cons_zero, List.set_cons_succ, Bool.not_true, Bool.not_false]
  rw [mkT_v (sz (by simp; omega)), R.bind_ok]
  try simp only [v_maxd, v_dict, v_dget, x_dput, x_par, par_k, i_rngD, i_zip, v_agen, v_glob, v_chain, v_isx, x_raise, x_kept, x_nil, x_cons, x_set, x_unp, x_sets, x_expr, x_ret, x_pass, x_brk, x_cont, x_ite, x_for, x_whl, v_bl, v_int, v_str, v_ty, v_non, v_var, v_tup, v_lst, v_bin, v_neg, v_not, v_cmp, v_and, v_or, v_ife, v_call, v_blt, v_mth, v_sub, v_slc, v_comp, o_none, o_some, s_nil, s_cons, i_seq, i_rng1, i_rng2, i_enum, nx_nx, nx_rt, nx_bk, nx_ct, ite_t, ite_f, and_t, and_f, or_t, or_f, R.bind_ok, R.bind_assoc, ofO_some, tr_b, optI_i, itm_t, itm_l, seqL_l, gdOf_tup, gdOf_lst, neg_i, aug_i, add_i, sub_i, slc_t, slc_l, add_l, len_t, len_l, list_t, list_l, tuple_l, max_i, ls_i, le_i, gt_i, ge_i, sub_t, sub_l, List.getElem?_cons_zero, List.getElem?_cons_succ, List.set_cons_zero, List.set_cons_succ, Bool.not_true, Bool.not_false]
  rw [mkT_v (sz (by simp)), R.bind_ok]
  refine .ok ⟨_, rfl, u4.old, u4.len, ?_, F, U, rfl, ⟨by omega, by omega, by omega, kF, kU⟩, u4⟩
  exact gd_below _ 3 _ (by
    show (gds (F.map td) 1 && (gds (U.map td) 1 && true)) = true
    rw [tds_gd, tds_gd]; rfl)
theorem hlaw (ns : List Int) (hn : ns.length ≤ 63) : ∃ S', callA Gs 1000000 Pg 40 "law" [.lst (ns.map .int)] [] = .ok (.bl true) S' := by
  rw [show callA Gs 1000000 Pg 40 "law" [.lst (ns.map .int)] [] = _ from call_step (k := 39) (d := d_law) rfl rfl]
  show ∃ S', leave .pure [] (exB Gs 1000000 (CC 39) d_law.body [some (.lst (ns.map .int)), none, none, none, none, none] []) = _
  have lvv : ∀ r : R Mn.F, Sat r (fun f S' => f = .rt (.bl true)) → ∃ S', leave .pure [] r = .ok (.bl true) S' := by
    rintro r ⟨f, S', rfl, rfl⟩
    refine ⟨[], ?_⟩
    show fin .pure [] (.bl true) S' = _
    unfold fin
    rw [if_pos ⟨Nat.zero_le _, fun i h => by cases h⟩, outD_below (by simp [below])]
    rfl
  refine lvv _ ?_
  simp only [d_law, v_maxd, v_dict, v_dget, x_dput, x_par, par_k, i_rngD, i_zip, v_agen, v_glob, v_chain, v_isx, x_raise, x_kept, x_nil, x_cons, x_set, x_unp, x_sets, x_expr, x_ret, x_pass, x_brk, x_cont, x_ite, x_for, x_whl, v_bl, v_int, v_str, v_ty, v_non, v_var, v_tup, v_lst, v_bin, v_neg, v_not, v_cmp, v_and, v_or, v_ife, v_call, v_blt, v_mth, v_sub, v_slc, v_comp, o_none, o_some, s_nil, s_cons, i_seq, i_rng1, i_rng2, i_enum, nx_nx, nx_rt, nx_bk, nx_ct, ite_t, ite_f, and_t, and_f, or_t, or_f, R.bind_ok, R.bind_assoc, ofO_some, tr_b, optI_i, itm_t, itm_l, seqL_l, gdOf_tup, gdOf_lst, neg_i, aug_i, add_i, sub_i, slc_t, slc_l, add_l, len_t, len_l, list_t, list_l, tuple_l, max_i, ls_i, le_i, gt_i, ge_i, sub_t, sub_l, List.getElem?_cons_zero, List.getElem?_cons_succ, List.set_cons_zero, List.set_cons_succ, Bool.not_true, Bool.not_false]
  refine (c_draws 37 ns (by omega)).bind fun d S0 ⟨l, hd, hl, hall⟩ => ?_
  subst hd
  simp only [v_maxd, v_dict, v_dget, x_dput, x_par, par_k, i_rngD, i_zip, v_agen, v_glob, v_chain, v_isx, x_raise, x_kept, x_nil, x_cons, x_set, x_unp, x_sets, x_expr, x_ret, x_pass, x_brk, x_cont, x_ite, x_for, x_whl, v_bl, v_int, v_str, v_ty, v_non, v_var, v_tup, v_lst, v_bin, v_neg, v_not, v_cmp, v_and, v_or, v_ife, v_call, v_blt, v_mth, v_sub, v_slc, v_comp, o_none, o_some, s_nil, s_cons, i_seq, i_rng1, i_rng2, i_enum, nx_nx, nx_rt, nx_bk, nx_ct, ite_t, ite_f, and_t, and_f, or_t, or_f, R.bind_ok, R.bind_assoc, ofO_some, tr_b, optI_i, itm_t, itm_l, seqL_l, gdOf_tup, gdOf_lst, neg_i, aug_i, add_i, sub_i, slc_t, slc_l, add_l, len_t, len_l, list_t, list_l, tuple_l, max_i, ls_i, le_i, gt_i, ge_i, sub_t, sub_l, List.getElem?_cons_zero, List.getElem?_cons_succ, List.set_cons_zero, List.set_cons_succ, Bool.not_true, Bool.not_false, itm_p hl, gd_ref hl]
  refine Sat.bind (P := fun f S' => ∃ e, f = .nx e) ?_ fun f S' ⟨e, hf⟩ => ?_
  · unfold forB
    refine for_satG (fun i e S' => GG S' l ∧ ∃ x1 x2 x3 x4 x5, e = [some (.lst (ns.map .int)), x1, x2, x3, x4, x5]) (fun _ _ _ h => gdOk_ref h.1.1) ?_ (fun e S' _ => ⟨e, rfl⟩) ⟨⟨hl, hall⟩, _, _, _, _, _, rfl⟩
    rintro i d e S hd ⟨g, x1, x2, x3, x4, x5, rfl⟩
    obtain ⟨a, rfl, dr⟩ := g.2 d (List.mem_of_getElem? hd)
    refine ⟨_, rfl, ?_⟩
    simp only [List.set_cons_zero, List.set_cons_succ, v_maxd, v_dict, v_dget, x_dput, x_par, par_k, i_rngD, i_zip, v_agen, v_glob, v_chain, v_isx, x_raise, x_kept, x_nil, x_cons, x_set, x_unp, x_sets, x_expr, x_ret, x_pass, x_brk, x_cont, x_ite, x_for, x_whl, v_bl, v_int, v_str, v_ty, v_non, v_var, v_tup, v_lst, v_bin, v_neg, v_not, v_cmp, v_and, v_or, v_ife, v_call, v_blt, v_mth, v_sub, v_slc, v_comp, o_none, o_some, s_nil, s_cons, i_seq, i_rng1, i_rng2, i_enum, nx_nx, nx_rt, nx_bk, nx_ct, ite_t, ite_f, and_t, and_f, or_t, or_f, R.bind_ok, R.bind_assoc, ofO_some, tr_b, optI_i, itm_t, itm_l, seqL_l, gdOf_tup, gdOf_lst, neg_i, aug_i, add_i, sub_i, slc_t, slc_l, add_l, len_t, len_l, list_t, list_l, tuple_l, max_i, ls_i, le_i, gt_i, ge_i, sub_t, sub_l, List.getElem?_cons_zero, List.getElem?_cons_succ, List.set_cons_zero, List.set_cons_succ, Bool.not_true, Bool.not_false]
    refine Sat.bind (c_board 3 (by decide) 35 S a dr) fun d S1 ⟨A, B, hd, hb, u1⟩ => ?_
    subst hd
    have g1 := g.up dr u1
    have d1 := u1.dr dr
    try simp only [v_maxd, v_dict, v_dget, x_dput, x_par, par_k, i_rngD, i_zip, v_agen, v_glob, v_chain, v_isx, x_raise, x_kept, x_nil, x_cons, x_set, x_unp, x_sets, x_expr, x_ret, x_pass, x_brk, x_cont, x_ite, x_for, x_whl, v_bl, v_int, v_str, v_ty, v_non, v_var, v_tup, v_lst, v_bin, v_neg, v_not, v_cmp, v_and, v_or, v_ife, v_call, v_blt, v_mth, v_sub, v_slc, v_comp, o_none, o_some, s_nil, s_cons, i_seq, i_rng1, i_rng2, i_enum, nx_nx, nx_rt, nx_bk, nx_ct, ite_t, ite_f, and_t, and_f, or_t, or_f, R.bind_ok, R.bind_assoc, ofO_some, tr_b, optI_i, itm_t, itm_l, seqL_l, gdOf_tup, gdOf_lst, neg_i, aug_i, add_i, sub_i, slc_t, slc_l, add_l, len_t, len_l, list_t, list_l, tuple_l, max_i, ls_i, le_i, gt_i, ge_i, sub_t, sub_l, List.getElem?_cons_zero, List.getElem?_cons_succ, List.set_cons_zero, List.set_cons_succ, Bool.not_true, Bool.not_false]
    rw [if_pos (by decide), R.bind_ok]
    have r2 : rng 0 (2 : Int).toNat 1 = [.int 0, .int 1] := rfl
    simp only [r2]
    refine Sat.bind (P := fun l S' => ∃ one other : W, l = [one.d, other.d] ∧ one.ok (A ++ B) ∧ other.ok (A ++ B) ∧ one.dep ≤ 3 ∧ other.dep ≤ 3 ∧ Up S1 a S') ?_ fun l2 S2 ⟨one, other, hl2, o1, o2, q1, q2, u2⟩ => ?_
    · have aw : ∀ (d : D) (S' : Store), Up S1 a S' → Sat (evE Gs (CC 39) (.call "_law_wish" (.cons (.var 1) (.cons (.bin true .Add (.sub (.var 2) (.int 0)) (.sub (.var 2) (.int 1))) (.cons (.int 3) .nil)))) [some (.lst (ns.map .int)), some (.ref a), some (brd A B), x3, x4, some d] S') fun d S2 => ∃ w : W, d = w.d ∧ w.ok (A ++ B) ∧ w.dep ≤ 3 ∧ Up S1 a S2 := fun d S' u => by
        simp only [v_maxd, v_dict, v_dget, x_dput, x_par, par_k, i_rngD, i_zip, v_agen, v_glob, v_chain, v_isx, x_raise, x_kept, x_nil, x_cons, x_set, x_unp, x_sets, x_expr, x_ret, x_pass, x_brk, x_cont, x_ite, x_for, x_whl, v_bl, v_int, v_str, v_ty, v_non, v_var, v_tup, v_lst, v_bin, v_neg, v_not, v_cmp, v_and, v_or, v_ife, v_call, v_blt, v_mth, v_sub, v_slc, v_comp, o_none, o_some, s_nil, s_cons, i_seq, i_rng1, i_rng2, i_enum, nx_nx, nx_rt, nx_bk, nx_ct, ite_t, ite_f, and_t, and_f, or_t, or_f, R.bind_ok, R.bind_assoc, ofO_some, tr_b, optI_i, itm_t, itm_l, seqL_l, gdOf_tup, gdOf_lst, neg_i, aug_i, add_i, sub_i, slc_t, slc_l, add_l, len_t, len_l, list_t, list_l, tuple_l, max_i, ls_i, le_i, gt_i, ge_i, sub_t, sub_l, List.getElem?_cons_zero, List.getElem?_cons_succ, List.set_cons_zero, List.set_cons_succ, Bool.not_true, Bool.not_false, brd0, brd1]
        rw [add_t (sz (by have := hb.la; have := hb.lb; simp; omega)), R.bind_ok, ← List.map_append]
        try simp only [v_maxd, v_dict, v_dget, x_dput, x_par, par_k, i_rngD, i_zip, v_agen, v_glob, v_chain, v_isx, x_raise, x_kept, x_nil, x_cons, x_set, x_unp, x_sets, x_expr, x_ret, x_pass, x_brk, x_cont, x_ite, x_for, x_whl, v_bl, v_int, v_str, v_ty, v_non, v_var, v_tup, v_lst, v_bin, v_neg, v_not, v_cmp, v_and, v_or, v_ife, v_call, v_blt, v_mth, v_sub, v_slc, v_comp, o_none, o_some, s_nil, s_cons, i_seq, i_rng1, i_rng2, i_enum, nx_nx, nx_rt, nx_bk, nx_ct, ite_t, ite_f, and_t, and_f, or_t, or_f, R.bind_ok, R.bind_assoc, ofO_some, tr_b, optI_i, itm_t, itm_l, seqL_l, gdOf_tup, gdOf_lst, neg_i, aug_i, add_i, sub_i, slc_t, slc_l, add_l, len_t, len_l, list_t, list_l, tuple_l, max_i, ls_i, le_i, gt_i, ge_i, sub_t, sub_l, List.getElem?_cons_zero, List.getElem?_cons_succ, List.set_cons_zero, List.set_cons_succ, Bool.not_true, Bool.not_false]
        have cw := c_wish (A ++ B) (by have := hb.la; have := hb.lb; simp; omega) 33 3 S' a (u.dr d1)
        exact Sat.imp cw fun d S3 ⟨w, hd, hok, hdep, u3⟩ => ⟨w, hd, hok, by omega, u.trans u3⟩
      obtain ⟨v1, S2, e2, w1, rfl, hw1, hd1, u2⟩ := aw (.int 0) S1 (Up.refl d1)
      obtain ⟨v2, S3, e3, w2, rfl, hw2, hd2, u3⟩ := aw (.int 1) S2 u2
      rw [comp_two (y := w1.d) (z := w2.d) (S1 := S2) (S2 := S3) (by
        simp only [wipe, List.set_cons_zero, List.set_cons_succ]
        exact e2) (by
        simp only [wipe, List.set_cons_zero, List.set_cons_succ]
        exact e3)]
      exact .ok ⟨w1, w2, rfl, hw1, hw2, hd1, hd2, u3⟩
    · subst hl2
      have g2 := g1.up d1 u2
      have d2 := u2.dr d1
      rw [mkL_v (sz (by simp)), R.bind_ok]
      have as2 : ∀ (e : Mn.Env), asg (.tp [3, 4]) (.lst [one.d, other.d]) e = some ((e.set 3 (some one.d)).set 4 (some other.d)) := fun e => rfl
      try simp only [v_maxd, v_dict, v_dget, x_dput, x_par, par_k, i_rngD, i_zip, v_agen, v_glob, v_chain, v_isx, x_raise, x_kept, x_nil, x_cons, x_set, x_unp, x_sets, x_expr, x_ret, x_pass, x_brk, x_cont, x_ite, x_for, x_whl, v_bl, v_int, v_str, v_ty, v_non, v_var, v_tup, v_lst, v_bin, v_neg, v_not, v_cmp, v_and, v_or, v_ife, v_call, v_blt, v_mth, v_sub, v_slc, v_comp, o_none, o_some, s_nil, s_cons, i_seq, i_rng1, i_rng2, i_enum, nx_nx, nx_rt, nx_bk, nx_ct, ite_t, ite_f, and_t, and_f, or_t, or_f, R.bind_ok, R.bind_assoc, ofO_some, tr_b, optI_i, itm_t, itm_l, seqL_l, gdOf_tup, gdOf_lst, neg_i, aug_i, add_i, sub_i, slc_t, slc_l, add_l, len_t, len_l, list_t, list_l, tuple_l, max_i, ls_i, le_i, gt_i, ge_i, sub_t, sub_l, List.getElem?_cons_zero, List.getElem?_cons_succ, List.set_cons_zero, List.set_cons_succ, Bool.not_true, Bool.not_false, as2, List.set_cons_zero, List.set_cons_succ]
      refine Sat.bind (c_take 37 S2 a 10 (by decide) d2) fun d S3 ⟨v, hd, v0, v1, u3⟩ => ?_
      subst hd
      have g3 := g2.up d2 u3
      have d3 := u3.dr d2
      obtain ⟨v, rfl⟩ := Int.eq_ofNat_of_zero_le v0
      try simp only [v_maxd, v_dict, v_dget, x_dput, x_par, par_k, i_rngD, i_zip, v_agen, v_glob, v_chain, v_isx, x_raise, x_kept, x_nil, x_cons, x_set, x_unp, x_sets, x_expr, x_ret, x_pass, x_brk, x_cont, x_ite, x_for, x_whl, v_bl, v_int, v_str, v_ty, v_non, v_var, v_tup, v_lst, v_bin, v_neg, v_not, v_cmp, v_and, v_or, v_ife, v_call, v_blt, v_mth, v_sub, v_slc, v_comp, o_none, o_some, s_nil, s_cons, i_seq, i_rng1, i_rng2, i_enum, nx_nx, nx_rt, nx_bk, nx_ct, ite_t, ite_f, and_t, and_f, or_t, or_f, R.bind_ok, R.bind_assoc, ofO_some, tr_b, optI_i, itm_t, itm_l, seqL_l, gdOf_tup, gdOf_lst, neg_i, aug_i, add_i, sub_i, slc_t, slc_l, add_l, len_t, len_l, list_t, list_l, tuple_l, max_i, ls_i, le_i, gt_i, ge_i, sub_t, sub_l, List.getElem?_cons_zero, List.getElem?_cons_succ, List.set_cons_zero, List.set_cons_succ, Bool.not_true, Bool.not_false]
      rw [show (1 : Int) + (v : Int) = ((1 + v : Nat) : Int) by omega]
      refine Sat.bind (c_turns 36 S3 a (1 + v) A B hb d3 (by omega)) fun d S4 ⟨T, hd, hT, _, u4⟩ => ?_
      subst hd
      have g4 := g3.up d3 u4
      have d4 := u4.dr d3
      try simp only [v_maxd, v_dict, v_dget, x_dput, x_par, par_k, i_rngD, i_zip, v_agen, v_glob, v_chain, v_isx, x_raise, x_kept, x_nil, x_cons, x_set, x_unp, x_sets, x_expr, x_ret, x_pass, x_brk, x_cont, x_ite, x_for, x_whl, v_bl, v_int, v_str, v_ty, v_non, v_var, v_tup, v_lst, v_bin, v_neg, v_not, v_cmp, v_and, v_or, v_ife, v_call, v_blt, v_mth, v_sub, v_slc, v_comp, o_none, o_some, s_nil, s_cons, i_seq, i_rng1, i_rng2, i_enum, nx_nx, nx_rt, nx_bk, nx_ct, ite_t, ite_f, and_t, and_f, or_t, or_f, R.bind_ok, R.bind_assoc, ofO_some, tr_b, optI_i, itm_t, itm_l, seqL_l, gdOf_tup, gdOf_lst, neg_i, aug_i, add_i, sub_i, slc_t, slc_l, add_l, len_t, len_l, list_t, list_l, tuple_l, max_i, ls_i, le_i, gt_i, ge_i, sub_t, sub_l, List.getElem?_cons_zero, List.getElem?_cons_succ, List.set_cons_zero, List.set_cons_succ, Bool.not_true, Bool.not_false]
      rw [c_rows hb (by omega) (by omega) one other o1 o2 q1 q2 15 S4]
      simp only [v_maxd, v_dict, v_dget, x_dput, x_par, par_k, i_rngD, i_zip, v_agen, v_glob, v_chain, v_isx, x_raise, x_kept, x_nil, x_cons, x_set, x_unp, x_sets, x_expr, x_ret, x_pass, x_brk, x_cont, x_ite, x_for, x_whl, v_bl, v_int, v_str, v_ty, v_non, v_var, v_tup, v_lst, v_bin, v_neg, v_not, v_cmp, v_and, v_or, v_ife, v_call, v_blt, v_mth, v_sub, v_slc, v_comp, o_none, o_some, s_nil, s_cons, i_seq, i_rng1, i_rng2, i_enum, nx_nx, nx_rt, nx_bk, nx_ct, ite_t, ite_f, and_t, and_f, or_t, or_f, R.bind_ok, R.bind_assoc, ofO_some, tr_b, optI_i, itm_t, itm_l, seqL_l, gdOf_tup, gdOf_lst, neg_i, aug_i, add_i, sub_i, slc_t, slc_l, add_l, len_t, len_l, list_t, list_l, tuple_l, max_i, ls_i, le_i, gt_i, ge_i, sub_t, sub_l, List.getElem?_cons_zero, List.getElem?_cons_succ, List.set_cons_zero, List.set_cons_succ, Bool.not_true, Bool.not_false]
      refine Sat.bind (c_loop hb 3 3 (by decide) (by decide) (by decide) 35 S4 a d4) fun d S5 ⟨F, U, hd, ⟨f1, f2, f3, f4, f5⟩, u5⟩ => ?_
      subst hd
      have g5 := g4.up d4 u5
      try simp only [v_maxd, v_dict, v_dget, x_dput, x_par, par_k, i_rngD, i_zip, v_agen, v_glob, v_chain, v_isx, x_raise, x_kept, x_nil, x_cons, x_set, x_unp, x_sets, x_expr, x_ret, x_pass, x_brk, x_cont, x_ite, x_for, x_whl, v_bl, v_int, v_str, v_ty, v_non, v_var, v_tup, v_lst, v_bin, v_neg, v_not, v_cmp, v_and, v_or, v_ife, v_call, v_blt, v_mth, v_sub, v_slc, v_comp, o_none, o_some, s_nil, s_cons, i_seq, i_rng1, i_rng2, i_enum, nx_nx, nx_rt, nx_bk, nx_ct, ite_t, ite_f, and_t, and_f, or_t, or_f, R.bind_ok, R.bind_assoc, ofO_some, tr_b, optI_i, itm_t, itm_l, seqL_l, gdOf_tup, gdOf_lst, neg_i, aug_i, add_i, sub_i, slc_t, slc_l, add_l, len_t, len_l, list_t, list_l, tuple_l, max_i, ls_i, le_i, gt_i, ge_i, sub_t, sub_l, List.getElem?_cons_zero, List.getElem?_cons_succ, List.set_cons_zero, List.set_cons_succ, Bool.not_true, Bool.not_false]
      rw [c_loops hb f1 f2 f3 f4 f5 one o1 q1 15 S5]
      simp only [v_maxd, v_dict, v_dget, x_dput, x_par, par_k, i_rngD, i_zip, v_agen, v_glob, v_chain, v_isx, x_raise, x_kept, x_nil, x_cons, x_set, x_unp, x_sets, x_expr, x_ret, x_pass, x_brk, x_cont, x_ite, x_for, x_whl, v_bl, v_int, v_str, v_ty, v_non, v_var, v_tup, v_lst, v_bin, v_neg, v_not, v_cmp, v_and, v_or, v_ife, v_call, v_blt, v_mth, v_sub, v_slc, v_comp, o_none, o_some, s_nil, s_cons, i_seq, i_rng1, i_rng2, i_enum, nx_nx, nx_rt, nx_bk, nx_ct, ite_t, ite_f, and_t, and_f, or_t, or_f, R.bind_ok, R.bind_assoc, ofO_some, tr_b, optI_i, itm_t, itm_l, seqL_l, gdOf_tup, gdOf_lst, neg_i, aug_i, add_i, sub_i, slc_t, slc_l, add_l, len_t, len_l, list_t, list_l, tuple_l, max_i, ls_i, le_i, gt_i, ge_i, sub_t, sub_l, List.getElem?_cons_zero, List.getElem?_cons_succ, List.set_cons_zero, List.set_cons_succ, Bool.not_true, Bool.not_false]
      exact .ok ⟨g5, _, _, _, _, _, rfl⟩
  · subst hf
    simp only [v_maxd, v_dict, v_dget, x_dput, x_par, par_k, i_rngD, i_zip, v_agen, v_glob, v_chain, v_isx, x_raise, x_kept, x_nil, x_cons, x_set, x_unp, x_sets, x_expr, x_ret, x_pass, x_brk, x_cont, x_ite, x_for, x_whl, v_bl, v_int, v_str, v_ty, v_non, v_var, v_tup, v_lst, v_bin, v_neg, v_not, v_cmp, v_and, v_or, v_ife, v_call, v_blt, v_mth, v_sub, v_slc, v_comp, o_none, o_some, s_nil, s_cons, i_seq, i_rng1, i_rng2, i_enum, nx_nx, nx_rt, nx_bk, nx_ct, ite_t, ite_f, and_t, and_f, or_t, or_f, R.bind_ok, R.bind_assoc, ofO_some, tr_b, optI_i, itm_t, itm_l, seqL_l, gdOf_tup, gdOf_lst, neg_i, aug_i, add_i, sub_i, slc_t, slc_l, add_l, len_t, len_l, list_t, list_l, tuple_l, max_i, ls_i, le_i, gt_i, ge_i, sub_t, sub_l, List.getElem?_cons_zero, List.getElem?_cons_succ, List.set_cons_zero, List.set_cons_succ, Bool.not_true, Bool.not_false]
    exact .ok rfl
end K23


/-! the end: what the top has written -/
namespace K23
open PySem PySem.Spec PyProof.Rows Mn
theorem law_all {l : PySem.W.OpenLaw} {qq : Program} {w : World} {K : PySem.W.Frag} {h : Heap} {mg : Str → Option Value} {fa : Addr} (X : K.In h) (G : h.Ns mainGlobals mg) (hfa : mg "law" = some (.ref fa))
    {od0 an0 : Option Addr} {sl0 : Array (Option Value)} {oc0 kV0 dc0 pm0 cd0 ct0 : Value} {f0 : Addr}
    {od1 an1 : Option Addr} {sl1 : Array (Option Value)} {oc1 kV1 dc1 pm1 cd1 ct1 : Value} {f1 : Addr}
    {od2 an2 : Option Addr} {sl2 : Array (Option Value)} {oc2 kV2 dc2 pm2 cd2 ct2 : Value} {f2 : Addr}
    {od3 an3 : Option Addr} {sl3 : Array (Option Value)} {oc3 kV3 dc3 pm3 cd3 ct3 : Value} {f3 : Addr}
    {od4 an4 : Option Addr} {sl4 : Array (Option Value)} {oc4 kV4 dc4 pm4 cd4 ct4 : Value} {f4 : Addr}
    {od5 an5 : Option Addr} {sl5 : Array (Option Value)} {oc5 kV5 dc5 pm5 cd5 ct5 : Value} {f5 : Addr}
    {od6 an6 : Option Addr} {sl6 : Array (Option Value)} {oc6 kV6 dc6 pm6 cd6 ct6 : Value} {f6 : Addr}
    {od7 an7 : Option Addr} {sl7 : Array (Option Value)} {oc7 kV7 dc7 pm7 cd7 ct7 : Value} {f7 : Addr}
    {od8 an8 : Option Addr} {sl8 : Array (Option Value)} {oc8 kV8 dc8 pm8 cd8 ct8 : Value} {f8 : Addr}
    {od9 an9 : Option Addr} {sl9 : Array (Option Value)} {oc9 kV9 dc9 pm9 cd9 ct9 : Value} {f9 : Addr}
    {od10 an10 : Option Addr} {sl10 : Array (Option Value)} {oc10 kV10 dc10 pm10 cd10 ct10 : Value} {f10 : Addr}
    {od11 an11 : Option Addr} {sl11 : Array (Option Value)} {oc11 kV11 dc11 pm11 cd11 ct11 : Value} {f11 : Addr}
    {od12 an12 : Option Addr} {sl12 : Array (Option Value)} {oc12 kV12 dc12 pm12 cd12 ct12 : Value} {f12 : Addr}
    {od13 an13 : Option Addr} {sl13 : Array (Option Value)} {oc13 kV13 dc13 pm13 cd13 ct13 : Value} {f13 : Addr}
    {od14 an14 : Option Addr} {sl14 : Array (Option Value)} {oc14 kV14 dc14 pm14 cd14 ct14 : Value} {f14 : Addr}
    {od15 an15 : Option Addr} {sl15 : Array (Option Value)} {oc15 kV15 dc15 pm15 cd15 ct15 : Value} {f15 : Addr}
    {od16 an16 : Option Addr} {sl16 : Array (Option Value)} {oc16 kV16 dc16 pm16 cd16 ct16 : Value} {f16 : Addr}
    {od17 an17 : Option Addr} {sl17 : Array (Option Value)} {oc17 kV17 dc17 pm17 cd17 ct17 : Value} {f17 : Addr}
    {od18 an18 : Option Addr} {sl18 : Array (Option Value)} {oc18 kV18 dc18 pm18 cd18 ct18 : Value} {f18 : Addr}
    {od19 an19 : Option Addr} {sl19 : Array (Option Value)} {oc19 kV19 dc19 pm19 cd19 ct19 : Value} {f19 : Addr}
    {od20 an20 : Option Addr} {sl20 : Array (Option Value)} {oc20 kV20 dc20 pm20 cd20 ct20 : Value} {f20 : Addr}
    {od21 an21 : Option Addr} {sl21 : Array (Option Value)} {oc21 kV21 dc21 pm21 cd21 ct21 : Value} {f21 : Addr}
    {od22 an22 : Option Addr} {sl22 : Array (Option Value)} {oc22 kV22 dc22 pm22 cd22 ct22 : Value} {f22 : Addr}
    {od23 an23 : Option Addr} {sl23 : Array (Option Value)} {oc23 kV23 dc23 pm23 cd23 ct23 : Value} {f23 : Addr}
    {od24 an24 : Option Addr} {sl24 : Array (Option Value)} {oc24 kV24 dc24 pm24 cd24 ct24 : Value} {f24 : Addr}
    {od25 an25 : Option Addr} {sl25 : Array (Option Value)} {oc25 kV25 dc25 pm25 cd25 ct25 : Value} {f25 : Addr}
    {od26 an26 : Option Addr} {sl26 : Array (Option Value)} {oc26 kV26 dc26 pm26 cd26 ct26 : Value} {f26 : Addr}
    {od27 an27 : Option Addr} {sl27 : Array (Option Value)} {oc27 kV27 dc27 pm27 cd27 ct27 : Value} {f27 : Addr}
    {od28 an28 : Option Addr} {sl28 : Array (Option Value)} {oc28 kV28 dc28 pm28 cd28 ct28 : Value} {f28 : Addr}
    {od29 an29 : Option Addr} {sl29 : Array (Option Value)} {oc29 kV29 dc29 pm29 cd29 ct29 : Value} {f29 : Addr}
    {od30 an30 : Option Addr} {sl30 : Array (Option Value)} {oc30 kV30 dc30 pm30 cd30 ct30 : Value} {f30 : Addr}
    {od31 an31 : Option Addr} {sl31 : Array (Option Value)} {oc31 kV31 dc31 pm31 cd31 ct31 : Value} {f31 : Addr}
    {cc8 P8 : Addr} {ke8 : Value} {kd8 : Option Addr} {kv8 : Array Value} {ks8 : Array (Option Value)}
    {CE0 : Addr}
    {CE1 : Addr}
    {GA0 : Addr} {GV0 : Array Value} {gn0 : Nat} {gs0 : Array (Option Value)}
    {gt1 : Tok}
    (a0 : PySem.W.nsIn K mainGlobals "is_count" = some (some (.ref f0))) (l0 : K.lookup f0 = some ⟨oc0, od0, .func (PySem.W.fnOf "is_count" "is_count" (L2.defArgs s_is_count) (L2.defBody s_is_count) (L2.defScope s_is_count) .none kV0 dc0 pm0 an0 cd0 ct0), sl0⟩) (c0 : PySem.W.codeIn K cd0 "is_count" = true) (k0 : PySem.W.keepIn K (.ref f0) = true)
    (a1 : PySem.W.nsIn K mainGlobals "is_below" = some (some (.ref f1))) (l1 : K.lookup f1 = some ⟨oc1, od1, .func (PySem.W.fnOf "is_below" "is_below" (L2.defArgs s_is_below) (L2.defBody s_is_below) (L2.defScope s_is_below) .none kV1 dc1 pm1 an1 cd1 ct1), sl1⟩) (c1 : PySem.W.codeIn K cd1 "is_below" = true) (k1 : PySem.W.keepIn K (.ref f1) = true)
    (a2 : PySem.W.nsIn K mainGlobals "letters_of" = some (some (.ref f2))) (l2 : K.lookup f2 = some ⟨oc2, od2, .func (PySem.W.fnOf "letters_of" "letters_of" (L2.defArgs s_letters_of) (L2.defBody s_letters_of) (L2.defScope s_letters_of) .none kV2 dc2 pm2 an2 cd2 ct2), sl2⟩) (c2 : PySem.W.codeIn K cd2 "letters_of" = true) (k2 : PySem.W.keepIn K (.ref f2) = true)
    (a3 : PySem.W.nsIn K mainGlobals "is_letter" = some (some (.ref f3))) (l3 : K.lookup f3 = some ⟨oc3, od3, .func (PySem.W.fnOf "is_letter" "is_letter" (L2.defArgs s_is_letter) (L2.defBody s_is_letter) (L2.defScope s_is_letter) .none kV3 dc3 pm3 an3 cd3 ct3), sl3⟩) (c3 : PySem.W.codeIn K cd3 "is_letter" = true) (k3 : PySem.W.keepIn K (.ref f3) = true)
    (a4 : PySem.W.nsIn K mainGlobals "has_bit" = some (some (.ref f4))) (l4 : K.lookup f4 = some ⟨oc4, od4, .func (PySem.W.fnOf "has_bit" "has_bit" (L2.defArgs s_has_bit) (L2.defBody s_has_bit) (L2.defScope s_has_bit) .none kV4 dc4 pm4 an4 cd4 ct4), sl4⟩) (c4 : PySem.W.codeIn K cd4 "has_bit" = true) (k4 : PySem.W.keepIn K (.ref f4) = true)
    (a5 : PySem.W.nsIn K mainGlobals "is_one_of" = some (some (.ref f5))) (l5 : K.lookup f5 = some ⟨oc5, od5, .func (PySem.W.fnOf "is_one_of" "is_one_of" (L2.defArgs s_is_one_of) (L2.defBody s_is_one_of) (L2.defScope s_is_one_of) .none kV5 dc5 pm5 an5 cd5 ct5), sl5⟩) (c5 : PySem.W.codeIn K cd5 "is_one_of" = true) (k5 : PySem.W.keepIn K (.ref f5) = true)
    (a6 : PySem.W.nsIn K mainGlobals "is_turn" = some (some (.ref f6))) (l6 : K.lookup f6 = some ⟨oc6, od6, .func (PySem.W.fnOf "is_turn" "is_turn" (L2.defArgs s_is_turn) (L2.defBody s_is_turn) (L2.defScope s_is_turn) .none kV6 dc6 pm6 an6 cd6 ct6), sl6⟩) (c6 : PySem.W.codeIn K cd6 "is_turn" = true) (k6 : PySem.W.keepIn K (.ref f6) = true)
    (a7 : PySem.W.nsIn K mainGlobals "place_of" = some (some (.ref f7))) (l7 : K.lookup f7 = some ⟨oc7, od7, .func (PySem.W.fnOf "place_of" "place_of" (L2.defArgs s_place_of) (L2.defBody s_place_of) (L2.defScope s_place_of) .none kV7 dc7 pm7 an7 cd7 ct7), sl7⟩) (c7 : PySem.W.codeIn K cd7 "place_of" = true) (k7 : PySem.W.keepIn K (.ref f7) = true)
    (a8 : PySem.W.nsIn K mainGlobals "are_turns" = some (some (.ref f8))) (l8 : K.lookup f8 = some ⟨oc8, od8, .func (PySem.W.fnOf "are_turns" "are_turns" (L2.defArgs s_are_turns) (L2.defBody s_are_turns) (L2.defScope s_are_turns) .none kV8 dc8 pm8 an8 cd8 ct8), sl8⟩) (c8 : PySem.W.codeIn K cd8 "are_turns" = true) (k8 : PySem.W.keepIn K (.ref f8) = true)
    (a9 : PySem.W.nsIn K mainGlobals "is_loop" = some (some (.ref f9))) (l9 : K.lookup f9 = some ⟨oc9, od9, .func (PySem.W.fnOf "is_loop" "is_loop" (L2.defArgs s_is_loop) (L2.defBody s_is_loop) (L2.defScope s_is_loop) .none kV9 dc9 pm9 an9 cd9 ct9), sl9⟩) (c9 : PySem.W.codeIn K cd9 "is_loop" = true) (k9 : PySem.W.keepIn K (.ref f9) = true)
    (a10 : PySem.W.nsIn K mainGlobals "need_loop" = some (some (.ref f10))) (l10 : K.lookup f10 = some ⟨oc10, od10, .func (PySem.W.fnOf "need_loop" "need_loop" (L2.defArgs s_need_loop) (L2.defBody s_need_loop) (L2.defScope s_need_loop) .none kV10 dc10 pm10 an10 cd10 ct10), sl10⟩) (c10 : PySem.W.codeIn K cd10 "need_loop" = true) (k10 : PySem.W.keepIn K (.ref f10) = true)
    (a11 : PySem.W.nsIn K mainGlobals "inner_of" = some (some (.ref f11))) (l11 : K.lookup f11 = some ⟨oc11, od11, .func (PySem.W.fnOf "inner_of" "inner_of" (L2.defArgs s_inner_of) (L2.defBody s_inner_of) (L2.defScope s_inner_of) .none kV11 dc11 pm11 an11 cd11 ct11), sl11⟩) (c11 : PySem.W.codeIn K cd11 "inner_of" = true) (k11 : PySem.W.keepIn K (.ref f11) = true)
    (a12 : PySem.W.nsIn K mainGlobals "is_look" = some (some (.ref f12))) (l12 : K.lookup f12 = some ⟨oc12, od12, .func (PySem.W.fnOf "is_look" "is_look" (L2.defArgs s_is_look) (L2.defBody s_is_look) (L2.defScope s_is_look) .none kV12 dc12 pm12 an12 cd12 ct12), sl12⟩) (c12 : PySem.W.codeIn K cd12 "is_look" = true) (k12 : PySem.W.keepIn K (.ref f12) = true)
    (a13 : PySem.W.nsIn K mainGlobals "since_along" = some (some (.ref f13))) (l13 : K.lookup f13 = some ⟨oc13, od13, .func (PySem.W.fnOf "since_along" "since_along" (L2.defArgs s_since_along) (L2.defBody s_since_along) (L2.defScope s_since_along) .none kV13 dc13 pm13 an13 cd13 ct13), sl13⟩) (c13 : PySem.W.codeIn K cd13 "since_along" = true) (k13 : PySem.W.keepIn K (.ref f13) = true)
    (a14 : PySem.W.nsIn K mainGlobals "sign_along" = some (some (.ref f14))) (l14 : K.lookup f14 = some ⟨oc14, od14, .func (PySem.W.fnOf "sign_along" "sign_along" (L2.defArgs s_sign_along) (L2.defBody s_sign_along) (L2.defScope s_sign_along) .none kV14 dc14 pm14 an14 cd14 ct14), sl14⟩) (c14 : PySem.W.codeIn K cd14 "sign_along" = true) (k14 : PySem.W.keepIn K (.ref f14) = true)
    (a15 : PySem.W.nsIn K mainGlobals "values_along" = some (some (.ref f15))) (l15 : K.lookup f15 = some ⟨oc15, od15, .func (PySem.W.fnOf "values_along" "values_along" (L2.defArgs s_values_along) (L2.defBody s_values_along) (L2.defScope s_values_along) .none kV15 dc15 pm15 an15 cd15 ct15), sl15⟩) (c15 : PySem.W.codeIn K cd15 "values_along" = true) (k15 : PySem.W.keepIn K (.ref f15) = true)
    (a16 : PySem.W.nsIn K mainGlobals "looks_deep" = some (some (.ref f16))) (l16 : K.lookup f16 = some ⟨oc16, od16, .func (PySem.W.fnOf "looks_deep" "looks_deep" (L2.defArgs s_looks_deep) (L2.defBody s_looks_deep) (L2.defScope s_looks_deep) .none kV16 dc16 pm16 an16 cd16 ct16), sl16⟩) (c16 : PySem.W.codeIn K cd16 "looks_deep" = true) (k16 : PySem.W.keepIn K (.ref f16) = true)
    (a17 : PySem.W.nsIn K mainGlobals "values_on" = some (some (.ref f17))) (l17 : K.lookup f17 = some ⟨oc17, od17, .func (PySem.W.fnOf "values_on" "values_on" (L2.defArgs s_values_on) (L2.defBody s_values_on) (L2.defScope s_values_on) .none kV17 dc17 pm17 an17 cd17 ct17), sl17⟩) (c17 : PySem.W.codeIn K cd17 "values_on" = true) (k17 : PySem.W.keepIn K (.ref f17) = true)
    (a18 : PySem.W.nsIn K mainGlobals "holds_always" = some (some (.ref f18))) (l18 : K.lookup f18 = some ⟨oc18, od18, .func (PySem.W.fnOf "holds_always" "holds_always" (L2.defArgs s_holds_always) (L2.defBody s_holds_always) (L2.defScope s_holds_always) .none kV18 dc18 pm18 an18 cd18 ct18), sl18⟩) (c18 : PySem.W.codeIn K cd18 "holds_always" = true) (k18 : PySem.W.keepIn K (.ref f18) = true)
    (a19 : PySem.W.nsIn K mainGlobals "holds_again" = some (some (.ref f19))) (l19 : K.lookup f19 = some ⟨oc19, od19, .func (PySem.W.fnOf "holds_again" "holds_again" (L2.defArgs s_holds_again) (L2.defBody s_holds_again) (L2.defScope s_holds_again) .none kV19 dc19 pm19 an19 cd19 ct19), sl19⟩) (c19 : PySem.W.codeIn K cd19 "holds_again" = true) (k19 : PySem.W.keepIn K (.ref f19) = true)
    (a20 : PySem.W.nsIn K mainGlobals "_law_mixed" = some (some (.ref f20))) (l20 : K.lookup f20 = some ⟨oc20, od20, .func (PySem.W.fnOf "_law_mixed" "_law_mixed" (L2.defArgs s__law_mixed) (L2.defBody s__law_mixed) (L2.defScope s__law_mixed) .none kV20 dc20 pm20 an20 cd20 ct20), sl20⟩) (c20 : PySem.W.codeIn K cd20 "_law_mixed" = true) (k20 : PySem.W.keepIn K (.ref f20) = true)
    (a21 : PySem.W.nsIn K mainGlobals "_law_draws" = some (some (.ref f21))) (l21 : K.lookup f21 = some ⟨oc21, od21, .func (PySem.W.fnOf "_law_draws" "_law_draws" (L2.defArgs s__law_draws) (L2.defBody s__law_draws) (L2.defScope s__law_draws) .none kV21 dc21 pm21 an21 cd21 ct21), sl21⟩) (c21 : PySem.W.codeIn K cd21 "_law_draws" = true) (k21 : PySem.W.keepIn K (.ref f21) = true)
    (a22 : PySem.W.nsIn K mainGlobals "_law_take" = some (some (.ref f22))) (l22 : K.lookup f22 = some ⟨oc22, od22, .func (PySem.W.fnOf "_law_take" "_law_take" (L2.defArgs s__law_take) (L2.defBody s__law_take) (L2.defScope s__law_take) .none kV22 dc22 pm22 an22 cd22 ct22), sl22⟩) (c22 : PySem.W.codeIn K cd22 "_law_take" = true) (k22 : PySem.W.keepIn K (.ref f22) = true)
    (a23 : PySem.W.nsIn K mainGlobals "_law_some" = some (some (.ref f23))) (l23 : K.lookup f23 = some ⟨oc23, od23, .func (PySem.W.fnOf "_law_some" "_law_some" (L2.defArgs s__law_some) (L2.defBody s__law_some) (L2.defScope s__law_some) .none kV23 dc23 pm23 an23 cd23 ct23), sl23⟩) (c23 : PySem.W.codeIn K cd23 "_law_some" = true) (k23 : PySem.W.keepIn K (.ref f23) = true)
    (a24 : PySem.W.nsIn K mainGlobals "_law_board" = some (some (.ref f24))) (l24 : K.lookup f24 = some ⟨oc24, od24, .func (PySem.W.fnOf "_law_board" "_law_board" (L2.defArgs s__law_board) (L2.defBody s__law_board) (L2.defScope s__law_board) .none kV24 dc24 pm24 an24 cd24 ct24), sl24⟩) (c24 : PySem.W.codeIn K cd24 "_law_board" = true) (k24 : PySem.W.keepIn K (.ref f24) = true)
    (a25 : PySem.W.nsIn K mainGlobals "_law_wish" = some (some (.ref f25))) (l25 : K.lookup f25 = some ⟨oc25, od25, .func (PySem.W.fnOf "_law_wish" "_law_wish" (L2.defArgs s__law_wish) (L2.defBody s__law_wish) (L2.defScope s__law_wish) .none kV25 dc25 pm25 an25 cd25 ct25), sl25⟩) (c25 : PySem.W.codeIn K cd25 "_law_wish" = true) (k25 : PySem.W.keepIn K (.ref f25) = true)
    (a26 : PySem.W.nsIn K mainGlobals "_law_turns" = some (some (.ref f26))) (l26 : K.lookup f26 = some ⟨oc26, od26, .func (PySem.W.fnOf "_law_turns" "_law_turns" (L2.defArgs s__law_turns) (L2.defBody s__law_turns) (L2.defScope s__law_turns) .none kV26 dc26 pm26 an26 cd26 ct26), sl26⟩) (c26 : PySem.W.codeIn K cd26 "_law_turns" = true) (k26 : PySem.W.keepIn K (.ref f26) = true)
    (a27 : PySem.W.nsIn K mainGlobals "_law_loop" = some (some (.ref f27))) (l27 : K.lookup f27 = some ⟨oc27, od27, .func (PySem.W.fnOf "_law_loop" "_law_loop" (L2.defArgs s__law_loop) (L2.defBody s__law_loop) (L2.defScope s__law_loop) .none kV27 dc27 pm27 an27 cd27 ct27), sl27⟩) (c27 : PySem.W.codeIn K cd27 "_law_loop" = true) (k27 : PySem.W.keepIn K (.ref f27) = true)
    (a28 : PySem.W.nsIn K mainGlobals "_law_pairs" = some (some (.ref f28))) (l28 : K.lookup f28 = some ⟨oc28, od28, .func (PySem.W.fnOf "_law_pairs" "_law_pairs" (L2.defArgs s__law_pairs) (L2.defBody s__law_pairs) (L2.defScope s__law_pairs) .none kV28 dc28 pm28 an28 cd28 ct28), sl28⟩) (c28 : PySem.W.codeIn K cd28 "_law_pairs" = true) (k28 : PySem.W.keepIn K (.ref f28) = true)
    (a29 : PySem.W.nsIn K mainGlobals "_law_rows_right" = some (some (.ref f29))) (l29 : K.lookup f29 = some ⟨oc29, od29, .func (PySem.W.fnOf "_law_rows_right" "_law_rows_right" (L2.defArgs s__law_rows_right) (L2.defBody s__law_rows_right) (L2.defScope s__law_rows_right) .none kV29 dc29 pm29 an29 cd29 ct29), sl29⟩) (c29 : PySem.W.codeIn K cd29 "_law_rows_right" = true) (k29 : PySem.W.keepIn K (.ref f29) = true)
    (a30 : PySem.W.nsIn K mainGlobals "_law_loops_right" = some (some (.ref f30))) (l30 : K.lookup f30 = some ⟨oc30, od30, .func (PySem.W.fnOf "_law_loops_right" "_law_loops_right" (L2.defArgs s__law_loops_right) (L2.defBody s__law_loops_right) (L2.defScope s__law_loops_right) .none kV30 dc30 pm30 an30 cd30 ct30), sl30⟩) (c30 : PySem.W.codeIn K cd30 "_law_loops_right" = true) (k30 : PySem.W.keepIn K (.ref f30) = true)
    (a31 : PySem.W.nsIn K mainGlobals "law" = some (some (.ref f31))) (l31 : K.lookup f31 = some ⟨oc31, od31, .func (PySem.W.fnOf "law" "law" (L2.defArgs s_law) (L2.defBody s_law) (L2.defScope s_law) .none kV31 dc31 pm31 an31 cd31 ct31), sl31⟩) (c31 : PySem.W.codeIn K cd31 "law" = true) (k31 : PySem.W.keepIn K (.ref f31) = true)
    (q8 : cd8 = .ref cc8) (o8 : K.lookup cc8 = some ⟨ke8, kd8, .fields kv8, ks8⟩) (p8 : kv8[11]? = some (.ref P8)) (h8 : PySem.W.codeHdIn [(cc8, ⟨ke8, kd8, .fields kv8, ks8⟩)] cc8 P8 = true) (n8 : K.lookup P8 = none) (r8 : ((recsOf qq).any fun e => e.name == "are_turns") = true)
    (ea0 : PySem.W.nsIn K mainGlobals "BadLoop" = some (some (.ref CE0))) (eb0 : PySem.W.excIn K CE0 [.type "ValueError", .type "Exception", .type "BaseException", .type "object"] "ValueError.__new__" = true) (ek0 : PySem.W.keepIn K (.ref CE0) = true) (es0 : PySem.W.subIn K (.ref CE0) (.type "BaseException") = some true) (et0 : PySem.W.typeIn K (.ref CE0) = some (.type "type")) (ec0_0 : PySem.W.findIn K (.ref CE0) "__getattribute__" = some (some (.builtin "BaseException.__getattribute__"))) (ec0_1 : PySem.W.findIn K (.ref CE0) "__getattr__" = some none) (ec0_2 : PySem.W.subIn K (.ref CE0) (.type "BaseException") = some true) (ec0_3 : PySem.W.hasDictIn K CE0 = true) (ec0_4 : PySem.W.findIn K (.ref CE0) "__class__" = some (some (.builtin "object.__class__"))) (ec0_7 : PySem.W.mroIn K CE0 (.type "object") = some true) (ea1 : PySem.W.nsIn K mainGlobals "BadName" = some (some (.ref CE1))) (eb1 : PySem.W.excIn K CE1 [.type "ValueError", .type "Exception", .type "BaseException", .type "object"] "ValueError.__new__" = true) (ek1 : PySem.W.keepIn K (.ref CE1) = true) (es1 : PySem.W.subIn K (.ref CE1) (.type "BaseException") = some true) (et1 : PySem.W.typeIn K (.ref CE1) = some (.type "type")) (ec1_0 : PySem.W.findIn K (.ref CE1) "__getattribute__" = some (some (.builtin "BaseException.__getattribute__"))) (ec1_1 : PySem.W.findIn K (.ref CE1) "__getattr__" = some none) (ec1_2 : PySem.W.subIn K (.ref CE1) (.type "BaseException") = some true) (ec1_3 : PySem.W.hasDictIn K CE1 = true) (ec1_4 : PySem.W.findIn K (.ref CE1) "__class__" = some (some (.builtin "object.__class__"))) (ec1_7 : PySem.W.mroIn K CE1 (.type "object") = some true) (ecx5 : PySem.W.specialIn K (.builtin "object.__class__") "__get__" = some (some (.builtin "getset_descriptor.__get__"))) (ecx6 : PySem.W.takesIn K (.builtin "object.__class__") = some true) (ga0 : PySem.W.nsIn K mainGlobals "LOOKS_BACK" = some (some (.ref GA0))) (gl0 : K.lookup GA0 = some ⟨.type "tuple", none, .seq GV0 gn0, gs0⟩) (gz0 : GV0.size ≤ sizeLine) (gv0 : L2.Vals [.str "before", .str "was", .str "since"] GV0.toList) (ga1 : PySem.W.nsIn K mainGlobals "MOST_TURNS" = some (some (.int 200 gt1)))
    (z0 : PySem.W.nsIn K mainGlobals "all" = some none) (z1 : PySem.W.nsIn K mainGlobals "any" = some none) (z2 : PySem.W.nsIn K mainGlobals "bool" = some none) (z3 : PySem.W.nsIn K mainGlobals "enumerate" = some none) (z4 : PySem.W.nsIn K mainGlobals "int" = some none) (z5 : PySem.W.nsIn K mainGlobals "isinstance" = some none) (z6 : PySem.W.nsIn K mainGlobals "len" = some none) (z7 : PySem.W.nsIn K mainGlobals "list" = some none) (z8 : PySem.W.nsIn K mainGlobals "max" = some none) (z9 : PySem.W.nsIn K mainGlobals "range" = some none) (z10 : PySem.W.nsIn K mainGlobals "str" = some none) (z11 : PySem.W.nsIn K mainGlobals "sum" = some none) (z12 : PySem.W.nsIn K mainGlobals "tuple" = some none) (z13 : PySem.W.nsIn K mainGlobals "zip" = some none)
    (hown : ∀ (nm : Str) (f : Addr), ((recsOf qq).any fun e => e.name == nm) = true → mg nm = some (.ref f) → LamX.OwnTab K f h)
    (hlaw : ∀ ns : List Int, ns.length ≤ 63 → ∃ S', callA Gs 1000000 Pg 40 "law" [.lst (ns.map .int)] [] = .ok (.bl true) S') :
    LawG l w K (L2.CX l.prog w) 80 63 "_law_script" mg fa h := by
  have ok : ProgOk ⟨fun _ => none, (caOf [CE0, CE1]), ([(cc8, P8)] : List (Addr × Addr)).map (·.2), sg⟩ [(cc8, P8)] Gs Pg K mg := by
    refine ⟨fun name d hd => ?_, fun f a hf => ?_, fun f hf => ?_, fun f hf => ?_, fun f tab hf => ?_, fun f hf => ?_, fun x d h => ?_, rfl⟩
    · unfold Pg at hd
      split at hd
      · cases hd
        have F := L2.fun_mk (st := s_is_count) l0 c0 k0
        exact ⟨60, ⟨_, _, _, _, _, _, F, sc_is_count, rfl, rfl, ck_is_count, PySem.W.mg_of X G a0, F.binds (ps := ["thing"]) fun _ _ _ _ _ _ us hl => match us, hl with | [_], _ => rfl, fun z => (by rw [show gOk sg (L2.defScope s_is_count) = false by decide +kernel] at z; cases z)⟩⟩
      · cases hd
        have F := L2.fun_mk (st := s_is_below) l1 c1 k1
        exact ⟨60, ⟨_, _, _, _, _, _, F, sc_is_below, rfl, rfl, ck_is_below, PySem.W.mg_of X G a1, F.binds (ps := ["many", "thing"]) fun _ _ _ _ _ _ us hl => match us, hl with | [_, _], _ => rfl, fun z => (by rw [show gOk sg (L2.defScope s_is_below) = false by decide +kernel] at z; cases z)⟩⟩
      · cases hd
        have F := L2.fun_mk (st := s_letters_of) l2 c2 k2
        exact ⟨60, ⟨_, _, _, _, _, _, F, sc_letters_of, rfl, rfl, ck_letters_of, PySem.W.mg_of X G a2, F.binds (ps := ["names"]) fun _ _ _ _ _ _ us hl => match us, hl with | [_], _ => rfl, fun z => (by rw [show gOk sg (L2.defScope s_letters_of) = false by decide +kernel] at z; cases z)⟩⟩
      · cases hd
        have F := L2.fun_mk (st := s_is_letter) l3 c3 k3
        exact ⟨60, ⟨_, _, _, _, _, _, F, sc_is_letter, rfl, rfl, ck_is_letter, PySem.W.mg_of X G a3, F.binds (ps := ["names", "thing"]) fun _ _ _ _ _ _ us hl => match us, hl with | [_, _], _ => rfl, fun z => (by rw [show gOk sg (L2.defScope s_is_letter) = false by decide +kernel] at z; cases z)⟩⟩
      · cases hd
        have F := L2.fun_mk (st := s_has_bit) l4 c4 k4
        exact ⟨60, ⟨_, _, _, _, _, _, F, sc_has_bit, rfl, rfl, ck_has_bit, PySem.W.mg_of X G a4, F.binds (ps := ["letter", "place"]) fun _ _ _ _ _ _ us hl => match us, hl with | [_, _], _ => rfl, fun z => (by rw [show gOk sg (L2.defScope s_has_bit) = false by decide +kernel] at z; cases z)⟩⟩
      · cases hd
        have F := L2.fun_mk (st := s_is_one_of) l5 c5 k5
        exact ⟨60, ⟨_, _, _, _, _, _, F, sc_is_one_of, rfl, rfl, ck_is_one_of, PySem.W.mg_of X G a5, F.binds (ps := ["names", "thing"]) fun _ _ _ _ _ _ us hl => match us, hl with | [_, _], _ => rfl, fun z => (by rw [show gOk sg (L2.defScope s_is_one_of) = false by decide +kernel] at z; cases z)⟩⟩
      · cases hd
        have F := L2.fun_mk (st := s_is_turn) l6 c6 k6
        exact ⟨60, ⟨_, _, _, _, _, _, F, sc_is_turn, rfl, rfl, ck_is_turn, PySem.W.mg_of X G a6, F.binds (ps := ["board", "thing"]) fun _ _ _ _ _ _ us hl => match us, hl with | [_, _], _ => rfl, fun z => (by rw [show gOk sg (L2.defScope s_is_turn) = false by decide +kernel] at z; cases z)⟩⟩
      · cases hd
        have F := L2.fun_mk (st := s_place_of) l7 c7 k7
        exact ⟨60, ⟨_, _, _, _, _, _, F, sc_place_of, rfl, rfl, ck_place_of, PySem.W.mg_of X G a7, F.binds (ps := ["board", "name"]) fun _ _ _ _ _ _ us hl => match us, hl with | [_, _], _ => rfl, fun z => (by rw [show gOk sg (L2.defScope s_place_of) = false by decide +kernel] at z; cases z)⟩⟩
      · cases hd
        have F := L2.fun_mk (st := s_are_turns) l8 c8 k8
        exact ⟨60, ⟨_, _, _, _, _, _, F, sc_are_turns, rfl, rfl, ck_are_turns, PySem.W.mg_of X G a8, F.binds (ps := ["board", "thing", "least"]) fun _ _ _ _ _ _ us hl => match us, hl with | [_, _, _], _ => rfl, fun _ => ⟨cc8, P8, q8, by simp⟩⟩⟩
      · cases hd
        have F := L2.fun_mk (st := s_is_loop) l9 c9 k9
        exact ⟨60, ⟨_, _, _, _, _, _, F, sc_is_loop, rfl, rfl, ck_is_loop, PySem.W.mg_of X G a9, F.binds (ps := ["board", "thing"]) fun _ _ _ _ _ _ us hl => match us, hl with | [_, _], _ => rfl, fun z => (by rw [show gOk sg (L2.defScope s_is_loop) = false by decide +kernel] at z; cases z)⟩⟩
      · cases hd
        have F := L2.fun_mk (st := s_need_loop) l10 c10 k10
        exact ⟨60, ⟨_, _, _, _, _, _, F, sc_need_loop, rfl, rfl, ck_need_loop, PySem.W.mg_of X G a10, F.binds (ps := ["board", "thing"]) fun _ _ _ _ _ _ us hl => match us, hl with | [_, _], _ => rfl, fun z => (by rw [show gOk sg (L2.defScope s_need_loop) = false by decide +kernel] at z; cases z)⟩⟩
      · cases hd
        have F := L2.fun_mk (st := s_inner_of) l11 c11 k11
        exact ⟨60, ⟨_, _, _, _, _, _, F, sc_inner_of, rfl, rfl, ck_inner_of, PySem.W.mg_of X G a11, F.binds (ps := ["wish"]) fun _ _ _ _ _ _ us hl => match us, hl with | [_], _ => rfl, fun z => (by rw [show gOk sg (L2.defScope s_inner_of) = false by decide +kernel] at z; cases z)⟩⟩
      · cases hd
        have F := L2.fun_mk (st := s_is_look) l12 c12 k12
        exact ⟨60, ⟨_, _, _, _, _, _, F, sc_is_look, rfl, rfl, ck_is_look, PySem.W.mg_of X G a12, F.binds (ps := ["wish"]) fun _ _ _ _ _ _ us hl => match us, hl with | [_], _ => rfl, fun z => (by rw [show gOk sg (L2.defScope s_is_look) = false by decide +kernel] at z; cases z)⟩⟩
      · cases hd
        have F := L2.fun_mk (st := s_since_along) l13 c13 k13
        exact ⟨60, ⟨_, _, _, _, _, _, F, sc_since_along, rfl, rfl, ck_since_along, PySem.W.mg_of X G a13, F.binds (ps := ["holding", "beginning"]) fun _ _ _ _ _ _ us hl => match us, hl with | [_, _], _ => rfl, fun z => (by rw [show gOk sg (L2.defScope s_since_along) = false by decide +kernel] at z; cases z)⟩⟩
      · cases hd
        have F := L2.fun_mk (st := s_sign_along) l14 c14 k14
        exact ⟨60, ⟨_, _, _, _, _, _, F, sc_sign_along, rfl, rfl, ck_sign_along, PySem.W.mg_of X G a14, F.binds (ps := ["board", "name", "turns"]) fun _ _ _ _ _ _ us hl => match us, hl with | [_, _, _], _ => rfl, fun z => (by rw [show gOk sg (L2.defScope s_sign_along) = false by decide +kernel] at z; cases z)⟩⟩
      · cases hd
        have F := L2.fun_mk (st := s_values_along) l15 c15 k15
        exact ⟨60, ⟨_, _, _, _, _, _, F, sc_values_along, rfl, rfl, ck_values_along, PySem.W.mg_of X G a15, F.binds (ps := ["board", "wish", "turns"]) fun _ _ _ _ _ _ us hl => match us, hl with | [_, _, _], _ => rfl, fun z => (by rw [show gOk sg (L2.defScope s_values_along) = false by decide +kernel] at z; cases z)⟩⟩
      · cases hd
        have F := L2.fun_mk (st := s_looks_deep) l16 c16 k16
        exact ⟨60, ⟨_, _, _, _, _, _, F, sc_looks_deep, rfl, rfl, ck_looks_deep, PySem.W.mg_of X G a16, F.binds (ps := ["wish"]) fun _ _ _ _ _ _ us hl => match us, hl with | [_], _ => rfl, fun z => (by rw [show gOk sg (L2.defScope s_looks_deep) = false by decide +kernel] at z; cases z)⟩⟩
      · cases hd
        have F := L2.fun_mk (st := s_values_on) l17 c17 k17
        exact ⟨60, ⟨_, _, _, _, _, _, F, sc_values_on, rfl, rfl, ck_values_on, PySem.W.mg_of X G a17, F.binds (ps := ["board", "wish", "loop"]) fun _ _ _ _ _ _ us hl => match us, hl with | [_, _, _], _ => rfl, fun z => (by rw [show gOk sg (L2.defScope s_values_on) = false by decide +kernel] at z; cases z)⟩⟩
      · cases hd
        have F := L2.fun_mk (st := s_holds_always) l18 c18 k18
        exact ⟨60, ⟨_, _, _, _, _, _, F, sc_holds_always, rfl, rfl, ck_holds_always, PySem.W.mg_of X G a18, F.binds (ps := ["board", "wish", "loop"]) fun _ _ _ _ _ _ us hl => match us, hl with | [_, _, _], _ => rfl, fun z => (by rw [show gOk sg (L2.defScope s_holds_always) = false by decide +kernel] at z; cases z)⟩⟩
      · cases hd
        have F := L2.fun_mk (st := s_holds_again) l19 c19 k19
        exact ⟨60, ⟨_, _, _, _, _, _, F, sc_holds_again, rfl, rfl, ck_holds_again, PySem.W.mg_of X G a19, F.binds (ps := ["board", "wish", "loop"]) fun _ _ _ _ _ _ us hl => match us, hl with | [_, _, _], _ => rfl, fun z => (by rw [show gOk sg (L2.defScope s_holds_again) = false by decide +kernel] at z; cases z)⟩⟩
      · cases hd
        have F := L2.fun_mk (st := s__law_mixed) l20 c20 k20
        exact ⟨60, ⟨_, _, _, _, _, _, F, sc__law_mixed, rfl, rfl, ck__law_mixed, PySem.W.mg_of X G a20, F.binds (ps := ["_law_number", "_law_k"]) fun _ _ _ _ _ _ us hl => match us, hl with | [_, _], _ => rfl, fun z => (by rw [show gOk sg (L2.defScope s__law_mixed) = false by decide +kernel] at z; cases z)⟩⟩
      · cases hd
        have F := L2.fun_mk (st := s__law_draws) l21 c21 k21
        exact ⟨60, ⟨_, _, _, _, _, _, F, sc__law_draws, rfl, rfl, ck__law_draws, PySem.W.mg_of X G a21, F.binds (ps := ["_law_script"]) fun _ _ _ _ _ _ us hl => match us, hl with | [_], _ => rfl, fun z => (by rw [show gOk sg (L2.defScope s__law_draws) = false by decide +kernel] at z; cases z)⟩⟩
      · cases hd
        have F := L2.fun_mk (st := s__law_take) l22 c22 k22
        exact ⟨60, ⟨_, _, _, _, _, _, F, sc__law_take, rfl, rfl, ck__law_take, PySem.W.mg_of X G a22, F.binds (ps := ["_law_draw", "_law_many"]) fun _ _ _ _ _ _ us hl => match us, hl with | [_, _], _ => rfl, fun z => (by rw [show gOk sg (L2.defScope s__law_take) = false by decide +kernel] at z; cases z)⟩⟩
      · cases hd
        have F := L2.fun_mk (st := s__law_some) l23 c23 k23
        exact ⟨60, ⟨_, _, _, _, _, _, F, sc__law_some, rfl, rfl, ck__law_some, PySem.W.mg_of X G a23, F.binds (ps := ["_law_draw", "_law_things", "_law_many"]) fun _ _ _ _ _ _ us hl => match us, hl with | [_, _, _], _ => rfl, fun z => (by rw [show gOk sg (L2.defScope s__law_some) = false by decide +kernel] at z; cases z)⟩⟩
      · cases hd
        have F := L2.fun_mk (st := s__law_board) l24 c24 k24
        exact ⟨60, ⟨_, _, _, _, _, _, F, sc__law_board, rfl, rfl, ck__law_board, PySem.W.mg_of X G a24, F.binds (ps := ["_law_draw", "_law_most"]) fun _ _ _ _ _ _ us hl => match us, hl with | [_, _], _ => rfl, fun z => (by rw [show gOk sg (L2.defScope s__law_board) = false by decide +kernel] at z; cases z)⟩⟩
      · cases hd
        have F := L2.fun_mk (st := s__law_wish) l25 c25 k25
        exact ⟨60, ⟨_, _, _, _, _, _, F, sc__law_wish, rfl, rfl, ck__law_wish, PySem.W.mg_of X G a25, F.binds (ps := ["_law_draw", "_law_names", "_law_deep"]) fun _ _ _ _ _ _ us hl => match us, hl with | [_, _, _], _ => rfl, fun z => (by rw [show gOk sg (L2.defScope s__law_wish) = false by decide +kernel] at z; cases z)⟩⟩
      · cases hd
        have F := L2.fun_mk (st := s__law_turns) l26 c26 k26
        exact ⟨60, ⟨_, _, _, _, _, _, F, sc__law_turns, rfl, rfl, ck__law_turns, PySem.W.mg_of X G a26, F.binds (ps := ["_law_draw", "_law_board_here", "_law_many"]) fun _ _ _ _ _ _ us hl => match us, hl with | [_, _, _], _ => rfl, fun z => (by rw [show gOk sg (L2.defScope s__law_turns) = false by decide +kernel] at z; cases z)⟩⟩
      · cases hd
        have F := L2.fun_mk (st := s__law_loop) l27 c27 k27
        exact ⟨60, ⟨_, _, _, _, _, _, F, sc__law_loop, rfl, rfl, ck__law_loop, PySem.W.mg_of X G a27, F.binds (ps := ["_law_draw", "_law_board_here", "_law_stem", "_law_around"]) fun _ _ _ _ _ _ us hl => match us, hl with | [_, _, _, _], _ => rfl, fun z => (by rw [show gOk sg (L2.defScope s__law_loop) = false by decide +kernel] at z; cases z)⟩⟩
      · cases hd
        have F := L2.fun_mk (st := s__law_pairs) l28 c28 k28
        exact ⟨60, ⟨_, _, _, _, _, _, F, sc__law_pairs, rfl, rfl, ck__law_pairs, PySem.W.mg_of X G a28, F.binds (ps := ["_law_one", "_law_other"]) fun _ _ _ _ _ _ us hl => match us, hl with | [_, _], _ => rfl, fun z => (by rw [show gOk sg (L2.defScope s__law_pairs) = false by decide +kernel] at z; cases z)⟩⟩
      · cases hd
        have F := L2.fun_mk (st := s__law_rows_right) l29 c29 k29
        exact ⟨60, ⟨_, _, _, _, _, _, F, sc__law_rows_right, rfl, rfl, ck__law_rows_right, PySem.W.mg_of X G a29, F.binds (ps := ["_law_board_here", "_law_one", "_law_other", "_law_turns_here"]) fun _ _ _ _ _ _ us hl => match us, hl with | [_, _, _, _], _ => rfl, fun z => (by rw [show gOk sg (L2.defScope s__law_rows_right) = false by decide +kernel] at z; cases z)⟩⟩
      · cases hd
        have F := L2.fun_mk (st := s__law_loops_right) l30 c30 k30
        exact ⟨60, ⟨_, _, _, _, _, _, F, sc__law_loops_right, rfl, rfl, ck__law_loops_right, PySem.W.mg_of X G a30, F.binds (ps := ["_law_board_here", "_law_one", "_law_loop_here"]) fun _ _ _ _ _ _ us hl => match us, hl with | [_, _, _], _ => rfl, fun z => (by rw [show gOk sg (L2.defScope s__law_loops_right) = false by decide +kernel] at z; cases z)⟩⟩
      · cases hd
        have F := L2.fun_mk (st := s_law) l31 c31 k31
        exact ⟨60, ⟨_, _, _, _, _, _, F, sc_law, rfl, rfl, ck_law, PySem.W.mg_of X G a31, F.binds (ps := ["_law_script"]) fun _ _ _ _ _ _ us hl => match us, hl with | [_], _ => rfl, fun z => (by rw [show gOk sg (L2.defScope s_law) = false by decide +kernel] at z; cases z)⟩⟩
      · cases hd
    · cases e : Pg f with
      | none => simp [sg, e] at hf
      | some d => exact ⟨d, rfl, by simpa [sg, e] using hf⟩
    · simp only [sg, List.contains_iff_mem, List.mem_cons, List.not_mem_nil, or_false] at hf
      rcases hf with rfl | rfl | rfl | rfl | rfl | rfl | rfl | rfl | rfl | rfl | rfl | rfl | rfl | rfl
      · exact PySem.W.mg_none_of X G z0
      · exact PySem.W.mg_none_of X G z1
      · exact PySem.W.mg_none_of X G z2
      · exact PySem.W.mg_none_of X G z3
      · exact PySem.W.mg_none_of X G z4
      · exact PySem.W.mg_none_of X G z5
      · exact PySem.W.mg_none_of X G z6
      · exact PySem.W.mg_none_of X G z7
      · exact PySem.W.mg_none_of X G z8
      · exact PySem.W.mg_none_of X G z9
      · exact PySem.W.mg_none_of X G z10
      · exact PySem.W.mg_none_of X G z11
      · exact PySem.W.mg_none_of X G z12
      · exact PySem.W.mg_none_of X G z13
    · simp only [sg, List.contains_iff_mem, List.mem_cons, List.not_mem_nil, or_false] at hf
      rcases hf with rfl | rfl
      · exact ⟨CE0, rfl, ⟨⟨_, _, _, _, PySem.F.excBase_ValueError, eb0⟩, PySem.W.mg_of X G ea0, ek0, es0, et0⟩⟩
      · exact ⟨CE1, rfl, ⟨⟨_, _, _, _, PySem.F.excBase_ValueError, eb1⟩, PySem.W.mg_of X G ea1, ek1, es1, et1⟩⟩
    · simp [sg] at hf
    · exact absurd hf (by simp [sg])
    · unfold Gs at h
      split at h
      · cases h
        exact ⟨_, .ref GA0, PySem.W.mg_of X G ga0, rfl, fun _ _ => .tup (.inr ⟨_, _, _, gl0, rfl, rfl, rfl, gz0, gv0⟩) (.cons (.str _) (.cons (.str _) (.cons (.str _) .nil)))⟩
      · cases h
        exact ⟨_, .int 200, PySem.W.mg_of X G ga1, ⟨gt1, rfl⟩, fun _ _ => .int _⟩
      · cases h
  have e := hfa.symm.trans (PySem.W.mg_of X G a31)
  cases e
  have F := L2.fun_mk (st := s_law) l31 c31 k31
  have b := F.binds (ps := ["_law_script"]) fun _ _ _ _ _ _ us hl => match us, hl with | [_], _ => rfl
  have T8 : TabK K f8 _ cc8 P8 := ⟨⟨_, _, _, l8⟩, q8, ⟨_, _, _, _, o8, p8⟩, Mn.codeHd_at o8 h8, n8⟩
  refine ⟨PySem.W.fnOf "law" "law" (L2.defArgs s_law) (L2.defBody s_law) (L2.defScope s_law) .none kV31 dc31 pm31 an31 cd31 ct31, [(cc8, P8)], spLaw K (([(cc8, P8)] : List (Addr × Addr)).map (·.2)), ?_, ?_, ?_, fun s v => .of_eq rfl, fun H a ns hl _ hc hS => ⟨a, ns, rfl, hS, hl, fun P hP => ?_, fun _ => rfl⟩, fun base hk hn hT => ?_⟩
  · intro p hp
    simp only [List.mem_cons, List.not_mem_nil, or_false] at hp
    rcases hp with rfl
    · exact T8.empty (hown "are_turns" _ r8 (PySem.W.mg_of X G a8))
  · intro p hp
    simp only [List.mem_cons, List.not_mem_nil, or_false] at hp
    rcases hp with rfl
    · exact n8
  · intro p hp
    simp only [List.mem_cons, List.not_mem_nil, or_false] at hp
    rcases hp with rfl
    · exact PySem.W.codeHd_of_K X T8.hd
  · obtain ⟨p, hp, e⟩ := List.mem_map.mp hP
    rw [← e]
    exact hc p hp
  · exact FnG.imp (prog_fn (P := l.prog) (w := w) (base := base) (fuel := 1000000) ok hT 39 (name := "law") (d := d_law) rfl F sc_law rfl rfl ck_law fun z => (by rw [show gOk sg (L2.defScope s_law) = false by decide +kernel] at z; cases z)) fun vs H Q E h => law_of hlaw vs H Q E h
end K23


open PySem PySem.W PyProof.Rows
set_option maxHeartbeats 0 in
theorem PySem.Challenge.cw_wishkeep_k23_whole_what_words_say_holds : PySem.Challenge.rw_wishkeep_k23_whole_what_words_say.Holds := by
  w_on; o_law; k_head; (case hw => w_witness2)
  k_fill
  refine Mn.walk_tabs (l := PySem.Challenge.rw_wishkeep_k23_whole_what_words_say) (n := 63) (k := 80) (x := "_law_script") (CX := fun w => L2.CX (PySem.Challenge.rw_wishkeep_k23_whole_what_words_say).prog w) rfl (by decide) rfl ⟨rfl, by decide, by decide⟩ (fun w h Y => PySem.W.kIn_of Y) ?F ?C
  case C => exact fun w H s e s' h => by obtain ⟨_, _, _, _, _, _, _, _, _, _, _, _, h⟩ := h; exact h
  case F =>
    intro w mg fa h Y KX G hmg hown
    refine' K23.law_all KX G hmg ?a0 ?l0 ?c0 ?k0 ?a1 ?l1 ?c1 ?k1 ?a2 ?l2 ?c2 ?k2 ?a3 ?l3 ?c3 ?k3 ?a4 ?l4 ?c4 ?k4 ?a5 ?l5 ?c5 ?k5 ?a6 ?l6 ?c6 ?k6 ?a7 ?l7 ?c7 ?k7 ?a8 ?l8 ?c8 ?k8 ?a9 ?l9 ?c9 ?k9 ?a10 ?l10 ?c10 ?k10 ?a11 ?l11 ?c11 ?k11 ?a12 ?l12 ?c12 ?k12 ?a13 ?l13 ?c13 ?k13 ?a14 ?l14 ?c14 ?k14 ?a15 ?l15 ?c15 ?k15 ?a16 ?l16 ?c16 ?k16 ?a17 ?l17 ?c17 ?k17 ?a18 ?l18 ?c18 ?k18 ?a19 ?l19 ?c19 ?k19 ?a20 ?l20 ?c20 ?k20 ?a21 ?l21 ?c21 ?k21 ?a22 ?l22 ?c22 ?k22 ?a23 ?l23 ?c23 ?k23 ?a24 ?l24 ?c24 ?k24 ?a25 ?l25 ?c25 ?k25 ?a26 ?l26 ?c26 ?k26 ?a27 ?l27 ?c27 ?k27 ?a28 ?l28 ?c28 ?k28 ?a29 ?l29 ?c29 ?k29 ?a30 ?l30 ?c30 ?k30 ?a31 ?l31 ?c31 ?k31 ?q8 ?o8 ?p8 ?h8 ?n8 ?r8 ?ea0 ?eb0 ?ek0 ?es0 ?et0 ?ec0_0 ?ec0_1 ?ec0_2 ?ec0_3 ?ec0_4 ?ec0_7 ?ea1 ?eb1 ?ek1 ?es1 ?et1 ?ec1_0 ?ec1_1 ?ec1_2 ?ec1_3 ?ec1_4 ?ec1_7 ?ecx5 ?ecx6 ?ga0 ?gl0 ?gz0 ?gv0 ?ga1 ?z0 ?z1 ?z2 ?z3 ?z4 ?z5 ?z6 ?z7 ?z8 ?z9 ?z10 ?z11 ?z12 ?z13 hown K23.hlaw
    case a0 => k_is
    case l0 => k_is
    case c0 => k_is
    case k0 => k_is
    case a1 => k_is
    case l1 => k_is
    case c1 => k_is
    case k1 => k_is
    case a2 => k_is
    case l2 => k_is
    case c2 => k_is
    case k2 => k_is
    case a3 => k_is
    case l3 => k_is
    case c3 => k_is
    case k3 => k_is
    case a4 => k_is
    case l4 => k_is
    case c4 => k_is
    case k4 => k_is
    case a5 => k_is
    case l5 => k_is
    case c5 => k_is
    case k5 => k_is
    case a6 => k_is
    case l6 => k_is
    case c6 => k_is
    case k6 => k_is
    case a7 => k_is
    case l7 => k_is
    case c7 => k_is
    case k7 => k_is
    case a8 => k_is
    case l8 => k_is
    case c8 => k_is
    case k8 => k_is
    case a9 => k_is
    case l9 => k_is
    case c9 => k_is
    case k9 => k_is
    case a10 => k_is
    case l10 => k_is
    case c10 => k_is
    case k10 => k_is
    case a11 => k_is
    case l11 => k_is
    case c11 => k_is
    case k11 => k_is
    case a12 => k_is
    case l12 => k_is
    case c12 => k_is
    case k12 => k_is
    case a13 => k_is
    case l13 => k_is
    case c13 => k_is
    case k13 => k_is
    case a14 => k_is
    case l14 => k_is
    case c14 => k_is
    case k14 => k_is
    case a15 => k_is
    case l15 => k_is
    case c15 => k_is
    case k15 => k_is
    case a16 => k_is
    case l16 => k_is
    case c16 => k_is
    case k16 => k_is
    case a17 => k_is
    case l17 => k_is
    case c17 => k_is
    case k17 => k_is
    case a18 => k_is
    case l18 => k_is
    case c18 => k_is
    case k18 => k_is
    case a19 => k_is
    case l19 => k_is
    case c19 => k_is
    case k19 => k_is
    case a20 => k_is
    case l20 => k_is
    case c20 => k_is
    case k20 => k_is
    case a21 => k_is
    case l21 => k_is
    case c21 => k_is
    case k21 => k_is
    case a22 => k_is
    case l22 => k_is
    case c22 => k_is
    case k22 => k_is
    case a23 => k_is
    case l23 => k_is
    case c23 => k_is
    case k23 => k_is
    case a24 => k_is
    case l24 => k_is
    case c24 => k_is
    case k24 => k_is
    case a25 => k_is
    case l25 => k_is
    case c25 => k_is
    case k25 => k_is
    case a26 => k_is
    case l26 => k_is
    case c26 => k_is
    case k26 => k_is
    case a27 => k_is
    case l27 => k_is
    case c27 => k_is
    case k27 => k_is
    case a28 => k_is
    case l28 => k_is
    case c28 => k_is
    case k28 => k_is
    case a29 => k_is
    case l29 => k_is
    case c29 => k_is
    case k29 => k_is
    case a30 => k_is
    case l30 => k_is
    case c30 => k_is
    case k30 => k_is
    case a31 => k_is
    case l31 => k_is
    case c31 => k_is
    case k31 => k_is
    case q8 => first | k_is | rfl | decide +kernel
    case o8 => first | k_is | rfl | decide +kernel
    case p8 => first | k_is | rfl | decide +kernel
    case h8 => first | k_is | rfl | decide +kernel
    case n8 => first | k_is | rfl | decide +kernel
    case r8 => first | k_is | rfl | decide +kernel
    case ea0 => k_is
    case eb0 => k_exc
    case ek0 => k_is
    case es0 => k_is
    case et0 => k_is
    case ec0_0 => k_is
    case ec0_1 => k_is
    case ec0_2 => k_is
    case ec0_3 => k_is
    case ec0_4 => k_is
    case ec0_7 => k_is
    case ea1 => k_is
    case eb1 => k_exc
    case ek1 => k_is
    case es1 => k_is
    case et1 => k_is
    case ec1_0 => k_is
    case ec1_1 => k_is
    case ec1_2 => k_is
    case ec1_3 => k_is
    case ec1_4 => k_is
    case ec1_7 => k_is
    case ecx5 => k_is
    case ecx6 => k_is
    case ga0 => k_is
    case gl0 => first | k_is | rfl | decide +kernel
    case gz0 => decide
    case gv0 => exact .cons ⟨_, rfl⟩ (.cons ⟨_, rfl⟩ (.cons ⟨_, rfl⟩ (.nil)))
    case ga1 => k_is
    case z0 => k_is
    case z1 => k_is
    case z2 => k_is
    case z3 => k_is
    case z4 => k_is
    case z5 => k_is
    case z6 => k_is
    case z7 => k_is
    case z8 => k_is
    case z9 => k_is
    case z10 => k_is
    case z11 => k_is
    case z12 => k_is
    case z13 => k_is

