import PyProof.Rows.All
import Wide.All
import OpenK.AllK
import Wide.FinOn
import HandS.ForMost
import HandS.Deep
import HandS.IsInst
import HandS.Text
import PyProof.SliceList
import PyProof.ReprRoads
import PyProof.StrBlock2
import HandS.ForExc
import HandS.CallSlots
import HandS.Walk
import HandS.TupAny
import HandS.TupMul
import HandS.TupLe
import HandS.AnyAll
import KE.DataMinMax
import HandS.SortKw
import HandS.Flow
import HandS.Strs
import HandS.SetFor
import HandS.Iter
import HandS.Zip
import PyProof.ListIndex
import HandS.Dict
import KE.KUnpack
import HandS.GenOver
import HandS.Small
import HandS.ExcValue
import KE.KDictZip
import HandS.ExcIs
import KE.GoesMore
import HandS.EndOwn
import KE.KNestM
import KE.RegKIsAll
import KE.RegKTryMore
import PySem.Challenge.RW_wishkeep_k01_names
set_option Elab.async false
set_option linter.all false
set_option maxRecDepth 100000
set_option maxHeartbeats 16000000
/-! Mn1: a small pure reading of the program's constructs: data, a store of what may change, an evaluator. -/
namespace Mn
open PySem

/-- data: values as trees; ref n: the n-th thing of the store, which may change -/
inductive D where
  | non | bl (b : Bool) | int (i : Int) | str (x : Str)
  | tup (l : List D) | wtp (l : List D) | lst (l : List D) | ref (n : Nat)
  | fn (x : String) | cls (x : String) | ty (n : String)
  | exn (c : String) (fs : List D)
  deriving Inhabited

inductive O where
  | lst (l : List D)
  | dic (ks : List Str) (ds : List D)
  deriving Inhabited
abbrev Store := List O
abbrev Env := List (Option D)

inductive R (α : Type) where
  | ok (a : α) (S : Store) | exc (x : D) (S : Store) | bad
def R.bind {α β : Type} (r : R α) (f : α → Store → R β) : R β := match r with
  | .ok a S => f a S
  | .exc x S => .exc x S
  | .bad => .bad
/-- where nothing may be raised -/
def R.nox {α : Type} (r : R α) : R α := match r with
  | .ok a S => .ok a S
  | _ => .bad
def R.ofO {α : Type} (o : Option α) (S : Store) : R α := match o with
  | some a => .ok a S
  | none => .bad

/-! ### refs -/
mutual
def below (n : Nat) : D → Bool
  | .ref k => decide (k < n)
  | .tup l => belows n l
  | .wtp l => belows n l
  | .lst l => belows n l
  | .exn _ l => belows n l
  | _ => true
def belows (n : Nat) : List D → Bool
  | [] => true
  | d :: r => below n d && belows n r
end
def belowO (n : Nat) : O → Bool
  | .lst l => belows n l
  | .dic _ ds => belows n ds

/-! ### what stands behind a value -/
def seqL (S : Store) : D → Option (List D)
  | .lst l => some l
  | .ref n => match S[n]? with
    | some (.lst l) => some l
    | _ => none
  | _ => none
def seqT : D → Option (List D)
  | .tup l => some l
  | _ => none
def seqA (S : Store) : D → Option (List D)
  | .tup l => some l
  | d => seqL S d

mutual
def pyG : D → Option PyData
  | .non => some .none
  | .bl b => some (.bool b)
  | .int i => some (.int i)
  | .str x => some (.str x)
  | .tup l => (pyGs l).map .tuple
  | .lst l => (pyGs l).map .list
  | _ => none
def pyGs : List D → Option (List PyData)
  | [] => some []
  | d :: r => (pyG d).bind fun a => (pyGs r).map fun b => a :: b
end
def py (S : Store) (d : D) : Option PyData := match d with
  | .ref n => match S[n]? with
    | some (.lst l) => (pyGs l).map .list
    | _ => none
  | d => pyG d

/-- == of data -/
def eqA (S : Store) (x y : D) : Option Bool :=
  (py S x).bind fun a => (py S y).bind fun b => if SeqAt.shaped a = true ∧ SeqAt.shaped b = true then some (PyData.eqv a b) else none
/-- x in a list or tuple -/
def inA (S : Store) (x y : D) : Option Bool := match y with
  | .str j => match x with
    | .str i => some (!(Builtin.Str.occurrences j i 0 j.length 1).isEmpty)
    | _ => none
  | y => (py S x).bind fun a => match y with
    | .tup l => (pyGs l).bind fun bs => if SeqAt.shaped a = true ∧ SeqAt.shaped (.list bs) = true then some (bs.any fun z => PyData.eqv z a) else none
    | y => (py S y).bind fun b => match b with
      | .list bs => if SeqAt.shaped a = true ∧ SeqAt.shaped (.list bs) = true then some (bs.any fun z => PyData.eqv z a) else none
      | _ => none

def truthA (S : Store) : D → Option Bool
  | .non => some false
  | .bl b => some b
  | .int i => some (i != 0)
  | .str x => if x.length ≤ sizeLine then some ((x.length : Int) != 0) else none
  | .tup l => some (!l.isEmpty)
  | .lst l => some (!l.isEmpty)
  | .ref n => match S[n]? with
    | some (.lst l) => some (!l.isEmpty)
    | _ => none
  | _ => none

/-- a list is made: as a value (v), or in the store -/
def mkL (v : Bool) (l : List D) (S : Store) : R D :=
  if l.length ≤ sizeLine then (if v then .ok (.lst l) S else .ok (.ref S.length) (S ++ [.lst l])) else .bad
def mkT (l : List D) (S : Store) : R D := if l.length ≤ sizeLine then .ok (.tup l) S else .bad

/-! ### operators -/
def rep (k : Int) (l : List D) : List D := (List.replicate k.toNat l).flatten
def addA (v : Bool) (S : Store) (x y : D) : R D := match x, y with
  | .int i, .int j => .ok (.int (i + j)) S
  | .str i, .str j => if i.length + j.length ≤ sizeLine then .ok (.str (i ++ j)) S else .bad
  | .tup a, .tup b => if a.length + b.length ≤ sizeLine then .ok (.tup (a ++ b)) S else .bad
  | x, y => match seqL S x, seqL S y with
    | some a, some b => mkL v (a ++ b) S
    | _, _ => .bad
def mulA (v : Bool) (S : Store) (x y : D) : R D := match x, y with
  | .int i, .int j => if (-(2 ^ 64) < i ∧ i < 2 ^ 64) ∨ (-(2 ^ 64) < j ∧ j < 2 ^ 64) then .ok (.int (i * j)) S else .bad
  | .str z, .int k => if 0 ≤ k ∧ k ≤ 1000 ∧ z.length ≤ 1000 then .ok (.str (Txt.mul z k)) S else .bad
  | .tup a, .int k => if 1 ≤ k ∧ k ≤ 1000 ∧ a.length ≤ 1000 then .ok (.tup (rep k a)) S else .bad
  | x, .int k => match seqL S x with
    | some a => if -(2 ^ 63) ≤ k ∧ k < 2 ^ 63 ∧ a.length * k.toNat ≤ sizeLine then mkL v (rep k a) S else .bad
    | none => .bad
  | _, _ => .bad
def ariA (op : Operator) (i j : Int) : Option Int := match op with
  | .Sub => some (i - j)
  | .FloorDiv => if 0 < j ∧ j < 1073741824 then some (i / j) else none
  | .Mod => if 0 < j then some (i % j) else none
  | .Pow => if 0 ≤ j ∧ j ≤ 1000000 ∧ i.natAbs < 2 ^ 64 then some (i ^ j.toNat) else none
  | .LShift => if 0 ≤ j ∧ j ≤ 1000000 ∧ i.natAbs < 2 ^ 64 then some (i * 2 ^ j.toNat) else none
  | .RShift => if 0 ≤ j then some (i / 2 ^ j.toNat) else none
  | .BitAnd => some (Builtin.bitAnd i j)
  | .BitOr => some (Builtin.bitOr i j)
  | .BitXor => some (Builtin.bitXor i j)
  | _ => none
def binA (v : Bool) (op : Operator) (x y : D) (S : Store) : R D := match op with
  | .Add => addA v S x y
  | .Mult => mulA v S x y
  | op => match x, y with
    | .int i, .int j => R.ofO ((ariA op i j).map .int) S
    | _, _ => .bad
def ordA (op : CmpOp) (i j : Int) : Option Bool := match op with
  | .Lt => some (decide (i < j))
  | .LtE => some (decide (i ≤ j))
  | .Gt => some (decide (j < i))
  | .GtE => some (decide (j ≤ i))
  | _ => none
def ordS (op : CmpOp) (i j : Str) : Option Bool := match op with
  | .Lt => some (decide (i.cps.toList < j.cps.toList))
  | .LtE => some (!decide (j.cps.toList < i.cps.toList))
  | _ => none
def cmpA (op : CmpOp) (x y : D) (S : Store) : Option Bool := match op with
  | .Eq => eqA S x y
  | .NotEq => (eqA S x y).map (!·)
  | .In => inA S x y
  | .NotIn => (inA S x y).map (!·)
  | .Is => match x, y with
    | .bl a, .bl b => some (decide (a = b))
    | x, .non => some (match x with | .non => true | _ => false)
    | _, _ => none
  | .IsNot => match x, y with
    | .bl a, .bl b => some (!decide (a = b))
    | x, .non => some (match x with | .non => false | _ => true)
    | _, _ => none
  | op => match x, y with
    | .int i, .int j => ordA op i j
    | .str i, .str j => ordS op i j
    | _, _ => none
def negA : D → Option D
  | .int i => some (.int (-i))
  | _ => none
/-- a[i] -/
def subA (S : Store) (x y : D) : Option D := match y with
  | .int i => match x with
    | .str z => if z.length ≤ sizeLine then (L2.atI z.cps.toList i).map fun c => .str ⟨#[c]⟩ else none
    | x => (seqA S x).bind fun l => L2.atI l i
  | _ => none
def cutA (l : List D) (lo hi : Option Int) : List D := (l.drop (HT.sIx l.length 0 lo)).take (HT.sIx l.length l.length hi - HT.sIx l.length 0 lo)
def optI : D → Option Int
  | .int i => some i
  | _ => none
/-- a[lo:hi] -/
def slcA (v : Bool) (x : D) (lo hi : Option Int) (S : Store) : R D := match x with
  | .tup l => .ok (.tup (cutA l lo hi)) S
  | .str z => if z.length ≤ sizeLine then .ok (.str (L2.cutS z lo hi)) S else .bad
  | x => match seqL S x with
    | some l => mkL v (cutA l lo hi) S
    | none => .bad

noncomputable def pickL {α : Type} (l : List α) (lo hi st : Option Int) : List α :=
  (sliceRange (sliceBounds lo hi st l.length).1 (sliceBounds lo hi st l.length).2.1 (sliceBounds lo hi st l.length).2.2).filterMap (l[·]?)
/-- a[lo::st] of a list -/
noncomputable def slcsA (v : Bool) (x i k : D) (S : Store) : R D := match i, k with
  | .int i, .int k => if k ≠ 0 then match seqL S x with
      | some l => mkL v (pickL l (some i) none (some k)) S
      | none => .bad
    else .bad
  | _, _ => .bad
/-- a[::st] of a list -/
noncomputable def rvsA (v : Bool) (x k : D) (S : Store) : R D := match k with
  | .int k => if k ≠ 0 then match seqL S x with
      | some l => mkL v (pickL l none none (some k)) S
      | none => .bad
    else .bad
  | _ => .bad
/-! ### builtins, by values -/
def tyOf (S : Store) : D → Option String
  | .non => some "NoneType"
  | .bl _ => some "bool"
  | .int _ => some "int"
  | .str _ => some "str"
  | .tup _ => some "tuple"
  | .lst _ => some "list"
  | .ref n => match S[n]? with
    | some (.lst _) => some "list"
    | some (.dic _ _) => some "dict"
    | _ => none
  | _ => none
/-- isinstance with an own class; tab: the own exception classes, whether they stand under it -/
def isxA (tab : List (String × Bool)) (S : Store) (d : D) : Option Bool := match d with
  | .exn x [] => tab.lookup x
  | d => (tyOf S d).map fun _ => false
def intsOf : List D → Option (List Int)
  | [] => some []
  | .int i :: r => (intsOf r).map (i :: ·)
  | _ => none
def blsOf : List D → Option (List Bool)
  | [] => some []
  | .bl i :: r => (blsOf r).map (i :: ·)
  | _ => none
def strsOf : List D → Option (List Str)
  | [] => some []
  | .str z :: r => (strsOf r).map (z :: ·)
  | _ => none
def maxI : List Int → Int → Int
  | [], m => m
  | x :: r, m => maxI r (if m < x then x else m)
def bltA (v : Bool) (f : String) (ds : List D) (S : Store) : R D := match f, ds with
  | "len", [x] => match x with
    | .str z => if z.length ≤ sizeLine then .ok (.int z.length) S else .bad
    | x => match seqA S x with
      | some l => .ok (.int l.length) S
      | none => .bad
  | "tuple", [x] => match x with
    | .tup l => .ok (.tup l) S
    | x => match seqL S x with
      | some l => mkT l S
      | none => .bad
  | "list", [x] => match seqA S x with
    | some l => mkL v l S
    | none => .bad
  | "max", [.int i, .int j] => .ok (.int (if j > i then j else i)) S
  | "min", [.int i, .int j] => .ok (.int (if j < i then j else i)) S
  | "sum", [x] => match (seqL S x).bind intsOf with
    | some l => .ok (.int l.sum) S
    | none => .bad
  | "any", [x] => match (seqL S x).bind blsOf with
    | some l => .ok (.bl (l.any id)) S
    | none => .bad
  | "all", [x] => match (seqL S x).bind blsOf with
    | some l => .ok (.bl (l.all id)) S
    | none => .bad
  | "repr", [x] => match seqA S x, py S x with
    | some _, some p => if p.showable = true ∧ p.hasDict = false ∧ p.shown.length ≤ sizeLine ∧ p.depth ≤ 64 then .ok (.str p.shown) S else .bad
    | _, _ => .bad
  | "int", [.int i] => .ok (.int i) S
  | "int", [.bl b] => .ok (.int (if b then 1 else 0)) S
  | "isinstance", [x, .ty t] => match tyOf S x with
    | some a => match L2.kitB a t with
      | some b => .ok (.bl b) S
      | none => .bad
    | none => .bad
  | _, _ => .bad
def maxOf (d : Int) : List Int → Int
  | [] => d
  | n :: r => r.foldl max n
/-- max(x, default=y) -/
def maxdA (S : Store) (x y : D) : Option D := match y with
  | .int d => ((seqL S x).bind intsOf).map fun l => .int (maxOf d l)
  | _ => none
/-- how many unlike ones -/
def dcn (l : List Str) : Nat := l.eraseDups.length
/-- len(set(x)) -/
def lensA (S : Store) (x : D) : Option D := (seqA S x).bind fun l => (strsOf l).bind fun ys => if ys.length ≤ 4000 then some (.int (dcn ys : Nat)) else none
/-- methods of what is built in -/
def appA (o : D) (ds : List D) (S : Store) : R D := match o, ds with
  | .ref n, [x] => match S[n]? with
    | some (.lst l) => if l.length < sizeLine then .ok .non (S.set n (.lst (l ++ [x]))) else .bad
    | _ => .bad
  | _, _ => .bad
def popA (o : D) (ds : List D) (S : Store) : R D := match o, ds with
  | .ref n, [.int i] => match S[n]? with
    | some (.lst l) => if 0 ≤ i ∧ i < l.length ∧ l.length ≤ sizeLine then R.ofO (l[i.toNat]?) (S.set n (.lst (l.eraseIdx i.toNat))) else .bad
    | _ => .bad
  | _, _ => .bad
def clrA (o : D) (S : Store) : R D := match o with
  | .ref n => match S[n]? with
    | some (.lst _) => .ok .non (S.set n (.lst []))
    | _ => .bad
  | _ => .bad
def joinA (o : D) (ds : List D) (S : Store) : R D := match o, ds with
  | .str a, [x] => match (seqA S x).bind strsOf with
    | some ys => if (ys.map (·.length)).sum + ys.length * a.length ≤ 16777216 then .ok (.str (Txt.join a ys)) S else .bad
    | none => .bad
  | _, _ => .bad
def idxA (o : D) (ds : List D) (S : Store) : R D := match o, ds with
  | .tup l, [.str z] => match strsOf l with
    | some ys => if z ∈ ys then .ok (.int (ys.idxOf z : Nat)) S else .bad
    | none => .bad
  | _, _ => .bad
def mthA (T m : String) (o : D) (ds : List D) (S : Store) : R D := match T, m with
  | "list", "append" => appA o ds S
  | "str", "join" => joinA o ds S
  | "list", "pop" => popA o ds S
  | "tuple", "index" => idxA o ds S
  | "list", "clear" => match ds with
    | [] => clrA o S
    | _ => .bad
  | _, _ => .bad
/-- the receiver is of that type -/
def recvA (T : String) (S : Store) (o : D) : Option Unit := match T with
  | "list" => (seqL S o).map fun _ => ()
  | "str" => match o with
    | .str _ => some ()
    | _ => none
  | "tuple" => match o with
    | .tup _ => some ()
    | _ => none
  | _ => none
/-- d[k], d[k] = v of a dict with told keys -/
def dgetA (x : D) (k : Str) (S : Store) : R D := match x with
  | .ref n => match S[n]? with
    | some (.dic ks ds) => R.ofO (if k ∈ ks then ds[ks.idxOf k]? else none) S
    | _ => .bad
  | _ => .bad
def dputA (x : D) (k : Str) (v : D) (S : Store) : R Unit := match x with
  | .ref n => match S[n]? with
    | some (.dic ks ds) => if k ∈ ks ∧ ks.length < sizeLine then .ok () (S.set n (.dic ks (ds.set (ks.idxOf k) v))) else .bad
    | _ => .bad
  | _ => .bad
def dicA (ks : List Str) (ds : List D) (S : Store) : R D := if ks.length = ds.length ∧ ks.Nodup ∧ 1 ≤ ks.length ∧ ks.length ≤ 15 then .ok (.ref S.length) (S ++ [.dic ks ds]) else .bad
/-- {k: v} -/
def dic1A (x y : D) (S : Store) : R D := match x with
  | .str z => dicA [z] [y] S
  | _ => .bad
/-- tuple(zip(x, y)) of lists -/
def zipT : List D → List D → List D
  | a :: r, b :: s => .tup [a, b] :: zipT r s
  | _, _ => []
def tzipA (x y : D) (S : Store) : R D := match seqL S x, seqL S y with
  | some l, some k => mkT (zipT l k) S
  | _, _ => .bad
def invA : D → Option D
  | .int i => some (.int (Builtin.bitNot i))
  | _ => none
/-- o[i] = v -/
def setA (o i v : D) (S : Store) : R Unit := match o, i with
  | .ref n, .int k => match S[n]? with
    | some (.lst l) => match L2.ixN l.length k with
      | some j => .ok () (S.set n (.lst (l.set j v)))
      | none => .bad
    | _ => .bad
  | _, _ => .bad

/-- x op= y, of ints and texts -/
def augA (op : Operator) (x y : D) (S : Store) : R D := match op, x, y with
  | .Add, .int i, .int j => .ok (.int (i + j)) S
  | .Sub, .int i, .int j => .ok (.int (i - j)) S
  | .Add, .str i, .str j => if i.length + j.length ≤ sizeLine then .ok (.str (i ++ j)) S else .bad
  | _, _, _ => .bad

/-! ### targets, what is walked -/
inductive Tg where
  | nm (i : Nat) | tp (is : List Nat)
def asgs : List Nat → List D → Env → Option Env
  | [], [], e => some e
  | i :: r, d :: ds, e => asgs r ds (e.set i (some d))
  | _, _, _ => none
def asg (t : Tg) (d : D) (e : Env) : Option Env := match t with
  | .nm i => some (e.set i (some d))
  | .tp is => match d with
    | .tup l => asgs is l e
    | .wtp l => asgs is l e
    | .lst l => asgs is l e
    | _ => none
def wipe (e : Env) : List Nat → Env
  | [] => e
  | v :: vs => (wipe e vs).set v none
def rng (a : Int) (n : Nat) (c : Int) : List D := (List.range n).map fun i => .int (a + (i : Nat) * c)
def enumF : Nat → List D → List D
  | _, [] => []
  | n, d :: r => .wtp [.int n, d] :: enumF (n + 1) r
def zipF : List D → List D → List D
  | a :: r, b :: s => .wtp [a, b] :: zipF r s
  | _, _ => []

/-! ### the terms -/
mutual
inductive E where
  | non | bl (b : Bool) | int (i : Int) | str (x : Str) | ty (n : String) | fn (x : String)
  | var (i : Nat) | glob (x : String)
  | tup (es : Es) | lst (v : Bool) (es : Es)
  | bin (v : Bool) (op : Operator) (a b : E) | neg (a : E) | not (a : E)
  | cmp (op : CmpOp) (a b : E) | chain (o1 o2 : CmpOp) (a b c : E)
  | and (a b : E) | or (a b : E) | ife (c a b : E)
  | call (f : String) (es : Es) | blt (v : Bool) (f : String) (es : Es) | mth (T m : String) (o : E) (es : Es)
  | sub (a i : E) | slc (v : Bool) (a : E) (lo hi : Oe)
  | lens (a : E) | dict0 | dict1 (k a : E) | tzip (a b : E) | inv (a : E) | rvs (v : Bool) (a st : E) | maxd (a d : E) | slcS (v : Bool) (a lo st : E)
  | isx (a : E) (y : String) (tab : List (String × Bool)) | dead | dict (ks : List Str) (es : Es) | dget (o : E) (k : Str)
  | comp (v : Bool) (own : List Nat) (tg : Tg) (it : It) (c : Oe) (e : E)
  | comp2 (v : Bool) (own own1 : List Nat) (tg : Tg) (it : It) (c : Oe) (tg1 : Tg) (it1 : It) (c1 : Oe) (e : E)
  | agen (q : Bool) (own : List Nat) (tg : Tg) (it : It) (e : E)
inductive Oe where
  | none | some (e : E)
inductive Es where
  | nil | cons (e : E) (es : Es)
inductive It where
  | seq (e : E) | rng1 (a : E) | rng2 (a b : E) | enum (e : E) | zip (a b : E) | rngD (a b : E)
end
mutual
inductive St where
  | set (i : Nat) (e : E) | unp (is : List Nat) (e : E) | sets (a i e : E) | aug (i : Nat) (op : Operator) (e : E)
  | par (i j : Nat) (es : Es) | keptX (i j : Nat) (c : String) (e : E) | kept (i j l : Nat) (c : String) (e : E) | raise (c : String) (es : Es) | dead | dput (o : E) (k : Str) (e : E)
  | expr (e : E) | ret (e : E) | retN | pass | brk | cont
  | ite (c : E) (a b : Sts) | for (tg : Tg) (it : It) (b : Sts) | whl (c : E) (b : Sts)
inductive Sts where
  | nil | cons (s : St) (r : Sts)
end
/-- how what a def hands back leaves it -/
inductive Md where
  | pure | new | raw
structure Def where
  np : Nat
  n : Nat
  md : Md
  body : Sts
abbrev Prog := String → Option Def
/-- module constants -/
abbrev Globs := String → Option D

inductive F where
  | nx (e : Env) | rt (d : D) | bk (e : Env) | ct (e : Env)

/-- try: w = e; except .. as n: v = n, every own class being let by; r: what e came to; i, j, l: n's, v's, w's slots -/
def keptA (i j l : Nat) (r : R D) (e : Env) : R F := match r with
  | .ok d S1 => .ok (.nx (e.set l (some d))) S1
  | .exc x S1 => .ok (.nx (((e.set i (some x)).set j (some x)).set i none)) S1
  | .bad => .bad

/-- the same of an expression's statement -/
def keptXA (i j : Nat) (r : R D) (e : Env) : R F := match r with
  | .ok _ S1 => .ok (.nx e) S1
  | .exc x S1 => .ok (.nx (((e.set i (some x)).set j (some x)).set i none)) S1
  | .bad => .bad

/-! ### loops -/
abbrev Gd := List (Nat × List D)
def gdOk (S : Store) : Gd → Prop
  | [] => True
  | (n, l) :: r => S[n]? = some (.lst l) ∧ gdOk S r
noncomputable instance : ∀ (S : Store) (g : Gd), Decidable (gdOk S g) := fun S g => Classical.propDecidable _
def gdOf (S : Store) (d : D) : Gd := match d with
  | .ref n => match S[n]? with
    | some (.lst l) => [(n, l)]
    | _ => []
  | _ => []
noncomputable def forA (g : Gd) (tg : Tg) (b : Env → Store → R F) : List D → Env → Store → R F
  | [], e, S => if gdOk S g then .ok (.nx e) S else .bad
  | d :: r, e, S => if gdOk S g then match asg tg d e with
      | none => .bad
      | some e1 => (b e1 S).bind fun f S1 => match f with
        | .nx e2 => forA g tg b r e2 S1
        | .ct e2 => forA g tg b r e2 S1
        | .bk e2 => .ok (.nx e2) S1
        | .rt d => .ok (.rt d) S1
    else .bad
noncomputable def compA (g : Gd) (tg : Tg) (c : Env → Store → R Bool) (t : Env → Store → R D) (e0 : Env) : List D → List D → Store → R (List D)
  | [], acc, S => if gdOk S g then .ok acc S else .bad
  | d :: r, acc, S => if gdOk S g then match asg tg d e0 with
      | none => .bad
      | some e1 => (c e1 S).nox.bind fun ok S1 => if ok then (t e1 S1).nox.bind fun y S2 => if acc.length < sizeLine then compA g tg c t e0 r (acc ++ [y]) S2 else .bad
        else compA g tg c t e0 r acc S1
    else .bad
/-- two clauses: within, what stands for the inner ones goes on with what is there -/
noncomputable def comp2A (g : Gd) (tg : Tg) (c : Env → Store → R Bool) (i1 : Env → Store → R (List D × Gd)) (inn : Gd → Env → List D → List D → Store → R (List D)) (e0 : Env) : List D → List D → Store → R (List D)
  | [], acc, S => if gdOk S g then .ok acc S else .bad
  | d :: r, acc, S => if gdOk S g then match asg tg d e0 with
      | none => .bad
      | some e1 => (c e1 S).nox.bind fun ok S1 => if ok then (i1 e1 S1).nox.bind fun w S2 => (inn w.2 e1 w.1 acc S2).bind fun acc' S3 => comp2A g tg c i1 inn e0 r acc' S3
        else comp2A g tg c i1 inn e0 r acc S1
    else .bad
/-- all (q) or any (not q) of what t comes to along the items -/
noncomputable def genA (g : Gd) (q : Bool) (tg : Tg) (t : Env → Store → R D) (e0 : Env) : List D → Store → R Bool
  | [], S => if gdOk S g then .ok q S else .bad
  | d :: r, S => if gdOk S g then match asg tg d e0 with
      | none => .bad
      | some e1 => (t e1 S).nox.bind fun y S1 => match y with
        | .bl b => if b = q then genA g q tg t e0 r S1 else .ok b S1
        | _ => .bad
    else .bad
def whileA : Nat → (Env → Store → R Bool) → (Env → Store → R F) → Env → Store → R F
  | 0, _, _, _, _ => .bad
  | n + 1, c, b, e, S => (c e S).bind fun t S1 => if t then (b e S1).bind fun f S2 => match f with
      | .nx e2 => whileA n c b e2 S2
      | .ct e2 => whileA n c b e2 S2
      | .bk e2 => .ok (.nx e2) S2
      | .rt d => .ok (.rt d) S2
    else .ok (.nx e) S1

/-! ### the evaluator -/
section
variable (G : Globs) (N : Nat) (call : String → List D → Store → R D)
def tru (r : R D) : R Bool := r.bind fun d S => R.ofO (truthA S d) S
/-- what is walked must be of few kinds -/
def itemsOf (S : Store) : D → Option (List D)
  | .str z => some (z.cps.toList.map fun c => .str ⟨#[c]⟩)
  | d => seqA S d
mutual
noncomputable def evE : E → Env → Store → R D
  | .non, _, S => .ok .non S
  | .bl b, _, S => .ok (.bl b) S
  | .int i, _, S => .ok (.int i) S
  | .str x, _, S => .ok (.str x) S
  | .ty n, _, S => .ok (.ty n) S
  | .fn x, _, S => .ok (.fn x) S
  | .var i, e, S => match e[i]? with
    | some (some d) => .ok d S
    | _ => .bad
  | .glob x, _, S => R.ofO (G x) S
  | .tup es, e, S => (evEs es e S).bind fun ds S1 => mkT ds S1
  | .lst v es, e, S => (evEs es e S).bind fun ds S1 => mkL v ds S1
  | .bin v op a b, e, S => (evE a e S).bind fun x S1 => (evE b e S1).bind fun y S2 => binA v op x y S2
  | .neg a, e, S => (evE a e S).bind fun x S1 => R.ofO (negA x) S1
  | .not a, e, S => (tru (evE a e S)).bind fun t S1 => .ok (.bl (!t)) S1
  | .cmp op a b, e, S => (evE a e S).bind fun x S1 => (evE b e S1).bind fun y S2 => (R.ofO (cmpA op x y S2) S2).bind fun t S3 => .ok (.bl t) S3
  | .chain o1 o2 a b c, e, S => (evE a e S).bind fun x S1 => (evE b e S1).bind fun y S2 => (R.ofO (cmpA o1 x y S2) S2).bind fun t S3 =>
      if t then (evE c e S3).bind fun z S4 => (R.ofO (cmpA o2 y z S4) S4).bind fun u S5 => .ok (.bl u) S5 else .ok (.bl false) S3
  | .and a b, e, S => (evE a e S).bind fun x S1 => (R.ofO (truthA S1 x) S1).bind fun t S2 => if t then evE b e S2 else .ok x S2
  | .or a b, e, S => (evE a e S).bind fun x S1 => (R.ofO (truthA S1 x) S1).bind fun t S2 => if t then .ok x S2 else evE b e S2
  | .ife c a b, e, S => (tru (evE c e S)).bind fun t S1 => if t then evE a e S1 else evE b e S1
  | .call f es, e, S => (evEs es e S).bind fun ds S1 => call f ds S1
  | .blt v f es, e, S => (evEs es e S).bind fun ds S1 => bltA v f ds S1
  | .mth T m o es, e, S => (evE o e S).bind fun x S1 => (R.ofO (recvA T S1 x) S1).bind fun _ S2 => (evEs es e S2).bind fun ds S3 => mthA T m x ds S3
  | .sub a i, e, S => (evE a e S).bind fun x S1 => (evE i e S1).bind fun y S2 => R.ofO (subA S2 x y) S2
  | .slc v a lo hi, e, S => (evE a e S).bind fun x S1 => (evOe lo e S1).bind fun l S2 => (evOe hi e S2).bind fun h S3 => slcA v x l h S3
  | .isx a _ tab, e, S => (evE a e S).bind fun d S1 => R.ofO ((isxA tab S1 d).map .bl) S1
  | .slcS v a lo st, e, S => (evE a e S).bind fun x S1 => (evE lo e S1).bind fun i S2 => (evE st e S2).bind fun k S3 => slcsA v x i k S3
  | .lens a, e, S => (evE a e S).bind fun x S1 => R.ofO (lensA S1 x) S1
  | .dict1 k a, e, S => (evE k e S).bind fun x S1 => (evE a e S1).bind fun y S2 => dic1A x y S2
  | .tzip a b, e, S => (evE a e S).bind fun x S1 => (evE b e S1).bind fun y S2 => tzipA x y S2
  | .inv a, e, S => (evE a e S).bind fun x S1 => R.ofO (invA x) S1
  | .dict0, _, S => .ok (.ref S.length) (S ++ [.dic [] []])
  | .rvs v a st, e, S => (evE a e S).bind fun x S1 => (evE st e S1).bind fun k S2 => rvsA v x k S2
  | .maxd a d, e, S => (evE a e S).bind fun x S1 => (evE d e S1).bind fun y S2 => R.ofO (maxdA S2 x y) S2
  | .dead, _, _ => .bad
  | .dict ks es, e, S => (evEs es e S).bind fun ds S1 => dicA ks ds S1
  | .dget o k, e, S => (evE o e S).bind fun x S1 => dgetA x k S1
  | .comp v own tg it c t, e, S => (evIt it e S).bind fun w S1 =>
      (compA w.2 tg (fun e S => tru (evOc c e S)) (fun e S => evE t e S) (wipe e own) w.1 [] S1).bind fun l S2 => mkL v l S2
  | .comp2 v own own1 tg it c tg1 it1 c1 t, e, S => (evIt it e S).bind fun w S1 =>
      (comp2A w.2 tg (fun e S => tru (evOc c e S)) (fun e S => evIt it1 e S) (fun g1 e1 l acc S => compA g1 tg1 (fun e S => tru (evOc c1 e S)) (fun e S => evE t e S) (wipe e1 own1) l acc S) (wipe e own) w.1 [] S1).bind fun l S2 => mkL v l S2
  | .agen q own tg it t, e, S => (evIt it e S).bind fun w S1 => (genA w.2 q tg (fun e S => evE t e S) (wipe e own) w.1 S1).bind fun b S2 => .ok (.bl b) S2
noncomputable def evOe : Oe → Env → Store → R (Option Int)
  | .none, _, S => .ok none S
  | .some a, e, S => (evE a e S).bind fun x S1 => (R.ofO (optI x) S1).bind fun i S2 => .ok (some i) S2
noncomputable def evOc : Oe → Env → Store → R D
  | .none, _, S => .ok (.bl true) S
  | .some a, e, S => evE a e S
noncomputable def evEs : Es → Env → Store → R (List D)
  | .nil, _, S => .ok [] S
  | .cons a r, e, S => (evE a e S).bind fun x S1 => (evEs r e S1).bind fun xs S2 => .ok (x :: xs) S2
noncomputable def evIt : It → Env → Store → R (List D × Gd)
  | .seq a, e, S => (evE a e S).bind fun x S1 => (R.ofO (itemsOf S1 x) S1).bind fun l S2 => .ok (l, gdOf S2 x) S2
  | .rng1 a, e, S => (evE a e S).bind fun x S1 => match x with
    | .int j => if -(2 ^ 62) ≤ j ∧ j < 2 ^ 62 then .ok (rng 0 j.toNat 1, []) S1 else .bad
    | _ => .bad
  | .rng2 a b, e, S => (evE a e S).bind fun x S1 => (evE b e S1).bind fun y S2 => match x, y with
    | .int i, .int j => if -(2 ^ 62) ≤ i ∧ i < 2 ^ 62 ∧ -(2 ^ 62) ≤ j ∧ j < 2 ^ 62 then .ok (rng i (j - i).toNat 1, []) S2 else .bad
    | _, _ => .bad
  | .enum a, e, S => (evE a e S).bind fun x S1 => (R.ofO (seqA S1 x) S1).bind fun l S2 => .ok (enumF 0 l, gdOf S2 x) S2
  | .zip a b, e, S => (evE a e S).bind fun x S1 => (evE b e S1).bind fun y S2 => match seqL S2 x, seqL S2 y with
    | some l, some k => .ok (zipF l k, gdOf S2 x ++ gdOf S2 y) S2
    | _, _ => match seqT x, seqT y with
      | some l, some k => .ok (zipF l k, []) S2
      | _, _ => .bad
  | .rngD a b, e, S => (evE a e S).bind fun x S1 => (evE b e S1).bind fun y S2 => match x, y with
    | .int i, .int j => if -(2 ^ 62) ≤ i ∧ i < 2 ^ 62 ∧ -(2 ^ 62) ≤ j ∧ j < 2 ^ 62 then .ok (rng i (i - j).toNat (-1), []) S2 else .bad
    | _, _ => .bad
end
mutual
noncomputable def exS : St → Env → Store → R F
  | .set i a, e, S => (evE G call a e S).bind fun x S1 => .ok (.nx (e.set i (some x))) S1
  | .unp is a, e, S => (evE G call a e S).bind fun x S1 => match asg (.tp is) x e with
    | some e1 => .ok (.nx e1) S1
    | none => .bad
  | .par i j es, e, S => (evEs G call es e S).bind fun ds S1 => match ds with
    | [x, y] => .ok (.nx ((e.set i (some x)).set j (some y))) S1
    | _ => .bad
  | .sets a i b, e, S => (evE G call b e S).bind fun y S1 => (evE G call a e S1).bind fun x S2 => (evE G call i e S2).bind fun k S3 => (setA x k y S3).bind fun _ S4 => .ok (.nx e) S4
  | .aug i op a, e, S => match e[i]? with
    | some (some x) => (evE G call a e S).bind fun y S1 => (augA op x y S1).bind fun z S2 => .ok (.nx (e.set i (some z))) S2
    | _ => .bad
  | .keptX i j _ a, e, S => keptXA i j (evE G call a e S) e
  | .kept i j l _ a, e, S => keptA i j l (evE G call a e S) e
  | .raise c es, e, S => (evEs G call es e S).bind fun ds S1 => if ds.length ≤ sizeLine then .exc (.exn c []) S1 else .bad
  | .dead, _, _ => .bad
  | .dput o k a, e, S => (evE G call a e S).bind fun y S1 => (evE G call o e S1).bind fun x S2 => (dputA x k y S2).bind fun _ S3 => .ok (.nx e) S3
  | .expr a, e, S => (evE G call a e S).bind fun _ S1 => .ok (.nx e) S1
  | .ret a, e, S => (evE G call a e S).bind fun x S1 => .ok (.rt x) S1
  | .retN, _, S => .ok (.rt .non) S
  | .pass, e, S => .ok (.nx e) S
  | .brk, e, S => .ok (.bk e) S
  | .cont, e, S => .ok (.ct e) S
  | .ite c a b, e, S => (tru (evE G call c e S)).bind fun t S1 => if t then exB a e S1 else exB b e S1
  | .for tg it b, e, S => (evIt G call it e S).bind fun w S1 => forA w.2 tg (fun e S => exB b e S) w.1 e S1
  | .whl c b, e, S => whileA N (fun e S => tru (evE G call c e S)) (fun e S => exB b e S) e S
noncomputable def exB : Sts → Env → Store → R F
  | .nil, e, S => .ok (.nx e) S
  | .cons s r, e, S => (exS s e S).bind fun f S1 => match f with
    | .nx e1 => exB r e1 S1
    | f => .ok f S1
end
end

/-! ### calls -/
/-- what a value is once the refs of the callee's own are told as data; values without such stay -/
noncomputable def outD (S : Store) (n : Nat) (d : D) : Option D := if below n d = true then some d else match d with
  | .ref j => match S[j]? with
    | some (.lst l) => if belows n l = true then some (.lst l) else none
    | _ => none
  | _ => none
def oldOk (S S' : Store) : Prop := S.length ≤ S'.length ∧ ∀ i, i < S.length → S'[i]? = S[i]? ∨ ∃ o, S'[i]? = some o ∧ belowO S.length o = true
noncomputable instance : ∀ (S S' : Store), Decidable (oldOk S S') := fun _ _ => Classical.propDecidable _
noncomputable def fin (md : Md) (S : Store) (d : D) (S' : Store) : R D := match md with
  | .raw => .ok d S'
  | .pure => if oldOk S S' then match outD S' S.length d with
      | some x => .ok x (S'.take S.length)
      | none => .bad
    else .bad
  | .new => if oldOk S S' then match d with
      | .ref j => if j < S.length then .bad else match S'[j]? with
        | some (.lst l) => if belows S.length l = true then .ok (.ref S.length) (S'.take S.length ++ [.lst l]) else .bad
        | _ => .bad
      | _ => .bad
    else .bad
noncomputable def leave (md : Md) (S : Store) (r : R F) : R D := match r with
  | .ok (.rt d) S' => fin md S d S'
  | .ok (.nx _) S' => fin md S .non S'
  | .exc x S' => if oldOk S S' ∧ below S.length x = true then .exc x (S'.take S.length) else .bad
  | _ => .bad
noncomputable def callA (G : Globs) (N : Nat) (P : Prog) : Nat → String → List D → Store → R D
  | 0, _, _, _ => .bad
  | k + 1, f, ds, S => match P f with
    | none => .bad
    | some d => if ds.length = d.np then leave d.md S (exB G N (callA G N P k) d.body (ds.map some ++ List.replicate (d.n - d.np) none) S) else .bad
end Mn

/-! Mn2: how the small reading's data lie in the layer's heap. -/
namespace Mn
open PySem PySem.Spec PyProof.Rows
open L2 (V Hp HO Cx SqL SqT Rd St VK WX XK TE TA TS TT TG PE PA PS PSs PT PG Ends upd upd_same upd_ne)
abbrev Frag := PySem.W.Frag

/-- the built-in names that stand for themselves; how many arguments the defs take -/
structure Sg where
  bls : List String
  sig : String → Option Nat
  exs : List String
  tops : List String
  isx : List (String × List (String × Bool))
  gscs : List Scope
structure Cfg where
  fa : String → Option Addr
  ca : String → Option Addr
  tabs : List Addr
  sg : Sg

/-- where the store's things stand; what is being made and not told yet -/
structure MM where
  ix : List Addr
  hid : List Addr
/-- a list that is data: not of the store -/
def LV (K : Frag) (m : MM) (H : Hp) (a : Addr) (vs : List V) : Prop :=
  (Rd H a (.lst vs) ∧ a ∉ m.ix ∧ a ∉ m.hid) ∨
    ∃ (o : Obj) (its : Array Value) (n : Nat), K.lookup a = some o ∧ o.cls = .type "list" ∧ o.dict = none ∧ o.data = .seq its n ∧ its.size ≤ sizeLine ∧ L2.Vals vs its.toList
theorem LV.sq {K : Frag} {m : MM} {H : Hp} {a : Addr} {vs : List V} (h : LV K m H a vs) : SqL K H a vs := by
  rcases h with h | h
  · exact .inl h.1
  · exact .inr h

/-- a tuple that has no own dict -/
def ST (K : Frag) (H : Hp) (a : Addr) (vs : List V) : Prop :=
  (∃ o : Obj, H a = some (.frz o (.tup vs)) ∧ o.dict = none) ∨
    ∃ (o : Obj) (its : Array Value) (n : Nat), K.lookup a = some o ∧ o.cls = .type "tuple" ∧ o.dict = none ∧ o.data = .seq its n ∧ its.size ≤ sizeLine ∧ L2.Vals vs its.toList
theorem ST.sq {K : Frag} {H : Hp} {a : Addr} {vs : List V} (h : ST K H a vs) : SqT K H a vs := by
  rcases h with ⟨o, h, _⟩ | ⟨o, its, n, h1, h2, _, h3, h4, h5⟩
  · exact .inl (.inr ⟨o, h⟩)
  · exact .inr ⟨o, its, n, h1, h2, h3, h4, h5⟩
theorem ST.no {K : Frag} {H : Hp} {a : Addr} {vs : List V} (h : ST K H a vs) : (∃ o : Obj, H a = some (.frz o (.tup vs)) ∧ o.dict = none) ∨ ∃ o, K.lookup a = some o ∧ o.cls = .type "tuple" ∧ o.dict = none := by
  rcases h with h | ⟨o, its, n, h1, h2, h3, _⟩
  · exact .inl h
  · exact .inr ⟨o, h1, h2, h3⟩
/-- the object of a new tuple -/
def tupO (us : List Value) : Obj := { cls := .type "tuple", data := .seq us.toArray }
/-- an exception object of that class, kept -/
def ExK (cls : Value) (d : Option Addr) (a : Addr) : HO := .ext fun h => ∃ oe : Obj, h.get? a = some oe ∧ L2.Zc cls d oe ∧ ∃ vs, oe.data = .fields vs
theorem exK_ok {P : Program} {w : World} {H : Hp} {h : Heap} {a : Addr} {cls : Value} {d : Option Addr} {oe : Obj} (e : h.get? a = some oe) (z : L2.Zc cls d oe) (dd : ∃ vs, oe.data = .fields vs) : L2.ObjOk P w H h a (ExK cls d a) :=
  ⟨⟨oe, e, z, dd⟩, ⟨oe, e⟩, fun _ _ ⟨o, q, r⟩ k => ⟨o, k o q, r⟩⟩
mutual
inductive RV (K : Frag) (c : Cfg) (m : MM) (H : Hp) : D → V → Prop
  | non : RV K c m H .non .non
  | bl (b : Bool) : RV K c m H (.bl b) (.bl b)
  | int (i : Int) : RV K c m H (.int i) (.int i)
  | str (x : Str) : RV K c m H (.str x) (.str x)
  | tup {a : Addr} {vs : List V} {ds : List D} : ST K H a vs → RVs K c m H ds vs → RV K c m H (.tup ds) (.ref a)
  | wtp {a : Addr} {vs : List V} {ds : List D} : SqT K H a vs → RVs K c m H ds vs → RV K c m H (.wtp ds) (.ref a)
  | lst {a : Addr} {vs : List V} {ds : List D} : LV K m H a vs → RVs K c m H ds vs → RV K c m H (.lst ds) (.ref a)
  | ref {n : Nat} {a : Addr} : m.ix[n]? = some a → RV K c m H (.ref n) (.ref a)
  | fn {x : String} {a : Addr} : c.fa x = some a → RV K c m H (.fn x) (.ref a)
  | cls {x : String} {a : Addr} : c.ca x = some a → RV K c m H (.cls x) (.ref a)
  | ty (n : String) : RV K c m H (.ty n) (.ty n)
  | exn {x : String} {C a : Addr} : c.ca x = some C → H a = some (ExK (.ref C) none a) → RV K c m H (.exn x []) (.ref a)
inductive RVs (K : Frag) (c : Cfg) (m : MM) (H : Hp) : List D → List V → Prop
  | nil : RVs K c m H [] []
  | cons {d : D} {v : V} {ds : List D} {vs : List V} : RV K c m H d v → RVs K c m H ds vs → RVs K c m H (d :: ds) (v :: vs)
end
section
variable {K : Frag} {c : Cfg} {m m' m2 : MM} {H H' H2 : Hp}
theorem RVs.length {ds : List D} {vs : List V} (h : RVs K c m H ds vs) : ds.length = vs.length := by
  induction ds generalizing vs with
  | nil => cases h; rfl
  | cons d ds ih =>
    cases h with
    | cons h1 h2 => simp [ih h2]
theorem RVs.get : ∀ {ds : List D} {vs : List V} {i : Nat} {v : V}, RVs K c m H ds vs → vs[i]? = some v → ∃ d, ds[i]? = some d ∧ RV K c m H d v
  | _, _, _, _, .nil, e => by simp at e
  | _, _, 0, _, .cons h _, e => by simp at e; subst e; exact ⟨_, rfl, h⟩
  | _, _, i + 1, _, .cons _ t, e => by
    obtain ⟨d, h1, h2⟩ := RVs.get (i := i) t (by simpa using e)
    exact ⟨d, by simpa using h1, h2⟩
theorem RVs.getD : ∀ {ds : List D} {vs : List V} {i : Nat} {d : D}, RVs K c m H ds vs → ds[i]? = some d → ∃ v, vs[i]? = some v ∧ RV K c m H d v
  | _, _, _, _, .nil, e => by simp at e
  | _, _, 0, _, .cons h _, e => by simp at e; subst e; exact ⟨_, rfl, h⟩
  | _, _, i + 1, _, .cons _ t, e => by
    obtain ⟨d, h1, h2⟩ := RVs.getD (i := i) t (by simpa using e)
    exact ⟨d, by simpa using h1, h2⟩
theorem RVs.append : ∀ {ds es : List D} {vs us : List V}, RVs K c m H ds vs → RVs K c m H es us → RVs K c m H (ds ++ es) (vs ++ us)
  | _, _, _, _, .nil, h => h
  | _, _, _, _, .cons h t, h2 => .cons h (RVs.append t h2)
theorem RVs.take : ∀ {ds : List D} {vs : List V} (n : Nat), RVs K c m H ds vs → RVs K c m H (ds.take n) (vs.take n)
  | _, _, 0, _ => .nil
  | _, _, _ + 1, .nil => .nil
  | _, _, n + 1, .cons h t => .cons h (RVs.take n t)
theorem RVs.drop : ∀ {ds : List D} {vs : List V} (n : Nat), RVs K c m H ds vs → RVs K c m H (ds.drop n) (vs.drop n)
  | _, _, 0, h => h
  | _, _, _ + 1, .nil => .nil
  | _, _, n + 1, .cons _ t => RVs.drop n t
theorem RVs.set {d : D} {v : V} (r : RV K c m H d v) : ∀ {ds : List D} {vs : List V} (i : Nat), RVs K c m H ds vs → RVs K c m H (ds.set i d) (vs.set i v)
  | _, _, _, .nil => .nil
  | _, _, 0, .cons _ t => .cons r t
  | _, _, i + 1, .cons h t => .cons h (RVs.set r i t)
theorem RVs.erase : ∀ {ds : List D} {vs : List V} (i : Nat), RVs K c m H ds vs → RVs K c m H (ds.eraseIdx i) (vs.eraseIdx i)
  | _, _, _, .nil => .nil
  | _, _, 0, .cons _ t => t
  | _, _, i + 1, .cons h t => .cons h (RVs.erase i t)
theorem RVs.rep {ds : List D} {vs : List V} (h : RVs K c m H ds vs) : ∀ k : Nat, RVs K c m H (List.replicate k ds).flatten (List.replicate k vs).flatten
  | 0 => .nil
  | k + 1 => by
    rw [List.replicate_succ, List.replicate_succ, List.flatten_cons, List.flatten_cons]
    exact h.append (RVs.rep h k)
theorem RVs.emp {ds : List D} {vs : List V} (h : RVs K c m H ds vs) : ds.isEmpty = vs.isEmpty := by
  cases h <;> rfl

/-! ### objects, the whole -/
def kvz : List Str → List V → List (L2.Key × V)
  | k :: ks, v :: vs => (.inr k, v) :: kvz ks vs
  | _, _ => []
inductive RO (K : Frag) (c : Cfg) (m : MM) (H : Hp) : O → HO → Prop
  | lst {ds : List D} {vs : List V} : RVs K c m H ds vs → RO K c m H (.lst ds) (.lst vs)
  | dic {ks : List Str} {ds : List D} {vs : List V} : ks.length = ds.length → ks.Nodup → RVs K c m H ds vs → RO K c m H (.dic ks ds) (.dK (kvz ks vs))

structure Ext (m : MM) (H : Hp) (m' : MM) (H' : Hp) : Prop where
  pre : ∃ r, m'.ix = m.ix ++ r ∧ ∀ a ∈ r, H a = none
  hid : (∀ b ∈ m.hid, b ∈ m'.hid) ∧ ∀ b ∈ m'.hid, b ∈ m.hid ∨ H b = none
  keep : ∀ a u, H a = some u → a ∉ m.ix → (∀ ps, u ≠ .tbl ps) → H' a = some u
  stay : ∀ a, H' a = none → H a = none
structure Sim (K : Frag) (c : Cfg) (m : MM) (H : Hp) (S : Store) : Prop where
  len : m.ix.length = S.length
  nd : m.ix.Nodup
  hid : ∀ a ∈ m.hid, H a ≠ none ∧ a ∉ m.ix
  obj : ∀ (n : Nat) (o : O), S[n]? = some o → ∃ (a : Addr) (u : HO), m.ix[n]? = some a ∧ H a = some u ∧ RO K c m H o u
  tab : ∀ P ∈ c.tabs, ∃ ps : Array Value, H P = some (.tbl ps) ∧ TriplesOk ps.toList
theorem Ext.refl : Ext m H m H := ⟨⟨[], by simp, by simp⟩, ⟨fun _ h => h, fun _ h => .inl h⟩, fun _ _ h _ _ => h, fun _ h => h⟩
theorem Ext.trans (a : Ext m H m' H') (b : Ext m' H' m2 H2) : Ext m H m2 H2 := by
  obtain ⟨r, e1, hr⟩ := a.pre
  obtain ⟨r2, e2, hr2⟩ := b.pre
  refine ⟨⟨r ++ r2, by rw [e2, e1]; simp, fun x hx => ?_⟩, ⟨fun x hx => b.hid.1 x (a.hid.1 x hx), fun x hx => (b.hid.2 x hx).elim (a.hid.2 x) fun h => .inr (a.stay x h)⟩, fun x u h hm ht => ?_, fun x h => a.stay x (b.stay x h)⟩
  · rcases List.mem_append.mp hx with h | h
    · exact hr x h
    · exact a.stay x (hr2 x h)
  · refine b.keep x u (a.keep x u h hm ht) (fun h2 => ?_) ht
    rw [e1] at h2
    rcases List.mem_append.mp h2 with h3 | h3
    · exact hm h3
    · rw [hr x h3] at h; cases h
theorem Sim.mem {S : Store} (s : Sim K c m H S) {a : Addr} (h : a ∈ m.ix) : ∃ o u, H a = some u ∧ RO K c m H o u := by
  obtain ⟨n, hn⟩ := List.getElem?_of_mem h
  have hl : n < S.length := by
    rw [← s.len]
    exact (List.getElem?_eq_some_iff.mp hn).1
  obtain ⟨a', u, h1, h2, h3⟩ := s.obj n _ (List.getElem?_eq_getElem hl)
  rw [hn] at h1; cases h1
  exact ⟨_, u, h2, h3⟩
theorem Sim.out {S : Store} (s : Sim K c m H S) {a : Addr} {u : HO} (h : H a = some u) (hk : ∀ vs, u ≠ .lst vs) (hk2 : ∀ kvs, u ≠ .dK kvs) : a ∉ m.ix := fun hm => by
  obtain ⟨o, u', h2, h3⟩ := s.mem hm
  rw [h] at h2; cases h2
  cases h3
  · exact hk _ rfl
  · exact hk2 _ rfl
theorem Sim.at {S : Store} (s : Sim K c m H S) {n : Nat} {ds : List D} (h : S[n]? = some (.lst ds)) : ∃ a vs, m.ix[n]? = some a ∧ H a = some (.lst vs) ∧ RVs K c m H ds vs := by
  obtain ⟨a, u, h1, h2, h3⟩ := s.obj n _ h
  cases h3 with
  | lst h3 => exact ⟨a, _, h1, h2, h3⟩
theorem Ext.rd {S : Store} (e : Ext m H m' H') {a : Addr} {u : HO} (h : Rd H a u) (hm : a ∉ m.ix) (hu : ∀ ps, u ≠ .tbl ps) : Rd H' a u := by
  rcases h with h | ⟨o, h⟩
  · exact .inl (e.keep a _ h hm hu)
  · exact .inr ⟨o, e.keep a _ h hm fun ps z => by cases z⟩
theorem Rd.some {a : Addr} {u : HO} (h : Rd H a u) : ∃ x, H a = some x := by
  rcases h with h | ⟨o, h⟩ <;> exact ⟨_, h⟩
theorem Ext.tup {S : Store} (s : Sim K c m H S) (e : Ext m H m' H') {a : Addr} {vs : List V} (h : SqT K H a vs) : SqT K H' a vs := by
  rcases h with h | h
  · refine .inl (e.rd (S := S) h ?_ fun ps z => by cases z)
    rcases h with h | ⟨o, h⟩
    · exact s.out h (fun vs z => by cases z) fun vs z => by cases z
    · exact s.out h (fun vs z => by cases z) fun vs z => by cases z
  · exact .inr h
theorem Ext.lv (e : Ext m H m' H') {a : Addr} {vs : List V} (h : LV K m H a vs) : LV K m' H' a vs := by
  rcases h with ⟨h, hm, hh⟩ | h
  · refine .inl ⟨e.rd (S := []) h hm (fun ps z => by cases z), fun h2 => ?_, fun h2 => ?_⟩
    obtain ⟨r, e1, hr⟩ := e.pre
    rw [e1] at h2
    rcases List.mem_append.mp h2 with h3 | h3
    · exact hm h3
    · obtain ⟨x, hx⟩ := Rd.some h
      rw [hr a h3] at hx; cases hx
    · obtain ⟨x, hx⟩ := Rd.some h
      rcases e.hid.2 a h2 with z | z
      · exact hh z
      · rw [z] at hx; cases hx
  · exact .inr h
theorem Ext.stup {S : Store} (s : Sim K c m H S) (e : Ext m H m' H') {a : Addr} {vs : List V} (h : ST K H a vs) : ST K H' a vs := by
  rcases h with ⟨o, h, hd⟩ | h
  · refine .inl ⟨o, e.keep a _ h ?_ (fun ps z => by cases z), hd⟩
    exact s.out h (fun vs z => by cases z) fun vs z => by cases z
  · exact .inr h
mutual
theorem RV.mono {S : Store} (s : Sim K c m H S) (e : Ext m H m' H') : ∀ {d : D} {v : V}, RV K c m H d v → RV K c m' H' d v
  | _, _, .non => .non
  | _, _, .bl b => .bl b
  | _, _, .int i => .int i
  | _, _, .str x => .str x
  | _, _, .tup h t => .tup (e.stup s h) (RVs.mono s e t)
  | _, _, .wtp h t => .wtp (e.tup s h) (RVs.mono s e t)
  | _, _, .lst h t => .lst (e.lv h) (RVs.mono s e t)
  | _, _, .ref h => .ref (by
    obtain ⟨r, e1, _⟩ := e.pre
    rw [e1, List.getElem?_append_left (List.getElem?_eq_some_iff.mp h).1]
    exact h)
  | _, _, .fn h => .fn h
  | _, _, .cls h => .cls h
  | _, _, .ty n => .ty n
  | _, _, .exn h1 h2 => .exn h1 (e.keep _ _ h2 (s.out h2 (fun _ z => by cases z) fun _ z => by cases z) fun _ z => by cases z)
theorem RVs.mono {S : Store} (s : Sim K c m H S) (e : Ext m H m' H') : ∀ {ds : List D} {vs : List V}, RVs K c m H ds vs → RVs K c m' H' ds vs
  | _, _, .nil => .nil
  | _, _, .cons h t => .cons (RV.mono s e h) (RVs.mono s e t)
end

/-- the same, but that hidden lists may change -/
structure Exw (m : MM) (H : Hp) (m' : MM) (H' : Hp) : Prop where
  pre : ∃ r, m'.ix = m.ix ++ r ∧ ∀ a ∈ r, H a = none
  hid : ∀ b ∈ m'.hid, b ∈ m.hid ∨ H b = none
  keep : ∀ a u, H a = some u → a ∉ m.ix → (∀ ps, u ≠ .tbl ps) → (a ∈ m.hid → ∀ vs, u ≠ .lst vs) → H' a = some u
  stay : ∀ a, H' a = none → H a = none
theorem Ext.w (e : Ext m H m' H') : Exw m H m' H' := ⟨e.pre, e.hid.2, fun a u h1 h2 h3 _ => e.keep a u h1 h2 h3, e.stay⟩
theorem Exw.trans (a : Exw m H m' H') (b : Ext m' H' m2 H2) : Exw m H m2 H2 := by
  obtain ⟨r, e1, hr⟩ := a.pre
  obtain ⟨r2, e2, hr2⟩ := b.pre
  refine ⟨⟨r ++ r2, by rw [e2, e1]; simp, fun x hx => ?_⟩, fun x hx => (b.hid.2 x hx).elim (a.hid x) fun h => .inr (a.stay x h), fun x u h hm ht hl => ?_, fun x h => a.stay x (b.stay x h)⟩
  · rcases List.mem_append.mp hx with h | h
    · exact hr x h
    · exact a.stay x (hr2 x h)
  · refine b.keep x u (a.keep x u h hm ht hl) (fun h2 => ?_) ht
    rw [e1] at h2
    rcases List.mem_append.mp h2 with h3 | h3
    · exact hm h3
    · rw [hr x h3] at h; cases h
theorem Exw.keepT {S : Store} (s : Sim K c m H S) (e : Exw m H m' H') {a : Addr} {u : HO} (h : H a = some u) (h1 : ∀ vs, u ≠ .lst vs) (h2 : ∀ vs, u ≠ .dK vs) (h3 : ∀ ps, u ≠ .tbl ps) : H' a = some u := e.keep a u h (s.out h h1 h2) h3 fun _ => h1
theorem Exw.tup {S : Store} (s : Sim K c m H S) (e : Exw m H m' H') {a : Addr} {vs : List V} (h : SqT K H a vs) : SqT K H' a vs := by
  rcases h with (h | ⟨o, h⟩) | h
  · exact .inl (.inl (e.keepT s h (fun _ z => by cases z) (fun _ z => by cases z) fun _ z => by cases z))
  · exact .inl (.inr ⟨o, e.keepT s h (fun _ z => by cases z) (fun _ z => by cases z) fun _ z => by cases z⟩)
  · exact .inr h
theorem Exw.stup {S : Store} (s : Sim K c m H S) (e : Exw m H m' H') {a : Addr} {vs : List V} (h : ST K H a vs) : ST K H' a vs := by
  rcases h with ⟨o, h, hd⟩ | h
  · exact .inl ⟨o, e.keepT s h (fun _ z => by cases z) (fun _ z => by cases z) (fun _ z => by cases z), hd⟩
  · exact .inr h
theorem Exw.lv (e : Exw m H m' H') {a : Addr} {vs : List V} (h : LV K m H a vs) : LV K m' H' a vs := by
  rcases h with ⟨h, hm, hh⟩ | h
  · have hs : ∃ x, H a = some x := by rcases h with h | ⟨o, h⟩ <;> exact ⟨_, h⟩
    obtain ⟨x, hx⟩ := hs
    refine .inl ⟨?_, fun h2 => ?_, fun h2 => ?_⟩
    · rcases h with h | ⟨o, h⟩
      · exact .inl (e.keep a _ h hm (fun _ z => by cases z) fun z => absurd z hh)
      · exact .inr ⟨o, e.keep a _ h hm (fun _ z => by cases z) fun z => absurd z hh⟩
    · obtain ⟨r, e1, hr⟩ := e.pre
      rw [e1] at h2
      rcases List.mem_append.mp h2 with h3 | h3
      · exact hm h3
      · rw [hr a h3] at hx; cases hx
    · rcases e.hid a h2 with z | z
      · exact hh z
      · rw [z] at hx; cases hx
  · exact .inr h
mutual
theorem RV.monoW {S : Store} (s : Sim K c m H S) (e : Exw m H m' H') : ∀ {d : D} {v : V}, RV K c m H d v → RV K c m' H' d v
  | _, _, .non => .non
  | _, _, .bl b => .bl b
  | _, _, .int i => .int i
  | _, _, .str x => .str x
  | _, _, .tup h t => .tup (e.stup s h) (RVs.monoW s e t)
  | _, _, .wtp h t => .wtp (e.tup s h) (RVs.monoW s e t)
  | _, _, .lst h t => .lst (e.lv h) (RVs.monoW s e t)
  | _, _, .ref h => .ref (by
    obtain ⟨r, e1, _⟩ := e.pre
    rw [e1, List.getElem?_append_left (List.getElem?_eq_some_iff.mp h).1]
    exact h)
  | _, _, .fn h => .fn h
  | _, _, .cls h => .cls h
  | _, _, .ty n => .ty n
  | _, _, .exn h1 h2 => .exn h1 (e.keepT s h2 (fun _ z => by cases z) (fun _ z => by cases z) fun _ z => by cases z)
theorem RVs.monoW {S : Store} (s : Sim K c m H S) (e : Exw m H m' H') : ∀ {ds : List D} {vs : List V}, RVs K c m H ds vs → RVs K c m' H' ds vs
  | _, _, .nil => .nil
  | _, _, .cons h t => .cons (RV.monoW s e h) (RVs.monoW s e t)
end
theorem RO.mono {S : Store} (s : Sim K c m H S) (e : Ext m H m' H') {o : O} {u : HO} (r : RO K c m H o u) : RO K c m' H' o u := by
  cases r with
  | lst h => exact .lst (h.mono s e)
  | dic hl nd h => exact .dic hl nd (h.mono s e)

/-! ### the slots -/
structure EnvR (K : Frag) (c : Cfg) (m : MM) (H : Hp) (e : Env) (σ : L2.St) : Prop where
  len : e.length = σ.length
  at_ : ∀ (i : Nat) (d : D), e[i]? = some (some d) → ∃ v, σ[i]? = some (some v) ∧ RV K c m H d v
theorem EnvR.mono {S : Store} {e : Env} {σ : L2.St} (r : EnvR K c m H e σ) (s : Sim K c m H S) (x : Ext m H m' H') : EnvR K c m' H' e σ :=
  ⟨r.len, fun i d h => let ⟨v, h1, h2⟩ := r.at_ i d h; ⟨v, h1, h2.mono s x⟩⟩
theorem EnvR.monoW {S : Store} {e : Env} {σ : L2.St} (r : EnvR K c m H e σ) (s : Sim K c m H S) (x : Exw m H m' H') : EnvR K c m' H' e σ :=
  ⟨r.len, fun i d h => let ⟨v, h1, h2⟩ := r.at_ i d h; ⟨v, h1, h2.monoW s x⟩⟩
theorem EnvR.set {e : Env} {σ : L2.St} {d : D} {v : V} (r : EnvR K c m H e σ) (h : RV K c m H d v) (i : Nat) : EnvR K c m H (e.set i (some d)) (σ.set i (some v)) := by
  refine ⟨by simp [r.len], fun j y hj => ?_⟩
  by_cases e1 : i = j
  · subst e1
    have hl : i < e.length := by
      have := (List.getElem?_eq_some_iff.mp hj).1
      simpa using this
    rw [List.getElem?_set_self hl] at hj
    cases hj
    exact ⟨v, List.getElem?_set_self (by rw [← r.len]; exact hl), h⟩
  · rw [List.getElem?_set_ne e1] at hj ⊢
    exact r.at_ j y hj
theorem EnvR.none {e : Env} {σ : L2.St} (r : EnvR K c m H e σ) (i : Nat) : EnvR K c m H (e.set i Option.none) (σ.set i Option.none) := by
  refine ⟨by simp [r.len], fun j y hj => ?_⟩
  by_cases e1 : i = j
  · subst e1
    have hl : i < e.length := by
      have := (List.getElem?_eq_some_iff.mp hj).1
      simpa using this
    rw [List.getElem?_set_self hl] at hj
    cases hj
  · rw [List.getElem?_set_ne e1] at hj ⊢
    exact r.at_ j y hj
theorem EnvR.wipe {e : Env} {σ : L2.St} (r : EnvR K c m H e σ) : ∀ vs : List Nat, EnvR K c m H (wipe e vs) (L2.wipe σ vs)
  | [] => r
  | v :: vs => (EnvR.wipe r vs).none v

/-! ### what a reading comes to -/
/-- an exception as data -/
inductive RX (K : Frag) (c : Cfg) (m : MM) (H : Hp) : D → Value → Option Addr → Prop
  | own {x : String} {C : Addr} : c.ca x = some C → RX K c m H (.exn x []) (.ref C) Option.none

def Aft {α : Type} (K : Frag) (c : Cfg) (W : WX) (σ : L2.St) (m : MM) (H : Hp) (r : R α) (k : α → Store → MM → Hp → Prop) : Prop := match r with
  | .ok a S' => ∀ m' H', Ext m H m' H' → Sim K c m' H' S' → k a S' m' H'
  | .exc x S' => ∀ m' H' cls dx, Ext m H m' H' → Sim K c m' H' S' → RX K c m' H' x cls dx → W cls dx σ H'
  | .bad => False
theorem Aft.shift {α : Type} {W : WX} {σ : L2.St} {r : R α} {k : α → Store → MM → Hp → Prop} (h : Aft K c W σ m H r k) (e : Ext m H m' H') : Aft K c W σ m' H' r k := by
  cases r with
  | ok a S => exact fun m2 H2 e2 s2 => h m2 H2 (e.trans e2) s2
  | exc x S => exact fun m2 H2 cls dx e2 s2 r2 => h m2 H2 cls dx (e.trans e2) s2 r2
  | bad => exact h
theorem Aft.bind {α β : Type} {W : WX} {σ : L2.St} {r : R α} {f : α → Store → R β} {k : β → Store → MM → Hp → Prop} (h : Aft K c W σ m H (r.bind f) k) :
    Aft K c W σ m H r (fun a S1 m1 H1 => Aft K c W σ m1 H1 (f a S1) k) := by
  cases r with
  | ok a S => exact fun m1 H1 e1 s1 => Aft.shift h e1
  | exc x S => exact h
  | bad => exact h
theorem Aft.imp {α : Type} {W : WX} {σ : L2.St} {r : R α} {k k' : α → Store → MM → Hp → Prop} (h : Aft K c W σ m H r k) (hk : ∀ a S' m' H', Ext m H m' H' → Sim K c m' H' S' → k a S' m' H' → k' a S' m' H') : Aft K c W σ m H r k' := by
  cases r with
  | ok a S => exact fun m1 H1 e1 s1 => hk _ _ _ _ e1 s1 (h m1 H1 e1 s1)
  | exc x S => exact h
  | bad => exact h
theorem Aft.ofO {α : Type} {W : WX} {σ : L2.St} {o : Option α} {S : Store} {k : α → Store → MM → Hp → Prop} (h : Aft K c W σ m H (R.ofO o S) k) (s : Sim K c m H S) : ∃ a, o = some a ∧ k a S m H := by
  cases o with
  | none => exact h.elim
  | some a => exact ⟨a, rfl, h m H .refl s⟩
theorem Aft.now {α : Type} {W : WX} {σ : L2.St} {a : α} {S : Store} {k : α → Store → MM → Hp → Prop} (h : Aft K c W σ m H (.ok a S) k) (s : Sim K c m H S) : k a S m H := h m H .refl s
end

/-- an expression's reading by the evaluator -/
def tE (K : Frag) (c : Cfg) (W : WX) (f : Env → Store → R D) : TE := fun σ H Q => ∃ (e : Env) (m : MM) (S : Store), EnvR K c m H e σ ∧ Sim K c m H S ∧ Aft K c W σ m H (f e S) fun d _ m' H' => ∀ v, RV K c m' H' d v → Q v H'
def tT (K : Frag) (c : Cfg) (W : WX) (f : Env → Store → R D) : TT := fun σ H Q => ∃ (e : Env) (m : MM) (S : Store), EnvR K c m H e σ ∧ Sim K c m H S ∧ Aft K c W σ m H (f e S) fun d S' _ H' => ∃ b, truthA S' d = some b ∧ Q b H'
def tA (K : Frag) (c : Cfg) (W : WX) (f : Env → Store → R (List D)) : TA := fun σ H Q => ∃ (e : Env) (m : MM) (S : Store), EnvR K c m H e σ ∧ Sim K c m H S ∧ Aft K c W σ m H (f e S) fun ds _ m' H' => ∀ vs, RVs K c m' H' ds vs → Q vs H'
theorem PE.imp {X : Cx} {e : Expr} {t t' : TE} (h : PE X e t) (i : ∀ σ H Q, t' σ H Q → t σ H Q) : PE X e t' := ⟨fun pins s σ H Q I q => h.run pins s σ H Q I (i _ _ _ q)⟩
theorem PT.imp {X : Cx} {e : Expr} {t t' : TT} (h : PT X e t) (i : ∀ σ H Q, t' σ H Q → t σ H Q) : PT X e t' := ⟨fun pins s σ H Q I q => h.run pins s σ H Q I (i _ _ _ q)⟩
theorem PA.imp {X : Cx} {e : List Expr} {t t' : TA} (h : PA X e t) (i : ∀ σ H Q, t' σ H Q → t σ H Q) : PA X e t' := ⟨fun p pins s σ H Q I q => h.run p pins s σ H Q I (i _ _ _ q)⟩
theorem PS.imp {X : Cx} {e : Stmt} {t t' : TS} (h : PS X e t) (i : ∀ D σ H, t' D σ H → t D σ H) : PS X e t' := ⟨fun pins s σ H Q I q => h.run pins s σ H Q I (i _ _ _ q)⟩
theorem PSs.imp {X : Cx} {e : List Stmt} {t t' : TS} (h : PSs X e t) (i : ∀ D σ H, t' D σ H → t D σ H) : PSs X e t' := ⟨fun pins s σ H Q I q => h.run pins s σ H Q I (i _ _ _ q)⟩

/-! ### the store grows, is written -/
section
variable {K : Frag} {c : Cfg} {m m' m2 : MM} {H H' H2 : Hp} {S : Store}
theorem Ext.fresh {p : Addr} {o : HO} (hp : H p = none) (s : Sim K c m H S) : Ext m H m (upd H p o) :=
  ⟨⟨[], by simp, by simp⟩, ⟨fun _ h => h, fun _ h => .inl h⟩, fun a u h _ _ => by rw [upd_ne (L2.ne_of_none h hp)]; exact h, fun a h => by
    by_cases e : a = p
    · subst e; exact hp
    · rw [upd_ne e] at h; exact h⟩
theorem upd_some {p a : Addr} {o : HO} (h : H a ≠ none) : upd H p o a ≠ none := by
  by_cases e : a = p
  · subst e; rw [upd_same]; simp
  · rw [upd_ne e]; exact h
/-- a thing that the store doesn't know is made -/
theorem Sim.fresh {p : Addr} {o : HO} (s : Sim K c m H S) (hp : H p = none) : Sim K c m (upd H p o) S := by
  have e := Ext.fresh (o := o) hp s
  refine ⟨s.len, s.nd, fun a ha => ⟨upd_some (s.hid a ha).1, (s.hid a ha).2⟩, fun n ob h => ?_, fun P hP => ?_⟩
  · obtain ⟨a, u, h1, h2, h3⟩ := s.obj n ob h
    refine ⟨a, u, h1, by rw [upd_ne (L2.ne_of_none h2 hp)]; exact h2, ?_⟩
    cases h3 with
    | lst h3 => exact .lst (h3.mono s e)
    | dic hl nd h3 => exact .dic hl nd (h3.mono s e)
  · obtain ⟨ps, h1, h2⟩ := s.tab P hP
    exact ⟨ps, by rw [upd_ne (L2.ne_of_none h1 hp)]; exact h1, h2⟩
theorem RV.newWtp {p : Addr} {ds : List D} {vs : List V} (s : Sim K c m H S) (hp : H p = none) (r : RVs K c m H ds vs) : RV K c m (upd H p (.tup vs)) (.wtp ds) (.ref p) :=
  .wtp (SqT.of upd_same) (r.mono s (Ext.fresh hp s))
theorem RV.newTup {p : Addr} {us : List Value} {ds : List D} {vs : List V} (s : Sim K c m H S) (hp : H p = none) (r : RVs K c m H ds vs) : RV K c m (upd H p (.frz (tupO us) (.tup vs))) (.tup ds) (.ref p) :=
  .tup (.inl ⟨_, upd_same, rfl⟩) (r.mono s (Ext.fresh hp s))
theorem Sim.none_out (s : Sim K c m H S) {p : Addr} (hp : H p = none) : p ∉ m.ix ∧ p ∉ m.hid :=
  ⟨(fun h => by
    obtain ⟨o, u, h2, _⟩ := s.mem h
    rw [hp] at h2
    cases h2), fun h => (s.hid p h).1 hp⟩
theorem RV.newLst {p : Addr} {ds : List D} {vs : List V} (s : Sim K c m H S) (hp : H p = none) (r : RVs K c m H ds vs) : RV K c m (upd H p (.lst vs)) (.lst ds) (.ref p) :=
  .lst (.inl ⟨.inl upd_same, s.none_out hp⟩) (r.mono s (Ext.fresh hp s))
/-- a list is put into the store -/
theorem Sim.push {p : Addr} {ds : List D} {vs : List V} (s : Sim K c m H S) (hp : H p = none) (r : RVs K c m H ds vs) : Ext m H ⟨m.ix ++ [p], m.hid⟩ (upd H p (.lst vs)) ∧ Sim K c ⟨m.ix ++ [p], m.hid⟩ (upd H p (.lst vs)) (S ++ [.lst ds]) := by
  obtain ⟨hpm, hph⟩ := s.none_out hp
  have e : Ext m H ⟨m.ix ++ [p], m.hid⟩ (upd H p (.lst vs)) := ⟨⟨[p], rfl, by simpa using hp⟩, ⟨fun _ h => h, fun _ h => .inl h⟩, fun a u h _ _ => by rw [upd_ne (L2.ne_of_none h hp)]; exact h, fun a h => by
    by_cases e : a = p
    · subst e; exact hp
    · rw [upd_ne e] at h; exact h⟩
  refine ⟨e, by simp [s.len], ?_, fun a ha => ⟨upd_some (s.hid a ha).1, fun h => ?_⟩, fun n o h => ?_, fun P hP => ?_⟩
  · rw [List.nodup_append]
    exact ⟨s.nd, by simp, fun a ha b hb => by
      have : b = p := by simpa using hb
      subst this
      exact fun z => hpm (z ▸ ha)⟩
  · rcases List.mem_append.mp h with h | h
    · exact (s.hid a ha).2 h
    · have : a = p := by simpa using h
      subst this
      exact hph ha
  · by_cases hn : n < S.length
    · rw [List.getElem?_append_left hn] at h
      obtain ⟨a, u, h1, h2, h3⟩ := s.obj n o h
      refine ⟨a, u, ?_, by rw [upd_ne (L2.ne_of_none h2 hp)]; exact h2, ?_⟩
      · show (m.ix ++ [p])[n]? = some a
        rw [List.getElem?_append_left (by rw [s.len]; exact hn)]
        exact h1
      · cases h3 with
        | lst h3 => exact .lst (h3.mono s e)
        | dic hl nd h3 => exact .dic hl nd (h3.mono s e)
    · have hn2 : n = S.length := by
        have := (List.getElem?_eq_some_iff.mp h).1
        simp at this
        omega
      subst hn2
      rw [List.getElem?_append_right (Nat.le_refl _)] at h
      simp at h
      subst h
      refine ⟨p, _, ?_, upd_same, .lst (r.mono s e)⟩
      show (m.ix ++ [p])[S.length]? = some p
      rw [List.getElem?_append_right (by rw [s.len]; exact Nat.le_refl _), s.len]
      simp
  · obtain ⟨ps, h1, h2⟩ := s.tab P hP
    exact ⟨ps, by rw [upd_ne (L2.ne_of_none h1 hp)]; exact h1, h2⟩
/-- a list of the store is written -/
theorem Sim.writeO {n : Nat} {a : Addr} {o0 o1 : O} {u0 u1 : HO} (s : Sim K c m H S) (hn : S[n]? = some o0) (ha : m.ix[n]? = some a) (hH : H a = some u0) (hu : ∀ ps, u0 ≠ .tbl ps) (r : RO K c m H o1 u1) :
    Ext m H m (upd H a u1) ∧ Sim K c m (upd H a u1) (S.set n o1) := by
  have e : Ext m H m (upd H a u1) := ⟨⟨[], by simp, by simp⟩, ⟨fun _ h => h, fun _ h => .inl h⟩, fun b u h hb _ => by
      rw [upd_ne (fun z => hb (by rw [z]; exact List.mem_of_getElem? ha))]; exact h, fun b h => by
    by_cases e : b = a
    · subst e; rw [upd_same] at h; cases h
    · rw [upd_ne e] at h; exact h⟩
  refine ⟨e, by simp [s.len], s.nd, fun a ha => ⟨upd_some (s.hid a ha).1, (s.hid a ha).2⟩, fun k o h => ?_, fun P hP => ?_⟩
  · by_cases hk : n = k
    · subst hk
      have hl : n < S.length := (List.getElem?_eq_some_iff.mp hn).1
      rw [List.getElem?_set_self hl] at h
      cases h
      exact ⟨a, _, ha, upd_same, r.mono s e⟩
    · rw [List.getElem?_set_ne hk] at h
      obtain ⟨b, u, h1, h2, h3⟩ := s.obj k o h
      have hb : b ≠ a := fun z => by
        subst z
        obtain ⟨l1, q1⟩ := List.getElem?_eq_some_iff.mp ha
        obtain ⟨l2, q2⟩ := List.getElem?_eq_some_iff.mp h1
        exact hk ((List.getElem_inj s.nd).mp (q1.trans q2.symm))
      refine ⟨b, u, h1, by rw [upd_ne hb]; exact h2, ?_⟩
      cases h3 with
      | lst h3 => exact .lst (h3.mono s e)
      | dic hl nd h3 => exact .dic hl nd (h3.mono s e)
  · obtain ⟨ps, h1, h2⟩ := s.tab P hP
    refine ⟨ps, ?_, h2⟩
    rw [upd_ne (fun z => by
      rw [← z, h1] at hH
      exact hu ps (Option.some.inj hH).symm)]
    exact h1
theorem Sim.write {n : Nat} {a : Addr} {ds es : List D} {vs us : List V} (s : Sim K c m H S) (hn : S[n]? = some (.lst ds)) (ha : m.ix[n]? = some a) (hH : H a = some (.lst vs)) (r : RVs K c m H es us) :
    Ext m H m (upd H a (.lst us)) ∧ Sim K c m (upd H a (.lst us)) (S.set n (.lst es)) := s.writeO hn ha hH (fun ps z => by cases z) (.lst r)
/-- mkL at a new place -/
theorem mkL_new {W : WX} {σ : L2.St} {v : Bool} {ds : List D} {vs : List V} {Q : VK} (s : Sim K c m H S) (r : RVs K c m H ds vs) (h : Aft K c W σ m H (mkL v ds S) fun d _ m' H' => ∀ v, RV K c m' H' d v → Q v H') :
    vs.length ≤ sizeLine ∧ ∀ p, H p = none → Q (.ref p) (upd H p (.lst vs)) := by
  unfold mkL at h
  split at h
  · rename_i hz
    refine ⟨by rw [← r.length]; exact hz, fun p hp => ?_⟩
    cases v with
    | true => exact h m _ (Ext.fresh hp s) (s.fresh hp) _ (RV.newLst s hp r)
    | false =>
      obtain ⟨e, s'⟩ := s.push hp r
      refine h _ _ e s' _ (.ref ?_)
      show (m.ix ++ [p])[S.length]? = some p
      rw [List.getElem?_append_right (by rw [s.len]; exact Nat.le_refl _), s.len]
      simp
  · exact h.elim

/-! ### hiding -/
abbrev MM.hide (m : MM) (B : Addr) : MM := ⟨m.ix, B :: m.hid⟩
mutual
theorem RV.unhide {h' : List Addr} (hh : ∀ b ∈ h', b ∈ m.hid) : ∀ {d : D} {v : V}, RV K c m H d v → RV K c ⟨m.ix, h'⟩ H d v
  | _, _, .non => .non
  | _, _, .bl b => .bl b
  | _, _, .int i => .int i
  | _, _, .str x => .str x
  | _, _, .tup h t => .tup h (RVs.unhide hh t)
  | _, _, .wtp h t => .wtp h (RVs.unhide hh t)
  | _, _, .lst h t => .lst (by
    rcases h with ⟨h1, h2, h3⟩ | h
    · exact .inl ⟨h1, h2, fun z => h3 (hh _ z)⟩
    · exact .inr h) (RVs.unhide hh t)
  | _, _, .ref h => .ref h
  | _, _, .fn h => .fn h
  | _, _, .cls h => .cls h
  | _, _, .ty n => .ty n
  | _, _, .exn h1 h2 => .exn h1 h2
theorem RVs.unhide {h' : List Addr} (hh : ∀ b ∈ h', b ∈ m.hid) : ∀ {ds : List D} {vs : List V}, RVs K c m H ds vs → RVs K c ⟨m.ix, h'⟩ H ds vs
  | _, _, .nil => .nil
  | _, _, .cons h t => .cons (RV.unhide hh h) (RVs.unhide hh t)
end
mutual
/-- what is hidden changes -/
theorem RV.other {B : Addr} {o : HO} (hm : B ∈ m.hid) (hT : ∀ vs, H B ≠ some (.tup vs) ∧ ∀ o', H B ≠ some (.frz o' (.tup vs))) (hX : ∀ φ, H B ≠ some (.ext φ)) : ∀ {d : D} {v : V}, RV K c m H d v → RV K c m (upd H B o) d v
  | _, _, .non => .non
  | _, _, .bl b => .bl b
  | _, _, .int i => .int i
  | _, _, .str x => .str x
  | _, _, .tup h t => .tup (by
    rcases h with ⟨o', h, hd⟩ | h
    · exact .inl ⟨o', by rw [upd_ne (fun z => (hT _).2 o' (by rw [← z]; exact h))]; exact h, hd⟩
    · exact .inr h) (RVs.other hm hT hX t)
  | _, _, .wtp h t => .wtp (by
    rcases h with (h | ⟨o', h⟩) | h
    · exact .inl (.inl (by rw [upd_ne (fun z => (hT _).1 (by rw [← z]; exact h))]; exact h))
    · exact .inl (.inr ⟨o', by rw [upd_ne (fun z => (hT _).2 o' (by rw [← z]; exact h))]; exact h⟩)
    · exact .inr h) (RVs.other hm hT hX t)
  | _, _, .lst (a := a) h t => .lst (by
    rcases h with ⟨h1, h2, h3⟩ | h
    · have ne : a ≠ B := fun z => h3 (by rw [z]; exact hm)
      refine .inl ⟨?_, h2, h3⟩
      rcases h1 with h1 | ⟨o', h1⟩
      · exact .inl (by rw [upd_ne ne]; exact h1)
      · exact .inr ⟨o', by rw [upd_ne ne]; exact h1⟩
    · exact .inr h) (RVs.other hm hT hX t)
  | _, _, .ref h => .ref h
  | _, _, .fn h => .fn h
  | _, _, .cls h => .cls h
  | _, _, .ty n => .ty n
  | _, _, .exn h1 h2 => .exn h1 (by rw [upd_ne fun z => hX _ (by rw [← z]; exact h2)]; exact h2)
theorem RVs.other {B : Addr} {o : HO} (hm : B ∈ m.hid) (hT : ∀ vs, H B ≠ some (.tup vs) ∧ ∀ o', H B ≠ some (.frz o' (.tup vs))) (hX : ∀ φ, H B ≠ some (.ext φ)) : ∀ {ds : List D} {vs : List V}, RVs K c m H ds vs → RVs K c m (upd H B o) ds vs
  | _, _, .nil => .nil
  | _, _, .cons h t => .cons (RV.other hm hT hX h) (RVs.other hm hT hX t)
end
theorem Sim.unhide {h' : List Addr} (hh : ∀ b ∈ h', b ∈ m.hid) (s : Sim K c m H S) : Sim K c ⟨m.ix, h'⟩ H S := by
  refine ⟨s.len, s.nd, fun a ha => s.hid a (hh a ha), fun n o h => ?_, s.tab⟩
  obtain ⟨a, u, h1, h2, h3⟩ := s.obj n o h
  refine ⟨a, u, h1, h2, ?_⟩
  cases h3 with
  | lst h3 => exact .lst (h3.unhide hh)
  | dic hl nd h3 => exact .dic hl nd (h3.unhide hh)
/-- B is made, and not told -/
theorem Sim.tohide {B : Addr} {o : HO} (s : Sim K c m H S) (hB : H B = none) : Ext m H (m.hide B) (upd H B o) ∧ Sim K c (m.hide B) (upd H B o) S := by
  have e : Ext m H (m.hide B) (upd H B o) := ⟨⟨[], by simp, by simp⟩, ⟨fun b h => List.mem_cons_of_mem _ h, fun b h => by
      rcases List.mem_cons.mp h with h | h
      · exact .inr (by rw [h]; exact hB)
      · exact .inl h⟩, fun a u h _ _ => by rw [upd_ne (L2.ne_of_none h hB)]; exact h, fun a h => by
    by_cases e : a = B
    · subst e; exact hB
    · rw [upd_ne e] at h; exact h⟩
  refine ⟨e, s.len, s.nd, fun a ha => ?_, fun n ob h => ?_, fun P hP => ?_⟩
  · rcases List.mem_cons.mp ha with z | z
    · rw [z, upd_same]
      exact ⟨by simp, (s.none_out hB).1⟩
    · exact ⟨upd_some (s.hid a z).1, (s.hid a z).2⟩
  · obtain ⟨a, u, h1, h2, h3⟩ := s.obj n ob h
    refine ⟨a, u, h1, by rw [upd_ne (L2.ne_of_none h2 hB)]; exact h2, ?_⟩
    cases h3 with
    | lst h3 => exact .lst (h3.mono s e)
    | dic hl nd h3 => exact .dic hl nd (h3.mono s e)
  · obtain ⟨ps, h1, h2⟩ := s.tab P hP
    exact ⟨ps, by rw [upd_ne (L2.ne_of_none h1 hB)]; exact h1, h2⟩
theorem Sim.other {B : Addr} {o : HO} {vs : List V} (s : Sim K c m H S) (hm : B ∈ m.hid) (hB : H B = some (.lst vs)) : Sim K c m (upd H B o) S := by
  have hT : ∀ vs, H B ≠ some (.tup vs) ∧ ∀ o', H B ≠ some (.frz o' (.tup vs)) := fun us => ⟨by rw [hB]; simp, fun o' => by rw [hB]; simp⟩
  refine ⟨s.len, s.nd, fun a ha => ⟨upd_some (s.hid a ha).1, (s.hid a ha).2⟩, fun n ob h => ?_, fun P hP => ?_⟩
  · obtain ⟨a, u, h1, h2, h3⟩ := s.obj n ob h
    have ne : a ≠ B := fun z => (s.hid B hm).2 (by rw [← z]; exact List.mem_of_getElem? h1)
    refine ⟨a, u, h1, by rw [upd_ne ne]; exact h2, ?_⟩
    cases h3 with
    | lst h3 => exact .lst (h3.other hm hT (fun φ => by rw [hB]; simp))
    | dic hl nd h3 => exact .dic hl nd (h3.other hm hT (fun φ => by rw [hB]; simp))
  · obtain ⟨ps, h1, h2⟩ := s.tab P hP
    refine ⟨ps, ?_, h2⟩
    rw [upd_ne (fun z => by rw [← z, h1] at hB; cases hB)]
    exact h1
theorem Sim.otherD {B : Addr} {o : HO} {vs : List (L2.Key × V)} (s : Sim K c m H S) (hm : B ∈ m.hid) (hB : H B = some (.dK vs)) : Sim K c m (upd H B o) S := by
  have hT : ∀ vs, H B ≠ some (.tup vs) ∧ ∀ o', H B ≠ some (.frz o' (.tup vs)) := fun us => ⟨by rw [hB]; simp, fun o' => by rw [hB]; simp⟩
  refine ⟨s.len, s.nd, fun a ha => ⟨upd_some (s.hid a ha).1, (s.hid a ha).2⟩, fun n ob h => ?_, fun P hP => ?_⟩
  · obtain ⟨a, u, h1, h2, h3⟩ := s.obj n ob h
    have ne : a ≠ B := fun z => (s.hid B hm).2 (by rw [← z]; exact List.mem_of_getElem? h1)
    refine ⟨a, u, h1, by rw [upd_ne ne]; exact h2, ?_⟩
    cases h3 with
    | lst h3 => exact .lst (h3.other hm hT (fun φ => by rw [hB]; simp))
    | dic hl nd h3 => exact .dic hl nd (h3.other hm hT (fun φ => by rw [hB]; simp))
  · obtain ⟨ps, h1, h2⟩ := s.tab P hP
    refine ⟨ps, ?_, h2⟩
    rw [upd_ne (fun z => by rw [← z, h1] at hB; cases hB)]
    exact h1
mutual
/-- B is told as a thing of the store -/
theorem RV.adopt {B : Addr} {h' : List Addr} (hm : B ∈ m.hid) (hh : ∀ b ∈ h', b ∈ m.hid) : ∀ {d : D} {v : V}, RV K c m H d v → RV K c ⟨m.ix ++ [B], h'⟩ H d v
  | _, _, .non => .non
  | _, _, .bl b => .bl b
  | _, _, .int i => .int i
  | _, _, .str x => .str x
  | _, _, .tup h t => .tup h (RVs.adopt hm hh t)
  | _, _, .wtp h t => .wtp h (RVs.adopt hm hh t)
  | _, _, .lst h t => .lst (by
    rcases h with ⟨h1, h2, h3⟩ | h
    · refine .inl ⟨h1, fun z => ?_, fun z => h3 (hh _ z)⟩
      rcases List.mem_append.mp z with z | z
      · exact h2 z
      · have e := List.mem_singleton.mp z
        exact h3 (e ▸ hm)
    · exact .inr h) (RVs.adopt hm hh t)
  | _, _, .ref h => .ref (by
    show (m.ix ++ [B])[_]? = _
    rw [List.getElem?_append_left (List.getElem?_eq_some_iff.mp h).1]
    exact h)
  | _, _, .fn h => .fn h
  | _, _, .cls h => .cls h
  | _, _, .ty n => .ty n
  | _, _, .exn h1 h2 => .exn h1 h2
theorem RVs.adopt {B : Addr} {h' : List Addr} (hm : B ∈ m.hid) (hh : ∀ b ∈ h', b ∈ m.hid) : ∀ {ds : List D} {vs : List V}, RVs K c m H ds vs → RVs K c ⟨m.ix ++ [B], h'⟩ H ds vs
  | _, _, .nil => .nil
  | _, _, .cons h t => .cons (RV.adopt hm hh h) (RVs.adopt hm hh t)
end
theorem Sim.adoptO {B : Addr} {h' : List Addr} {ob : O} {u : HO} (s : Sim K c m H S) (hm : B ∈ m.hid) (hh : ∀ b ∈ h', b ∈ m.hid) (hn : B ∉ h') (hB : H B = some u) (r : RO K c ⟨m.ix ++ [B], h'⟩ H ob u) : Sim K c ⟨m.ix ++ [B], h'⟩ H (S ++ [ob]) := by
  have hpm : B ∉ m.ix := (s.hid B hm).2
  refine ⟨by simp [s.len], ?_, fun a ha => ⟨(s.hid a (hh a ha)).1, fun h => ?_⟩, fun n o h => ?_, s.tab⟩
  · show (m.ix ++ [B]).Nodup
    rw [List.nodup_append]
    exact ⟨s.nd, by simp, fun a ha b hb => by
      have : b = B := by simpa using hb
      subst this
      exact fun z => hpm (z ▸ ha)⟩
  · rcases List.mem_append.mp h with h | h
    · exact (s.hid a (hh a ha)).2 h
    · have : a = B := by simpa using h
      subst this
      exact hn ha
  · by_cases hn : n < S.length
    · rw [List.getElem?_append_left hn] at h
      obtain ⟨a, u, h1, h2, h3⟩ := s.obj n o h
      refine ⟨a, u, ?_, h2, ?_⟩
      · show (m.ix ++ [B])[n]? = some a
        rw [List.getElem?_append_left (by rw [s.len]; exact hn)]
        exact h1
      · cases h3 with
        | lst h3 => exact .lst (h3.adopt hm hh)
        | dic hl nd h3 => exact .dic hl nd (h3.adopt hm hh)
    · have hn2 : n = S.length := by
        have := (List.getElem?_eq_some_iff.mp h).1
        simp at this
        omega
      subst hn2
      rw [List.getElem?_append_right (Nat.le_refl _)] at h
      simp at h
      subst h
      refine ⟨B, _, ?_, hB, r⟩
      show (m.ix ++ [B])[S.length]? = some B
      rw [List.getElem?_append_right (by rw [s.len]; exact Nat.le_refl _), s.len]
      simp
theorem Sim.adopt {B : Addr} {h' : List Addr} {ds : List D} {vs : List V} (s : Sim K c m H S) (hm : B ∈ m.hid) (hh : ∀ b ∈ h', b ∈ m.hid) (hn : B ∉ h') (hB : H B = some (.lst vs)) (r : RVs K c m H ds vs) : Sim K c ⟨m.ix ++ [B], h'⟩ H (S ++ [.lst ds]) :=
  s.adoptO hm hh hn hB (.lst (r.adopt hm hh))
theorem Ext.other {B : Addr} {o : HO} (e : Ext m H m' H') (hB : H B = none) (h' : H' B ≠ none) : Ext m H m' (upd H' B o) :=
  ⟨e.pre, e.hid, fun a u h hm ht => by
    rw [upd_ne (L2.ne_of_none h hB)]
    exact e.keep a u h hm ht, fun a h => by
    by_cases e1 : a = B
    · subst e1; exact hB
    · rw [upd_ne e1] at h; exact e.stay a h⟩
theorem Aft.nox {α : Type} {W W' : WX} {σ σ' : L2.St} {r : R α} {k : α → Store → MM → Hp → Prop} (h : Aft K c W σ m H r.nox k) : Aft K c W' σ' m H r k := by
  cases r with
  | ok a S => exact h
  | exc x S => exact h.elim
  | bad => exact h
theorem Aft.if_ {α : Type} {W : WX} {σ : L2.St} {p : Prop} [Decidable p] {r : R α} {k : α → Store → MM → Hp → Prop} (h : Aft K c W σ m H (if p then r else .bad) k) : p ∧ Aft K c W σ m H r k := by
  split at h
  · rename_i hp
    exact ⟨hp, h⟩
  · exact h.elim
theorem Aft.bind0 {α β : Type} {W : WX} {σ : L2.St} {r : R α} {f : α → Store → R β} {k : β → Store → MM → Hp → Prop} (h : Aft K c W σ m H (r.bind f) k) :
    Aft K c W σ m H r (fun a S1 _ _ => Aft K c W σ m H (f a S1) k) := by
  cases r with
  | ok a S => exact fun m1 H1 e1 s1 => h
  | exc x S => exact h
  | bad => exact h
end
end Mn

/-! MnF: what a def promises where no guard is up; repr of data. -/
namespace Mn
open PySem PySem.Spec PyProof.Rows
open L2 (V Hp HO Cx SqL SqT Rd St VK WX XK TE TA TS TT TG TI PE PA PS PSs PT PG PI Ends upd upd_same upd_ne OpR R2 Inv Dp DpAll UnR CallR Walk CXT Sp Room Env0 Vals)

structure FnG (P : Program) (w : World) (K : Frag) (mg : Str → Option Value) (base : Heap) (CX : CXT) (k : Nat) (f : Addr) (fd : FuncData) (ps : List Str) (sp : Sp) : Prop where
  len : ∀ vs H Q E, sp vs H Q E → vs.length = ps.length
  run : ∀ (A : Around) (outer : List PySem.Env) (s : Shared) (H : Hp) (args : Args) (us : List Value) (vs : List V) (Q : VK) (E : XK), Room k A → A.guards = some [] → Env0 P w K mg base A outer s H → BindsTo s fd args (ps.zip us) → Vals vs us → sp vs H Q E →
    codeAny (model P w) A (.call (.ref f) args) (L2.CR CX outer P w H s Q E) s
section
variable {P : Program} {w : World} {K : Frag} {mg : Str → Option Value} {base : Heap} {CX : CXT} {k : Nat} {f : Addr} {fd : FuncData} {ps : List Str} {sp sp' : Sp}
theorem FnG.mono {j : Nat} (F : FnG P w K mg base CX j f fd ps sp) (h : j ≤ k) : FnG P w K mg base CX k f fd ps sp :=
  ⟨F.len, fun A outer s H args us vs Q E hr => F.run A outer s H args us vs Q E (hr.mono h)⟩
theorem FnG.imp (F : FnG P w K mg base CX k f fd ps sp) (h : ∀ vs H Q E, sp' vs H Q E → sp vs H Q E) : FnG P w K mg base CX k f fd ps sp' :=
  ⟨fun vs H Q E q => F.len vs H Q E (h _ _ _ _ q), fun A outer s H args us vs Q E hr hg he hb hv hs => F.run A outer s H args us vs Q E hr hg he hb hv (h _ _ _ _ hs)⟩
/-- a def, by its body, run where no guard is up -/
theorem fnG_of {name qual : Str} {params : Arguments} {body : List Stmt} {scope : Scope} {dV kV doc pm cdv ct oc : Value} {an od : Option Addr}
    {osl : Array (Option Value)} {N : List Str} (lk : K.lookup f = some ⟨oc, od, .func (PySem.W.fnOf name qual params body scope dV kV doc pm an cdv ct), osl⟩) (hcd : PySem.W.codeIn K cdv qual = true) (S : L2.FnScope N ps scope)
    (len : ∀ vs H Q E, sp vs H Q E → vs.length = ps.length)
    (hbody : ∀ (A : Around) (outer : List PySem.Env) (s : Shared) (H : Hp) (vs : List V) (Q : VK) (E : XK), Room k (A.deeper (envOfC qual scope s.heap.objs.size f cdv)) → A.guards = some [] → sp vs H Q E →
      ∃ t, PSs (L2.cxOf CX P w K mg base N qual scope f cdv A outer s H E) body t ∧ t { nx := fun _ H' => Q .non H', rt := Q } (L2.start N vs) H) :
    FnG P w K mg base CX (k + 1) f (PySem.W.fnOf name qual params body scope dV kV doc pm an cdv ct) ps sp := by
  constructor
  · exact len
  intro A outer s H args us vs Q E hr hgd e0 hb r hsp
  have old : ∀ b o, base.get? b = some o → s.heap.get? b = some o := fun b o e => (e0.bs b o e).1
  have kin : K.In s.heap := e0.mod.kin.keeps old
  refine codeAny_call_function hr.depth (kin _ _ lk) rfl S.co S.gen rfl (PySem.W.codeRec_of kin hcd) (hb _ _ _ _ ?_)
  refine wpAny_newFunctionEnv_cells S.kind ?_ fun env he s1 x => ?_
  · rintro ⟨n, v⟩ hy
    have q := S.par n (List.of_mem_zip hy).1
    exact q.imp id fun q => ⟨q, PySem.W.cellsFrom_some _ _ _ (.inl q)⟩
  subst he
  obtain ⟨t, ht, hq⟩ := hbody A outer s H vs Q E (hr.deeper _) hgd hsp
  have I := L2.inv_start (CX := CX) (cd := cdv) (f := f) (qual := qual) (E := E) S hr.hd e0 (len _ _ _ _ hsp) r x
  refine ⟨(e0.mod.nolimit.keeps old).keeps x.toInCall.keep, codeAny_func (wpAny_mono (ht.run [] s1 (L2.start N vs) H _ I hq) ?_ fun _ _ hs => hs)⟩
  intro fl s' hs
  cases fl with
  | ret u =>
    obtain ⟨v, σ', H', J, rv, q⟩ := hs
    exact ⟨v, H', J.os, J.bare, J.base, J.hok, rv, q⟩
  | next =>
    obtain ⟨σ', H', J, q⟩ := hs
    exact ⟨.non, H', J.os, J.bare, J.base, J.hok, rfl, q⟩
  | brk =>
    obtain ⟨_, _, _, q⟩ := hs
    exact q.elim
  | cont =>
    obtain ⟨_, _, _, q⟩ := hs
    exact q.elim
end
section
variable {X : Cx} {CX : CXT} {k : Nat} {f C : Addr} {fd : FuncData} {ps : List Str} {sp : Sp} {E : L2.St → XK} {x : Str} {p pos : Pos} {e : Expr} {es : List Expr} {t : TA}
theorem runG {pins : List (Addr × Obj)} {σ : L2.St} {H : Hp} {s : Shared} {Q : VK} {us : List Value} {vs : List V} (F : FnG X.prog X.w X.K X.mg X.base CX k f fd ps sp) (hr : Room k X.A) (hgd : X.A.guards = some []) (hb : L2.Binds X.K fd ps []) (hx : L2.PassesAt CX X σ (E σ))
    (I : Inv X pins σ H s) (r : Vals vs us) (h : sp vs H Q (E σ)) : wpAny (model X.prog X.w) X.A (call (.ref f) us) (L2.EP X pins σ Q) X.xe s := by
  have b := hb s us I.kIn
  simp only [List.append_nil] at b
  refine wpAny_call (codeAny_mono (F.run X.A X.stack s H ⟨us, []⟩ us vs Q (E σ) hr hgd I.env0 (b (r.length.symm.trans (F.len _ _ _ _ h))) r h) ?_)
  intro r s' hq
  cases r with
  | error e => exact hx pins H s e s' I hq
  | ok fl => cases fl <;> first | exact I.after hq | exact hq.elim
theorem pe_callG (F : FnG X.prog X.w X.K X.mg X.base CX k f fd ps sp) (hr : Room k X.A) (hgd : X.A.guards = some []) (hg : L2.Gl X x) (hm : X.mg x = some (.ref f)) (hk : PySem.W.keepIn X.K (.ref f) = true) (hb : L2.Binds X.K fd ps []) (hx : ∀ σ, L2.PassesAt CX X σ (E σ))
    (ha : PA X (e :: es) t) (hdb : (x == ("__debug__" : Str)) = false) (he : starEach (e :: es) X.env = (false, eval e X.env) :: starEach es X.env) (hpl : (backTo pos (starEach es X.env)).any (·.1) = false) :
    PE X (.Call (.Name x p) (e :: es) [] pos) (L2.tCallS sp E t) := by
  constructor
  intro pins s σ H Q I h
  refine wpAny_Call_Name_kw (L2.ld_glob I hg hm ?_ hdb)
  exact PySem.W.callWith_K (h₀ := X.base) I.ok.mod.kin hk (L2.thn (ha.run pos pins s σ H _ I h) fun us s1 ⟨vs, H1, I1, r, q⟩ => ⟨I1.kIn, runG F hr hgd hb (hx σ) I1 r q⟩) he hpl

/-! ### repr of data -/
def rRepr (K : Frag) : List V → Hp → VK → Prop := fun xs H Q => ∃ (a : Addr) (d : PyData), xs = [.ref a] ∧ Dp K H (.ref a) d ∧ d.showable = true ∧ d.hasDict = false ∧ d.shown.length ≤ sizeLine ∧ d.depth ≤ 64 ∧ Q (.str d.shown) H
theorem cr_repr (hgd : X.A.guards = some []) (hu : X.A.units + 65 < cLine) : CallR X (.builtin "repr") (rRepr X.K) := by
  intro pins s σ H xs us Q I r h
  obtain ⟨a, d, rfl, hd, h1, h2, h3, h4, q⟩ := h
  obtain ⟨u, rfl, ru⟩ := L2.vals1 r
  cases ru
  obtain ⟨as, rd⟩ := Dp.reads I d _ _ hd rfl
  exact repr_of_reads' rd h1 (fun z => by rw [h2] at z; cases z) hgd (by omega) (fun _ _ e => e) (fun h' u tk hk => ⟨.str d.shown, H, I.kept hk, ⟨u, rfl⟩, q⟩) h3
/-! ### max(.., default=d) -/
def rMaxDf (K : Frag) : List V → List V → Hp → VK → Prop := fun xs zs H Q => ∃ (a : Addr) (ns : List Int) (d : Int), xs = [.ref a] ∧ zs = [.int d] ∧ SqL K H a (ns.map V.int) ∧ Q (.int (maxOf d ns)) H
theorem dp_ints {K : Frag} {H : Hp} : ∀ ns : List Int, DpAll K H (ns.map V.int) (ns.map PyData.int)
  | [] => .nil
  | n :: r => .cons (.int n) (dp_ints r)
theorem depth_ints : ∀ ns : List Int, PyData.depthAll (ns.map PyData.int) ≤ 1
  | [] => by simp [PyData.depthAll]
  | n :: r => by
    have := depth_ints r
    simp only [List.map_cons, PyData.depthAll, PyData.depth]
    omega
theorem cr_maxDf (hc : X.calm = true) (hu : X.A.units + 65 < cLine) : L2.CallRK X (.builtin "max") [Str.ofString "default"] (rMaxDf X.K) := by
  intro pins s σ H xs zs us ws Q I r r2 h
  obtain ⟨a, ns, d, rfl, rfl, hs, q⟩ := h
  obtain ⟨its, rv, hl, _⟩ := I.list hs
  obtain ⟨as, rd⟩ := Dp.readsAll I _ _ _ (dp_ints ns) rv
  obtain ⟨w, rfl, t, rfl⟩ := L2.vals1 r2
  rw [L2.Vals.ref1 r]
  refine PySem.W.max_list_default (I.ok.hd hc) hl.isList rd ⟨fun x hx y hy => ?_, fun x hx => ?_⟩ (by have := depth_ints ns; omega) (fun e h' tk hk => ?_) (fun y ys i v h' tk bs e _ rv' hk => ?_)
  · obtain ⟨n, _, rfl⟩ := List.mem_map.mp hx
    obtain ⟨k, _, rfl⟩ := List.mem_map.mp hy
    rfl
  · obtain ⟨n, _, rfl⟩ := List.mem_map.mp hx
    exact fun z => by cases z
  · cases ns with
    | nil => exact ⟨.int d, H, I.kept hk, ⟨t, rfl⟩, q⟩
    | cons n r => cases e
  · cases ns with
    | nil => cases e
    | cons n r =>
      cases e
      rw [PySem.W.maxD_ints] at rv'
      cases rv'
      exact ⟨.int _, H, I.kept hk, ⟨_, rfl⟩, q⟩
end
end Mn

/-! Mn3: the layer's rules for single expressions, by the evaluator. -/
namespace Mn
open PySem PySem.Spec PyProof.Rows
open L2 (V Hp HO Cx SqL SqT Rd St VK WX XK TE TA TS TT TG PE PA PS PSs PT PG Ends upd upd_same upd_ne OpR R2 Inv)

/-! ### rules that the layer lacks -/
section
variable {X : Cx}
/-- list + list, of any kind of list -/
def rCatL (K : Frag) : R2 := fun x y H Q => ∃ l b xs zs, x = .ref l ∧ y = .ref b ∧ SqL K H l xs ∧ SqL K H b zs ∧ xs.length + zs.length ≤ sizeLine ∧ ∀ p, H p = none → Q (.ref p) (upd H p (.lst (xs ++ zs)))
theorem op_catL : OpR X (binaryOp .Add) (rCatL X.K) := by
  intro pins s σ H x y v u Q I rx ry h
  obtain ⟨l, b, xs, zs, rfl, rfl, hH, hB, hz, q⟩ := h
  cases rx
  cases ry
  obtain ⟨its, r, pl, z⟩ := I.list hH
  obtain ⟨its2, r2, pl2, z2⟩ := I.list hB
  obtain ⟨⟨cls, dd, data, sl⟩, ho, hc, n, hd⟩ := id pl.isList
  obtain ⟨⟨cls2, dd2, data2, sl2⟩, ho2, hc2, n2, hd2⟩ := id pl2.isList
  simp only at hc hd hc2 hd2
  subst hc hd hc2 hd2
  have e : its.toArray ++ its2.toArray = (its ++ its2).toArray := by simp
  refine concat_meets ⟨_, ho, rfl⟩ ⟨_, ho2, rfl⟩ noFill_list_add seq_list_add PySem.F.slot_list_add PySem.F.entry_list_add (PySem.F.args_list_add_2 _ _) (list_addW l b its.toArray its2.toArray n n2 dd dd2 sl sl2 ?_) ⟨ho, ho2, ?_⟩
  · rw [List.size_toArray, List.size_toArray, ← r.length, ← r2.length]
    exact hz
  · rw [e]
    exact ⟨.ref _, _, I.lnew (t' := s.toks) (r.append r2) (by rw [List.length_append]; omega), rfl, q _ I.fresh⟩
end

/-- tuple * int: by nothing, or by one, it is the tuple itself -/
theorem tuple_mul1 (l : Addr) (items : Array Value) (n : Nat) (dd : Option Addr) (sl : Array (Option Value)) (x : Int) (u : Tok) (c0 : (decide (x < -(2 ^ 63)) || decide (x ≥ 2 ^ 63)) = false) (c1 : (items.isEmpty || x == 1) = true) :
    Meets (Builtin.«tuple.__mul__» ⟨[.ref l, .int x u], []⟩) (fun _ R s => s.heap.get? l = some { cls := .type "tuple", dict := dd, data := .seq items n, slots := sl } ∧
      R (.ok (.ret (Value.ref l))) { s with heap := s.heap, toks := s.toks }) :=
  .of_wp fun prog w A R s h => by
    obtain ⟨hp, g, d, tk, os⟩ := s
    obtain ⟨hl, h⟩ := h
    have f1 := AutoSeq1.idx_int
    wp_walk using wpAny_loadPart' hl
    repeat (first
      | (refine wpAny_ite_false (decide_eq_false (by rw [c0]; exact Bool.false_ne_true)) ?_; wp_walk using wpAny_loadPart' hl)
      | (refine wpAny_ite_true (decide_eq_true (by rw [c1])) ?_; wp_walk using wpAny_loadPart' hl))
    exact ⟨_, rfl, h⟩
section
variable {X : Cx}
def rRepT1 (K : Frag) : R2 := fun x y H Q => ∃ l k xs, x = .ref l ∧ y = .int k ∧ SqT K H l xs ∧ (xs = [] ∨ k = 1) ∧ -(2 ^ 63) ≤ k ∧ k < 2 ^ 63 ∧ Q (.ref l) H
theorem op_repT1 : OpR X (binaryOp .Mult) (rRepT1 X.K) := by
  intro pins s σ H x y v u Q I rx ry h
  obtain ⟨l, k, xs, rfl, rfl, hT, hne, h1, h2, q⟩ := h
  cases rx
  obtain ⟨t, rfl⟩ := ry
  obtain ⟨its, r, ⟨⟨cls, dd, data, sl⟩, ho, hc, n, hd⟩, hs⟩ := I.tuple hT
  simp only at hc hd
  subst hc hd
  have c0 : (decide (k < -(2 ^ 63)) || decide (k ≥ 2 ^ 63)) = false := by
    simp only [Bool.or_eq_false_iff, decide_eq_false_iff_not]
    omega
  have c1 : (its.toArray.isEmpty || k == 1) = true := by
    rcases hne with e | e
    · subst e
      cases r
      rfl
    · subst e
      simp
  exact wpAny_binaryOp_repeat_ref (T := "tuple") (U := "int") (by decide) ⟨_, ho, rfl⟩ (fun s' => typeIs_int s' k t) L2.noFill_tuple_mul F.fills_int_mul F.slot_int_rmul L2.repeat_tuple F.slot_int_index.lookup
    (call_meets F.slot_int_rmul (typeIs_int s k t) F.entry_int_rmul (F.args_int_rmul_2 _ _) (L2.int_rmul_tuple k t l its.toArray n dd sl)
      ⟨ho, rfl, ⟨_, ho, rfl⟩, call_meets F.slot_tuple_mul ⟨_, ho, rfl⟩ F.entry_tuple_mul (F.args_tuple_mul_2 _ _) (tuple_mul1 l its.toArray n dd sl k t c0 c1) ⟨ho, .ref l, H, I.tok _, rfl, q⟩⟩)
theorem int_rmul_listW (a : Int) (t : Tok) (l : Addr) (items : Array Value) (n : Nat) (dd : Option Addr) (sl : Array (Option Value)) :
    Meets (Builtin.«int.__rmul__» ⟨[.int a t, .ref l], []⟩) (fun _ R s => s.heap.get? l = some { cls := .type "list", dict := dd, data := .seq items n, slots := sl } ∧ R (.ok (.ret Value.notImplemented)) s) :=
  .of_wp fun prog w A R s h => by obtain ⟨hp, g, d, tk, os⟩ := s; obtain ⟨hl, h⟩ := h; wp_walk using wpAny_loadPart' hl; exact ⟨_, rfl, h⟩
theorem list_mulW (l : Addr) (items : Array Value) (n : Nat) (dd : Option Addr) (sl : Array (Option Value)) (x : Int) (u : Tok) (hc0 : ¬(!Builtin.List.listFitsIndex x) = true) (hc1 : ¬items.size * x.toNat > (2 ^ 63 - 1) / 8) (hc2 : ¬Builtin.List.listTooLong (items.size * x.toNat) = true) :
    Meets (Builtin.«list.__mul__» ⟨[.ref l, .int x u], []⟩) (fun _ R s => s.heap.get? l = some { cls := .type "list", dict := dd, data := .seq items n, slots := sl } ∧ R (.ok (.ret (Value.ref s.heap.objs.size))) { s with heap := s.heap.push { cls := Value.type "list", data := Data.seq (List.foldl (fun x1 x2 => x1 ++ x2) #[] (List.replicate (if items.isEmpty = true then 0 else x.toNat) items)) }, toks := s.toks }) :=
  .of_wp fun prog w A R s h => by
    obtain ⟨hp, g, d, tk, os⟩ := s; obtain ⟨hl, h⟩ := h
    have hsz := AutoListH.joined_fits hc2
    wp_walk using wpAny_loadPart' hl
    refine wpAny_ite_false (decide_eq_false (Nat.not_lt.mpr hsz)) ?_; wp_walk using wpAny_loadPart' hl; exact ⟨_, rfl, h⟩
def rRepL (K : Frag) : R2 := fun x y H Q => ∃ l k xs, x = .ref l ∧ y = .int k ∧ SqL K H l xs ∧ -(2 ^ 63) ≤ k ∧ k < 2 ^ 63 ∧ xs.length * k.toNat ≤ sizeLine ∧
  ∀ p, H p = none → Q (.ref p) (upd H p (.lst (List.replicate k.toNat xs).flatten))
theorem op_repL : OpR X (binaryOp .Mult) (rRepL X.K) := by
  intro pins s σ H x y v u Q I rx ry h
  obtain ⟨l, k, xs, rfl, rfl, hH, h1, h2, hz, q⟩ := h
  cases rx
  obtain ⟨t, rfl⟩ := ry
  obtain ⟨its, r, pl, z⟩ := I.list hH
  obtain ⟨⟨cls, dd, data, sl⟩, e, hc, n, hd⟩ := id pl.isList
  simp only at hc hd
  subst hc hd
  have hl : xs.length = its.length := r.length
  have hlen : its.toArray.size * k.toNat ≤ sizeLine := by rw [List.size_toArray, ← hl]; exact hz
  have hcap : ¬ its.toArray.size * k.toNat > (2 ^ 63 - 1) / 8 := by
    have : (sizeLine : Nat) ≤ (2 ^ 63 - 1) / 8 := by decide
    omega
  have hfit : ¬ (!Builtin.List.listFitsIndex k) = true := by
    rw [fitsIndex_both h1 h2]
    exact Bool.false_ne_true
  have hlong : ¬ Builtin.List.listTooLong (its.toArray.size * k.toNat) = true := by
    rw [L2.notLongL hlen]
    exact Bool.false_ne_true
  have hnew : List.foldl (fun x1 x2 => x1 ++ x2) #[] (List.replicate (if its.toArray.isEmpty = true then 0 else k.toNat) its.toArray) = (List.replicate k.toNat its).flatten.toArray := by
    have f0 : ∀ m : Nat, List.foldl (fun x1 x2 => x1 ++ x2) #[] (List.replicate m its.toArray) = (List.replicate m its).flatten.toArray := fun m => by
      have := L2.foldl_rep its m []
      rw [List.nil_append] at this
      exact this
    rw [f0]
    cases its with
    | nil => simp
    | cons a r' => rw [if_neg (by simp)]
  refine wpAny_binaryOp_repeat_ref (T := "list") (U := "int") (by decide) ⟨_, e, rfl⟩ (fun s' => typeIs_int s' k t) noFill_list_mul F.fills_int_mul F.slot_int_rmul repeat_list F.slot_int_index.lookup
    (call_meets F.slot_int_rmul (typeIs_int s k t) F.entry_int_rmul (F.args_int_rmul_2 _ _) (int_rmul_listW k t l its.toArray n dd sl)
      ⟨e, rfl, ⟨_, e, rfl⟩, call_meets F.slot_list_mul ⟨_, e, rfl⟩ F.entry_list_mul (F.args_list_mul_2 _ _) (list_mulW l its.toArray n dd sl k t hfit hcap hlong) ⟨e, ?_⟩⟩)
  rw [hnew]
  exact ⟨.ref _, _, I.lnew (t' := s.toks) (r.rep k.toNat) (by rw [PyProof.Rows.lm_len_rep_flat, Nat.mul_comm]; exact hz), rfl, q _ I.fresh⟩
end

/-! ### tuples without an own dict -/
section
variable {X : Cx} {pins : List (Addr × Obj)} {σ : L2.St} {H : Hp} {s : Shared}
def NewT (H : Hp) (vs : List V) (Q : VK) : Prop := ∀ (p : Addr) (us : List Value), H p = none → Q (.ref p) (upd H p (.frz (tupO us) (.tup vs)))
theorem laidT {h' : Heap} {t' : Nat} {vs : List V} {us : List Value} {Q : VK} (I : Inv X pins σ H s) (k : ∀ b u, s.heap.get? b = some u → h'.get? b = some u) (e : h'.get? s.heap.objs.size = some (tupO us))
    (r : L2.Vals vs us) (hz : vs.length ≤ sizeLine) (q : NewT H vs Q) : L2.EP X pins σ Q (.ref s.heap.objs.size) { s with heap := h', toks := t' } :=
  ⟨.ref s.heap.objs.size, _, I.laid (t' := t') k (Nat.le_refl _) (show L2.ObjOk X.prog X.w _ h' _ (.frz (tupO us) (.tup vs)) from ⟨e, hz, us, r, ⟨_, e, rfl, _, rfl⟩⟩), rfl, q _ _ (I.hok.fresh (Nat.le_refl _))⟩
def rCatS (K : Frag) : R2 := fun x y H Q => ∃ a b xs ys, x = .ref a ∧ y = .ref b ∧ SqT K H a xs ∧ SqT K H b ys ∧ xs.length + ys.length ≤ sizeLine ∧
  (xs = [] → Q (.ref b) H) ∧ (xs ≠ [] → ys = [] → Q (.ref a) H) ∧ (xs ≠ [] → ys ≠ [] → NewT H (xs ++ ys) Q)
theorem op_catS : OpR X (binaryOp .Add) (rCatS X.K) := by
  intro pins s σ H x y v u Q I rx ry h
  obtain ⟨a, b, xs, ys, rfl, rfl, ha, hb, hz, q0, q1, q2⟩ := h
  by_cases hx : xs = []
  · exact L2.op_catA pins s σ H _ _ v u Q I rx ry ⟨a, b, xs, ys, rfl, rfl, ha, hb, hz, q0, q1, fun z => absurd hx z⟩
  by_cases hy : ys = []
  · exact L2.op_catA pins s σ H _ _ v u Q I rx ry ⟨a, b, xs, ys, rfl, rfl, ha, hb, hz, q0, q1, fun _ z => absurd hy z⟩
  cases rx
  cases ry
  obtain ⟨its, r1, p1, _⟩ := I.tuple ha
  obtain ⟨its2, r2, p2, _⟩ := I.tuple hb
  refine HT.cat_tup p1 p2 (fun z => hx (r1.nil_iff.mp z)) (fun z => absurd (r2.nil_iff.mp z) hy) (fun z => ?_) (by rw [← r1.length, ← r2.length]; exact hz)
  exact laidT I (fun b ob q => Heap.get?_push_of_some _ q) (Heap.get?_push_size _ rfl) (r1.append r2) (by rw [List.length_append]; exact hz) (q2 hx hy)
def rRepS (K : Frag) : R2 := fun x y H Q => ∃ l k xs, x = .ref l ∧ y = .int k ∧ SqT K H l xs ∧ xs ≠ [] ∧ 2 ≤ k ∧ k ≤ 1000 ∧ xs.length ≤ 1000 ∧ NewT H (List.replicate k.toNat xs).flatten Q
theorem op_repS : OpR X (binaryOp .Mult) (rRepS X.K) := by
  intro pins s σ H x y v u Q I rx ry h
  obtain ⟨l, k, xs, rfl, rfl, hT, hne, h1, h2, hz, q⟩ := h
  cases rx
  obtain ⟨t, rfl⟩ := ry
  obtain ⟨its, r, ⟨⟨cls, dd, data, sl⟩, ho, hc, n, hd⟩, hs⟩ := I.tuple hT
  simp only at hc hd
  subst hc hd
  have hle : its.length = xs.length := r.length.symm
  have hi : its.toArray.isEmpty = false := by
    cases its with
    | nil => exact absurd (List.eq_nil_of_length_eq_zero hle.symm) hne
    | cons a b => rfl
  have hsz0 : its.toArray.size = xs.length := by rw [List.size_toArray, hle]
  have a1 : ((xs.length : Nat) : Int) * k ≤ 1000 * k := Int.mul_le_mul_of_nonneg_right (by omega) (by omega)
  have a2 : k.toNat * xs.length ≤ 1000 * 1000 := Nat.mul_le_mul (by omega) hz
  have flen : (List.replicate k.toNat its).flatten.length ≤ sizeLine := by
    rw [PyProof.Rows.lm_len_rep_flat, hle, sizeLine_eq]
    omega
  have c0 : (decide (k < -(2 ^ 63)) || decide (k ≥ 2 ^ 63)) = false := by
    simp only [Bool.or_eq_false_iff, decide_eq_false_iff_not]
    omega
  have c1 : (its.toArray.isEmpty || k == 1) = false := by
    rw [hi, Bool.false_or]
    exact beq_eq_false_iff_ne.mpr (by omega)
  have c2 : (decide (k ≤ 0) || its.toArray.isEmpty) = false := by
    rw [hi, Bool.or_false]
    exact decide_eq_false (by omega)
  have c4 : Builtin.Tuple.tupleTooMany (((its.toArray.size : Nat) : Int) * k) = false := by
    unfold Builtin.Tuple.tupleTooMany
    rw [sizeLine_eq, hsz0]
    exact decide_eq_false (by omega)
  refine wpAny_binaryOp_repeat_ref (T := "tuple") (U := "int") (by decide) ⟨_, ho, rfl⟩ (fun s' => typeIs_int s' k t) L2.noFill_tuple_mul F.fills_int_mul F.slot_int_rmul L2.repeat_tuple F.slot_int_index.lookup
    (call_meets F.slot_int_rmul (typeIs_int s k t) F.entry_int_rmul (F.args_int_rmul_2 _ _) (L2.int_rmul_tuple k t l its.toArray n dd sl)
      ⟨ho, rfl, ⟨_, ho, rfl⟩, call_meets F.slot_tuple_mul ⟨_, ho, rfl⟩ F.entry_tuple_mul (F.args_tuple_mul_2 _ _)
        (L2.tuple_mulW l its.toArray n dd sl k t c0 c1 c2 (by rw [hsz0]; omega) c4 (by rw [L2.size_rep, List.size_toArray]; exact flen)) ⟨ho, ?_⟩⟩)
  rw [L2.size_rep]
  exact laidT I (fun b ob q => Heap.get?_push_of_some _ q) (Heap.get?_push_size _ rfl) (r.rep k.toNat) (by rw [PyProof.Rows.lm_len_rep_flat, sizeLine_eq]; omega) q
/-- a display -/
def tTupS (t : TA) : TE := fun σ H Q => t σ H fun xs H1 => xs.length ≤ sizeLine ∧ NewT H1 xs Q
theorem pe_tupS {es : List Expr} {t : TA} {x1} {pos : Pos} (h : PA X es t) : PE X (.Tuple es x1 pos) (tTupS t) := by
  refine ⟨fun pins s σ H Q I hq => ?_⟩
  refine wpAny_Tuple_spliced (L2.thn (h.run pos pins s σ H _ I hq) fun us s1 ⟨xs, H1, I1, r, z, q⟩ => ⟨by rw [← r.length]; exact z, ?_⟩)
  exact laidT I1 (fun b u e => Heap.get?_push_of_some _ e) (Heap.get?_push_size _ rfl) r z q
/-- slices -/
def rSlS2 (K : Frag) : V → Option Int → Option Int → Hp → VK → Prop := fun x lo hi H Q => ∃ a xs, x = .ref a ∧ SqT K H a xs ∧
  (HT.sIx xs.length 0 lo = 0 ∧ HT.sIx xs.length xs.length hi = xs.length → Q (.ref a) H) ∧ (¬ (HT.sIx xs.length 0 lo = 0 ∧ HT.sIx xs.length xs.length hi = xs.length) → NewT H (L2.cutV xs lo hi) Q)
theorem sl_tupS : L2.SlR X (rSlS2 X.K) := by
  intro pins s σ H x v vl vu lo hi sl Q I rx hs pl pu h
  obtain ⟨a, xs, rfl, hx, q1, q2⟩ := h
  by_cases hw : HT.sIx xs.length 0 lo = 0 ∧ HT.sIx xs.length xs.length hi = xs.length
  · exact L2.sl_tupA pins s σ H _ v vl vu lo hi sl Q I rx hs pl pu ⟨a, xs, rfl, hx, q1, fun z => absurd hw z⟩
  · cases rx
    obtain ⟨its, r, ht, hz⟩ := I.tuple hx
    have hlen : its.toArray.size = xs.length := by rw [List.size_toArray]; exact r.length.symm
    refine ⟨"tuple", _, PyProof.Rows.slot_tuple_getitem.lookup, ht.typeIs, ?_⟩
    refine HT.getItem_tuple_cut ht hs pl pu (by rw [hlen]; exact hw) ?_ (by rw [hlen]; exact hz)
    rw [hlen]
    exact laidT I (fun b ob q => Heap.get?_push_of_some _ q) (Heap.get?_push_size _ rfl) ((r.drop _).take _) (Nat.le_trans (L2.cutV_length xs lo hi) hz) (q2 hw)
/-- tuple(..) -/
theorem call_tupleS : L2.CallR X (.type "tuple") (fun xs H Q => ∃ p ys, xs = [.ref p] ∧ ((SqL X.K H p ys ∧ NewT H ys Q) ∨ (SqT X.K H p ys ∧ Q (.ref p) H))) := by
  intro pins s σ H xs us Q I r h
  obtain ⟨p, ys, rfl, h⟩ := h
  rcases h with ⟨hq, q⟩ | ⟨hq, q⟩
  · obtain ⟨u, rfl, rx⟩ := L2.vals1 r
    cases rx
    obtain ⟨its, r', pl, hz⟩ := I.list hq
    have hlen := r'.length
    refine call_tuple_list pl.isList (fun h' kp => ?_) (by simp only [List.size_toArray] <;> omega)
    have I1 : Inv X pins σ H { s with heap := h' } := I.kept (t' := s.toks) kp
    exact laidT I1 (fun b ob q => Heap.get?_push_of_some _ q) (Heap.get?_push_size _ rfl) r' hz q
  · exact L2.call_tuple_of pins s σ H _ us Q I r ⟨p, ys, rfl, .inr ⟨hq, q⟩⟩
end

/-! ### two values, one operator -/
section
variable {X : Cx} {c : Cfg} {W : WX}
theorem tE_op {fa fb : Env → Store → R D} {g : D → D → Store → R D} {r : R2}
    (hr : ∀ (m : MM) (H : Hp) (S : Store) (x y : D) (u v : V) (σ : L2.St) (Q : VK), Sim X.K c m H S → RV X.K c m H x u → RV X.K c m H y v → Aft X.K c W σ m H (g x y S) (fun d _ m' H' => ∀ v, RV X.K c m' H' d v → Q v H') → r u v H Q) :
    ∀ σ H Q, tE X.K c W (fun e S => (fa e S).bind fun x S1 => (fb e S1).bind fun y S2 => g x y S2) σ H Q → L2.tOp r (tE X.K c W fa) (tE X.K c W fb) σ H Q := by
  rintro σ H Q ⟨e, m, S, re, s, h⟩
  refine ⟨e, m, S, re, s, h.bind.imp fun x S1 m1 H1 e1 s1 h1 u ru => ⟨e, m1, S1, re.mono s e1, s1, h1.bind.imp fun y S2 m2 H2 e2 s2 h2 v rv => hr m2 H2 S2 x y u v σ Q s2 (ru.mono s1 e2) rv h2⟩⟩

theorem op_of {fa fb : Env → Store → R D} {r : R2} {P : D → D → Store → MM → Hp → Prop} {e : Env} {m : MM} {H : Hp} {S : Store} {σ : L2.St} {Q : VK} (re : EnvR X.K c m H e σ) (s : Sim X.K c m H S)
    (h : Aft X.K c W σ m H (fa e S) fun x S1 m1 H1 => Aft X.K c W σ m1 H1 (fb e S1) fun y S2 m2 H2 => P x y S2 m2 H2)
    (hr : ∀ (m2 : MM) (H2 : Hp) (S2 : Store) (x y : D) (u v : V), Ext m H m2 H2 → Sim X.K c m2 H2 S2 → RV X.K c m2 H2 x u → RV X.K c m2 H2 y v → P x y S2 m2 H2 → r u v H2 Q) :
    L2.tOp r (tE X.K c W fa) (tE X.K c W fb) σ H Q :=
  ⟨e, m, S, re, s, h.imp fun x S1 m1 H1 e1 s1 h1 u ru => ⟨e, m1, S1, re.mono s e1, s1, h1.imp fun y S2 m2 H2 e2 s2 h2 v rv => hr m2 H2 S2 x y u v (e1.trans e2) s2 (ru.mono s1 e2) rv h2⟩⟩

/-- the operators' rule -/
def rRepX : R2 := fun x y H Q => ∃ z k, x = .str z ∧ y = .int k ∧ 0 ≤ k ∧ k ≤ 1000 ∧ z.length ≤ 1000 ∧ Q (.str (Txt.mul z k)) H
theorem op_repX : OpR X (binaryOp .Mult) rRepX := by
  intro pins s σ H x y v u Q I rx ry h
  obtain ⟨z, k, rfl, rfl, h1, h2, h3, q⟩ := h
  obtain ⟨t, rfl⟩ := rx
  obtain ⟨t', rfl⟩ := ry
  have ok : MulOk z k := by
    refine ⟨?_, fun hk _ => ?_, fun hk _ => ?_⟩
    · simp only [Bool.or_eq_false_iff, decide_eq_false_iff_not]
      omega
    · have a1 : (1000 : Int) ≤ (2 ^ 63 - 1) / k := by
        rw [Int.le_ediv_iff_mul_le (by omega)]
        omega
      omega
    · have a2 : z.length * k.toNat ≤ 1000 * 1000 := Nat.mul_le_mul h3 (by omega)
      unfold Builtin.Str.tooLong
      exact decide_eq_false (by rw [sizeLine_eq]; omega)
  exact SB.mul ok fun t' k' => ⟨.str _, H, I.tok _, ⟨_, rfl⟩, q⟩
def rBin (X : Cx) (op : Operator) : R2 := match op with
  | .Add => fun x y H Q => L2.rI0 (fun i j => .int (i + j)) x y H Q ∨ (∃ i j, x = .str i ∧ y = .str j ∧ i.length + j.length ≤ sizeLine ∧ Q (.str (i ++ j)) H) ∨ rCatS X.K x y H Q ∨ rCatL X.K x y H Q
  | .Sub => L2.rI0 fun i j => .int (i - j)
  | .Mult => fun x y H Q => L2.rI L2.CMul (fun i j => .int (i * j)) x y H Q ∨ rRepS X.K x y H Q ∨ rRepT1 X.K x y H Q ∨ rRepL X.K x y H Q ∨ rRepX x y H Q
  | .FloorDiv => L2.rI L2.CDiv fun i j => .int (i / j)
  | .Mod => L2.rI (fun _ j => 0 < j) fun i j => .int (i % j)
  | .Pow => L2.rI L2.CPow fun i j => .int (i ^ j.toNat)
  | .LShift => L2.rI L2.CPow fun i j => .int (i * 2 ^ j.toNat)
  | .RShift => L2.rI (fun _ j => 0 ≤ j) fun i j => .int (i / 2 ^ j.toNat)
  | .BitAnd => L2.rI0 fun i j => .int (Builtin.bitAnd i j)
  | .BitOr => L2.rI0 fun i j => .int (Builtin.bitOr i j)
  | .BitXor => L2.rI0 fun i j => .int (Builtin.bitXor i j)
  | _ => fun _ _ _ _ => False
theorem or_bin (X : Cx) (op : Operator) : OpR X (binaryOp op) (rBin X op) := by
  cases op
  case Add => exact L2.op_add.or (L2.op_add_str.or (op_catS.or op_catL))
  case Sub => exact L2.op_sub
  case Mult => exact L2.op_mul.or (op_repS.or (op_repT1.or (op_repL.or op_repX)))
  case FloorDiv => exact L2.op_fdiv
  case Mod => exact L2.op_mod
  case Pow => exact L2.op_pow
  case LShift => exact L2.op_shl
  case RShift => exact L2.op_shr
  case BitAnd => exact L2.op_and
  case BitOr => exact L2.op_or
  case BitXor => exact L2.op_xor
  all_goals exact fun _ _ _ _ _ _ _ _ _ _ _ _ h => h.elim

/-- what a list of the reading is -/
theorem seqL_sq {m : MM} {H : Hp} {S : Store} {x : D} {u : V} {l : List D} (s : Sim X.K c m H S) (r : RV X.K c m H x u) (h : seqL S x = some l) : ∃ a vs, u = .ref a ∧ SqL X.K H a vs ∧ RVs X.K c m H l vs := by
  cases r with
  | lst h1 h2 =>
    simp only [seqL, Option.some.injEq] at h
    subst h
    exact ⟨_, _, rfl, h1.sq, h2⟩
  | @ref n a h1 =>
    simp only [seqL] at h
    cases e : S[n]? with
    | none => rw [e] at h; cases h
    | some o =>
      rw [e] at h
      cases o with
      | lst k =>
        simp only [Option.some.injEq] at h
        subst h
        obtain ⟨a', vs, h2, h3, h4⟩ := s.at e
        rw [h1] at h2; cases h2
        exact ⟨_, _, rfl, SqL.of h3, h4⟩
      | dic _ _ => cases h
  | _ => simp [seqL] at h
theorem seqT_sq {m : MM} {H : Hp} {x : D} {u : V} {l : List D} (r : RV X.K c m H x u) (h : seqT x = some l) : ∃ a vs, u = .ref a ∧ SqT X.K H a vs ∧ RVs X.K c m H l vs := by
  cases r with
  | tup h1 h2 =>
    simp only [seqT, Option.some.injEq] at h
    subst h
    exact ⟨_, _, rfl, h1.sq, h2⟩
  | _ => simp [seqT] at h
theorem seqA_sq {m : MM} {H : Hp} {S : Store} {x : D} {u : V} {l : List D} (s : Sim X.K c m H S) (r : RV X.K c m H x u) (h : seqA S x = some l) : ∃ a vs, u = .ref a ∧ (SqL X.K H a vs ∨ SqT X.K H a vs) ∧ RVs X.K c m H l vs := by
  unfold seqA at h
  split at h
  · obtain ⟨a, vs, h1, h2, h3⟩ := seqT_sq (x := .tup _) r h
    exact ⟨a, vs, h1, .inr h2, h3⟩
  · obtain ⟨a, vs, h1, h2, h3⟩ := seqL_sq s r h
    exact ⟨a, vs, h1, .inl h2, h3⟩
/-- a tuple is made -/
theorem mkT_new {m : MM} {H : Hp} {S : Store} {σ : L2.St} {ds : List D} {vs : List V} {Q : VK} (s : Sim X.K c m H S) (r : RVs X.K c m H ds vs) (h : Aft X.K c W σ m H (mkT ds S) fun d _ m' H' => ∀ v, RV X.K c m' H' d v → Q v H') :
    vs.length ≤ sizeLine ∧ NewT H vs Q := by
  unfold mkT at h
  split at h
  · rename_i hz
    exact ⟨by rw [← r.length]; exact hz, fun p us hp => h m _ (Ext.fresh hp s) (s.fresh hp) _ (RV.newTup s hp r)⟩
  · exact h.elim
theorem Aft.okv {m : MM} {H : Hp} {S : Store} {σ : L2.St} {d : D} {Q : VK} (h : Aft X.K c W σ m H (.ok d S) fun d _ m' H' => ∀ v, RV X.K c m' H' d v → Q v H') (s : Sim X.K c m H S) {v : V} (r : RV X.K c m H d v) : Q v H := h m H .refl s v r
theorem add_ok {v : Bool} {m : MM} {H : Hp} {S : Store} {x y : D} {u w : V} {σ : L2.St} {Q : VK} (s : Sim X.K c m H S) (rx : RV X.K c m H x u) (ry : RV X.K c m H y w)
    (h : Aft X.K c W σ m H (addA v S x y) (fun d _ m' H' => ∀ v, RV X.K c m' H' d v → Q v H')) : rBin X .Add u w H Q := by
  unfold addA at h
  split at h
  · cases rx; cases ry
    exact .inl ⟨_, _, rfl, rfl, h.okv s (.int _)⟩
  · cases rx; cases ry
    obtain ⟨hz, h⟩ := Aft.if_ h
    exact .inr (.inl ⟨_, _, rfl, rfl, hz, h.okv s (.str _)⟩)
  · cases rx with
    | tup h1 h2 =>
      cases ry with
      | tup h3 h4 =>
        obtain ⟨hz, h⟩ := Aft.if_ h
        refine .inr (.inr (.inl ⟨_, _, _, _, rfl, rfl, h1.sq, h3.sq, by rw [← h2.length, ← h4.length]; exact hz, fun e => ?_, fun e1 e2 => ?_, fun e1 e2 p us hp => ?_⟩))
        · subst e
          cases h2
          exact h.okv s (.tup h3 h4)
        · subst e2
          cases h4
          rw [List.append_nil] at h
          exact h.okv s (.tup h1 h2)
        · exact h m _ (Ext.fresh hp s) (s.fresh hp) _ (RV.newTup s hp (h2.append h4))
  · split at h
    · rename_i a b ha hb
      obtain ⟨p, vs, rfl, h1, h2⟩ := seqL_sq s rx ha
      obtain ⟨q, us, rfl, h3, h4⟩ := seqL_sq s ry hb
      obtain ⟨hz, hq⟩ := mkL_new s (h2.append h4) h
      exact .inr (.inr (.inr ⟨p, q, vs, us, rfl, rfl, h1, h3, by rw [← List.length_append]; exact hz, hq⟩))
    · exact h.elim
theorem rep_nil {α : Type} (k : Nat) : (List.replicate k ([] : List α)).flatten = [] := by
  induction k with
  | zero => rfl
  | succ k ih => rw [List.replicate_succ, List.flatten_cons, ih]; rfl
theorem rep_one {α : Type} (l : List α) : (List.replicate 1 l).flatten = l := by simp
theorem mul_ok {v : Bool} {m : MM} {H : Hp} {S : Store} {x y : D} {u w : V} {σ : L2.St} {Q : VK} (s : Sim X.K c m H S) (rx : RV X.K c m H x u) (ry : RV X.K c m H y w)
    (h : Aft X.K c W σ m H (mulA v S x y) (fun d _ m' H' => ∀ v, RV X.K c m' H' d v → Q v H')) : rBin X .Mult u w H Q := by
  unfold mulA at h
  split at h
  · cases rx; cases ry
    obtain ⟨hz, h⟩ := Aft.if_ h
    exact .inl ⟨_, _, rfl, rfl, hz, h.okv s (.int _)⟩
  · cases rx; cases ry
    obtain ⟨⟨z1, z2, z3⟩, h⟩ := Aft.if_ h
    exact .inr (.inr (.inr (.inr ⟨_, _, rfl, rfl, z1, z2, z3, h.okv s (.str _)⟩)))
  · rename_i a k
    cases ry
    obtain ⟨⟨z1, z2, z3⟩, h⟩ := Aft.if_ h
    cases rx with
    | tup h1 h2 =>
      rename_i p vs
      by_cases hv : vs = [] ∨ k = 1
      · refine .inr (.inr (.inl ⟨p, k, vs, rfl, rfl, h1.sq, hv, by omega, by omega, h.okv s ?_⟩))
        have e : rep k a = a := by
          unfold rep
          rcases hv with hv | hv
          · subst hv
            cases h2
            exact rep_nil _
          · subst hv
            exact rep_one a
        rw [e]
        exact .tup h1 h2
      · refine .inr (.inl ⟨p, k, vs, rfl, rfl, h1.sq, fun e => hv (.inl e), ?_, z2, by rw [← h2.length]; exact z3, fun q us hq => h m _ (Ext.fresh hq s) (s.fresh hq) _ (RV.newTup s hq (h2.rep _))⟩)
        have : k ≠ 1 := fun e => hv (.inr e)
        omega
  · cases ry
    split at h
    · rename_i l hl
      obtain ⟨⟨z1, z2, z3⟩, h⟩ := Aft.if_ h
      obtain ⟨p, vs, rfl, h1, h2⟩ := seqL_sq s rx hl
      obtain ⟨hz, hq⟩ := mkL_new s (h2.rep _) h
      exact .inr (.inr (.inr (.inl ⟨p, _, vs, rfl, rfl, h1, z1, z2, by rw [← h2.length]; exact z3, hq⟩)))
    · exact h.elim
  · exact h.elim
theorem ari_ok {op : Operator} {m : MM} {H : Hp} {S : Store} {i j : Int} {σ : L2.St} {Q : VK} (s : Sim X.K c m H S)
    (h : Aft X.K c W σ m H (R.ofO ((ariA op i j).map D.int) S) (fun d _ m' H' => ∀ v, RV X.K c m' H' d v → Q v H')) (h1 : op ≠ .Add) (h2 : op ≠ .Mult) : rBin X op (.int i) (.int j) H Q := by
  cases op <;> simp only [ariA, Option.map_some, Option.map_none, R.ofO, ne_eq, not_true_eq_false, reduceCtorEq, not_false_eq_true] at h h1 h2
  case Sub => exact ⟨_, _, rfl, rfl, h.okv s (.int _)⟩
  case BitAnd => exact ⟨_, _, rfl, rfl, h.okv s (.int _)⟩
  case BitOr => exact ⟨_, _, rfl, rfl, h.okv s (.int _)⟩
  case BitXor => exact ⟨_, _, rfl, rfl, h.okv s (.int _)⟩
  all_goals first
    | exact h.elim
    | (split at h
       · rename_i hz
         split at hz
         · rename_i hc
           cases hz
           exact ⟨_, _, rfl, rfl, hc, h.okv s (.int _)⟩
         · cases hz
       · exact h.elim)
theorem bin_ok {v : Bool} {op : Operator} (m : MM) (H : Hp) (S : Store) (x y : D) (u w : V) (σ : L2.St) (Q : VK) (s : Sim X.K c m H S) (rx : RV X.K c m H x u) (ry : RV X.K c m H y w)
    (h : Aft X.K c W σ m H (binA v op x y S) (fun d _ m' H' => ∀ v, RV X.K c m' H' d v → Q v H')) : rBin X op u w H Q := by
  unfold binA at h
  split at h
  · exact add_ok s rx ry h
  · exact mul_ok s rx ry h
  · rename_i h1 h2
    split at h
    · cases rx; cases ry
      exact ari_ok s h h1 h2
    · exact h.elim
theorem pe_binE {v : Bool} {op : Operator} {a b : Expr} {fa fb : Env → Store → R D} {pos : Pos} (ha : PE X a (tE X.K c W fa)) (hb : PE X b (tE X.K c W fb)) :
    PE X (.BinOp a op b pos) (tE X.K c W fun e S => (fa e S).bind fun x S1 => (fb e S1).bind fun y S2 => binA v op x y S2) :=
  PE.imp (L2.pe_op (or_bin X op) ha hb) (tE_op (g := binA v op) bin_ok)
end
end Mn

/-! Mn4: comparisons, truth, displays, names. -/
namespace Mn
open PySem PySem.Spec PyProof.Rows
open L2 (V Hp HO Cx SqL SqT Rd St VK WX XK TE TA TS TT TG PE PA PS PSs PT PG Ends upd upd_same upd_ne OpR R2 Inv Dp DpAll UnR)

section
variable {X : Cx}
/-- x in a tuple of data of any depth -/
def rInT (K : Frag) (neg : Bool) : R2 := fun x y H Q => ∃ d ds, Dp K H x d ∧ Dp K H y (.tuple ds) ∧ SeqAt.shaped d = true ∧ SeqAt.shaped (.list ds) = true ∧ Q (.bl (if neg then !(ds.any fun z => PyData.eqv z d) else ds.any fun z => PyData.eqv z d)) H
theorem op_inT (hu : X.A.units + 65 < cLine) : OpR X (compareOp .In) (rInT X.K false) := by
  intro pins s σ H x y v u Q I rx ry h
  obtain ⟨d, ds, hd, he, sd, se, q⟩ := h
  obtain ⟨as, r1⟩ := Dp.reads I d x v hd rx
  obtain ⟨bs, r2⟩ := Dp.reads I (.tuple ds) y u he ry
  exact SeqAt.in_tuple_reads r2 r1 (SeqAt.canLay_of_shaped se) (SeqAt.canLay_of_shaped sd) (room_in_shaped sd hu) ⟨.bl _, H, I, rfl, q⟩
theorem op_notInT (hu : X.A.units + 65 < cLine) : OpR X (compareOp .NotIn) (rInT X.K true) := by
  intro pins s σ H x y v u Q I rx ry h
  obtain ⟨d, ds, hd, he, sd, se, q⟩ := h
  obtain ⟨as, r1⟩ := Dp.reads I d x v hd rx
  obtain ⟨bs, r2⟩ := Dp.reads I (.tuple ds) y u he ry
  exact SeqAt.notIn_tuple_reads r2 r1 (SeqAt.canLay_of_shaped se) (SeqAt.canLay_of_shaped sd) (room_in_shaped sd hu) ⟨.bl _, H, I, rfl, q⟩
end

section
variable {K : Frag} {c : Cfg} {m : MM} {H : Hp} {S : Store}
mutual
theorem pyG_dp : ∀ {d : D} {v : V} {p : PyData}, RV K c m H d v → pyG d = some p → Dp K H v p
  | _, _, _, .non, h => by simp only [pyG, Option.some.injEq] at h; subst h; exact .non
  | _, _, _, .bl b, h => by simp only [pyG, Option.some.injEq] at h; subst h; exact .bl b
  | _, _, _, .int b, h => by simp only [pyG, Option.some.injEq] at h; subst h; exact .int b
  | _, _, _, .str b, h => by simp only [pyG, Option.some.injEq] at h; subst h; exact .str b
  | .tup ds, _, _, .tup h1 h2, h => by
    simp only [pyG] at h
    cases e : pyGs ds with
    | none => rw [e] at h; cases h
    | some ps =>
      rw [e] at h
      cases h
      exact .tup h1.sq (pyGs_dp h2 e)
  | .lst ds, _, _, .lst h1 h2, h => by
    simp only [pyG] at h
    cases e : pyGs ds with
    | none => rw [e] at h; cases h
    | some ps =>
      rw [e] at h
      cases h
      exact .lst h1.sq (pyGs_dp h2 e)
  | _, _, _, .ref _, h => by simp [pyG] at h
  | _, _, _, .fn _, h => by simp [pyG] at h
  | _, _, _, .cls _, h => by simp [pyG] at h
  | _, _, _, .ty _, h => by simp [pyG] at h
  | _, _, _, .wtp _ _, h => by simp [pyG] at h
  | _, _, _, .exn _ _, h => by simp [pyG] at h
theorem pyGs_dp : ∀ {ds : List D} {vs : List V} {ps : List PyData}, RVs K c m H ds vs → pyGs ds = some ps → DpAll K H vs ps
  | _, _, _, .nil, h => by simp only [pyGs, Option.some.injEq] at h; subst h; exact .nil
  | d :: ds, _, _, .cons h1 h2, h => by
    simp only [pyGs] at h
    cases e : pyG d with
    | none => rw [e] at h; cases h
    | some p =>
      cases e2 : pyGs ds with
      | none => rw [e, e2] at h; cases h
      | some ps =>
        rw [e, e2] at h
        cases h
        exact .cons (pyG_dp h1 e) (pyGs_dp h2 e2)
end
theorem py_dp {d : D} {v : V} {p : PyData} (s : Sim K c m H S) (r : RV K c m H d v) (h : py S d = some p) : Dp K H v p := by
  unfold py at h
  split at h
  · split at h
    · rename_i n l e
      obtain ⟨a, vs, h1, h2, h3⟩ := s.at e
      cases r with
      | ref h4 =>
        rw [h1] at h4; cases h4
        cases e2 : pyGs l with
        | none => rw [e2] at h; cases h
        | some ps =>
          rw [e2] at h
          cases h
          exact .lst (SqL.of h2) (pyGs_dp h3 e2)
    · cases h
  · exact pyG_dp r h
theorem truthA_tru {d : D} {v : V} {b : Bool} (s : Sim K c m H S) (r : RV K c m H d v) (h : truthA S d = some b) : L2.TruV K v H b := by
  cases r with
  | non => simp only [truthA, Option.some.injEq] at h; exact h.symm
  | bl b => simp only [truthA, Option.some.injEq] at h; exact h.symm
  | int b => simp only [truthA, Option.some.injEq] at h; exact h.symm
  | str x =>
    simp only [truthA] at h
    split at h
    · rename_i hz
      cases h
      exact ⟨hz, rfl⟩
    · cases h
  | tup h1 h2 =>
    simp only [truthA, Option.some.injEq] at h
    exact .inr (.inl ⟨_, h1.sq, by rw [← h, h2.emp]⟩)
  | lst h1 h2 =>
    simp only [truthA, Option.some.injEq] at h
    exact .inl ⟨_, h1.sq, by rw [← h, h2.emp]⟩
  | @ref n a h1 =>
    simp only [truthA] at h
    split at h
    · rename_i l e
      obtain ⟨a', vs, h2, h3, h4⟩ := s.at e
      rw [h1] at h2; cases h2
      simp only [Option.some.injEq] at h
      exact .inl ⟨_, SqL.of h3, by rw [← h, h4.emp]⟩
    · cases h
  | _ => simp [truthA] at h
end

/-! ### comparisons -/
def rCmp (X : Cx) (op : CmpOp) : R2 := match op with
  | .Eq => L2.rEqD X.K
  | .NotEq => L2.rNeD X.K
  | .In => fun x y H Q => (∃ i j, x = .str i ∧ y = .str j ∧ Q (.bl (!(Builtin.Str.occurrences j i 0 j.length 1).isEmpty)) H) ∨ L2.rInD X.K x y H Q ∨ rInT X.K false x y H Q
  | .NotIn => fun x y H Q => (∃ i j, x = .str i ∧ y = .str j ∧ Q (.bl (!(!(Builtin.Str.occurrences j i 0 j.length 1).isEmpty))) H) ∨ L2.rNotInD X.K x y H Q ∨ rInT X.K true x y H Q
  | .Is => fun x y H Q => (∃ a b, x = .bl a ∧ y = .bl b ∧ Q (.bl (decide (a = b))) H) ∨ (y = .non ∧ Q (.bl (decide (x = .non))) H)
  | .IsNot => fun x y H Q => (∃ a b, x = .bl a ∧ y = .bl b ∧ Q (.bl (!decide (a = b))) H) ∨ (y = .non ∧ Q (.bl (!decide (x = .non))) H)
  | .Lt => fun x y H Q => L2.rI0 (fun i j => .bl (decide (i < j))) x y H Q ∨ ∃ i j, x = .str i ∧ y = .str j ∧ Q (.bl (decide (i.cps.toList < j.cps.toList))) H
  | .LtE => fun x y H Q => L2.rI0 (fun i j => .bl (decide (i ≤ j))) x y H Q ∨ ∃ i j, x = .str i ∧ y = .str j ∧ Q (.bl (!decide (j.cps.toList < i.cps.toList))) H
  | .Gt => L2.rI0 fun i j => .bl (decide (j < i))
  | .GtE => L2.rI0 fun i j => .bl (decide (j ≤ i))
theorem or_cmp (X : Cx) (hu : X.A.units + 65 < cLine) (op : CmpOp) : OpR X (compareOp op) (rCmp X op) := by
  cases op
  case Eq => exact L2.op_eqD (Nat.lt_of_le_of_lt (by omega) hu)
  case NotEq => exact L2.op_neD (Nat.lt_of_le_of_lt (by omega) hu)
  case In => exact L2.op_in_str.or ((L2.op_inD hu).or (op_inT hu))
  case NotIn => exact L2.op_notin_str.or ((L2.op_notInD hu).or (op_notInT hu))
  case Is => exact L2.op_is_bl.or L2.op_isN
  case IsNot => exact L2.op_isnot_bl.or L2.op_notN
  case Lt => exact L2.op_lt.or L2.op_lt_str
  case LtE => exact L2.op_le.or L2.op_le_str
  case Gt => exact L2.op_gt
  case GtE => exact L2.op_ge
section
variable {X : Cx} {c : Cfg} {W : WX}
theorem eqA_ok {m : MM} {H : Hp} {S : Store} {x y : D} {u w : V} {b : Bool} (s : Sim X.K c m H S) (rx : RV X.K c m H x u) (ry : RV X.K c m H y w) (h : eqA S x y = some b) :
    ∃ d e, Dp X.K H u d ∧ Dp X.K H w e ∧ SeqAt.shaped d = true ∧ SeqAt.shaped e = true ∧ b = PyData.eqv d e := by
  unfold eqA at h
  cases h1 : py S x with
  | none => rw [h1] at h; cases h
  | some p =>
    cases h2 : py S y with
    | none => rw [h1, h2] at h; cases h
    | some q =>
      rw [h1, h2] at h
      simp only [Option.bind_some] at h
      split at h
      · rename_i hz
        cases h
        exact ⟨p, q, py_dp s rx h1, py_dp s ry h2, hz.1, hz.2, rfl⟩
      · cases h
theorem inA_ok {m : MM} {H : Hp} {S : Store} {x y : D} {u w : V} {b : Bool} (s : Sim X.K c m H S) (rx : RV X.K c m H x u) (ry : RV X.K c m H y w) (h : inA S x y = some b) :
    (∃ i j, u = .str i ∧ w = .str j ∧ b = (!(Builtin.Str.occurrences j i 0 j.length 1).isEmpty)) ∨
    (∃ d ds, Dp X.K H u d ∧ Dp X.K H w (.list ds) ∧ SeqAt.shaped d = true ∧ SeqAt.shaped (.list ds) = true ∧ b = ds.any fun z => PyData.eqv z d) ∨
    (∃ d ds, Dp X.K H u d ∧ Dp X.K H w (.tuple ds) ∧ SeqAt.shaped d = true ∧ SeqAt.shaped (.list ds) = true ∧ b = ds.any fun z => PyData.eqv z d) := by
  unfold inA at h
  split at h
  · split at h
    · cases rx; cases ry
      cases h
      exact .inl ⟨_, _, rfl, rfl, rfl⟩
    · cases h
  · cases h1 : py S x with
    | none => rw [h1] at h; cases h
    | some p =>
      rw [h1] at h
      simp only [Option.bind_some] at h
      split at h
      · rename_i l _
        cases h2 : pyGs l with
        | none => rw [h2] at h; cases h
        | some ps =>
          rw [h2] at h
          simp only [Option.bind_some] at h
          split at h
          · rename_i hz
            cases h
            refine .inr (.inr ⟨p, ps, py_dp s rx h1, pyG_dp ry (by simp only [pyG, h2, Option.map_some]), hz.1, hz.2, rfl⟩)
          · cases h
      · cases h2 : py S y with
        | none => rw [h2] at h; cases h
        | some q =>
          rw [h2] at h
          simp only [Option.bind_some] at h
          split at h
          · split at h
            · rename_i hz
              cases h
              exact .inr (.inl ⟨p, _, py_dp s rx h1, py_dp s ry h2, hz.1, hz.2, rfl⟩)
            · cases h
          · cases h
theorem isN_ok {m : MM} {H : Hp} {x : D} {u : V} (rx : RV X.K c m H x u) : decide (u = V.non) = (match x with | .non => true | _ => false) := by
  cases rx <;> simp
theorem cmpA_ok {op : CmpOp} {m : MM} {H : Hp} {S : Store} {x y : D} {u w : V} {b : Bool} {Q : VK} (s : Sim X.K c m H S) (rx : RV X.K c m H x u) (ry : RV X.K c m H y w) (h : cmpA op x y S = some b)
    (q : Q (.bl b) H) : rCmp X op u w H Q := by
  have eqq : ∀ {b : Bool}, eqA S x y = some b → ∃ d e, Dp X.K H u d ∧ Dp X.K H w e ∧ SeqAt.shaped d = true ∧ SeqAt.shaped e = true ∧ b = PyData.eqv d e := fun h => eqA_ok s rx ry h
  cases op
  case Eq =>
    obtain ⟨d, e, h1, h2, h3, h4, rfl⟩ := eqq h
    exact ⟨d, e, h1, h2, h3, h4, q⟩
  case NotEq =>
    simp only [cmpA] at h
    cases e : eqA S x y with
    | none => rw [e] at h; cases h
    | some b' =>
      rw [e] at h
      cases h
      obtain ⟨d, e2, h1, h2, h3, h4, rfl⟩ := eqq e
      exact ⟨d, e2, h1, h2, h3, h4, q⟩
  case In =>
    rcases inA_ok s rx ry h with ⟨i, j, h1, h2, rfl⟩ | ⟨d, ds, h1, h2, h3, h4, rfl⟩ | ⟨d, ds, h1, h2, h3, h4, rfl⟩
    · exact .inl ⟨i, j, h1, h2, q⟩
    · exact .inr (.inl ⟨d, ds, h1, h2, h3, h4, q⟩)
    · exact .inr (.inr ⟨d, ds, h1, h2, h3, h4, q⟩)
  case NotIn =>
    simp only [cmpA] at h
    cases e : inA S x y with
    | none => rw [e] at h; cases h
    | some b' =>
      rw [e] at h
      cases h
      rcases inA_ok s rx ry e with ⟨i, j, h1, h2, rfl⟩ | ⟨d, ds, h1, h2, h3, h4, rfl⟩ | ⟨d, ds, h1, h2, h3, h4, rfl⟩
      · exact .inl ⟨i, j, h1, h2, q⟩
      · exact .inr (.inl ⟨d, ds, h1, h2, h3, h4, q⟩)
      · exact .inr (.inr ⟨d, ds, h1, h2, h3, h4, q⟩)
  case Is =>
    simp only [cmpA] at h
    split at h
    · cases rx; cases ry; cases h
      exact .inl ⟨_, _, rfl, rfl, q⟩
    · cases ry; cases h
      refine .inr ⟨rfl, ?_⟩
      rw [isN_ok rx]
      cases x <;> exact q
    · cases h
  case IsNot =>
    simp only [cmpA] at h
    split at h
    · cases rx; cases ry; cases h
      exact .inl ⟨_, _, rfl, rfl, q⟩
    · cases ry; cases h
      refine .inr ⟨rfl, ?_⟩
      rw [isN_ok rx]
      cases x <;> exact q
    · cases h
  all_goals
    simp only [cmpA] at h
    split at h
    · cases rx; cases ry
      simp only [ordA, Option.some.injEq] at h
      subst h
      first
        | exact .inl ⟨_, _, rfl, rfl, q⟩
        | exact ⟨_, _, rfl, rfl, q⟩
    · cases rx; cases ry
      first
        | (simp only [ordS, Option.some.injEq] at h
           subst h
           exact .inr ⟨_, _, rfl, rfl, q⟩)
        | (simp [ordS] at h; done)
    · cases h
/-- a comparison's step -/
theorem Aft.cmp {op : CmpOp} {m : MM} {H : Hp} {S : Store} {σ : L2.St} {x y : D} {u w : V} {k : D → Store → MM → Hp → Prop} (s : Sim X.K c m H S) (rx : RV X.K c m H x u) (ry : RV X.K c m H y w)
    (h : Aft X.K c W σ m H ((R.ofO (cmpA op x y S) S).bind fun t S3 => .ok (.bl t) S3) k) : ∃ b, cmpA op x y S = some b ∧ k (.bl b) S m H := by
  obtain ⟨b, hb, h⟩ := h.bind.ofO s
  exact ⟨b, hb, h.now s⟩
theorem cmp_ok {op : CmpOp} (m : MM) (H : Hp) (S : Store) (x y : D) (u w : V) (σ : L2.St) (Q : VK) (s : Sim X.K c m H S) (rx : RV X.K c m H x u) (ry : RV X.K c m H y w)
    (h : Aft X.K c W σ m H ((R.ofO (cmpA op x y S) S).bind fun t S3 => .ok (.bl t) S3) (fun d _ m' H' => ∀ v, RV X.K c m' H' d v → Q v H')) : rCmp X op u w H Q := by
  obtain ⟨b, hb, h⟩ := Aft.cmp s rx ry h
  exact cmpA_ok s rx ry hb (h _ (.bl b))
theorem pe_cmpE {op : CmpOp} {a b : Expr} {fa fb : Env → Store → R D} {pos : Pos} (hu : X.A.units + 65 < cLine) (ha : PE X a (tE X.K c W fa)) (hb : PE X b (tE X.K c W fb)) (hm : behindInMarks op b = false) :
    PE X (.Compare a [op] [b] pos) (tE X.K c W fun e S => (fa e S).bind fun x S1 => (fb e S1).bind fun y S2 => (R.ofO (cmpA op x y S2) S2).bind fun t S3 => .ok (.bl t) S3) :=
  PE.imp (L2.pe_cmpR (or_cmp X hu op) ha hb hm) (tE_op (g := fun x y S2 => (R.ofO (cmpA op x y S2) S2).bind fun t S3 => .ok (.bl t) S3) cmp_ok)
theorem pt_cmpE {op : CmpOp} {a b : Expr} {fa fb : Env → Store → R D} {pos : Pos} (hu : X.A.units + 65 < cLine) (ha : PE X a (tE X.K c W fa)) (hb : PE X b (tE X.K c W fb)) (hm : behindInMarks op b = false) :
    PT X (.Compare a [op] [b] pos) (tT X.K c W fun e S => (fa e S).bind fun x S1 => (fb e S1).bind fun y S2 => (R.ofO (cmpA op x y S2) S2).bind fun t S3 => .ok (.bl t) S3) := by
  refine PT.imp (L2.pt_cmpR (or_cmp X hu op) ha hb hm) fun σ H Q h => ?_
  obtain ⟨e, m, S, re, s, h⟩ := h
  refine op_of re s (h.bind.imp fun x S1 m1 H1 e1 s1 h1 => h1.bind) fun m2 H2 S2 x y u v e2 s2 rx ry p => ?_
  obtain ⟨b, hb, b', hb', p⟩ := Aft.cmp s2 rx ry p
  cases hb'
  exact cmpA_ok s2 rx ry hb ⟨b, rfl, p⟩
/-- a op1 b op2 c -/
theorem chain_of {o1 o2 : CmpOp} {fa fb fc : Env → Store → R D} {e : Env} {m : MM} {H : Hp} {S : Store} {σ : L2.St} {Q : VK} {k : D → Store → MM → Hp → Prop} (re : EnvR X.K c m H e σ) (s : Sim X.K c m H S)
    (h : Aft X.K c W σ m H ((fa e S).bind fun x S1 => (fb e S1).bind fun y S2 => (R.ofO (cmpA o1 x y S2) S2).bind fun t S3 =>
      if t = true then (fc e S3).bind fun z S4 => (R.ofO (cmpA o2 y z S4) S4).bind fun u S5 => .ok (.bl u) S5 else .ok (.bl false) S3) k)
    (hk : ∀ (b : Bool) (m' : MM) (H' : Hp) (S' : Store), k (.bl b) S' m' H' → Q (.bl b) H') :
    L2.tChain (rCmp X o1) (rCmp X o2) (tE X.K c W fa) (tE X.K c W fb) (tE X.K c W fc) σ H Q := by
  refine ⟨e, m, S, re, s, h.bind.imp fun x S1 m1 H1 e1 s1 h1 u ru => ⟨e, m1, S1, re.mono s e1, s1, h1.bind.imp fun y S2 m2 H2 e2 s2 h2 v rv => ?_⟩⟩
  obtain ⟨b, hb, h2⟩ := h2.bind.ofO s2
  refine cmpA_ok s2 (ru.mono s1 e2) rv hb ⟨b, rfl, ?_⟩
  cases b with
  | false =>
    simp only [Bool.false_eq_true, if_false] at h2 ⊢
    exact hk _ _ _ _ (h2.now s2)
  | true =>
    simp only [if_true] at h2 ⊢
    refine ⟨e, m2, S2, (re.mono s e1).mono s1 e2, s2, h2.bind.imp fun z S4 m4 H4 e4 s4 h4 w rw_ => ?_⟩
    obtain ⟨b, hb, h4⟩ := Aft.cmp s4 (rv.mono s2 e4) rw_ h4
    exact cmpA_ok s4 (rv.mono s2 e4) rw_ hb (hk _ _ _ _ h4)
theorem pe_chainE {o1 o2 : CmpOp} {a b d : Expr} {fa fb fc : Env → Store → R D} {pos : Pos} (hu : X.A.units + 65 < cLine) (ha : PE X a (tE X.K c W fa)) (hb : PE X b (tE X.K c W fb)) (hc : PE X d (tE X.K c W fc)) (hm : behindInMarks o2 d = false) :
    PE X (.Compare a [o1, o2] [b, d] pos) (tE X.K c W fun e S => (fa e S).bind fun x S1 => (fb e S1).bind fun y S2 => (R.ofO (cmpA o1 x y S2) S2).bind fun t S3 =>
      if t = true then (fc e S3).bind fun z S4 => (R.ofO (cmpA o2 y z S4) S4).bind fun u S5 => .ok (.bl u) S5 else .ok (.bl false) S3) := by
  refine PE.imp (L2.pe_chain (or_cmp X hu o1) (or_cmp X hu o2) ha hb hc (by simp only [lastMarks]; exact hm)) fun σ H Q h => ?_
  obtain ⟨e, m, S, re, s, h⟩ := h
  exact chain_of re s h fun b m' H' S' q => q _ (.bl b)
theorem pt_chainE {o1 o2 : CmpOp} {a b d : Expr} {fa fb fc : Env → Store → R D} {pos : Pos} (hu : X.A.units + 65 < cLine) (ha : PE X a (tE X.K c W fa)) (hb : PE X b (tE X.K c W fb)) (hc : PE X d (tE X.K c W fc)) (hm : behindInMarks o2 d = false) :
    PT X (.Compare a [o1, o2] [b, d] pos) (tT X.K c W fun e S => (fa e S).bind fun x S1 => (fb e S1).bind fun y S2 => (R.ofO (cmpA o1 x y S2) S2).bind fun t S3 =>
      if t = true then (fc e S3).bind fun z S4 => (R.ofO (cmpA o2 y z S4) S4).bind fun u S5 => .ok (.bl u) S5 else .ok (.bl false) S3) := by
  refine PT.imp (L2.pt_chain (or_cmp X hu o1) (or_cmp X hu o2) ha hb hc (by simp only [lastMarks]; exact hm)) fun σ H Q h => ?_
  obtain ⟨e, m, S, re, s, h⟩ := h
  refine chain_of re s h fun b m' H' S' q => ?_
  obtain ⟨b', hb', q⟩ := q
  cases hb'
  exact ⟨b, rfl, q⟩

/-! ### not, and, or, if else -/
theorem pe_negE {a : Expr} {fa : Env → Store → R D} {pos : Pos} (ha : PE X a (tE X.K c W fa)) : PE X (.UnaryOp .USub a pos) (tE X.K c W fun e S => (fa e S).bind fun x S1 => R.ofO (negA x) S1) := by
  refine PE.imp (L2.pe_un L2.un_neg ha) fun σ H Q h => ?_
  obtain ⟨e, m, S, re, s, h⟩ := h
  refine ⟨e, m, S, re, s, h.bind.imp fun x S1 m1 H1 e1 s1 h1 v rv => ?_⟩
  obtain ⟨d, hd, h1⟩ := h1.ofO s1
  cases rv <;> simp only [negA, reduceCtorEq, Option.some.injEq] at hd
  subst hd
  exact ⟨_, rfl, h1 _ (.int _)⟩
theorem pe_invE {a : Expr} {fa : Env → Store → R D} {pos : Pos} (ha : PE X a (tE X.K c W fa)) : PE X (.UnaryOp .Invert a pos) (tE X.K c W fun e S => (fa e S).bind fun x S1 => R.ofO (invA x) S1) := by
  refine PE.imp (L2.pe_un L2.un_inv ha) fun σ H Q h => ?_
  obtain ⟨e, m, S, re, s, h⟩ := h
  refine ⟨e, m, S, re, s, h.bind.imp fun x S1 m1 H1 e1 s1 h1 v rv => ?_⟩
  obtain ⟨d, hd, h1⟩ := h1.ofO s1
  cases rv <;> simp only [invA, reduceCtorEq, Option.some.injEq] at hd
  subst hd
  exact ⟨_, rfl, h1 _ (.int _)⟩
theorem pe_notE {a : Expr} {fa : Env → Store → R D} {pos : Pos} (ha : PE X a (tE X.K c W fa)) : PE X (.UnaryOp .Not a pos) (tE X.K c W fun e S => (tru (fa e S)).bind fun t S1 => .ok (.bl (!t)) S1) := by
  refine PE.imp (L2.pe_notT ha) fun σ H Q h => ?_
  obtain ⟨e, m, S, re, s, h⟩ := h
  refine ⟨e, m, S, re, s, (Aft.bind h).bind.imp fun x S1 m1 H1 e1 s1 h1 v rv => ?_⟩
  obtain ⟨b, hb, h1⟩ := h1.ofO s1
  exact ⟨b, truthA_tru s1 rv hb, h1.now s1 _ (.bl _)⟩
theorem pt_notE {a : Expr} {fa : Env → Store → R D} {pos : Pos} (ha : PT X a (tT X.K c W fa)) : PT X (.UnaryOp .Not a pos) (tT X.K c W fun e S => (tru (fa e S)).bind fun t S1 => .ok (.bl (!t)) S1) := by
  refine PT.imp (L2.pt_not ha) fun σ H Q h => ?_
  obtain ⟨e, m, S, re, s, h⟩ := h
  refine ⟨e, m, S, re, s, (Aft.bind h).bind.imp fun x S1 m1 H1 e1 s1 h1 => ?_⟩
  obtain ⟨b, hb, h1⟩ := h1.ofO s1
  obtain ⟨b', hb', h1⟩ := h1.now s1
  cases hb'
  exact ⟨b, hb, h1⟩
theorem pe_andE {a b : Expr} {rest : List Expr} {fa fb : Env → Store → R D} {pos : Pos} (ha : PE X a (tE X.K c W fa)) (hb : PE X (.BoolOp .And (b :: rest) pos) (tE X.K c W fb)) :
    PE X (.BoolOp .And (a :: b :: rest) pos) (tE X.K c W fun e S => (fa e S).bind fun x S1 => (R.ofO (truthA S1 x) S1).bind fun t S2 => if t = true then fb e S2 else .ok x S2) := by
  refine PE.imp (L2.pe_andT ha hb) fun σ H Q h => ?_
  obtain ⟨e, m, S, re, s, h⟩ := h
  refine ⟨e, m, S, re, s, h.bind.imp fun x S1 m1 H1 e1 s1 h1 v rv => ?_⟩
  obtain ⟨b, hb, h1⟩ := h1.bind.ofO s1
  refine ⟨b, truthA_tru s1 rv hb, ?_⟩
  cases b with
  | false =>
    simp only [Bool.false_eq_true, if_false] at h1 ⊢
    exact h1.now s1 _ rv
  | true =>
    simp only [if_true] at h1 ⊢
    exact ⟨e, m1, S1, re.mono s e1, s1, h1⟩
theorem pe_orE {a b : Expr} {rest : List Expr} {fa fb : Env → Store → R D} {pos : Pos} (ha : PE X a (tE X.K c W fa)) (hb : PE X (.BoolOp .Or (b :: rest) pos) (tE X.K c W fb)) :
    PE X (.BoolOp .Or (a :: b :: rest) pos) (tE X.K c W fun e S => (fa e S).bind fun x S1 => (R.ofO (truthA S1 x) S1).bind fun t S2 => if t = true then .ok x S2 else fb e S2) := by
  refine PE.imp (L2.pe_orT ha hb) fun σ H Q h => ?_
  obtain ⟨e, m, S, re, s, h⟩ := h
  refine ⟨e, m, S, re, s, h.bind.imp fun x S1 m1 H1 e1 s1 h1 v rv => ?_⟩
  obtain ⟨b, hb, h1⟩ := h1.bind.ofO s1
  refine ⟨b, truthA_tru s1 rv hb, ?_⟩
  cases b with
  | true =>
    simp only [if_true] at h1 ⊢
    exact h1.now s1 _ rv
  | false =>
    simp only [Bool.false_eq_true, if_false] at h1 ⊢
    exact ⟨e, m1, S1, re.mono s e1, s1, h1⟩
theorem pw_andE {a b : Expr} {rest : List Expr} {fa fb : Env → Store → R D} {pos : Pos} (ha : PT X a (tT X.K c W fa)) (hb : L2.PW X (.BoolOp .And (b :: rest) pos) (tT X.K c W fb)) :
    L2.PW X (.BoolOp .And (a :: b :: rest) pos) (tT X.K c W fun e S => (fa e S).bind fun x S1 => (R.ofO (truthA S1 x) S1).bind fun t S2 => if t = true then fb e S2 else .ok x S2) := by
  have h0 := L2.pw_and ha hb
  refine ⟨fun whole pins s σ H Q I h => h0.run whole pins s σ H Q I ?_⟩
  obtain ⟨e, m, S, re, s, h⟩ := h
  refine ⟨e, m, S, re, s, h.bind.imp fun x S1 m1 H1 e1 s1 h1 => ?_⟩
  obtain ⟨b, hb, h1⟩ := h1.bind.ofO s1
  refine ⟨b, hb, ?_⟩
  cases b with
  | false =>
    simp only [Bool.false_eq_true, if_false] at h1 ⊢
    obtain ⟨b', hb', h1⟩ := h1.now s1
    rw [hb] at hb'
    cases hb'
    exact h1
  | true =>
    simp only [if_true] at h1 ⊢
    exact ⟨e, m1, S1, re.mono s e1, s1, h1⟩
theorem pw_orE {a b : Expr} {rest : List Expr} {fa fb : Env → Store → R D} {pos : Pos} (ha : PT X a (tT X.K c W fa)) (hb : L2.PW X (.BoolOp .Or (b :: rest) pos) (tT X.K c W fb)) :
    L2.PW X (.BoolOp .Or (a :: b :: rest) pos) (tT X.K c W fun e S => (fa e S).bind fun x S1 => (R.ofO (truthA S1 x) S1).bind fun t S2 => if t = true then .ok x S2 else fb e S2) := by
  have h0 := L2.pw_or ha hb
  refine ⟨fun whole pins s σ H Q I h => h0.run whole pins s σ H Q I ?_⟩
  obtain ⟨e, m, S, re, s, h⟩ := h
  refine ⟨e, m, S, re, s, h.bind.imp fun x S1 m1 H1 e1 s1 h1 => ?_⟩
  obtain ⟨b, hb, h1⟩ := h1.bind.ofO s1
  refine ⟨b, hb, ?_⟩
  cases b with
  | true =>
    simp only [if_true] at h1 ⊢
    obtain ⟨b', hb', h1⟩ := h1.now s1
    rw [hb] at hb'
    cases hb'
    exact h1
  | false =>
    simp only [Bool.false_eq_true, if_false] at h1 ⊢
    exact ⟨e, m1, S1, re.mono s e1, s1, h1⟩
theorem pe_ifeE {a b d : Expr} {fa fb fc : Env → Store → R D} {pos : Pos} (hc : PT X d (tT X.K c W fc)) (ha : PE X a (tE X.K c W fa)) (hb : PE X b (tE X.K c W fb)) :
    PE X (.IfExp d a b pos) (tE X.K c W fun e S => (tru (fc e S)).bind fun t S1 => if t = true then fa e S1 else fb e S1) := by
  refine PE.imp (L2.pe_ifExp hc ha hb) fun σ H Q h => ?_
  obtain ⟨e, m, S, re, s, h⟩ := h
  refine ⟨e, m, S, re, s, (Aft.bind h).bind.imp fun x S1 m1 H1 e1 s1 h1 => ?_⟩
  obtain ⟨b, hb, h1⟩ := h1.ofO s1
  refine ⟨b, hb, ?_⟩
  cases b with
  | true =>
    simp only [if_true] at h1 ⊢
    exact ⟨e, m1, S1, re.mono s e1, s1, h1⟩
  | false =>
    simp only [Bool.false_eq_true, if_false] at h1 ⊢
    exact ⟨e, m1, S1, re.mono s e1, s1, h1⟩
/-- a value's truth as a test -/
theorem pt_plainE {a : Expr} {fa : Env → Store → R D} (ha : PE X a (tE X.K c W fa)) (he : ∀ whole, isTrue a X.env whole = (do let v ← whole; standAt a.pos; holding [v] (truthy v))) : PT X a (tT X.K c W fa) := by
  refine PT.imp (L2.pt_truth ha he) fun σ H Q h => ?_
  obtain ⟨e, m, S, re, s, h⟩ := h
  refine ⟨e, m, S, re, s, h.imp fun x S1 m1 H1 e1 s1 h1 v rv => ?_⟩
  obtain ⟨b, hb, h1⟩ := h1
  exact ⟨b, truthA_tru s1 rv hb, h1⟩

/-! ### names, constants, displays -/
theorem pe_kE {a : Expr} {d : D} {v : V} (h : PE X a (L2.tC v)) (r : ∀ (m : MM) (H : Hp), RV X.K c m H d v) : PE X a (tE X.K c W fun _ S => .ok d S) := by
  refine PE.imp h fun σ H Q h => ?_
  obtain ⟨e, m, S, re, s, h⟩ := h
  exact h.okv s (r _ _)
theorem pe_varE {a : Expr} {i : Nat} (h : PE X a (L2.tVar i)) : PE X a (tE X.K c W fun e S => match e[i]? with
    | some (some d) => .ok d S
    | _ => .bad) := by
  refine PE.imp h fun σ H Q h => ?_
  obtain ⟨e, m, S, re, s, h⟩ := h
  dsimp only at h
  split at h
  · rename_i d hd
    obtain ⟨v, h1, h2⟩ := re.at_ _ _ hd
    exact ⟨v, h1, h.okv s h2⟩
  · exact h.elim
theorem pa_nilE : PA X [] (tA X.K c W fun _ S => .ok [] S) := by
  refine PA.imp L2.pa_nil fun σ H Q h => ?_
  obtain ⟨e, m, S, re, s, h⟩ := h
  exact h m H .refl s _ .nil
theorem pa_consE {a : Expr} {es : List Expr} {fa : Env → Store → R D} {fs : Env → Store → R (List D)} (ha : PE X a (tE X.K c W fa)) (hs : PA X es (tA X.K c W fs)) (hst : starEach (a :: es) X.env = (false, eval a X.env) :: starEach es X.env) :
    PA X (a :: es) (tA X.K c W fun e S => (fa e S).bind fun x S1 => (fs e S1).bind fun xs S2 => .ok (x :: xs) S2) := by
  refine PA.imp (L2.pa_cons ha hs hst) fun σ H Q h => ?_
  obtain ⟨e, m, S, re, s, h⟩ := h
  refine ⟨e, m, S, re, s, h.bind.imp fun x S1 m1 H1 e1 s1 h1 v rv => ⟨e, m1, S1, re.mono s e1, s1, h1.bind.imp fun xs S2 m2 H2 e2 s2 h2 vs rvs => ?_⟩⟩
  exact h2 m2 H2 .refl s2 _ (.cons (rv.mono s1 e2) rvs)
theorem pe_tupE {es : List Expr} {fs : Env → Store → R (List D)} {k : Nat} {pos : Pos} (h : PA X es (tA X.K c W fs)) : PE X (.Tuple es k pos) (tE X.K c W fun e S => (fs e S).bind fun ds S1 => mkT ds S1) := by
  refine PE.imp (pe_tupS h) fun σ H Q h => ?_
  obtain ⟨e, m, S, re, s, h⟩ := h
  exact ⟨e, m, S, re, s, h.bind.imp fun ds S1 m1 H1 e1 s1 h1 vs rvs => mkT_new s1 rvs h1⟩
theorem pe_lstE {v : Bool} {es : List Expr} {fs : Env → Store → R (List D)} {pos : Pos} (h : PA X es (tA X.K c W fs)) : PE X (.List es pos) (tE X.K c W fun e S => (fs e S).bind fun ds S1 => mkL v ds S1) := by
  refine PE.imp (L2.pe_lst h) fun σ H Q h => ?_
  obtain ⟨e, m, S, re, s, h⟩ := h
  exact ⟨e, m, S, re, s, h.bind.imp fun ds S1 m1 H1 e1 s1 h1 vs rvs => mkL_new s1 rvs h1⟩
end
end Mn

/-! MnL: len(set(..)) of lists and tuples of texts, however many. -/
namespace Mn
open PySem PySem.Spec PyProof.Rows
open L2 (V Hp HO Cx SqL SqT Rd St VK WX XK TE TA TS TT TG PE PA PS PSs PT PG Inv Vals EP thn)
theorem dcn_snoc (l : List Str) (x : Str) : dcn (l ++ [x]) = if decide (x ∈ l) = true then dcn l else dcn l + 1 := by
  unfold dcn
  rw [List.eraseDups_append]
  by_cases h : x ∈ l <;> simp [List.removeAll, h, List.eraseDups_cons]
theorem eraseDups_le : ∀ l : List Str, l.eraseDups.length ≤ l.length := fun l => by
  induction h : l.length using Nat.strongRecOn generalizing l with
  | _ n ih =>
    cases l with
    | nil => simp
    | cons x r =>
      rw [List.eraseDups_cons, List.length_cons]
      have h1 : (r.filter fun b => !b == x).length ≤ r.length := List.length_filter_le _ _
      have h2 := ih (r.filter fun b => !b == x).length (by rw [← h]; simp only [List.length_cons]; omega) _ rfl
      rw [← h, List.length_cons]
      omega
/-- a set that is new -/
def sO (b : Bool) : Obj := { cls := .type "set", dict := none, data := .set #[] 0 (.fresh 0 0 b) }
section
variable {P : Program} {w : World} {A : Around}
theorem setOf_keep {h h' : Heap} {T : Addr} {S : Str → Bool} {c : Nat} (q : h.SetOf (PySem.strKind P w) T S c) (k : ∀ o, h.get? T = some o → h'.get? T = some o) : h'.SetOf (PySem.strKind P w) T S c := by
  obtain ⟨o, es, ep, t, ho, r⟩ := q
  exact ⟨o, es, ep, t, k o ho, r⟩
theorem fill_texts {R : Result → Shared → Prop} {I T : Addr} {fp wr : List Addr} {G : Array GenState → Array GenState → Prop} {n : Nat} {Pv : Nat → Value → Prop} {St : Nat → Shared → Prop} (W : WalksS P w A.in1 I fp wr G n Pv St) (hT : T ∉ fp) (ys : List Str) (hl : ys.length = n) (hr : n + 1 < scanBound)
    (hv : ∀ i v, Pv i v → ∃ x t, ys[i]? = some x ∧ v = .str x t) : ∀ (m i : Nat) (s : Shared), i + m = n → St i s → s.heap.SetOf (PySem.strKind P w) T (fun z => decide (z ∈ ys.take i)) (dcn (ys.take i)) →
      (∀ u, Moved (T :: wr) G s u → u.heap.SetOf (PySem.strKind P w) T (fun z => decide (z ∈ ys)) (dcn ys) → R (.ok (.ret .none)) u) → codeAny (model P w) A (.builtin "set.update.loop" ⟨[.ref T, .ref I], []⟩) R s := by
  have nw : T ∉ wr := fun h => hT (W.sub _ h)
  have up : ∀ b ∈ wr, b ∈ T :: wr := fun b h => List.mem_cons_of_mem _ h
  intro m
  induction m with
  | zero =>
    intro i s e st hs kk
    have e : i = n := e
    subst e
    rw [List.take_of_length_le (Nat.le_of_eq hl)] at hs
    (refine codeAny_builtin PyProof.Rows.F.entry_set_update_loop ?_; rw [Around.under_plainId PyProof.Rows.F.plain_set_update_loop _])
    (show wpAny _ A.in1 (pyNext (.ref I) >>= _) _ _ s; refine wpAny_bind (W.done s _ _ st fun u mv => ?_); show wpAny _ A.in1 (ret Value.none) _ _ u)
    exact wpAny_pure (kk u (mv.mono up) (setOf_keep hs fun o q => mv.heap T o nw q))
  | succ m ih =>
    intro i s e st hs kk
    have lt : i < n := by omega
    (refine codeAny_builtin PyProof.Rows.F.entry_set_update_loop ?_; rw [Around.under_plainId PyProof.Rows.F.plain_set_update_loop _])
    (show wpAny _ A.in1 (pyNext (.ref I) >>= _) _ _ s; refine wpAny_bind (W.item i s _ _ lt st fun v u hp st' mv => ?_))
    obtain ⟨x, tk, hx, rfl⟩ := hv i v hp
    have hs' := setOf_keep hs fun o q => mv.heap T o nw q
    (show wpAny _ A.in1 (holding [Value.str x tk] (setAdd T (.str x tk)) >>= _) _ _ u; refine wpAny_bind (wpAny_holding ?_); unfold setAdd; refine wpAny_holding ?_)
    refine wpAny_bind ((PySem.strKind P w).pyHash (k := x) (strKind_is _ _ _ _) ?_)
    have room : dcn (ys.take i) + 1 < scanBound := by
      have h1 : dcn (ys.take i) ≤ (ys.take i).length := by
        unfold dcn
        exact eraseDups_le _
      rw [List.length_take] at h1
      omega
    refine wpAny_setAddHashed_of (knd := PySem.strKind P w) (s := { u with toks := u.toks + 1 }) (strKind_is _ _ _ _) rfl hs' room fun h' sb hs2 => ?_
    have tk1 : ys.take (i + 1) = ys.take i ++ [x] := by rw [List.take_add_one, hx]; rfl
    have hs3 : h'.SetOf (PySem.strKind P w) T (fun z => decide (z ∈ ys.take (i + 1))) (dcn (ys.take (i + 1))) := SetOf_congr hs2 (fun z => by rw [tk1]; simp [List.mem_append]) (by rw [tk1, dcn_snoc])
    have off : ∀ b, b ≠ T → ∀ o, u.heap.get? b = some o → h'.get? b = some o := fun b hb o q => by rw [sb.2 b hb]; exact q
    refine wpAny_pure ⟨plainId_quiet PyProof.Rows.F.plain_set_update_loop _, ih (i + 1) _ (by omega) (W.frame _ u _ _ st' (Nat.le_succ _) fun b hb o q => off b (fun z => hT (z ▸ hb)) o q) hs3 fun u2 mv2 hs4 => ?_⟩
    exact kk u2 (Moved.trans W.gtrans ((mv.mono up).then_heap (Nat.le_succ _) fun b o hb q => off b (fun z => hb (z ▸ List.mem_cons_self)) o q) mv2) hs4
end

section
variable {P : Program} {w : World} {A : Around} {E : Value → Shared → Prop} {s : Shared}
theorem str_at {its : Array Value} {ys : List Str} (r : StrsAre its.toList ys) (i : Nat) (v : Value) (h : its[i]? = some v) : ∃ x t, ys[i]? = some x ∧ v = .str x t := by
  have hi : i < ys.length := by
    rw [← StrsAre.len_eq r, Array.length_toList]
    exact (Array.getElem?_eq_some_iff.mp h).1
  obtain ⟨t, e⟩ := SS.strs_at r i v (by rw [Array.getElem?_toList]; exact h)
  exact ⟨ys[i], t, List.getElem?_eq_getElem hi, by rw [e, List.getD_eq_getElem?_getD, List.getElem?_eq_getElem hi]; rfl⟩
theorem fresh_set {h : Heap} {T : Addr} {b : Bool} (e : h.get? T = some (sO b)) (ys : List Str) : h.SetOf (PySem.strKind P w) T (fun z => decide (z ∈ ys.take 0)) (dcn (ys.take 0)) :=
  SetOf_congr ((setObjOf_fresh (knd := PySem.strKind P w) b).setOf e (by unfold scanBound; omega)) (fun z => by simp) (by simp [dcn])
/-- set(x), x a list or tuple of texts: T says which -/
theorem set_texts (tp : Bool) {l : Addr} {its : Array Value} {ys : List Str} {Q : Value → Shared → Prop} (hh : A.handled = none) (hl : if tp = true then s.heap.IsTuple l its else s.heap.IsList l its) (r : StrsAre its.toList ys) (room : ys.length + 1 < scanBound)
    (q : ∀ (h' : Heap) (tk : Nat), h'.SetOf (PySem.strKind P w) s.heap.objs.size (fun z => decide (z ∈ ys)) (dcn ys) → (∀ b o, s.heap.get? b = some o → h'.get? b = some o) → Q (.ref s.heap.objs.size) { s with heap := h', toks := tk }) :
    wpAny (model P w) A (call (.type "set") [.ref l]) Q E s := by
  have sz : its.size = ys.length := by
    have := StrsAre.len_eq r
    rw [Array.length_toList] at this
    exact this
  obtain ⟨c, tl, hmro⟩ := PySem.F.called_set.mro
  have f1 := PySem.F.called_set.made
  have f2 := PySem.F.called_set.sub
  (refine wpAny_call (codeAny_of_tree ?_); show wpAny _ _ (callAny (.type "set") _) _ _ _)
  (refine wpAny_pure ⟨Code.quiet_builtin _ (by decide +kernel), codeAny_builtin PySem.F.entry_type_call ?_⟩; rw [Around.under_plain (weight_type_call_type "set" [.ref l] []) rfl])
  have f3 := PySem.F.called_set.notType
  have f4 := PySem.F.called_set.canCreate
  have f5 := PySem.F.typeCall_set_1 (.ref l)
  (repeat (any_goals (first | assumption | wp_step)))
  refine codeAny_mono (code_set_new_1 (.ref l) (E := E) (Q₁ := fun v u => ∃ b : Bool, v = .ref s.heap.objs.size ∧ u = { s with heap := s.heap.push (sO b) }) fun b => ⟨b, rfl, rfl⟩) fun res u hu => ?_
  match res, hu with
  | .error e, hu => exact hu
  | .ok (.ret v), ⟨b, e1, e2⟩ =>
    subst e1 e2
    have n0 : (s.heap.push (sO b)).get? s.heap.objs.size = some (sO b) := Heap.get?_push_size _ rfl
    have n1 : Shared.TypeIs { s with heap := s.heap.push (sO b) } (.ref s.heap.objs.size) "set" := ⟨_, n0, rfl⟩
    have f6 := PySem.F.called_set.init.lookup
    have f7 := PySem.F.called_set.init.bind (.ref s.heap.objs.size)
    (repeat (any_goals (first | assumption | wp_step)))
    refine codeAny_mono (codeAny_call_builtin (R := wants (fun v u => v = .none ∧ ∃ h' tk, u = { s with heap := h', toks := tk } ∧ h'.SetOf (PySem.strKind P w) s.heap.objs.size (fun z => decide (z ∈ ys)) (dcn ys) ∧ ∀ b o, s.heap.get? b = some o → h'.get? b = some o) E)
      PySem.F.called_set.init.plain PySem.F.entry_set_init (check_set_init_1 n1 ?_)) fun res2 u2 hu2 => ?_
    · have hlS : l < s.heap.objs.size := by
        cases tp
        · obtain ⟨o, ho, _⟩ := hl
          exact Heap.lt_size ho
        · obtain ⟨o, ho, _⟩ := hl
          exact Heap.lt_size ho
      have neI : l ≠ (s.heap.push (sO b)).objs.size := by rw [Heap.size_push]; exact Nat.ne_of_lt (Nat.lt_succ_of_lt hlS)
      have nf : s.heap.objs.size ∉ [(s.heap.push (sO b)).objs.size, l] := by
        rw [Heap.size_push, List.mem_cons, List.mem_singleton]
        exact fun z => z.elim (fun z => Nat.succ_ne_self _ z.symm) fun z => absurd z.symm (Nat.ne_of_lt hlS)
      have hh3 : A.in1.in1.in1.handled = none := by simp [hh]
      have last : ∀ (wr : List Addr) (G : Array GenState → Array GenState → Prop) (u0 u : Shared) (ob : Obj) (hG : ∀ a b, G a b → b = a), u0 = { s with heap := (s.heap.push (sO b)).push ob } → wr = [s.heap.objs.size, (s.heap.push (sO b)).objs.size] → Moved wr G u0 u →
          ∃ h' tk, u = { s with heap := h', toks := tk } ∧ ∀ b o, s.heap.get? b = some o → h'.get? b = some o := fun wr G u0 u ob hG e0 ew mv => by
        subst e0 ew
        obtain ⟨h', g', d', tk', o'⟩ := u
        have e1 : g' = s.gens := hG _ _ mv.gens
        have e2 : d' = s.drawn := mv.drawn
        have e3 : o' = s.os := mv.os
        subst e1 e2 e3
        refine ⟨h', tk', rfl, fun b2 o e => mv.heap b2 o ?_ (Heap.get?_push_of_some _ (Heap.get?_push_of_some _ e))⟩
        have lt := Heap.lt_size e
        rw [Heap.size_push, List.mem_cons, List.mem_singleton]
        exact fun z => z.elim (Nat.ne_of_lt lt) (Nat.ne_of_lt (Nat.lt_succ_of_lt lt))
      cases tp with
      | false =>
        obtain ⟨⟨cls, od, da, sl⟩, ho, hc, n, hd⟩ := (show s.heap.IsList l its from hl)
        simp only at hc hd
        subst hc hd
        have ho2 : (s.heap.push (sO b)).get? l = some ⟨.type "list", od, .seq its n, sl⟩ := Heap.get?_push_of_some _ ho
        have g1 := PySem.F.sub_list_set
        have g2 := PySem.F.sub_list_frozenset
        have g3 : (Value.type "list" == Value.type "dict") = false := by decide
        have hl1 : (s.heap.push (sO b)).IsList l its := ⟨_, ho2, rfl, n, rfl⟩
        unfold Builtin.«set.__init__» noKeywords Builtin.Frozenset.updateFrom
        (generalize hPI : pyIter = PI; wp_walk; subst hPI; refine wpAny_pyIter_list hl1 ?_; refine wpAny_bind (wpAny_runValue ?_))
        refine fill_texts ((Walks.list hh3 _ l neI its).toS) nf ys sz.symm (by omega) (fun i v h => str_at r i v h) its.size 0 _ (by omega) ⟨⟨_, Heap.get?_push_size _ rfl, rfl, rfl⟩, hl1.push _⟩ (fresh_set (Heap.get?_push_of_some _ n0) ys) fun u mv hs => ?_
        obtain ⟨h', tk, rfl, k⟩ := last _ _ _ _ _ (fun _ _ z => z) rfl rfl mv
        (show wpAny _ _ _ _ _ _; refine wpAny_pure ?_; show wpAny _ _ (ret Value.none) _ _ _)
        exact wpAny_pure ⟨rfl, h', tk, rfl, hs, k⟩
      | true =>
        obtain ⟨⟨cls, od, da, sl⟩, ho, hc, n, hd⟩ := (show s.heap.IsTuple l its from hl)
        simp only at hc hd
        subst hc hd
        have ho2 : (s.heap.push (sO b)).get? l = some ⟨.type "tuple", od, .seq its n, sl⟩ := Heap.get?_push_of_some _ ho
        have g1 := PySem.F.sub_tuple_set
        have g2 := PySem.F.sub_tuple_frozenset
        have g3 : (Value.type "tuple" == Value.type "dict") = false := by decide
        have hl1 : (s.heap.push (sO b)).IsTuple l its := ⟨_, ho2, rfl, n, rfl⟩
        unfold Builtin.«set.__init__» noKeywords Builtin.Frozenset.updateFrom
        (generalize hPI : pyIter = PI; wp_walk; subst hPI; refine wpAny_pyIter_tuple hl1 ?_; refine wpAny_bind (wpAny_runValue ?_))
        refine fill_texts ((Walks.tuple hh3 _ l neI its).toS) nf ys sz.symm (by omega) (fun i v h => str_at r i v h) its.size 0 _ (by omega) ⟨⟨_, Heap.get?_push_size _ rfl, rfl, rfl⟩, hl1.push _⟩ (fresh_set (Heap.get?_push_of_some _ n0) ys) fun u mv hs => ?_
        obtain ⟨h', tk, rfl, k⟩ := last _ _ _ _ _ (fun _ _ z => z) rfl rfl mv
        (show wpAny _ _ _ _ _ _; refine wpAny_pure ?_; show wpAny _ _ (ret Value.none) _ _ _)
        exact wpAny_pure ⟨rfl, h', tk, rfl, hs, k⟩
    · match res2, hu2 with
      | .error e, hu2 => exact hu2
      | .ok (.ret v), ⟨e1, h', tk, e2, q1, q2⟩ =>
        subst e1 e2
        (repeat (any_goals (first | assumption | wp_step)))
        exact q _ _ q1 q2
      | .ok (.next), hu2 => exact hu2.elim
      | .ok (.brk), hu2 => exact hu2.elim
      | .ok (.cont), hu2 => exact hu2.elim
  | .ok (.next), hu => exact hu.elim
  | .ok (.brk), hu => exact hu.elim
  | .ok (.cont), hu => exact hu.elim
end
section
variable {X : Cx} {c : Cfg} {W : WX}
theorem strsOf_vs {K : Frag} {m : MM} {H : Hp} : ∀ {ds : List D} {vs : List V} {ys : List Str}, RVs K c m H ds vs → strsOf ds = some ys → vs = ys.map V.str
  | [], _, _, .nil, h => by
    simp only [strsOf, Option.some.injEq] at h
    subst h; rfl
  | d :: r, _, ys, .cons h1 h2, h => by
    cases d with
    | str z =>
      simp only [strsOf, Option.map_eq_some_iff] at h
      obtain ⟨zs, h3, rfl⟩ := h
      cases h1
      rw [strsOf_vs h2 h3]
      rfl
    | _ => simp [strsOf] at h
theorem pe_lensE {a : Expr} {fa : Env → Store → R D} {p p2 q pos : Pos} (hc : X.calm = true) (hg : L2.Gl X "len") (hm : X.mg "len" = none) (hg2 : L2.Gl X "set") (hm2 : X.mg "set" = none) (ha : PE X a (tE X.K c W fa))
    (na : starEach [a] X.env = [(false, eval a X.env)]) : PE X (.Call (.Name "len" p) [.Call (.Name "set" p2) [a] [] q] [] pos) (tE X.K c W fun e S => (fa e S).bind fun x S1 => R.ofO (lensA S1 x) S1) := by
  refine ⟨fun pins s σ H Q I h => ?_⟩
  obtain ⟨e, m, S, re, sm, h⟩ := h
  (refine Call_ (L2.ld_blt I hg hm boot_len ?_); refine callWith_builtin1 (args_cons ?_ rfl) rfl rfl; refine Call_ (L2.ld_blt I hg2 hm2 boot_set ?_))
  refine callWith_type1 (args_cons (thn (ha.run pins s σ H (fun x H1 => ∃ (d : D) (m1 : MM) (S1 : Store), Sim X.K c m1 H1 S1 ∧ RV X.K c m1 H1 d x ∧ Aft X.K c W σ m1 H1 (R.ofO (lensA S1 d) S1) fun d _ m' H' => ∀ v, RV X.K c m' H' d v → Q v H') I ⟨e, m, S, re, sm, h.bind.imp fun d S1 m1 H1 e1 s1 h1 u ru => ⟨d, m1, S1, s1, ru, h1⟩⟩) fun v s1 ⟨x, H1, I1, r1, d, m1, S1, sm1, rd, q1⟩ => args_nil ?_) na) na rfl
  obtain ⟨z, hz, q2⟩ := q1.ofO sm1
  unfold lensA at hz
  cases e1 : seqA S1 d with
  | none => rw [e1] at hz; cases hz
  | some ds =>
    rw [e1, Option.bind_some] at hz
    cases e2 : strsOf ds with
    | none => rw [e2] at hz; cases hz
    | some ys =>
      rw [e2, Option.bind_some] at hz
      by_cases hl : ys.length ≤ 4000
      · rw [if_pos hl] at hz
        cases hz
        obtain ⟨a1, vs, rfl, hq, rvs⟩ := seqA_sq sm1 rd e1
        have ev := strsOf_vs rvs e2
        subst ev
        cases r1
        have go : ∀ (h' : Heap) (tk : Nat), h'.SetOf (PySem.strKind X.prog X.w) s1.heap.objs.size (fun z => decide (z ∈ ys)) (dcn ys) → (∀ b o, s1.heap.get? b = some o → h'.get? b = some o) →
            wpAny (model X.prog X.w) X.A (spliced (backTo pos (starEach [] X.env))) (fun vs u => wpAny (model X.prog X.w) X.A (call (.builtin "len") (Value.ref s1.heap.objs.size :: vs)) (EP X pins σ Q) X.xe u) X.xe { s1 with heap := h', toks := tk } := fun h' tk hS hk => by
          refine args_nil ?_
          obtain ⟨o, es, ep, t, ho, hex, hd, _, _, hb, hf, hn⟩ := hS
          have I2 : Inv X pins σ H1 { s1 with heap := h', toks := tk } := I1.kept fun b o q => hk b o q
          have hd1 : dcn ys ≤ ys.length := eraseDups_le ys
          refine call_len_set ho hex hd hf (by rw [hn]; omega) ⟨.int (dcn ys : Nat), H1, I2.tok _, ⟨_, by rw [hn]⟩, q2 _ (.int _)⟩
        rcases hq with hq | hq
        · obtain ⟨its, r, pl, _⟩ := I1.list hq
          exact set_texts false (I1.ok.hd hc) pl.isList (by simpa using L2.strsAre_of r) (by unfold scanBound; omega) fun h' tk hS hk => go h' tk hS hk
        · obtain ⟨its, r, pl, _⟩ := I1.tuple hq
          exact set_texts true (I1.ok.hd hc) pl (by simpa using L2.strsAre_of r) (by unfold scanBound; omega) fun h' tk hS hk => go h' tk hS hk
      · rw [if_neg hl] at hz
        cases hz
end
end Mn

/-! Mn5: subscripts, slices, what is built in, calls of defs. -/
namespace Mn
open PySem PySem.Spec PyProof.Rows
open L2 (V Hp HO Cx SqL SqT Rd St VK WX XK TE TA TS TT TG PE PA PS PSs PT PG Ends upd upd_same upd_ne OpR R2 Inv Dp DpAll UnR CallR)

section
variable {X : Cx} {c : Cfg} {W : WX}
theorem tB_of {fs : Env → Store → R (List D)} {g : List D → Store → R D} {r : List V → Hp → VK → Prop}
    (hr : ∀ (m : MM) (H : Hp) (S : Store) (ds : List D) (vs : List V) (σ : L2.St) (Q : VK), Sim X.K c m H S → RVs X.K c m H ds vs → Aft X.K c W σ m H (g ds S) (fun d _ m' H' => ∀ v, RV X.K c m' H' d v → Q v H') → r vs H Q) :
    ∀ σ H Q, tE X.K c W (fun e S => (fs e S).bind fun ds S1 => g ds S1) σ H Q → L2.tCB r (tA X.K c W fs) σ H Q := by
  rintro σ H Q ⟨e, m, S, re, s, h⟩
  exact ⟨e, m, S, re, s, h.bind.imp fun ds S1 m1 H1 e1 s1 h1 vs rvs => hr m1 H1 S1 ds vs σ Q s1 rvs h1⟩

/-! ### subscripts -/
theorem atI_rv {m : MM} {H : Hp} {l : List D} {vs : List V} {i : Int} {d : D} (r : RVs X.K c m H l vs) (h : L2.atI l i = some d) : ∃ v, L2.atI vs i = some v ∧ RV X.K c m H d v := by
  unfold L2.atI at h ⊢
  rw [← r.length]
  cases e : L2.ixN l.length i with
  | none => rw [e] at h; cases h
  | some j =>
    rw [e] at h
    simp only [Option.bind_some] at h ⊢
    exact r.getD h
theorem sub_ok (m : MM) (H : Hp) (S : Store) (x y : D) (u w : V) (σ : L2.St) (Q : VK) (s : Sim X.K c m H S) (rx : RV X.K c m H x u) (ry : RV X.K c m H y w)
    (h : Aft X.K c W σ m H (R.ofO (subA S x y) S) (fun d _ m' H' => ∀ v, RV X.K c m' H' d v → Q v H')) : L2.rIx X.K u w H Q := by
  obtain ⟨d, hd, hq⟩ := h.ofO s
  unfold subA at hd
  split at hd
  · rename_i i
    cases ry
    split at hd
    · rename_i z
      cases rx
      split at hd
      · rename_i hz
        cases e : L2.atI z.cps.toList i with
        | none => rw [e] at hd; cases hd
        | some cc =>
          rw [e] at hd
          cases hd
          exact .inr (.inr ⟨z, i, cc, rfl, rfl, hz, e, hq _ (.str _)⟩)
      · cases hd
    · cases e : seqA S x with
      | none => rw [e] at hd; cases hd
      | some l =>
        rw [e] at hd
        simp only [Option.bind_some] at hd
        obtain ⟨a, vs, rfl, h1, h2⟩ := seqA_sq s rx e
        obtain ⟨v, h3, h4⟩ := atI_rv h2 hd
        rcases h1 with h1 | h1
        · exact .inl ⟨a, vs, i, v, rfl, rfl, h1, h3, hq _ h4⟩
        · exact .inr (.inl ⟨a, vs, i, v, rfl, rfl, h1, h3, hq _ h4⟩)
  · cases hd
theorem pe_subE {a b : Expr} {fa fb : Env → Store → R D} {pos : Pos} (ha : PE X a (tE X.K c W fa)) (hb : PE X b (tE X.K c W fb)) (hs : L2.PlainIx b) :
    PE X (.Subscript a b pos) (tE X.K c W fun e S => (fa e S).bind fun x S1 => (fb e S1).bind fun y S2 => R.ofO (subA S2 x y) S2) :=
  PE.imp (L2.pe_ix L2.ix_seq ha hb hs) (tE_op (g := fun x y S2 => R.ofO (subA S2 x y) S2) sub_ok)

/-! ### slices -/
def tO (K : Frag) (c : Cfg) (W : WX) (f : Env → Store → R (Option Int)) : L2.TO := fun σ H Q => ∃ (e : Env) (m : MM) (S : Store), EnvR K c m H e σ ∧ Sim K c m H S ∧ Aft K c W σ m H (f e S) fun i _ _ H' => Q i H'
theorem po_noneE : L2.PO X none (tO X.K c W fun _ S => .ok none S) := by
  have h0 := L2.po_none (X := X)
  refine ⟨fun pins s σ H Q I h => h0.run pins s σ H Q I ?_⟩
  obtain ⟨e, m, S, re, s, h⟩ := h
  exact h.now s
theorem po_someE {a : Expr} {fa : Env → Store → R D} (ha : PE X a (tE X.K c W fa)) : L2.PO X (some a) (tO X.K c W fun e S => (fa e S).bind fun x S1 => (R.ofO (optI x) S1).bind fun i S2 => .ok (some i) S2) := by
  have h0 := L2.po_some ha
  refine ⟨fun pins s σ H Q I h => h0.run pins s σ H Q I ?_⟩
  obtain ⟨e, m, S, re, s, h⟩ := h
  refine ⟨e, m, S, re, s, h.bind.imp fun x S1 m1 H1 e1 s1 h1 v rv => ?_⟩
  obtain ⟨i, hi, h1⟩ := h1.bind.ofO s1
  cases rv <;> simp only [optI, reduceCtorEq, Option.some.injEq] at hi
  subst hi
  exact ⟨_, rfl, h1.now s1⟩
theorem cut_rv {m : MM} {H : Hp} {l : List D} {vs : List V} (r : RVs X.K c m H l vs) (lo hi : Option Int) : RVs X.K c m H (cutA l lo hi) (L2.cutV vs lo hi) := by
  unfold cutA L2.cutV
  rw [← r.length]
  exact (r.drop _).take _
theorem slc_ok {v : Bool} {m : MM} {H : Hp} {S : Store} {x : D} {i j : Option Int} {u : V} {σ : L2.St} {Q : VK} (s : Sim X.K c m H S) (rx : RV X.K c m H x u)
    (h : Aft X.K c W σ m H (slcA v x i j S) (fun d _ m' H' => ∀ v, RV X.K c m' H' d v → Q v H')) : (rSlS2 X.K u i j H Q ∨ L2.rSlL X.K u i j H Q) ∨ L2.rSlS u i j H Q := by
  unfold slcA at h
  split at h
  · cases rx with
    | tup h1 h2 =>
      rename_i l a vs
      refine .inl (.inl ⟨a, vs, rfl, h1.sq, fun hw => ?_, fun hw p us hp => ?_⟩)
      · have e : cutA l i j = l := by
          unfold cutA
          rw [h2.length, hw.1, hw.2, List.drop_zero, Nat.sub_zero, ← h2.length, List.take_length]
        rw [e] at h
        exact h.okv s (.tup h1 h2)
      · exact h m _ (Ext.fresh hp s) (s.fresh hp) _ (RV.newTup s hp (cut_rv h2 i j))
  · cases rx
    obtain ⟨hz, h⟩ := Aft.if_ h
    exact .inr ⟨_, rfl, hz, h.now s _ (.str _)⟩
  · split at h
    · rename_i l e
      obtain ⟨a, vs, rfl, h1, h2⟩ := seqL_sq s rx e
      obtain ⟨hz, hq⟩ := mkL_new s (cut_rv h2 i j) h
      exact .inl (.inr ⟨a, vs, rfl, h1, hq⟩)
    · exact h.elim
theorem pe_slcE {v : Bool} {a : Expr} {lo hi : Option Expr} {fa : Env → Store → R D} {fl fh : Env → Store → R (Option Int)} {p2 pos : Pos} (ha : PE X a (tE X.K c W fa)) (hl : L2.PO X lo (tO X.K c W fl)) (hh : L2.PO X hi (tO X.K c W fh)) :
    PE X (.Subscript a (.Slice lo hi none p2) pos) (tE X.K c W fun e S => (fa e S).bind fun x S1 => (fl e S1).bind fun l S2 => (fh e S2).bind fun h S3 => slcA v x l h S3) := by
  refine PE.imp (L2.pe_slice ((sl_tupS.or L2.sl_list).or L2.sl_str) ha hl hh) fun σ H Q h => ?_
  obtain ⟨e, m, S, re, s, h⟩ := h
  exact ⟨e, m, S, re, s, h.bind.imp fun x S1 m1 H1 e1 s1 h1 u ru => ⟨e, m1, S1, re.mono s e1, s1, h1.bind.imp fun l S2 m2 H2 e2 s2 h2 =>
    ⟨e, m2, S2, (re.mono s e1).mono s1 e2, s2, h2.bind.imp fun h S3 m3 H3 e3 s3 h3 => slc_ok s3 ((ru.mono s1 e2).mono s2 e3) h3⟩⟩⟩

/-! ### what is built in -/
def rBlt (X : Cx) (f : String) : List V → Hp → VK → Prop := match f with
  | "len" => fun xs H Q => (∃ p ys, xs = [.ref p] ∧ (SqL X.K H p ys ∨ SqT X.K H p ys) ∧ Q (.int ys.length) H) ∨ (∃ z : Str, xs = [.str z] ∧ z.length ≤ sizeLine ∧ Q (.int z.length) H)
  | "max" => fun xs H Q => ∃ i j, xs = [.int i, .int j] ∧ Q (.int (if j > i then j else i)) H
  | "min" => fun xs H Q => ∃ i j, xs = [.int i, .int j] ∧ Q (.int (if j < i then j else i)) H
  | "sum" => L2.rSum X.K
  | "isinstance" => L2.rIsi X.K
  | "any" => L2.rAny X.K
  | "repr" => rRepr X.K
  | "all" => L2.rAll X.K
  | _ => fun _ _ _ => False
def isBlt (f : String) : Bool := ["len", "max", "min", "sum", "isinstance", "any", "all", "repr"].contains f
theorem cr_blt (X : Cx) (hc : X.calm = true) (hgd : X.A.guards = some []) (hu : X.A.units + 65 < cLine) (f : String) : CallR X (.builtin f) (rBlt X f) := by
  unfold rBlt
  split
  · exact L2.call_len_seq.or L2.call_len_str
  · exact L2.call_max2 hc
  · exact L2.call_min2 hc
  · exact L2.cr_sum hc
  · exact L2.call_isi
  · exact L2.cr_any hc
  · exact cr_repr hgd hu
  · exact L2.cr_all hc
  · exact fun _ _ _ _ _ _ _ _ _ h => h.elim
def rTy (X : Cx) (f : String) : List V → Hp → VK → Prop := match f with
  | "tuple" => fun xs H Q => ∃ p ys, xs = [.ref p] ∧ ((SqL X.K H p ys ∧ NewT H ys Q) ∨ (SqT X.K H p ys ∧ Q (.ref p) H))
  | "list" => fun xs H Q => ∃ p ys, xs = [.ref p] ∧ (SqL X.K H p ys ∨ SqT X.K H p ys) ∧ ∀ l, H l = none → Q (.ref l) (upd H l (.lst ys))
  | "int" => fun xs H Q => (∃ i, xs = [.int i] ∧ Q (.int i) H) ∨ ∃ k, xs = [.bl k] ∧ Q (.int (if k then 1 else 0)) H
  | _ => fun _ _ _ => False
def isTy (f : String) : Bool := ["tuple", "list", "int"].contains f
theorem cr_ty (X : Cx) (f : String) : CallR X (.type f) (rTy X f) := by
  unfold rTy
  split
  · exact call_tupleS
  · exact L2.call_list_of
  · exact L2.call_int1
  · exact fun _ _ _ _ _ _ _ _ _ h => h.elim
theorem intsOf_rv {m : MM} {H : Hp} : ∀ {ds : List D} {ns : List Int} {vs : List V}, intsOf ds = some ns → RVs X.K c m H ds vs → vs = ns.map V.int
  | [], _, _, h, .nil => by simp only [intsOf, Option.some.injEq] at h; subst h; rfl
  | d :: ds, _, _, h, .cons h1 h2 => by
    cases d <;> simp only [intsOf, reduceCtorEq] at h
    cases h1
    cases e : intsOf ds with
    | none => rw [e] at h; cases h
    | some ns =>
      rw [e] at h
      cases h
      rw [intsOf_rv e h2]
      rfl
theorem blsOf_rv {m : MM} {H : Hp} : ∀ {ds : List D} {ns : List Bool} {vs : List V}, blsOf ds = some ns → RVs X.K c m H ds vs → vs = ns.map V.bl
  | [], _, _, h, .nil => by simp only [blsOf, Option.some.injEq] at h; subst h; rfl
  | d :: ds, _, _, h, .cons h1 h2 => by
    cases d <;> simp only [blsOf, reduceCtorEq] at h
    cases h1
    cases e : blsOf ds with
    | none => rw [e] at h; cases h
    | some ns =>
      rw [e] at h
      cases h
      rw [blsOf_rv e h2]
      rfl
theorem strsOf_rv {m : MM} {H : Hp} : ∀ {ds : List D} {ns : List Str} {vs : List V}, strsOf ds = some ns → RVs X.K c m H ds vs → vs = ns.map V.str
  | [], _, _, h, .nil => by simp only [strsOf, Option.some.injEq] at h; subst h; rfl
  | d :: ds, _, _, h, .cons h1 h2 => by
    cases d <;> simp only [strsOf, reduceCtorEq] at h
    cases h1
    cases e : strsOf ds with
    | none => rw [e] at h; cases h
    | some ns =>
      rw [e] at h
      cases h
      rw [strsOf_rv e h2]
      rfl
theorem tyOf_tyx {m : MM} {H : Hp} {S : Store} {d : D} {v : V} {t : String} (s : Sim X.K c m H S) (r : RV X.K c m H d v) (h : tyOf S d = some t) : L2.TyX X.K H v (.type t) := by
  cases r with
  | non => cases h; exact .base .non
  | bl b => cases h; exact .base (.bl b)
  | int b => cases h; exact .base (.int b)
  | str b => cases h; exact .base (.str b)
  | tup h1 h2 =>
    cases h
    rcases h1 with ⟨o, h1, _⟩ | ⟨o, its, n, h1, h3, _⟩
    · exact .fTuple h1
    · exact .kTuple h1 h3
  | lst h1 h2 =>
    cases h
    rcases h1 with ⟨h1 | ⟨o, h1⟩, _⟩ | ⟨o, its, n, h1, h3, _⟩
    · exact .base (.lst h1)
    · exact .base (.frz h1)
    · exact .kList h1 h3
  | ref h1 =>
    simp only [tyOf] at h
    split at h
    · rename_i l e
      obtain ⟨a, vs, h2, h3, h4⟩ := s.at e
      rw [h1] at h2; cases h2
      cases h
      exact .base (.lst h3)
    · rename_i ks ds e
      obtain ⟨a, u, h2, h3, h4⟩ := s.obj _ _ e
      rw [h1] at h2; cases h2
      cases h
      cases h4
      exact .base (.dK h3)
    · cases h
  | _ => simp [tyOf] at h
theorem blt_ok {v : Bool} {f : String} (hf : isBlt f = true) (m : MM) (H : Hp) (S : Store) (ds : List D) (vs : List V) (σ : L2.St) (Q : VK) (s : Sim X.K c m H S) (r : RVs X.K c m H ds vs)
    (h : Aft X.K c W σ m H (bltA v f ds S) (fun d _ m' H' => ∀ v, RV X.K c m' H' d v → Q v H')) : rBlt X f vs H Q := by
  unfold bltA at h
  split at h
  · -- len
    cases r with
    | cons r1 r2 =>
      cases r2
      split at h
      · cases r1
        obtain ⟨hz, h⟩ := Aft.if_ h
        exact .inr ⟨_, rfl, hz, h.okv s (.int _)⟩
      · split at h
        · rename_i l e
          obtain ⟨a, us, rfl, h1, h2⟩ := seqA_sq s r1 e
          refine .inl ⟨a, us, rfl, h1, ?_⟩
          rw [← h2.length]
          exact h.okv s (.int _)
        · exact h.elim
  · exact absurd hf (by decide)
  · exact absurd hf (by decide)
  · cases r with
    | cons r1 r2 =>
      cases r2 with
      | cons r2 r3 =>
        cases r3; cases r1; cases r2
        exact ⟨_, _, rfl, h.okv s (.int _)⟩
  · cases r with
    | cons r1 r2 =>
      cases r2 with
      | cons r2 r3 =>
        cases r3; cases r1; cases r2
        exact ⟨_, _, rfl, h.okv s (.int _)⟩
  · rename_i x
    cases r with
    | cons r1 r2 =>
      cases r2
      split at h
      · rename_i ns e
        cases e1 : seqL S x with
        | none => rw [e1] at e; cases e
        | some l =>
          rw [e1] at e
          obtain ⟨a, us, rfl, h1, h2⟩ := seqL_sq s r1 e1
          have e2 := intsOf_rv e h2
          subst e2
          exact ⟨a, ns, rfl, h1, h.okv s (.int _)⟩
      · exact h.elim
  · rename_i x
    cases r with
    | cons r1 r2 =>
      cases r2
      split at h
      · rename_i ns e
        cases e1 : seqL S x with
        | none => rw [e1] at e; cases e
        | some l =>
          rw [e1] at e
          obtain ⟨a, us, rfl, h1, h2⟩ := seqL_sq s r1 e1
          have e2 := blsOf_rv e h2
          subst e2
          exact ⟨a, ns, rfl, h1, h.okv s (.bl _)⟩
      · exact h.elim
  · rename_i x
    cases r with
    | cons r1 r2 =>
      cases r2
      split at h
      · rename_i ns e
        cases e1 : seqL S x with
        | none => rw [e1] at e; cases e
        | some l =>
          rw [e1] at e
          obtain ⟨a, us, rfl, h1, h2⟩ := seqL_sq s r1 e1
          have e2 := blsOf_rv e h2
          subst e2
          exact ⟨a, ns, rfl, h1, h.okv s (.bl _)⟩
      · exact h.elim
  · rename_i x
    cases r with
    | cons r1 r2 =>
      cases r2
      split at h
      · rename_i l p e1 e2
        obtain ⟨⟨k1, k2, k3, k4⟩, h⟩ := Aft.if_ h
        obtain ⟨a, us, rfl, _, _⟩ := seqA_sq s r1 e1
        exact ⟨a, p, rfl, py_dp s r1 e2, k1, k2, k3, k4, h.okv s (.str _)⟩
      · exact h.elim
  · exact absurd hf (by decide)
  · exact absurd hf (by decide)
  · cases r with
    | cons r1 r2 =>
      cases r2 with
      | cons r2 r3 =>
        cases r3; cases r2
        split at h
        · rename_i a e
          split at h
          · rename_i b e2
            exact ⟨_, _, _, _, b, rfl, .ty _, tyOf_tyx s r1 e, L2.kit_ty e2, h.okv s (.bl _)⟩
          · exact h.elim
        · exact h.elim
  · exact h.elim
theorem ty_ok {v : Bool} {f : String} (hf : isTy f = true) (m : MM) (H : Hp) (S : Store) (ds : List D) (vs : List V) (σ : L2.St) (Q : VK) (s : Sim X.K c m H S) (r : RVs X.K c m H ds vs)
    (h : Aft X.K c W σ m H (bltA v f ds S) (fun d _ m' H' => ∀ v, RV X.K c m' H' d v → Q v H')) : rTy X f vs H Q := by
  unfold bltA at h
  split at h
  · exact absurd hf (by decide)
  · cases r with
    | cons r1 r2 =>
      cases r2
      split at h
      · obtain ⟨a, us, rfl, h1, h2⟩ := seqT_sq (x := .tup _) r1 rfl
        exact ⟨a, us, rfl, .inr ⟨h1, h.okv s r1⟩⟩
      · split at h
        · rename_i l e
          obtain ⟨a, us, rfl, h1, h2⟩ := seqL_sq s r1 e
          exact ⟨a, us, rfl, .inl ⟨h1, (mkT_new s h2 h).2⟩⟩
        · exact h.elim
  · cases r with
    | cons r1 r2 =>
      cases r2
      split at h
      · rename_i l e
        obtain ⟨a, us, rfl, h1, h2⟩ := seqA_sq s r1 e
        exact ⟨a, us, rfl, h1, (mkL_new s h2 h).2⟩
      · exact h.elim
  · exact absurd hf (by decide)
  · exact absurd hf (by decide)
  · exact absurd hf (by decide)
  · exact absurd hf (by decide)
  · exact absurd hf (by decide)
  · exact absurd hf (by decide)
  · cases r with
    | cons r1 r2 =>
      cases r2; cases r1
      exact .inl ⟨_, rfl, h.okv s (.int _)⟩
  · cases r with
    | cons r1 r2 =>
      cases r2; cases r1
      exact .inr ⟨_, rfl, h.okv s (.int _)⟩
  · exact absurd hf (by decide)
  · exact h.elim
theorem pe_bltE {v : Bool} {f : String} {e : Expr} {es : List Expr} {fs : Env → Store → R (List D)} {p pos : Pos} (hf : isBlt f = true) (hc : X.calm = true) (hgd : X.A.guards = some []) (hu : X.A.units + 65 < cLine) (hg : L2.Gl X (Str.ofString f)) (hm : X.mg (Str.ofString f) = none) (hv : bootBuiltins (Str.ofString f) = some (.builtin f))
    (ha : PA X (e :: es) (tA X.K c W fs)) (hn : Str.ofString f ≠ "__name__") (hdb : (Str.ofString f == ("__debug__" : Str)) = false) (he : starEach (e :: es) X.env = (false, eval e X.env) :: starEach es X.env) (hpl : (backTo pos (starEach es X.env)).any (·.1) = false) :
    PE X (.Call (.Name (Str.ofString f) p) (e :: es) [] pos) (tE X.K c W fun e S => (fs e S).bind fun ds S1 => bltA v f ds S1) :=
  PE.imp (L2.pe_callB (cr_blt X hc hgd hu f) hg hm hv ha hn hdb he hpl) (tB_of (g := bltA v f) (blt_ok hf))
theorem pe_maxdE {a b : Expr} {fa fb : Env → Store → R D} {p kp pos : Pos} (hc : X.calm = true) (hu : X.A.units + 65 < cLine) (hg : L2.Gl X "max") (hm : X.mg "max" = none) (ha : PE X a (tE X.K c W fa)) (hb : PE X b (tE X.K c W fb)) (hs : starEach [a] X.env = [(false, eval a X.env)]) :
    PE X (.Call (.Name "max" p) [a] [⟨some (Str.ofString "default"), b, kp⟩] pos) (tE X.K c W fun e S => (fa e S).bind fun x S1 => (fb e S1).bind fun y S2 => R.ofO (maxdA S2 x y) S2) := by
  refine PE.imp (L2.pe_callBK (cr_maxDf hc hu) hg hm (show bootBuiltins "max" = some (.builtin "max") by decide +kernel) (L2.pa_cons ha L2.pa_nil hs) (L2.pk_cons hb L2.pk_nil) (by decide) (by decide) (by rw [hs]; rfl) (by rw [hs]; rfl)) fun σ H Q h => ?_
  obtain ⟨e, m, S, re, s, h⟩ := h
  refine ⟨e, m, S, re, s, h.bind.imp fun x S1 m1 H1 e1 s1 h1 u ru => ⟨e, m1, S1, re.mono s e1, s1, h1.bind.imp fun y S2 m2 H2 e2 s2 h2 v rv => ?_⟩⟩
  have ru := ru.mono s1 e2
  obtain ⟨z, hz, h2⟩ := h2.ofO s2
  unfold maxdA at hz
  split at hz
  · cases rv
    cases e3 : seqL S2 x with
    | none => rw [e3] at hz; cases hz
    | some l =>
      rw [e3] at hz
      cases e4 : intsOf l with
      | none => rw [Option.bind_some, e4] at hz; cases hz
      | some ns =>
        rw [Option.bind_some, e4] at hz
        cases hz
        obtain ⟨a', us, rfl, h3, h4⟩ := seqL_sq s2 ru e3
        cases intsOf_rv (X := X) e4 h4
        exact ⟨a', ns, _, rfl, rfl, h3, h2 _ (.int _)⟩
  · cases hz
theorem pe_tyE {v : Bool} {f : String} {e : Expr} {es : List Expr} {fs : Env → Store → R (List D)} {p pos : Pos} (hf : isTy f = true) (hg : L2.Gl X (Str.ofString f)) (hm : X.mg (Str.ofString f) = none) (hv : bootBuiltins (Str.ofString f) = some (.type f))
    (ha : PA X (e :: es) (tA X.K c W fs)) (hn : Str.ofString f ≠ "__name__") (hdb : (Str.ofString f == ("__debug__" : Str)) = false) (he : starEach (e :: es) X.env = (false, eval e X.env) :: starEach es X.env) (hpl : (backTo pos (starEach es X.env)).any (·.1) = false) :
    PE X (.Call (.Name (Str.ofString f) p) (e :: es) [] pos) (tE X.K c W fun e S => (fs e S).bind fun ds S1 => bltA v f ds S1) :=
  PE.imp (L2.pe_callTy (cr_ty X f) hg hm hv ha hn hdb he hpl) (tB_of (g := bltA v f) (ty_ok hf))
end
end Mn

/-! Mn6: methods, stores, calls; what is walked. -/
namespace Mn
open PySem PySem.Spec PyProof.Rows
open L2 (V Hp HO Cx SqL SqT Rd St VK WX XK TE TA TS TT TG TI PE PA PS PSs PT PG PI Ends upd upd_same upd_ne OpR R2 Inv Dp DpAll UnR CallR Walk)

section
variable {X : Cx} {c : Cfg} {W : WX}
/-! ### methods -/
theorem recvA_ty {m : MM} {H : Hp} {S : Store} {T : String} {o : D} {u : V} {z : Unit} (s : Sim X.K c m H S) (r : RV X.K c m H o u) (hT : T ≠ "tuple") (h : recvA T S o = some z) : L2.tyV X.K T u H := by
  unfold recvA at h
  split at h
  · cases e : seqL S o with
    | none => rw [e] at h; cases h
    | some l =>
      obtain ⟨a, vs, rfl, h1, h2⟩ := seqL_sq s r e
      exact .inl ⟨rfl, vs, h1⟩
  · split at h
    · cases r; rfl
    · cases h
  · exact absurd rfl hT
  · cases h
theorem tBM_of {fo : Env → Store → R D} {fs : Env → Store → R (List D)} {T : String} {g : D → List D → Store → R D} {r : V → List V → Hp → VK → Prop} (hT : T ≠ "tuple")
    (hr : ∀ (m : MM) (H : Hp) (S : Store) (o : D) (u : V) (ds : List D) (vs : List V) (σ : L2.St) (Q : VK), Sim X.K c m H S → RV X.K c m H o u → RVs X.K c m H ds vs → Aft X.K c W σ m H (g o ds S) (fun d _ m' H' => ∀ v, RV X.K c m' H' d v → Q v H') → r u vs H Q) :
    ∀ σ H Q, tE X.K c W (fun e S => (fo e S).bind fun x S1 => (R.ofO (recvA T S1 x) S1).bind fun _ S2 => (fs e S2).bind fun ds S3 => g x ds S3) σ H Q → L2.tBM X.K T r (tE X.K c W fo) (tA X.K c W fs) σ H Q := by
  rintro σ H Q ⟨e, m, S, re, s, h⟩
  refine ⟨e, m, S, re, s, h.bind.imp fun x S1 m1 H1 e1 s1 h1 u ru => ?_⟩
  obtain ⟨z, hz, h1⟩ := h1.bind.ofO s1
  exact ⟨recvA_ty s1 ru hT hz, e, m1, S1, re.mono s e1, s1, h1.bind.imp fun ds S2 m2 H2 e2 s2 h2 vs rvs => hr m2 H2 S2 x u ds vs σ Q s2 (ru.mono s1 e2) rvs h2⟩
theorem append_ok (m : MM) (H : Hp) (S : Store) (o : D) (u : V) (ds : List D) (vs : List V) (σ : L2.St) (Q : VK) (s : Sim X.K c m H S) (ro : RV X.K c m H o u) (r : RVs X.K c m H ds vs)
    (h : Aft X.K c W σ m H (mthA "list" "append" o ds S) (fun d _ m' H' => ∀ v, RV X.K c m' H' d v → Q v H')) : L2.rAppend u vs H Q := by
  have h : Aft X.K c W σ m H (appA o ds S) (fun d _ m' H' => ∀ v, RV X.K c m' H' d v → Q v H') := h
  unfold appA at h
  split at h
  · rename_i n x
    cases ro with
    | ref h1 =>
      cases r with
      | cons r1 r2 =>
        cases r2
        split at h
        · rename_i l e
          obtain ⟨hz, h⟩ := Aft.if_ h
          obtain ⟨a, us, h2, h3, h4⟩ := s.at e
          rw [h1] at h2; cases h2
          obtain ⟨e2, s2⟩ := s.write e h1 h3 (h4.append (.cons r1 .nil))
          exact ⟨_, us, _, rfl, rfl, h3, by rw [← h4.length]; exact hz, h _ _ e2 s2 _ .non⟩
        · exact h.elim
  · exact h.elim
theorem pop_ok (m : MM) (H : Hp) (S : Store) (o : D) (u : V) (ds : List D) (vs : List V) (σ : L2.St) (Q : VK) (s : Sim X.K c m H S) (ro : RV X.K c m H o u) (r : RVs X.K c m H ds vs)
    (h : Aft X.K c W σ m H (mthA "list" "pop" o ds S) (fun d _ m' H' => ∀ v, RV X.K c m' H' d v → Q v H')) : L2.rPopAt u vs H Q := by
  have h : Aft X.K c W σ m H (popA o ds S) (fun d _ m' H' => ∀ v, RV X.K c m' H' d v → Q v H') := h
  unfold popA at h
  split at h
  · rename_i n i h0
    cases ro with
    | ref h1 =>
      cases r with
      | cons r1 r2 =>
        cases r2
        cases r1
        split at h
        · rename_i l e
          obtain ⟨hz, h⟩ := Aft.if_ h
          obtain ⟨a, us, h2, h3, h4⟩ := s.at e
          rw [h1] at h2; cases h2
          cases e2 : l[i.toNat]? with
          | none =>
            rw [e2] at h
            exact h.elim
          | some d =>
            rw [e2] at h
            obtain ⟨y, hy, ry⟩ := h4.getD e2
            obtain ⟨x1, s1⟩ := s.write e h1 h3 (h4.erase i.toNat)
            have hlen := h4.length
            have h16 : sizeLine = 2 ^ 24 := rfl
            refine ⟨_, us, i, i.toNat, y, rfl, rfl, h3, by omega, by omega, PySem.seqIndex_of hz.1 (by rw [← hlen]; exact hz.2.1), hy, h _ _ x1 s1 _ (ry.mono s x1)⟩
        · exact h.elim
  · exact h.elim
theorem clear_ok (m : MM) (H : Hp) (S : Store) (o : D) (u : V) (σ : L2.St) (Q : VK) (s : Sim X.K c m H S) (ro : RV X.K c m H o u)
    (h : Aft X.K c W σ m H (clrA o S) (fun d _ m' H' => ∀ v, RV X.K c m' H' d v → Q v H')) : L2.rClear u [] H Q := by
  unfold clrA at h
  split at h
  · cases ro with
    | ref h1 =>
      split at h
      · rename_i l e
        obtain ⟨a, us, h2, h3, h4⟩ := s.at e
        rw [h1] at h2; cases h2
        obtain ⟨e2, s2⟩ := s.write e h1 h3 .nil
        exact ⟨_, us, rfl, rfl, h3, h _ _ e2 s2 _ .non⟩
      · exact h.elim
  · exact h.elim
theorem join_ok (m : MM) (H : Hp) (S : Store) (o : D) (u : V) (ds : List D) (vs : List V) (σ : L2.St) (Q : VK) (s : Sim X.K c m H S) (ro : RV X.K c m H o u) (r : RVs X.K c m H ds vs)
    (h : Aft X.K c W σ m H (mthA "str" "join" o ds S) (fun d _ m' H' => ∀ v, RV X.K c m' H' d v → Q v H')) :
    ∃ a p, ∃ ys : List Str, u = .str a ∧ vs = [.ref p] ∧ (SqL X.K H p (ys.map V.str) ∨ SqT X.K H p (ys.map V.str)) ∧ (ys.map (·.length)).sum + ys.length * a.length ≤ 16777216 ∧ Q (.str (Txt.join a ys)) H := by
  have h : Aft X.K c W σ m H (joinA o ds S) (fun d _ m' H' => ∀ v, RV X.K c m' H' d v → Q v H') := h
  unfold joinA at h
  split at h
  · rename_i a x h0
    cases ro
    cases r with
    | cons r1 r2 =>
      cases r2
      split at h
      · rename_i ys e
        obtain ⟨hz, h⟩ := Aft.if_ h
        cases e1 : seqA S x with
        | none => rw [e1] at e; cases e
        | some l =>
          rw [e1] at e
          obtain ⟨p, us, rfl, h1, h2⟩ := seqA_sq s r1 e1
          cases strsOf_rv (X := X) e h2
          exact ⟨a, p, ys, rfl, rfl, h1, hz, h.now s _ (.str _)⟩
      · exact h.elim
  · exact h.elim
theorem pe_mth1E {T n id : String} {r : V → List V → Hp → VK → Prop} {o a : Expr} {fo : Env → Store → R D} {fs : Env → Store → R (List D)} {apos cpos : Pos} (pa : PlainAttrs T) (slot : Slot T n id) (hty : typeOf (.builtin id) = pure (.type "method_descriptor")) (hm : L2.MtR X id r) (hT : T ≠ "tuple")
    (ok : ∀ (m : MM) (H : Hp) (S : Store) (o : D) (u : V) (ds : List D) (vs : List V) (σ : L2.St) (Q : VK), Sim X.K c m H S → RV X.K c m H o u → RVs X.K c m H ds vs → Aft X.K c W σ m H (mthA T n o ds S) (fun d _ m' H' => ∀ v, RV X.K c m' H' d v → Q v H') → r u vs H Q)
    (ho : PE X o (tE X.K c W fo)) (ha : PA X [a] (tA X.K c W fs)) (hbase : attributeBase o n X.env (eval o X.env) = eval o X.env)
    (hline : (apos.endLine == cpos.line) = true) (hs : starEach [a] X.env = [(false, eval a X.env)]) :
    PE X (.Call (.Attribute o n apos) [a] [] cpos) (tE X.K c W fun e S => (fo e S).bind fun x S1 => (R.ofO (recvA T S1 x) S1).bind fun _ S2 => (fs e S2).bind fun ds S3 => mthA T n x ds S3) := by
  refine PE.imp (L2.pe_bm pa slot hty hm ho ha hbase ?_ hline ?_ ?_) (tBM_of hT ok)
  · rw [hs]; rfl
  · rw [hs]; rfl
  · rfl
theorem pe_appendE {o a : Expr} {fo : Env → Store → R D} {fs : Env → Store → R (List D)} {apos cpos : Pos} (ho : PE X o (tE X.K c W fo)) (ha : PA X [a] (tA X.K c W fs)) (hbase : attributeBase o "append" X.env (eval o X.env) = eval o X.env)
    (hline : (apos.endLine == cpos.line) = true) (hs : starEach [a] X.env = [(false, eval a X.env)]) :
    PE X (.Call (.Attribute o "append" apos) [a] [] cpos) (tE X.K c W fun e S => (fo e S).bind fun x S1 => (R.ofO (recvA "list" S1 x) S1).bind fun _ S2 => (fs e S2).bind fun ds S3 => mthA "list" "append" x ds S3) :=
  pe_mth1E PySem.F.plainAttrs_list PySem.F.slot_list_append PySem.F.type_list_append L2.mt_append (by decide) append_ok ho ha hbase hline hs
theorem pe_popE {o a : Expr} {fo : Env → Store → R D} {fs : Env → Store → R (List D)} {apos cpos : Pos} (ho : PE X o (tE X.K c W fo)) (ha : PA X [a] (tA X.K c W fs)) (hbase : attributeBase o "pop" X.env (eval o X.env) = eval o X.env)
    (hline : (apos.endLine == cpos.line) = true) (hs : starEach [a] X.env = [(false, eval a X.env)]) :
    PE X (.Call (.Attribute o "pop" apos) [a] [] cpos) (tE X.K c W fun e S => (fo e S).bind fun x S1 => (R.ofO (recvA "list" S1 x) S1).bind fun _ S2 => (fs e S2).bind fun ds S3 => mthA "list" "pop" x ds S3) :=
  pe_mth1E PySem.F.plainAttrs_list PySem.F.slot_list_pop PySem.F.type_list_pop L2.mt_popAt (by decide) pop_ok ho ha hbase hline hs
theorem pe_joinE {o a : Expr} {fo : Env → Store → R D} {fs : Env → Store → R (List D)} {apos cpos : Pos} (ho : PE X o (tE X.K c W fo)) (ha : PA X [a] (tA X.K c W fs)) (hbase : attributeBase o "join" X.env (eval o X.env) = eval o X.env)
    (hline : (apos.endLine == cpos.line) = true) (hs : starEach [a] X.env = [(false, eval a X.env)]) :
    PE X (.Call (.Attribute o "join" apos) [a] [] cpos) (tE X.K c W fun e S => (fo e S).bind fun x S1 => (R.ofO (recvA "str" S1 x) S1).bind fun _ S2 => (fs e S2).bind fun ds S3 => mthA "str" "join" x ds S3) :=
  pe_mth1E PySem.F.plainAttrs_str PySem.F.slot_str_join PySem.F.type_str_join L2.mt_join (by decide) join_ok ho ha hbase hline hs
theorem pe_clearE {o : Expr} {fo : Env → Store → R D} {fs : Env → Store → R (List D)} {apos cpos : Pos} (hfs : ∀ e S, fs e S = .ok [] S) (ho : PE X o (tE X.K c W fo)) (hbase : attributeBase o "clear" X.env (eval o X.env) = eval o X.env)
    (hline : (apos.endLine == cpos.line) = true) :
    PE X (.Call (.Attribute o "clear" apos) [] [] cpos) (tE X.K c W fun e S => (fo e S).bind fun x S1 => (R.ofO (recvA "list" S1 x) S1).bind fun _ S2 => (fs e S2).bind fun ds S3 => mthA "list" "clear" x ds S3) := by
  refine PE.imp (L2.pe_bm0 PySem.F.plainAttrs_list PySem.F.slot_list_clear PySem.F.type_list_clear L2.mt_clear ho hbase hline) ?_
  rintro σ H Q ⟨e, m, S, re, s, h⟩
  refine ⟨e, m, S, re, s, h.bind.imp fun x S1 m1 H1 e1 s1 h1 u ru => ?_⟩
  obtain ⟨z, hz, h1⟩ := h1.bind.ofO s1
  refine ⟨recvA_ty s1 ru (by decide) hz, ?_⟩
  rw [hfs] at h1
  exact clear_ok (c := c) (W := W) m1 H1 S1 x u σ Q s1 ru (show Aft X.K c W σ m1 H1 (clrA x S1) _ from h1)
/-! ### o[i] = v -/
theorem set_rv {m : MM} {H : Hp} {S : Store} {x k y : D} {u i w : V} {σ : L2.St} {P : Hp → Prop} (s : Sim X.K c m H S) (rx : RV X.K c m H x u) (rk : RV X.K c m H k i) (ry : RV X.K c m H y w)
    (h : Aft X.K c W σ m H (setA x k y S) (fun _ _ _ H' => P H')) : L2.rSetL u i w H P := by
  unfold setA at h
  split at h
  · cases rx with
    | ref h1 =>
      cases rk
      split at h
      · rename_i l e
        split at h
        · rename_i j hj
          obtain ⟨a, us, h2, h3, h4⟩ := s.at e
          rw [h1] at h2; cases h2
          obtain ⟨e2, s2⟩ := s.write e h1 h3 (h4.set ry j)
          exact ⟨_, us, _, j, rfl, rfl, h3, by rw [← h4.length]; exact hj, h _ _ e2 s2⟩
        · exact h.elim
      · exact h.elim
  · exact h.elim

/-! ### calls of defs -/
/-- what a def of the reading promises -/
def spG (K : Frag) (c : Cfg) (f : List D → Store → R D) (n : Nat) : L2.Sp := fun vs H Q E => vs.length = n ∧ ∃ (m : MM) (S : Store) (ds : List D), RVs K c m H ds vs ∧ Sim K c m H S ∧
  Aft K c (fun cls dx _ H' => E cls dx H') [] m H (f ds S) fun d _ m' H' => ∀ v, RV K c m' H' d v → Q v H'
theorem pe_callE {k n : Nat} {f : Addr} {fd : FuncData} {ps : List Str} {x : Str} {e : Expr} {es : List Expr} {call : List D → Store → R D} {fs : Env → Store → R (List D)} {p pos : Pos} (F : FnG X.prog X.w X.K X.mg X.base (L2.CX X.prog X.w) k f fd ps (spG X.K c call n)) (hr : L2.Room k X.A) (hgd : X.A.guards = some []) (tk : L2.Takes X W)
    (hg : L2.Gl X x) (hm : X.mg x = some (.ref f)) (hk : PySem.W.keepIn X.K (.ref f) = true) (hb : L2.Binds X.K fd ps []) (ha : PA X (e :: es) (tA X.K c W fs)) (hn : ∀ e S, ∀ ds S', fs e S = .ok ds S' → ds.length = n)
    (hdb : (x == ("__debug__" : Str)) = false) (he : starEach (e :: es) X.env = (false, eval e X.env) :: starEach es X.env) (hpl : (backTo pos (starEach es X.env)).any (·.1) = false) :
    PE X (.Call (.Name x p) (e :: es) [] pos) (tE X.K c W fun e S => (fs e S).bind fun ds S1 => call ds S1) := by
  refine PE.imp (pe_callG F hr hgd hg hm hk hb (fun σ => L2.passAt tk σ) ha hdb he hpl) fun σ H Q h => ?_
  obtain ⟨e, m, S, re, s, h⟩ := h
  have hl : ∀ ds S', fs e S = .ok ds S' → ds.length = n := hn e S
  refine ⟨e, m, S, re, s, ?_⟩
  dsimp only at h
  revert h hl
  generalize fs e S = r
  intro h hl
  cases r with
  | bad => exact h
  | exc x S1 => exact h
  | ok ds S1 =>
    intro m1 H1 e1 s1 vs rvs
    have h1 : Aft X.K c W σ m1 H1 (call ds S1) _ := Aft.shift h e1
    refine ⟨by rw [← rvs.length]; exact hl ds S1 rfl, m1, S1, ds, rvs, s1, ?_⟩
    revert h1
    generalize call ds S1 = r
    intro h1
    cases r <;> exact h1
theorem pe_call0E {k : Nat} {f : Addr} {fd : FuncData} {ps : List Str} {x : Str} {call : List D → Store → R D} {p pos : Pos} (F : FnG X.prog X.w X.K X.mg X.base (L2.CX X.prog X.w) k f fd ps (spG X.K c call 0)) (hr : L2.Room k X.A) (hgd : X.A.guards = some []) (tk : L2.Takes X W)
    (hg : L2.Gl X x) (hm : X.mg x = some (.ref f)) (hk : PySem.W.keepIn X.K (.ref f) = true) (hb : L2.Binds X.K fd ps []) (hdb : (x == ("__debug__" : Str)) = false) :
    PE X (.Call (.Name x p) [] [] pos) (tE X.K c W fun e S => call [] S) := by
  refine ⟨fun pins s σ H Q I h => ?_⟩
  refine wpAny_Call_Name_kw (L2.ld_glob I hg hm ?_ hdb)
  obtain ⟨e, m, S, re, sm, h⟩ := h
  refine PySem.W.callWith_K0 I.kIn hk (runG (us := []) F hr hgd hb (L2.passAt tk σ) I .nil ⟨rfl, m, S, [], .nil, sm, ?_⟩)
  dsimp only at h
  revert h
  generalize call [] S = r
  intro h
  cases r <;> exact h

/-! ### what is walked -/
/-- J goes along the data l while the guard holds -/
structure Along (X : Cx) (c : Cfg) (J : L2.It) (l : List D) (g : Gd) (m : MM) (H : Hp) : Prop where
  go : ∀ (i : Nat) (d : D) (m2 : MM) (H2 : Hp) (S2 : Store), Exw m H m2 H2 → Sim X.K c m2 H2 S2 → gdOk S2 g → l[i]? = some d →
    J.go i H2 ∧ ∀ x H3, J.yld i H2 x H3 → Ext m2 H2 m2 H3 ∧ Sim X.K c m2 H3 S2 ∧ RV X.K c m2 H3 d x
  stop : ∀ (m2 : MM) (H2 : Hp) (S2 : Store), Exw m H m2 H2 → Sim X.K c m2 H2 S2 → gdOk S2 g → J.stop l.length H2
def tI (X : Cx) (c : Cfg) (W : WX) (f : Env → Store → R (List D × Gd)) : TI := fun σ H R => ∃ (e : Env) (m : MM) (S : Store), EnvR X.K c m H e σ ∧ Sim X.K c m H S ∧ Aft X.K c W σ m H (f e S) fun w _ m' H' => ∀ J, Along X c J w.1 w.2 m' H' → R J H'
theorem PI.imp {tg e : Expr} {t t' : TI} (h : PI X tg e t) (i : ∀ σ H R, t' σ H R → t σ H R) : PI X tg e t' := ⟨fun pins s σ H R I q => h.run pins s σ H R I (i _ _ _ q)⟩
/-- anything that is a list, a tuple, a text -/
def iAny (K : Frag) (tl : TE) : TI := fun σ H R => tl σ H fun x H1 => (∃ a, x = .ref a ∧ (∃ xs, SqL K H1 a xs) ∧ R (L2.Itl K a) H1) ∨ (∃ a, x = .ref a ∧ (∃ xs, SqT K H1 a xs) ∧ R (L2.Itt K a) H1) ∨ ∃ z, x = .str z ∧ R (L2.Its z) H1
theorem pi_any {tg l : Expr} {tl : TE} (hl : PE X l tl) : PI X tg l (iAny X.K tl) := by
  refine ⟨fun pins s σ H R I h => ?_⟩
  refine L2.thn (hl.run pins s σ H _ I h) fun v s1 ⟨x, H1, I1, r1, q1⟩ => ?_
  rcases q1 with ⟨a, rfl, ⟨xs, hq⟩, q⟩ | ⟨a, rfl, ⟨xs, hq⟩, q⟩ | ⟨z, rfl, q⟩
  · cases r1
    obtain ⟨its, rv, p, hz⟩ := I1.list hq
    refine wpAny_pyIter_list p.isList ?_
    refine ⟨s1.heap.objs.size, [s1.heap.objs.size], _, _, H1, rfl, I1.kept (t' := s1.toks) fun b o e => Heap.get?_push_of_some _ e, L2.turn_list a _, ⟨_, Heap.get?_push_size _ rfl, rfl, rfl⟩, fun b hb => ?_, q⟩
    have e : b = s1.heap.objs.size := by simpa using hb
    subst e
    exact I1.fpOk (Nat.le_refl _) (I1.hok.fresh (Nat.le_refl _))
  · cases r1
    obtain ⟨its, rv, p, hz⟩ := I1.tuple hq
    refine wpAny_pyIter_tuple (show s1.heap.IsTuple a its.toArray from p) ?_
    refine ⟨s1.heap.objs.size, [s1.heap.objs.size], _, _, H1, rfl, I1.kept (t' := s1.toks) fun b o e => Heap.get?_push_of_some _ e, L2.turn_tuple a _, ⟨_, Heap.get?_push_size _ rfl, rfl, rfl⟩, fun b hb => ?_, q⟩
    have e : b = s1.heap.objs.size := by simpa using hb
    subst e
    exact I1.fpOk (Nat.le_refl _) (I1.hok.fresh (Nat.le_refl _))
  · obtain ⟨t, rfl⟩ := r1
    cases ha : z.cps.all (· < 128)
    · exact wpAny_pyIter_wide ha (L2.pi_one (tk := s1.toks) I1 _ (L2.turn_str _ z t "str_iterator" (.inr rfl)) ⟨_, Heap.get?_push_size _ rfl, rfl, rfl⟩ q)
    · exact wpAny_pyIter_ascii ha (L2.pi_one (tk := s1.toks) I1 _ (L2.turn_str _ z t "str_ascii_iterator" (.inl rfl)) ⟨_, Heap.get?_push_size _ rfl, rfl, rfl⟩ q)
/-- the list stays as it was while the guard holds -/
theorem guard_sq {m m2 : MM} {H H2 : Hp} {S S2 : Store} {x : D} {u : V} {l : List D} (s : Sim X.K c m H S) (r : RV X.K c m H x u) (h : seqL S x = some l) (e : Exw m H m2 H2) (s2 : Sim X.K c m2 H2 S2) (g : gdOk S2 (gdOf S x)) :
    ∃ a vs, u = .ref a ∧ SqL X.K H2 a vs ∧ RVs X.K c m2 H2 l vs := by
  refine seqL_sq (S := S2) s2 (r.monoW s e) ?_
  cases x with
  | lst k => exact h
  | ref n =>
    simp only [seqL] at h
    simp only [gdOf] at g
    cases e1 : S[n]? with
    | none => rw [e1] at h; cases h
    | some o =>
      rw [e1] at h g
      cases o with
      | lst k =>
        cases h
        simp only [gdOk] at g
        simp only [seqL, g.1]
      | dic _ _ => cases h
  | _ => simp [seqL] at h
theorem along_list {m : MM} {H : Hp} {S : Store} {x : D} {a : Addr} {l : List D} {g : Gd} (s : Sim X.K c m H S) (r : RV X.K c m H x (.ref a)) (h : seqL S x = some l) (hg : ∀ S2, gdOk S2 g → gdOk S2 (gdOf S x)) : Along X c (L2.Itl X.K a) l g m H where
  go := fun i d m2 H2 S2 e s2 g hd => by
    obtain ⟨a', vs, e1, h1, h2⟩ := guard_sq s r h e s2 (hg _ g)
    cases e1
    obtain ⟨v, hv, rv⟩ := h2.getD hd
    refine ⟨⟨vs, v, h1, hv⟩, fun y H3 hy => ?_⟩
    obtain ⟨rfl, hy⟩ := hy
    have := hy vs h1
    rw [hv] at this; cases this
    exact ⟨.refl, s2, rv⟩
  stop := fun m2 H2 S2 e s2 g => by
    obtain ⟨a', vs, e1, h1, h2⟩ := guard_sq s r h e s2 (hg _ g)
    cases e1
    exact ⟨vs, h1, by rw [h2.length]; exact Nat.le_refl _⟩
theorem along_tup {m : MM} {H : Hp} {S : Store} {a : Addr} {vs : List V} {l : List D} {g : Gd} (s : Sim X.K c m H S) (h1 : SqT X.K H a vs) (h2 : RVs X.K c m H l vs) : Along X c (L2.Itt X.K a) l g m H where
  go := fun i d m2 H2 S2 e s2 g hd => by
    have h3 := e.tup s h1
    obtain ⟨v, hv, rv⟩ := (h2.monoW s e).getD hd
    refine ⟨⟨vs, v, h3, hv⟩, fun y H3 hy => ?_⟩
    obtain ⟨rfl, hy⟩ := hy
    have := hy vs h3
    rw [hv] at this; cases this
    exact ⟨.refl, s2, rv⟩
  stop := fun m2 H2 S2 e s2 g => ⟨vs, e.tup s h1, by rw [h2.length]; exact Nat.le_refl _⟩
theorem along_str {m : MM} {H : Hp} {z : Str} {g : Gd} : Along X c (L2.Its z) (z.cps.toList.map fun c => .str ⟨#[c]⟩) g m H where
  go := fun i d m2 H2 S2 e s2 g hd => by
    have W := L2.walk_str (z := z)
    rw [List.getElem?_map] at hd
    cases e1 : z.cps.toList[i]? with
    | none => rw [e1] at hd; cases hd
    | some cc =>
      rw [e1] at hd
      cases hd
      have hi : i < z.cps.size := by
        have := (List.getElem?_eq_some_iff.mp e1).1
        simpa using this
      refine ⟨W.goes i H2 hi trivial, fun y H3 hy => ?_⟩
      obtain ⟨rfl, c', hc, rfl⟩ := W.yields i H2 y H3 hi trivial hy
      rw [Array.getElem?_toList] at e1
      rw [e1] at hc; cases hc
      exact ⟨.refl, s2, .str _⟩
  stop := fun m2 H2 S2 e s2 g => by
    have W := L2.walk_str (z := z)
    rw [List.length_map, Array.length_toList]
    exact W.stops H2 trivial
theorem along_rng {m : MM} {H : Hp} {lo : Int} {n : Nat} {g : Gd} : Along X c (L2.Itr lo n) (rng lo n 1) g m H where
  go := fun i d m2 H2 S2 e s2 g hd => by
    unfold rng at hd
    rw [List.getElem?_map] at hd
    cases e1 : (List.range n)[i]? with
    | none => rw [e1] at hd; cases hd
    | some j =>
      rw [e1] at hd
      cases hd
      obtain ⟨hi, hj⟩ := List.getElem?_eq_some_iff.mp e1
      rw [List.getElem_range] at hj
      subst hj
      rw [List.length_range] at hi
      refine ⟨hi, fun y H3 hy => ?_⟩
      obtain ⟨rfl, rfl⟩ := hy
      show _ ∧ _ ∧ RV X.K c m2 _ (.int (lo + (i : Nat) * 1)) _
      rw [Int.mul_one]
      exact ⟨.refl, s2, .int _⟩
  stop := fun m2 H2 S2 e s2 g => by
    unfold rng
    rw [List.length_map, List.length_range]
    exact Nat.le_refl n
theorem pi_seqE {tg a : Expr} {fa : Env → Store → R D} (ha : PE X a (tE X.K c W fa)) : PI X tg a (tI X c W fun e S => (fa e S).bind fun x S1 => (R.ofO (itemsOf S1 x) S1).bind fun l S2 => .ok (l, gdOf S2 x) S2) := by
  refine PI.imp (pi_any ha) fun σ H R h => ?_
  obtain ⟨e, m, S, re, s, h⟩ := h
  refine ⟨e, m, S, re, s, h.bind.imp fun x S1 m1 H1 e1 s1 h1 v rv => ?_⟩
  obtain ⟨l, hl, h1⟩ := h1.bind.ofO s1
  have h1 := h1.now s1
  unfold itemsOf at hl
  split at hl
  · cases rv
    cases hl
    exact .inr (.inr ⟨_, rfl, h1 _ along_str⟩)
  · unfold seqA at hl
    split at hl
    · cases hl
      obtain ⟨a, vs, rfl, h2, h3⟩ := seqT_sq (x := .tup _) rv rfl
      exact .inr (.inl ⟨a, rfl, ⟨vs, h2⟩, h1 _ (along_tup s1 h2 h3)⟩)
    · obtain ⟨a, vs, rfl, h2, h3⟩ := seqL_sq s1 rv hl
      exact .inl ⟨a, rfl, ⟨vs, h2⟩, h1 _ (along_list s1 rv hl fun _ g => g)⟩
theorem pi_rng1E {tg a : Expr} {fa : Env → Store → R D} {p pos : Pos} (hg : L2.Gl X "range") (hm : X.mg "range" = none) (ha : PE X a (tE X.K c W fa)) (hs : starEach [a] X.env = [(false, eval a X.env)]) :
    PI X tg (.Call (.Name "range" p) [a] [] pos) (tI X c W fun e S => (fa e S).bind fun x S1 => match x with
      | .int j => if -(2 ^ 62) ≤ j ∧ j < 2 ^ 62 then .ok (rng 0 j.toNat 1, []) S1 else .bad
      | _ => .bad) := by
  refine PI.imp (L2.pi_range1 hg hm (L2.pa_cons ha L2.pa_nil hs) hs) fun σ H R h => ?_
  obtain ⟨e, m, S, re, s, h⟩ := h
  refine ⟨e, m, S, re, s, h.bind.imp fun x S1 m1 H1 e1 s1 h1 v rv => ?_⟩
  split at h1
  · cases rv
    obtain ⟨hz, h1⟩ := Aft.if_ h1
    exact ⟨_, rfl, hz.1, hz.2, h1.now s1 _ along_rng⟩
  · exact h1.elim
theorem pi_rng2E {tg a b : Expr} {fa fb : Env → Store → R D} {p pos : Pos} (hg : L2.Gl X "range") (hm : X.mg "range" = none) (ha : PE X a (tE X.K c W fa)) (hb : PE X b (tE X.K c W fb)) (hs : starEach [a, b] X.env = [(false, eval a X.env), (false, eval b X.env)]) (hs2 : starEach [b] X.env = [(false, eval b X.env)]) :
    PI X tg (.Call (.Name "range" p) [a, b] [] pos) (tI X c W fun e S => (fa e S).bind fun x S1 => (fb e S1).bind fun y S2 => match x, y with
      | .int i, .int j => if -(2 ^ 62) ≤ i ∧ i < 2 ^ 62 ∧ -(2 ^ 62) ≤ j ∧ j < 2 ^ 62 then .ok (rng i (j - i).toNat 1, []) S2 else .bad
      | _, _ => .bad) := by
  refine PI.imp (L2.pi_range2 hg hm (L2.pa_cons ha (L2.pa_cons hb L2.pa_nil hs2) (by rw [hs, hs2])) hs hs2) fun σ H R h => ?_
  obtain ⟨e, m, S, re, s, h⟩ := h
  refine ⟨e, m, S, re, s, h.bind.imp fun x S1 m1 H1 e1 s1 h1 u ru => ⟨e, m1, S1, re.mono s e1, s1, h1.bind.imp fun y S2 m2 H2 e2 s2 h2 v rv => ?_⟩⟩
  split at h2
  · cases ru; cases rv
    obtain ⟨hz, h2⟩ := Aft.if_ h2
    exact ⟨_, _, rfl, hz, h2.now s2 _ along_rng⟩
  · exact h2.elim
theorem along_enum {m : MM} {H : Hp} {S : Store} {x : D} {a : Addr} {l : List D} {g : Gd} (s : Sim X.K c m H S) (r : RV X.K c m H x (.ref a)) (h : seqL S x = some l) (hg : ∀ S2, gdOk S2 g → gdOk S2 (gdOf S x)) : Along X c (L2.Ite X.K a) (enumF 0 l) g m H := by
  have el : ∀ (l : List D) (n : Nat), (enumF n l).length = l.length := by
    intro l
    induction l with
    | nil => intro n; rfl
    | cons d r ih => intro n; simp [enumF, ih]
  have eg : ∀ (l : List D) (n i : Nat), (enumF n l)[i]? = l[i]?.map fun d => .wtp [.int ((n + i : Nat) : Int), d] := by
    intro l
    induction l with
    | nil => intro n i; simp [enumF]
    | cons d r ih =>
      intro n i
      cases i with
      | zero => simp [enumF]
      | succ i =>
        simp only [enumF, List.getElem?_cons_succ]
        rw [ih, show n + 1 + i = n + (i + 1) by omega]
  refine ⟨fun i d m2 H2 S2 e s2 g hd => ?_, fun m2 H2 S2 e s2 g => ?_⟩
  · obtain ⟨a', vs, e1, h1, h2⟩ := guard_sq s r h e s2 (hg _ g)
    cases e1
    rw [eg, Nat.zero_add] at hd
    cases e1 : l[i]? with
    | none => rw [e1] at hd; cases hd
    | some d' =>
      rw [e1] at hd
      cases hd
      obtain ⟨v, hv, rv⟩ := h2.getD e1
      refine ⟨⟨vs, v, h1, hv⟩, fun y H3 hy => ?_⟩
      obtain ⟨T, x', rfl, hT, rfl, hy⟩ := hy
      have := hy vs h1
      rw [hv] at this; cases this
      exact ⟨Ext.fresh hT s2, s2.fresh hT, RV.newWtp s2 hT (.cons (.int _) (.cons rv .nil))⟩
  · obtain ⟨a', vs, e1, h1, h2⟩ := guard_sq s r h e s2 (hg _ g)
    cases e1
    exact ⟨vs, h1, by rw [el, h2.length]; exact Nat.le_refl _⟩
theorem along_rngD {m : MM} {H : Hp} {lo : Int} {n : Nat} {g : Gd} : Along X c (L2.Itc lo (-1) n) (rng lo n (-1)) g m H where
  go := fun i d m2 H2 S2 e s2 g hd => by
    unfold rng at hd
    rw [List.getElem?_map] at hd
    cases e1 : (List.range n)[i]? with
    | none => rw [e1] at hd; cases hd
    | some j =>
      rw [e1] at hd
      cases hd
      obtain ⟨hi, hj⟩ := List.getElem?_eq_some_iff.mp e1
      rw [List.getElem_range] at hj
      subst hj
      rw [List.length_range] at hi
      refine ⟨hi, fun y H3 hy => ?_⟩
      obtain ⟨rfl, rfl⟩ := hy
      exact ⟨.refl, s2, .int _⟩
  stop := fun m2 H2 S2 e s2 g => by
    unfold rng
    rw [List.length_map, List.length_range]
    exact Nat.le_refl n
theorem zipF_get : ∀ (l k : List D) (i : Nat) (d : D), (zipF l k)[i]? = some d → ∃ a b, l[i]? = some a ∧ k[i]? = some b ∧ d = .wtp [a, b]
  | [], _, _, _, h => by simp [zipF] at h
  | _ :: _, [], _, _, h => by simp [zipF] at h
  | a :: r, b :: q, 0, d, h => by
    simp [zipF] at h
    exact ⟨a, b, rfl, rfl, h.symm⟩
  | a :: r, b :: q, i + 1, d, h => by
    simp only [zipF, List.getElem?_cons_succ] at h
    obtain ⟨x, y, h1, h2, h3⟩ := zipF_get r q i d h
    exact ⟨x, y, by simpa using h1, by simpa using h2, h3⟩
theorem zipF_len : ∀ (l k : List D), (zipF l k).length = min l.length k.length
  | [], _ => by simp [zipF]
  | _ :: _, [] => by simp [zipF]
  | a :: r, b :: q => by
    simp only [zipF, List.length_cons, zipF_len r q]
    omega
theorem gdOk_app {S : Store} : ∀ {g k : Gd}, gdOk S (g ++ k) → gdOk S g ∧ gdOk S k
  | [], _, h => ⟨True.intro, h⟩
  | (_, _) :: _, _, h => ⟨⟨h.1, (gdOk_app h.2).1⟩, (gdOk_app h.2).2⟩
theorem along_zip {m : MM} {H : Hp} {S : Store} {x y : D} {a b : Addr} {l k : List D} (s : Sim X.K c m H S) (r : RV X.K c m H x (.ref a)) (r2 : RV X.K c m H y (.ref b)) (h : seqL S x = some l) (h2 : seqL S y = some k) :
    Along X c (L2.Itz X.K a b) (zipF l k) (gdOf S x ++ gdOf S y) m H where
  go := fun i d m2 H2 S2 e s2 g hd => by
    obtain ⟨a', vs, e1, p1, p2⟩ := guard_sq s r h e s2 (gdOk_app g).1
    cases e1
    obtain ⟨b', us, e1, q1, q2⟩ := guard_sq s r2 h2 e s2 (gdOk_app g).2
    cases e1
    obtain ⟨d1, d2, k1, k2, rfl⟩ := zipF_get l k i d hd
    obtain ⟨v1, hv1, rv1⟩ := p2.getD k1
    obtain ⟨v2, hv2, rv2⟩ := q2.getD k2
    refine ⟨⟨vs, us, v1, v2, p1, q1, hv1, hv2⟩, fun z H3 hz => ?_⟩
    obtain ⟨T, x', y', rfl, hT, rfl, f1, f2⟩ := hz
    have f1 := f1 vs p1
    have f2 := f2 us q1
    rw [hv1] at f1; cases f1
    rw [hv2] at f2; cases f2
    exact ⟨Ext.fresh hT s2, s2.fresh hT, RV.newWtp s2 hT (.cons rv1 (.cons rv2 .nil))⟩
  stop := fun m2 H2 S2 e s2 g => by
    obtain ⟨a', vs, e1, p1, p2⟩ := guard_sq s r h e s2 (gdOk_app g).1
    cases e1
    obtain ⟨b', us, e1, q1, q2⟩ := guard_sq s r2 h2 e s2 (gdOk_app g).2
    cases e1
    refine ⟨vs, us, p1, q1, ?_⟩
    rw [zipF_len, p2.length, q2.length]
    omega
theorem along_zipT {m : MM} {H : Hp} {S : Store} {a b : Addr} {l k : List D} {vs us : List V} {g : Gd} (s : Sim X.K c m H S) (p1 : SqT X.K H a vs) (p2 : RVs X.K c m H l vs) (q1 : SqT X.K H b us) (q2 : RVs X.K c m H k us) :
    Along X c (RZ.ItzT X.K a b) (zipF l k) g m H where
  go := fun i d m2 H2 S2 e s2 g hd => by
    have p3 := e.tup s p1
    have q3 := e.tup s q1
    obtain ⟨d1, d2, k1, k2, rfl⟩ := zipF_get l k i d hd
    obtain ⟨v1, hv1, rv1⟩ := (p2.monoW s e).getD k1
    obtain ⟨v2, hv2, rv2⟩ := (q2.monoW s e).getD k2
    refine ⟨⟨vs, us, v1, v2, p3, q3, hv1, hv2⟩, fun z H3 hz => ?_⟩
    obtain ⟨T, x', y', rfl, hT, rfl, f1, f2⟩ := hz
    have f1 := f1 vs p3
    have f2 := f2 us q3
    rw [hv1] at f1; cases f1
    rw [hv2] at f2; cases f2
    exact ⟨Ext.fresh hT s2, s2.fresh hT, RV.newWtp s2 hT (.cons rv1 (.cons rv2 .nil))⟩
  stop := fun m2 H2 S2 e s2 g => by
    refine ⟨vs, us, e.tup s p1, e.tup s q1, ?_⟩
    rw [zipF_len, p2.length, q2.length]
    omega
theorem pi_rngDE {tg a b k : Expr} {fa fb fk : Env → Store → R D} {p pos : Pos} (hg : L2.Gl X "range") (hm : X.mg "range" = none) (ha : PE X a (tE X.K c W fa)) (hb : PE X b (tE X.K c W fb)) (hk : PE X k (tE X.K c W fk)) (hfk : ∀ e S, fk e S = .ok (.int (-1)) S)
    (hs : starEach [a, b, k] X.env = [(false, eval a X.env), (false, eval b X.env), (false, eval k X.env)]) (hs2 : starEach [b, k] X.env = [(false, eval b X.env), (false, eval k X.env)]) (hs3 : starEach [k] X.env = [(false, eval k X.env)]) :
    PI X tg (.Call (.Name "range" p) [a, b, k] [] pos) (tI X c W fun e S => (fa e S).bind fun x S1 => (fb e S1).bind fun y S2 => match x, y with
      | .int i, .int j => if -(2 ^ 62) ≤ i ∧ i < 2 ^ 62 ∧ -(2 ^ 62) ≤ j ∧ j < 2 ^ 62 then .ok (rng i (i - j).toNat (-1), []) S2 else .bad
      | _, _ => .bad) := by
  refine PI.imp (L2.pi_range3 hg hm (L2.pa_cons ha (L2.pa_cons hb (L2.pa_cons hk L2.pa_nil hs3) (by rw [hs2, hs3])) (by rw [hs, hs2])) (by rw [hs, hs2]) (by rw [hs2]; rfl)) fun σ H R h => ?_
  obtain ⟨e, m, S, re, s, h⟩ := h
  refine ⟨e, m, S, re, s, h.bind.imp fun x S1 m1 H1 e1 s1 h1 u ru => ⟨e, m1, S1, re.mono s e1, s1, h1.bind.imp fun y S2 m2 H2 e2 s2 h2 v rv => ⟨e, m2, S2, (re.mono s e1).mono s1 e2, s2, ?_⟩⟩⟩
  rw [hfk]
  split at h2
  · cases ru; cases rv
    obtain ⟨hz, h2⟩ := Aft.if_ h2
    intro m3 H3 e3 s3 w rw'
    cases rw'
    exact ⟨_, _, _, _, rfl, L2.RgC.neg hz.1 hz.2.1 hz.2.2.1 hz.2.2.2, h2 _ _ e3 s3 _ along_rngD⟩
  · exact h2.elim
theorem pi_zipE {elts : List Expr} {kk : Nat} {tpos : Pos} {a b : Expr} {fa fb : Env → Store → R D} {p pos : Pos} (hg : L2.Gl X "zip") (hm : X.mg "zip" = none) (ha : PE X a (tE X.K c W fa)) (hb : PE X b (tE X.K c W fb))
    (hs : starEach [a, b] X.env = [(false, eval a X.env), (false, eval b X.env)]) (hs2 : starEach [b] X.env = [(false, eval b X.env)]) :
    PI X (.Tuple elts kk tpos) (.Call (.Name "zip" p) [a, b] [] pos) (tI X c W fun e S => (fa e S).bind fun x S1 => (fb e S1).bind fun y S2 => match seqL S2 x, seqL S2 y with
      | some l, some k => .ok (zipF l k, gdOf S2 x ++ gdOf S2 y) S2
      | _, _ => match seqT x, seqT y with
        | some l, some k => .ok (zipF l k, []) S2
        | _, _ => .bad) := by
  refine PI.imp (RZ.pi_zipA hg hm (L2.pa_cons ha (L2.pa_cons hb L2.pa_nil hs2) (by rw [hs, hs2])) (by rw [hs, hs2]) (by rw [hs2]; rfl)) fun σ H R h => ?_
  obtain ⟨e, m, S, re, s, h⟩ := h
  refine ⟨e, m, S, re, s, h.bind.imp fun x S1 m1 H1 e1 s1 h1 u ru => ⟨e, m1, S1, re.mono s e1, s1, h1.bind.imp fun y S2 m2 H2 e2 s2 h2 v rv => ?_⟩⟩
  have ru := ru.mono s1 e2
  split at h2
  · rename_i l k p1 p2
    have h2 := h2.now s2
    obtain ⟨a1, vs, rfl, q1, q2⟩ := seqL_sq s2 ru p1
    obtain ⟨a2, us, rfl, q3, q4⟩ := seqL_sq s2 rv p2
    exact ⟨a1, a2, vs, us, rfl, .inl ⟨q1, q3, h2 _ (along_zip s2 ru rv p1 p2)⟩⟩
  · split at h2
    · rename_i l k p1 p2
      have h2 := h2.now s2
      obtain ⟨a1, vs, rfl, q1, q2⟩ := seqT_sq ru p1
      obtain ⟨a2, us, rfl, q3, q4⟩ := seqT_sq rv p2
      exact ⟨a1, a2, vs, us, rfl, .inr ⟨q1, q3, h2 _ (along_zipT s2 q1 q2 q3 q4)⟩⟩
    · exact h2.elim
end
end Mn

/-! Mn7: targets, comprehensions, loops. -/
namespace Mn
open PySem PySem.Spec PyProof.Rows
open L2 (V Hp HO Cx SqL SqT Rd St VK WX XK TE TA TS TT TG TI PE PA PS PSs PT PG PI Ends upd upd_same upd_ne OpR R2 Inv Dp DpAll UnR CallR Walk)

/-! ### targets -/
def setsS : List Nat → List V → L2.St → L2.St
  | i :: r, v :: vs, σ => setsS r vs (σ.set i (some v))
  | _, _, σ => σ
section
variable {X : Cx} {c : Cfg} {W : WX}
theorem asgs_env {m : MM} {H : Hp} : ∀ {is : List Nat} {ds : List D} {vs : List V} {e e' : Env} {σ : L2.St}, asgs is ds e = some e' → RVs X.K c m H ds vs → EnvR X.K c m H e σ → EnvR X.K c m H e' (setsS is vs σ) ∧ is.length = vs.length
  | [], _, _, _, _, _, h, .nil, re => by
    simp only [asgs, Option.some.injEq] at h
    subst h
    exact ⟨re, rfl⟩
  | [], _, _, _, _, _, h, .cons _ _, re => by simp [asgs] at h
  | i :: r, _, _, _, _, _, h, .nil, re => by simp [asgs] at h
  | i :: r, _, _, _, _, _, h, .cons h1 h2, re => by
    simp only [asgs] at h
    obtain ⟨h3, h4⟩ := asgs_env h h2 (re.set h1 i)
    exact ⟨h3, by simp [h4]⟩
theorem wipe_set {own : List Nat} {i : Nat} (hi : i ∈ own) : ∀ (σ : L2.St) (v : Option V), L2.wipe (σ.set i v) own = L2.wipe σ own := by
  induction own with
  | nil => cases hi
  | cons o r ih =>
    intro σ v
    unfold L2.wipe
    by_cases h : i ∈ r
    · rw [ih h]
    · have e : i = o := (List.mem_cons.mp hi).resolve_right h
      subst e
      have z : ∀ (r : List Nat) (σ : L2.St), i ∉ r → L2.wipe (σ.set i v) r = (L2.wipe σ r).set i v := by
        intro r
        induction r with
        | nil => intro σ _; rfl
        | cons a r ih2 =>
          intro σ hr
          unfold L2.wipe
          rw [ih2 σ fun z => hr (List.mem_cons_of_mem _ z)]
          rw [List.set_comm]
          exact fun z => hr (by rw [z]; exact List.mem_cons_self)
      rw [z r σ h, List.set_set]
theorem wipe_none : ∀ (own : List Nat) (σ : L2.St) (i : Nat), i ∈ own → (L2.wipe σ own).set i none = L2.wipe σ own
  | [], _, _, h => by cases h
  | o :: r, σ, i, h => by
    show ((L2.wipe σ r).set o none).set i none = (L2.wipe σ r).set o none
    by_cases e : i = o
    · subst e; rw [List.set_set]
    · have hr : i ∈ r := (List.mem_cons.mp h).resolve_left e
      rw [List.set_comm _ _ (fun z => e z.symm), wipe_none r σ i hr]
theorem wipe_idem' : ∀ (own r : List Nat) (σ : L2.St), (∀ i ∈ r, i ∈ own) → L2.wipe (L2.wipe σ own) r = L2.wipe σ own
  | _, [], _, _ => rfl
  | own, o :: r, σ, h => by
    show (L2.wipe (L2.wipe σ own) r).set o none = _
    rw [wipe_idem' own r σ fun i hi => h i (List.mem_cons_of_mem _ hi)]
    exact wipe_none own σ o (h o List.mem_cons_self)
theorem wipe_idem (own : List Nat) (σ : L2.St) : L2.wipe (L2.wipe σ own) own = L2.wipe σ own := wipe_idem' own own σ fun _ h => h
theorem wipe_sets {own : List Nat} : ∀ (is : List Nat) (vs : List V) (σ : L2.St), (∀ i ∈ is, i ∈ own) → L2.wipe (setsS is vs σ) own = L2.wipe σ own
  | [], _, _, _ => rfl
  | _ :: _, [], _, _ => rfl
  | i :: r, v :: vs, σ, h => by
    show L2.wipe (setsS r vs (σ.set i (some v))) own = _
    rw [wipe_sets r vs _ fun j hj => h j (List.mem_cons_of_mem _ hj)]
    exact wipe_set (h i List.mem_cons_self) σ _
def Tg.slots : Tg → List Nat
  | .nm i => [i]
  | .tp is => is
/-- a target's rule: what it asks of a value that is the datum -/
def TgOk (X : Cx) (c : Cfg) (tg : Tg) (g : TG) : Prop := ∀ (m : MM) (H : Hp) (d : D) (x : V) (e e' : Env) (σ : L2.St) (Q : L2.St → Hp → Prop), asg tg d e = some e' → RV X.K c m H d x → EnvR X.K c m H e σ →
  (∀ σ', EnvR X.K c m H e' σ' → (∀ own : List Nat, (∀ i ∈ tg.slots, i ∈ own) → L2.wipe σ' own = L2.wipe σ own) → Q σ' H) → g x σ H Q
theorem tg_nm (i : Nat) : TgOk X c (.nm i) (L2.gName i) := fun m H d x e e' σ Q h r re q => by
  simp only [asg, Option.some.injEq] at h
  subst h
  exact q _ (re.set r i) fun own ho => wipe_set (ho i (by simp [Tg.slots])) σ _
def gNames : List Nat → L2.TGs
  | [] => L2.gNil
  | i :: r => L2.gCons (L2.gName i) (gNames r)
theorem gNames_of : ∀ (is : List Nat) (vs : List V) (σ : L2.St) (H : Hp) (Q : L2.St → Hp → Prop), is.length = vs.length → Q (setsS is vs σ) H → gNames is vs σ H Q
  | [], [], _, _, _, _, q => ⟨rfl, q⟩
  | i :: r, v :: vs, σ, H, Q, h, q => ⟨v, vs, rfl, gNames_of r vs _ H Q (by simpa using h) q⟩
  | [], _ :: _, _, _, _, h, _ => by simp at h
  | _ :: _, [], _, _, _, h, _ => by simp at h
/-- (a, b, ..) = a tuple, or a list, of that length -/
def gSq (K : PySem.W.Frag) (n : Nat) (t : L2.TGs) : TG := fun v σ H Q => ∃ a xs, v = .ref a ∧ (SqT K H a xs ∨ SqL K H a xs) ∧ xs.length = n ∧ t xs σ H Q
theorem pg_sq {pos : Pos} {es : List Expr} {k : Nat} {t : L2.TGs} {n : Nat} (hc : X.calm = true) (h : L2.PGs X es t)
    (hn : (assignEach es X.env).length = n := by rfl) (hst : (assignEach es X.env).findIdx? (·.1) = none := by rfl) : PG X (.Tuple es k pos) (gSq X.K n t) := by
  refine ⟨fun pins s σ H v u Q I r hw => ?_⟩
  obtain ⟨a, xs, e1, hq, hl, hw⟩ := hw
  rcases hq with hq | hq
  · exact (L2.pg_tup hc h hn hst).run pins s σ H v u Q I r ⟨a, xs, e1, hq, hl, hw⟩
  · subst e1
    cases r
    obtain ⟨its, rv, hp, hz⟩ := I.list hq
    have hsz : (assignEach es X.env).length = its.toArray.size := by simp [hn, ← hl, rv.length]
    rw [assign_Tuple]
    refine wpAny_bind (wpAny_standAt ?_)
    unfold unpack
    rw [hsz, hst]
    refine wpAny_bind (wpAny_holding (PySem.W.kun_itemsOf (I.ok.hd hc) hp.isList fun h' hx => ?_))
    have I1 : L2.Inv X pins σ H { s with heap := h' } := I.kept (t' := s.toks) fun b o e => hx b o (Nat.ne_of_lt (Heap.lt_size e)) e
    exact h.run pins _ σ H xs _ Q I1 (by simpa using rv) hw
theorem tg_tp (is : List Nat) : TgOk X c (.tp is) (gSq X.K is.length (gNames is)) := fun m H d x e e' σ Q h r re q => by
  simp only [asg] at h
  split at h
  · rename_i l
    obtain ⟨a, vs, rfl, h1, h2⟩ := seqT_sq (x := .tup l) r rfl
    obtain ⟨h3, h4⟩ := asgs_env h h2 re
    exact ⟨a, vs, rfl, .inl h1, h4.symm, gNames_of is vs σ H Q h4 (q _ h3 fun own ho => wipe_sets is vs σ ho)⟩
  · cases r with
    | wtp h1 h2 =>
      obtain ⟨h3, h4⟩ := asgs_env h h2 re
      exact ⟨_, _, rfl, .inl h1, h4.symm, gNames_of is _ σ H Q h4 (q _ h3 fun own ho => wipe_sets is _ σ ho)⟩
  · cases r with
    | lst h1 h2 =>
      obtain ⟨h3, h4⟩ := asgs_env h h2 re
      exact ⟨_, _, rfl, .inr h1.sq, h4.symm, gNames_of is _ σ H Q h4 (q _ h3 fun own ho => wipe_sets is _ σ ho)⟩
  · cases h

/-! ### comprehensions -/
theorem compA_nil {α : Type} {g : Gd} {tg : Tg} {fc : Env → Store → R Bool} {ft : Env → Store → R D} {e0 : Env} {acc : List D} {S : Store} : compA g tg fc ft e0 [] acc S = if gdOk S g then .ok acc S else .bad := rfl
theorem lc_read {own : List Nat} {tg : Tg} {gt : TG} {v : Bool} {fi : Env → Store → R (List D × Gd)} {fc ft : Env → Store → R D} (ht : TgOk X c tg gt) (ho : ∀ i ∈ tg.slots, i ∈ own) :
    ∀ σ H Q, tE X.K c W (fun e S => (fi e S).bind fun w S1 => (compA w.2 tg (fun e S => tru (fc e S)) ft (wipe e own) w.1 [] S1).bind fun l S2 => mkL v l S2) σ H Q →
      L2.tLc (tI X c W fi) gt (tT X.K c (fun _ _ _ _ => False) fc) (tE X.K c (fun _ _ _ _ => False) ft) own σ H Q := by
  rintro σ H Q ⟨e, m, S, re, s, h⟩
  refine ⟨e, m, S, re, s, h.bind.imp fun w S1 m1 H1 e1 s1 h1 J al B hB => ?_⟩
  have re1 := re.mono s e1
  clear h
  obtain ⟨eB, sB⟩ := s1.tohide (o := .lst []) hB
  have h0 := Aft.bind0 h1
  have hBh : B ∉ m1.hid := (s1.none_out hB).2
  refine ⟨fun i n H => n = w.1.length - i ∧ i ≤ w.1.length ∧ ∃ (m2 : MM) (S2 : Store) (acc : List D) (accV : List V), Ext m1 H1 m2 H ∧ Sim X.K c m2 H S2 ∧ B ∈ m2.hid ∧ H B = some (.lst accV) ∧ RVs X.K c m2 H acc accV ∧
      Aft X.K c W σ m1 H1 (compA w.2 tg (fun e S => tru (fc e S)) ft (wipe e own) (w.1.drop i) acc S2) (fun a S1 _ _ => Aft X.K c W σ m1 H1 (mkL v a S1) fun d _ m' H' => ∀ v, RV X.K c m' H' d v → Q v H'),
    ⟨w.1.length, by simp, Nat.zero_le _, m1.hide B, S1, [], [], eB, sB, List.mem_cons_self, upd_same, .nil, h0⟩, ?_⟩
  rintro i n H ⟨rfl, hi, m2, S2, acc, accV, e2, s2, hb, hBv, ra, hA⟩
  by_cases hlt : i < w.1.length
  · rw [List.drop_eq_getElem_cons hlt] at hA
    obtain ⟨hgd, hA⟩ := Aft.if_ (show Aft X.K c W σ m1 H1 (if gdOk S2 w.2 then _ else .bad) _ from hA)
    cases ha : asg tg w.1[i] (wipe e own) with
    | none => rw [ha] at hA; exact hA.elim
    | some e3 =>
      rw [ha] at hA
      dsimp only at hA
      obtain ⟨hgo, hyl⟩ := al.go i w.1[i] m2 H S2 e2.w s2 hgd (List.getElem?_eq_getElem hlt)
      refine .inr ⟨hgo, _, fun H' hN => ⟨w.1.length - (i + 1), by omega, hN⟩, fun x H3 hy => ?_⟩
      obtain ⟨e4, s4, rd⟩ := hyl x H3 hy
      have e5 := e2.trans e4
      refine ht m2 H3 w.1[i] x (wipe e own) e3 (L2.wipe σ own) _ ha rd ((re1.mono s1 e5).wipe own) fun σ' re' hw => ⟨?_, ?_⟩
      · rw [hw own ho]
        exact wipe_idem own σ
      · have hc := (Aft.bind0 hA).shift e5
        refine ⟨e3, m2, S2, re', s4, Aft.imp (Aft.bind0 (show Aft X.K c (fun _ _ _ _ => False) σ' m2 H3 (tru (fc e3 S2)) _ from hc.nox)) fun d S5 m5 H5 e6 s5 hd => ?_⟩
        have e7 := e5.trans e6
        have hB5 : H5 B = some (.lst accV) := (e4.trans e6).keep B _ hBv (s2.hid B hb).2 fun ps z => by cases z
        have hb5 : B ∈ m5.hid := (e4.trans e6).hid.1 B hb
        have ra5 := ra.mono s2 (e4.trans e6)
        obtain ⟨b, htr, hd⟩ := (Aft.shift hd e6).ofO s5
        refine ⟨b, htr, ?_⟩
        cases b with
        | false =>
          simp only [Bool.false_eq_true, if_false] at hd ⊢
          exact ⟨(by first | rfl | trivial), hlt, m5, S5, acc, accV, e7, s5, hb5, hB5, ra5, hd⟩
        | true =>
          simp only [if_true] at hd ⊢
          refine ⟨e3, m5, S5, re'.mono s4 e6, s5, Aft.imp ((Aft.bind0 hd).shift e7).nox fun y S8 m8 H8 e8 s8 hz yv ry => ?_⟩
          obtain ⟨hzl, hz⟩ := Aft.if_ hz
          have hB8 : H8 B = some (.lst accV) := e8.keep B _ hB5 (s5.hid B hb5).2 fun ps z => by cases z
          have hb8 : B ∈ m8.hid := e8.hid.1 B hb5
          have ra8 := ra5.mono s5 e8
          refine ⟨accV, hB8, by rw [← ra8.length]; exact hzl, (by first | rfl | trivial), hlt, m8, S8, acc ++ [y], accV ++ [yv], (e7.trans e8).other hB (by rw [hB8]; simp), s8.other hb8 hB8, hb8, upd_same, ?_, hz⟩
          have hT : ∀ vs, H8 B ≠ some (.tup vs) ∧ ∀ o', H8 B ≠ some (.frz o' (.tup vs)) := fun us => ⟨by rw [hB8]; simp, fun o' => by rw [hB8]; simp⟩
          exact (ra8.append (.cons ry .nil)).other hb8 hT (fun φ => by rw [hB8]; simp)
  · have ei : i = w.1.length := by omega
    subst ei
    rw [List.drop_length] at hA
    obtain ⟨hgd, hA⟩ := Aft.if_ (show Aft X.K c W σ m1 H1 (if gdOk S2 w.2 then .ok acc S2 else .bad) _ from hA)
    refine .inl ⟨al.stop m2 H S2 e2.w s2 hgd, ?_⟩
    have hh : ∀ b ∈ m1.hid, b ∈ m2.hid := e2.hid.1
    have e9 : Ext m1 H1 ⟨m2.ix, m1.hid⟩ H := ⟨e2.pre, ⟨fun _ h => h, fun _ h => .inl h⟩, e2.keep, e2.stay⟩
    have hA := hA _ _ e9 (s2.unhide hh)
    dsimp only at hA
    unfold mkL at hA
    obtain ⟨hz, hA⟩ := Aft.if_ hA
    · cases v with
      | true => exact hA _ _ e9 (s2.unhide hh) _ (.lst (.inl ⟨.inl hBv, (s2.hid B hb).2, hBh⟩) (ra.unhide hh))
      | false =>
        obtain ⟨r, hr1, hr2⟩ := e2.pre
        have e10 : Ext m1 H1 ⟨m2.ix ++ [B], m1.hid⟩ H := ⟨⟨r ++ [B], by rw [hr1]; simp, fun a h => by
          rcases List.mem_append.mp h with h | h
          · exact hr2 a h
          · rw [List.mem_singleton.mp h]; exact hB⟩, ⟨fun _ h => h, fun _ h => .inl h⟩, e2.keep, e2.stay⟩
        refine hA _ _ e10 (s2.adopt hb hh hBh hBv ra) _ (.ref ?_)
        show (m2.ix ++ [B])[S2.length]? = some B
        rw [List.getElem?_append_right (by rw [s2.len]; exact Nat.le_refl _), s2.len]
        simp
end
end Mn

/-! MnC: list comprehensions of two clauses. -/
namespace Mn
open PySem PySem.Spec PyProof.Rows
open L2 (V Hp HO Cx SqL SqT Rd St VK WX XK TE TA TS TT TG TI PE PA PS PSs PT PG PI Ends upd upd_same upd_ne OpR R2 Inv Dp DpAll UnR CallR Walk)
section
variable {X : Cx} {c : Cfg} {W : WX}
/-- where the list that is being made stands -/
structure Mk (X : Cx) (c : Cfg) (m1 : MM) (H1 : Hp) (B : Addr) (m2 : MM) (H : Hp) (S2 : Store) (acc : List D) (accV : List V) : Prop where
  ext : Ext m1 H1 m2 H
  sim : Sim X.K c m2 H S2
  hid : B ∈ m2.hid
  at' : H B = some (.lst accV)
  rv : RVs X.K c m2 H acc accV
theorem Mk.step {m1 m2 m3 : MM} {H1 H2 H3 : Hp} {B : Addr} {S2 S3 : Store} {acc : List D} {accV : List V} (k : Mk X c m1 H1 B m2 H2 S2 acc accV) (e : Ext m2 H2 m3 H3) (s : Sim X.K c m3 H3 S3) : Mk X c m1 H1 B m3 H3 S3 acc accV :=
  ⟨k.ext.trans e, s, e.hid.1 B k.hid, e.keep B _ k.at' (k.sim.hid B k.hid).2 fun ps z => (by cases z), k.rv.mono k.sim e⟩
theorem Mk.add {m1 m2 : MM} {H1 H2 : Hp} {B : Addr} {S2 : Store} {acc : List D} {accV : List V} {y : D} {yv : V} (k : Mk X c m1 H1 B m2 H2 S2 acc accV) (hB : H1 B = none) (r : RV X.K c m2 H2 y yv) : Mk X c m1 H1 B m2 (upd H2 B (.lst (accV ++ [yv]))) S2 (acc ++ [y]) (accV ++ [yv]) := by
  have hT : ∀ vs, H2 B ≠ some (.tup vs) ∧ ∀ o', H2 B ≠ some (.frz o' (.tup vs)) := fun us => ⟨by rw [k.at']; simp, fun o' => by rw [k.at']; simp⟩
  exact ⟨k.ext.other hB (by rw [k.at']; simp), k.sim.other k.hid k.at', k.hid, upd_same, (k.rv.append (.cons r .nil)).other k.hid hT (fun φ => by rw [k.at']; simp)⟩
theorem lc2_read {own own1 : List Nat} {tg tg1 : Tg} {gt gt1 : TG} {v : Bool} {fi fi1 : Env → Store → R (List D × Gd)} {fc fc1 ft : Env → Store → R D} (ht : TgOk X c tg gt) (ho : ∀ i ∈ tg.slots, i ∈ own) (ht1 : TgOk X c tg1 gt1) (ho1 : ∀ i ∈ tg1.slots, i ∈ own1) :
    ∀ σ H Q, tE X.K c W (fun e S => (fi e S).bind fun w S1 => (comp2A w.2 tg (fun e S => tru (fc e S)) (fun e S => fi1 e S) (fun g1 e1 l acc S => compA g1 tg1 (fun e S => tru (fc1 e S)) ft (wipe e1 own1) l acc S) (wipe e own) w.1 [] S1).bind fun l S2 => mkL v l S2) σ H Q →
      L2.tLc2 (tI X c W fi) gt (tT X.K c (fun _ _ _ _ => False) fc) (tI X c (fun _ _ _ _ => False) fi1) gt1 (tT X.K c (fun _ _ _ _ => False) fc1) (tE X.K c (fun _ _ _ _ => False) ft) own own1 σ H Q := by
  rintro σ H Q ⟨e, m, S, re, s, h⟩
  refine ⟨e, m, S, re, s, h.bind.imp fun w S1 m1 H1 e1 s1 h1 J al B hB => ?_⟩
  have re1 := re.mono s e1
  clear h
  obtain ⟨eB, sB⟩ := s1.tohide (o := .lst []) hB
  have h0 := Aft.bind0 h1
  have hBh : B ∉ m1.hid := (s1.none_out hB).2
  generalize hK : (fun (a : List D) (S1 : Store) (_ : MM) (_ : Hp) => Aft X.K c W σ m1 H1 (mkL v a S1) fun d _ m' H' => ∀ v, RV X.K c m' H' d v → Q v H') = K at h0
  generalize hF : (fun (r acc : List D) (S' : Store) => comp2A w.2 tg (fun e S => tru (fc e S)) (fun e S => fi1 e S) (fun g1 e1 l acc S => compA g1 tg1 (fun e S => tru (fc1 e S)) ft (wipe e1 own1) l acc S) (wipe e own) r acc S') = F
  have hF' : ∀ r acc S', comp2A w.2 tg (fun e S => tru (fc e S)) (fun e S => fi1 e S) (fun g1 e1 l acc S => compA g1 tg1 (fun e S => tru (fc1 e S)) ft (wipe e1 own1) l acc S) (wipe e own) r acc S' = F r acc S' := fun r acc S' => by rw [← hF]
  rw [hF'] at h0
  refine ⟨fun i n H => n = w.1.length - i ∧ i ≤ w.1.length ∧ ∃ (m2 : MM) (S2 : Store) (acc : List D) (accV : List V), Mk X c m1 H1 B m2 H S2 acc accV ∧ Aft X.K c W σ m1 H1 (F (w.1.drop i) acc S2) K,
    ⟨w.1.length, by simp, Nat.zero_le _, m1.hide B, S1, [], [], ⟨eB, sB, List.mem_cons_self, upd_same, .nil⟩, h0⟩, ?_⟩
  rintro i n H ⟨rfl, hi, m2, S2, acc, accV, mk, hA⟩
  by_cases hlt : i < w.1.length
  · rw [List.drop_eq_getElem_cons hlt, ← hF'] at hA
    obtain ⟨hgd, hA⟩ := Aft.if_ (show Aft X.K c W σ m1 H1 (if gdOk S2 w.2 then _ else .bad) _ from hA)
    cases ha : asg tg w.1[i] (wipe e own) with
    | none => rw [ha] at hA; exact hA.elim
    | some e3 =>
      rw [ha] at hA
      dsimp only at hA
      obtain ⟨hgo, hyl⟩ := al.go i w.1[i] m2 H S2 mk.ext.w mk.sim hgd (List.getElem?_eq_getElem hlt)
      refine .inr ⟨hgo, fun H' => i + 1 ≤ w.1.length ∧ ∃ (m2 : MM) (S2 : Store) (acc : List D) (accV : List V), Mk X c m1 H1 B m2 H' S2 acc accV ∧ Aft X.K c W σ m1 H1 (F (w.1.drop (i + 1)) acc S2) K, fun H' hN => ⟨w.1.length - (i + 1), by omega, rfl, hN⟩, fun x H3 hy => ?_⟩
      obtain ⟨e4, s4, rd⟩ := hyl x H3 hy
      have mk3 := mk.step e4 s4
      refine ht m2 H3 w.1[i] x (wipe e own) e3 (L2.wipe σ own) _ ha rd ((re1.mono s1 mk3.ext).wipe own) fun σ' re' hw => ⟨?_, ?_⟩
      · rw [hw own ho]
        exact wipe_idem own σ
      · have hc := (Aft.bind0 hA).shift mk3.ext
        refine ⟨e3, m2, S2, re', s4, Aft.imp (Aft.bind0 (show Aft X.K c (fun _ _ _ _ => False) σ' m2 H3 (tru (fc e3 S2)) _ from hc.nox)) fun d S5 m5 H5 e6 s5 hd => ?_⟩
        have mk5 := mk3.step e6 s5
        obtain ⟨b, htr, hd⟩ := (Aft.shift hd e6).ofO s5
        refine ⟨b, htr, ?_⟩
        cases b with
        | false =>
          simp only [Bool.false_eq_true, if_false] at hd ⊢
          rw [hF'] at hd
          exact ⟨hlt, m5, S5, acc, accV, mk5, hd⟩
        | true =>
          simp only [if_true] at hd ⊢
          have re5 := re'.mono s4 e6
          refine ⟨e3, m5, S5, re5, s5, Aft.imp ((Aft.bind0 hd).shift mk5.ext).nox fun w1 S6 m6 H6 e8 s6 hd J1 al1 => ?_⟩
          have mk6 := mk5.step e8 s6
          have re6 := re5.mono s5 e8
          have hd := Aft.bind0 hd
          refine ⟨fun j k H => k = w1.1.length - j ∧ j ≤ w1.1.length ∧ ∃ (m7 : MM) (S7 : Store) (acc7 : List D) (accV7 : List V), Exw m6 H6 m7 H ∧ Mk X c m1 H1 B m7 H S7 acc7 accV7 ∧ Aft X.K c W σ m1 H1 (compA w1.2 tg1 (fun e S => tru (fc1 e S)) ft (wipe e3 own1) (w1.1.drop j) acc7 S7) (fun acc' S' _ _ => Aft X.K c W σ m1 H1 (F (w.1.drop (i + 1)) acc' S') K),
            ⟨w1.1.length, by simp, Nat.zero_le _, m6, S6, acc, accV, Ext.refl.w, mk6, ?_⟩, ?_⟩
          · refine Aft.imp hd fun a S' m' H' _ _ h => ?_
            rw [hF'] at h
            exact h
          · rintro j k H7 ⟨rfl, hj, m7, S7, acc7, accV7, e67, mk7, hA7⟩
            by_cases hlt1 : j < w1.1.length
            · rw [List.drop_eq_getElem_cons hlt1] at hA7
              obtain ⟨hgd1, hA7⟩ := Aft.if_ (show Aft X.K c W σ m1 H1 (if gdOk S7 w1.2 then _ else .bad) _ from hA7)
              cases ha1 : asg tg1 w1.1[j] (wipe e3 own1) with
              | none => rw [ha1] at hA7; exact hA7.elim
              | some e9 =>
                rw [ha1] at hA7
                dsimp only at hA7
                obtain ⟨hgo1, hyl1⟩ := al1.go j w1.1[j] m7 H7 S7 e67 mk7.sim hgd1 (List.getElem?_eq_getElem hlt1)
                refine .inr ⟨hgo1, fun H' => j + 1 ≤ w1.1.length ∧ ∃ (m7 : MM) (S7 : Store) (acc7 : List D) (accV7 : List V), Exw m6 H6 m7 H' ∧ Mk X c m1 H1 B m7 H' S7 acc7 accV7 ∧ Aft X.K c W σ m1 H1 (compA w1.2 tg1 (fun e S => tru (fc1 e S)) ft (wipe e3 own1) (w1.1.drop (j + 1)) acc7 S7) (fun acc' S' _ _ => Aft X.K c W σ m1 H1 (F (w.1.drop (i + 1)) acc' S') K),
                  fun H' hN => ⟨w1.1.length - (j + 1), by omega, rfl, hN⟩, fun x1 H8 hy1 => ?_⟩
                obtain ⟨e10, s8, rd1⟩ := hyl1 x1 H8 hy1
                have mk8 := mk7.step e10 s8
                have e68 := e67.trans e10
                refine ht1 m7 H8 w1.1[j] x1 (wipe e3 own1) e9 (L2.wipe σ' own1) _ ha1 rd1 ((re6.monoW s6 e68).wipe own1) fun σ3 re3 hw3 => ⟨?_, ?_⟩
                · rw [hw3 own1 ho1]
                  exact wipe_idem own1 σ'
                · have hc1 := (Aft.bind0 hA7).shift mk8.ext
                  refine ⟨e9, m7, S7, re3, s8, Aft.imp (Aft.bind0 (show Aft X.K c (fun _ _ _ _ => False) σ3 m7 H8 (tru (fc1 e9 S7)) _ from hc1.nox)) fun d9 S9 m9 H9 e11 s9 hd9 => ?_⟩
                  have mk9 := mk8.step e11 s9
                  have e69 := e68.trans e11
                  obtain ⟨b1, htr1, hd9⟩ := (Aft.shift hd9 e11).ofO s9
                  refine ⟨b1, htr1, ?_⟩
                  cases b1 with
                  | false =>
                    simp only [Bool.false_eq_true, if_false] at hd9 ⊢
                    exact ⟨hlt1, m9, S9, acc7, accV7, e69, mk9, hd9⟩
                  | true =>
                    simp only [if_true] at hd9 ⊢
                    refine ⟨e9, m9, S9, re3.mono s8 e11, s9, Aft.imp ((Aft.bind0 hd9).shift mk9.ext).nox fun y S10 m10 H10 e12 s10 hz yv ry => ?_⟩
                    obtain ⟨hzl, hz⟩ := Aft.if_ hz
                    have mk10 := mk9.step e12 s10
                    have e610 := e69.trans e12
                    refine ⟨accV7, mk10.at', by rw [← mk10.rv.length]; exact hzl, hlt1, m10, S10, acc7 ++ [y], accV7 ++ [yv], ?_, mk10.add hB ry, hz⟩
                    refine ⟨e610.pre, e610.hid, fun a u q1 q2 q3 q4 => ?_, fun a q => ?_⟩
                    · by_cases ea : a = B
                      · subst ea
                        rw [mk6.at'] at q1
                        cases q1
                        exact absurd rfl (q4 mk6.hid _)
                      · rw [upd_ne ea]; exact e610.keep a u q1 q2 q3 q4
                    · by_cases ea : a = B
                      · subst ea; rw [upd_same] at q; cases q
                      · rw [upd_ne ea] at q; exact e610.stay a q
            · have ej : j = w1.1.length := by omega
              subst ej
              rw [List.drop_length] at hA7
              obtain ⟨hgd1, hA7⟩ := Aft.if_ (show Aft X.K c W σ m1 H1 (if gdOk S7 w1.2 then .ok acc7 S7 else .bad) _ from hA7)
              have hfin := hA7 _ _ mk7.ext mk7.sim
              refine .inl ⟨al1.stop m7 H7 S7 e67 mk7.sim hgd1, hlt, m7, S7, acc7, accV7, mk7, hfin⟩
  · have ei : i = w.1.length := by omega
    subst ei
    rw [List.drop_length, ← hF'] at hA
    obtain ⟨hgd, hA⟩ := Aft.if_ (show Aft X.K c W σ m1 H1 (if gdOk S2 w.2 then .ok acc S2 else .bad) _ from hA)
    obtain ⟨e2, s2, hb, hBv, ra⟩ := mk
    refine .inl ⟨al.stop m2 H S2 e2.w s2 hgd, ?_⟩
    have hh : ∀ b ∈ m1.hid, b ∈ m2.hid := e2.hid.1
    have e9 : Ext m1 H1 ⟨m2.ix, m1.hid⟩ H := ⟨e2.pre, ⟨fun _ h => h, fun _ h => .inl h⟩, e2.keep, e2.stay⟩
    have hA := hA _ _ e9 (s2.unhide hh)
    rw [← hK] at hA
    have hA : Aft X.K c W σ m1 H1 (mkL v acc S2) fun d _ m' H' => ∀ v, RV X.K c m' H' d v → Q v H' := hA
    unfold mkL at hA
    obtain ⟨hz, hA⟩ := Aft.if_ hA
    · cases v with
      | true => exact hA _ _ e9 (s2.unhide hh) _ (.lst (.inl ⟨.inl hBv, (s2.hid B hb).2, hBh⟩) (ra.unhide hh))
      | false =>
        obtain ⟨r, hr1, hr2⟩ := e2.pre
        have e10 : Ext m1 H1 ⟨m2.ix ++ [B], m1.hid⟩ H := ⟨⟨r ++ [B], by rw [hr1]; simp, fun a h => by
          rcases List.mem_append.mp h with h | h
          · exact hr2 a h
          · rw [List.mem_singleton.mp h]; exact hB⟩, ⟨fun _ h => h, fun _ h => .inl h⟩, e2.keep, e2.stay⟩
        refine hA _ _ e10 (s2.adopt hb hh hBh hBv ra) _ (.ref ?_)
        show (m2.ix ++ [B])[S2.length]? = some B
        rw [List.getElem?_append_right (by rw [s2.len]; exact Nat.le_refl _), s2.len]
        simp
end
end Mn

/-! MnG: any, all of a generator expression, calls within let be. -/
namespace Mn
open PySem PySem.Spec PyProof.Rows GenW
open L2 (V Hp HO Cx SqL SqT Rd St VK WX XK TE TA TS TT TG TI PE PA PS PSs PT PG PI Ends upd upd_same upd_ne OpR R2 Inv Dp DpAll UnR CallR Walk FpOk Turn BlkOk Un HOk)

/-! ### a def's table grows -/
section
variable {K : Frag} {c : Cfg} {m m' : MM} {H H' : Hp} {S : Store}
theorem Ext.tabbed {P : Addr} {ps qs : Array Value} (hP : H P = some (.tbl ps)) : Ext m H m (upd H P (.tbl qs)) :=
  ⟨⟨[], by simp, by simp⟩, ⟨fun _ h => h, fun _ h => .inl h⟩, fun a u h _ ht => by
    have e : a ≠ P := fun z => by
      subst z
      rw [hP] at h
      exact ht ps (Option.some.inj h).symm
    rw [upd_ne e]; exact h, fun a h => by
    by_cases e : a = P
    · subst e; rw [upd_same] at h; cases h
    · rw [upd_ne e] at h; exact h⟩
theorem Sim.tabbed {P : Addr} {ps qs : Array Value} (s : Sim K c m H S) (hP : H P = some (.tbl ps)) (ht : TriplesOk qs.toList) : Sim K c m (upd H P (.tbl qs)) S := by
  have e := Ext.tabbed (m := m) (qs := qs) hP
  refine ⟨s.len, s.nd, fun a ha => ⟨upd_some (s.hid a ha).1, (s.hid a ha).2⟩, fun n ob h => ?_, fun P' hP' => ?_⟩
  · obtain ⟨a, u, h1, h2, h3⟩ := s.obj n ob h
    have ea : a ≠ P := fun z => by
      subst z
      rw [hP] at h2
      cases h2
      cases h3
    exact ⟨a, u, h1, by rw [upd_ne ea]; exact h2, h3.mono s e⟩
  · by_cases ep : P' = P
    · subst ep
      exact ⟨qs, upd_same, ht⟩
    · obtain ⟨ps', h1, h2⟩ := s.tab P' hP'
      exact ⟨ps', by rw [upd_ne ep]; exact h1, h2⟩
end

/-! ### the frame -/
/-- the frame of a generator expression that was made at s, its iterator's objects at fp, its own object go -/
abbrev genCx (X : Cx) (s : Shared) (H : Hp) (cenv : PySem.Env) (A : Around) (fp : List Addr) (go : Addr × Obj) : Cx :=
  { X with A := A, s_0 := s, H_0 := H, env := cenv, outer := X.stack, stack := cenv :: X.stack, ex := fp, fn := fun _ => false, pn := [go], xe := fun _ _ => False }
abbrev cloOf (X : Cx) (scope : Scope) : List (Str × Addr) := L2.cloFrom X.env.cells scope.names []
section
variable {X : Cx} {pins : List (Addr × Obj)} {σ : L2.St} {H : Hp} {s : Shared}
theorem gen_start {scope : Scope} {own : List (Str × Nat)} {fp : List Addr} {code : Value} {A : Around} {a : Addr} {go : Obj} {h5 : Heap} {g5 : Array GenState} {t5 : Nat} {it : Value} (I : Inv X pins σ H s) (ok : BlkOk X.N X.env.scope scope own) (hN : X.N.Nodup)
    (hnc : ∀ y ∈ scope.names, y.2 ≠ .cell) (hfp : ∀ b ∈ fp, FpOk X pins H b ∧ b < s.heap.objs.size) (hA : A.handled = none) (hfr : A.frames = some (genEnv scope (cloOf X scope) s.heap.objs.size code builtinsNs X.env :: X.stack))
    (hns : h5.Ns s.heap.objs.size (fun y => if y = ".0" then some it else none)) (hk : ∀ b o, s.heap.get? b = some o → h5.get? b = some o) (ha : s.heap.objs.size < a) (hgo : h5.get? a = some go) (hgd : ∀ v, go.data ≠ .cell v) (hg : AllBare g5) :
    Inv (genCx X s H (genEnv scope (cloOf X scope) s.heap.objs.size code builtinsNs X.env) A fp (a, go)) [] (L2.wipe σ (own.map (·.2))) H { s with heap := h5, gens := g5, toks := t5 } := by
  have hfree : ∀ y ∈ scope.names, y.2 = .free → ∃ c, X.env.cells.lookup y.1 = some c := fun y hy e => by
    rcases ok.free y hy e with k | k
    · exact I.ok.has _ (.inl k)
    · exact I.ok.has _ (.inr k)
  generalize hcenv : genEnv scope (cloOf X scope) s.heap.objs.size code builtinsNs X.env = cenv at hfr
  have hL : cenv.locals = s.heap.objs.size := by rw [← hcenv]; rfl
  have hcl : cenv.cells = L2.cloFrom X.env.cells scope.names [] := by rw [← hcenv]; rfl
  have hsc : cenv.scope = scope := by rw [← hcenv]; rfl
  have cm : ∀ {y c}, (y, c) ∈ L2.cloFrom X.env.cells scope.names [] → X.env.cells.lookup y = some c ∧ c < s.heap.objs.size := fun {y c} hm => by
    rcases L2.cloFrom_mem hm with hm | ⟨h1, rfl⟩
    · cases hm
    · obtain ⟨c, hc⟩ := hfree _ h1 rfl
      rw [hc]
      obtain ⟨w, z⟩ := I.cell _ _ hc
      exact ⟨rfl, z.lt⟩
  have mem : ∀ {y c}, cenv.cells.lookup y = some c → X.env.cells.lookup y = some c ∧ c < s.heap.objs.size := fun {y c} e => by
    rw [hcl] at e
    exact cm (PySem.mem_of_lookup e)
  have look : ∀ {y}, scope.names.lookup y = some .free → ∃ c, cenv.cells.lookup y = some c ∧ X.env.cells.lookup y = some c := fun {y} hl => by
    have hy : (y, NameKind.free) ∈ scope.names := PySem.mem_of_lookup hl
    obtain ⟨c', e'⟩ := L2.mem_lookup (L2.cloFrom_has (cells := X.env.cells) (acc := []) hy)
    rw [← hcl] at e'
    exact ⟨c', e', (mem e').1⟩
  have okB : (genCx X s H cenv A fp (a, go)).Ok := by
    refine ⟨I.ok.mod, by show cenv.scope.kind = _; rw [hsc]; exact ok.kind, by show cenv.globals = _; rw [← hcenv]; exact I.ok.glob, by show cenv.builtins = _; rw [← hcenv]; rfl, by show s.heap.objs.size ≤ cenv.locals; rw [hL]; exact Nat.le_refl _,
      fun y z c e1 e2 => I.ok.inj y z c (mem e1).1 (mem e2).1, fun y hy => ?_, fun y c z e => (by cases z), fun _ => hA, hfr, .inr ⟨rfl, by show cenv.frame = some cenv.locals; rw [← hcenv]; rfl⟩, fun b hb => ⟨?_, fun y c e z => ?_⟩, I.bs, Nat.le_trans I.ok.bsz I.sz, fun b o e hb => ?_, fun b hb z => ?_, I.stack, I.stkFree⟩
    · show ∃ c, cenv.cells.lookup y = some c
      have hy : cenv.kindOf y = some .cell ∨ cenv.kindOf y = some .free := hy
      unfold PySem.Env.kindOf at hy
      rw [hsc] at hy
      rcases hy with hy | hy
      · exact absurd rfl (hnc _ (PySem.mem_of_lookup hy))
      · obtain ⟨c, h1, _⟩ := look hy
        exact ⟨c, h1⟩
    · show b ≠ cenv.locals
      rw [hL]; exact Nat.ne_of_lt (hfp b hb).2
    · exact (hfp b hb).1.2.2.2.2.1 y c (mem e).1 z
    · rcases (hfp b hb).1.2.2.2.1 with z | z
      · exact I.ok.noex b o e z
      · exact absurd (Nat.lt_of_lt_of_le (Heap.lt_size e) (Nat.le_trans I.ok.bsz z)) (Nat.lt_irrefl _)
    · rcases List.mem_cons.mp (I.stkSub b z) with z | z
      · exact (hfp b hb).1.2.1 z
      · exact (hfp b hb).1.2.2.1 z
  refine ⟨okB, rfl, hg, Un.kept hk, ⟨(fun y => if y = ".0" then some it else none), ?_, fun i y av e1 e2 e3 => ?_⟩, fun y c e => ?_, ?_, fun y c e => ?_, fun p hp => ?_, I.hok.kept hk, by rw [L2.wipe_length]; exact I.len⟩
  · show h5.Ns cenv.locals _
    rw [hL]
    exact hns
  · obtain ⟨e2, hne⟩ := L2.wipe_some e2
    have no : ∀ k, scope.names.lookup y = some k → ¬ (k = .local ∨ k = .cell) := fun k e hh => by
      rcases ok.own _ (PySem.mem_of_lookup e) hh with e' | e'
      · obtain ⟨p, hp, hpy⟩ := List.mem_map.mp e'
        have e3 := ok.ix p hp
        have : p.1 = y := hpy
        rw [this] at e3
        exact hne (List.mem_map.mpr ⟨p, hp, L2.nodup_ix hN e3 e1⟩)
      · exact e' (List.mem_of_getElem? e1)
    have e3 : L2.Vis cenv.scope y := e3
    rw [hsc] at e3
    have hfr : scope.names.lookup y = some .free := by
      rcases e3 with e3 | e3 | e3
      · exact absurd (.inl rfl) (no _ e3)
      · exact absurd (.inr rfl) (no _ e3)
      · exact e3
    obtain ⟨m, hn, hl⟩ := I.loc
    have hvis : L2.Vis X.env.scope y := (ok.free _ (PySem.mem_of_lookup hfr) rfl).elim (fun k => .inr (.inl k)) (fun k => .inr (.inr k))
    obtain ⟨w, r, q⟩ := hl i y av e1 e2 hvis
    refine ⟨w, r, .inr ⟨.inr (by show cenv.scope.names.lookup y = _; rw [hsc]; exact hfr), ?_⟩⟩
    obtain ⟨c, h1, h2⟩ := look hfr
    rcases q with ⟨k, _⟩ | ⟨_, c', e', z⟩
    · have k : X.env.scope.names.lookup y = some .local := k
      rcases ok.free _ (PySem.mem_of_lookup hfr) rfl with k' | k' <;> rw [show X.env.scope.names.lookup y = _ from k'] at k <;> cases k
    · rw [h2] at e'; cases e'
      exact ⟨c, h1, z.keeps hk⟩
  · obtain ⟨w, z⟩ := I.cell y c (mem e).1
    exact ⟨w, z.keeps hk⟩
  · show H cenv.locals = none
    rw [hL]; exact I.hok.fresh (Nat.le_refl _)
  · exact I.freeC y c (mem e).1
  · have e : p = (a, go) := by simpa using hp
    subst e
    refine ⟨hgo, I.hok.fresh (Nat.le_of_lt ha), ?_, fun z => ?_, hgd⟩
    · show a ≠ cenv.locals
      rw [hL]
      exact Nat.ne_of_gt ha
    · have z : a ∈ L2.frs X.stack := z
      rcases List.mem_cons.mp (I.stkSub a z) with z | z
      · exact absurd (Nat.lt_trans (by rw [z]; exact I.lt) ha) (Nat.lt_irrefl _)
      · exact I.nofs (Nat.le_of_lt ha) z
end

/-! ### its run -/
/-- it has come to b -/
def Fin1 (Y : Cx) (Q : Bool → Hp → Prop) (b : Bool) (s : Shared) : Prop := ∃ pins σ H, Inv Y pins σ H s ∧ Q b H
def GP (Y : Cx) (q : Bool) (Q : Bool → Hp → Prop) : Protocol := fun _ _ v s kap => ∃ b, v = .bool b ∧ (∃ pins σ H, Inv Y pins σ H s) ∧ (b = q → ∀ s'' : Shared, s''.heap = s.heap → s''.os = s.os → AllBare s''.gens → kap (.send .none) s'') ∧ (b ≠ q → Fin1 Y Q b s)
def GE1 (Y : Cx) (q : Bool) (Q : Bool → Hp → Prop) : GenEnd := fun n _ r s => r = .ok .next ∧ n = 0 ∧ Fin1 Y Q q s
theorem Inv.same {Y : Cx} {pins : List (Addr × Obj)} {σ : L2.St} {H : Hp} {s s'' : Shared} (I : Inv Y pins σ H s) (hh : s''.heap = s.heap) (ho : s''.os = s.os) (hb : AllBare s''.gens) : Inv Y pins σ H s'' :=
  I.call' (ch := []) ho (by rw [hh]; exact Un.refl) (by rw [hh]; exact I.hok) hb fun b hb => absurd hb (by simp)
theorem genA_cons {g : Gd} {q : Bool} {tg : Tg} {t : Env → Store → R D} {e0 : Env} {d : D} {r : List D} {S : Store} : genA g q tg t e0 (d :: r) S = if gdOk S g then (match asg tg d e0 with
      | none => .bad
      | some e1 => (t e1 S).nox.bind fun y S1 => match y with
        | .bl b => if b = q then genA g q tg t e0 r S1 else .ok b S1
        | _ => .bad) else .bad := rfl
section
variable {Y : Cx} {c : Cfg} {W : WX}
theorem seg_gen {As : Around} {elt tg iter : Expr} {scope : Scope} {pos : Pos} {it : Addr} {fp : List Addr} {tn : Nat → Heap → Prop} {J : L2.It} {gt : TG} {tgE : Tg} {ft : Env → Store → R D} {q : Bool} {l : List D} {gd : Gd} {e0 : Env} {σ0 : L2.St} {m1 : MM} {H1 : Hp} {own : List Nat} {Q : Bool → Hp → Prop} {σA : L2.St} {S0 : Store}
    (hA : As.over (.compLoop (.GeneratorExp elt [⟨tg, iter, [], 0⟩] scope pos) 0 (.ref it) .none Y.env) [] = Y.A) (hco : Y.env.scope.isCoroutine = false) (hcalm : Y.calm = true) (hxe : ∀ e s, Y.xe e s → False) (T : Turn Y.prog Y.w Y.K tg J fp it tn)
    (stat : ∀ {σ' : L2.St} {H' : Hp} {s' : Shared}, Inv Y [] σ' H' s' → (∀ b ∈ fp, H' b = none) → ∀ b ∈ fp, FpOk Y [] H' b) (al : Along Y c J l gd m1 H1) (pg : PG Y tg gt) (ht : TgOk Y c tgE gt) (ho : ∀ i ∈ tgE.slots, i ∈ own)
    (pe : PE Y elt (tE Y.K c (fun _ _ _ _ => False) ft)) (re : EnvR Y.K c m1 H1 e0 σ0) (sm1 : Sim Y.K c m1 H1 S0) :
    ∀ (k i : Nat) (s₀ s : Shared) (H : Hp) (m2 : MM) (S2 : Store), l.length - i = k → i ≤ l.length → Inv Y [] (L2.wipe σ0 own) H s → tn i s.heap → (∀ b ∈ fp, H b = none) → Ext m1 H1 m2 H → Sim Y.K c m2 H S2 →
      Aft Y.K c W σA m1 H1 (genA gd q tgE ft (wipe e0 own) (l.drop i) S2) (fun b _ _ H' => Q b H') →
      Seg (model Y.prog Y.w) As (GE1 Y q Q) (GP Y q Q) k s₀ (.compLoop (.GeneratorExp elt [⟨tg, iter, [], 0⟩] scope pos) 0 (.ref it) .none Y.env)
        ((model Y.prog Y.w).den (.compLoop (.GeneratorExp elt [⟨tg, iter, [], 0⟩] scope pos) 0 (.ref it) .none Y.env)) [] s := by
  intro k
  induction k with
  | zero =>
    intro i s₀ s H m2 S2 hk hi I st nf x2 sm hAf
    have hin : i = l.length := by omega
    subst hin
    rw [List.drop_length] at hAf
    obtain ⟨hgd, hAf⟩ := Aft.if_ (show Aft Y.K c W σA m1 H1 (if gdOk S2 gd then .ok q S2 else .bad) _ from hAf)
    show Seg _ As _ _ _ s₀ _ ((compTurn (.GeneratorExp elt [⟨tg, iter, [], 0⟩] scope pos) 0 (.ref it) .none Y.env).onRaise (leaving Y.env)) [] s
    rw [compTurn_gen, Sem.onRaise_eq_wrap]
    refine seg_bind_wrap (wpAny_standAt ?_)
    refine seg_bind_wrap ?_
    rw [hA]
    refine L2.thnF (T.done Y rfl rfl rfl hcalm l.length [] s _ H (fun _ _ => False) I (stat I nf) st (al.stop m2 H S2 x2.w sm hgd)) fun r s6 ⟨hr, I6⟩ => ?_
    subst hr
    exact seg_end (.ok .next) ⟨rfl, rfl, [], _, H, I6, hAf m2 H x2 sm⟩
  | succ k ih =>
    intro i s₀ s H m2 S2 hk hi I st nf x2 sm hAf
    have hlt : i < l.length := by omega
    rw [List.drop_eq_getElem_cons hlt, genA_cons] at hAf
    obtain ⟨hgd, hAf⟩ := Aft.if_ hAf
    cases ha : asg tgE l[i] (wipe e0 own) with
    | none => rw [ha] at hAf; exact hAf.elim
    | some e3 =>
      rw [ha] at hAf
      dsimp only at hAf
      obtain ⟨hgo, hyl⟩ := al.go i l[i] m2 H S2 x2.w sm hgd (List.getElem?_eq_getElem hlt)
      show Seg _ As _ _ _ s₀ _ ((compTurn (.GeneratorExp elt [⟨tg, iter, [], 0⟩] scope pos) 0 (.ref it) .none Y.env).onRaise (leaving Y.env)) [] s
      rw [compTurn_gen, Sem.onRaise_eq_wrap]
      refine seg_bind_wrap (wpAny_standAt ?_)
      refine seg_bind_wrap ?_
      rw [hA]
      refine L2.thnF (T.item Y rfl rfl rfl hcalm i [] s _ H (fun _ _ => False) I (stat I nf) st hgo) fun r s6 ⟨u, hr, h6⟩ => ?_
      subst hr
      refine seg_bind_wrap ?_
      rw [hA]
      refine L2.thnF h6 fun _ s7 ⟨x, H7, I7, r7, y7, st7, n7⟩ => ?_
      obtain ⟨e4, s4, rd⟩ := hyl x H7 y7
      have x5 := x2.trans e4
      have I7' := I7.pinned (stat I7 n7) (T.obj _ _ st7)
      refine seg_bind_wrap ?_
      rw [hA]
      have hg : gt x (L2.wipe σ0 own) H7 fun σ8 H8 => L2.wipe σ8 own = L2.wipe σ0 own ∧ tE Y.K c (fun _ _ _ _ => False) ft σ8 H8 fun v H9 => ∃ b, v = .bl b ∧
          (b = q → ∃ (m3 : MM) (S3 : Store), Ext m1 H1 m3 H9 ∧ Sim Y.K c m3 H9 S3 ∧ Aft Y.K c W σA m1 H1 (genA gd q tgE ft (wipe e0 own) (l.drop (i + 1)) S3) (fun b _ _ H' => Q b H')) ∧ (b ≠ q → Q b H9) := by
        refine ht m2 H7 l[i] x (wipe e0 own) e3 (L2.wipe σ0 own) _ ha rd ((re.mono sm1 x5).wipe own) fun σ' re' hw => ⟨?_, ?_⟩
        · rw [hw own ho]
          exact wipe_idem own σ0
        · have hc := (Aft.bind0 hAf).shift x5
          refine ⟨e3, m2, S2, re', s4, Aft.imp hc.nox fun y S8 m8 H8 e8 s8 hz yv ry => ?_⟩
          cases y with
          | bl b =>
            cases ry
            refine ⟨b, rfl, fun hb => ?_, fun hb => ?_⟩
            · dsimp only at hz
              rw [if_pos hb] at hz
              exact ⟨m8, S8, x5.trans e8, s8, hz⟩
            · dsimp only at hz
              rw [if_neg hb] at hz
              exact hz m8 H8 (x5.trans e8) s8
          | _ => exact hz.elim
      refine wpAny_mono (pg.run _ s7 _ H7 x u _ I7' r7 hg) (fun _ s8 ⟨σ8, H8, I8, hw8, q8⟩ => ?_) fun _ _ z => (hxe _ _ z).elim
      refine seg_bind_wrap ?_
      simp only [List.forIn_nil]
      refine wpAny_pure ?_
      simp only [if_true]
      have hy : ∀ v, yieldOut Y.env v = yieldValue v := fun v => by simp only [yieldOut, hco, Bool.false_eq_true, if_false]
      simp only [hy]
      rw [Sem.bind_eq_wrap', Sem.bind_eq_wrap', Sem.wrap_wrap, Sem.wrap_wrap]
      refine seg_wrap ?_
      rw [hA]
      refine wpAny_mono (pe.run _ s8 σ8 H8 _ I8 q8) (fun u9 s9 ⟨v9, H9, I9, r9, b, hv, h1, h2⟩ => ?_) fun _ _ z => (hxe _ _ z).elim
      subst hv
      have eu : u9 = .bool b := r9
      subst eu
      refine seg_at (seg_yield rfl rfl rfl ⟨b, rfl, ⟨_, _, _, I9⟩, fun hb s'' hh hos hbare => ?_, fun hb => ⟨_, _, _, I9, h2 hb⟩⟩)
      obtain ⟨m3, S3, x3, sm3, h3⟩ := h1 hb
      have I10 := Inv.same I9 hh hos hbare
      have pin' : ∀ b ∈ fp, ∀ o, s7.heap.get? b = some o → s''.heap.get? b = some o ∧ H9 b = none := fun b hb o e =>
        let z := I10.pin (b, o) (List.mem_append_right _ (List.mem_append_right _ (L2.mem_pinsAt hb e)))
        ⟨z.1, z.2.1⟩
      have hl : (L2.wipe σ0 own).length = σ8.length := by rw [← hw8, L2.wipe_length]
      refine seg_again rfl (ih (i + 1) s'' s'' H9 m3 S3 (by omega) hlt ((I10.unpinned (pins := [])).weak hl (fun j v e => ?_)) (T.keep _ _ _ st7 fun b hb o e => (pin' b hb o e).1) (fun b hb => ?_) x3 sm3 h3)
      · rw [← hw8] at e
        exact (L2.wipe_some e).1
      · obtain ⟨o, e, _⟩ := T.obj _ _ st7 b hb
        exact (pin' b hb o e).2

/-- from its begin -/
theorem seg_gen0 {As : Around} {elt tg iter : Expr} {scope : Scope} {pos : Pos} {it : Addr} {fp : List Addr} {tn : Nat → Heap → Prop} {J : L2.It} {R : GenEnd} {P : Protocol} {n : Nat} {s₀ s : Shared} (T : Turn Y.prog Y.w Y.K tg J fp it tn) (st : tn 0 s.heap)
    (loop : Seg (model Y.prog Y.w) As R P n s₀ (.compLoop (.GeneratorExp elt [⟨tg, iter, [], 0⟩] scope pos) 0 (.ref it) .none Y.env)
        ((model Y.prog Y.w).den (.compLoop (.GeneratorExp elt [⟨tg, iter, [], 0⟩] scope pos) 0 (.ref it) .none Y.env)) [] s) :
    Seg (model Y.prog Y.w) As R P n s₀ (.compStart (.GeneratorExp elt [⟨tg, iter, [], 0⟩] scope pos) 0 (.ref it) .none Y.env)
        ((model Y.prog Y.w).den (.compStart (.GeneratorExp elt [⟨tg, iter, [], 0⟩] scope pos) 0 (.ref it) .none Y.env)) [] s := by
  show Seg _ As _ _ _ s₀ _ ((compStart (.GeneratorExp elt [⟨tg, iter, [], 0⟩] scope pos) 0 (.ref it) .none Y.env).onRaise (leaving Y.env)) [] s
  unfold compStart
  rw [Sem.onRaise_eq_wrap]
  show Seg _ As _ _ _ s₀ _ ((ask >>= _).wrap _ _ _ _) [] s
  refine seg_bind_wrap (wpAny_askSetting ?_)
  split
  · exact seg_again rfl loop
  · first
      | exact seg_bind_wrap (wpAny_rule (seg_bind_wrap (wpAny_standAt (seg_bind_wrap (T.self _ 0 s _ _ st (seg_again rfl loop))))))
      | (refine seg_bind_wrap (wpAny_rule ?_); show Seg _ As _ _ _ s₀ _ ((standAt iter.pos >>= _).wrap _ _ _ _) [] s; exact seg_bind_wrap (wpAny_standAt (seg_bind_wrap (T.self _ 0 s _ _ st (seg_again rfl loop)))))
end

/-! ### the one who asks -/
/-- the generator g at a, ready -/
structure RdyG (Y : Cx) (As : Around) (q : Bool) (Q : Bool → Hp → Prop) (a : Addr) (g n : Nat) (s : Shared) : Prop where
  inv : ∃ pins σ H, Inv Y pins σ H s
  gen : s.heap.IsGen a g
  st : ∃ gs, s.gens[g]? = some gs ∧ ∀ s'' : Shared, s''.heap = s.heap → s''.os = s.os → AllBare s''.gens → gs.Goes (model Y.prog Y.w) As (GE1 Y q Q) (GP Y q Q) n (.send .none) s''
theorem bare_set {gs : Array GenState} {g : Nat} {x : GenState} (h : AllBare gs) (hx : x.bare = true) : AllBare (gs.setIfInBounds g x) := by
  intro y hy
  obtain ⟨i, hi, rfl⟩ := Array.mem_iff_getElem.mp hy
  by_cases e : g = i
  · subst e
    simp only [Array.getElem_setIfInBounds_self]
    exact hx
  · rw [Array.getElem_setIfInBounds_ne _ e] 
    exact h _ (Array.getElem_mem _)
    simpa using hi
theorem Inv.genSet {Y : Cx} {pins : List (Addr × Obj)} {σ : L2.St} {H : Hp} {s : Shared} {g : Nat} {x : GenState} (I : Inv Y pins σ H s) (hx : x.bare = true) : Inv Y pins σ H (s.setGen g x) :=
  Inv.same I rfl rfl (bare_set I.bare hx)
section
variable {Y : Cx} {A : Around} {q : Bool} {Q : Bool → Hp → Prop} {a : Addr} {g : Nat} {go : Obj}
theorem next_gen {E : Value → Shared → Prop} {n : Nat} {s : Shared} {Q' : Option Value → Shared → Prop} (hh : A.handled = none) (hd : A.depth < recursionLimit) (hpn : Y.pn = [(a, go)]) (hgen : ∀ h : Heap, h.get? a = some go → h.IsGen a g)
    (r : RdyG Y A.in1 q Q a g n s) (hQ1 : ∀ s', Fin1 Y Q q s' → Q' none s') (hQ2 : ∀ b s', b ≠ q → Fin1 Y Q b s' → Q' (some (.bool b)) s') (hQ3 : ∀ m s', m < n → RdyG Y A.in1 q Q a g m s' → Q' (some (.bool q)) s') :
    wpAny (model Y.prog Y.w) A (pyNext (.ref a)) Q' E s := by
  obtain ⟨⟨pins, σ, H, I⟩, hg, gs, hgs, hgo⟩ := r
  have hlt : g < s.gens.size := (Array.getElem?_eq_some_iff.mp hgs).1
  refine wpAny_gsz (n := g + 1) hlt ?_
  refine wpAny_pyNext_genexpQ (P := fun n _ s => n = 0 ∧ Fin1 Y Q q s) (Y := GP Y q Q) (n := n) hh I.nolimit hd hg hgs (hgo _ rfl rfl (bare_set I.bare rfl)) (fun v s₁ gs' hb hv => ?_) (fun s₁ hp h' hk => ?_)
  · obtain ⟨b, rfl, ⟨pins1, σ1, H1, I1⟩, h1, h2⟩ := hv
    intro hsz
    by_cases e : b = q
    · subst e
      cases n with
      | zero => exact (h1 rfl s₁ rfl rfl I1.bare).elim
      | succ m =>
        have hpin := (I1.pin (a, go) (by rw [hpn]; exact List.mem_append_left _ List.mem_cons_self)).1
        refine hQ3 m _ (Nat.lt_succ_self m) ⟨⟨pins1, σ1, H1, Inv.genSet I1 hb⟩, hgen _ hpin, gs', ?_, fun s'' hh2 hos hb2 => h1 rfl s'' hh2 hos hb2⟩
        have hsz2 : g < s₁.gens.size := by
          have z : (s₁.setGen g gs').gens.size = s₁.gens.size := setGen_size _ _ _
          rw [z] at hsz
          exact hsz
        show (s₁.gens.setIfInBounds g gs')[g]? = some gs'
        rw [Array.getElem?_setIfInBounds_self, if_pos hsz2]
    · obtain ⟨pins2, σ2, H2, I2, q2⟩ := h2 e
      exact hQ2 b _ e ⟨pins2, σ2, H2, Inv.genSet I2 hb, q2⟩
  · obtain ⟨_, pins2, σ2, H2, I2, q2⟩ := hp
    intro _
    exact hQ1 _ ⟨pins2, σ2, H2, I2.call' (ch := []) rfl (Un.kept hk) (I2.hok.kept hk) (bare_set I2.bare rfl) fun b hb => absurd hb (by simp), q2⟩

theorem all_gen {R : Result → Shared → Prop} (hh : A.handled = none) (hd : A.depth < recursionLimit) (hpn : Y.pn = [(a, go)]) (hgen : ∀ h : Heap, h.get? a = some go → h.IsGen a g)
    (hR : ∀ b s', Fin1 Y Q b s' → R (.ok (.ret (.bool b))) s') : ∀ (n : Nat) (s : Shared), RdyG Y A.in1.in1 true Q a g n s → codeAny (model Y.prog Y.w) A (.builtin "all.loop" ⟨[.ref a], []⟩) R s := by
  intro n
  induction n using Nat.strongRecOn with
  | ind n ih =>
    intro s r
    refine codeAny_builtin PySem.F.entry_all_loop ?_
    rw [Around.under_plainId PySem.F.plain_all_loop _]
    show wpAny _ A.in1 (pyNext (.ref a) >>= _) _ _ s
    refine wpAny_bind (next_gen (A := A.in1) hh hd hpn hgen r (fun s' h => ?_) (fun b s' hb h => ?_) fun m s' hm h => ?_)
    · exact wpAny_bind (wpAny_rule (wpAny_pure (hR true s' h)))
    · refine wpAny_bind (wpAny_holding (wpAny_truthy_bool ?_))
      refine wpAny_bind (wpAny_letGo ?_)
      have eb : b = false := by cases b <;> simp_all
      subst eb
      simp only [Bool.false_eq_true, if_false]
      exact wpAny_bind (wpAny_rule (wpAny_pure (hR false s' h)))
    · refine wpAny_bind (wpAny_holding (wpAny_truthy_bool ?_))
      refine wpAny_bind (wpAny_letGo ?_)
      simp only [if_true]
      exact wpAny_pure ⟨plainId_quiet PySem.F.plain_all_loop _, ih m hm s' h⟩
theorem any_gen {R : Result → Shared → Prop} (hh : A.handled = none) (hd : A.depth < recursionLimit) (hpn : Y.pn = [(a, go)]) (hgen : ∀ h : Heap, h.get? a = some go → h.IsGen a g)
    (hR : ∀ b s', Fin1 Y Q b s' → R (.ok (.ret (.bool b))) s') : ∀ (n : Nat) (s : Shared), RdyG Y A.in1.in1 false Q a g n s → codeAny (model Y.prog Y.w) A (.builtin "any.loop" ⟨[.ref a], []⟩) R s := by
  intro n
  induction n using Nat.strongRecOn with
  | ind n ih =>
    intro s r
    refine codeAny_builtin PySem.F.entry_any_loop ?_
    rw [Around.under_plainId PySem.F.plain_any_loop _]
    show wpAny _ A.in1 (pyNext (.ref a) >>= _) _ _ s
    refine wpAny_bind (next_gen (A := A.in1) hh hd hpn hgen r (fun s' h => ?_) (fun b s' hb h => ?_) fun m s' hm h => ?_)
    · exact wpAny_bind (wpAny_rule (wpAny_pure (hR false s' h)))
    · refine wpAny_bind (wpAny_holding (wpAny_truthy_bool ?_))
      refine wpAny_bind (wpAny_letGo ?_)
      have eb : b = true := by cases b <;> simp_all
      subst eb
      simp only [if_true]
      exact wpAny_bind (wpAny_rule (wpAny_pure (hR true s' h)))
    · refine wpAny_bind (wpAny_holding (wpAny_truthy_bool ?_))
      refine wpAny_bind (wpAny_letGo ?_)
      simp only [Bool.false_eq_true, if_false]
      exact wpAny_pure ⟨plainId_quiet PySem.F.plain_any_loop _, ih m hm s' h⟩
end

/-! ### it is made -/
theorem over_genL {A : Around} {e : Expr} {gs : List Comprehension} {sc : Scope} {p : Pos} {it acc : Value} {env : PySem.Env} : A.over (.compLoop (.GeneratorExp e gs sc p) 0 it acc env) [] = A.deeper env := by
  first
    | rfl
    | (obtain ⟨hd, d, fr, gs, u⟩ := A; simp [Around.over, Around.deeper, marksOver, frameCount, unitsOf, envsOf, guardsOf, pushEnvs, pushGuards, Code.envs, Code.env?, Code.isFrame, Code.guards, Code.isGuard, Code.weight, Code.frames, Code.isCreation, Code.isCaller, Code.cUnits])
section
variable {X : Cx} {c : Cfg} {W : WX}
/-- what a generator that was made promises -/
def Made1 (X : Cx) (pins : List (Addr × Obj)) (σ : L2.St) (q : Bool) (Q : VK) (u : Value) (s5 : Shared) : Prop :=
  ∃ (Y : Cx) (a : Addr) (g n : Nat) (go : Obj), u = .ref a ∧ Y.prog = X.prog ∧ Y.w = X.w ∧ Y.pn = [(a, go)] ∧ (∀ h : Heap, h.get? a = some go → h.IsGen a g) ∧ RdyG Y X.A.in1.in1 q (fun b H' => Q (.bl b) H') a g n s5 ∧
    ∀ b s', Fin1 Y (fun b H' => Q (.bl b) H') b s' → ∃ H', Inv X pins σ H' s' ∧ Q (.bl b) H'
theorem gen_made {c0 P : Addr} {elt tg iter : Expr} {gpos : Pos} {scope : Scope} {own : List (Str × Nat)} {owns : List Nat} {q : Bool} {gt : TG} {tgE : Tg} {fi : Env → Store → R (List D × Gd)} {ft : Env → Store → R D} {pins : List (Addr × Obj)} {σ : L2.St} {H : Hp} {s : Shared} {Q : VK} {j : Nat}
    (hr : L2.Room (j + 1) X.A) (hgu : X.A.guards = some []) (hcalm : X.calm = true) (hN : X.N.Nodup) (TB : GxR.TabB X.base X.mg c0 P) (hcode : X.env.code = .ref c0) (hPt : P ∈ c.tabs) (ok : BlkOk X.N X.env.scope scope own) (hown : own.map (·.2) = owns) (hnc : ∀ y ∈ scope.names, y.2 ≠ .cell)
    (hdot : scope.names.lookup (".0" : Str) = some NameKind.local) (hco : scope.isCoroutine = false) (hi : PI X tg iter (tI X c W fi)) (hs : ∀ v, genFold iter X.env v = pure v) (ht : TgOk X c tgE gt) (ho : ∀ i ∈ tgE.slots, i ∈ owns)
    (pg : ∀ (s : Shared) (H : Hp) (C : Addr) (code : Value) (A : Around) (fp : List Addr) (go : Addr × Obj), PG (genCx X s H (genEnv scope (cloOf X scope) C code builtinsNs X.env) A fp go) tg gt)
    (pe : ∀ (s : Shared) (H : Hp) (C : Addr) (code : Value) (A : Around) (fp : List Addr) (go : Addr × Obj), L2.Room j A → A.guards = some [] → PE (genCx X s H (genEnv scope (cloOf X scope) C code builtinsNs X.env) A fp go) elt (tE X.K c (fun _ _ _ _ => False) ft))
    (I : Inv X pins σ H s) (h : tE X.K c W (fun e S => (fi e S).bind fun w S1 => (genA w.2 q tgE ft (wipe e owns) w.1 S1).bind fun b S2 => .ok (.bl b) S2) σ H Q) :
    wpAny (model X.prog X.w) X.A (eval (.GeneratorExp elt [⟨tg, iter, [], 0⟩] scope gpos) X.env) (Made1 X pins σ q Q) X.xe s := by
  have hfree : ∀ y ∈ scope.names, y.2 = .free → ∃ c, X.env.cells.lookup y.1 = some c := fun y hy e => by
    rcases ok.free y hy e with k | k
    · exact I.ok.has _ (.inl k)
    · exact I.ok.has _ (.inr k)
  subst hown
  refine wpAny_GeneratorExp_make hco (L2.closure_ok hfree) hnc hdot ok.kind hr.depth ?_ hs
  obtain ⟨e, m, S, re, sm, h⟩ := h
  have hT : tI X c W fi σ H fun J H' => ∃ (w : List D × Gd) (m1 : MM) (S1 : Store), Along X c J w.1 w.2 m1 H' ∧ EnvR X.K c m1 H' e σ ∧ Sim X.K c m1 H' S1 ∧ Aft X.K c W σ m1 H' (genA w.2 q tgE ft (wipe e (own.map (·.2))) w.1 S1) fun b _ _ H'' => Q (.bl b) H'' :=
    ⟨e, m, S, re, sm, h.bind.imp fun w S1 m1 H1 e1 s1 h1 J al => ⟨w, m1, S1, al, re.mono sm e1, s1, h1.bind.imp fun b S2 m2 H2 e2 s2 h2 => h2.now s2 _ (.bl b)⟩⟩
  refine L2.thn (hi.run pins s σ H _ I hT) fun xv s1 hx => L2.thn hx fun itv s2 h2 => ?_
  obtain ⟨it, fp, tn, J, H2, rfl, I2, T, st2, f2, w, m1, S1, al, re1, sm1, hAf⟩ := h2
  obtain ⟨ps, hP, htr⟩ := sm1.tab P hPt
  have hPs : s2.heap.get? P = some { cls := .none, data := .fields ps } := I2.hok P _ hP
  have cd : PySem.W.CodeHd s2.heap c0 P := TB.code.keeps fun b u e => I2.bk b u e
  have cont : ∀ (code : Value) (h3 : Heap) (tk : Nat) (ps' : Array Value), Heap.ExtBut P s2.heap h3 → h3.get? P = some { cls := .none, data := .fields ps' } → (∃ more, ps' = ps ++ more) → TriplesOk ps'.toList →
      wpAny (model X.prog X.w) X.A (builtinsFor X.env.globals X.env.builtins) (fun bi s₄ =>
        ∀ h', h'.Ns s₄.heap.objs.size (fun y => if y = ".0" then some (.ref it) else none) → Heap.SameBut s₄.heap.objs.size (s₄.heap.push { cls := .type "frame", data := .dict #[] }) h' →
          Made1 X pins σ q Q (.ref h'.objs.size) { s₄ with
            gens := s₄.gens.push (.fresh (.compStart (.GeneratorExp elt [⟨tg, iter, [], 0⟩] scope gpos) 0 (.ref it) .none (genEnv scope (cloOf X scope) s₄.heap.objs.size code bi X.env))),
            toks := s₄.toks + 1 + 1 + 1,
            heap := h'.push { cls := .type "generator", data := .fields #[.int s₄.gens.size 0, .str "<genexpr>" (s₄.toks + 1), .str (X.env.qual ++ "<genexpr>") (s₄.toks + 1 + 1)] } }) X.xe { s2 with heap := h3, toks := tk } := by
    intro code h3 tk ps' hx hP3 ⟨more, hmore⟩ ht3
    subst hmore
    obtain ⟨bm, ob, e1, e2, e3, e4, e5, e6, e7, e8⟩ := TB.bm
    have keep3 : ∀ b u, b ≠ P → s2.heap.get? b = some u → h3.get? b = some u := fun b u hb e => hx b u hb e
    refine wpAny_builtinsFor (m := X.mg) (by rw [I2.ok.glob]; exact (I2.mod.glob.keeps I2.bk).extBut hx TB.gP) e1 e2 (keep3 _ _ e4 (I2.bk _ _ e5)) e6 e7 e8 ?_
    intro h' hn' hs'
    generalize hs3 : ({ s2 with heap := h3, toks := tk } : Shared) = s3 at hn' hs' ⊢
    have I3 : Inv X pins σ (upd H2 P (.tbl (ps ++ more))) s3 := by
      rw [← hs3]
      exact GxR.inv_tab (g' := s2.gens) (d' := s2.drawn) I2 hP keep3 hP3 I2.bare
    have hsz : h'.objs.size = s3.heap.objs.size + 1 := by rw [hs'.1, Heap.size_push]
    generalize hgoE : ({ cls := .type "generator", data := .fields #[.int s3.gens.size 0, .str "<genexpr>" (s3.toks + 1), .str (X.env.qual ++ "<genexpr>") (s3.toks + 1 + 1)] } : Obj) = go
    have keep' : ∀ b o, s3.heap.get? b = some o → h'.get? b = some o := fun b o e => hs'.extBut b o (Nat.ne_of_lt (Heap.lt_size e)) (Heap.get?_push_of_some _ e)
    have keep5 : ∀ b o, s3.heap.get? b = some o → (h'.push go).get? b = some o := fun b o e => Heap.get?_push_of_some _ (keep' b o e)
    have hgo : (h'.push go).get? h'.objs.size = some go := Heap.get?_push_size _ (by subst hgoE; rfl)
    have hgd : ∀ v, go.data ≠ .cell v := fun v => by subst hgoE; exact fun z => by cases z
    have hgen : ∀ h : Heap, h.get? h'.objs.size = some go → h.IsGen h'.objs.size s3.gens.size := fun h e => by
      subst hgoE
      exact ⟨_, _, _, e, rfl, rfl, rfl⟩
    have nP : ∀ b, H2 b = none → b ≠ P := fun b e z => by rw [z, hP] at e; cases e
    have f3 : ∀ b ∈ fp, FpOk X pins (upd H2 P (.tbl (ps ++ more))) b ∧ b < s3.heap.objs.size := fun b hb => by
      refine ⟨⟨?_, (f2 b hb).2⟩, ?_⟩
      · rw [upd_ne (nP b (f2 b hb).1)]
        exact (f2 b hb).1
      · obtain ⟨o, e, _⟩ := T.obj _ _ st2 b hb
        have := keep3 b o (nP b (f2 b hb).1) e
        rw [← hs3]
        exact Heap.lt_size this
    have hb5 : AllBare (s3.gens.push (.fresh (.compStart (.GeneratorExp elt [⟨tg, iter, [], 0⟩] scope gpos) 0 (.ref it) .none (genEnv scope (cloOf X scope) s3.heap.objs.size code builtinsNs X.env)))) := I3.bare.push rfl
    generalize hce : genEnv scope (cloOf X scope) s3.heap.objs.size code builtinsNs X.env = cenv at hb5 ⊢
    have rY : L2.Room j (X.A.in1.in1.deeper cenv) := by
      refine ⟨hr.hd, ?_, ?_⟩
      · have := hr.dp
        show X.A.depth + 1 + 3 * j + 5 < _
        omega
      · have := hr.un
        show X.A.units + 1 + 1 + 3 + 16 * j + 200 < _
        omega
    have IY := gen_start (t5 := s3.toks + 1 + 1 + 1) (code := code) (A := X.A.in1.in1.deeper cenv) I3 ok hN hnc f3 hr.hd (by rw [hce]; exact Around.frames_deeper I3.ok.frames) (hn'.push go) keep5 (by rw [hsz]; exact Nat.lt_succ_self _) hgo hgd hb5
    rw [hce] at IY
    have pgY := pg s3 (upd H2 P (.tbl (ps ++ more))) s3.heap.objs.size code (X.A.in1.in1.deeper cenv) fp (h'.objs.size, go)
    have peY := pe s3 (upd H2 P (.tbl (ps ++ more))) s3.heap.objs.size code (X.A.in1.in1.deeper cenv) fp (h'.objs.size, go) rY hgu
    rw [hce] at pgY peY
    have st5 : tn 0 (h'.push go) := T.keep _ _ _ st2 fun b hb o e => keep5 b o (by rw [← hs3]; exact keep3 b o (nP b (f2 b hb).1) e)
    have n3 : ∀ b ∈ fp, upd H2 P (.tbl (ps ++ more)) b = none := fun b hb => (f3 b hb).1.1
    have x3 : Ext m1 H2 m1 (upd H2 P (.tbl (ps ++ more))) := Ext.tabbed hP
    have sm3 : Sim X.K c m1 (upd H2 P (.tbl (ps ++ more))) S1 := sm1.tabbed hP ht3
    refine ⟨genCx X s3 (upd H2 P (.tbl (ps ++ more))) cenv (X.A.in1.in1.deeper cenv) fp (h'.objs.size, go), h'.objs.size, s3.gens.size, w.1.length, go, rfl, rfl, rfl, rfl, hgen, ⟨⟨_, _, _, IY⟩, hgen _ hgo, _, Array.getElem?_push_size .., fun s'' hh hos hb => ⟨rfl, ?_⟩⟩, fun b s' hf => ?_⟩
    · have IY2 := Inv.same IY hh hos hb
      have st6 : tn 0 s''.heap := by rw [hh]; exact st5
      refine seg_gen0 (Y := genCx X s3 (upd H2 P (.tbl (ps ++ more))) cenv (X.A.in1.in1.deeper cenv) fp (h'.objs.size, go)) T st6 ?_
      refine seg_gen (Y := genCx X s3 (upd H2 P (.tbl (ps ++ more))) cenv (X.A.in1.in1.deeper cenv) fp (h'.objs.size, go)) (σ0 := σ) (own := own.map (·.2)) over_genL ?_ hcalm (fun _ _ z => z) T (fun {σ' H' s'} I' hn b hb => ?_) ⟨al.go, al.stop⟩ pgY ht ho peY re1 sm1 w.1.length 0 _ s'' _ m1 S1 (Nat.sub_zero _) (Nat.zero_le _) IY2 st6 n3 x3 sm3 hAf
      · show cenv.scope.isCoroutine = false
        rw [← hce]
        exact hco
      · refine ⟨hn b hb, (I'.ok.exf b hb).1, I'.ok.exfs b hb, .inl hb, fun x c e => (I'.ok.exf b hb).2 x c e, fun p hp => ?_⟩
        have ep : p = (h'.objs.size, go) := by simpa using hp
        subst ep
        exact fun z => by
          have := (f3 b hb).2
          have z2 : h'.objs.size = b := z
          rw [← z2, hsz] at this
          exact absurd (Nat.lt_trans (Nat.lt_succ_self _) this) (Nat.lt_irrefl _)
    · obtain ⟨pins', σ', H', I', q'⟩ := hf
      exact ⟨H', I3.call' (ch := fp) I'.os I'.base I'.hok I'.bare fun b hb => ⟨(f3 b hb).1.2.2.2.1, (f3 b hb).1.2.1, (f3 b hb).1.2.2.2.2.1, (f3 b hb).1.2.2.2.2.2⟩, q'⟩
  refine ⟨I2.nolimit, ?_⟩
  cases hf : codeAmong gpos ps.toList with
  | none =>
    refine wpAny_genexprCodeX hcode (cd.code hPs htr) (cd.tab hPs) hf fun c' h' tk hx hge hlt hco' _ htab' _ => ?_
    obtain ⟨o1, vs, f1, tf, fl, tg, inF, tx, tt, op, _, _, _, _, _, _, _, _, _, htr', _⟩ := hco'
    exact cont _ h' tk _ hx htab'.2 ⟨_, rfl⟩ htr'
  | some cv =>
    refine wpAny_genexprCode_hit hcode (cd.code hPs htr) hf ?_
    exact cont cv s2.heap s2.toks ps (Heap.ExtBut.refl _ _) hPs ⟨#[], by simp⟩ htr

/-! ### all(..), any(..) -/
theorem pe_qall {elt tg iter : Expr} {scope : Scope} {p pos gpos : Pos} {te : TE} (hd : X.A.depth < recursionLimit) (hh : X.A.handled = none) (hg : L2.Gl X "all") (hm : X.mg "all" = none)
    (hmk : ∀ (pins : List (Addr × Obj)) (s : Shared) (σ : L2.St) (H : Hp) (Q : VK), Inv X pins σ H s → te σ H Q → wpAny (model X.prog X.w) X.A (eval (.GeneratorExp elt [⟨tg, iter, [], 0⟩] scope gpos) X.env) (Made1 X pins σ true Q) X.xe s)
    (he : starEach [.GeneratorExp elt [⟨tg, iter, [], 0⟩] scope gpos] X.env = (false, eval (.GeneratorExp elt [⟨tg, iter, [], 0⟩] scope gpos) X.env) :: starEach [] X.env := by rfl) :
    PE X (.Call (.Name "all" p) [.GeneratorExp elt [⟨tg, iter, [], 0⟩] scope gpos] [] pos) te := by
  refine ⟨fun pins s σ H Q I h => ?_⟩
  refine wpAny_Call_Name_kw (L2.ld_blt I hg hm boot_all ?_)
  refine PyProof.Rows.callWith_builtin1 ?_ he (by rfl)
  rw [he]
  show wpAny _ _ (spliced ((false, eval (.GeneratorExp elt [⟨tg, iter, [], 0⟩] scope gpos) X.env) :: backTo pos (starEach [] X.env))) _ _ s
  refine Calls.spliced_cons (L2.thn (hmk pins s σ H Q I h) fun u s5 hM => ?_)
  obtain ⟨Y, a, g, n, go, rfl, hp, hw, hpn, hgen, r, hf⟩ := hM
  refine Calls.spliced_nil ?_
  refine call_function_tree PySem.F.kind_all PySem.F.plain_all PySem.F.entry_all (PySem.F.args_all1 _) ?_
  unfold Builtin.«all»
  refine wpAny_bind (m := oneArg "all" _) (wpAny_pure ?_)
  refine wpAny_bind (wpAny_pyIter_gen r.gen ?_)
  refine wpAny_pure ⟨plainId_quiet PySem.F.plain_all_loop _, ?_⟩
  rw [← hp, ← hw]
  refine all_gen (A := X.A) hh hd hpn hgen (fun b s' q => ?_) n s5 r
  obtain ⟨H', I', q'⟩ := hf b s' q
  have z : L2.EP X pins σ Q (.bool b) s' := ⟨.bl b, H', I', rfl, q'⟩
  first | exact z | simpa using z
theorem pe_qany {elt tg iter : Expr} {scope : Scope} {p pos gpos : Pos} {te : TE} (hd : X.A.depth < recursionLimit) (hh : X.A.handled = none) (hg : L2.Gl X "any") (hm : X.mg "any" = none)
    (hmk : ∀ (pins : List (Addr × Obj)) (s : Shared) (σ : L2.St) (H : Hp) (Q : VK), Inv X pins σ H s → te σ H Q → wpAny (model X.prog X.w) X.A (eval (.GeneratorExp elt [⟨tg, iter, [], 0⟩] scope gpos) X.env) (Made1 X pins σ false Q) X.xe s)
    (he : starEach [.GeneratorExp elt [⟨tg, iter, [], 0⟩] scope gpos] X.env = (false, eval (.GeneratorExp elt [⟨tg, iter, [], 0⟩] scope gpos) X.env) :: starEach [] X.env := by rfl) :
    PE X (.Call (.Name "any" p) [.GeneratorExp elt [⟨tg, iter, [], 0⟩] scope gpos] [] pos) te := by
  refine ⟨fun pins s σ H Q I h => ?_⟩
  refine wpAny_Call_Name_kw (L2.ld_blt I hg hm boot_any ?_)
  refine PyProof.Rows.callWith_builtin1 ?_ he (by rfl)
  rw [he]
  show wpAny _ _ (spliced ((false, eval (.GeneratorExp elt [⟨tg, iter, [], 0⟩] scope gpos) X.env) :: backTo pos (starEach [] X.env))) _ _ s
  refine Calls.spliced_cons (L2.thn (hmk pins s σ H Q I h) fun u s5 hM => ?_)
  obtain ⟨Y, a, g, n, go, rfl, hp, hw, hpn, hgen, r, hf⟩ := hM
  refine Calls.spliced_nil ?_
  refine call_function_tree PySem.F.kind_any PySem.F.plain_any PySem.F.entry_any (PySem.F.args_any1 _) ?_
  unfold Builtin.«any»
  refine wpAny_bind (m := oneArg "any" _) (wpAny_pure ?_)
  refine wpAny_bind (wpAny_pyIter_gen r.gen ?_)
  refine wpAny_pure ⟨plainId_quiet PySem.F.plain_any_loop _, ?_⟩
  rw [← hp, ← hw]
  refine any_gen (A := X.A) hh hd hpn hgen (fun b s' q => ?_) n s5 r
  obtain ⟨H', I', q'⟩ := hf b s' q
  have z : L2.EP X pins σ Q (.bool b) s' := ⟨.bl b, H', I', rfl, q'⟩
  first | exact z | simpa using z
end
end Mn

/-! Mn8: statements. -/
namespace Mn
open PySem PySem.Spec PyProof.Rows
open L2 (V Hp HO Cx SqL SqT Rd St VK WX XK TE TA TS TT TG TI PE PA PS PSs PT PG PI Ends upd upd_same upd_ne OpR R2 Inv Dp DpAll UnR CallR Walk)

/-- the wish leans on no slot -/
def CW (W : WX) : Prop := ∀ cls dx σ σ' H, W cls dx σ H → W cls dx σ' H
def FlowR (K : Frag) (c : Cfg) (D : Ends) (r : F) (m : MM) (H : Hp) : Prop := match r with
  | .nx e => ∀ σ, EnvR K c m H e σ → D.nx σ H
  | .rt d => ∀ v, RV K c m H d v → D.rt v H
  | .bk e => ∀ σ, EnvR K c m H e σ → D.bk σ H
  | .ct e => ∀ σ, EnvR K c m H e σ → D.ct σ H
def tS (K : Frag) (c : Cfg) (W : WX) (f : Env → Store → R F) : TS := fun D σ H => ∃ (e : Env) (m : MM) (S : Store), EnvR K c m H e σ ∧ Sim K c m H S ∧ Aft K c W σ m H (f e S) fun r _ m' H' => FlowR K c D r m' H'
section
variable {X : Cx} {c : Cfg} {W : WX}
theorem Aft.cst {α : Type} {K : Frag} {m : MM} {H : Hp} {σ σ' : L2.St} {r : R α} {k : α → Store → MM → Hp → Prop} (hW : CW W) (h : Aft K c W σ m H r k) : Aft K c W σ' m H r k := by
  cases r with
  | ok a S => exact h
  | exc x S => exact fun m' H' cls dx e s r => hW _ _ _ _ _ (h m' H' cls dx e s r)
  | bad => exact h

/-! ### blocks -/
theorem pss_nilE : PSs X [] (tS X.K c W fun e S => .ok (.nx e) S) := by
  refine PSs.imp L2.pss_nil fun D σ H h => ?_
  obtain ⟨e, m, S, re, s, h⟩ := h
  exact h.now s σ re
theorem pss_consE {st : Stmt} {rest : List Stmt} {f g : Env → Store → R F} (hW : CW W) (h1 : PS X st (tS X.K c W f)) (h2 : PSs X rest (tS X.K c W g)) :
    PSs X (st :: rest) (tS X.K c W fun e S => (f e S).bind fun r S1 => match r with
      | .nx e1 => g e1 S1
      | r => .ok r S1) := by
  refine PSs.imp (L2.pss_cons h1 h2) fun D σ H h => ?_
  obtain ⟨e, m, S, re, s, h⟩ := h
  refine ⟨e, m, S, re, s, h.bind.imp fun r S1 m1 H1 e1 s1 h1 => ?_⟩
  cases r with
  | nx e2 => exact fun σ' re' => ⟨e2, m1, S1, re', s1, Aft.cst hW h1⟩
  | rt d => exact (show Aft X.K c W σ m1 H1 (.ok (F.rt d) S1) _ from h1).now s1
  | bk d => exact (show Aft X.K c W σ m1 H1 (.ok (F.bk d) S1) _ from h1).now s1
  | ct d => exact (show Aft X.K c W σ m1 H1 (.ok (F.ct d) S1) _ from h1).now s1

/-! ### small ones -/
theorem ps_setE {i : Nat} {x : Str} {a : Expr} {fa : Env → Store → R D} {pos pos' : Pos} (hN : X.N.Nodup) (hi : X.N[i]? = some x) (hx : L2.Loc X.env.scope x) (ha : PE X a (tE X.K c W fa)) (hs : swapsWith a (some (.Name x pos')) pos.line X.env = pure false)
    (hf : X.fn x = true ∨ X.env.scope.names.lookup x = some .local) :
    PS X (.Assign [.Name x pos'] a pos) (tS X.K c W fun e S => (fa e S).bind fun d S1 => .ok (.nx (e.set i (some d))) S1) := by
  refine PS.imp (L2.ps_set (i := i) hN hi hx ha hs hf) fun D σ H h => ?_
  obtain ⟨e, m, S, re, s, h⟩ := h
  exact ⟨e, m, S, re, s, h.bind.imp fun d S1 m1 H1 e1 s1 h1 v rv => (h1.now s1) _ ((re.mono s e1).set rv i)⟩
theorem set_of {i : Nat} {fa : Env → Store → R D} {te : TE} (ht : ∀ σ H Q, tE X.K c W fa σ H Q → te σ H Q) :
    ∀ D σ H, tS X.K c W (fun e S => (fa e S).bind fun d S1 => .ok (.nx (e.set i (some d))) S1) D σ H → L2.tAsg te (L2.gName i) D σ H := by
  rintro D σ H ⟨e, m, S, re, s, h⟩
  exact ht _ _ _ ⟨e, m, S, re, s, h.bind.imp fun d S1 m1 H1 e1 s1 h1 v rv => (h1.now s1) _ ((re.mono s e1).set rv i)⟩
theorem unp_of {tg : Tg} {gt : TG} {fa : Env → Store → R D} (ht : TgOk X c tg gt) :
    ∀ D σ H, tS X.K c W (fun e S => (fa e S).bind fun x S1 => match asg tg x e with
      | some e1 => .ok (.nx e1) S1
      | none => .bad) D σ H → L2.tAsg (tE X.K c W fa) gt D σ H := by
  rintro D σ H ⟨e, m, S, re, s, h⟩
  refine ⟨e, m, S, re, s, h.bind.imp fun x S1 m1 H1 e1 s1 h1 v rv => ?_⟩
  cases ha : asg tg x e with
  | none => rw [ha] at h1; exact h1.elim
  | some e2 =>
    rw [ha] at h1
    exact ht m1 H1 x v e e2 σ _ ha rv (re.mono s e1) fun σ' re' _ => h1.now s1 σ' re'
theorem sets_of {fa fi fb : Env → Store → R D} :
    ∀ D σ H, tS X.K c W (fun e S => (fb e S).bind fun y S1 => (fa e S1).bind fun x S2 => (fi e S2).bind fun k S3 => (setA x k y S3).bind fun _ S4 => .ok (.nx e) S4) D σ H →
      L2.tAsg (tE X.K c W fb) (L2.gSub (tE X.K c W fa) (tE X.K c W fi) L2.rSetL) D σ H := by
  rintro D σ H ⟨e, m, S, re, s, h⟩
  refine ⟨e, m, S, re, s, h.bind.imp fun y S1 m1 H1 e1 s1 h1 w rw_ => ⟨e, m1, S1, re.mono s e1, s1, h1.bind.imp fun x S2 m2 H2 e2 s2 h2 u ru => ⟨e, m2, S2, (re.mono s e1).mono s1 e2, s2, h2.bind.imp fun k S3 m3 H3 e3 s3 h3 i ri => ?_⟩⟩⟩
  refine set_rv s3 (ru.mono s2 e3) ri ((rw_.mono s1 e2).mono s2 e3) (h3.bind.imp fun _ S4 m4 H4 e4 s4 h4 => ?_)
  exact h4.now s4 σ ((((re.mono s e1).mono s1 e2).mono s2 e3).mono s3 e4)
theorem ps_exprE {a : Expr} {fa : Env → Store → R D} {pos : Pos} (ha : PE X a (tE X.K c W fa)) (hs : swapsWith a none pos.line X.env = pure false) : PS X (.Expr a pos) (tS X.K c W fun e S => (fa e S).bind fun _ S1 => .ok (.nx e) S1) := by
  refine PS.imp (L2.ps_expr ha hs) fun D σ H h => ?_
  obtain ⟨e, m, S, re, s, h⟩ := h
  exact ⟨e, m, S, re, s, h.bind.imp fun d S1 m1 H1 e1 s1 h1 v rv => (h1.now s1) σ (re.mono s e1)⟩
theorem ps_retE {a : Expr} {fa : Env → Store → R D} {pos : Pos} (ha : PE X a (tE X.K c W fa)) : PS X (.Return (some a) pos) (tS X.K c W fun e S => (fa e S).bind fun d S1 => .ok (.rt d) S1) := by
  refine PS.imp (L2.ps_ret ha) fun D σ H h => ?_
  obtain ⟨e, m, S, re, s, h⟩ := h
  exact ⟨e, m, S, re, s, h.bind.imp fun d S1 m1 H1 e1 s1 h1 v rv => (h1.now s1) v rv⟩
theorem ps_retNE {pos : Pos} : PS X (.Return none pos) (tS X.K c W fun _ S => .ok (.rt .non) S) := by
  refine PS.imp L2.ps_retN fun D σ H h => ?_
  obtain ⟨e, m, S, re, s, h⟩ := h
  exact h.now s _ .non
/-- an own exception class without an own way to begin -/
structure ExcCl (K : Frag) (mg : Str → Option Value) (C : Addr) (x : String) : Prop where
  ex : ∃ (bmB : List Value) (B newId initId : String), ExcBaseFacts B newId initId bmB ∧ PySem.W.excIn K C bmB newId = true
  g : mg (Str.ofString x) = some (.ref C)
  k : PySem.W.keepIn K (.ref C) = true
  sb : PySem.W.subIn K (.ref C) (.type "BaseException") = some true
  ty : PySem.W.typeIn K (.ref C) = some (.type "type")
theorem ps_raiseE {C : Addr} {x : String} {e : Expr} {es : List Expr} {fs : Env → Store → R (List D)} {p pos pos' : Pos} (hca : c.ca x = some C) (F : ExcCl X.K X.mg C x) (hc : X.calm = true) (tk : L2.Takes X W) (hg : L2.Gl X (Str.ofString x)) (ha : PA X (e :: es) (tA X.K c W fs))
    (hdb : (Str.ofString x == ("__debug__" : Str)) = false) (he : starEach (e :: es) X.env = (false, eval e X.env) :: starEach es X.env) (hpl : (backTo pos (starEach es X.env)).any (·.1) = false) :
    PS X (.Raise (some (.Call (.Name (Str.ofString x) p) (e :: es) [] pos)) none pos') (tS X.K c W fun e S => (fs e S).bind fun ds S1 => if ds.length ≤ sizeLine then .exc (.exn x []) S1 else .bad) := by
  obtain ⟨bmB, B, newId, initId, F1, F2⟩ := F.ex
  refine PS.imp (L2.ps_raise hc tk (L2.pmk_ownA F1 F2 F.g F.k (L2.raises_own F.sb F.ty) hg ha hdb he hpl)) ?_
  rintro D σ H ⟨e, m, S, re, s, h⟩
  refine ⟨e, m, S, re, s, h.bind.imp fun ds S1 m1 H1 e1 s1 h1 vs rvs => ?_⟩
  obtain ⟨hz, h1⟩ := Aft.if_ h1
  exact ⟨by rw [← rvs.length]; exact hz, h1 m1 H1 _ _ .refl s1 (.own hca)⟩
theorem ps_passE {pos : Pos} : PS X (.Pass pos) (tS X.K c W fun e S => .ok (.nx e) S) := by
  refine PS.imp L2.ps_pass fun D σ H h => ?_
  obtain ⟨e, m, S, re, s, h⟩ := h
  exact h.now s _ re
theorem ps_brkE {pos : Pos} : PS X (.Break pos) (tS X.K c W fun e S => .ok (.bk e) S) := by
  refine PS.imp L2.ps_break fun D σ H h => ?_
  obtain ⟨e, m, S, re, s, h⟩ := h
  exact h.now s _ re
theorem ps_contE {pos : Pos} : PS X (.Continue pos) (tS X.K c W fun e S => .ok (.ct e) S) := by
  refine PS.imp L2.ps_continue fun D σ H h => ?_
  obtain ⟨e, m, S, re, s, h⟩ := h
  exact h.now s _ re
theorem ps_iteE {d : Expr} {a b : List Stmt} {fc : Env → Store → R D} {fa fb : Env → Store → R F} {pos : Pos} (hW : CW W) (hc : PT X d (tT X.K c W fc)) (ha : PSs X a (tS X.K c W fa)) (hb : PSs X b (tS X.K c W fb)) :
    PS X (.If d a b pos) (tS X.K c W fun e S => (tru (fc e S)).bind fun t S1 => if t = true then fa e S1 else fb e S1) := by
  refine PS.imp (L2.ps_if hc ha hb) fun D σ H h => ?_
  obtain ⟨e, m, S, re, s, h⟩ := h
  refine ⟨e, m, S, re, s, (Aft.bind h).bind.imp fun x S1 m1 H1 e1 s1 h1 => ?_⟩
  obtain ⟨b, hb, h1⟩ := h1.ofO s1
  refine ⟨b, hb, ?_⟩
  cases b with
  | true =>
    simp only [if_true] at h1 ⊢
    exact ⟨e, m1, S1, re.mono s e1, s1, h1⟩
  | false =>
    simp only [Bool.false_eq_true, if_false] at h1 ⊢
    exact ⟨e, m1, S1, re.mono s e1, s1, h1⟩

/-! ### op= -/
def rAug (X : Cx) (op : Operator) : L2.TIp := match op with
  | .Add => fun x y H Q => L2.rI0 (fun i j => .int (i + j)) x y H Q ∨ (∃ i j, x = .str i ∧ y = .str j ∧ i.length + j.length ≤ sizeLine ∧ Q (.str (i ++ j)) H)
  | .Sub => L2.rI0 fun i j => .int (i - j)
  | _ => fun _ _ _ _ => False
theorem or_aug (X : Cx) (op : Operator) : L2.PIp X op (rAug X op) := by
  cases op
  case Add => exact L2.iop_add.or L2.iop_add_str
  case Sub => exact L2.iop_sub
  all_goals exact fun _ _ _ _ _ _ _ _ _ _ _ _ h => h.elim
theorem ps_augE {i : Nat} {x : Str} {a : Expr} {fa : Env → Store → R D} {op : Operator} {pos pos' : Pos} (hN : X.N.Nodup) (hi : X.N[i]? = some x) (hx : L2.Loc X.env.scope x) (ha : PE X a (tE X.K c W fa)) (hf : X.fn x = true ∨ X.env.scope.names.lookup x = some .local) :
    PS X (.AugAssign (.Name x pos') op a pos) (tS X.K c W fun e S => match e[i]? with
      | some (some x) => (fa e S).bind fun y S1 => (augA op x y S1).bind fun z S2 => .ok (.nx (e.set i (some z))) S2
      | _ => .bad) := by
  refine PS.imp (L2.ps_aug (i := i) hN hi hx ha (or_aug X op) hf) fun D σ H h => ?_
  obtain ⟨e, m, S, re, s, h⟩ := h
  dsimp only at h
  split at h
  · rename_i d hd
    obtain ⟨v, h1, rv⟩ := re.at_ _ _ hd
    refine ⟨v, h1, e, m, S, re, s, h.bind.imp fun y S1 m1 H1 e1 s1 h2 w rw_ => ?_⟩
    have rv1 := rv.mono s e1
    have re1 := re.mono s e1
    clear h re
    have h3 := h2.bind
    unfold augA at h3
    split at h3
    · cases rv1; cases rw_
      exact .inl ⟨_, _, rfl, rfl, (h3.now s1).now s1 _ (re1.set (.int _) i)⟩
    · cases rv1; cases rw_
      exact ⟨_, _, rfl, rfl, (h3.now s1).now s1 _ (re1.set (.int _) i)⟩
    · cases rv1; cases rw_
      obtain ⟨hz, h3⟩ := Aft.if_ h3
      exact .inr ⟨_, _, rfl, rfl, hz, (h3.now s1).now s1 _ (re1.set (.str _) i)⟩
    · exact h3.elim
  · exact h.elim

/-! ### loops -/
theorem ps_forE {tg iter : Expr} {body : List Stmt} {tgE : Tg} {gt : TG} {fi : Env → Store → R (List D × Gd)} {fb : Env → Store → R F} {pos : Pos} (hW : CW W) (hp : PassesOwn (model X.prog X.w) X.A X.env X.xe) (hc : X.calm = true) (hi : PI X tg iter (tI X c W fi)) (hg : PG X tg gt)
    (ht : TgOk X c tgE gt) (hb : PSs X body (tS X.K c W fb)) (hs : ∀ x, foldedSetIterable iter X.env x = pure x) :
    PS X (.For tg iter body [] pos) (tS X.K c W fun e S => (fi e S).bind fun w S1 => forA w.2 tgE fb w.1 e S1) := by
  refine PS.imp (L2.ps_for hp hc hi hg hb hs) fun D σ H h => ?_
  obtain ⟨e, m, S, re, s, h⟩ := h
  refine ⟨e, m, S, re, s, h.bind.imp fun w S1 m1 H1 e1 s1 h1 J al => ?_⟩
  have re1 := re.mono s e1
  clear h
  refine ⟨fun i n σ' H' => n = w.1.length - i ∧ i ≤ w.1.length ∧ ∃ (e2 : Env) (m2 : MM) (S2 : Store), EnvR X.K c m2 H' e2 σ' ∧ Ext m1 H1 m2 H' ∧ Sim X.K c m2 H' S2 ∧ Aft X.K c W σ m2 H' (forA w.2 tgE fb (w.1.drop i) e2 S2) (fun r _ m' H' => FlowR X.K c D r m' H'),
    ⟨w.1.length, by simp, Nat.zero_le _, e, m1, S1, re1, .refl, s1, h1⟩, ?_⟩
  rintro i n σ2 H2 ⟨rfl, hi, e2, m2, S2, re2, x2, s2, hA⟩
  by_cases hlt : i < w.1.length
  · rw [List.drop_eq_getElem_cons hlt] at hA
    obtain ⟨hgd, hA⟩ := Aft.if_ (show Aft X.K c W σ m2 H2 (if gdOk S2 w.2 then _ else .bad) _ from hA)
    cases ha : asg tgE w.1[i] e2 with
    | none => rw [ha] at hA; exact hA.elim
    | some e3 =>
      rw [ha] at hA
      dsimp only at hA
      obtain ⟨hgo, hyl⟩ := al.go i w.1[i] m2 H2 S2 x2.w s2 hgd (List.getElem?_eq_getElem hlt)
      refine .inr ⟨hgo, _, fun σ' H' hN => ⟨w.1.length - (i + 1), by omega, hN⟩, fun x H3 hy => ?_⟩
      obtain ⟨e4, s4, rd⟩ := hyl x H3 hy
      refine ht m2 H3 w.1[i] x e2 e3 σ2 _ ha rd (re2.mono s2 e4) fun σ' re' _ => ⟨e3, m2, S2, re', s4, Aft.cst (σ := σ) hW ?_⟩
      refine Aft.imp ((Aft.bind hA).shift e4) fun r S5 m5 H5 e5 s5 h5 => ?_
      have x5 := (x2.trans e4).trans e5
      cases r with
      | nx e6 => exact fun σ6 re6 => ⟨rfl, hlt, e6, m5, S5, re6, x5, s5, h5⟩
      | ct e6 => exact fun σ6 re6 => ⟨rfl, hlt, e6, m5, S5, re6, x5, s5, h5⟩
      | bk e6 => exact fun σ6 re6 => (show Aft X.K c W σ m5 H5 (.ok (F.nx e6) S5) _ from h5).now s5 σ6 re6
      | rt d => exact fun v rv => (show Aft X.K c W σ m5 H5 (.ok (F.rt d) S5) _ from h5).now s5 v rv
  · have ei : i = w.1.length := by omega
    subst ei
    rw [List.drop_length] at hA
    obtain ⟨hgd, hA⟩ := Aft.if_ (show Aft X.K c W σ m2 H2 (if gdOk S2 w.2 then .ok (F.nx e2) S2 else .bad) _ from hA)
    exact .inl ⟨al.stop m2 H2 S2 x2.w s2 hgd, hA.now s2 σ2 re2⟩
theorem ps_whlE {N : Nat} {t : Expr} {body : List Stmt} {fc : Env → Store → R D} {fb : Env → Store → R F} {pos : Pos} (hW : CW W) (hp : PassesOwn (model X.prog X.w) X.A X.env X.xe) (hc : PT X t (tT X.K c W fc)) (hb : PSs X body (tS X.K c W fb)) :
    PS X (.While t body [] pos) (tS X.K c W fun e S => whileA N (fun e S => tru (fc e S)) fb e S) := by
  refine PS.imp (L2.ps_while hp hc hb) fun D σ H h => ?_
  refine ⟨fun n σ' H' => tS X.K c W (fun e S => whileA n (fun e S => tru (fc e S)) fb e S) D σ' H', ⟨N, h⟩, ?_⟩
  rintro n σ1 H1 ⟨e, m, S, re, s, h⟩
  cases n with
  | zero => exact h.elim
  | succ n =>
    have h := Aft.bind (show Aft X.K c W σ1 m H1 ((tru (fc e S)).bind _) _ from h)
    refine ⟨e, m, S, re, s, (Aft.bind (show Aft X.K c W σ1 m H1 (tru (fc e S)) _ from h)).imp fun x S1 m1 H1 e1 s1 h1 => ?_⟩
    obtain ⟨b, hb, h1⟩ := h1.ofO s1
    refine ⟨b, hb, ?_⟩
    cases b with
    | false =>
      simp only [Bool.false_eq_true, if_false] at h1 ⊢
      exact h1.now s1 _ (re.mono s e1)
    | true =>
      simp only [if_true] at h1 ⊢
      refine ⟨_, fun σ' H' hN => ⟨n, Nat.lt_succ_self n, hN⟩, e, m1, S1, re.mono s e1, s1, Aft.imp (Aft.bind h1) fun r S5 m5 H5 e5 s5 h5 => ?_⟩
      cases r with
      | nx e6 => exact fun σ6 re6 => ⟨e6, m5, S5, re6, s5, Aft.cst hW h5⟩
      | ct e6 => exact fun σ6 re6 => ⟨e6, m5, S5, re6, s5, Aft.cst hW h5⟩
      | bk e6 => exact fun σ6 re6 => (show Aft X.K c W σ1 m5 H5 (.ok (F.nx e6) S5) _ from h5).now s5 σ6 re6
      | rt d => exact fun v rv => (show Aft X.K c W σ1 m5 H5 (.ok (F.rt d) S5) _ from h5).now s5 v rv
end
end Mn

/-! MnD: dicts with told keys. -/
namespace Mn
open PySem PySem.Spec PyProof.Rows
open L2 (V Hp HO Cx SqL SqT Rd St VK WX XK TE TA TS TT TG TI PE PA PS PSs PT PG PI Ends upd upd_same upd_ne OpR R2 Inv Dp DpAll UnR CallR Walk)
theorem kvz_len : ∀ {ks : List Str} {vs : List V}, ks.length = vs.length → (kvz ks vs).length = ks.length
  | [], [], _ => rfl
  | _ :: _, _ :: _, h => by
    simp only [kvz, List.length_cons] at h ⊢
    rw [kvz_len (by omega)]
  | [], _ :: _, h => by simp at h
  | _ :: _, [], h => by simp at h
theorem idx_ne {x k : Str} {ks : List Str} (h : ¬ x = k) : (x :: ks).idxOf k = ks.idxOf k + 1 := by
  rw [List.idxOf_cons]
  have e : (x == k) = false := by simpa using h
  rw [e]
  rfl
theorem kvz_val {k : Str} {v : V} : ∀ {ks : List Str} {vs : List V}, k ∈ ks → vs[ks.idxOf k]? = some v → L2.valV (kvz ks vs) (.inr k) = some v
  | [], _, h, _ => by cases h
  | x :: ks, [], _, h => by simp at h
  | x :: ks, u :: vs, h, e => by
    by_cases hx : x = k
    · subst hx
      rw [List.idxOf_cons_self] at e
      simp only [kvz]
      rw [L2.valV_pos rfl]
      simpa using e
    · rw [idx_ne hx] at e
      simp only [kvz]
      rw [L2.valV_neg (by simpa using hx)]
      exact kvz_val (by rcases List.mem_cons.mp h with z | z
                        · exact absurd z.symm hx
                        · exact z) (by simpa using e)
theorem kvz_any {k : Str} : ∀ {ks : List Str} {vs : List V}, ks.length = vs.length → ((kvz ks vs).any fun kv => decide (kv.1 = (.inr k : L2.Key))) = decide (k ∈ ks)
  | [], [], _ => by simp [kvz]
  | x :: ks, u :: vs, h => by
    simp only [kvz, List.any_cons, kvz_any (k := k) (show ks.length = vs.length by simpa using h)]
    by_cases hx : x = k
    · subst hx; simp
    · simp [hx, Ne.symm hx]
  | [], _ :: _, h => by simp at h
  | _ :: _, [], h => by simp at h
theorem kvz_map {k : Str} {v : V} : ∀ {ks : List Str} {vs : List V}, ks.length = vs.length → ks.Nodup → k ∈ ks → (kvz ks vs).map (fun kv => if kv.1 = (.inr k : L2.Key) then (kv.1, v) else kv) = kvz ks (vs.set (ks.idxOf k) v)
  | [], _, _, _, h => by cases h
  | _ :: _, [], h, _, _ => by simp at h
  | x :: ks, u :: vs, hl, nd, h => by
    have nd2 := (List.nodup_cons.mp nd)
    by_cases hx : x = k
    · subst hx
      rw [List.idxOf_cons_self]
      simp only [kvz, List.map_cons, if_true, List.set_cons_zero]
      congr 1
      have : ∀ (ks : List Str) (vs : List V), x ∉ ks → (kvz ks vs).map (fun kv => if kv.1 = (.inr x : L2.Key) then (kv.1, v) else kv) = kvz ks vs := by
        intro ks
        induction ks with
        | nil => intro vs _; rfl
        | cons y ks ih =>
          intro vs hy
          cases vs with
          | nil => rfl
          | cons w vs =>
            have h1 : y ≠ x := fun z => hy (by simp [z])
            simp only [kvz, List.map_cons]
            rw [ih vs fun z => hy (by simp [z]), if_neg (by simpa using h1)]
      exact this ks vs nd2.1
    · rw [idx_ne hx]
      simp only [kvz, List.map_cons, List.set_cons_succ]
      rw [if_neg (by simpa using hx), kvz_map (by simpa using hl) nd2.2 (by rcases List.mem_cons.mp h with z | z
                                                                            · exact absurd z.symm hx
                                                                            · exact z)]
theorem kvz_put {k : Str} {v : V} {ks : List Str} {vs : List V} (hl : ks.length = vs.length) (nd : ks.Nodup) (h : k ∈ ks) : L2.putK (kvz ks vs) (.inr k) v = kvz ks (vs.set (ks.idxOf k) v) := by
  unfold L2.putK
  rw [kvz_any hl, if_pos (by simpa using h), kvz_map hl nd h]
theorem kvz_app : ∀ {ks : List Str} {vs : List V} {k : Str} {v : V}, ks.length = vs.length → kvz (ks ++ [k]) (vs ++ [v]) = kvz ks vs ++ [(.inr k, v)]
  | [], [], _, _, _ => rfl
  | x :: ks, u :: vs, k, v, h => by
    simp only [kvz, List.cons_append]
    rw [kvz_app (by simpa using h)]
  | [], _ :: _, _, _, h => by simp at h
  | _ :: _, [], _, _, h => by simp at h
theorem kvz_merge : ∀ {ks : List Str} {vs : List V} {ps : List Str} {us : List V}, ps.length = us.length → ks.length = vs.length → (ps ++ ks).Nodup → L2.mergeK (kvz ps us) (kvz ks vs) = kvz (ps ++ ks) (us ++ vs)
  | [], [], ps, us, _, _, _ => by simp [kvz, L2.mergeK]
  | [], _ :: _, _, _, _, h, _ => by simp at h
  | _ :: _, [], _, _, _, h, _ => by simp at h
  | k :: ks, v :: vs, ps, us, hp, hl, nd => by
    have h1 : k ∉ ps := fun z => by
      rw [List.nodup_append] at nd
      exact nd.2.2 k z k (by simp) rfl
    have e : L2.putK (kvz ps us) (.inr k) v = kvz (ps ++ [k]) (us ++ [v]) := by
      unfold L2.putK
      rw [kvz_any hp, if_neg (by simpa using h1), kvz_app hp]
    show L2.mergeK (L2.putK (kvz ps us) (.inr k) v) (kvz ks vs) = _
    rw [e, kvz_merge (by simp [hp]) (by simpa using hl) (by simpa using nd)]
    simp
section
variable {X : Cx} {c : Cfg} {W : WX}
theorem Sim.atD {K : Frag} {m : MM} {H : Hp} {S : Store} (s : Sim K c m H S) {n : Nat} {ks : List Str} {ds : List D} (h : S[n]? = some (.dic ks ds)) : ∃ a vs, m.ix[n]? = some a ∧ H a = some (.dK (kvz ks vs)) ∧ ks.length = vs.length ∧ RVs K c m H ds vs := by
  obtain ⟨a, u, h1, h2, h3⟩ := s.obj n _ h
  cases h3 with
  | dic hl nd h3 => exact ⟨a, _, h1, h2, by rw [hl, h3.length], h3⟩
theorem Sim.nodupD {K : Frag} {m : MM} {H : Hp} {S : Store} (s : Sim K c m H S) {n : Nat} {ks : List Str} {ds : List D} (h : S[n]? = some (.dic ks ds)) : ks.Nodup := by
  obtain ⟨a, u, h1, h2, h3⟩ := s.obj n _ h
  cases h3 with
  | dic hl nd h3 => exact nd
theorem noSl_str {k : Str} {j : Nat} {p : Pos} : L2.NoSl (.Constant (.str k) j p) := fun ov iv => rfl
theorem pe_dgetE {o : Expr} {k : Str} {j : Nat} {p pos : Pos} {fo : Env → Store → R D} (hu : X.A.units + 1 < cLine) (ho : PE X o (tE X.K c W fo)) (hk : PE X (.Constant (.str k) j p) (tE X.K c W fun _ S => .ok (.str k) S)) :
    PE X (.Subscript o (.Constant (.str k) j p) pos) (tE X.K c W fun e S => (fo e S).bind fun x S1 => dgetA x k S1) := by
  refine PE.imp (L2.pe_dget hu ho hk noSl_str) ?_
  rintro σ H Q ⟨e, m, S, re, s, h⟩
  refine ⟨e, m, S, re, s, h.bind.imp fun x S1 m1 H1 e1 s1 h1 u ru => ⟨e, m1, S1, re.mono s e1, s1, ?_⟩⟩
  intro m2 H2 e2 s2 w rw'
  cases rw'
  have h1 := h1.shift e2
  have ru := ru.mono s1 e2
  unfold dgetA at h1
  split at h1
  · rename_i n
    cases ru with
    | ref r1 =>
      split at h1
      · rename_i ks ds q
        obtain ⟨d, hd, h1⟩ := h1.ofO s2
        obtain ⟨a, vs, p1, p2, p3, p4⟩ := s2.atD q
        rw [r1] at p1; cases p1
        by_cases hk : k ∈ ks
        · rw [if_pos hk] at hd
          obtain ⟨v, hv, rv⟩ := p4.getD hd
          refine ⟨_, v, rfl, ?_, h1 v rv⟩
          have := L2.DGet.k (k := (.inr k : L2.Key)) p2
          rwa [kvz_val hk hv] at this
        · rw [if_neg hk] at hd; cases hd
      · exact h1.elim
  · exact h1.elim
/-- d[k] = v -/
theorem ps_dputE {o value : Expr} {k : Str} {j : Nat} {p pos pos' : Pos} {fo fv : Env → Store → R D} (hu : X.A.units + 1 < cLine) (ho : PE X o (tE X.K c W fo)) (hk : PE X (.Constant (.str k) j p) (tE X.K c W fun _ S => .ok (.str k) S)) (hv : PE X value (tE X.K c W fv))
    (hs : swapsWith value (some (.Subscript o (.Constant (.str k) j p) pos')) pos.line X.env = pure false) :
    PS X (.Assign [.Subscript o (.Constant (.str k) j p) pos'] value pos) (tS X.K c W fun e S => (fv e S).bind fun y S1 => (fo e S1).bind fun x S2 => (dputA x k y S2).bind fun _ S3 => .ok (.nx e) S3) := by
  refine PS.imp (L2.ps_dput hu ho hk hv hs) ?_
  rintro D σ H ⟨e, m, S, re, s, h⟩
  refine ⟨e, m, S, re, s, h.bind.imp fun y S1 m1 H1 e1 s1 h1 w rw_ => ⟨e, m1, S1, re.mono s e1, s1, h1.bind.imp fun x S2 m2 H2 e2 s2 h2 u ru => ⟨e, m2, S2, (re.mono s e1).mono s1 e2, s2, ?_⟩⟩⟩
  intro m3 H3 e3 s3 z rz
  cases rz
  have h3 := h2.shift e3
  have ru := ru.mono s2 e3
  have rv := (rw_.mono s1 e2).mono s2 e3
  have re3 := ((re.mono s e1).mono s1 e2).mono s2 e3
  unfold dputA at h3
  split at h3
  · rename_i n
    cases ru with
    | ref r1 =>
      split at h3
      · rename_i ks ds q
        by_cases hc : k ∈ ks ∧ ks.length < sizeLine
        · rw [if_pos hc] at h3
          obtain ⟨a, vs, p1, p2, p3, p4⟩ := s3.atD q
          rw [r1] at p1; cases p1
          have nd : ks.Nodup := s3.nodupD q
          have hl : (kvz ks vs).length < sizeLine := by rw [kvz_len p3]; exact hc.2
          have put := L2.DPut.k (k := (.inr k : L2.Key)) (v := w) p2 hl
          rw [kvz_put p3 nd hc.1] at put
          obtain ⟨e4, s4⟩ := s3.writeO q r1 p2 (fun ps z => by cases z) (RO.dic (ks := ks) (ds := ds.set (ks.idxOf k) y) (by rw [List.length_set, p3, p4.length]) nd (p4.set rv (ks.idxOf k)))
          exact ⟨_, _, rfl, put, h3 _ _ e4 s4 σ (re3.mono s3 e4)⟩
        · rw [if_neg hc] at h3
          exact h3.elim
      · exact h3.elim
  · exact h3.elim
/-! ### {k: e, ..} -/
def prs (ks : List Str) (vs : List V) : List (V × V) := (ks.zip vs).map fun p => (V.str p.1, p.2)
def PrOk (X : Cx) (c : Cfg) (W : WX) (ks : List Str) (f : Env → Store → R (List D)) (trs : List (TE × TE)) : Prop :=
  ∀ (σ : L2.St) (H : Hp) (e : Env) (m : MM) (S : Store) (Q : List (V × V) → Hp → Prop), EnvR X.K c m H e σ → Sim X.K c m H S →
    Aft X.K c W σ m H (f e S) (fun ds S1 m1 H1 => ∀ vs, RVs X.K c m1 H1 ds vs → ds.length = ks.length → Q (prs ks vs) H1) → L2.tPairs trs σ H Q
theorem prok_nil : PrOk X c W [] (fun _ S => .ok [] S) [] := fun σ H e m S Q re s h => h.now s [] .nil rfl
theorem prok_cons {k : Str} {ks : List Str} {fa : Env → Store → R D} {fs : Env → Store → R (List D)} {trs : List (TE × TE)} (hr : PrOk X c W ks fs trs) :
    PrOk X c W (k :: ks) (fun e S => (fa e S).bind fun x S1 => (fs e S1).bind fun xs S2 => .ok (x :: xs) S2) ((tE X.K c W (fun _ S => .ok (.str k) S), tE X.K c W fa) :: trs) := by
  intro σ H e m S Q re s h
  show tE X.K c W (fun _ S => .ok (.str k) S) σ H _
  refine ⟨e, m, S, re, s, ?_⟩
  intro m1 H1 e1 s1 u ru
  cases ru
  have re1 := re.mono s e1
  refine ⟨e, m1, S, re1, s1, (Aft.bind (h.shift e1)).imp fun x S2 m2 H2 e2 s2 h2 y ry => ?_⟩
  refine hr σ H2 e m2 S2 _ (re1.mono s1 e2) s2 ((Aft.bind h2).imp fun xs S3 m3 H3 e3 s3 h3 vs rvs hl => ?_)
  exact h3.now s3 (y :: vs) (.cons (ry.mono s2 e3) rvs) (by simp [hl])
theorem prs_kvz : ∀ {ks : List Str} {vs : List V}, ks.length = vs.length → prs ks vs = (kvz ks vs).map fun kv => (L2.kV kv.1, kv.2)
  | [], [], _ => rfl
  | k :: ks, v :: vs, h => by
    show (V.str k, v) :: prs ks vs = _
    rw [prs_kvz (by simpa using h)]
    rfl
  | [], _ :: _, h => by simp at h
  | _ :: _, [], h => by simp at h
theorem pe_dictE {keys : List (Option Expr)} {values : List Expr} {pos : Pos} {ks : List Str} {fs : Env → Store → R (List D)} {trs : List (TE × TE)} (hp : L2.PPs X pos keys values trs) (hq : PrOk X c W ks fs trs)
    (hall : keys.all (·.isSome) = true) (hl : keys.length = values.length) (h0 : keys ≠ []) (h15 : keys.length ≤ 15) : PE X (.Dict keys values pos) (tE X.K c W fun e S => (fs e S).bind fun ds S1 => dicA ks ds S1) := by
  refine PE.imp (L2.pe_disp hp hall hl h0 h15) ?_
  rintro σ H Q ⟨e, m, S, re, s, h⟩
  intro B hB
  obtain ⟨eB, sB⟩ := s.tohide (o := .dK []) hB
  have h0 := Aft.bind0 h
  have hBh : B ∉ m.hid := (s.none_out hB).2
  refine hq σ _ e (m.hide B) S _ (re.mono s eB) sB ((h0.shift eB).imp fun ds S1 m1 H1 e1 s1 h1 vs rvs hds => ?_)
  have hB1 : H1 B = some (.dK []) := e1.keep B _ upd_same (sB.hid B List.mem_cons_self).2 fun ps z => by cases z
  have hb1 : B ∈ m1.hid := e1.hid.1 B List.mem_cons_self
  have e2 := eB.trans e1
  unfold dicA at h1
  obtain ⟨hz, h1⟩ := Aft.if_ h1
  obtain ⟨z1, nd, z2, z3⟩ := hz
  have hlv : ks.length = vs.length := by rw [z1, rvs.length]
  have hmg : L2.mergeK [] (kvz ks vs) = kvz ks vs := kvz_merge (ps := []) (us := []) rfl hlv (by simpa using nd)
  refine ⟨hB1, kvz ks vs, prs_kvz hlv, by rw [kvz_len hlv]; exact z3, ?_⟩
  rw [hmg]
  obtain ⟨r, hr1, hr2⟩ := e2.pre
  have e3 : Ext m H m1 (upd H1 B (.dK (kvz ks vs))) := e2.other hB (by rw [hB1]; simp)
  have s3 := s1.otherD (o := .dK (kvz ks vs)) hb1 hB1
  have hh : ∀ b ∈ m.hid, b ∈ m1.hid := e2.hid.1
  have e10 : Ext m H ⟨m1.ix ++ [B], m.hid⟩ (upd H1 B (.dK (kvz ks vs))) := ⟨⟨r ++ [B], by rw [hr1]; simp, fun a h => by
    rcases List.mem_append.mp h with h | h
    · exact hr2 a h
    · rw [List.mem_singleton.mp h]; exact hB⟩, ⟨fun _ h => h, fun _ h => .inl h⟩, e3.keep, e3.stay⟩
  have hT : ∀ vs, H1 B ≠ some (.tup vs) ∧ ∀ o', H1 B ≠ some (.frz o' (.tup vs)) := fun us => ⟨by rw [hB1]; simp, fun o' => by rw [hB1]; simp⟩
  refine h1 _ _ e10 (s3.adoptO hb1 hh hBh upd_same (.dic z1 nd ((rvs.other hb1 hT (fun φ => by rw [hB1]; simp)).adopt hb1 hh))) _ (.ref ?_)
  show (m1.ix ++ [B])[S1.length]? = some B
  rw [List.getElem?_append_right (by rw [s1.len]; exact Nat.le_refl _), s1.len]
  simp
/-- {k: v}, the key a text that is reckoned -/
theorem pe_dict1E {k a : Expr} {fk fa : Env → Store → R D} {pos : Pos} (hk : PE X k (tE X.K c W fk)) (ha : PE X a (tE X.K c W fa)) : PE X (.Dict [some k] [a] pos) (tE X.K c W fun e S => (fk e S).bind fun x S1 => (fa e S1).bind fun y S2 => dic1A x y S2) := by
  refine PE.imp (L2.pe_disp (L2.pps_cons hk ha L2.pps_nil) rfl rfl (by simp) (by simp)) ?_
  rintro σ H Q ⟨e, m, S, re, s, h⟩
  intro B hB
  obtain ⟨eB, sB⟩ := s.tohide (o := .dK []) hB
  have h0 := Aft.bind0 h
  have hBh : B ∉ m.hid := (s.none_out hB).2
  refine ⟨e, m.hide B, S, re.mono s eB, sB, (h0.shift eB).imp fun x S1 m1 H1 e1 s1 h1 u ru => ?_⟩
  have h1 := Aft.bind0 h1
  refine ⟨e, m1, S1, (re.mono s eB).mono sB e1, s1, (h1.shift (eB.trans e1)).imp fun y S2 m2 H2 e2 s2 h2 w rw_ => ?_⟩
  have hB2 : H2 B = some (.dK []) := e2.keep B _ (e1.keep B _ upd_same (sB.hid B List.mem_cons_self).2 fun ps z => by cases z) (s1.hid B (e1.hid.1 B List.mem_cons_self)).2 fun ps z => by cases z
  have hb2 : B ∈ m2.hid := e2.hid.1 B (e1.hid.1 B List.mem_cons_self)
  have eA := (eB.trans e1).trans e2
  unfold dic1A at h2
  cases x with
  | str z =>
    cases ru
    unfold dicA at h2
    obtain ⟨_, h2⟩ := Aft.if_ h2
    refine ⟨hB2, [(.inr z, w)], rfl, by simp, ?_⟩
    have rvs : RVs X.K c m2 H2 [y] [w] := .cons rw_ .nil
    obtain ⟨r, hr1, hr2⟩ := eA.pre
    have e3 : Ext m H m2 (upd H2 B (.dK [(.inr z, w)])) := eA.other hB (by rw [hB2]; simp)
    have s3 := s2.otherD (o := .dK [(.inr z, w)]) hb2 hB2
    have hh : ∀ b ∈ m.hid, b ∈ m2.hid := eA.hid.1
    have e10 : Ext m H ⟨m2.ix ++ [B], m.hid⟩ (upd H2 B (.dK [(.inr z, w)])) := ⟨⟨r ++ [B], by rw [hr1]; simp, fun a h => by
      rcases List.mem_append.mp h with h | h
      · exact hr2 a h
      · rw [List.mem_singleton.mp h]; exact hB⟩, ⟨fun _ h => h, fun _ h => .inl h⟩, e3.keep, e3.stay⟩
    have hT : ∀ vs, H2 B ≠ some (.tup vs) ∧ ∀ o', H2 B ≠ some (.frz o' (.tup vs)) := fun us => ⟨by rw [hB2]; simp, fun o' => by rw [hB2]; simp⟩
    refine h2 _ _ e10 (s3.adoptO hb2 hh hBh upd_same (RO.dic (ks := [z]) (ds := [y]) (vs := [w]) rfl (by simp) ((rvs.other hb2 hT (fun φ => by rw [hB2]; simp)).adopt hb2 hh))) _ (.ref ?_)
    show (m2.ix ++ [B])[S2.length]? = some B
    rw [List.getElem?_append_right (by rw [s2.len]; exact Nat.le_refl _), s2.len]
    simp
  | _ => exact h2.elim
theorem pe_dict0E {pos : Pos} : PE X (.Dict [] [] pos) (tE X.K c W fun _ S => .ok (.ref S.length) (S ++ [.dic [] []])) := by
  refine PE.imp L2.pe_dnewK ?_
  rintro σ H Q ⟨e, m, S, re, s, h⟩ B hB
  obtain ⟨eB, sB⟩ := s.tohide (o := .dK []) hB
  have hBh : B ∉ m.hid := (s.none_out hB).2
  have hh : ∀ b ∈ m.hid, b ∈ (m.hide B).hid := eB.hid.1
  have e10 : Ext m H ⟨(m.hide B).ix ++ [B], m.hid⟩ (upd H B (.dK [])) := ⟨⟨[B], rfl, fun a h => by rw [List.mem_singleton.mp h]; exact hB⟩, ⟨fun _ h => h, fun _ h => .inl h⟩, eB.keep, eB.stay⟩
  refine h _ _ e10 (sB.adoptO List.mem_cons_self hh hBh upd_same (.dic (ks := []) (ds := []) (vs := []) rfl List.nodup_nil .nil)) _ (.ref ?_)
  show (m.ix ++ [B])[S.length]? = some B
  rw [List.getElem?_append_right (by rw [s.len]; exact Nat.le_refl _), s.len]
  simp
end
end Mn

/-! MnW: tuple(zip(..)) of two lists. -/
namespace Mn
open PySem PySem.Spec PyProof.Rows
open L2 (V Hp HO Cx SqL SqT Rd St VK WX XK TE TA TS TT TG PE PA PS PSs PT PG Inv Vals EP thn upd upd_same upd_ne)
theorem zip_no_len : typeLookup (.type "zip") "__len__" = pure none := by rw [typeLookup_type, builtinLookup_eq_fast]; kernel_rfl
theorem zip_no_hint : typeLookup (.type "zip") "__length_hint__" = pure none := by rw [typeLookup_type, builtinLookup_eq_fast]; kernel_rfl
section
variable {P : Program} {w : World} {A : Around}
structure ZSt (z TI TO i1 i2 l1 l2 S : Addr) (xs ys : Array Value) (i : Nat) (h : Heap) : Prop where
  pr : IsPair h TI (.ref i1) (.ref i2)
  a : h.IsListIter i1 l1 i
  b : h.IsListIter i2 l2 i
  la : h.IsList l1 xs
  lb : h.IsList l2 ys
  z : (IsZip h z TI TO .none ∧ ∃ a b, IsPair h TO a b) ∨ ∃ T f oT, IsZipHeld h z TI TO T f ∧ h.get? T = some oT ∧ T ≠ z ∧ T ≠ i1 ∧ T ≠ i2 ∧ T ≠ S
/-- S apart from what the zip holds -/
structure Off (z TI TO i1 i2 l1 l2 S : Addr) : Prop where
  z : S ≠ z
  TI : S ≠ TI
  TO : S ≠ TO
  i1 : S ≠ i1
  i2 : S ≠ i2
  l1 : S ≠ l1
  l2 : S ≠ l2
theorem ZSt.frame {z TI TO i1 i2 l1 l2 S : Addr} {xs ys : Array Value} {i : Nat} {h h' : Heap} (q : ZSt z TI TO i1 i2 l1 l2 S xs ys i h) (o : Off z TI TO i1 i2 l1 l2 S) (k : ∀ b u, b ≠ S → h.get? b = some u → h'.get? b = some u) : ZSt z TI TO i1 i2 l1 l2 S xs ys i h' := by
  obtain ⟨q1, q2, q3, q4, q5, q6⟩ := q
  refine ⟨k _ _ o.TI.symm q1, q2.at fun u e => k _ u o.i1.symm e, q3.at fun u e => k _ u o.i2.symm e, q4.at fun u e => k _ u o.l1.symm e, q5.at fun u e => k _ u o.l2.symm e, ?_⟩
  rcases q6 with ⟨hz, a, b, hTO⟩ | ⟨T, f, oT, hz, hT, r1, r2, r3, r4⟩
  · exact .inl ⟨k _ _ o.z.symm hz, a, b, k _ _ o.TO.symm hTO⟩
  · exact .inr ⟨T, f, oT, k _ _ o.z.symm hz, k _ _ r4 hT, r1, r2, r3, r4⟩
theorem zstep {z TI TO i1 i2 l1 l2 S : Addr} {xs ys : Array Value} {i : Nat} {x y : Value} {s : Shared} {Q : Option Value → Shared → Prop} {E : Value → Shared → Prop} (D : ZipApart z TI TO i1 i2 l1 l2) (st : ZSt z TI TO i1 i2 l1 l2 S xs ys i s.heap) (hS : S < s.heap.objs.size)
    (ex : xs[i]? = some x) (ey : ys[i]? = some y) (hQ : ∀ h', ZSt z TI TO i1 i2 l1 l2 S xs ys (i + 1) h' → h'.get? s.heap.objs.size = some (tupO [x, y]) → h'.objs.size = s.heap.objs.size + 1 →
      (∀ c o, c ≠ z → c ≠ TO → c ≠ i1 → c ≠ i2 → s.heap.get? c = some o → h'.get? c = some o) → Q (some (.ref s.heap.objs.size)) { s with heap := h' }) : wpAny (model P w) A (pyNext (.ref z)) Q E s := by
  obtain ⟨hTI, h1, h2, hl1, hl2, hz⟩ := st
  have lt : ∀ {c o}, s.heap.get? c = some o → s.heap.objs.size ≠ c := fun e => Nat.ne_of_gt (Heap.lt_size e)
  have n1 : s.heap.objs.size ≠ i1 := let ⟨_, e, _⟩ := h1; lt e
  have n2 : s.heap.objs.size ≠ i2 := let ⟨_, e, _⟩ := h2; lt e
  rcases hz with ⟨hz, a, b, hTO⟩ | ⟨T, f, oT, hz, hT, r1, r2, r3, r4⟩
  · refine wpAny_pyNext_zip_item D hz hTI hTO h1 h2 hl1 hl2 ex ey fun h' a1 a2 a3 a4 a5 a6 hk => ?_
    exact hQ h' ⟨hk _ _ D.TIz D.TITO D.TIi1 D.TIi2 hTI, a3, a4, hl1.at fun o e => hk _ o D.l1z D.l1TO D.l1i1 D.l1i2 e, hl2.at fun o e => hk _ o D.l2z D.l2TO D.l2i1 D.l2i2 e,
      .inr ⟨s.heap.objs.size, false, _, a1, a5, lt hz, n1, n2, Nat.ne_of_gt hS⟩⟩ a5 a6 hk
  · refine wpAny_pyNext_zip_item_held D hz hT hTI h1 h2 hl1 hl2 ex ey fun h' a1 a3 a4 a5 a6 hk => ?_
    exact hQ h' ⟨hk _ _ D.TIz D.TIi1 D.TIi2 hTI, a3, a4, hl1.at fun o e => hk _ o D.l1z D.l1i1 D.l1i2 e, hl2.at fun o e => hk _ o D.l2z D.l2i1 D.l2i2 e,
      .inr ⟨T, true, oT, a1, hk _ _ r1 r2 r3 hT, r1, r2, r3, r4⟩⟩ a5 a6 fun c o c1 _ c3 c4 e => hk c o c1 c3 c4 e
theorem zend {z TI TO i1 i2 l1 l2 S : Addr} {xs ys : Array Value} {i : Nat} {s : Shared} {Q : Option Value → Shared → Prop} {E : Value → Shared → Prop} (hh : A.handled = none) (D : ZipApart z TI TO i1 i2 l1 l2) (st : ZSt z TI TO i1 i2 l1 l2 S xs ys i s.heap)
    (hend : xs[i]? = none ∨ ys[i]? = none) (hQ : ∀ h', (∀ c o, c ≠ z → c ≠ TO → c ≠ i1 → c ≠ i2 → s.heap.get? c = some o → h'.get? c = some o) → Q none { s with heap := h' }) : wpAny (model P w) A (pyNext (.ref z)) Q E s := by
  obtain ⟨hTI, h1, h2, hl1, hl2, hz⟩ := st
  rcases hz with ⟨hz, a, b, hTO⟩ | ⟨T, f, oT, hz, hT, r1, r2, r3, r4⟩
  · exact wpAny_pyNext_zip_end hh D hz hTI hTO h1 h2 hl1 hl2 hend hQ
  · exact wpAny_pyNext_zip_end_held hh D hz hT hTI h1 h2 hl1 hl2 hend fun h' hk => hQ h' fun c o c1 _ c3 c4 e => hk c o c1 c3 c4 e
/-- the tuples that were made -/
structure Got (xs ys : Array Value) (b0 i : Nat) (as : List Addr) (h : Heap) : Prop where
  len : as.length = i
  nd : as.Nodup
  at' : ∀ (j : Nat) (a : Addr), as[j]? = some a → b0 ≤ a ∧ a < h.objs.size ∧ ∃ x y, xs[j]? = some x ∧ ys[j]? = some y ∧ h.get? a = some (tupO [x, y])
/-- a place of what is at work -/
def Wk (z TO i1 i2 S : Addr) (c : Addr) : Prop := c = z ∨ c = TO ∨ c = i1 ∨ c = i2 ∨ c = S
theorem zloop {R : Result → Shared → Prop} {z TI TO i1 i2 l1 l2 S : Addr} {xs ys : Array Value} (hh : A.handled = none) (D : ZipApart z TI TO i1 i2 l1 l2) (o : Off z TI TO i1 i2 l1 l2 S) (res : Value) (n : Nat) (hn : n = min xs.size ys.size) (hz : n ≤ sizeLine) (b0 : Nat) (hb : ∀ c, Wk z TO i1 i2 S c → c < b0) (G0 : Heap) (hG : G0.objs.size ≤ b0) :
    ∀ (k i : Nat) (s : Shared) (acc : Array Value) (c : Nat) (as : List Addr), n - i = k → i ≤ n → ZSt z TI TO i1 i2 l1 l2 S xs ys i s.heap → b0 ≤ s.heap.objs.size → s.heap.get? S = some { cls := .type "list", dict := none, data := .seq acc c, slots := #[] } → acc.toList = as.map Value.ref → Got xs ys b0 i as s.heap →
      (∀ b u, ¬ Wk z TO i1 i2 S b → G0.get? b = some u → s.heap.get? b = some u) →
      (∀ h' acc' c' as', h'.get? S = some { cls := .type "list", dict := none, data := .seq acc' c', slots := #[] } → acc'.toList = as'.map Value.ref → Got xs ys b0 n as' h' → (∀ b u, ¬ Wk z TO i1 i2 S b → G0.get? b = some u → h'.get? b = some u) → R (.ok (.ret res)) { s with heap := h' }) →
      codeAny (model P w) A (.builtin "list.extend.loop" ⟨[.ref S, .ref z, res], []⟩) R s := by
  have hSb : S < b0 := hb S (.inr (.inr (.inr (.inr rfl))))
  have wkz : ∀ {c}, ¬ Wk z TO i1 i2 S c → c ≠ z ∧ c ≠ TO ∧ c ≠ i1 ∧ c ≠ i2 ∧ c ≠ S := fun {c} h => ⟨fun q => h (.inl q), fun q => h (.inr (.inl q)), fun q => h (.inr (.inr (.inl q))), fun q => h (.inr (.inr (.inr (.inl q)))), fun q => h (.inr (.inr (.inr (.inr q))))⟩
  have old : ∀ {c}, b0 ≤ c → ¬ Wk z TO i1 i2 S c := fun {c} h q => Nat.lt_irrefl _ (Nat.lt_of_lt_of_le (hb c q) h)
  intro k
  induction k with
  | zero =>
    intro i s acc c as hk hi hst hs hS hacc got keep hR
    have hin : i = n := by omega
    subst hin
    refine codeAny_builtin F.entry_extend_loop ?_
    rw [Around.under_plainId F.plain_extend_loop _]
    show wpAny _ A.in1 (pyNext (.ref z) >>= _) _ _ s
    have hend : xs[i]? = none ∨ ys[i]? = none := by
      rcases Nat.le_total xs.size ys.size with h | h
      · exact .inl (Array.getElem?_eq_none (by omega))
      · exact .inr (Array.getElem?_eq_none (by omega))
    refine wpAny_bind (zend (A := A.in1) hh D hst hend fun h' hk => ?_)
    refine wpAny_pure (hR h' acc c as (hk S _ o.z o.TO o.i1 o.i2 hS) hacc ⟨got.len, got.nd, fun j a ha => ?_⟩ fun b u hb e => ?_)
    · obtain ⟨q1, q2, x, y, q3, q4, q5⟩ := got.at' j a ha
      have ne := wkz (old q1)
      have q6 := hk a _ ne.1 ne.2.1 ne.2.2.1 ne.2.2.2.1 q5
      exact ⟨q1, Heap.lt_size q6, x, y, q3, q4, q6⟩
    · have ne := wkz hb
      exact hk b u ne.1 ne.2.1 ne.2.2.1 ne.2.2.2.1 (keep b u hb e)
  | succ k ih =>
    intro i s acc c as hk hi hst hs hS hacc got keep hR
    have hix : i < xs.size := by omega
    have hiy : i < ys.size := by omega
    refine codeAny_builtin F.entry_extend_loop ?_
    rw [Around.under_plainId F.plain_extend_loop _]
    show wpAny _ A.in1 (pyNext (.ref z) >>= _) _ _ s
    refine wpAny_bind (zstep (A := A.in1) D hst (Nat.lt_of_lt_of_le hSb hs) (Array.getElem?_eq_getElem hix) (Array.getElem?_eq_getElem hiy) fun h' st' hT hsz hk' => ?_)
    have hS' := hk' S _ o.z o.TO o.i1 o.i2 hS
    have asz : acc.size = i := by
      have := congrArg List.length hacc
      simp only [Array.length_toList, List.length_map] at this
      rw [this, got.len]
    show wpAny _ A.in1 (updateSeq S (·.push (.ref s.heap.objs.size)) >>= _) _ _ _
    refine wpAny_bind ?_
    refine wpAny_updateSeq hS' rfl (wpAny_pure ⟨plainId_quiet F.plain_extend_loop _, ih (i + 1) _ (acc.push (.ref s.heap.objs.size)) _ (as ++ [s.heap.objs.size]) (by omega) (by omega) (st'.frame o fun b u hb e => ?_) ?_ (Heap.get?_update_self _ hS' rfl) ?_ ⟨?_, ?_, fun j a ha => ?_⟩ (fun b u hb e => ?_) fun h'' acc' c' as' q1 q2 q3 q4 => ?_⟩)
      (by rw [asz]; omega) (by show (acc.push _).size ≤ sizeLine + 1; rw [Array.size_push, asz]; omega)
    · exact (Heap.get?_update_other _ _ (Ne.symm hb)).trans e
    · exact Nat.le_trans hs (by
        show s.heap.objs.size ≤ (h'.update S _).objs.size
        rw [Heap.size_update, hsz]
        exact Nat.le_succ _)
    · rw [Array.toList_push, hacc]
      simp
    · simp [got.len]
    · rw [List.nodup_append]
      refine ⟨got.nd, by simp, fun a ha b hb => ?_⟩
      obtain ⟨j, hj⟩ := List.mem_iff_getElem?.mp ha
      have := (got.at' j a hj).2.1
      exact fun e => Nat.lt_irrefl _ (by rw [e, List.mem_singleton.mp hb] at this; exact this)
    · show b0 ≤ a ∧ a < (h'.update S _).objs.size ∧ ∃ x y, xs[j]? = some x ∧ ys[j]? = some y ∧ (h'.update S _).get? a = some (tupO [x, y])
      by_cases hj : j < as.length
      · rw [List.getElem?_append_left hj] at ha
        obtain ⟨q1, q2, x, y, q3, q4, q5⟩ := got.at' j a ha
        have ne := wkz (old q1)
        have q6 := hk' a _ ne.1 ne.2.1 ne.2.2.1 ne.2.2.2.1 q5
        have q7 : (h'.update S (Obj.mapSeq (·.push (.ref s.heap.objs.size)))).get? a = some (tupO [x, y]) := (Heap.get?_update_other _ _ (Ne.symm ne.2.2.2.2)).trans q6
        exact ⟨q1, Heap.lt_size q7, x, y, q3, q4, q7⟩
      · have e : j = as.length := by
          have := (List.getElem?_eq_some_iff.mp ha).1
          simp at this
          omega
        subst e
        simp only [List.getElem?_concat_length, Option.some.injEq] at ha
        subst ha
        have q7 := (Heap.get?_update_other h' (Obj.mapSeq (·.push (.ref s.heap.objs.size))) (Nat.ne_of_lt (Nat.lt_of_lt_of_le hSb hs))).trans hT
        exact ⟨hs, Heap.lt_size q7, _, _, by rw [got.len]; exact Array.getElem?_eq_getElem hix, by rw [got.len]; exact Array.getElem?_eq_getElem hiy, q7⟩
    · have ne := wkz hb
      exact (Heap.get?_update_other _ _ (Ne.symm ne.2.2.2.2)).trans (hk' b u ne.1 ne.2.1 ne.2.2.1 ne.2.2.2.1 (keep b u hb e))
    · exact hR h'' acc' c' as' q1 q2 q3 q4
theorem zcollect {Q : List Value → Shared → Prop} {E : Value → Shared → Prop} {s : Shared} {z TI TO i1 i2 l1 l2 : Addr} {xs ys : Array Value} (hh : A.handled = none) (D : ZipApart z TI TO i1 i2 l1 l2) (st : IsPair s.heap TI (.ref i1) (.ref i2) ∧ s.heap.IsListIter i1 l1 0 ∧ s.heap.IsListIter i2 l2 0 ∧ s.heap.IsList l1 xs ∧ s.heap.IsList l2 ys ∧ IsZip s.heap z TI TO .none ∧ ∃ a b, IsPair s.heap TO a b)
    (n : Nat) (hn : n = min xs.size ys.size) (hz : n ≤ sizeLine) (h : ∀ h' as b0, s.heap.objs.size ≤ b0 → s.heap.objs.size < h'.objs.size → Got xs ys b0 n as h' → (∀ b u, b ≠ z → b ≠ TO → b ≠ i1 → b ≠ i2 → s.heap.get? b = some u → h'.get? b = some u) → Q (as.map Value.ref) { s with heap := h' }) :
    wpAny (model P w) A (collect (.ref z)) Q E s := by
  obtain ⟨hTI, h1, h2, hl1, hl2, hzz, a0, c0, hTO⟩ := st
  have ltz : ∀ {c o}, s.heap.get? c = some o → c < s.heap.objs.size := fun e => Heap.lt_size e
  have b1 : i1 < s.heap.objs.size := let ⟨_, e, _⟩ := h1; ltz e
  have b2 : i2 < s.heap.objs.size := let ⟨_, e, _⟩ := h2; ltz e
  have b3 : l1 < s.heap.objs.size := let ⟨_, e, _⟩ := hl1; ltz e
  have b4 : l2 < s.heap.objs.size := let ⟨_, e, _⟩ := hl2; ltz e
  have bz := ltz hzz
  have bTI := ltz hTI
  have bTO := ltz hTO
  have o : Off z TI TO i1 i2 l1 l2 s.heap.objs.size := ⟨Nat.ne_of_gt bz, Nat.ne_of_gt bTI, Nat.ne_of_gt bTO, Nat.ne_of_gt b1, Nat.ne_of_gt b2, Nat.ne_of_gt b3, Nat.ne_of_gt b4⟩
  unfold collect
  refine wpAny_bind (wpAny_runValue (codeAny_builtin F.entry_proto_collect ?_))
  rw [Around.under_plainId F.plain_proto_collect _]
  show wpAny _ A.in1 (newList [] >>= fun l => again (.builtin "list.__iadd__" ⟨[l, .ref z], []⟩)) _ _ s
  refine wpAny_bind (wpAny_newObj_type ?_)
  refine wpAny_pure ⟨plainId_quiet F.plain_list_iadd _, codeAny_builtin F.entry_list_iadd ?_⟩
  rw [Around.under_plainId F.plain_list_iadd _]
  have hz1 : IsZip (s.heap.push { cls := .type "list", data := .seq ([] : List Value).toArray }) z TI TO .none := Heap.get?_push_of_some _ hzz
  have hT : ∀ h : Heap, IsZip h z TI TO .none → ({ s with heap := h } : Shared).TypeIs (.ref z) "zip" := fun h e => ⟨_, e, rfl⟩
  show wpAny _ A.in1 (Builtin.List.listExtendWith (.ref s.heap.objs.size) (.ref z) (.ref s.heap.objs.size)) _ _ _
  unfold Builtin.List.listExtendWith
  refine wpAny_bind (wpAny_typeOf (hT _ hz1) ?_)
  have e1 : Builtin.List.listSameRef (.ref s.heap.objs.size) (.ref z) = false := by simp [Builtin.List.listSameRef, o.z]
  have e2 : (Value.type "zip" == Value.type "list") = false := by decide
  have e3 : (Value.type "zip" == Value.type "tuple") = false := by decide
  simp only [e1, e2, e3, Bool.or_false, Bool.false_eq_true, if_false]
  refine wpAny_bind (wpAny_pyIter_zip hz1 ?_)
  refine wpAny_bind (wpAny_holding ?_)
  unfold Builtin.List.listLengthHint
  refine wpAny_bind (wpAny_specialOf (hT _ hz1) zip_no_len ?_)
  show wpAny _ A.in1 (specialOf (Value.ref z) (Str.ofString "__length_hint__") >>= _) _ _ _
  refine wpAny_bind (wpAny_specialOf (hT _ hz1) zip_no_hint ?_)
  refine wpAny_pure ?_
  show wpAny _ A.in1 (rule "list.extend.makes-room" >>= fun _ => Builtin.List.listTouch (.ref s.heap.objs.size) >>= fun _ =>
    again (.builtin "list.extend.loop" ⟨[.ref s.heap.objs.size, .ref z, .ref s.heap.objs.size], []⟩)) _ _ _
  refine wpAny_bind (wpAny_rule ?_)
  have hS₁ : (s.heap.push { cls := .type "list", data := .seq ([] : List Value).toArray }).get? s.heap.objs.size = some { cls := .type "list", data := .seq ([] : List Value).toArray } := Heap.get?_push_size _ rfl
  refine wpAny_bind ?_
  show wpAny _ A.in1 (updateSeq s.heap.objs.size (·.push .none) >>= fun _ => updateSeq s.heap.objs.size (·.pop)) _ _ _
  refine wpAny_bind (wpAny_updateSeq hS₁ rfl ?_)
  have hS₂ := Heap.get?_update_self (Obj.mapSeq (·.push Value.none)) hS₁ rfl
  refine wpAny_updateSeq hS₂ rfl ?_
  have hS₃ := Heap.get?_update_self (Obj.mapSeq (·.pop)) hS₂ rfl
  have oth : ∀ b u, b ≠ s.heap.objs.size → s.heap.get? b = some u →
      (((s.heap.push { cls := .type "list", data := .seq ([] : List Value).toArray }).update s.heap.objs.size (Obj.mapSeq (·.push Value.none))).update s.heap.objs.size (Obj.mapSeq (·.pop))).get? b = some u :=
    fun b u hb e => (Heap.get?_update_other _ _ (Ne.symm hb)).trans ((Heap.get?_update_other _ _ (Ne.symm hb)).trans (Heap.get?_push_of_some _ e))
  have old : ∀ b u, s.heap.get? b = some u → (((s.heap.push { cls := .type "list", data := .seq ([] : List Value).toArray }).update s.heap.objs.size (Obj.mapSeq (·.push Value.none))).update s.heap.objs.size (Obj.mapSeq (·.pop))).get? b = some u := fun b u e => oth b u (Nat.ne_of_lt (Heap.lt_size e)) e
  have hsz : (((s.heap.push { cls := .type "list", data := .seq ([] : List Value).toArray }).update s.heap.objs.size (Obj.mapSeq (·.push Value.none))).update s.heap.objs.size (Obj.mapSeq (·.pop))).objs.size = s.heap.objs.size + 1 := by
    rw [Heap.size_update, Heap.size_update, Heap.size_push]
  refine wpAny_pure ⟨plainId_quiet F.plain_extend_loop _, zloop (A := A) hh D o (.ref s.heap.objs.size) n hn hz (s.heap.objs.size + 1) (fun c hc => ?_) s.heap (Nat.le_succ _) n 0 _ _ _ [] rfl (Nat.zero_le _)
    ⟨old _ _ hTI, h1.at fun u e => old _ u e, h2.at fun u e => old _ u e, hl1.at fun u e => old _ u e, hl2.at fun u e => old _ u e, .inl ⟨old _ _ hzz, a0, c0, old _ _ hTO⟩⟩ (Nat.le_of_eq hsz.symm) hS₃ rfl ⟨rfl, List.nodup_nil, fun j a ha => by simp at ha⟩ (fun b u _ e => old b u e) fun h' acc' c' as' q1 q2 q3 q4 => ?_⟩
  · rcases hc with e | e | e | e | e
    · rw [e]; exact Nat.lt_succ_of_lt bz
    · rw [e]; exact Nat.lt_succ_of_lt bTO
    · rw [e]; exact Nat.lt_succ_of_lt b1
    · rw [e]; exact Nat.lt_succ_of_lt b2
    · rw [e]; exact Nat.lt_succ_self _
  · show wpAny _ A (load s.heap.objs.size >>= _) _ _ _
    refine wpAny_bind (wpAny_load q1 ?_)
    refine wpAny_pure ?_
    show Q acc'.toList _
    rw [q2]
    refine h h' as' _ (Nat.le_succ _) (Heap.lt_size q1) q3 fun b u n1 n2 n3 n4 e => q4 b u (fun w => ?_) e
    rcases w with w | w | w | w | w
    · exact n1 w
    · exact n2 w
    · exact n3 w
    · exact n4 w
    · exact absurd (Heap.lt_size e) (by rw [w]; exact Nat.lt_irrefl _)
theorem meets_tuple_zip (z TI TO i1 i2 l1 l2 : Addr) (D : ZipApart z TI TO i1 i2 l1 l2) (xs ys : Array Value) (n : Nat) (hn : n = min xs.size ys.size) (hz : n ≤ sizeLine) :
    Meets (Builtin.«tuple.__new__» ⟨[.type "tuple", .ref z], []⟩)
      (fun A R s => A.handled = none ∧ (IsPair s.heap TI (.ref i1) (.ref i2) ∧ s.heap.IsListIter i1 l1 0 ∧ s.heap.IsListIter i2 l2 0 ∧ s.heap.IsList l1 xs ∧ s.heap.IsList l2 ys ∧ IsZip s.heap z TI TO .none ∧ ∃ a b, IsPair s.heap TO a b) ∧
        ∀ h' as b0, s.heap.objs.size ≤ b0 → s.heap.objs.size < h'.objs.size → Got xs ys b0 n as h' → (∀ b u, b ≠ z → b ≠ TO → b ≠ i1 → b ≠ i2 → s.heap.get? b = some u → h'.get? b = some u) → R (.ok (.ret (.ref h'.objs.size))) { s with heap := h'.push (tupO (as.map Value.ref)) }) :=
  .of_wp fun prog w A R s h => by
    obtain ⟨hp, g, d, tk, os⟩ := s
    obtain ⟨hh, st, h⟩ := h
    have hsub := sub_tuple_self
    have hinit := init_tuple_lookup
    have hmh := madeHere_tuple
    have hT : Shared.TypeIs ⟨hp, g, d, tk, os⟩ (.ref z) "zip" := ⟨_, st.2.2.2.2.2.1, rfl⟩
    wp_walk using wpAny_typeOf hT, zcollect (show A.in1.handled = none from hh) D st n hn hz
    intro h' as b0 q1 q0 q2 q3
    show wpAny _ _ (Builtin.Tuple.tupleExact (as.map Value.ref).toArray >>= fun v => ret v) _ _ _
    unfold Builtin.Tuple.tupleExact
    refine wpAny_bind (wpAny_newObj_type ?_ (by show (as.map Value.ref).toArray.size ≤ sizeLine; simpa [q2.len] using hz))
    exact wpAny_pure ⟨_, rfl, h h' as b0 q1 q0 q2 q3⟩
theorem call_tuple_zip {Q : Value → Shared → Prop} {E : Value → Shared → Prop} {s : Shared} {z TI TO i1 i2 l1 l2 : Addr} {xs ys : Array Value} (hh : A.handled = none) (D : ZipApart z TI TO i1 i2 l1 l2) (st : IsPair s.heap TI (.ref i1) (.ref i2) ∧ s.heap.IsListIter i1 l1 0 ∧ s.heap.IsListIter i2 l2 0 ∧ s.heap.IsList l1 xs ∧ s.heap.IsList l2 ys ∧ IsZip s.heap z TI TO .none ∧ ∃ a b, IsPair s.heap TO a b)
    (n : Nat) (hn : n = min xs.size ys.size) (hz : n ≤ sizeLine) (h : ∀ h' as b0, s.heap.objs.size ≤ b0 → s.heap.objs.size < h'.objs.size → Got xs ys b0 n as h' → (∀ b u, b ≠ z → b ≠ TO → b ≠ i1 → b ≠ i2 → s.heap.get? b = some u → h'.get? b = some u) → Q (.ref h'.objs.size) { s with heap := h'.push (tupO (as.map Value.ref)) }) :
    wpAny (model P w) A (call (.type "tuple") [.ref z]) Q E s :=
  callType_new F.called_tuple (by decide) (F.typeCall_tuple_1 _) (F.newCall_tuple_1 _) (fun obj => F.args_object_init_2 obj _) F.entry_tuple_new
    (meets_tuple_zip z TI TO i1 i2 l1 l2 D xs ys n hn hz) ⟨hh, st, fun h' as b0 q1 q0 q2 q3 => ⟨⟨_, Heap.get?_push_size _ rfl, rfl⟩, h h' as b0 q1 q0 q2 q3⟩⟩
end
theorem gnone {h : Heap} {a : Addr} (q : h.objs.size ≤ a) : h.get? a = none := by
  cases e : h.get? a with
  | none => rfl
  | some o => exact absurd (Heap.lt_size e) (Nat.not_lt.mpr q)
/-! ### many tuples laid at once -/
abbrev Lay := Addr × List Value × List V
def updL (H : Hp) : List Lay → Hp
  | [] => H
  | p :: r => updL (upd H p.1 (.frz (tupO p.2.1) (.tup p.2.2))) r
section
variable {X : Cx} {pins : List (Addr × Obj)} {σ : L2.St}
theorem bulk : ∀ (L : List Lay) {H : Hp} {s : Shared} (h' : Heap), Inv X pins σ H s → (∀ b u, s.heap.get? b = some u → h'.get? b = some u) →
    (∀ p ∈ L, s.heap.get? p.1 = none ∧ H p.1 = none ∧ h'.get? p.1 = some (tupO p.2.1) ∧ Vals p.2.2 p.2.1 ∧ p.2.2.length ≤ sizeLine) → (L.map (·.1)).Nodup → Inv X pins σ (updL H L) { s with heap := h' }
  | [], H, s, h', I, k, _, _ => I.kept (t' := s.toks) k
  | p :: r, H, s, h', I, k, hp, nd => by
    obtain ⟨q1, q2, q3, q4, q5⟩ := hp p List.mem_cons_self
    rw [List.map_cons, List.nodup_cons] at nd
    obtain ⟨G, g1, g2⟩ := L2.restrict h' fun b => (s.heap.get? b).isSome || decide (b = p.1)
    have kG : ∀ b u, s.heap.get? b = some u → G.get? b = some u := fun b u e => by
      rw [g1 b (by rw [e]; rfl)]
      exact k b u e
    have gG : ∀ b u, G.get? b = some u → h'.get? b = some u := fun b u e => by
      by_cases hb : ((s.heap.get? b).isSome || decide (b = p.1)) = true
      · rw [← g1 b hb]; exact e
      · rw [g2 b (by simpa using hb)] at e
        cases e
    have eG : G.get? p.1 = some (tupO p.2.1) := by
      rw [g1 p.1 (by simp)]
      exact q3
    have I1 : Inv X pins σ (upd H p.1 (.frz (tupO p.2.1) (.tup p.2.2))) { s with heap := G } := I.laidN (t' := s.toks) kG q1 q2 (show L2.ObjOk X.prog X.w _ G _ (.frz (tupO p.2.1) (.tup p.2.2)) from ⟨eG, q5, p.2.1, q4, ⟨_, eG, rfl, _, rfl⟩⟩)
    refine bulk r (s := { s with heap := G }) h' I1 gG (fun x hx => ?_) nd.2
    obtain ⟨x1, x2, x3, x4, x5⟩ := hp x (List.mem_cons_of_mem _ hx)
    have ne : x.1 ≠ p.1 := fun e => nd.1 (List.mem_map.mpr ⟨x, hx, e⟩)
    refine ⟨g2 x.1 ?_, by rw [upd_ne ne]; exact x2, x3, x4, x5⟩
    simp [x1, ne]
end
inductive LayR (K : Frag) (c : Cfg) (m : MM) (H : Hp) : List D → List Lay → Prop
  | nil : LayR K c m H [] []
  | cons {es ds : List D} {p : Lay} {L : List Lay} : RVs K c m H es p.2.2 → LayR K c m H ds L → LayR K c m H (.tup es :: ds) (p :: L)
section
variable {K : Frag} {c : Cfg} {m : MM} {H H' : Hp} {S : Store}
theorem LayR.mono {m' : MM} (s : Sim K c m H S) (e : Ext m H m' H') : ∀ {ds : List D} {L : List Lay}, LayR K c m H ds L → LayR K c m' H' ds L
  | _, _, .nil => .nil
  | _, _, .cons h t => .cons (h.mono s e) (LayR.mono s e t)
theorem laidL : ∀ {L : List Lay} {ds : List D} {H : Hp}, Sim K c m H S → LayR K c m H ds L → (∀ p ∈ L, H p.1 = none) → (L.map (·.1)).Nodup → Ext m H m (updL H L) ∧ Sim K c m (updL H L) S ∧ RVs K c m (updL H L) ds (L.map fun p => V.ref p.1)
  | _, _, H, s, .nil, _, _ => ⟨Ext.refl, s, .nil⟩
  | p :: L, _, H, s, .cons h t, hn, nd => by
    rw [List.map_cons, List.nodup_cons] at nd
    have hp := hn p List.mem_cons_self
    have e1 := Ext.fresh (o := .frz (tupO p.2.1) (.tup p.2.2)) hp s
    have s1 := s.fresh (o := .frz (tupO p.2.1) (.tup p.2.2)) hp
    obtain ⟨e2, s2, r2⟩ := laidL s1 (t.mono s e1) (fun x hx => by
      rw [upd_ne fun e => nd.1 (List.mem_map.mpr ⟨x, hx, e⟩)]
      exact hn x (List.mem_cons_of_mem _ hx)) nd.2
    exact ⟨e1.trans e2, s2, .cons ((RV.newTup s hp h).mono s1 e2) r2⟩
theorem zip_lay {h : Heap} : ∀ {as : List Addr} {l k : List D} {vs ws : List V} {us ts : List Value}, RVs K c m H l vs → RVs K c m H k ws → Vals vs us → Vals ws ts → as.length = min us.length ts.length →
    (∀ (j : Nat) (a : Addr), as[j]? = some a → ∃ x y, us[j]? = some x ∧ ts[j]? = some y ∧ h.get? a = some (tupO [x, y])) →
    ∃ L : List Lay, L.map (·.1) = as ∧ (∀ p ∈ L, h.get? p.1 = some (tupO p.2.1) ∧ Vals p.2.2 p.2.1 ∧ p.2.2.length ≤ sizeLine) ∧ LayR K c m H (zipT l k) L
  | [], l, k, vs, ws, us, ts, rl, rk, rv, rw_, hl, _ => by
    refine ⟨[], rfl, fun p hp => absurd hp (by simp), ?_⟩
    have h1 := rl.length
    have h2 := rk.length
    have h3 := rv.length
    have h4 := rw_.length
    simp only [List.length_nil] at hl
    cases l with
    | nil => exact .nil
    | cons x r =>
      cases k with
      | nil => exact .nil
      | cons y t => simp only [List.length_cons] at h1 h2; omega
  | a :: as, l, k, vs, ws, us, ts, rl, rk, rv, rw_, hl, hg => by
    simp only [List.length_cons] at hl
    cases rv with
    | nil => simp at hl
    | @cons v0' v0'' _ _ v0 rv =>
      cases rw_ with
      | nil => simp at hl
      | @cons w0' w0'' _ _ w0 rw_ =>
        cases rl with
        | cons l0 rl =>
          cases rk with
          | cons k0 rk =>
            obtain ⟨L, q1, q2, q3⟩ := zip_lay (as := as) rl rk rv rw_ (by simp only [List.length_cons] at hl; omega) fun j b hb => by
              obtain ⟨x, y, e1, e2, e3⟩ := hg (j + 1) b (by simpa using hb)
              exact ⟨x, y, by simpa using e1, by simpa using e2, e3⟩
            obtain ⟨x, y, e1, e2, e3⟩ := hg 0 a rfl
            simp only [List.getElem?_cons_zero, Option.some.injEq] at e1 e2
            subst e1 e2
            refine ⟨(a, [v0'', w0''], [v0', w0']) :: L, by rw [List.map_cons, q1], fun p hp => ?_, .cons (.cons l0 (.cons k0 .nil)) q3⟩
            rcases List.mem_cons.mp hp with rfl | hp
            · exact ⟨e3, .cons v0 (.cons w0 .nil), by show 2 ≤ sizeLine; decide⟩
            · exact q2 p hp
end
section
variable {X : Cx} {c : Cfg} {W : WX}
theorem pe_tzipE {a b : Expr} {fa fb : Env → Store → R D} {p p2 q pos : Pos} (hc : X.calm = true) (hg : L2.Gl X "tuple") (hm : X.mg "tuple" = none) (hg2 : L2.Gl X "zip") (hm2 : X.mg "zip" = none) (ha : PE X a (tE X.K c W fa)) (hb : PE X b (tE X.K c W fb))
    (na : starEach [a, b] X.env = (false, eval a X.env) :: starEach [b] X.env) (nb : starEach [b] X.env = [(false, eval b X.env)]) : PE X (.Call (.Name "tuple" p) [.Call (.Name "zip" p2) [a, b] [] q] [] pos) (tE X.K c W fun e S => (fa e S).bind fun x S1 => (fb e S1).bind fun y S2 => tzipA x y S2) := by
  have pa := pa_consE ha (pa_consE hb (pa_nilE (X := X) (c := c) (W := W)) nb) na
  refine ⟨fun pins s σ H Q I h => ?_⟩
  obtain ⟨e, m, S, re, sm, h⟩ := h
  have h : Aft X.K c W σ m H ((fa e S).bind fun x S1 => ((fb e S1).bind fun y S2 => R.ok [y] S2).bind fun ys S2 => R.ok (x :: ys) S2) fun ds S1 m1 H1 => Aft X.K c W σ m1 H1 (match ds with | [x, y] => tzipA x y S1 | _ => .bad) fun d _ m' H' => ∀ v, RV X.K c m' H' d v → Q v H' := by
    have h2 : Aft X.K c W σ m H (((fa e S).bind fun x S1 => ((fb e S1).bind fun y S2 => R.ok [y] S2).bind fun ys S2 => R.ok (x :: ys) S2).bind fun ds S1 => match ds with | [x, y] => tzipA x y S1 | _ => .bad) fun d _ m' H' => ∀ v, RV X.K c m' H' d v → Q v H' := by
      rw [show (((fa e S).bind fun x S1 => ((fb e S1).bind fun y S2 => R.ok [y] S2).bind fun ys S2 => R.ok (x :: ys) S2).bind fun ds S1 => match ds with | [x, y] => tzipA x y S1 | _ => .bad) = (fa e S).bind fun x S1 => (fb e S1).bind fun y S2 => tzipA x y S2 by
        cases fa e S with
        | ok x S1 =>
          show (((fb e S1).bind fun y S2 => R.ok [y] S2).bind fun ys S2 => R.ok (x :: ys) S2).bind _ = (fb e S1).bind _
          cases fb e S1 <;> rfl
        | exc => rfl
        | bad => rfl]
      exact h
    exact h2.bind
  refine Call_ (L2.ld_blt I hg hm boot_tuple ?_)
  refine callWith_type1 (args_cons ?_ rfl) rfl rfl
  refine Call_ (L2.ld_blt I hg2 hm2 boot_zip ?_)
  refine callWith_type1 (thn (pa.run q pins s σ H (fun vs H1 => ∃ (ds : List D) (m1 : MM) (S1 : Store), Sim X.K c m1 H1 S1 ∧ RVs X.K c m1 H1 ds vs ∧ Aft X.K c W σ m1 H1 (match ds with | [x, y] => tzipA x y S1 | _ => .bad) fun d _ m' H' => ∀ v, RV X.K c m' H' d v → Q v H') I ⟨e, m, S, re, sm, ?_⟩) fun us s1 ⟨vs, H1, I1, r1, ds, m1, S1, sm1, rds, q1⟩ => ?_) na (by rw [nb]; rfl)
  · exact h.imp fun ds S1 m1 H1 e1 s1 h1 vs rvs => ⟨ds, m1, S1, s1, rvs, h1⟩
  · match ds, rds, q1 with
    | [], _, q1 => exact q1.elim
    | [_], _, q1 => exact q1.elim
    | _ :: _ :: _ :: _, _, q1 => exact q1.elim
    | [x, y], .cons rx (.cons ry .nil), q1 =>
      have q1 : Aft X.K c W σ m1 H1 (tzipA x y S1) fun d _ m' H' => ∀ v, RV X.K c m' H' d v → Q v H' := q1
      unfold tzipA at q1
      split at q1
      · rename_i l k hl hk
        obtain ⟨a1, vs1, rfl, hq1, rv1⟩ := seqL_sq sm1 rx hl
        obtain ⟨a2, vs2, rfl, hq2, rv2⟩ := seqL_sq sm1 ry hk
        cases r1 with
        | cons rr1 r1 =>
          cases r1 with
          | cons rr2 r1 =>
            cases r1
            cases rr1
            cases rr2
            obtain ⟨its, rl1, p1, z1⟩ := I1.list hq1
            obtain ⟨its2, rl2, p2, z2⟩ := I1.list hq2
            have la : a1 < s1.heap.objs.size := p1.lt
            have lb : a2 < s1.heap.objs.size := p2.lt
            have hh : X.A.handled = none := I1.ok.hd hc
            have DA := PySem.W.ktu_apart s1.heap.objs.size a1 a2 la lb
            refine call_zip_2 p1.isList p2.isList fun h' hz hTI hTO h1 h2 hsz hk' => args_nil ?_
            have hlen : its.length = l.length := by rw [← rl1.length, ← rv1.length]
            have hlen2 : its2.length = k.length := by rw [← rl2.length, ← rv2.length]
            have hn : min its.length its2.length ≤ sizeLine := by
              have := rl1.length
              omega
            refine call_tuple_zip (s := { s1 with heap := h' }) hh DA ⟨hTI, h1, h2, p1.isList.at fun o e => hk' _ o e, p2.isList.at fun o e => hk' _ o e, hz, _, _, hTO⟩ (min its.length its2.length) (by simp) hn fun h'' as b0 hb hlt got keep => ?_
            have hsz' : s1.heap.objs.size ≤ b0 := by
              have : h'.objs.size ≤ b0 := hb
              omega
            have keep2 : ∀ b u, s1.heap.get? b = some u → h''.get? b = some u := fun b u e => by
              have hb := Heap.lt_size e
              refine keep b u ?_ ?_ ?_ ?_ (hk' b u e) <;> (intro z; rw [z] at hb; exact absurd hb (Nat.not_lt.mpr (by first | exact Nat.le_add_right _ _ | exact Nat.le_refl _)))
            obtain ⟨L, e1, e2, e3⟩ := zip_lay (h := h'') rv1 rv2 rl1 rl2 got.len fun j b hj => by
              obtain ⟨_, _, x, y, g1, g2, g3⟩ := got.at' j b hj
              exact ⟨x, y, by simpa using g1, by simpa using g2, g3⟩
            have kf : ∀ p ∈ L, s1.heap.objs.size ≤ p.1 := fun p hp => by
              have : p.1 ∈ as := by rw [← e1]; exact List.mem_map.mpr ⟨p, hp, rfl⟩
              obtain ⟨j, hj⟩ := List.mem_iff_getElem?.mp this
              exact Nat.le_trans hsz' (got.at' j p.1 hj).1
            have lt2 : ∀ p ∈ L, p.1 < h''.objs.size := fun p hp => Heap.lt_size (e2 p hp).1
            have nd : (L.map (·.1)).Nodup := by rw [e1]; exact got.nd
            have le2 : s1.heap.objs.size ≤ h''.objs.size := by
              have : h'.objs.size < h''.objs.size := hlt
              omega
            have al : as.length ≤ sizeLine := by rw [got.len]; exact hn
            have zl : (zipT l k).length = as.length := by
              have : ∀ {ds : List D} {L : List Lay}, LayR X.K c m1 H1 ds L → ds.length = L.length := by
                intro ds L h
                induction h with
                | nil => rfl
                | cons _ _ ih => simp [ih]
              rw [this e3, ← List.length_map (f := fun p : Lay => p.1), e1]
            obtain ⟨x1, x2, x3⟩ := laidL sm1 e3 (fun p hp => I1.hok.fresh (kf p hp)) nd
            have I2 : Inv X pins σ (updL H1 L) { s1 with heap := h'' } := bulk L h'' I1 keep2 (fun p hp => ⟨gnone (kf p hp), I1.hok.fresh (kf p hp), (e2 p hp).1, (e2 p hp).2.1, (e2 p hp).2.2⟩) nd
            have hR : updL H1 L h''.objs.size = none := I2.hok.fresh (Nat.le_refl _)
            have vals : Vals (L.map fun p => V.ref p.1) (as.map Value.ref) := by
              rw [← e1]
              have : ∀ L : List Lay, Vals (L.map fun p => V.ref p.1) ((L.map (·.1)).map Value.ref) := by
                intro L
                induction L with
                | nil => exact .nil
                | cons p r ih => exact .cons rfl ih
              exact this L
            have lv : (L.map fun p => V.ref p.1).length ≤ sizeLine := by
              rw [List.length_map, ← List.length_map (f := fun p : Lay => p.1), e1]
              exact al
            refine laidT (h' := h''.push (tupO (as.map Value.ref))) (t' := s1.toks) I2 (fun b u e => Heap.get?_push_of_some _ e) (Heap.get?_push_size _ rfl) vals lv fun r us hr => ?_
            unfold mkT at q1
            rw [if_pos (by rw [zl]; exact al)] at q1
            have x4 := x2.fresh (o := .frz (tupO us) (.tup (L.map fun p => V.ref p.1))) hr
            exact q1 m1 _ (x1.trans (Ext.fresh hr x2)) x4 _ (RV.newTup x2 hr x3)
      · exact q1.elim
end
end Mn

/-! MnT: a caught exception that is kept. -/
namespace Mn
open PySem PySem.Spec PyProof.Rows
open L2 (V Hp HO Cx Inv upd upd_same upd_ne ObjOk St WX TS PS PSs Ends SP Zc Sky Takes Names Loc frs)
theorem trackOk {X : Cx} {pins : List (Addr × Obj)} {σ : L2.St} {H : Hp} {s : Shared} {a : Addr} {o : HO} (I : Inv X pins σ H s) (h0 : X.s_0.heap.get? a = none) (na : H a = none) (hL : a ≠ X.env.locals) (hc : ∀ x c, X.env.cells.lookup x = some c → c ≠ a)
    (hp : ∀ p ∈ X.pn ++ pins, p.1 ≠ a) (new : ObjOk X.prog X.w (upd H a o) s.heap a o) : Inv X pins σ (upd H a o) s where
  ok := I.ok
  os := I.os
  bare := I.bare
  base := {
    keep := I.base.keep
    slot := I.base.slot
    free := fun b u q n z => by
      rw [upd_ne fun e => by rw [e, h0] at q; cases q]
      exact I.base.free b u q n z
    there := I.base.there
    tups := fun b xs q => by
      have t := I.base.tups b xs q
      rw [upd_ne (L2.ne_of_none t na)]
      exact t
    frzs := fun b u xs q => by
      have t := I.base.frzs b u xs q
      rw [upd_ne (L2.ne_of_none t na)]
      exact t
    tbls := fun b ps q => by
      obtain ⟨r, t⟩ := I.base.tbls b ps q
      exact ⟨r, by rw [upd_ne (L2.ne_of_none t na)]; exact t⟩ }
  loc := I.loc
  cell := I.cell
  free := by rw [upd_ne hL.symm]; exact I.free
  freeC := fun x c e => by rw [upd_ne (hc x c e)]; exact I.freeC x c e
  pin := fun p z => by
    obtain ⟨q1, q2, q3⟩ := I.pin p z
    exact ⟨q1, by rw [upd_ne (hp p z)]; exact q2, q3⟩
  hok := I.hok.laidN (fun _ _ e => e) na new
  len := I.len
/-- what 'except c as n: v = n' wishes, c letting all by; i: n's slot, j: v's -/
def wK (K : PySem.W.Frag) (c : Value) (i j : Nat) (D : Ends) : WX := fun cls d σ H =>
  PySem.W.exmOne K cls c = some true ∧ ∀ a, H a = none → D.nx (((σ.set i (some (.ref a))).set j (some (.ref a))).set i none) (upd H a (ExK cls d a))
section
variable {X : Cx} {x n v : Str} {c : Value} {i j : Nat} {body : List Stmt} {np vp p2 ap pos pos' : Pos} {tb : WX → TS}
theorem ps_kept (hs : X.stack = X.env :: X.outer) (hf : X.env.frame = some X.env.locals) (hex : X.ex = []) (hN : X.N.Nodup) (hi : X.N[i]? = some n) (hn : X.env.kindOf n = some .local) (hj : X.N[j]? = some v) (hv : X.env.kindOf v = some .local) (hc : Names X x c)
    (hdb : (n == ("__debug__" : Str)) = false) (hcd : (n == ("__classdict__" : Str)) = false)
    (hb : ∀ (W : WX) (pn : List (Addr × Obj)) (xe : Value → Shared → Prop), Takes (X.tr pn xe) W → PassesOwn (model X.prog X.w) X.A X.env xe → PSs (X.tr pn xe) body (tb W)) :
    PS X (.Try body [.ExceptHandler (some (.Name x np)) (some n) [.Assign [.Name v vp] (.Name n p2) ap] pos'] [] [] pos) (fun D σ H => tb (wK X.K c i j D) D σ H) := by
  constructor
  intro pins s σ H D I rd
  have good := I.ok
  have frm : X.A.frames = some (X.env :: X.outer) := by rw [good.frames, hs]
  apply wpAny_Try_except
  have R := hb (wK X.K c i j D) (X.pn ++ pins) (fun e t => wpAny (model X.prog X.w) X.A (noteFrame e X.env) (fun _ t1 => wpAny (model X.prog X.w) X.A (setFlight e none) (fun _ t2 =>
    wpAny (model X.prog X.w) X.A (handleBy e X.env [.ExceptHandler (some (.Name x np)) (some n) [.Assign [.Name v vp] (.Name n p2) ap] pos']) (SP X pins D) X.xe t2) X.xe t1) X.xe t) ?fly PassesOwn.looking
  case fly =>
    rintro u t ⟨a, B, t0, qs, τ, J, cls, d, rfl, I0, nb, up, sky, na, os, ag, hb1, yes⟩
    have I1 : Inv X pins τ J t0 := I0.ofTry good
    have sky : Sky B (X.env :: X.outer) a (Zc cls d) X.env.locals t.heap := by rw [← hs]; exact sky
    show wpAny (model X.prog X.w) X.A (noteFrame (.ref a) X.env) _ _ _
    refine Sky.land Zc.steady frm hf sky fun g1 f1 u1 => ?_
    have I2 : Inv X pins τ J { t with heap := g1 } := I1.landed nb f1.1 (up.trans u1) os ag
    obtain ⟨oe, es, e1, z1, d1⟩ := f1.there
    have out : a ∉ frs (X.env :: X.outer) := by
      intro hm
      obtain ⟨_, o', e', hnf⟩ := f1.2.2.1.mem hm
      rw [e1] at e'
      cases e'
      exact hnf _ d1
    have aL : a ≠ X.env.locals := by
      intro e
      exact out (List.mem_filterMap.mpr ⟨X.env, List.mem_cons_self, by rw [hf, e]⟩)
    have aF : a ∉ X.fs := by
      intro hm
      obtain ⟨en, h1, h2⟩ := List.mem_filterMap.mp hm
      exact out (List.mem_filterMap.mpr ⟨en, List.mem_cons_of_mem _ h1, h2⟩)
    -- a is none of what stood
    have gone : ∀ b o, t0.heap.get? b = some o → b ∉ frs X.stack → b ≠ a := by
      intro b o e hb2 z
      have := nb b o e hb2
      rw [z, f1.2.1] at this
      cases this
    have aS : a ∉ frs X.stack := by rw [hs]; exact out
    have fresh0 : X.s_0.heap.get? a = none := by
      cases e : X.s_0.heap.get? a with
      | none => rfl
      | some o =>
        obtain ⟨o2, e2⟩ := I1.base.there a o e (by rw [hex]; simp)
        exact absurd rfl (gone a o2 e2 aS)
    have pinA : ∀ p ∈ X.pn ++ pins, p.1 ≠ a := by
      intro p hp
      obtain ⟨q1, q2, q3, q4, _⟩ := I1.pin p hp
      refine gone p.1 p.2 q1 ?_
      rw [hs]
      intro hm
      obtain ⟨en, h1, h2⟩ := List.mem_filterMap.mp hm
      rcases List.mem_cons.mp h1 with z | z
      · rw [z, hf] at h2
        exact q3 (Option.some.inj h2).symm
      · exact q4 (List.mem_filterMap.mpr ⟨en, z, h2⟩)
    have S1 := I2.suite e1 d1 na aL aF
    refine wpAny_handleBy_cons (codeAny_handlers_test ?_) (by intro q; cases q)
    have look : PySem.W.Looks (model X.prog X.w) g1 (typeOf (.ref a)) cls := fun _ _ _ _ k q => wpAny_typeOf_ref (k _ _ e1) (by rw [z1.1]; exact q)
    have one := PySem.W.exm_one (M := model X.prog X.w) I2.kIn look hb1
    have named : ∀ {Q : Value → Shared → Prop} {E : Value → Shared → Prop}, Q c { t with heap := g1 } → wpAny (model X.prog X.w) (X.A.mark (some (.ref a))) (eval (.Name x np) X.env) Q E { t with heap := g1 } := by
      intro Q E q
      obtain ⟨k1, k2, k3 | ⟨k3, k4, k5⟩⟩ := hc
      · exact L2.ld_glob (X := X.suite a ((a, oe) :: (X.pn ++ pins))) S1 k1 k3 q k2
      · exact L2.ld_blt (X := X.suite a ((a, oe) :: (X.pn ++ pins))) S1 k1 k3 k4 q k5 k2
    refine named (one.here ?_)
    refine codeAny_handlers_suite_as ?_
    refine HandSPX.lands_againZ f1 fun g2 f2 u2 => ?_
    have I3 : Inv X pins τ J { t with heap := g2 } := I1.landed nb f2.1 ((up.trans u1).trans u2) os ag
    obtain ⟨oe2, es2, e2, z2, d2⟩ := f2.there
    have S2 := I3.suite e2 d2 na aL aF
    refine L2.store_ok (X := X.suite a ((a, oe2) :: (X.pn ++ pins))) (v := .ref a) S2 hN hi (.inl hn) rfl (fun t5 S5 => ?_) (.inr hn)
    have within : PSs (X.suite a ((a, oe2) :: (X.pn ++ pins))) [.Assign [.Name v vp] (.Name n p2) ap] (L2.tAsg (L2.tVar i) (L2.gName j)) := L2.pss_one (L2.ps_set (i := j) hN hj (.inl hv) (L2.pe_var hi (.inl hn) hdb hcd) rfl (.inr hv))
    have hlen : i < τ.length := by rw [I3.len]; exact (List.getElem?_eq_some_iff.mp hi).1
    have run := within.run [] t5 (τ.set i (some (.ref a))) J ⟨fun σ' H' => σ' = (τ.set i (some (.ref a))).set j (some (.ref a)) ∧ H' = J, fun _ _ => False, fun _ _ => False, fun _ _ => False⟩ S5 ⟨.ref a, by simp [hlen], rfl, rfl⟩
    refine wpAny_mono run (fun f t6 got => ?_) (fun _ _ z => False.elim z)
    cases f with
    | next =>
      obtain ⟨τ6, J6, S6, rfl, rfl⟩ := got
      have pa := S6.pin (a, oe2) (by simp)
      have U := S6.unsuite good
      have U2 : Inv X ((a, oe2) :: pins) ((τ.set i (some (.ref a))).set j (some (.ref a))) J6 t6 := U.pins_of fun p hp => by
        rcases List.mem_cons.mp hp with z | z
        · rw [z]; exact ⟨pa.1, pa.2.1, aL, aF, pa.2.2.2.2⟩
        · exact U.pin p (List.mem_append_right _ z)
      refine L2.gone_ok U2 hN hi hn fun t7 U7 => ?_
      have p7 := U7.pin (a, oe2) (by simp)
      have U8 : Inv X pins (((τ.set i (some (.ref a))).set j (some (.ref a))).set i none) J6 t7 := U7.pins_of fun p hp => U7.pin p (List.mem_append_right _ (List.mem_cons_of_mem _ hp))
      have ob : ObjOk X.prog X.w (upd J6 a (ExK cls d a)) t7.heap a (ExK cls d a) := exK_ok p7.1 z2 ⟨_, d2⟩
      refine ⟨_, _, trackOk U8 fresh0 na aL (fun y cc hy z => ?_) pinA ob, yes a na⟩
      obtain ⟨w1, hw⟩ := U8.cell y cc hy
      obtain ⟨o1, ho1, hd1⟩ := hw
      rw [z, p7.1] at ho1
      cases ho1
      exact p7.2.2.2.2 _ hd1
    | brk =>
      obtain ⟨_, _, _, q⟩ := got
      exact q.elim
    | cont =>
      obtain ⟨_, _, _, q⟩ := got
      exact q.elim
    | ret u =>
      obtain ⟨_, _, _, _, _, q⟩ := got
      exact q.elim
  refine wpAny_mono (R.run [] s σ H D (I.toTry _) rd) (fun f t1 got => ?_) (fun _ _ q => q)
  cases f with
  | next =>
    obtain ⟨τ, J, I5, q⟩ := got
    exact wpAny_execs_nil ⟨τ, J, I5.ofTry good, q⟩
  | brk =>
    obtain ⟨τ, J, I5, q⟩ := got
    exact ⟨τ, J, I5.ofTry good, q⟩
  | cont =>
    obtain ⟨τ, J, I5, q⟩ := got
    exact ⟨τ, J, I5.ofTry good, q⟩
  | ret u =>
    obtain ⟨v1, τ, J, I5, r, q⟩ := got
    exact ⟨v1, τ, J, I5.ofTry good, r, q⟩
end
section
variable {X : Cx} {c : Cfg} {W : WX}
theorem ps_keptE {x n v t : Str} {kc : Value} {i j l : Nat} {a : Expr} {fa : Env → Store → R D} {np vp p2 p3 ap aq pos pos' : Pos} (hs : X.stack = X.env :: X.outer) (hf : X.env.frame = some X.env.locals) (hex : X.ex = []) (hN : X.N.Nodup) (hi : X.N[i]? = some n) (hn : X.env.kindOf n = some .local) (hj : X.N[j]? = some v) (hv : X.env.kindOf v = some .local)
    (hl : X.N[l]? = some t) (ht : X.env.kindOf t = some .local) (hc : Names X x kc) (hdb : (n == ("__debug__" : Str)) = false) (hcd : (n == ("__classdict__" : Str)) = false)
    (all : ∀ y C, c.ca y = some C → PySem.W.exmOne X.K (.ref C) kc = some true)
    (ha : ∀ (W : WX) (pn : List (Addr × Obj)) (xe : Value → Shared → Prop), Takes (X.tr pn xe) W → L2.PE (X.tr pn xe) a (tE X.K c W fa)) (hsw : swapsWith a (some (.Name t p3)) aq.line X.env = pure false) :
    PS X (.Try [.Assign [.Name t p3] a aq] [.ExceptHandler (some (.Name x np)) (some n) [.Assign [.Name v vp] (.Name n p2) ap] pos'] [] [] pos) (tS X.K c W fun e S => keptA i j l (fa e S) e) := by
  refine PS.imp (ps_kept (c := kc) (tb := fun W => L2.tAsg (tE X.K c W fa) (L2.gName l)) hs hf hex hN hi hn hj hv hc hdb hcd fun W pn xe tk hp => L2.pss_one (L2.ps_set (X := X.tr pn xe) (i := l) hN hl (.inl ht) (ha W pn xe tk) hsw (.inr ht))) ?_
  rintro D σ H ⟨e, m, S, re, s, h⟩
  refine ⟨e, m, S, re, s, ?_⟩
  have h : Aft X.K c W σ m H (keptA i j l (fa e S) e) (fun r _ m' H' => FlowR X.K c D r m' H') := h
  cases r : fa e S with
  | ok d S1 =>
    rw [r] at h
    intro m1 H1 e1 s1 u ru
    exact h m1 H1 e1 s1 _ ((re.mono s e1).set ru l)
  | bad =>
    rw [r] at h
    exact h.elim
  | exc y S1 =>
    rw [r] at h
    intro m1 H1 cls dx e1 s1 ry
    cases ry with
    | @own y C hC =>
      refine ⟨all _ _ hC, fun b hb => ?_⟩
      have e2 : Ext m H m1 (upd H1 b (ExK (.ref C) none b)) := e1.trans (Ext.fresh hb s1)
      have s2 : Sim X.K c m1 (upd H1 b (ExK (.ref C) none b)) S1 := s1.fresh hb
      have rv : RV X.K c m1 (upd H1 b (ExK (.ref C) none b)) (.exn y []) (.ref b) := .exn hC upd_same
      exact h m1 _ e2 s2 _ (((((re.mono s e2).set rv i).set rv j)).none i)
theorem ps_keptXE {x n v : Str} {kc : Value} {i j : Nat} {a : Expr} {fa : Env → Store → R D} {np vp p2 ap aq pos pos' : Pos} (hs : X.stack = X.env :: X.outer) (hf : X.env.frame = some X.env.locals) (hex : X.ex = []) (hN : X.N.Nodup) (hi : X.N[i]? = some n) (hn : X.env.kindOf n = some .local) (hj : X.N[j]? = some v) (hv : X.env.kindOf v = some .local)
    (hc : Names X x kc) (hdb : (n == ("__debug__" : Str)) = false) (hcd : (n == ("__classdict__" : Str)) = false)
    (all : ∀ y C, c.ca y = some C → PySem.W.exmOne X.K (.ref C) kc = some true)
    (ha : ∀ (W : WX) (pn : List (Addr × Obj)) (xe : Value → Shared → Prop), Takes (X.tr pn xe) W → L2.PE (X.tr pn xe) a (tE X.K c W fa)) (hsw : swapsWith a none aq.line X.env = pure false) :
    PS X (.Try [.Expr a aq] [.ExceptHandler (some (.Name x np)) (some n) [.Assign [.Name v vp] (.Name n p2) ap] pos'] [] [] pos) (tS X.K c W fun e S => keptXA i j (fa e S) e) := by
  refine PS.imp (ps_kept (c := kc) (tb := fun W => L2.tDrop (tE X.K c W fa)) hs hf hex hN hi hn hj hv hc hdb hcd fun W pn xe tk hp => L2.pss_one (L2.ps_expr (X := X.tr pn xe) (ha W pn xe tk) hsw)) ?_
  rintro D σ H ⟨e, m, S, re, s, h⟩
  refine ⟨e, m, S, re, s, ?_⟩
  have h : Aft X.K c W σ m H (keptXA i j (fa e S) e) (fun r _ m' H' => FlowR X.K c D r m' H') := h
  cases r : fa e S with
  | ok d S1 =>
    rw [r] at h
    intro m1 H1 e1 s1 u ru
    exact h m1 H1 e1 s1 _ (re.mono s e1)
  | bad =>
    rw [r] at h
    exact h.elim
  | exc y S1 =>
    rw [r] at h
    intro m1 H1 cls dx e1 s1 ry
    cases ry with
    | @own y C hC =>
      refine ⟨all _ _ hC, fun b hb => ?_⟩
      have e2 : Ext m H m1 (upd H1 b (ExK (.ref C) none b)) := e1.trans (Ext.fresh hb s1)
      have s2 : Sim X.K c m1 (upd H1 b (ExK (.ref C) none b)) S1 := s1.fresh hb
      have rv : RV X.K c m1 (upd H1 b (ExK (.ref C) none b)) (.exn y []) (.ref b) := .exn hC upd_same
      exact h m1 _ e2 s2 _ (((((re.mono s e2).set rv i).set rv j)).none i)
end
end Mn

/-! MnI: isinstance of a kept exception, or of anything, with an own class. -/
namespace Mn
open PySem PySem.Spec PyProof.Rows
open L2 (V Hp HO Cx SqL SqT Rd St VK WX XK TE TA TS TT TG TI PE PA PS PSs PT PG PI Ends upd upd_same upd_ne OpR R2 Inv Dp DpAll UnR CallR Walk Zc RelV ClsV TyX ExcC)
def rIsK (K : Frag) : List V → Hp → VK → Prop := fun xs H Q => ∃ (a D : Addr) (k : V) (u : Value) (b : Bool), xs = [.ref a, k] ∧ H a = some (ExK (.ref D) none a) ∧ ExcC K D ∧ ClsV k u ∧ PySem.W.kitOne K (.ref D) u = some b ∧ Q (.bl b) H
theorem cr_isK {X : Cx} : CallR X (.builtin "isinstance") (rIsK X.K) := by
  intro pins s σ H xs us Q I r h
  obtain ⟨a, D, k, u, b, rfl, hH, C, kc, e, q⟩ := h
  obtain ⟨u1, u2, rfl, r1, r2⟩ := L2.vals2 r
  cases (show u1 = Value.ref a from r1)
  have e2 := kc.eq r2
  subst e2
  obtain ⟨⟨oe, hget, ⟨z1, z2⟩, es, z3⟩, _⟩ := I.hok a _ hH
  obtain ⟨k1, k2, k3, k4⟩ := oe
  dsimp only at z1 z2 z3
  subst z1 z2 z3
  exact PySem.W.kia_one (PySem.W.handS_kitx_exc C.hg C.hk C.hs C.hd C.ha C.hn C.ht C.hm) I.kIn ⟨hget, rfl, rfl, trivial⟩ e (fun z => nomatch z) fun tk => ⟨.bl b, H, I.tok tk, rfl, q⟩
def tyNs : List String := ["NoneType", "bool", "int", "str", "tuple", "list", "dict"]
/-- what is known of an own class that things are asked by -/
structure IsCl (K : Frag) (mg : Str → Option Value) (ca : String → Option Addr) (y : String) (tab : List (String × Bool)) : Prop where
  ex : ∃ (k : V) (u : Value), ClsV k u ∧ RelV k u ∧ (mg (Str.ofString y) = some u ∨ (mg (Str.ofString y) = none ∧ bootBuiltins (Str.ofString y) = some u)) ∧
    (∀ T ∈ tyNs, PySem.W.kitOne K (.type T) u = some false) ∧ ∀ x b D, tab.lookup x = some b → ca x = some D → ExcC K D ∧ PySem.W.kitOne K (.ref D) u = some b
theorem tyOf_mem {S : Store} {d : D} {t : String} (h : tyOf S d = some t) : t ∈ tyNs := by
  unfold tyOf at h
  split at h <;> first | (cases h; decide) | (split at h <;> first | (cases h; decide) | (cases h; done)) | (cases h; done)
section
variable {X : Cx} {c : Cfg} {W : WX}
theorem pe_isxE {y : String} {tab : List (String × Bool)} {a : Expr} {fa : Env → Store → R D} {p q pos : Pos} (hg : L2.Gl X "isinstance") (hm : X.mg "isinstance" = none) (ha : PE X a (tE X.K c W fa)) (hgy : L2.Gl X (Str.ofString y)) (hdb : (Str.ofString y == ("__debug__" : Str)) = false) (hny : Str.ofString y ≠ "__name__")
    (F : IsCl X.K X.mg c.ca y tab) (hs : starEach [a, .Name (Str.ofString y) q] X.env = [(false, eval a X.env), (false, eval (.Name (Str.ofString y) q) X.env)]) :
    PE X (.Call (.Name "isinstance" p) [a, .Name (Str.ofString y) q] [] pos) (tE X.K c W fun e S => (fa e S).bind fun d S1 => R.ofO ((isxA tab S1 d).map .bl) S1) := by
  obtain ⟨k, u, kc, ru, hu, hk, ht⟩ := F.ex
  have hy : PE X (.Name (Str.ofString y) q) (L2.tC k) := by
    rcases hu with hu | ⟨h1, h2⟩
    · exact L2.pe_glob hgy hu ru hdb
    · exact L2.pe_bltn hgy h1 h2 ru hny hdb
  refine PE.imp (L2.pe_callB (L2.call_isi.or cr_isK) hg hm boot_isinstance (L2.pa_cons ha (L2.pa_cons hy L2.pa_nil rfl) hs) (by decide) (by decide) hs rfl) ?_
  rintro σ H Q ⟨e, m, S, re, s, h⟩
  refine ⟨e, m, S, re, s, h.bind.imp fun d S1 m1 H1 e1 s1 h1 w rw' => ?_⟩
  obtain ⟨b, hb, h1⟩ := h1.ofO s1
  rw [Option.map_eq_some_iff] at hb
  obtain ⟨b, hb, rfl⟩ := hb
  have q := h1 _ (.bl b)
  unfold isxA at hb
  split at hb
  · cases rw' with
    | exn hC hH =>
      obtain ⟨E, e2⟩ := ht _ _ _ hb hC
      exact .inr ⟨_, _, k, u, b, rfl, hH, E, kc, e2, q⟩
  · cases hty : tyOf S1 d with
    | none => rw [hty] at hb; cases hb
    | some T =>
      rw [hty] at hb
      cases hb
      exact .inl ⟨w, k, .type T, u, false, rfl, kc, tyOf_tyx s1 rw' hty, hk T (tyOf_mem hty), q⟩
end
end Mn

/-! MnE: enumerate of tuples, index of tuples of texts. -/
namespace Mn
open PySem PySem.Spec PyProof.Rows
open L2 (V Hp HO Cx SqL SqT Rd St VK WX XK TE TA TS TT TG TI PE PA PS PSs PT PG PI Ends upd upd_same upd_ne OpR R2 Inv Dp DpAll UnR CallR Walk)

/-! ### enumerate -/
set_option maxHeartbeats 1000000 in
theorem meets_enum1 {v : Value} {o : Obj} {H : Heap → Prop} (B : Begins v o H) :
    Meets (Builtin.«enumerate.__new__» ⟨[.type "enumerate", v], []⟩) (fun _ R s => H s.heap ∧
      R (.ok (.ret (.ref (s.heap.push o).objs.size))) { s with heap := (s.heap.push o).push { cls := .type "enumerate", data := .fields #[.none, .bool false, .ref s.heap.objs.size, rawInt 0, .none, .none] } }) :=
  .of_wp fun prog w A R s h => by
    obtain ⟨hp, g, d, tk, os⟩ := s
    obtain ⟨h1, h⟩ := h
    have hsub := sub_enumerate
    have q1 : ∀ {A' : Around} {E : Value → Shared → Prop} {Q : Value → Shared → Prop}, Q (.ref hp.objs.size) ⟨hp.push o, g, d, tk, os⟩ → wpAny (model prog w) A' (pyIter v) Q E ⟨hp, g, d, tk, os⟩ :=
      fun q => B.iter prog w _ _ ⟨hp, g, d, tk, os⟩ _ h1 q
    wp_walk using q1
    refine wpAny_stack_any fun st => wpAny_pure ?_
    split
    · rename_i c _ _ _ _ _
      cases (c == Value.type "enumerate") <;> (wp_walk using q1; exact ⟨_, rfl, h⟩)
    · wp_walk using q1
      exact ⟨_, rfl, h⟩
theorem enum1 {prog : Program} {w : World} {A : Around} {E : Value → Shared → Prop} {s : Shared} {v : Value} {o : Obj} {H : Heap → Prop} {Q : Value → Shared → Prop} (B : Begins v o H) (h1 : H s.heap)
    (h : ∀ h', IsEnum h' (s.heap.objs.size + 1) s.heap.objs.size 0 .none → h'.get? s.heap.objs.size = some o → (∀ b u, s.heap.get? b = some u → h'.get? b = some u) → Q (.ref (s.heap.objs.size + 1)) { s with heap := h' }) :
    wpAny (model prog w) A (call (.type "enumerate") [v]) Q E s := by
  refine callType_new F.called_enumerate (by decide) (F.typeCall_enumerate_1 _) (F.newCall_enumerate_1 _) (fun obj => F.args_object_init_2 obj _) F.entry_enumerate_new (meets_enum1 B) ⟨h1, ?_⟩
  have hz : (s.heap.push o).objs.size = s.heap.objs.size + 1 := Heap.size_push ..
  show _ ∧ _
  rw [hz]
  have he := Heap.get?_push_size (s.heap.push o) (o := { cls := .type "enumerate", data := .fields #[.none, .bool false, .ref s.heap.objs.size, rawInt 0, .none, .none] }) rfl
  rw [hz] at he
  exact ⟨⟨_, he, rfl⟩, h _ he (Heap.get?_push_of_some _ (Heap.get?_push_size _ B.free)) fun b u x => Heap.get?_push_of_some _ (Heap.get?_push_of_some _ x)⟩
/-- the tuple at a, the items in new pairs -/
def IteT (K : Frag) (a : Addr) : L2.It :=
  ⟨fun i H => ∃ (xs : List V) (x : V), SqT K H a xs ∧ xs[i]? = some x, fun i H v H' => ∃ T x, v = .ref T ∧ H T = none ∧ H' = upd H T (.tup [.int (i : Nat), x]) ∧ ∀ xs, SqT K H a xs → xs[i]? = some x, fun i H => ∃ xs : List V, SqT K H a xs ∧ xs.length ≤ i⟩
theorem turn_enumT {P : Program} {w : World} {K : Frag} {elts : List Expr} {kk : Nat} {tpos : Pos} (a e it : Addr) :
    L2.Turn P w K (.Tuple elts kk tpos) (IteT K a) [e, it] e (fun i h => (∃ old, IsEnum h e it ((i : Nat) : Int) old) ∧ h.IsTupleIter it a i ∧ e ≠ it) where
  mem := by simp
  obj := fun i h st b hb => by
    obtain ⟨⟨old, he⟩, ⟨o, ho, hc, hd⟩, _⟩ := st
    rcases (show b = e ∨ b = it by simpa using hb) with z | z
    · rw [z]; exact ⟨_, he, fun v q => nomatch q⟩
    · rw [z]; exact ⟨o, ho, fun v q => by rw [hd] at q; cases q⟩
  keep := fun i h h' st k => let ⟨⟨old, he⟩, hi, hne⟩ := st; ⟨⟨old, k e (by simp) _ he⟩, hi.at fun o q => k it (by simp) o q, hne⟩
  item := by
    intro X hP hw hK hc i pins s σ H E I hf st hg
    subst hP hw hK
    obtain ⟨⟨old, he⟩, hit, hne⟩ := st
    obtain ⟨xs, x, hq, hx⟩ := hg
    obtain ⟨its, rv, p, hz⟩ := I.tuple hq
    obtain ⟨u, hu, ru⟩ := rv.get hx
    have hel : e < s.heap.objs.size := Heap.lt_size he
    have hil : it < s.heap.objs.size := by obtain ⟨_, q, _⟩ := hit; exact Heap.lt_size q
    have p' : s.heap.IsTuple a its.toArray := p
    have ne1 : a ≠ it := fun z => by
      obtain ⟨o1, q1, c1, _⟩ := hit
      obtain ⟨o2, q2, c2, _⟩ := p'
      rw [z, q1] at q2
      cases q2
      rw [c1] at c2
      exact absurd c2 (by decide)
    have ne2 : a ≠ e := fun z => by
      obtain ⟨o2, q2, c2, _⟩ := p'
      rw [z] at q2
      rw [show s.heap.get? e = _ from he] at q2
      cases q2
      exact absurd (show Value.type "enumerate" = Value.type "tuple" from c2) (by decide)
    have hlen : i < its.toArray.size := by
      rw [List.size_toArray]
      exact (List.getElem?_eq_some_iff.mp hu).1
    refine wpAny_pyNext_enum_itemD (Draws.tuple (A := X.A.in1) (I.ok.hd hc) it a ne1 its.toArray) he ⟨hit, p'⟩ hlen hne (by simp; exact ⟨hne, fun z => ne2 z.symm⟩) fun x' h' tk hPx ho hit' hT hsz hk => ?_
    have hx' : x' = u := by
      have : its[i]? = some x' := by simpa using hPx
      rw [hu] at this
      exact (Option.some.inj this).symm
    subst hx'
    refine ⟨_, rfl, wpAny_letOwnedTupleGo_enum (s := { s with heap := h', toks := tk + 1 }) ho fun h'' he' sb => ?_⟩
    have hT2 := (sb.2 _ (Nat.ne_of_gt hel)).trans hT
    have new : L2.ObjOk X.prog X.w (upd H s.heap.objs.size (.tup [.int (i : Nat), x])) h'' s.heap.objs.size (.tup [.int (i : Nat), x]) :=
      ⟨by show 2 ≤ sizeLine; decide, [.int i tk, x'], .cons ⟨_, rfl⟩ (.cons ru .nil), ⟨_, hT2, rfl, _, rfl⟩⟩
    have I1 : Inv X pins σ (upd H s.heap.objs.size (.tup [.int (i : Nat), x])) { s with heap := h'', toks := tk + 1 } :=
      I.turnedNew (ch := [e, it]) (fun b ob hb q => (sb.2 b (fun z => hb (by simp [z]))).trans (hk b ob (fun z => hb (by simp [z])) (fun z => hb (by simp [z])) q)) hf (Nat.le_refl _) new
    refine ⟨.ref s.heap.objs.size, _, I1, rfl, ⟨_, x, rfl, I.hok.fresh (Nat.le_refl _), rfl, fun ys hy => by rw [I.tuple_inj hy hq]; exact hx⟩, ⟨⟨x', ?_⟩, hit'.1.at fun o q => (sb.2 it (Ne.symm hne)).trans q, hne⟩, fun b hb => ?_⟩
    · have e1 : ((i + 1 : Nat) : Int) = (i : Int) + 1 := by omega
      rw [e1]; exact he'
    · have hb' : b < s.heap.objs.size := by
        rcases (show b = e ∨ b = it by simpa using hb) with z | z
        · rw [z]; exact hel
        · rw [z]; exact hil
      rw [upd_ne (Nat.ne_of_lt hb')]
      exact (hf b hb).1
  done := by
    intro X hP hw hK hc i pins s σ H E I hf st hg
    subst hP hw hK
    obtain ⟨⟨old, he⟩, hit, hne⟩ := st
    obtain ⟨xs, hq, hx⟩ := hg
    obtain ⟨its, rv, p, hz⟩ := I.tuple hq
    obtain ⟨f0, f1, f2, f3, f4, f5⟩ := hf it (by simp)
    have hl := rv.length
    have p' : s.heap.IsTuple a its.toArray := p
    have ne1 : a ≠ it := fun z => by
      obtain ⟨o1, q1, c1, _⟩ := hit
      obtain ⟨o2, q2, c2, _⟩ := p'
      rw [z, q1] at q2
      cases q2
      rw [c1] at c2
      exact absurd c2 (by decide)
    have D : Draws X.prog X.w X.A.in1 it [it, a] i (fun _ _ => True) (fun j h => j = i ∧ h.IsTupleIter it a i ∧ h.IsTuple a its.toArray) := {
      live := fun _ _ st => let ⟨o, ho, _⟩ := st.2.1; ⟨o, ho⟩
      frame := fun _ _ _ st hk => ⟨st.1, st.2.1.at fun o e => hk it (by simp) o e, st.2.2.at fun o e => hk a (by simp) o e⟩
      item := fun j s Q E hi st _ => absurd st.1 (by omega)
      done := fun s Q E st hE => wpAny_nextOf_tuple_end (I.ok.hd hc) st.2.1 st.2.2 (by simp; omega) hE }
    exact wpAny_pyNext_enum_endD D he ⟨rfl, hit, p'⟩ fun h' eb => ⟨rfl, I.turned (t' := s.toks) (fun b o hb q => eb b o hb q) f0 f1 f3 f4 f5⟩
  self := fun A i s Q E st h => let ⟨⟨_, he⟩, _⟩ := st; wpAny_pyIter_enum he h
section
variable {X : Cx} {c : Cfg} {W : WX}
def iEnA (K : Frag) (ta : TA) : TI := fun σ H R => ta σ H fun vs H1 => ∃ a xs, vs = [.ref a] ∧ ((SqL K H1 a xs ∧ R (L2.Ite K a) H1) ∨ (SqT K H1 a xs ∧ R (IteT K a) H1))
theorem pi_enA {e : Expr} {ta : TA} {p pos tpos : Pos} {elts : List Expr} {kk : Nat} (hg : L2.Gl X "enumerate") (hm : X.mg "enumerate" = none) (ha : PA X [e] ta) (hs : starEach [e] X.env = [(false, eval e X.env)]) :
    PI X (.Tuple elts kk tpos) (.Call (.Name "enumerate" p) [e] [] pos) (iEnA X.K ta) := by
  refine ⟨fun pins s σ H R I h => ?_⟩
  refine Call_ (L2.ld_blt I hg hm boot_enumerate (PyProof.Rows.callWith_type1 (L2.thn (ha.run pos pins s σ H _ I h) fun us s1 ⟨vs, H1, I1, r1, q1⟩ => ?_) hs rfl))
  obtain ⟨a, xs, ex, q1⟩ := q1
  subst ex
  obtain ⟨u, rfl, r⟩ := L2.vals1 r1
  cases r
  have hfp : ∀ b ∈ [s1.heap.objs.size + 1, s1.heap.objs.size], L2.FpOk X pins H1 b := fun b hb => by
    have hle : s1.heap.objs.size ≤ b := by
      rcases (show b = s1.heap.objs.size + 1 ∨ b = s1.heap.objs.size by simpa using hb) with z | z <;> omega
    exact I1.fpOk hle (I1.hok.fresh hle)
  rcases q1 with ⟨hq, q⟩ | ⟨hq, q⟩
  · obtain ⟨its, rv, p', hz⟩ := I1.list hq
    refine enum1 (begins_list a its.toArray) p'.isList fun h' he hit hk => wpAny_pyIter_enum he ?_
    exact ⟨s1.heap.objs.size + 1, _, _, _, H1, rfl, I1.kept (t' := s1.toks) hk, L2.turn_enum a (s1.heap.objs.size + 1) s1.heap.objs.size, ⟨⟨.none, he⟩, ⟨_, hit, rfl, rfl⟩, Nat.succ_ne_self _⟩, hfp, q⟩
  · obtain ⟨its, rv, p', hz⟩ := I1.tuple hq
    refine enum1 (begins_tuple a its.toArray) (show s1.heap.IsTuple a its.toArray from p') fun h' he hit hk => wpAny_pyIter_enum he ?_
    exact ⟨s1.heap.objs.size + 1, _, _, _, H1, rfl, I1.kept (t' := s1.toks) hk, turn_enumT a (s1.heap.objs.size + 1) s1.heap.objs.size, ⟨⟨.none, he⟩, ⟨_, hit, rfl, rfl⟩, Nat.succ_ne_self _⟩, hfp, q⟩
theorem enumF_len : ∀ (l : List D) (n : Nat), (enumF n l).length = l.length
  | [], _ => rfl
  | _ :: r, n => by simp [enumF, enumF_len r]
theorem enumF_get : ∀ (l : List D) (n i : Nat), (enumF n l)[i]? = l[i]?.map fun d => .wtp [.int ((n + i : Nat) : Int), d]
  | [], n, i => by simp [enumF]
  | d :: r, n, 0 => by simp [enumF]
  | d :: r, n, i + 1 => by
    simp only [enumF, List.getElem?_cons_succ]
    rw [enumF_get r, show n + 1 + i = n + (i + 1) by omega]
theorem along_enumT {m : MM} {H : Hp} {S : Store} {a : Addr} {vs : List V} {l : List D} {g : Gd} (s : Sim X.K c m H S) (h1 : SqT X.K H a vs) (h2 : RVs X.K c m H l vs) : Along X c (IteT X.K a) (enumF 0 l) g m H where
  go := fun i d m2 H2 S2 e s2 g hd => by
    have h3 := e.tup s h1
    rw [enumF_get, Nat.zero_add] at hd
    cases e1 : l[i]? with
    | none => rw [e1] at hd; cases hd
    | some d' =>
      rw [e1] at hd
      cases hd
      obtain ⟨v, hv, rv⟩ := (h2.monoW s e).getD e1
      refine ⟨⟨vs, v, h3, hv⟩, fun y H3 hy => ?_⟩
      obtain ⟨T, x', rfl, hT, rfl, hy⟩ := hy
      have := hy vs h3
      rw [hv] at this; cases this
      exact ⟨Ext.fresh hT s2, s2.fresh hT, RV.newWtp s2 hT (.cons (.int _) (.cons rv .nil))⟩
  stop := fun m2 H2 S2 e s2 g => ⟨vs, e.tup s h1, by rw [enumF_len, h2.length]; exact Nat.le_refl _⟩
theorem pi_enumE {elts : List Expr} {kk : Nat} {tpos : Pos} {a : Expr} {fa : Env → Store → R D} {p pos : Pos} (hg : L2.Gl X "enumerate") (hm : X.mg "enumerate" = none) (ha : PE X a (tE X.K c W fa)) (hs : starEach [a] X.env = [(false, eval a X.env)]) :
    PI X (.Tuple elts kk tpos) (.Call (.Name "enumerate" p) [a] [] pos) (tI X c W fun e S => (fa e S).bind fun x S1 => (R.ofO (seqA S1 x) S1).bind fun l S2 => .ok (enumF 0 l, gdOf S2 x) S2) := by
  refine PI.imp (pi_enA hg hm (L2.pa_cons ha L2.pa_nil hs) hs) fun σ H R q => ?_
  obtain ⟨e, m, S, re, s, q⟩ := q
  refine ⟨e, m, S, re, s, q.bind.imp fun x S1 m1 H1 e1 s1 q1 v rv => ?_⟩
  obtain ⟨l, hl, q1⟩ := q1.bind.ofO s1
  have q1 := q1.now s1
  unfold seqA at hl
  split at hl
  · cases hl
    obtain ⟨a, vs, rfl, h2, h3⟩ := seqT_sq (x := .tup _) rv rfl
    exact ⟨a, vs, rfl, .inr ⟨h2, q1 _ (along_enumT s1 h2 h3)⟩⟩
  · obtain ⟨a, vs, rfl, h2, h3⟩ := seqL_sq s1 rv hl
    exact ⟨a, vs, rfl, .inl ⟨h2, q1 _ (along_enum s1 rv hl fun _ g => g)⟩⟩

/-! ### index -/
def tMT (K : Frag) (r : V → List V → Hp → VK → Prop) (to : TE) (t : TA) : TE := fun σ H Q => to σ H fun x H1 => (∃ a vs, x = .ref a ∧ ST K H1 a vs) ∧ t σ H1 fun xs H2 => r x xs H2 Q
theorem pe_mT {T n id : String} {r : V → List V → Hp → VK → Prop} {o a : Expr} {to : TE} {t : TA} {apos cpos : Pos} (hT : T = "tuple") (pa : PlainAttrs T) (slot : Slot T n id) (hty : typeOf (.builtin id) = pure (.type "method_descriptor")) (hm : L2.MtR X id r)
    (ho : PE X o to) (ha : PA X [a] t) (hbase : attributeBase o n X.env (eval o X.env) = eval o X.env) (hline : (apos.endLine == cpos.line) = true) (hs : starEach [a] X.env = [(false, eval a X.env)]) :
    PE X (.Call (.Attribute o n apos) [a] [] cpos) (tMT X.K r to t) := by
  refine ⟨fun pins s σ H Q I h => ?_⟩
  refine wpAny_Call_method_late hbase (by rw [hs]; rfl) hline rfl (L2.thn (ho.run pins s σ H _ I h) fun v s1 ⟨x, H1, I1, r1, ty, q1⟩ => ?_)
  obtain ⟨b, vs, rfl, ty⟩ := ty
  have r0 := r1
  cases r1
  obtain ⟨its, _, pl, _⟩ := I1.tuple ty.sq
  refine ⟨T, id, pa, slot, hty, ?_, fun c z => ?_, ?_⟩
  · subst hT
    exact (show s1.heap.IsTuple b its.toArray from pl).typeIs
  · cases z
    rcases ty.no with ⟨o, k, hd⟩ | ⟨o, k, _, hd⟩
    · exact ⟨o, (I1.hok b _ k).1, hd⟩
    · exact ⟨o, I1.kIn b o k, hd⟩
  · have hA := ha.run cpos pins s1 σ H1 _ I1 q1
    rw [hs] at hA ⊢
    refine Calls.callWith_builtin rfl (Calls.evalArgs_plain ?_)
    exact L2.thn hA fun us s2 ⟨vs, H2, I2, r2, q2⟩ => hm pins s2 σ H2 _ vs _ us Q I2 r0 r2 q2
theorem pe_indexE {o a : Expr} {fo : Env → Store → R D} {fs : Env → Store → R (List D)} {apos cpos : Pos} (ho : PE X o (tE X.K c W fo)) (ha : PA X [a] (tA X.K c W fs)) (hbase : attributeBase o "index" X.env (eval o X.env) = eval o X.env)
    (hline : (apos.endLine == cpos.line) = true) (hs : starEach [a] X.env = [(false, eval a X.env)]) :
    PE X (.Call (.Attribute o "index" apos) [a] [] cpos) (tE X.K c W fun e S => (fo e S).bind fun x S1 => (R.ofO (recvA "tuple" S1 x) S1).bind fun _ S2 => (fs e S2).bind fun ds S3 => mthA "tuple" "index" x ds S3) := by
  refine PE.imp (pe_mT rfl PySem.F.plainAttrs_tuple PySem.F.slot_tuple_index PySem.F.type_tuple_index L2.mt_tup_index ho ha hbase hline hs) fun σ H Q h => ?_
  obtain ⟨e, m, S, re, s, h⟩ := h
  refine ⟨e, m, S, re, s, h.bind.imp fun x S1 m1 H1 e1 s1 h1 u ru => ?_⟩
  obtain ⟨z, hz, h1⟩ := h1.bind.ofO s1
  obtain ⟨l, rfl⟩ : ∃ l, x = .tup l := by
    cases x with
    | tup l => exact ⟨l, rfl⟩
    | _ => simp [recvA] at hz
  cases ru with
  | tup k1 k2 =>
    refine ⟨⟨_, _, rfl, k1⟩, e, m1, S1, re.mono s e1, s1, h1.bind.imp fun ds S2 m2 H2 e2 s2 h2 vs rvs => ?_⟩
    have h2 : Aft X.K c W σ m2 H2 (idxA (.tup l) ds S2) (fun d _ m' H' => ∀ v, RV X.K c m' H' d v → Q v H') := h2
    unfold idxA at h2
    split at h2
    · rename_i l' z' e0 _
      cases e0
      cases rvs with
      | cons q1 q2 =>
        cases q2
        cases q1
        split at h2
        · rename_i ys ey
          obtain ⟨hy, h2⟩ := Aft.if_ h2
          have k2 := k2.mono s1 e2
          cases strsOf_rv (X := X) ey k2
          have hlt := List.idxOf_lt_length_of_mem hy
          refine ⟨_, ys, z', ys.idxOf z', rfl, rfl, (e2.stup s1 k1).sq, ?_, fun j hj hn => ?_, h2.now s2 _ (.int _)⟩
          · rw [List.getElem?_eq_getElem hlt]
            exact congrArg some (List.getElem_idxOf hlt)
          · obtain ⟨h3, h4⟩ := List.getElem?_eq_some_iff.mp hn
            have h5 : (ys[j] == z') = false := List.not_of_lt_findIdx (p := (· == z')) (xs := ys) (i := j) hj
            rw [h4] at h5
            simp at h5
        · exact h2.elim
    · exact h2.elim
end
end Mn

/-! MnS: a list's slice with a step. -/
namespace Mn
open PySem PySem.Spec PyProof.Rows
open L2 (V Hp HO Cx SqL SqT Rd St VK WX XK TE TA TS TT TG TI PE PA PS PSs PT PG PI Ends upd upd_same upd_ne OpR R2 Inv Dp DpAll UnR CallR Walk Vals RelV)
theorem pick_vals {xs : List V} {us : List Value} (r : Vals xs us) : ∀ is : List Nat, Vals (is.filterMap (xs[·]?)) (is.filterMap (us[·]?))
  | [] => .nil
  | i :: is => by
    have ih := pick_vals r is
    cases e : xs[i]? with
    | none =>
      have e2 : us[i]? = none := by
        rw [List.getElem?_eq_none_iff] at e ⊢
        rw [← r.length]; exact e
      rw [List.filterMap_cons_none e, List.filterMap_cons_none e2]
      exact ih
    | some x =>
      obtain ⟨u, e2, ru⟩ := r.get e
      rw [List.filterMap_cons_some e, List.filterMap_cons_some e2]
      exact .cons ru ih
theorem pick_rv {K : Frag} {c : Cfg} {m : MM} {H : Hp} {ds : List D} {vs : List V} (r : RVs K c m H ds vs) : ∀ is : List Nat, RVs K c m H (is.filterMap (ds[·]?)) (is.filterMap (vs[·]?))
  | [] => .nil
  | i :: is => by
    have ih := pick_rv r is
    cases e : ds[i]? with
    | none =>
      have e2 : vs[i]? = none := by
        rw [List.getElem?_eq_none_iff] at e ⊢
        rw [← r.length]; exact e
      rw [List.filterMap_cons_none e, List.filterMap_cons_none e2]
      exact ih
    | some x =>
      obtain ⟨u, e2, ru⟩ := r.getD e
      rw [List.filterMap_cons_some e, List.filterMap_cons_some e2]
      exact .cons ru ih
section
variable {X : Cx} {c : Cfg} {W : WX}
theorem pe_stepE {v : Bool} {a lo st : Expr} {fa fl fs : Env → Store → R D} {p2 pos : Pos} (ha : PE X a (tE X.K c W fa)) (hl : PE X lo (tE X.K c W fl)) (hs : PE X st (tE X.K c W fs)) :
    PE X (.Subscript a (.Slice (some lo) none (some st) p2) pos) (tE X.K c W fun e S => (fa e S).bind fun x S1 => (fl e S1).bind fun i S2 => (fs e S2).bind fun k S3 => slcsA v x i k S3) := by
  refine ⟨fun pins s σ H Q I h => ?_⟩
  obtain ⟨e, m, S, re, sm, h⟩ := h
  refine Subscript_ (L2.thn (ha.run pins s σ H (fun x H1 => ∃ (d : D) (m1 : MM) (S1 : Store), EnvR X.K c m1 H1 e σ ∧ Sim X.K c m1 H1 S1 ∧ RV X.K c m1 H1 d x ∧ Aft X.K c W σ m1 H1 ((fl e S1).bind fun i S2 => (fs e S2).bind fun k S3 => slcsA v d i k S3) fun d _ m' H' => ∀ v, RV X.K c m' H' d v → Q v H') I ⟨e, m, S, re, sm, h.bind.imp fun d S1 m1 H1 e1 s1 h1 u ru => ⟨d, m1, S1, re.mono sm e1, s1, ru, h1⟩⟩) fun u s1 ⟨x, H1, I1, r1, d, m1, S1, re1, sm1, rd, q1⟩ => ?_)
  refine wpAny_Slice (L2.thn (hl.run pins s1 σ H1 (fun y H2 => ∃ (i : D) (m2 : MM) (S2 : Store), EnvR X.K c m2 H2 e σ ∧ Sim X.K c m2 H2 S2 ∧ RV X.K c m2 H2 d x ∧ RV X.K c m2 H2 i y ∧ Aft X.K c W σ m2 H2 ((fs e S2).bind fun k S3 => slcsA v d i k S3) fun d _ m' H' => ∀ v, RV X.K c m' H' d v → Q v H') I1 ⟨e, m1, S1, re1, sm1, q1.bind.imp fun i S2 m2 H2 e2 s2 h2 y ry => ⟨i, m2, S2, re1.mono sm1 e2, s2, rd.mono sm1 e2, ry, h2⟩⟩) fun vl s2 ⟨y, H2, I2, r2, i, m2, S2, re2, sm2, rd2, ri, q2⟩ => ?_)
  rw [evalPart_none]
  refine wpAny_pure ?_
  refine L2.thn (hs.run pins s2 σ H2 (fun z H3 => ∃ (k : D) (m3 : MM) (S3 : Store), Sim X.K c m3 H3 S3 ∧ RV X.K c m3 H3 d x ∧ RV X.K c m3 H3 i y ∧ RV X.K c m3 H3 k z ∧ Aft X.K c W σ m3 H3 (slcsA v d i k S3) fun d _ m' H' => ∀ v, RV X.K c m' H' d v → Q v H') I2 ⟨e, m2, S2, re2, sm2, q2.bind.imp fun k S3 m3 H3 e3 s3 h3 z rz => ⟨k, m3, S3, s3, rd2.mono sm2 e3, ri.mono sm2 e3, rz, h3⟩⟩) fun vk s3 ⟨z, H3, I3, r3, k, m3, S3, sm3, rd3, ri3, rk3, q3⟩ => ?_
  have I4 : Inv X pins σ H3 { s3 with heap := s3.heap.push { cls := .type "slice", data := .fields #[vl, .none, vk] } } := I3.kept (t' := s3.toks) fun b ob q => Heap.get?_push_of_some _ q
  unfold slcsA at q3
  split at q3
  · rename_i i k _
    obtain ⟨k0, q3⟩ := Aft.if_ q3
    split at q3
    · rename_i l el
      obtain ⟨a', vs, rfl, h1, h2⟩ := seqL_sq sm3 rd3 el
      cases ri3; cases rk3
      obtain ⟨t1, rfl⟩ := r2
      obtain ⟨t2, rfl⟩ := r3
      cases r1
      obtain ⟨its, r, ht, hz⟩ := I4.list h1
      have hlen := r.length
      have hlen2 := h2.length
      obtain ⟨hzz, hq⟩ := mkL_new sm3 (pick_rv h2 _) (show Aft X.K c W σ m3 H3 (mkL v (pickL l (some i) none (some k)) S3) _ from q3)
      have hT : typeLookup (.type "list") "__getitem__" = pure (some (.builtin _)) := slot_list_getitem.lookup
      have hg : wpAny (model X.prog X.w) X.A (getItem (.ref a') (.ref s3.heap.objs.size)) (L2.EP X pins σ Q) X.xe { s3 with heap := s3.heap.push { cls := .type "slice", data := .fields #[.int i t1, .none, .int k t2] } } := by
        refine wpAny_getItem_list_slice ht.isList (Heap.IsSliceOf.new ..) (.int i t1) .none (.int k t2) (fun z => k0 (by cases z; rfl)) ?_ (by rw [List.size_toArray]; omega)
        have e : slicePick its.toArray (some i) none (some k) = ((sliceRange (sliceBounds (some i) none (some k) l.length).1 (sliceBounds (some i) none (some k) l.length).2.1 (sliceBounds (some i) none (some k) l.length).2.2).filterMap (its[·]?)).toArray := by
          unfold slicePick
          rw [List.size_toArray, ← hlen, ← hlen2]
          congr 2
          funext n
          simp
        rw [e]
        exact ⟨.ref _, _, I4.lnew (t' := s3.toks) (pick_vals r _) hzz, rfl, hq _ I4.fresh⟩
      show wpAny (model X.prog X.w) X.A (subscriptTail a (.Slice (some lo) none (some st) p2) (.ref a') (.ref s3.heap.objs.size)) (L2.EP X pins σ Q) X.xe { s3 with heap := s3.heap.push { cls := .type "slice", data := .fields #[.int i t1, .none, .int k t2] } }
      first
        | exact tail_any (ops := [.ref a', .ref s3.heap.objs.size]) ht.isList.typeIs hT hg (by with_unfolding_all rfl)
        | exact tail_any (ops := [.ref s3.heap.objs.size, .ref a']) ht.isList.typeIs hT hg (by with_unfolding_all rfl)
    · exact q3.elim
  · exact q3.elim
theorem pe_rvsE {v : Bool} {a st : Expr} {fa fs : Env → Store → R D} {p2 pos : Pos} (ha : PE X a (tE X.K c W fa)) (hs : PE X st (tE X.K c W fs)) :
    PE X (.Subscript a (.Slice none none (some st) p2) pos) (tE X.K c W fun e S => (fa e S).bind fun x S1 => (fs e S1).bind fun k S2 => rvsA v x k S2) := by
  refine ⟨fun pins s σ H Q I h => ?_⟩
  obtain ⟨e, m, S, re, sm, h⟩ := h
  refine Subscript_ (L2.thn (ha.run pins s σ H (fun x H1 => ∃ (d : D) (m1 : MM) (S1 : Store), EnvR X.K c m1 H1 e σ ∧ Sim X.K c m1 H1 S1 ∧ RV X.K c m1 H1 d x ∧ Aft X.K c W σ m1 H1 ((fs e S1).bind fun k S2 => rvsA v d k S2) fun d _ m' H' => ∀ v, RV X.K c m' H' d v → Q v H') I ⟨e, m, S, re, sm, h.bind.imp fun d S1 m1 H1 e1 s1 h1 u ru => ⟨d, m1, S1, re.mono sm e1, s1, ru, h1⟩⟩) fun u s1 ⟨x, H1, I1, r1, d, m1, S1, re1, sm1, rd, q1⟩ => ?_)
  refine wpAny_Slice ?_
  rw [evalPart_none]
  refine wpAny_pure ?_
  refine wpAny_pure ?_
  refine L2.thn (hs.run pins s1 σ H1 (fun z H3 => ∃ (k : D) (m3 : MM) (S3 : Store), Sim X.K c m3 H3 S3 ∧ RV X.K c m3 H3 d x ∧ RV X.K c m3 H3 k z ∧ Aft X.K c W σ m3 H3 (rvsA v d k S3) fun d _ m' H' => ∀ v, RV X.K c m' H' d v → Q v H') I1 ⟨e, m1, S1, re1, sm1, q1.bind.imp fun k S3 m3 H3 e3 s3 h3 z rz => ⟨k, m3, S3, s3, rd.mono sm1 e3, rz, h3⟩⟩) fun vk s3 ⟨z, H3, I3, r3, k, m3, S3, sm3, rd3, rk3, q3⟩ => ?_
  have I4 : Inv X pins σ H3 { s3 with heap := s3.heap.push { cls := .type "slice", data := .fields #[.none, .none, vk] } } := I3.kept (t' := s3.toks) fun b ob q => Heap.get?_push_of_some _ q
  unfold rvsA at q3
  split at q3
  · rename_i k
    obtain ⟨k0, q3⟩ := Aft.if_ q3
    split at q3
    · rename_i l el
      obtain ⟨a', vs, rfl, h1, h2⟩ := seqL_sq sm3 rd3 el
      cases rk3
      obtain ⟨t2, rfl⟩ := r3
      cases r1
      obtain ⟨its, r, ht, hz⟩ := I4.list h1
      have hlen := r.length
      have hlen2 := h2.length
      obtain ⟨hzz, hq⟩ := mkL_new sm3 (pick_rv h2 _) (show Aft X.K c W σ m3 H3 (mkL v (pickL l none none (some k)) S3) _ from q3)
      have hT : typeLookup (.type "list") "__getitem__" = pure (some (.builtin _)) := slot_list_getitem.lookup
      have hg : wpAny (model X.prog X.w) X.A (getItem (.ref a') (.ref s3.heap.objs.size)) (L2.EP X pins σ Q) X.xe { s3 with heap := s3.heap.push { cls := .type "slice", data := .fields #[.none, .none, .int k t2] } } := by
        refine wpAny_getItem_list_slice ht.isList (Heap.IsSliceOf.new ..) .none .none (.int k t2) (fun z => k0 (by cases z; rfl)) ?_ (by rw [List.size_toArray]; omega)
        have e : slicePick its.toArray none none (some k) = ((sliceRange (sliceBounds none none (some k) l.length).1 (sliceBounds none none (some k) l.length).2.1 (sliceBounds none none (some k) l.length).2.2).filterMap (its[·]?)).toArray := by
          unfold slicePick
          rw [List.size_toArray, ← hlen, ← hlen2]
          congr 2
          funext n
          simp
        rw [e]
        exact ⟨.ref _, _, I4.lnew (t' := s3.toks) (pick_vals r _) hzz, rfl, hq _ I4.fresh⟩
      show wpAny (model X.prog X.w) X.A (subscriptTail a (.Slice none none (some st) p2) (.ref a') (.ref s3.heap.objs.size)) (L2.EP X pins σ Q) X.xe { s3 with heap := s3.heap.push { cls := .type "slice", data := .fields #[.none, .none, .int k t2] } }
      first
        | exact tail_any (ops := [.ref a', .ref s3.heap.objs.size]) ht.isList.typeIs hT hg (by with_unfolding_all rfl)
        | exact tail_any (ops := [.ref s3.heap.objs.size, .ref a']) ht.isList.typeIs hT hg (by with_unfolding_all rfl)
    · exact q3.elim
  · exact q3.elim
end
end Mn

/-! Mn9: a def by its body. -/
namespace Mn
open PySem PySem.Spec PyProof.Rows
open L2 (V Hp HO Cx SqL SqT Rd St VK WX XK TE TA TS TT TG TI PE PA PS PSs PT PG PI Ends upd upd_same upd_ne OpR R2 Inv Dp DpAll UnR CallR Walk)

section
variable {K : Frag} {c : Cfg} {m m' m2 : MM} {H H' H2 : Hp} {S S' : Store}
mutual
theorem RV.blw : ∀ {d : D} {v : V}, RV K c m H d v → below m.ix.length d = true
  | _, _, .non => rfl
  | _, _, .bl b => rfl
  | _, _, .int i => rfl
  | _, _, .str x => rfl
  | _, _, .tup _ t => RVs.blw t
  | _, _, .wtp _ t => RVs.blw t
  | _, _, .lst _ t => RVs.blw t
  | _, _, .ref h => by
    simp only [Mn.below, decide_eq_true_eq]
    exact (List.getElem?_eq_some_iff.mp h).1
  | _, _, .fn h => rfl
  | _, _, .cls h => rfl
  | _, _, .ty n => rfl
  | _, _, .exn _ _ => by simp [Mn.below, belows]
theorem RVs.blw : ∀ {ds : List D} {vs : List V}, RVs K c m H ds vs → belows m.ix.length ds = true
  | _, _, .nil => rfl
  | _, _, .cons h t => by simp only [belows, RV.blw h, RVs.blw t, Bool.and_self]
end
mutual
theorem RV.sub {n : Nat} (hix : ∀ i, i < n → m2.ix[i]? = m.ix[i]?) (hs : ∀ a ∈ m2.ix, a ∈ m.ix) (hh : ∀ a ∈ m2.hid, a ∈ m.hid) : ∀ {d : D} {v : V}, RV K c m H d v → Mn.below n d = true → RV K c m2 H d v
  | _, _, .non, _ => .non
  | _, _, .bl b, _ => .bl b
  | _, _, .int i, _ => .int i
  | _, _, .str x, _ => .str x
  | _, _, .tup h t, b => .tup h (RVs.sub hix hs hh t b)
  | _, _, .wtp h t, b => .wtp h (RVs.sub hix hs hh t b)
  | _, _, .lst h t, b => .lst (by
    rcases h with ⟨h1, h2, h3⟩ | h
    · exact .inl ⟨h1, fun z => h2 (hs _ z), fun z => h3 (hh _ z)⟩
    · exact .inr h) (RVs.sub hix hs hh t b)
  | _, _, .ref h, b => .ref (by
    simp only [Mn.below, decide_eq_true_eq] at b
    rw [hix _ b]
    exact h)
  | _, _, .fn h, _ => .fn h
  | _, _, .cls h, _ => .cls h
  | _, _, .ty n, _ => .ty n
  | _, _, .exn h1 h2, _ => .exn h1 h2
theorem RVs.sub {n : Nat} (hix : ∀ i, i < n → m2.ix[i]? = m.ix[i]?) (hs : ∀ a ∈ m2.ix, a ∈ m.ix) (hh : ∀ a ∈ m2.hid, a ∈ m.hid) : ∀ {ds : List D} {vs : List V}, RVs K c m H ds vs → belows n ds = true → RVs K c m2 H ds vs
  | _, _, .nil, _ => .nil
  | _, _, .cons h t, b => by
    simp only [belows, Bool.and_eq_true] at b
    exact .cons (RV.sub hix hs hh h b.1) (RVs.sub hix hs hh t b.2)
end
theorem RO.blw {o : O} {u : HO} (r : RO K c m H o u) : belowO m.ix.length o = true := by
  cases r with
  | lst h => exact h.blw
  | dic _ _ h => exact h.blw
theorem RO.sub {n : Nat} (hix : ∀ i, i < n → m2.ix[i]? = m.ix[i]?) (hs : ∀ a ∈ m2.ix, a ∈ m.ix) (hh : ∀ a ∈ m2.hid, a ∈ m.hid) {o : O} {u : HO} (r : RO K c m H o u) (b : belowO n o = true) : RO K c m2 H o u := by
  cases r with
  | lst h => exact .lst (h.sub hix hs hh b)
  | dic hl nd h => exact .dic hl nd (h.sub hix hs hh b)
/-- what is left behind a call: the things that were there -/
theorem Sim.left (s0 : Sim K c m H S) (e : Ext m H m' H') (s : Sim K c m' H' S') (ok : oldOk S S') :
    Ext m H ⟨m.ix, m'.hid⟩ H' ∧ Sim K c ⟨m.ix, m'.hid⟩ H' (S'.take S.length) ∧ (∀ i, i < S.length → m.ix[i]? = m'.ix[i]?) ∧ (∀ a ∈ m.ix, a ∈ m'.ix) := by
  obtain ⟨r, hr1, hr2⟩ := e.pre
  have hix : ∀ i, i < S.length → m.ix[i]? = m'.ix[i]? := fun i hi => by
    rw [hr1, List.getElem?_append_left (by rw [s0.len]; exact hi)]
  have hs : ∀ a ∈ m.ix, a ∈ m'.ix := fun a ha => by rw [hr1]; exact List.mem_append_left _ ha
  refine ⟨⟨⟨[], by simp, by simp⟩, e.hid, e.keep, e.stay⟩, ⟨by simp [s0.len, ok.1], s0.nd, fun a ha => ⟨(s.hid a ha).1, fun z => (s.hid a ha).2 (hs a z)⟩, fun i o h => ?_, s.tab⟩, hix, hs⟩
  have hi : i < S.length := by
    have := (List.getElem?_eq_some_iff.mp h).1
    simp at this
    omega
  rw [List.getElem?_take_of_lt hi] at h
  obtain ⟨a, u, h1, h2, h3⟩ := s.obj i o h
  refine ⟨a, u, by rw [← h1]; exact hix i hi, h2, RO.sub (m := m') (m2 := ⟨m.ix, m'.hid⟩) (n := S.length) hix hs (fun _ h => h) h3 ?_⟩
  rcases ok.2 i hi with z | ⟨o', z, b⟩
  · rw [h] at z
    obtain ⟨a', u', _, _, q3⟩ := s0.obj i o z.symm
    rw [← s0.len]
    exact q3.blw
  · rw [h] at z
    cases z
    exact b
theorem Sim.leftNew {j : Nat} {l : List D} (s0 : Sim K c m H S) (e : Ext m H m' H') (s : Sim K c m' H' S') (ok : oldOk S S') (hj : S.length ≤ j) (hl : S'[j]? = some (.lst l)) (hb : belows S.length l = true) :
    ∃ a, m'.ix[j]? = some a ∧ Ext m H ⟨m.ix ++ [a], m'.hid⟩ H' ∧ Sim K c ⟨m.ix ++ [a], m'.hid⟩ H' (S'.take S.length ++ [.lst l]) := by
  obtain ⟨e1, s1, hix, hs⟩ := s0.left e s ok
  obtain ⟨r, hr1, hr2⟩ := e.pre
  obtain ⟨a, vs, h1, h2, h3⟩ := s.at hl
  have har : a ∈ r := by
    rw [hr1, List.getElem?_append_right (by rw [s0.len]; exact hj)] at h1
    exact List.mem_of_getElem? h1
  have ham : a ∉ m.ix := fun z => by
    have nd := s.nd
    rw [hr1, List.nodup_append] at nd
    exact nd.2.2 a z a har rfl
  have ham' : a ∈ m'.ix := List.mem_of_getElem? h1
  have hahid : a ∉ m'.hid := fun z => (s.hid a z).2 ham'
  have hix2 : ∀ i, i < S.length → (m.ix ++ [a])[i]? = m'.ix[i]? := fun i hi => by
    rw [List.getElem?_append_left (by rw [s0.len]; exact hi)]
    exact hix i hi
  have hs2 : ∀ b ∈ m.ix ++ [a], b ∈ m'.ix := fun b hb => by
    rcases List.mem_append.mp hb with z | z
    · exact hs b z
    · rw [List.mem_singleton.mp z]; exact ham'
  have hlen : (S'.take S.length).length = S.length := by simp [ok.1]
  refine ⟨a, h1, ⟨⟨[a], rfl, by simpa using hr2 a har⟩, e.hid, e.keep, e.stay⟩, by simp [s0.len, ok.1], ?_, fun b hb => ⟨(s.hid b hb).1, fun z => ?_⟩, fun i o h => ?_, s.tab⟩
  · show (m.ix ++ [a]).Nodup
    rw [List.nodup_append]
    exact ⟨s0.nd, by simp, fun x hx y hy => by
      have : y = a := by simpa using hy
      subst this
      exact fun z => ham (z ▸ hx)⟩
  · exact (s.hid b hb).2 (hs2 b z)
  · by_cases hi : i < S.length
    · rw [List.getElem?_append_left (by rw [hlen]; exact hi)] at h
      obtain ⟨b, u, q1, q2, q3⟩ := s1.obj i o h
      refine ⟨b, u, ?_, q2, ?_⟩
      · show (m.ix ++ [a])[i]? = some b
        rw [List.getElem?_append_left (by rw [s0.len]; exact hi)]
        exact q1
      · rw [List.getElem?_take_of_lt hi] at h
        obtain ⟨b', u', p1, p2, p3⟩ := s.obj i o h
        have eb : b = b' := by
          rw [← hix i hi, q1] at p1
          exact Option.some.inj p1
        subst eb
        rw [q2] at p2
        cases p2
        have q4 := q3.blw
        rw [show (⟨m.ix, m'.hid⟩ : MM).ix.length = S.length from s0.len] at q4
        exact RO.sub (m := m') (m2 := ⟨m.ix ++ [a], m'.hid⟩) (n := S.length) hix2 hs2 (fun _ h => h) p3 q4
    · have hi2 : i = S.length := by
        have := (List.getElem?_eq_some_iff.mp h).1
        simp [ok.1] at this
        omega
      subst hi2
      rw [List.getElem?_append_right (by rw [hlen]; exact Nat.le_refl _), hlen] at h
      simp at h
      subst h
      refine ⟨a, _, ?_, h2, .lst (RVs.sub (m := m') (m2 := ⟨m.ix ++ [a], m'.hid⟩) (n := S.length) hix2 hs2 (fun _ h => h) h3 hb)⟩
      show (m.ix ++ [a])[S.length]? = some a
      rw [List.getElem?_append_right (by rw [s0.len]; exact Nat.le_refl _), s0.len]
      simp
theorem fin_ok {W : WX} {σ : L2.St} {md : Md} {d : D} {Q : VK} (s0 : Sim K c m H S) (h : Aft K c W σ m H (fin md S d S') fun d _ m' H' => ∀ v, RV K c m' H' d v → Q v H') (e : Ext m H m' H') (s : Sim K c m' H' S') {v : V} (r : RV K c m' H' d v) : Q v H' := by
  unfold fin at h
  split at h
  · exact h m' H' e s v r
  · obtain ⟨ok, h⟩ := Aft.if_ h
    obtain ⟨e1, s1, hix, hs⟩ := s0.left e s ok
    split at h
    · rename_i x hx
      refine h _ _ e1 s1 v ?_
      unfold outD at hx
      split at hx
      · rename_i hb
        cases hx
        exact RV.sub (m := m') (m2 := ⟨m.ix, m'.hid⟩) (n := S.length) hix hs (fun _ h => h) r hb
      · rename_i hb
        split at hx
        · split at hx
          · split at hx
            · rename_i j _ l hl hbl
              cases hx
              cases r with
              | ref hj =>
                rename_i a
                obtain ⟨a', vs, h1, h2, h3⟩ := s.at hl
                rw [hj] at h1
                cases h1
                refine .lst (.inl ⟨.inl h2, fun z => ?_, fun z => (s.hid _ z).2 (List.mem_of_getElem? hj)⟩) (RVs.sub (m := m') (m2 := ⟨m.ix, m'.hid⟩) (n := S.length) hix hs (fun _ h => h) h3 hbl)
                obtain ⟨i, hi⟩ := List.getElem?_of_mem (show a ∈ m.ix from z)
                have hil : i < S.length := by
                  have := (List.getElem?_eq_some_iff.mp hi).1
                  rw [s0.len] at this
                  exact this
                rw [hix i hil] at hi
                obtain ⟨l1, q1⟩ := List.getElem?_eq_some_iff.mp hi
                obtain ⟨l2, q2⟩ := List.getElem?_eq_some_iff.mp hj
                have eij : i = j := (List.getElem_inj s.nd).mp (q1.trans q2.symm)
                subst eij
                simp only [Mn.below, decide_eq_true_eq] at hb
                exact hb hil
            · cases hx
          · cases hx
        · cases hx
    · exact h.elim
  · obtain ⟨ok, h⟩ := Aft.if_ h
    split at h
    · split at h
      · exact h.elim
      · rename_i j hj
        split at h
        · rename_i l hl
          obtain ⟨hbl, h⟩ := Aft.if_ h
          obtain ⟨a, ha, e1, s1⟩ := s0.leftNew e s ok (by omega) hl hbl
          cases r with
          | ref hj2 =>
            rw [ha] at hj2
            cases hj2
            refine h _ _ e1 s1 _ (.ref ?_)
            show (m.ix ++ [a])[S.length]? = some a
            rw [List.getElem?_append_right (by rw [s0.len]; exact Nat.le_refl _), s0.len]
            simp
        · exact h.elim
    · exact h.elim
theorem leave_ok {W : WX} {σ : L2.St} {md : Md} {r : R F} {Q : VK} (s0 : Sim K c m H S) (h : Aft K c W σ m H (leave md S r) fun d _ m' H' => ∀ v, RV K c m' H' d v → Q v H') :
    Aft K c W σ m H r fun r _ m' H' => FlowR K c { nx := fun _ H' => Q .non H', rt := Q } r m' H' := by
  unfold leave at h
  split at h
  · exact fun m' H' e s v rv => fin_ok s0 h e s rv
  · exact fun m' H' e s σ' _ => fin_ok s0 h e s .non
  · obtain ⟨⟨ok, hb⟩, h⟩ := Aft.if_ h
    intro m' H' cls dx e s rx
    obtain ⟨e1, s1, _, _⟩ := s0.left e s ok
    refine h _ _ cls dx e1 s1 ?_
    cases rx with
    | own hc => exact .own hc
  · exact h.elim
end

/-- the parameters at a def's entry -/
theorem start_env {K : Frag} {c : Cfg} {m : MM} {H : Hp} {N : List Str} {ds : List D} {vs : List V} (r : RVs K c m H ds vs) : EnvR K c m H (ds.map some ++ List.replicate (N.length - ds.length) none) (L2.start N vs) := by
  refine ⟨by simp [L2.start, r.length], fun i d h => ?_⟩
  by_cases hi : i < ds.length
  · rw [List.getElem?_append_left (by simpa using hi), List.getElem?_map] at h
    cases e : ds[i]? with
    | none => rw [e] at h; cases h
    | some d' =>
      rw [e] at h
      simp only [Option.map_some, Option.some.injEq] at h
      subst h
      obtain ⟨v, h1, h2⟩ := r.getD e
      refine ⟨v, ?_, h2⟩
      unfold L2.start
      rw [List.getElem?_append_left (by
        have := (List.getElem?_eq_some_iff.mp h1).1
        simpa using this), List.getElem?_map, h1]
      rfl
  · rw [List.getElem?_append_right (by simpa using hi), List.getElem?_replicate] at h
    split at h <;> simp at h
section
variable {P : Program} {w : World} {K : Frag} {mg : Str → Option Value} {base : Heap}
/-- a def, by its body -/
theorem fn_okE {c : Cfg} {G : Globs} {fuel : Nat} {Pg : Prog} {k j : Nat} {name : String} {d : Def} {x qual : Str} {st : Stmt} {f : Addr} {fd : FuncData} {N ps : List Str} (F : L2.Fun K x qual st f fd) (Sc : L2.FnScope N ps (L2.defScope st)) (hP : Pg name = some d) (hn : d.n = N.length) (hp : d.np = ps.length)
    (hbody : ∀ (cdv : Value) (A : Around) (outer : List PySem.Env) (s : Shared) (H : Hp) (E : XK), fd.code = cdv → L2.Room j (A.deeper (envOfC qual (L2.defScope st) s.heap.objs.size f cdv)) → A.guards = some [] →
      PSs (L2.cxOf (L2.CX P w) P w K mg base N qual (L2.defScope st) f cdv A outer s H E) (L2.defBody st) (tS K c (fun cls dx _ H' => E cls dx H') fun e S => exB G fuel (callA G fuel Pg k) d.body e S)) :
    FnG P w K mg base (L2.CX P w) (j + 1) f fd ps (spG K c (fun ds S => callA G fuel Pg (k + 1) name ds S) ps.length) := by
  obtain ⟨oc, od, kV, doc, pm, an, cdv, ct, osl, rfl, lk, hcd⟩ := F.ex
  refine fnG_of lk hcd Sc (fun vs H Q E h => h.1) (fun A outer s H vs Q E hr hgd h => ?_)
  obtain ⟨hl, m, S, ds, rds, sm, h⟩ := h
  refine ⟨_, hbody cdv A outer s H E rfl hr hgd, ?_⟩
  have h : Aft K c (fun cls dx _ H' => E cls dx H') [] m H (callA G fuel Pg (k + 1) name ds S) _ := h
  unfold callA at h
  rw [hP] at h
  dsimp only at h
  obtain ⟨hlen, h⟩ := Aft.if_ h
  refine ⟨ds.map some ++ List.replicate (d.n - d.np) none, m, S, ?_, sm, Aft.cst (σ := []) (fun _ _ _ _ _ h => h) (leave_ok sm h)⟩
  rw [hn, ← hlen]
  exact start_env rds
end
end Mn

/-! Mn10: a look that the reading's terms are the text's, and that this is enough. -/
namespace Mn
open PySem PySem.Spec PyProof.Rows
open L2 (V Hp HO Cx SqL SqT Rd St VK WX XK TE TA TS TT TG TI PE PA PS PSs PT PG PI Ends upd upd_same upd_ne OpR R2 Inv Dp DpAll UnR CallR Walk)

/-! ### forms -/
def notStar : Expr → Bool
  | .Starred .. => false
  | _ => true
def notSet : Expr → Bool
  | .Set .. => false
  | _ => true
def notCut : Expr → Bool
  | .Slice .. => false
  | _ => true
def noComp : Expr → Bool
  | .ListComp .. => false
  | .SetComp .. => false
  | .DictComp .. => false
  | _ => true
def plainT : Expr → Bool
  | .UnaryOp .Not _ _ => false
  | .BoolOp .. => false
  | .IfExp .. => false
  | .Compare .. => false
  | _ => true
def baseOk : Expr → Bool
  | .Name .. => true
  | .Attribute .. => true
  | .Subscript .. => true
  | .Constant .. => true
  | _ => false
theorem star_cons {e : Expr} {es : List Expr} {env : PySem.Env} (h : notStar e = true) : starEach (e :: es) env = (false, eval e env) :: starEach es env := by
  cases e <;> first | rfl | (cases h; done)
theorem star_any {env : PySem.Env} {pos : Pos} : ∀ {es : List Expr}, es.all notStar = true → (backTo pos (starEach es env)).any (·.1) = false
  | [], _ => rfl
  | e :: es, h => by
    simp only [List.all_cons, Bool.and_eq_true] at h
    rw [star_cons h.1]
    have ih := star_any (env := env) (pos := pos) h.2
    unfold backTo at ih ⊢
    simp only [List.map_cons, List.any_cons, Bool.false_or]
    exact ih
theorem isTrue_plainT {e : Expr} {env : PySem.Env} (h : plainT e = true) (whole : Sem Value) : isTrue e env whole = (do let v ← whole; standAt e.pos; holding [v] (truthy v)) := by
  cases e with
  | UnaryOp op a p => cases op <;> first | rfl | (cases h; done)
  | BoolOp => cases h
  | IfExp => cases h
  | Compare => cases h
  | _ => rfl
theorem swaps_no {e : Expr} {t : Option Expr} {l : Nat} {env : PySem.Env} (h : noComp e = true) : swapsWith e t l env = pure false := by
  cases e <;> first | rfl | (cases h; done)
theorem folded_no {e : Expr} {env : PySem.Env} (h : notSet e = true) (x : Value) : foldedSetIterable e env x = pure x := by
  cases e <;> first | rfl | (cases h; done)
theorem base_ok {o : Expr} {a : Str} {env : PySem.Env} (h : baseOk o = true) : attributeBase o a env (eval o env) = eval o env := by
  cases o <;> first | rfl | (cases h; done)
theorem plainIx {b : Expr} (h : notCut b = true) : L2.PlainIx b := by
  intro o i
  cases b <;> first | rfl | (cases h; done)
theorem noMark {op : CmpOp} {b : Expr} (h : notSet b = true) : behindInMarks op b = false := by
  cases b <;> first | rfl | (cases h; done)

/-! ### names -/
def visIn (sc : Scope) (x : Str) : Bool := match sc.names.lookup x with
  | some .local => true
  | some .cell => true
  | some .free => true
  | _ => false
theorem vis_of {sc : Scope} {x : Str} (h : visIn sc x = true) : L2.Vis sc x := by
  unfold visIn at h
  split at h
  · exact .inl (by assumption)
  · exact .inr (.inl (by assumption))
  · exact .inr (.inr (by assumption))
  · cases h
def okName (x : Str) : Bool := !(x == ("__debug__" : Str)) && !(x == ("__classdict__" : Str)) && !(x == ("__name__" : Str))
theorem okName_db {x : Str} (h : okName x = true) : (x == ("__debug__" : Str)) = false ∧ (x == ("__classdict__" : Str)) = false ∧ x ≠ "__name__" := by
  unfold okName at h
  simp only [Bool.and_eq_true, Bool.not_eq_true'] at h
  exact ⟨h.1.1, h.1.2, fun e => by rw [e] at h; exact absurd h.2 (by decide)⟩
def isVar (N : List Str) (sc : Scope) (i : Nat) (x : Str) : Bool := decide (N[i]? = some x) && visIn sc x && okName x
def isGl (sc : Scope) (x : String) (y : Str) : Bool := decide (y = Str.ofString x) && decide (sc.names.lookup y = some NameKind.globalImplicit) && okName y
/-- a builtin of that name -/
def bootOk : String → Bool
  | "len" | "max" | "min" | "sum" | "isinstance" | "tuple" | "list" | "int" => true
  | _ => false
theorem boot_blt {f : String} (h : isBlt f = true) : bootBuiltins (Str.ofString f) = some (.builtin f) := by
  unfold isBlt at h
  simp only [List.contains_iff_mem, List.mem_cons, List.not_mem_nil, or_false] at h
  rcases h with rfl | rfl | rfl | rfl | rfl | rfl | rfl | rfl
  · exact boot_len
  · exact boot_max
  · exact boot_min
  · exact boot_sum
  · exact boot_isinstance
  · exact boot_any
  · exact boot_all
  · decide +kernel
theorem boot_ty {f : String} (h : isTy f = true) : bootBuiltins (Str.ofString f) = some (.type f) := by
  unfold isTy at h
  simp only [List.contains_iff_mem, List.mem_cons, List.not_mem_nil, or_false] at h
  rcases h with rfl | rfl | rfl
  · exact boot_tuple
  · exact boot_list
  · exact boot_int
def isTyN (f : String) : Bool := ["tuple", "list", "int", "str", "bool", "dict"].contains f
theorem boot_tyN {f : String} (h : isTyN f = true) : bootBuiltins (Str.ofString f) = some (.type f) := by
  unfold isTyN at h
  simp only [List.contains_iff_mem, List.mem_cons, List.not_mem_nil, or_false] at h
  rcases h with rfl | rfl | rfl | rfl | rfl | rfl
  · exact boot_tuple
  · exact boot_list
  · exact boot_int
  · exact boot_str
  · exact boot_bool
  · exact boot_dict

def notDisp : Expr → Bool
  | .Set .. => false
  | .List .. => false
  | _ => true
theorem genFold_no {e : Expr} {env : PySem.Env} (h : notDisp e = true) (x : Value) : genFold e env x = pure x := by
  cases e <;> first | rfl | (cases h; done)
/-- a def's scope in which generator expressions stand: its table is told -/
def gOk (c : Sg) (sc : Scope) : Bool := c.gscs.any fun s => decide (s = sc)
def qName (q : Bool) : String := if q then "all" else "any"

/-! ### the look -/
def Es.len : Es → Nat
  | .nil => 0
  | .cons _ r => r.len + 1
section
variable (c : Sg) (N : List Str)
def ckTg (sc : Scope) (t : Tg) (e : Expr) : Bool := match t, e with
  | .nm i, .Name x _ => decide (N[i]? = some x) && (decide (sc.names.lookup x = some NameKind.local) || decide (sc.names.lookup x = some NameKind.cell))
  | .tp is, .Tuple es _ _ => decide (is.length = es.length) && (is.zip es).all fun p => match p.2 with
      | .Name x _ => decide (N[p.1]? = some x) && (decide (sc.names.lookup x = some NameKind.local) || decide (sc.names.lookup x = some NameKind.cell))
      | _ => false
  | _, _ => false
def ckOwn (own : List Nat) : List (Str × Nat) := own.filterMap fun i => (N[i]?).map fun x => (x, i)
mutual
def ckE : Nat → Scope → E → Expr → Bool
  | 0, _, _, _ => false
  | n + 1, sc, me, e => match me, e with
    | .non, .Constant .none _ _ => true
    | .bl b, .Constant (.bool b') _ _ => decide (b = b')
    | .int i, .Constant (.int j) _ _ => decide (i = j)
    | .str x, .Constant (.str y) _ _ => decide (x = y)
    | .ty t, .Name x _ => isGl sc t x && isTyN t && c.bls.contains t
    | .var i, .Name x _ => isVar N sc i x
    | .glob x, .Name y _ => isGl sc x y
    | .tup es, .Tuple l _ _ => ckEs n sc es l
    | .lst _ es, .List l _ => ckEs n sc es l
    | .bin _ op a b, .BinOp x o y _ => decide (op = o) && ckE n sc a x && ckE n sc b y
    | .neg a, .UnaryOp .USub x _ => ckE n sc a x
    | .not a, .UnaryOp .Not x _ => ckE n sc a x
    | .cmp op a b, .Compare x [o] [y] _ => decide (op = o) && ckE n sc a x && ckE n sc b y && notSet y
    | .chain o1 o2 a b d, .Compare x [p, q] [y, z] _ => decide (o1 = p) && decide (o2 = q) && ckE n sc a x && ckE n sc b y && ckE n sc d z && notSet z
    | .and a b, .BoolOp .And l _ => ckBs n sc true (.and a b) l
    | .or a b, .BoolOp .Or l _ => ckBs n sc false (.or a b) l
    | .ife d a b, .IfExp z x y _ => ckT n sc d z && ckE n sc a x && ckE n sc b y
    | .call f es, .Call (.Name x _) l [] _ => isGl sc f x && decide (c.sig f = some es.len) && ckEs n sc es l
    | .blt _ f es, .Call (.Name x _) (y :: l) [] _ => isGl sc f x && (isBlt f || isTy f) && c.bls.contains f && ckEs n sc es (y :: l)
    | .isx a f tab, .Call (.Name g _) [x, .Name z _] [] _ => isGl sc "isinstance" g && c.bls.contains "isinstance" && notStar x && ckE n sc a x && isGl sc f z && decide (c.isx.lookup f = some tab)
    | .maxd a d, .Call (.Name f _) [x] [⟨some nm, z, _⟩] _ => isGl sc "max" f && c.bls.contains "max" && notStar x && decide (nm = Str.ofString "default") && ckE n sc a x && ckE n sc d z
    | .lens a, .Call (.Name f _) [.Call (.Name g _) [x] [] _] [] _ => isGl sc "len" f && c.bls.contains "len" && isGl sc "set" g && c.bls.contains "set" && notStar x && ckE n sc a x
    | .dict0, .Dict [] [] _ => true
    | .dict1 k a, .Dict [some x] [y] _ => ckE n sc k x && ckE n sc a y
    | .tzip a b, .Call (.Name f _) [.Call (.Name g _) [x, y] [] _] [] _ => isGl sc "tuple" f && c.bls.contains "tuple" && isGl sc "zip" g && c.bls.contains "zip" && notStar x && notStar y && ckE n sc a x && ckE n sc b y
    | .inv a, .UnaryOp .Invert x _ => ckE n sc a x
    | .rvs _ a st, .Subscript x (.Slice none none (some k) _) _ => ckE n sc a x && ckE n sc st k
    | .comp2 _ own own1 tg it d tg1 it1 d1 e, .ListComp elt [⟨t, iter, ifs, 0⟩, ⟨t1, iter1, ifs1, 0⟩] scope _ =>
      L2.blkC N sc scope (ckOwn N own) && decide ((ckOwn N own).map (·.2) = own) && tg.slots.all (own.contains ·) && ckTg N scope tg t && ckI n sc it t iter && notSet iter && ckC n (L2.relS scope sc) d ifs && ckE n (L2.relS scope sc) e elt && !gOk c (L2.relS scope sc) &&
        own1.all (own.contains ·) && tg1.slots.all (own1.contains ·) && ckTg N scope tg1 t1 && ckI n (L2.relS scope sc) it1 t1 iter1 && ckC n (L2.relS scope sc) d1 ifs1 && notSet iter1
    | .dead, e => noComp e
    | .dict ks es, .Dict keys values _ => ckD n sc ks es keys values && keys.all (·.isSome) && decide (keys.length = values.length) && decide (1 ≤ keys.length) && decide (keys.length ≤ 15)
    | .dget o k, .Subscript x (.Constant (.str k') _ _) _ => decide (k = k') && ckE n sc o x
    | .mth T m o .nil, .Call (.Attribute x y ap) [] [] cp => decide (T = "list") && decide (m = "clear") && decide (y = Str.ofString "clear") && baseOk x && decide (ap.endLine = cp.line) && ckE n sc o x
    | .mth T m o es, .Call (.Attribute x y ap) [z] [] cp => (decide (T = "list") && decide (m = "append") && decide (y = Str.ofString "append") || decide (T = "list") && decide (m = "pop") && decide (y = Str.ofString "pop") || decide (T = "str") && decide (m = "join") && decide (y = Str.ofString "join") || decide (T = "tuple") && decide (m = "index") && decide (y = Str.ofString "index")) && baseOk x && decide (ap.endLine = cp.line) && ckE n sc o x && ckEs n sc es [z]
    | .sub a i, .Subscript x y _ => ckE n sc a x && ckE n sc i y && notCut y
    | .slcS _ a lo st, .Subscript x (.Slice (some l) none (some k) _) _ => ckE n sc a x && ckE n sc lo l && ckE n sc st k
    | .slc _ a lo hi, .Subscript x (.Slice l h none _) _ => ckE n sc a x && ckO n sc lo l && ckO n sc hi h
    | .comp _ own tg it d e, .ListComp elt [⟨t, iter, ifs, 0⟩] scope _ =>
      L2.blkC N sc scope (ckOwn N own) && decide ((ckOwn N own).map (·.2) = own) && tg.slots.all (own.contains ·) && ckTg N scope tg t && ckI n sc it t iter && notSet iter && ckC n (L2.relS scope sc) d ifs && ckE n (L2.relS scope sc) e elt && !gOk c (L2.relS scope sc)
    | .agen q own tg it e, .Call (.Name x _) [.GeneratorExp elt [⟨t, iter, [], 0⟩] scope _] [] _ =>
      gOk c sc && !gOk c scope && isGl sc (qName q) x && c.bls.contains (qName q) && L2.blkC N sc scope (ckOwn N own) && decide ((ckOwn N own).map (·.2) = own) && tg.slots.all (own.contains ·) && (scope.names.all fun y => decide (y.2 ≠ NameKind.cell)) &&
        decide (scope.names.lookup (".0" : Str) = some NameKind.local) && !scope.isCoroutine && ckTg N scope tg t && ckI n sc it t iter && notDisp iter && ckE n scope e elt
    | _, _ => false
def ckD : Nat → Scope → List Str → Es → List (Option Expr) → List Expr → Bool
  | 0, _, _, _, _, _ => false
  | n + 1, sc, ks, es, keys, values => match ks, es, keys, values with
    | [], .nil, [], [] => true
    | k :: ks, .cons a r, some (.Constant (.str k') _ _) :: keys, v :: values => decide (k = k') && ckE n sc a v && ckD n sc ks r keys values
    | _, _, _, _ => false
/-- what stands side by side of and, or -/
def ckBs : Nat → Scope → Bool → E → List Expr → Bool
  | 0, _, _, _, _ => false
  | n + 1, sc, b, me, l => match b, me, l with
    | _, e, [x] => ckE n sc e x
    | true, .and a b, x :: y :: r => ckE n sc a x && ckBs n sc true b (y :: r)
    | false, .or a b, x :: y :: r => ckE n sc a x && ckBs n sc false b (y :: r)
    | _, _, _ => false
def ckBt : Nat → Scope → Bool → E → List Expr → Bool
  | 0, _, _, _, _ => false
  | n + 1, sc, b, me, l => match b, me, l with
    | _, e, [x] => ckT n sc e x
    | true, .and a b, x :: y :: r => ckT n sc a x && ckBt n sc true b (y :: r)
    | false, .or a b, x :: y :: r => ckT n sc a x && ckBt n sc false b (y :: r)
    | _, _, _ => false
def ckT : Nat → Scope → E → Expr → Bool
  | 0, _, _, _ => false
  | n + 1, sc, me, e => match me, e with
    | .not a, .UnaryOp .Not x _ => ckT n sc a x
    | .and a b, .BoolOp .And l _ => ckBt n sc true (.and a b) l
    | .or a b, .BoolOp .Or l _ => ckBt n sc false (.or a b) l
    | .cmp op a b, .Compare x [o] [y] _ => decide (op = o) && ckE n sc a x && ckE n sc b y && notSet y
    | .chain o1 o2 a b d, .Compare x [p, q] [y, z] _ => decide (o1 = p) && decide (o2 = q) && ckE n sc a x && ckE n sc b y && ckE n sc d z && notSet z
    | a, x => plainT x && ckE n sc a x
def ckEs : Nat → Scope → Es → List Expr → Bool
  | 0, _, _, _ => false
  | n + 1, sc, es, l => match es, l with
    | .nil, [] => true
    | .cons a r, x :: l => notStar x && ckE n sc a x && ckEs n sc r l
    | _, _ => false
def ckO : Nat → Scope → Oe → Option Expr → Bool
  | 0, _, _, _ => false
  | n + 1, sc, o, l => match o, l with
    | .none, none => true
    | .some a, some x => ckE n sc a x
    | _, _ => false
def ckC : Nat → Scope → Oe → List Expr → Bool
  | 0, _, _, _ => false
  | n + 1, sc, o, l => match o, l with
    | .none, [] => true
    | .some a, [x] => ckT n sc a x
    | _, _ => false
def ckI : Nat → Scope → It → Expr → Expr → Bool
  | 0, _, _, _, _ => false
  | n + 1, sc, it, tg, e => match it, tg, e with
    | .seq a, _, x => ckE n sc a x
    | .rng1 a, _, .Call (.Name f _) [x] [] _ => isGl sc "range" f && c.bls.contains "range" && notStar x && ckE n sc a x
    | .rng2 a b, _, .Call (.Name f _) [x, y] [] _ => isGl sc "range" f && c.bls.contains "range" && notStar x && notStar y && ckE n sc a x && ckE n sc b y
    | .rngD a b, _, .Call (.Name f _) [x, y, z] [] _ => isGl sc "range" f && c.bls.contains "range" && notStar x && notStar y && notStar z && ckE n sc a x && ckE n sc b y && ckE n sc (.neg (.int 1)) z
    | .zip a b, .Tuple _ _ _, .Call (.Name f _) [x, y] [] _ => isGl sc "zip" f && c.bls.contains "zip" && notStar x && notStar y && ckE n sc a x && ckE n sc b y
    | .enum a, .Tuple _ _ _, .Call (.Name f _) [x] [] _ => isGl sc "enumerate" f && c.bls.contains "enumerate" && notStar x && ckE n sc a x
    | _, _, _ => false
end
end

/-! ### where an expression stands -/
structure Cy (c : Cfg) (G : Globs) (N : List Str) (k : Nat) (call : String → List D → Store → R D) (sc : Scope) (X : Cx) (W : WX) : Prop where
  hN : X.N = N
  hs : X.env.scope = sc
  calm : X.calm = true
  nd : X.N.Nodup
  room : L2.Room k X.A
  gx : gOk c.sg sc = true → L2.Room (k + 1) X.A ∧ ∃ c0 P, X.env.code = .ref c0 ∧ GxR.TabB X.base X.mg c0 P ∧ P ∈ c.tabs
  un : X.A.units + 65 < cLine
  gd : X.A.guards = some []
  tk : L2.Takes X W
  fns : ∀ f a, c.sg.sig f = some a → ∃ (ad : Addr) (fd : FuncData) (ps : List Str), FnG X.prog X.w X.K X.mg X.base (L2.CX X.prog X.w) k ad fd ps (spG X.K c (fun ds S => call f ds S) a) ∧ X.mg (Str.ofString f) = some (.ref ad) ∧ PySem.W.keepIn X.K (.ref ad) = true ∧ L2.Binds X.K fd ps []
  bls : ∀ f, c.sg.bls.contains f = true → X.mg (Str.ofString f) = none
  cls : ∀ f, c.sg.exs.contains f = true → ∃ C, c.ca f = some C ∧ ExcCl X.K X.mg C f
  isx : ∀ f tab, c.sg.isx.lookup f = some tab → IsCl X.K X.mg c.ca f tab
  top : ∀ f, c.sg.tops.contains f = true → ∃ C, X.mg (Str.ofString f) = some (.ref C) ∧ ∀ y D, c.ca y = some D → PySem.W.exmOne X.K (.ref D) (.ref C) = some true
  globs : ∀ x d, G x = some d → ∃ (u : Value) (v : V), X.mg (Str.ofString x) = some u ∧ L2.RelV v u ∧ ∀ (m : MM) (H : Hp), RV X.K c m H d v
section
variable {c : Cfg} {G : Globs} {N : List Str} {k fuel : Nat} {call : String → List D → Store → R D} {sc : Scope} {X : Cx} {W : WX}
/-- within a comprehension -/
theorem Cy.blk (y : Cy c G N k call sc X W) (s : Shared) (H : Hp) (scope : Scope) (cl : List (Str × Addr)) (C : Addr) (fp : List Addr) (hg : gOk c.sg (L2.relS scope sc) = false) :
    Cy c G N k call (L2.relS scope sc) (X.blk s H scope (compEnvC scope cl C X.env) fp) (fun _ _ _ _ => False) where
  hN := y.hN
  hs := by
    have := y.hs
    show relabel scope X.env = _
    unfold relabel L2.relS PySem.Env.kindOf
    rw [this]
  calm := y.calm
  nd := y.nd
  room := y.room
  gx := fun z => by rw [hg] at z; cases z
  un := y.un
  gd := y.gd
  tk := L2.takes0
  fns := y.fns
  bls := y.bls
  cls := y.cls
  top := y.top
  isx := y.isx
  globs := y.globs
/-- within a generator expression -/
theorem Cy.gen (y : Cy c G N k call sc X W) (s : Shared) (H : Hp) (scope : Scope) (C : Addr) (code : Value) (A : Around) (fp : List Addr) (go : Addr × Obj) (hg : gOk c.sg scope = false) (hr : L2.Room k A) (hgd : A.guards = some []) :
    Cy c G N k call scope (genCx X s H (genEnv scope (cloOf X scope) C code builtinsNs X.env) A fp go) (fun _ _ _ _ => False) where
  hN := y.hN
  hs := rfl
  calm := y.calm
  nd := y.nd
  room := hr
  gx := fun z => by rw [hg] at z; cases z
  un := by
    have := hr.un
    show A.units + 65 < cLine
    omega
  gd := hgd
  tk := L2.takes0
  fns := y.fns
  bls := y.bls
  cls := y.cls
  top := y.top
  isx := y.isx
  globs := y.globs
theorem gl_of (y : Cy c G N k call sc X W) {f : String} {x : Str} (h : isGl sc f x = true) : x = Str.ofString f ∧ L2.Gl X (Str.ofString f) ∧ (Str.ofString f == ("__debug__" : Str)) = false ∧ Str.ofString f ≠ "__name__" := by
  unfold isGl at h
  simp only [Bool.and_eq_true, decide_eq_true_eq] at h
  obtain ⟨⟨rfl, h1⟩, h2⟩ := h
  obtain ⟨h3, _, h4⟩ := okName_db h2
  exact ⟨rfl, by
    show X.env.kindOf _ = _
    unfold PySem.Env.kindOf
    rw [y.hs]
    exact h1, h3, h4⟩
theorem evEs_len : ∀ (es : Es) (e : Env) (S : Store) (ds : List D) (S' : Store), evEs G call es e S = .ok ds S' → ds.length = es.len
  | .nil, e, S, ds, S', h => by
    simp only [evEs, R.ok.injEq] at h
    rw [← h.1]
    rfl
  | .cons a r, e, S, ds, S', h => by
    simp only [evEs] at h
    cases h1 : evE G call a e S with
    | bad => rw [h1] at h; cases h
    | exc x S1 => rw [h1] at h; cases h
    | ok x S1 =>
      rw [h1] at h
      dsimp only [R.bind] at h
      cases h2 : evEs G call r e S1 with
      | bad => rw [h2] at h; cases h
      | exc x S1 => rw [h2] at h; cases h
      | ok xs S2 =>
        rw [h2] at h
        dsimp only [R.bind] at h
        cases h
        simp [Es.len, evEs_len r e S1 xs _ h2]
end
end Mn

/-! Mn11: the look is enough: expressions. -/
namespace Mn
open PySem PySem.Spec PyProof.Rows
open L2 (V Hp HO Cx SqL SqT Rd St VK WX XK TE TA TS TT TG TI PE PA PS PSs PT PG PI Ends upd upd_same upd_ne OpR R2 Inv Dp DpAll UnR CallR Walk)

theorem pe_deadE {X : Cx} {c : Cfg} {W : WX} {e : Expr} : PE X e (tE X.K c W fun _ _ => .bad) := ⟨fun pins s σ H Q I h => by
  obtain ⟨_, _, _, _, _, h⟩ := h
  exact h.elim⟩
structure Snd (c : Cfg) (G : Globs) (N : List Str) (k : Nat) (call : String → List D → Store → R D) (n : Nat) : Prop where
  E : ∀ {sc : Scope} {X : Cx} {W : WX}, Cy c G N k call sc X W → ∀ {me : E} {e : Expr}, ckE c.sg N n sc me e = true → PE X e (tE X.K c W (evE G call me))
  Bs : ∀ {sc : Scope} {X : Cx} {W : WX}, Cy c G N k call sc X W → ∀ {b : Bool} {me : Mn.E} {l : List Expr} {pos : Pos}, ckBs c.sg N n sc b me l = true → PE X (.BoolOp (if b = true then .And else .Or) l pos) (tE X.K c W (evE G call me))
  Bt : ∀ {sc : Scope} {X : Cx} {W : WX}, Cy c G N k call sc X W → ∀ {b : Bool} {me : Mn.E} {l : List Expr} {pos : Pos}, ckBt c.sg N n sc b me l = true → L2.PW X (.BoolOp (if b = true then .And else .Or) l pos) (tT X.K c W (evE G call me))
  T : ∀ {sc : Scope} {X : Cx} {W : WX}, Cy c G N k call sc X W → ∀ {me : Mn.E} {e : Expr}, ckT c.sg N n sc me e = true → PT X e (tT X.K c W (evE G call me))
  Dd : ∀ {sc : Scope} {X : Cx} {W : WX}, Cy c G N k call sc X W → ∀ {ks : List Str} {es : Es} {keys : List (Option Expr)} {values : List Expr} {pos : Pos}, ckD c.sg N n sc ks es keys values = true → ∃ trs, L2.PPs X pos keys values trs ∧ PrOk X c W ks (evEs G call es) trs
  Es : ∀ {sc : Scope} {X : Cx} {W : WX}, Cy c G N k call sc X W → ∀ {es : Es} {l : List Expr}, ckEs c.sg N n sc es l = true → PA X l (tA X.K c W (evEs G call es)) ∧ l.all notStar = true
  O : ∀ {sc : Scope} {X : Cx} {W : WX}, Cy c G N k call sc X W → ∀ {o : Oe} {l : Option Expr}, ckO c.sg N n sc o l = true → L2.PO X l (tO X.K c W (evOe G call o))
  C : ∀ {sc : Scope} {X : Cx} {W : WX}, Cy c G N k call sc X W → ∀ {o : Oe} {l : List Expr}, ckC c.sg N n sc o l = true → L2.PTs X l (tT X.K c W (evOc G call o))
  I : ∀ {sc : Scope} {X : Cx} {W : WX}, Cy c G N k call sc X W → ∀ {it : It} {tg e : Expr}, ckI c.sg N n sc it tg e = true → PI X tg e (tI X c W (evIt G call it))

section
variable {c : Cfg} {G : Globs} {N : List Str} {k : Nat} {call : String → List D → Store → R D} {n : Nat} {sc : Scope} {X : Cx} {W : WX}
theorem pe_globE (y : Cy c G N k call sc X W) {x : String} {z : Str} {pos : Pos} (h : isGl sc x z = true) : PE X (.Name z pos) (tE X.K c W (evE G call (.glob x))) := by
  obtain ⟨rfl, hg, hdb, hn⟩ := gl_of y h
  cases e : G x with
  | none =>
    refine ⟨fun pins s σ H Q I h => ?_⟩
    obtain ⟨e1, m, S, re, sm, h⟩ := h
    simp only [evE, e] at h
    exact h.elim
  | some d =>
    obtain ⟨u, v, h1, h2, h3⟩ := y.globs x d e
    refine PE.imp (L2.pe_glob hg h1 h2 hdb) fun σ H Q h => ?_
    obtain ⟨e1, m, S, re, sm, h⟩ := h
    simp only [evE, e] at h
    exact h.now sm _ (h3 _ _)
/-- a target that is stored where a comprehension runs -/
theorem pg_blk (y : Cy c G N k call sc X W) {scope : Scope} {t : Tg} {e : Expr} (h : ckTg N scope t e = true) :
    ∃ g, TgOk X c t g ∧ ∀ (s : Shared) (H : Hp) (C : Addr) (cl : List (Str × Addr)) (fp : List Addr), PG (X.blk s H scope (compEnvC scope cl C X.env) fp) e g := by
  have nm : ∀ {i : Nat} {x : Str} {p : Pos}, (decide (N[i]? = some x) && (decide (scope.names.lookup x = some NameKind.local) || decide (scope.names.lookup x = some NameKind.cell))) = true →
      ∀ (s : Shared) (H : Hp) (C : Addr) (cl : List (Str × Addr)) (fp : List Addr), PG (X.blk s H scope (compEnvC scope cl C X.env) fp) (.Name x p) (L2.gName i) := by
    intro i x p h s H C cl fp
    simp only [Bool.and_eq_true, Bool.or_eq_true, decide_eq_true_eq] at h
    have hi : (X.blk s H scope (compEnvC scope cl C X.env) fp).N[i]? = some x := by
      show X.N[i]? = some x
      rw [y.hN]
      exact h.1
    rcases h.2 with h2 | h2
    · have hl : (X.blk s H scope (compEnvC scope cl C X.env) fp).env.scope.names.lookup x = some .local := L2.lookup_relS_keep (sc := X.env.scope) (by decide) h2
      exact L2.pg_name y.nd hi (.inl hl) (.inr hl)
    · have hl : (X.blk s H scope (compEnvC scope cl C X.env) fp).env.scope.names.lookup x = some .cell := L2.lookup_relS_keep (sc := X.env.scope) (by decide) h2
      exact L2.pg_name y.nd hi (.inr hl) (.inl (by
        show (scope.names.lookup x == some .cell) = true
        rw [h2]
        rfl))
  unfold ckTg at h
  split at h
  · exact ⟨_, tg_nm _, nm h⟩
  · rename_i is es kk p
    simp only [Bool.and_eq_true, decide_eq_true_eq] at h
    refine ⟨_, tg_tp is, fun s H C cl fp => ?_⟩
    have hes : ∀ (is : List Nat) (es : List Expr), is.length = es.length → ((is.zip es).all fun p => match p.2 with
        | .Name x _ => decide (N[p.1]? = some x) && (decide (scope.names.lookup x = some NameKind.local) || decide (scope.names.lookup x = some NameKind.cell))
        | _ => false) = true → L2.PGs (X.blk s H scope (compEnvC scope cl C X.env) fp) es (gNames is) ∧ (assignEach es (X.blk s H scope (compEnvC scope cl C X.env) fp).env).length = is.length ∧ (assignEach es (X.blk s H scope (compEnvC scope cl C X.env) fp).env).findIdx? (·.1) = none := by
      intro is
      induction is with
      | nil =>
        intro es hl _
        cases es with
        | nil => exact ⟨L2.pgs_nil, rfl, rfl⟩
        | cons _ _ => simp at hl
      | cons i r ih =>
        intro es hl hz
        cases es with
        | nil => simp at hl
        | cons e es =>
          simp only [List.zip_cons_cons, List.all_cons, Bool.and_eq_true] at hz
          obtain ⟨h1, h2, h3⟩ := ih es (by simpa using hl) hz.2
          cases e with
          | Name x p =>
            refine ⟨L2.pgs_cons (nm hz.1 s H C cl fp) h1, ?_, ?_⟩
            · show ((false, _) :: assignEach es _).length = _
              simp only [List.length_cons, h2]
            · show ((false, _) :: assignEach es _).findIdx? _ = _
              simp only [List.findIdx?_cons, Bool.false_eq_true, if_false, h3, Option.map_none]
          | _ => exact absurd hz.1 (by simp)
    obtain ⟨h1, h2, h3⟩ := hes is es h.1 h.2
    exact pg_sq y.calm h1 h2 h3
  · cases h
end

section
variable {c : Cfg} {G : Globs} {N : List Str} {k : Nat} {call : String → List D → Store → R D} {n : Nat}
/-- a list comprehension's parts -/
theorem lc_parts (S : Snd c G N k call n) {sc : Scope} {X : Cx} {W : WX} (y : Cy c G N k call sc X W) {v : Bool} {own : List Nat} {tg : Tg} {it : It} {d : Oe} {e : Mn.E} {elt t iter : Expr} {ifs : List Expr} {scope : Scope}
    (h : (L2.blkC N sc scope (ckOwn N own) && decide ((ckOwn N own).map (·.2) = own) && tg.slots.all (own.contains ·) && ckTg N scope tg t && ckI c.sg N n sc it t iter && notSet iter && ckC c.sg N n (L2.relS scope sc) d ifs && ckE c.sg N n (L2.relS scope sc) e elt && !gOk c.sg (L2.relS scope sc)) = true) :
    ∃ gt, (∀ σ H Q, tE X.K c W (evE G call (.comp v own tg it d e)) σ H Q → L2.tLc (tI X c W (evIt G call it)) gt (tT X.K c (fun _ _ _ _ => False) (evOc G call d)) (tE X.K c (fun _ _ _ _ => False) (evE G call e)) ((ckOwn N own).map (·.2)) σ H Q) ∧
      L2.BlkOk X.N X.env.scope scope (ckOwn N own) ∧ PI X t iter (tI X c W (evIt G call it)) ∧ (∀ (s : Shared) (H : Hp) (C : Addr) (cl : List (Str × Addr)) (fp : List Addr), PG (X.blk s H scope (compEnvC scope cl C X.env) fp) t gt) ∧
      (∀ (s : Shared) (H : Hp) (C : Addr) (cl : List (Str × Addr)) (fp : List Addr), L2.PTs (X.blk s H scope (compEnvC scope cl C X.env) fp) ifs (tT X.K c (fun _ _ _ _ => False) (evOc G call d))) ∧
      (∀ (s : Shared) (H : Hp) (C : Addr) (cl : List (Str × Addr)) (fp : List Addr), PE (X.blk s H scope (compEnvC scope cl C X.env) fp) elt (tE X.K c (fun _ _ _ _ => False) (evE G call e))) ∧
      ∀ x, foldedSetIterable iter X.env x = pure x := by
  simp only [Bool.and_eq_true, decide_eq_true_eq, Bool.not_eq_true'] at h
  obtain ⟨⟨⟨⟨⟨⟨⟨⟨h1, h2⟩, h3⟩, h4⟩, h5⟩, h6⟩, h7⟩, h8⟩, h9⟩ := h
  obtain ⟨gt, ht, hg⟩ := pg_blk y h4
  refine ⟨gt, fun σ H Q q => ?_, ?_, S.I y h5, hg, fun s H C cl fp => S.C (y.blk s H scope cl C fp h9) h7, fun s H C cl fp => S.E (y.blk s H scope cl C fp h9) h8, folded_no h6⟩
  · rw [h2]
    exact lc_read (v := v) ht (fun i hi => by simpa using List.all_eq_true.mp h3 i hi) σ H Q q
  · rw [y.hN, y.hs]
    exact L2.blkOk_by h1

/-- a target that is stored where a generator expression runs -/
theorem pg_gen {sc : Scope} {X : Cx} {W : WX} (y : Cy c G N k call sc X W) {scope : Scope} {t : Tg} {e : Expr} (hnc : ∀ y ∈ scope.names, y.2 ≠ NameKind.cell) (h : ckTg N scope t e = true) :
    ∃ g, TgOk X c t g ∧ ∀ (s : Shared) (H : Hp) (C : Addr) (code : Value) (A : Around) (fp : List Addr) (go : Addr × Obj), PG (genCx X s H (genEnv scope (cloOf X scope) C code builtinsNs X.env) A fp go) e g := by
  have nm : ∀ {i : Nat} {x : Str} {p : Pos}, (decide (N[i]? = some x) && (decide (scope.names.lookup x = some NameKind.local) || decide (scope.names.lookup x = some NameKind.cell))) = true →
      ∀ (s : Shared) (H : Hp) (C : Addr) (code : Value) (A : Around) (fp : List Addr) (go : Addr × Obj), PG (genCx X s H (genEnv scope (cloOf X scope) C code builtinsNs X.env) A fp go) (.Name x p) (L2.gName i) := by
    intro i x p h s H C code A fp go
    simp only [Bool.and_eq_true, Bool.or_eq_true, decide_eq_true_eq] at h
    have hi : (genCx X s H (genEnv scope (cloOf X scope) C code builtinsNs X.env) A fp go).N[i]? = some x := by
      show X.N[i]? = some x
      rw [y.hN]
      exact h.1
    rcases h.2 with h2 | h2
    · have hl : (genCx X s H (genEnv scope (cloOf X scope) C code builtinsNs X.env) A fp go).env.scope.names.lookup x = some .local := h2
      exact L2.pg_name y.nd hi (.inl hl) (.inr hl)
    · exact absurd rfl (hnc _ (PySem.mem_of_lookup h2))
  unfold ckTg at h
  split at h
  · exact ⟨_, tg_nm _, nm h⟩
  · rename_i is es kk p
    simp only [Bool.and_eq_true, decide_eq_true_eq] at h
    refine ⟨_, tg_tp is, fun s H C code A fp go => ?_⟩
    have hes : ∀ (is : List Nat) (es : List Expr), is.length = es.length → ((is.zip es).all fun p => match p.2 with
        | .Name x _ => decide (N[p.1]? = some x) && (decide (scope.names.lookup x = some NameKind.local) || decide (scope.names.lookup x = some NameKind.cell))
        | _ => false) = true → L2.PGs (genCx X s H (genEnv scope (cloOf X scope) C code builtinsNs X.env) A fp go) es (gNames is) ∧ (assignEach es (genCx X s H (genEnv scope (cloOf X scope) C code builtinsNs X.env) A fp go).env).length = is.length ∧ (assignEach es (genCx X s H (genEnv scope (cloOf X scope) C code builtinsNs X.env) A fp go).env).findIdx? (·.1) = none := by
      intro is
      induction is with
      | nil =>
        intro es hl _
        cases es with
        | nil => exact ⟨L2.pgs_nil, rfl, rfl⟩
        | cons _ _ => simp at hl
      | cons i r ih =>
        intro es hl hz
        cases es with
        | nil => simp at hl
        | cons e es =>
          simp only [List.zip_cons_cons, List.all_cons, Bool.and_eq_true] at hz
          obtain ⟨h1, h2, h3⟩ := ih es (by simpa using hl) hz.2
          cases e with
          | Name x p =>
            refine ⟨L2.pgs_cons (nm hz.1 s H C code A fp go) h1, ?_, ?_⟩
            · show ((false, _) :: assignEach es _).length = _
              simp only [List.length_cons, h2]
            · show ((false, _) :: assignEach es _).findIdx? _ = _
              simp only [List.findIdx?_cons, Bool.false_eq_true, if_false, h3, Option.map_none]
          | _ => exact absurd hz.1 (by simp)
    obtain ⟨h1, h2, h3⟩ := hes is es h.1 h.2
    exact pg_sq y.calm h1 h2 h3
  · cases h

theorem snd : ∀ n, Snd c G N k call n := by
  intro n
  induction n with
  | zero =>
    constructor <;> intros <;> rename_i h <;> (first | (simp [ckE] at h; done) | (simp [ckD] at h; done) | (simp [ckBs] at h; done) | (simp [ckBt] at h; done) | (simp [ckT] at h; done) | (simp [ckEs] at h; done) | (simp [ckO] at h; done) | (simp [ckC] at h; done) | (simp [ckI] at h; done))
  | succ n S =>
    constructor
    · -- E
      intro sc X W y me e h
      unfold ckE at h
      split at h
      · exact pe_kE L2.pe_non fun _ _ => .non
      · simp only [decide_eq_true_eq] at h
        subst h
        exact pe_kE L2.pe_bl fun _ _ => .bl _
      · simp only [decide_eq_true_eq] at h
        subst h
        exact pe_kE L2.pe_int fun _ _ => .int _
      · simp only [decide_eq_true_eq] at h
        subst h
        exact pe_kE L2.pe_str fun _ _ => .str _
      · simp only [Bool.and_eq_true] at h
        obtain ⟨rfl, hg, hdb, hn⟩ := gl_of y h.1.1
        exact pe_kE (L2.pe_bltn (v := .ty _) hg (y.bls _ h.2) (boot_tyN h.1.2) rfl hn hdb) fun _ _ => .ty _
      · simp only [isVar, Bool.and_eq_true, decide_eq_true_eq] at h
        obtain ⟨h1, h2, _⟩ := okName_db h.2
        exact pe_varE (L2.pe_var (by rw [y.hN]; exact h.1.1) (by rw [y.hs]; exact vis_of h.1.2) h1 h2)
      · exact pe_globE y h
      · exact pe_tupE (S.Es y h).1
      · exact pe_lstE (S.Es y h).1
      · simp only [Bool.and_eq_true, decide_eq_true_eq] at h
        obtain ⟨⟨rfl, h1⟩, h2⟩ := h
        exact pe_binE (S.E y h1) (S.E y h2)
      · exact pe_negE (S.E y h)
      · exact pe_notE (S.E y h)
      · simp only [Bool.and_eq_true, decide_eq_true_eq] at h
        obtain ⟨⟨⟨rfl, h1⟩, h2⟩, h3⟩ := h
        exact pe_cmpE y.un (S.E y h1) (S.E y h2) (noMark h3)
      · simp only [Bool.and_eq_true, decide_eq_true_eq] at h
        obtain ⟨⟨⟨⟨⟨rfl, rfl⟩, h1⟩, h2⟩, h3⟩, h4⟩ := h
        exact pe_chainE y.un (S.E y h1) (S.E y h2) (S.E y h3) (noMark h4)
      · exact S.Bs (b := true) y h
      · exact S.Bs (b := false) y h
      · simp only [Bool.and_eq_true] at h
        exact pe_ifeE (S.T y h.1.1) (S.E y h.1.2) (S.E y h.2)
      · rename_i f es x _ l _
        simp only [Bool.and_eq_true, decide_eq_true_eq] at h
        obtain ⟨⟨h1, h2⟩, h3⟩ := h
        obtain ⟨rfl, hg, hdb, hn⟩ := gl_of y h1
        obtain ⟨ad, fd, ps, F, hm, hk, hb⟩ := y.fns f _ h2
        obtain ⟨hp, hst⟩ := S.Es y h3
        cases l with
        | nil =>
          cases es with
          | nil => exact pe_call0E (call := fun ds S => call f ds S) F y.room y.gd y.tk hg hm hk hb hdb
          | cons a r => cases n <;> simp [ckEs] at h3
        | cons z l =>
          simp only [List.all_cons, Bool.and_eq_true] at hst
          exact pe_callE (call := fun ds S => call f ds S) F y.room y.gd y.tk hg hm hk hb hp (fun e S ds S' q => evEs_len es e S ds S' q) hdb (star_cons hst.1) (star_any hst.2)
      · rename_i v f es x z l _ _
        simp only [Bool.and_eq_true, Bool.or_eq_true] at h
        obtain ⟨⟨⟨h1, h2⟩, h3⟩, h4⟩ := h
        obtain ⟨rfl, hg, hdb, hn⟩ := gl_of y h1
        obtain ⟨hp, hst⟩ := S.Es y h4
        simp only [List.all_cons, Bool.and_eq_true] at hst
        rcases h2 with h2 | h2
        · exact pe_bltE h2 y.calm y.gd y.un hg (y.bls _ h3) (boot_blt h2) hp hn hdb (star_cons hst.1) (star_any hst.2)
        · exact pe_tyE h2 hg (y.bls _ h3) (boot_ty h2) hp hn hdb (star_cons hst.1) (star_any hst.2)
      · simp only [Bool.and_eq_true, decide_eq_true_eq] at h
        obtain ⟨⟨⟨⟨⟨h1, h2⟩, h3⟩, h4⟩, h5⟩, h6⟩ := h
        obtain ⟨rfl, hg, _, _⟩ := gl_of y h1
        obtain ⟨rfl, hgy, hdb, hny⟩ := gl_of y h5
        exact pe_isxE hg (y.bls _ h2) (S.E y h4) hgy hdb hny (y.isx _ _ h6) (by rw [star_cons h3]; rfl)
      · simp only [Bool.and_eq_true, decide_eq_true_eq] at h
        obtain ⟨⟨⟨⟨⟨h1, h2⟩, h3⟩, rfl⟩, h4⟩, h5⟩ := h
        obtain ⟨rfl, hg, _, _⟩ := gl_of y h1
        exact pe_maxdE y.calm y.un hg (y.bls _ h2) (S.E y h4) (S.E y h5) (star_cons h3)
      · simp only [Bool.and_eq_true] at h
        obtain ⟨⟨⟨⟨⟨h1, h2⟩, h3⟩, h4⟩, h5⟩, h6⟩ := h
        obtain ⟨rfl, hg, _, _⟩ := gl_of y h1
        obtain ⟨rfl, hg2, _, _⟩ := gl_of y h3
        exact pe_lensE y.calm hg (y.bls _ h2) hg2 (y.bls _ h4) (S.E y h6) (star_cons h5)
      · exact pe_dict0E
      · simp only [Bool.and_eq_true] at h
        exact pe_dict1E (S.E y h.1) (S.E y h.2)
      · simp only [Bool.and_eq_true] at h
        obtain ⟨⟨⟨⟨⟨⟨⟨h1, h2⟩, h3⟩, h4⟩, h5⟩, h6⟩, h7⟩, h8⟩ := h
        obtain ⟨rfl, hg, _, _⟩ := gl_of y h1
        obtain ⟨rfl, hg2, _, _⟩ := gl_of y h3
        exact pe_tzipE y.calm hg (y.bls _ h2) hg2 (y.bls _ h4) (S.E y h7) (S.E y h8) (by rw [star_cons h5]) (star_cons h6)
      · exact pe_invE (S.E y h)
      · simp only [Bool.and_eq_true] at h
        exact pe_rvsE (S.E y h.1) (S.E y h.2)
      · rename_i v own own1 tg it d tg1 it1 d1 e elt t iter ifs t1 iter1 ifs1 scope _
        simp only [Bool.and_eq_true, decide_eq_true_eq, Bool.not_eq_true'] at h
        obtain ⟨⟨⟨⟨⟨⟨⟨⟨⟨⟨⟨⟨⟨⟨h1, h2⟩, h3⟩, h4⟩, h5⟩, h6⟩, h7⟩, h8⟩, h9⟩, g1⟩, g2⟩, g3⟩, g4⟩, g5⟩, g6⟩ := h
        obtain ⟨gt, ht, hg⟩ := pg_blk y h4
        obtain ⟨gt1, ht1, hg1⟩ := pg_blk y g3
        have ok : L2.BlkOk X.N X.env.scope scope (ckOwn N own) := by
          rw [y.hN, y.hs]
          exact L2.blkOk_by h1
        refine PE.imp (L2.pe_lc2 (own := ckOwn N own) (vs1 := own1) (tt := tT X.K c (fun _ _ _ _ => False) (evOc G call d)) (wi1 := tI X c (fun _ _ _ _ => False) (evIt G call it1)) (tt1 := tT X.K c (fun _ _ _ _ => False) (evOc G call d1)) (te := tE X.K c (fun _ _ _ _ => False) (evE G call e)) y.calm y.nd (S.I y h5) ok (fun i hi => ?_) hg (fun s H C cl fp => S.C (y.blk s H scope cl C fp h9) h7) (fun s H C cl fp => PI.imp (S.I (y.blk s H scope cl C fp h9) g4) fun σ H R ⟨e, m, S, re, sm, q⟩ => ⟨e, m, S, re, sm, q.imp fun w S' m' H' _ _ q J al => q J ⟨al.go, al.stop⟩⟩) hg1 (fun s H C cl fp => S.C (y.blk s H scope cl C fp h9) g5) (fun s H C cl fp => S.E (y.blk s H scope cl C fp h9) h8) (folded_no h6) (fun env x => folded_no g6 x)) ?_
        · rw [h2]
          simpa using List.all_eq_true.mp g1 i hi
        · intro σ H Q q
          rw [h2]
          exact lc2_read (v := v) ht (fun i hi => by simpa using List.all_eq_true.mp h3 i hi) ht1 (fun i hi => by simpa using List.all_eq_true.mp g2 i hi) σ H Q q
      · exact pe_deadE
      · simp only [Bool.and_eq_true, decide_eq_true_eq] at h
        obtain ⟨⟨⟨⟨h1, h2⟩, h3⟩, h4⟩, h5⟩ := h
        obtain ⟨trs, hp, hq⟩ := S.Dd y h1
        exact pe_dictE hp hq h2 h3 (fun z => by rw [z] at h4; simp at h4) h5
      · simp only [Bool.and_eq_true, decide_eq_true_eq] at h
        obtain ⟨rfl, h1⟩ := h
        exact pe_dgetE (Nat.lt_of_le_of_lt (Nat.add_le_add_left (by decide) _) y.un) (S.E y h1) (pe_kE L2.pe_str fun _ _ => .str _)
      · simp only [Bool.and_eq_true, decide_eq_true_eq] at h
        obtain ⟨⟨⟨⟨⟨rfl, rfl⟩, rfl⟩, h1⟩, h2⟩, h3⟩ := h
        exact pe_clearE (fun e S => rfl) (S.E y h3) (base_ok h1) (by simpa using h2)
      · simp only [Bool.and_eq_true, decide_eq_true_eq] at h
        obtain ⟨⟨⟨⟨h0, h1⟩, h2⟩, h3⟩, h4⟩ := h
        obtain ⟨hp, hst⟩ := S.Es y h4
        simp only [List.all_cons, Bool.and_eq_true] at hst
        simp only [Bool.or_eq_true, Bool.and_eq_true, decide_eq_true_eq] at h0
        rcases h0 with ((⟨⟨rfl, rfl⟩, rfl⟩ | ⟨⟨rfl, rfl⟩, rfl⟩) | ⟨⟨rfl, rfl⟩, rfl⟩) | ⟨⟨rfl, rfl⟩, rfl⟩
        · exact pe_appendE (S.E y h3) hp (base_ok h1) (by simpa using h2) (star_cons hst.1)
        · exact pe_popE (S.E y h3) hp (base_ok h1) (by simpa using h2) (star_cons hst.1)
        · exact pe_joinE (S.E y h3) hp (base_ok h1) (by simpa using h2) (star_cons hst.1)
        · exact pe_indexE (S.E y h3) hp (base_ok h1) (by simpa using h2) (star_cons hst.1)
      · simp only [Bool.and_eq_true] at h
        exact pe_subE (S.E y h.1.1) (S.E y h.1.2) (plainIx h.2)
      · simp only [Bool.and_eq_true] at h
        exact pe_stepE (S.E y h.1.1) (S.E y h.1.2) (S.E y h.2)
      · simp only [Bool.and_eq_true] at h
        exact pe_slcE (S.E y h.1.1) (S.O y h.1.2) (S.O y h.2)
      · rename_i v own tg it d e elt t iter ifs scope _
        obtain ⟨gt, q, ok, pi, hg, hts, he, hf⟩ := lc_parts (v := v) S y h
        exact PE.imp (L2.pe_lc y.calm y.nd pi ok hg hts he hf) q
      · rename_i q own tg it e x p elt t iter scope gp pos
        simp only [Bool.and_eq_true, decide_eq_true_eq, Bool.not_eq_true'] at h
        obtain ⟨⟨⟨⟨⟨⟨⟨⟨⟨⟨⟨⟨⟨g1, g2⟩, g3⟩, g4⟩, g5⟩, g6⟩, g7⟩, g8⟩, g9⟩, g10⟩, g11⟩, g12⟩, g13⟩, g14⟩ := h
        obtain ⟨rfl, hg, _, _⟩ := gl_of y g3
        obtain ⟨hr, c0, P, hcode, TB, hPt⟩ := y.gx g1
        have hnc : ∀ y ∈ scope.names, y.2 ≠ NameKind.cell := fun y hy => of_decide_eq_true (List.all_eq_true.mp g8 y hy)
        obtain ⟨gt, ht, pg⟩ := pg_gen y hnc g11
        have ok : L2.BlkOk X.N X.env.scope scope (ckOwn N own) := by
          rw [y.hN, y.hs]
          exact L2.blkOk_by g5
        have hm := y.bls _ g4
        cases q with
        | true =>
          exact pe_qall hr.depth hr.hd hg hm fun pins s σ H Q I hQ => gen_made hr y.gd y.calm y.nd TB hcode hPt ok g6 hnc g9 g10 (S.I y g12) (genFold_no g13) ht (fun i hi => by simpa using List.all_eq_true.mp g7 i hi) pg
            (fun s H C code A fp go hrA hgA => S.E (y.gen s H scope C code A fp go g2 hrA hgA) g14) I hQ
        | false =>
          exact pe_qany hr.depth hr.hd hg hm fun pins s σ H Q I hQ => gen_made hr y.gd y.calm y.nd TB hcode hPt ok g6 hnc g9 g10 (S.I y g12) (genFold_no g13) ht (fun i hi => by simpa using List.all_eq_true.mp g7 i hi) pg
            (fun s H C code A fp go hrA hgA => S.E (y.gen s H scope C code A fp go g2 hrA hgA) g14) I hQ
      · cases h
    · -- Bs
      intro sc X W y b me l pos h
      unfold ckBs at h
      split at h
      · exact L2.pe_one (S.E y h)
      · simp only [Bool.and_eq_true] at h
        exact pe_andE (S.E y h.1) (S.Bs (b := true) y h.2)
      · simp only [Bool.and_eq_true] at h
        exact pe_orE (S.E y h.1) (S.Bs (b := false) y h.2)
      · cases h
    · -- Bt
      intro sc X W y b me l pos h
      unfold ckBt at h
      split at h
      · cases b
        · exact L2.pw_or1 (S.T y h)
        · exact L2.pw_and1 (S.T y h)
      · simp only [Bool.and_eq_true] at h
        exact pw_andE (S.T y h.1) (S.Bt (b := true) y h.2)
      · simp only [Bool.and_eq_true] at h
        exact pw_orE (S.T y h.1) (S.Bt (b := false) y h.2)
      · cases h
    · -- T
      intro sc X W y me e h
      unfold ckT at h
      split at h
      · exact pt_notE (S.T y h)
      · exact (S.Bt (b := true) y h).pt
      · exact (S.Bt (b := false) y h).pt
      · simp only [Bool.and_eq_true, decide_eq_true_eq] at h
        obtain ⟨⟨⟨rfl, h1⟩, h2⟩, h3⟩ := h
        exact pt_cmpE y.un (S.E y h1) (S.E y h2) (noMark h3)
      · simp only [Bool.and_eq_true, decide_eq_true_eq] at h
        obtain ⟨⟨⟨⟨⟨rfl, rfl⟩, h1⟩, h2⟩, h3⟩, h4⟩ := h
        exact pt_chainE y.un (S.E y h1) (S.E y h2) (S.E y h3) (noMark h4)
      · simp only [Bool.and_eq_true] at h
        exact pt_plainE (S.E y h.2) (isTrue_plainT h.1)
    · -- D
      intro sc X W y ks es keys values pos h
      unfold ckD at h
      split at h
      · exact ⟨[], L2.pps_nil, prok_nil⟩
      · simp only [Bool.and_eq_true, decide_eq_true_eq] at h
        obtain ⟨⟨rfl, h1⟩, h2⟩ := h
        obtain ⟨trs, hp, hq⟩ := S.Dd y (pos := pos) h2
        exact ⟨_, L2.pps_cons (pe_kE L2.pe_str fun _ _ => .str _) (S.E y h1) hp, prok_cons hq⟩
      · cases h
    · -- Es
      intro sc X W y es l h
      unfold ckEs at h
      split at h
      · exact ⟨pa_nilE, rfl⟩
      · simp only [Bool.and_eq_true] at h
        obtain ⟨hp, hst⟩ := S.Es y h.2
        exact ⟨pa_consE (S.E y h.1.2) hp (star_cons h.1.1), by simp only [List.all_cons, h.1.1, hst, Bool.and_self]⟩
      · cases h
    · -- O
      intro sc X W y o l h
      unfold ckO at h
      split at h
      · exact po_noneE
      · exact po_someE (S.E y h)
      · cases h
    · -- C
      intro sc X W y o l h
      unfold ckC at h
      split at h
      · have h0 := L2.pts_nil (X := X)
        refine ⟨fun pins s σ H Q I q => h0.run pins s σ H Q I ?_⟩
        obtain ⟨e, m, S, re, sm, q⟩ := q
        obtain ⟨b, hb, q⟩ := (show Aft X.K c W σ m H (.ok (D.bl true) S) _ from q).now sm
        cases hb
        exact q
      · exact L2.pts_one (S.T y h)
      · cases h
    · -- I
      intro sc X W y it tg e h
      unfold ckI at h
      split at h
      · exact pi_seqE (S.E y h)
      · simp only [Bool.and_eq_true] at h
        obtain ⟨⟨⟨h1, h2⟩, h3⟩, h4⟩ := h
        obtain ⟨rfl, hg, hdb, hn⟩ := gl_of y h1
        exact pi_rng1E hg (y.bls _ h2) (S.E y h4) (star_cons h3)
      · simp only [Bool.and_eq_true] at h
        obtain ⟨⟨⟨⟨⟨h1, h2⟩, h3⟩, h4⟩, h5⟩, h6⟩ := h
        obtain ⟨rfl, hg, hdb, hn⟩ := gl_of y h1
        exact pi_rng2E hg (y.bls _ h2) (S.E y h5) (S.E y h6) (by rw [star_cons h3, star_cons h4]; rfl) (star_cons h4)
      · simp only [Bool.and_eq_true] at h
        obtain ⟨⟨⟨⟨⟨⟨⟨h1, h2⟩, h3⟩, h4⟩, h5⟩, h6⟩, h7⟩, h8⟩ := h
        obtain ⟨rfl, hg, hdb, hn⟩ := gl_of y h1
        exact pi_rngDE hg (y.bls _ h2) (S.E y h6) (S.E y h7) (S.E y h8) (fun e S => rfl) (by rw [star_cons h3, star_cons h4, star_cons h5]; rfl) (by rw [star_cons h4, star_cons h5]; rfl) (star_cons h5)
      · simp only [Bool.and_eq_true] at h
        obtain ⟨⟨⟨⟨⟨h1, h2⟩, h3⟩, h4⟩, h5⟩, h6⟩ := h
        obtain ⟨rfl, hg, hdb, hn⟩ := gl_of y h1
        exact pi_zipE hg (y.bls _ h2) (S.E y h5) (S.E y h6) (by rw [star_cons h3, star_cons h4]; rfl) (star_cons h4)
      · simp only [Bool.and_eq_true] at h
        obtain ⟨⟨⟨h1, h2⟩, h3⟩, h4⟩ := h
        obtain ⟨rfl, hg, hdb, hn⟩ := gl_of y h1
        exact pi_enumE hg (y.bls _ h2) (S.E y h4) (star_cons h3)
      · cases h
end
end Mn

/-! MnZ: the end, for defs that want no guard up. -/
namespace Mn
open PySem PySem.Spec PyProof.Rows
open L2 (V Hp HO Cx SqL SqT Rd St VK WX XK Inv CXT Sp Room Env0 Vals Un HOk hidT)
section
variable {P : Program} {w : World} {K : Frag} {mg mb : Str → Option Value} {CX : CXT} {k : Nat} {fa a : Addr} {cs : List (Addr × Addr)} {fd : FuncData} {x : Str} {sp : Sp} {s : Shared} {vs : List Value} {ns : List Int}
/-- the script alone, and the tables -/
noncomputable def H1 (K : Frag) (a : Addr) (cs : List (Addr × Addr)) (vs : List Value) (ns : List Int) : Hp := fun b =>
  if b ∈ cs.map (·.2) then some (.tbl #[]) else if b = a ∧ K.lookup a = none then some (.frz { cls := .type "list", data := .seq vs.toArray } (.lst (ns.map V.int))) else none
theorem H1_cases (b : Addr) : (H1 K a cs vs ns b = none ∧ b ∉ cs.map (·.2)) ∨ (b ∈ cs.map (·.2) ∧ H1 K a cs vs ns b = some (.tbl #[])) ∨
    (b = a ∧ b ∉ cs.map (·.2) ∧ K.lookup a = none ∧ H1 K a cs vs ns b = some (.frz { cls := .type "list", data := .seq vs.toArray } (.lst (ns.map V.int)))) := by
  unfold H1
  by_cases h : b ∈ cs.map (·.2)
  · exact .inr (.inl ⟨h, if_pos h⟩)
  · by_cases h2 : b = a ∧ K.lookup a = none
    · exact .inr (.inr ⟨h2.1, h, h2.2, by rw [if_neg h, if_pos h2]⟩)
    · exact .inl ⟨by rw [if_neg h, if_neg h2], h⟩
theorem law_callG (KX : K.In s.heap) (hns : s.heap.Ns mainGlobals mg) (hb : s.heap.Ns builtinsNs mb) (hbb : ∀ x : Str, x ≠ "__name__" → mb x = bootBuiltins x) (hlim : s.heap.NoLimit) (hg : s.gens = #[])
    (hT : ∀ p ∈ cs, s.heap.get? p.2 = some { cls := .none, data := .fields #[] }) (nT : ∀ p ∈ cs, K.lookup p.2 = none) (C : ∀ p ∈ cs, PySem.W.CodeHd s.heap p.1 p.2)
    (hbm : ∃ (bm : Addr) (ob : Obj), mg "__builtins__" = some (.ref bm) ∧ bm ≠ builtinsNs ∧ s.heap.get? bm = some ob ∧ ob.cls = .type "module" ∧ ob.dict = some builtinsNs ∧ ob.data = .plain)
    (ha : s.heap.get? a = some { cls := .type "list", data := .seq vs.toArray }) (hi : IntsAre vs ns) (hl : ns.length ≤ sizeLine) (hr : Room k callerA)
    (F : ∀ base : Heap, K.In base → base.Ns mainGlobals mg → (∀ p ∈ cs, LamX.TabB base mg p.1 p.2) → FnG P w K mg base CX k fa fd [x] sp) (hbind : ∀ (s : Shared) (u : Value), BindsTo s fd ⟨[u], []⟩ [(x, u)])
    (hsp : ∀ H : Hp, (∀ p ∈ cs, H p.2 = some (.tbl #[])) → SqL K H a (ns.map V.int) → sp [.ref a] H (fun v _ => v = .bl true) fun _ _ _ => False)
    (hCX : ∀ H e s', CX [] H s (fun _ _ _ => False) e s' → False) :
    codeAny (model P w) callerA (.call (.ref fa) ⟨[.ref a], []⟩) (fun r s' => r = .ok (.ret (.bool true)) ∧ OldK s.heap s'.heap ∧ s'.os = s.os ∧ AllBare s'.gens) s := by
  have rv := L2.vals_ints hi
  have tab : ∀ b ∈ cs.map (·.2), s.heap.get? b = some { cls := .none, data := .fields #[] } := fun b hb => by
    obtain ⟨p, hp, rfl⟩ := List.mem_map.mp hb
    exact hT p hp
  have tin : ∀ p ∈ cs, p.2 ∈ cs.map (·.2) := fun p hp => List.mem_map.mpr ⟨p, hp, rfl⟩
  have at_ : a ∉ cs.map (·.2) := fun z => by
    have q := (tab a z).symm.trans ha
    exact absurd (congrArg Obj.data (Option.some.inj q)) (fun z => by cases z)
  generalize hH : H1 K a cs vs ns = H
  have cas := fun b => hH ▸ H1_cases (K := K) (a := a) (cs := cs) (vs := vs) (ns := ns) b
  have hok : HOk P w H s.heap := fun b u z => by
    rcases cas b with ⟨q, _⟩ | ⟨m, q⟩ | ⟨rfl, _, _, q⟩
    · rw [q] at z; cases z
    · rw [q] at z; cases z
      exact tab b m
    · rw [q] at z; cases z
      exact ⟨ha, by rw [List.length_map]; exact hl, vs, 0, rv, ha⟩
  have hTb : ∀ p ∈ cs, H p.2 = some (.tbl #[]) := fun p hp => by
    rcases cas p.2 with ⟨_, q⟩ | ⟨_, q⟩ | ⟨_, q, _⟩
    · exact absurd (tin p hp) q
    · exact q
    · exact absurd (tin p hp) q
  have hS : SqL K H a (ns.map V.int) := by
    cases hk : K.lookup a with
    | some o =>
      have e := KX a o hk
      rw [ha] at e
      cases e
      exact .inr ⟨_, vs.toArray, _, hk, rfl, rfl, rfl, by rw [List.size_toArray, hi.length]; exact hl, by simpa using rv⟩
    | none =>
      rcases cas a with ⟨q, _⟩ | ⟨m, _⟩ | ⟨_, _, _, q⟩
      · rw [← hH] at q
        unfold H1 at q
        rw [if_neg at_, if_pos ⟨rfl, hk⟩] at q
        cases q
      · exact absurd m at_
      · exact .inl (.inr ⟨_, q⟩)
  have free : ∀ {b : Addr} {o : Obj}, s.heap.get? b = some o → (∀ vs n, o.data ≠ .seq vs n) → o.data ≠ .fields #[] → H b = none := fun {b o} e h1 h2 => by
    rcases cas b with ⟨q, _⟩ | ⟨m, _⟩ | ⟨rfl, _, _, _⟩
    · exact q
    · rw [tab b m] at e; cases e
      exact absurd rfl h2
    · rw [ha] at e; cases e
      exact absurd rfl (h1 _ _)
  have still : ∀ {b : Addr} {o : Obj}, s.heap.get? b = some o → (∀ vs n, o.data ≠ .seq vs n) → o.data ≠ .fields #[] → (hidT s.heap H).get? b = some o := fun e h1 h2 => L2.hidT_get e (free e h1 h2)
  have nsK : ∀ {b : Addr} {m : Str → Option Value}, s.heap.Ns b m → (hidT s.heap H).Ns b m := fun {b m} h => by
    obtain ⟨o, es, ep, e, d, r⟩ := h
    exact ⟨o, es, ep, still e (fun _ _ z => by rw [d] at z; cases z) (fun z => by rw [d] at z; cases z), d, r⟩
  have hKb : K.In (hidT s.heap H) := fun b o e => L2.hidT_get (KX b o e) (by
    rcases cas b with ⟨q, _⟩ | ⟨m, _⟩ | ⟨rfl, _, q, _⟩
    · exact q
    · obtain ⟨p, hp, rfl⟩ := List.mem_map.mp m
      rw [nT p hp] at e; cases e
    · rw [q] at e; cases e)
  have hM : L2.Mod K mg (hidT s.heap H) := ⟨hKb, nsK hns, ⟨mb, nsK hb, hbb⟩, by
    obtain ⟨mc, h1, h2⟩ := hlim
    exact ⟨mc, nsK h1, h2⟩⟩
  have TB : ∀ p ∈ cs, LamX.TabB (hidT s.heap H) mg p.1 p.2 := fun p hp => by
    refine ⟨?_, ?_, fun z => ?_⟩
    · obtain ⟨o, us, c1, c2, c3, c4, c5, c6, c7, e1, r1, r2, r3, r⟩ := C p hp
      exact ⟨o, us, c1, c2, c3, c4, c5, c6, c7, still e1 (fun _ _ z => by rw [r2] at z; cases z) (fun z => by
        rw [r2] at z
        cases z
        simp at r3), r1, r2, r3, r⟩
    · obtain ⟨bm, ob, b1, b2, b3, b4, b5, b6⟩ := hbm
      refine ⟨bm, ob, b1, b2, ?_, ?_, still b3 (fun _ _ z => by rw [b6] at z; cases z) (fun z => by rw [b6] at z; cases z), b4, b5, b6⟩
      · rintro rfl
        obtain ⟨o, es, ep, e, hd, _⟩ := hns
        rw [e] at b3
        cases b3
        rw [hd] at b6; cases b6
      · rintro rfl
        rw [hT p hp] at b3
        cases b3
        cases b6
    · obtain ⟨o, es, ep, e, hd, _⟩ := hns
      rw [z, hT p hp] at e
      cases e
      cases hd
  have e0 : Env0 P w K mg (hidT s.heap H) callerA [] s H := {
    frames := rfl
    mod := hM
    bs := fun b o e => L2.of_hidT e
    bsz := Nat.le_of_eq (L2.hidT_size _ _)
    funs := trivial
    frf := fun b hb => absurd hb (by simp [L2.frs])
    hok := hok
    bare := .of_eq hg }
  refine codeAny_mono ((F _ hKb (nsK hns) TB).run callerA [] s H ⟨[.ref a], []⟩ [.ref a] [.ref a] _ _ hr rfl e0 (hbind s (.ref a)) (.cons rfl .nil) (hsp H hTb hS)) fun r s' h => ?_
  rcases r with e | fl
  · exact (hCX H e s' h).elim
  cases fl with
  | next => exact h.elim
  | brk => exact h.elim
  | cont => exact h.elim
  | ret u =>
    obtain ⟨v, H', os, bare, un, hok', r', rfl⟩ := h
    obtain rfl : u = Value.bool true := r'
    have grown : ∀ b ∈ cs.map (·.2), ∃ more : Array Value, s'.heap.get? b = some { cls := .none, data := .fields more } := fun b hb => by
      obtain ⟨p, hp, rfl⟩ := List.mem_map.mp hb
      obtain ⟨more, z⟩ := un.tbls p.2 #[] (hTb p hp)
      exact ⟨_, hok' p.2 _ z⟩
    have same : ∀ b o, b ∉ cs.map (·.2) → s.heap.get? b = some o → s'.heap.get? b = some o := fun b o nb e => by
      rcases cas b with ⟨q, _⟩ | ⟨m, _⟩ | ⟨rfl, _, _, q⟩
      · exact un.keep b o e q (by simp [L2.frs]) (by simp)
      · exact absurd m nb
      · obtain ⟨e1, _⟩ := hok b _ q
        obtain ⟨e2, _⟩ := hok' b _ (un.frzs b _ _ q)
        rw [e] at e1; cases e1
        exact e2
    refine ⟨rfl, ⟨fun b o e => ?_, fun b o e => ?_⟩, os, bare⟩
    · by_cases hb : b ∈ cs.map (·.2)
      · obtain ⟨more, hm⟩ := grown b hb
        obtain ⟨p, hp, rfl⟩ := List.mem_map.mp hb
        rw [hT p hp] at e
        cases e
        exact .inr (.inl ⟨((C p hp).tab (hT p hp)).isCodeTable, rfl, #[], more, rfl, by rw [Array.empty_append]; exact hm⟩)
      · exact .inl (same b o hb e)
    · by_cases hb : b ∈ cs.map (·.2)
      · obtain ⟨more, hm⟩ := grown b hb
        exact ⟨_, hm⟩
      · exact ⟨o, same b o hb e⟩
end
end Mn

/-! Mn12: the look is enough: statements; a whole program. -/
namespace Mn
open PySem PySem.Spec PyProof.Rows
open L2 (V Hp HO Cx SqL SqT Rd St VK WX XK TE TA TS TT TG TI PE PA PS PSs PT PG PI Ends upd upd_same upd_ne OpR R2 Inv Dp DpAll UnR CallR Walk)

def locIn (sc : Scope) (x : Str) : Bool := decide (sc.names.lookup x = some NameKind.local) || decide (sc.names.lookup x = some NameKind.cell)
theorem loc_of {sc : Scope} {x : Str} (h : locIn sc x = true) : L2.Loc sc x := by
  unfold locIn at h
  simp only [Bool.or_eq_true, decide_eq_true_eq] at h
  exact h
def notTup : Expr → Bool
  | .Tuple .. => false
  | .List .. => false
  | _ => true
theorem swapped_no {ts : List Expr} {k : Nat} {p : Pos} {v : Expr} {env : PySem.Env} (h : notTup v = true) : swappedStores [.Tuple ts k p] v env = pure none := by
  cases v <;> first | rfl | (cases h; done)
theorem par_sw {x y : Str} {px py pt pt2 : Pos} {kt k2} {a b : Expr} {env : PySem.Env} (hk : env.scope.kind = .function) (hx : env.scope.names.lookup x = some .local) (hy : env.scope.names.lookup y = some .local) (hxy : x ≠ y) (hl : (px.line == py.line) = true) (h8 : [a, b].all (foldedForSure 8) = false) (h9 : [a, b].all (constantsAlone 8) = false) (hs : [a, b].all notStar = true) :
    swappedStores [.Tuple [.Name x px, .Name y py] kt pt] (.Tuple [a, b] k2 pt2) env = pure (some [x, y]) := by
  have e1 : env.blockKind = .function := by
    unfold Env.blockKind
    rw [hk]
    rfl
  have e2 : env.kindOf x = some .local := hx
  have e3 : env.kindOf y = some .local := hy
  have e5 : (py.line == px.line) = true := by rw [beq_iff_eq] at hl ⊢; exact hl.symm
  simp only [List.all_cons, List.all_nil, Bool.and_true, Bool.and_eq_true] at hs
  obtain ⟨s1, s2⟩ := hs
  have n2 : [x, y].eraseDups = [x, y] := by
    have : ¬ (y = x) := fun z => hxy z.symm
    simp [List.eraseDups_cons, this]
  have n0 : ((Option.map (fun x => x.pos.line) [Expr.Name x px, .Name y py].head?).getD 0) = px.line := rfl
  unfold swappedStores
  simp only [List.length_cons, List.length_nil, e1, n0, h8, h9]
  rw [if_neg (by decide), if_neg (fun h => by
    simp only [List.any_cons, List.any_nil, Bool.or_false, Bool.or_eq_true] at h
    rcases h with h | h
    · cases a <;> first | (cases s1; done) | (cases h; done)
    · cases b <;> first | (cases s2; done) | (cases h; done))]
  simp only [List.filterMap_cons, List.filterMap_nil, e2, e3, e5, BEq.rfl, Bool.and_true, if_true, n2]
  rfl
/-- a comprehension that is given to a name at once -/
def swHere (sc scope : Scope) (x : Str) (p q : Pos) : Bool := decide (sc.names.lookup x = some NameKind.local) && (p.line == q.line) && !(scope.names.any fun (n, k) => n == x && (k == .local || k == .cell))
theorem swaps_cell {elt : Expr} {gs : List Comprehension} {scope : Scope} {pos py : Pos} {y : Str} {l : Nat} {env : PySem.Env} (hy : env.scope.names.lookup y = some .cell) : swapsWith (.ListComp elt gs scope pos) (some (.Name y py)) l env = pure false := by
  have ky : env.kindOf y = some .cell := hy
  have z : (NameKind.cell == NameKind.local) = false := rfl
  unfold swapsWith
  simp only [ky, Option.some_beq_some, z, Bool.and_false, Bool.false_and]
theorem sole_no {e t : Expr} {l : Nat} {env : PySem.Env} (h : noComp e = true) : swapsWithSole [t] e l env = pure false := by
  show swapsWith e (some t) l env = _
  exact swaps_no h
theorem sole_tup {e : Expr} {es : List Expr} {k : Nat} {p : Pos} {l : Nat} {env : PySem.Env} : swapsWithSole [.Tuple es k p] e l env = pure false := by
  show swapsWith e (some (.Tuple es k p)) l env = _
  cases e <;> rfl
theorem sole_sub {e o i : Expr} {p : Pos} {l : Nat} {env : PySem.Env} : swapsWithSole [.Subscript o i p] e l env = pure false := by
  show swapsWith e (some (.Subscript o i p)) l env = _
  cases e <;> rfl
theorem asg_sub {o i : Expr} {p : Pos} {env : PySem.Env} (h : notCut i = true) (v : Value) : assign (.Subscript o i p) env v = (do
    let ov ← holding [v] (eval o env)
    let iv ← holding [v, ov] (eval i env)
    standAt p
    holding [v, ov, iv] (setItem ov iv v)
    release [v, ov, iv] []) := by
  cases i <;> first | rfl | (cases h; done)
section
variable (c : Sg) (N : List Str)
def ckTs (sc : Scope) (t : Tg) (e : Expr) : Bool := match t, e with
  | .nm i, .Name x _ => decide (N[i]? = some x) && locIn sc x
  | .tp is, .Tuple es _ _ => decide (is.length = es.length) && (is.zip es).all fun p => match p.2 with
      | .Name x _ => decide (N[p.1]? = some x) && locIn sc x
      | _ => false
  | _, _ => false
mutual
def ckS : Nat → Scope → St → Stmt → Bool
  | 0, _, _, _ => false
  | n + 1, sc, me, st => match me, st with
    | .kept i j l f b, .Try [.Assign [.Name t _] a _] [.ExceptHandler (some (.Name x _)) (some m) [.Assign [.Name v _] (.Name m' _) _] _] [] [] _ => decide (m = m') && isGl sc f x && c.tops.contains f && okName m && decide (N[i]? = some m) && decide (N[j]? = some v) && decide (N[l]? = some t) &&
        decide (sc.names.lookup m = some NameKind.local) && decide (sc.names.lookup v = some NameKind.local) && decide (sc.names.lookup t = some NameKind.local) && noComp a && ckE c N n sc b a
    | .keptX i j f b, .Try [.Expr a _] [.ExceptHandler (some (.Name x _)) (some m) [.Assign [.Name v _] (.Name m' _) _] _] [] [] _ => decide (m = m') && isGl sc f x && c.tops.contains f && okName m && decide (N[i]? = some m) && decide (N[j]? = some v) &&
        decide (sc.names.lookup m = some NameKind.local) && decide (sc.names.lookup v = some NameKind.local) && noComp a && ckE c N n sc b a
    | .raise f es, .Raise (some (.Call (.Name x _) (y :: l) [] _)) none _ => isGl sc f x && c.exs.contains f && ckEs c N n sc es (y :: l)
    | .dead, _ => true
    | .dput o k b, .Assign [.Subscript x (.Constant (.str k') _ _) p] v pos => decide (k = k') && noComp v && ckE c N n sc o x && ckE c N n sc b v
    | .set i e, .Assign [.Name x p] v pos => decide (N[i]? = some x) && locIn sc x && (match v with
        | .ListComp _ gs scope q => decide (sc.names.lookup x = some NameKind.cell) || swHere sc scope x p q && decide (gs.length = 1)
        | v => noComp v) && ckE c N n sc e v
    | .unp is e, .Assign [.Tuple es k p] v pos => ckTs N sc (.tp is) (.Tuple es k p) && notTup v && ckE c N n sc e v
    | .par i j es, .Assign [.Tuple [.Name x px, .Name y py] kt pt] (.Tuple [a, b] k2 pt2) pos => decide (N[i]? = some x) && decide (N[j]? = some y) && decide (i ≠ j) && decide (x ≠ y) && decide (sc.names.lookup x = some NameKind.local) && decide (sc.names.lookup y = some NameKind.local) &&
        (px.line == py.line) && !([a, b].all (foldedForSure 8)) && !([a, b].all (constantsAlone 8)) && ckEs c N n sc es [a, b]
    | .sets a i b, .Assign [.Subscript x y p] v pos => ckE c N n sc a x && ckE c N n sc i y && ckE c N n sc b v && notCut y
    | .aug i op e, .AugAssign (.Name x p) o v pos => decide (op = o) && decide (N[i]? = some x) && locIn sc x && ckE c N n sc e v
    | .expr e, .Expr v pos => noComp v && ckE c N n sc e v
    | .ret e, .Return (some v) pos => ckE c N n sc e v
    | .retN, .Return none pos => true
    | .pass, .Pass _ => true
    | .brk, .Break _ => true
    | .cont, .Continue _ => true
    | .ite d a b, .If x y z _ => ckT c N n sc d x && ckSs n sc a y && ckSs n sc b z
    | .for tg it b, .For t iter body [] _ => ckTs N sc tg t && ckI c N n sc it t iter && notSet iter && ckSs n sc b body
    | .whl d b, .While x body [] _ => ckT c N n sc d x && ckSs n sc b body
    | _, _ => false
def ckSs : Nat → Scope → Sts → List Stmt → Bool
  | 0, _, _, _ => false
  | n + 1, sc, me, l => match me, l with
    | .nil, [] => true
    | .cons s r, st :: l => ckS n sc s st && ckSs n sc r l
    | _, _ => false
end
end

/-- where a statement stands -/
structure Cs (c : Cfg) (G : Globs) (N : List Str) (k : Nat) (call : String → List D → Store → R D) (sc : Scope) (X : Cx) (W : WX) : Prop where
  y : Cy c G N k call sc X W
  hf : ∀ x, X.fn x = true
  kind : X.env.scope.kind = .function
  hp : PassesOwn (model X.prog X.w) X.A X.env X.xe
  cw : CW W
  st : X.stack = X.env :: X.outer
  fr : X.env.frame = some X.env.locals
  ex : X.ex = []
/-- the same within a try -/
theorem Cy.tr {c : Cfg} {G : Globs} {N : List Str} {k : Nat} {call : String → List D → Store → R D} {sc : Scope} {X : Cx} {W W' : WX} (y : Cy c G N k call sc X W) (pn : List (Addr × Obj)) (xe : Value → Shared → Prop) (tk : L2.Takes (X.tr pn xe) W') : Cy c G N k call sc (X.tr pn xe) W' where
  hN := y.hN
  hs := y.hs
  calm := y.calm
  nd := y.nd
  room := y.room
  gx := y.gx
  un := y.un
  gd := y.gd
  tk := tk
  fns := y.fns
  bls := y.bls
  cls := y.cls
  top := y.top
  isx := y.isx
  globs := y.globs
section
variable {c : Cfg} {G : Globs} {N : List Str} {k fuel : Nat} {call : String → List D → Store → R D} {sc : Scope} {X : Cx} {W : WX}
theorem pg_def (y : Cs c G N k call sc X W) {t : Tg} {e : Expr} (h : ckTs N sc t e = true) : ∃ g, TgOk X c t g ∧ PG X e g ∧ (∀ is, t = .tp is → g = gSq X.K is.length (gNames is)) := by
  have nm : ∀ {i : Nat} {x : Str} {p : Pos}, (decide (N[i]? = some x) && locIn sc x) = true → PG X (.Name x p) (L2.gName i) := by
    intro i x p h
    simp only [Bool.and_eq_true, decide_eq_true_eq] at h
    exact L2.pg_name y.y.nd (by rw [y.y.hN]; exact h.1) (by rw [y.y.hs]; exact loc_of h.2) (.inl (y.hf x))
  unfold ckTs at h
  split at h
  · exact ⟨_, tg_nm _, nm h, fun is e => by cases e⟩
  · rename_i is es kk p
    simp only [Bool.and_eq_true, decide_eq_true_eq] at h
    refine ⟨_, tg_tp is, ?_, fun is e => by cases e; rfl⟩
    have hes : ∀ (is : List Nat) (es : List Expr), is.length = es.length → ((is.zip es).all fun p => match p.2 with
        | .Name x _ => decide (N[p.1]? = some x) && locIn sc x
        | _ => false) = true → L2.PGs X es (gNames is) ∧ (assignEach es X.env).length = is.length ∧ (assignEach es X.env).findIdx? (·.1) = none := by
      intro is
      induction is with
      | nil =>
        intro es hl _
        cases es with
        | nil => exact ⟨L2.pgs_nil, rfl, rfl⟩
        | cons _ _ => simp at hl
      | cons i r ih =>
        intro es hl hz
        cases es with
        | nil => simp at hl
        | cons e es =>
          simp only [List.zip_cons_cons, List.all_cons, Bool.and_eq_true] at hz
          obtain ⟨h1, h2, h3⟩ := ih es (by simpa using hl) (by simpa using hz.2)
          cases e with
          | Name x p =>
            refine ⟨L2.pgs_cons (nm (by simpa using hz.1)) h1, ?_, ?_⟩
            · show ((false, _) :: assignEach es _).length = _
              simp only [List.length_cons, h2]
            · show ((false, _) :: assignEach es _).findIdx? _ = _
              simp only [List.findIdx?_cons, Bool.false_eq_true, if_false, h3, Option.map_none]
          | _ => exact absurd hz.1 (by simp)
    obtain ⟨h1, h2, h3⟩ := hes is es h.1 h.2
    exact pg_sq y.y.calm h1 h2 h3
  · cases h
theorem ckE_comp {n : Nat} {e : Mn.E} {elt : Expr} {gs : List Comprehension} {scope : Scope} {q : Pos} (hgs : gs.length = 1) (h : ckE c.sg N (n + 1) sc e (.ListComp elt gs scope q) = true) : ∃ vv own tg it d ee t iter ifs, e = .comp vv own tg it d ee ∧ gs = [⟨t, iter, ifs, 0⟩] ∧
    (L2.blkC N sc scope (ckOwn N own) && decide ((ckOwn N own).map (·.2) = own) && tg.slots.all (own.contains ·) && ckTg N scope tg t && ckI c.sg N n sc it t iter && notSet iter && ckC c.sg N n (L2.relS scope sc) d ifs && ckE c.sg N n (L2.relS scope sc) ee elt && !gOk c.sg (L2.relS scope sc)) = true := by
  unfold ckE at h
  split at h
  all_goals first
    | (simp [noComp] at h; done)
    | (cases h; done)
    | (rename_i he; cases he; done)
    | (rename_i he; cases he; simp at hgs; done)
    | (rename_i he; cases he; exact ⟨_, _, _, _, _, _, _, _, _, rfl, rfl, h⟩)
theorem par_of {i j : Nat} {f : Env → Store → R (List D)} : ∀ D σ H, tS X.K c W (fun e S => (f e S).bind fun ds S1 => match ds with
    | [x, y] => .ok (.nx ((e.set i (some x)).set j (some y))) S1
    | _ => .bad) D σ H → L2.tPar i j (tA X.K c W f) D σ H := by
  rintro D σ H ⟨e, m, S, re, s, h⟩
  refine ⟨e, m, S, re, s, h.bind.imp fun ds S1 m1 H1 e1 s1 h1 vs rv => ?_⟩
  match ds, h1, rv with
  | [x, y], h1, .cons r1 (.cons r2 .nil) => exact ⟨_, _, rfl, (h1.now s1) _ (((re.mono s e1).set r1 i).set r2 j)⟩
  | [], h1, _ => exact h1.elim
  | [_], h1, _ => exact h1.elim
  | _ :: _ :: _ :: _, h1, _ => exact h1.elim
theorem snds : ∀ n, (∀ {sc : Scope} {X : Cx} {W : WX}, Cs c G N k call sc X W → ∀ {me : Mn.St} {st : Stmt}, ckS c.sg N n sc me st = true → PS X st (tS X.K c W (exS G fuel call me))) ∧
    (∀ {sc : Scope} {X : Cx} {W : WX}, Cs c G N k call sc X W → ∀ {me : Sts} {l : List Stmt}, ckSs c.sg N n sc me l = true → PSs X l (tS X.K c W (exB G fuel call me))) := by
  intro n
  induction n with
  | zero =>
    refine ⟨?_, ?_⟩
    · intro sc X W y me st h
      simp [ckS] at h
    · intro sc X W y me l h
      simp [ckSs] at h
  | succ n ih =>
    obtain ⟨ihS, ihB⟩ := ih
    have SE := @snd c G N k call n
    refine ⟨?_, ?_⟩
    · intro sc X W y me st h
      unfold ckS at h
      split at h
      · simp only [Bool.and_eq_true, decide_eq_true_eq] at h
        obtain ⟨⟨⟨⟨⟨⟨⟨⟨⟨⟨⟨rfl, h1⟩, h2⟩, h3⟩, h4⟩, h5⟩, h6⟩, h7⟩, h8⟩, h9⟩, h10⟩, h11⟩ := h
        obtain ⟨rfl, hg, hdb, hn⟩ := gl_of y.y h1
        obtain ⟨C, hC, all⟩ := y.y.top _ h2
        obtain ⟨q1, q2, _⟩ := okName_db h3
        have kd : ∀ z, sc.names.lookup z = some NameKind.local → X.env.kindOf z = some .local := fun z hz => by
          show X.env.scope.names.lookup z = _
          rw [y.y.hs]
          exact hz
        exact ps_keptE y.st y.fr y.ex y.y.nd (by rw [y.y.hN]; exact h4) (kd _ h7) (by rw [y.y.hN]; exact h5) (kd _ h8) (by rw [y.y.hN]; exact h6) (kd _ h9) ⟨hg, hdb, .inl hC⟩ q1 q2 all
          (fun W' pn xe tk => SE.E (y.y.tr pn xe tk) h11) (swaps_no h10)
      · simp only [Bool.and_eq_true, decide_eq_true_eq] at h
        obtain ⟨⟨⟨⟨⟨⟨⟨⟨⟨rfl, h1⟩, h2⟩, h3⟩, h4⟩, h5⟩, h7⟩, h8⟩, h10⟩, h11⟩ := h
        obtain ⟨rfl, hg, hdb, hn⟩ := gl_of y.y h1
        obtain ⟨C, hC, all⟩ := y.y.top _ h2
        obtain ⟨q1, q2, _⟩ := okName_db h3
        have kd : ∀ z, sc.names.lookup z = some NameKind.local → X.env.kindOf z = some .local := fun z hz => by
          show X.env.scope.names.lookup z = _
          rw [y.y.hs]
          exact hz
        exact ps_keptXE y.st y.fr y.ex y.y.nd (by rw [y.y.hN]; exact h4) (kd _ h7) (by rw [y.y.hN]; exact h5) (kd _ h8) ⟨hg, hdb, .inl hC⟩ q1 q2 all
          (fun W' pn xe tk => SE.E (y.y.tr pn xe tk) h11) (swaps_no h10)
      · simp only [Bool.and_eq_true] at h
        obtain ⟨⟨h1, h2⟩, h3⟩ := h
        obtain ⟨rfl, hg, hdb, hn⟩ := gl_of y.y h1
        obtain ⟨C, hC, F⟩ := y.y.cls _ h2
        obtain ⟨hp, hst⟩ := SE.Es y.y h3
        simp only [List.all_cons, Bool.and_eq_true] at hst
        exact ps_raiseE hC F y.y.calm y.y.tk hg hp hdb (star_cons hst.1) (star_any hst.2)
      · exact ⟨fun pins s σ H D I h => by
          obtain ⟨_, _, _, _, _, h⟩ := h
          exact h.elim⟩
      · simp only [Bool.and_eq_true, decide_eq_true_eq] at h
        obtain ⟨⟨⟨rfl, h1⟩, h2⟩, h3⟩ := h
        exact ps_dputE (Nat.lt_of_le_of_lt (Nat.add_le_add_left (by decide) _) y.y.un) (SE.E y.y h2) (pe_kE L2.pe_str fun _ _ => .str _) (SE.E y.y h3) (swaps_no h1)
      · rename_i i e x p v pos
        simp only [Bool.and_eq_true, decide_eq_true_eq] at h
        obtain ⟨⟨⟨h1, h2⟩, h3⟩, h4⟩ := h
        have hi : X.N[i]? = some x := by rw [y.y.hN]; exact h1
        have hx : L2.Loc X.env.scope x := by rw [y.y.hs]; exact loc_of h2
        split at h3
        · rename_i elt gs scope q
          simp only [Bool.or_eq_true, decide_eq_true_eq] at h3
          rcases h3 with h3 | h3
          · exact ps_setE y.y.nd hi hx (SE.E y.y h4) (swaps_cell (by rw [y.y.hs]; exact h3)) (.inl (y.hf x))
          · simp only [swHere, Bool.and_eq_true, decide_eq_true_eq, Bool.not_eq_true'] at h3
            obtain ⟨⟨⟨h5, h6⟩, h7⟩, hgs⟩ := h3
            cases n with
            | zero => simp [ckE] at h4
            | succ n =>
              obtain ⟨vv, own, tg, it, d, ee, t, iter, ifs, rfl, rfl, h4⟩ := ckE_comp hgs h4
              obtain ⟨gt, qq, ok, pi, hg, hts, he2, hf⟩ := lc_parts (v := vv) (@snd c G N k call n) y.y h4
              have hloc : X.env.scope.names.lookup x = some .local := by rw [y.y.hs]; exact h5
              exact PS.imp (L2.ps_setLc (i := i) y.y.calm y.y.nd hi hloc (L2.sw_true y.kind hloc h6 h7) pi ok hg hts he2 hf) (set_of (i := i) qq)
        · exact ps_setE y.y.nd hi hx (SE.E y.y h4) (swaps_no h3) (.inl (y.hf x))
      · rename_i is e es kk p v pos
        simp only [Bool.and_eq_true] at h
        obtain ⟨⟨h1, h2⟩, h4⟩ := h
        obtain ⟨g, ht, hg, _⟩ := pg_def y h1
        exact PS.imp (L2.ps_asg (SE.E y.y h4) hg sole_tup (swapped_no h2) rfl) (unp_of ht)
      · simp only [Bool.and_eq_true, decide_eq_true_eq, Bool.not_eq_true'] at h
        obtain ⟨⟨⟨⟨⟨⟨⟨⟨⟨h1, h2⟩, h3⟩, h4⟩, h5⟩, h6⟩, h7⟩, h8⟩, h9⟩, h10⟩ := h
        obtain ⟨hp, hst⟩ := SE.Es y.y h10
        have kd : ∀ z, sc.names.lookup z = some NameKind.local → X.env.scope.names.lookup z = some .local := fun z hz => by rw [y.y.hs]; exact hz
        exact PS.imp (L2.ps_par y.y.calm y.y.nd (by rw [y.y.hN]; exact h1) (by rw [y.y.hN]; exact h2) h3 (kd _ h5) (kd _ h6) hp (par_sw y.kind (kd _ h5) (kd _ h6) h4 h7 h8 h9 hst)) par_of
      · rename_i a i b x z p v pos
        simp only [Bool.and_eq_true] at h
        obtain ⟨⟨⟨h2, h3⟩, h4⟩, h5⟩ := h
        exact PS.imp (L2.ps_asg (SE.E y.y h4) (L2.pg_sub (SE.E y.y h2) (SE.E y.y h3) L2.set_list (asg_sub h5)) sole_sub rfl rfl) sets_of
      · simp only [Bool.and_eq_true, decide_eq_true_eq] at h
        obtain ⟨⟨⟨rfl, h1⟩, h2⟩, h3⟩ := h
        exact ps_augE y.y.nd (by rw [y.y.hN]; exact h1) (by rw [y.y.hs]; exact loc_of h2) (SE.E y.y h3) (.inl (y.hf _))
      · simp only [Bool.and_eq_true] at h
        exact ps_exprE (SE.E y.y h.2) (swaps_no h.1)
      · exact ps_retE (SE.E y.y h)
      · exact ps_retNE
      · exact ps_passE
      · exact ps_brkE
      · exact ps_contE
      · simp only [Bool.and_eq_true] at h
        exact ps_iteE y.cw (SE.T y.y h.1.1) (ihB y h.1.2) (ihB y h.2)
      · simp only [Bool.and_eq_true] at h
        obtain ⟨⟨⟨h1, h2⟩, h3⟩, h4⟩ := h
        obtain ⟨g, ht, hg, _⟩ := pg_def y h1
        exact ps_forE y.cw y.hp y.y.calm (SE.I y.y h2) hg ht (ihB y h4) (folded_no h3)
      · simp only [Bool.and_eq_true] at h
        exact ps_whlE y.cw y.hp (SE.T y.y h.1) (ihB y h.2)
      · cases h
    · intro sc X W y me l h
      unfold ckSs at h
      split at h
      · exact pss_nilE
      · simp only [Bool.and_eq_true] at h
        exact pss_consE y.cw (ihS y h.1) (ihB y h.2)
      · cases h
end

/-! ### a whole program -/
/-- a def of the text, by its term; cs: code objects and their tables -/
structure DefOk (c : Cfg) (cs : List (Addr × Addr)) (fuel : Nat) (K : Frag) (mg : Str → Option Value) (name : String) (d : Def) : Prop where
  ex : ∃ (qual : Str) (st : Stmt) (f : Addr) (fd : FuncData) (N ps : List Str), L2.Fun K (Str.ofString name) qual st f fd ∧ L2.FnScope N ps (L2.defScope st) ∧ d.n = N.length ∧ d.np = ps.length ∧
    ckSs c.sg N fuel (L2.defScope st) d.body (L2.defBody st) = true ∧ mg (Str.ofString name) = some (.ref f) ∧ L2.Binds K fd ps [] ∧ (gOk c.sg (L2.defScope st) = true → ∃ c0 P, fd.code = .ref c0 ∧ (c0, P) ∈ cs)
structure ProgOk (c : Cfg) (cs : List (Addr × Addr)) (G : Globs) (Pg : Prog) (K : Frag) (mg : Str → Option Value) : Prop where
  defs : ∀ name d, Pg name = some d → ∃ fuel, DefOk c cs fuel K mg name d
  sig : ∀ f a, c.sg.sig f = some a → ∃ d, Pg f = some d ∧ d.np = a
  bls : ∀ f, c.sg.bls.contains f = true → mg (Str.ofString f) = none
  cls : ∀ f, c.sg.exs.contains f = true → ∃ C, c.ca f = some C ∧ ExcCl K mg C f
  isx : ∀ f tab, c.sg.isx.lookup f = some tab → IsCl K mg c.ca f tab
  top : ∀ f, c.sg.tops.contains f = true → ∃ C, mg (Str.ofString f) = some (.ref C) ∧ ∀ y D, c.ca y = some D → PySem.W.exmOne K (.ref D) (.ref C) = some true
  globs : ∀ x d, G x = some d → ∃ (u : Value) (v : V), mg (Str.ofString x) = some u ∧ L2.RelV v u ∧ ∀ (m : MM) (H : Hp), RV K c m H d v
  tabs : c.tabs = cs.map (·.2)
theorem prog_def {P : Program} {w : World} {K : Frag} {mg : Str → Option Value} {base : Heap} {c : Cfg} {cs : List (Addr × Addr)} {G : Globs} {fuel : Nat} {Pg : Prog} (ok : ProgOk c cs G Pg K mg) (hT : ∀ p ∈ cs, LamX.TabB base mg p.1 p.2) (k : Nat)
    (ih : ∀ (name : String) (d : Def), Pg name = some d → ∃ (f : Addr) (fd : FuncData) (ps : List Str), FnG P w K mg base (L2.CX P w) (2 * k) f fd ps (spG K c (fun ds S => callA G fuel Pg k name ds S) d.np) ∧ mg (Str.ofString name) = some (.ref f) ∧ PySem.W.keepIn K (.ref f) = true ∧ L2.Binds K fd ps [] ∧ d.np = ps.length)
    {name : String} {d : Def} (hd : Pg name = some d) {qual : Str} {st : Stmt} {f : Addr} {fd : FuncData} {N ps : List Str} {fl : Nat}
    (F : L2.Fun K (Str.ofString name) qual st f fd) (Sc : L2.FnScope N ps (L2.defScope st)) (h1 : d.n = N.length) (h2 : d.np = ps.length) (h3 : ckSs c.sg N fl (L2.defScope st) d.body (L2.defBody st) = true) (h6 : gOk c.sg (L2.defScope st) = true → ∃ c0 P, fd.code = .ref c0 ∧ (c0, P) ∈ cs) :
    FnG P w K mg base (L2.CX P w) (2 * k + 2) f fd ps (spG K c (fun ds S => callA G fuel Pg (k + 1) name ds S) ps.length) := by
  refine fn_okE (j := 2 * k + 1) F Sc hd h1 h2 fun cdv A outer s H E hcd hr hgd => ?_
  refine (snds (c := c) (G := G) (N := N) (k := 2 * k) (fuel := fuel) (call := callA G fuel Pg k) fl).2 (sc := L2.defScope st) ⟨⟨rfl, rfl, rfl, Sc.nd, hr.mono (Nat.le_succ _), fun hg => ⟨hr, ?_⟩, ?_, hgd, L2.takes_of rfl rfl rfl rfl, fun f a hf => ?_, ok.bls, ok.cls, ok.isx, ok.top, ok.globs⟩, fun _ => rfl, Sc.kind, L2.passes_of rfl, fun _ _ _ _ _ h => h, rfl, rfl, rfl⟩ h3
  · obtain ⟨c0, P0, e, hm⟩ := h6 hg
    refine ⟨c0, P0, ?_, ⟨(hT _ hm).code, (hT _ hm).bm, (hT _ hm).gP⟩, ?_⟩
    · show cdv = .ref c0
      rw [← hcd]
      exact e
    · rw [ok.tabs]
      exact List.mem_map.mpr ⟨_, hm, rfl⟩
  · have := hr.un
    show (A.deeper _).units + 65 < cLine
    omega
  · obtain ⟨d', hd', rfl⟩ := ok.sig f a hf
    obtain ⟨f', fd', ps', F', g1, g2, g3, _⟩ := ih f d' hd'
    exact ⟨f', fd', ps', F', g1, g2, g3⟩
theorem prog_ok {P : Program} {w : World} {K : Frag} {mg : Str → Option Value} {base : Heap} {c : Cfg} {cs : List (Addr × Addr)} {G : Globs} {fuel : Nat} {Pg : Prog} (ok : ProgOk c cs G Pg K mg) (hT : ∀ p ∈ cs, LamX.TabB base mg p.1 p.2) : ∀ (k : Nat) (name : String) (d : Def), Pg name = some d →
    ∃ (f : Addr) (fd : FuncData) (ps : List Str), FnG P w K mg base (L2.CX P w) (2 * k) f fd ps (spG K c (fun ds S => callA G fuel Pg k name ds S) d.np) ∧ mg (Str.ofString name) = some (.ref f) ∧ PySem.W.keepIn K (.ref f) = true ∧ L2.Binds K fd ps [] ∧ d.np = ps.length := by
  intro k
  induction k with
  | zero =>
    intro name d hd
    obtain ⟨fl, qual, st, f, fd, N, ps, F, Sc, h1, h2, h3, h4, h5, _⟩ := ok.defs name d hd
    refine ⟨f, fd, ps, ⟨fun vs H Q E h => by rw [← h2]; exact h.1, fun A outer s H args us vs Q E hr hgd he hb hv h => ?_⟩, h4, F.kp, h5, h2⟩
    obtain ⟨_, m, S, ds, _, _, h⟩ := h
    exact (show False from h).elim
  | succ k ih =>
    intro name d hd
    obtain ⟨fl, qual, st, f, fd, N, ps, F, Sc, h1, h2, h3, h4, h5, h6⟩ := ok.defs name d hd
    refine ⟨f, fd, ps, ?_, h4, F.kp, h5, h2⟩
    rw [h2]
    exact prog_def ok hT k ih hd F Sc h1 h2 h3 h6

theorem prog_fn {P : Program} {w : World} {K : Frag} {mg : Str → Option Value} {base : Heap} {c : Cfg} {cs : List (Addr × Addr)} {G : Globs} {fuel : Nat} {Pg : Prog} (ok : ProgOk c cs G Pg K mg) (hT : ∀ p ∈ cs, LamX.TabB base mg p.1 p.2) (k : Nat) {name : String} {d : Def} (hd : Pg name = some d) {qual : Str} {st : Stmt} {f : Addr} {fd : FuncData} {N ps : List Str} {fl : Nat}
    (F : L2.Fun K (Str.ofString name) qual st f fd) (Sc : L2.FnScope N ps (L2.defScope st)) (h1 : d.n = N.length) (h2 : d.np = ps.length) (h3 : ckSs c.sg N fl (L2.defScope st) d.body (L2.defBody st) = true) (h6 : gOk c.sg (L2.defScope st) = true → ∃ c0 P, fd.code = .ref c0 ∧ (c0, P) ∈ cs) :
    FnG P w K mg base (L2.CX P w) (2 * k + 2) f fd ps (spG K c (fun ds S => callA G fuel Pg (k + 1) name ds S) d.np) := by
  rw [h2]
  exact prog_def ok hT k (prog_ok ok hT k) hd F Sc h1 h2 h3 h6

/-! ### the law -/
def spLaw (K : Frag) (tabs : List Addr) : L2.Sp := fun vs H Q _ => ∃ (a : Addr) (ns : List Int), vs = [.ref a] ∧ SqL K H a (ns.map V.int) ∧ ns.length ≤ 63 ∧ (∀ P ∈ tabs, H P = some (.tbl #[])) ∧ ∀ H', Q (.bl true) H'
theorem ints_rv {K : Frag} {c : Cfg} {m : MM} {H : Hp} : ∀ ns : List Int, RVs K c m H (ns.map D.int) (ns.map V.int)
  | [] => .nil
  | n :: r => .cons (.int n) (ints_rv r)
theorem law_of {K : Frag} {c : Cfg} {f : List D → Store → R D} (hf : ∀ ns : List Int, ns.length ≤ 63 → ∃ S', f [.lst (ns.map .int)] [] = .ok (.bl true) S') (vs : List V) (H : Hp) (Q : VK) (E : XK) (h : spLaw K c.tabs vs H Q E) : spG K c f 1 vs H Q E := by
  obtain ⟨a, ns, rfl, hs, hl, ht, q⟩ := h
  obtain ⟨S', e⟩ := hf ns hl
  refine ⟨rfl, ⟨[], []⟩, [], [.lst (ns.map .int)], .cons (.lst ?_ (ints_rv ns)) .nil, ⟨rfl, .nil, (fun a h => by cases h), (fun n o h => by simp at h), (fun P hP => ⟨#[], ht P hP, by simp [TriplesOk]⟩)⟩, ?_⟩
  · rcases hs with h | h
    · exact .inl ⟨h, by simp, by simp⟩
    · exact .inr h
  · rw [e]
    intro m' H' _ _ v rv
    cases rv
    exact q H'
def LawG (l : PySem.W.OpenLaw) (w : World) (K : Frag) (CX : L2.CXT) (k n : Nat) (x : Str) (mg : Str → Option Value) (fa : Addr) (h : Heap) : Prop :=
  ∃ (fd : FuncData) (cs : List (Addr × Addr)) (sp : L2.Sp), (∀ p ∈ cs, h.get? p.2 = some { cls := .none, data := .fields #[] }) ∧ (∀ p ∈ cs, K.lookup p.2 = none) ∧ (∀ p ∈ cs, PySem.W.CodeHd h p.1 p.2) ∧ (∀ (s : Shared) (u : Value), BindsTo s fd ⟨[u], []⟩ [(x, u)]) ∧
    (∀ (H : Hp) (a : Addr) (ns : List Int), ns.length ≤ n → (∀ z ∈ ns, Builtin.Int.intBits z ≤ 1048576) → (∀ p ∈ cs, H p.2 = some (.tbl #[])) → SqL K H a (ns.map V.int) → sp [.ref a] H (fun v _ => v = .bl true) fun _ _ _ => False) ∧
    ∀ base : Heap, K.In base → base.Ns mainGlobals mg → (∀ p ∈ cs, LamX.TabB base mg p.1 p.2) → FnG l.prog w K mg base CX k fa fd [x] sp
/-- the end: each def's table is empty at first -/
theorem walk_tabs {l : PySem.W.OpenLaw} {n k : Nat} {q : Program} {loose : List Str} {XP : (Str → Option Value) → Heap → Prop} {YP : World → Heap → Prop} {d : DefRec} {K : Params → PySem.W.Frag} {CX : World → L2.CXT} {x : Str}
    (hn : l.most = some n) (hn2 : n ≤ sizeLine) (hdf : d.params.defaults = []) (hr : L2.Room k callerA) (hY : ∀ (w : World) (h : Heap), YP w h → (K w.params).In h)
    (F : ∀ (w : World) (mg : Str → Option Value) (fa : Addr) (h : Heap), YP w h → (K w.params).In h → h.Ns mainGlobals mg → mg d.name = some (.ref fa) →
      (∀ (nm : Str) (f : Addr), ((recsOf q).any fun e => e.name == nm) = true → mg nm = some (.ref f) → LamX.OwnTab (K w.params) f h) → LawG l w (K w.params) (CX w) k n x mg fa h)
    (hCX : ∀ (w : World) (H : Hp) (s : Shared) (e : Value) (s' : Shared), CX w [] H s (fun _ _ _ => False) e s' → False) :
    PySem.W.WalkO q loose XP YP l.row.toRowW d [] (fun f vs => PySem.call f vs) := by
  refine Att.attach_callB hn hdf fun w s₀ s₁ mg mb fa o pm cd doc a vs ns G Y ho hd hcd hmg hobj hints hlen hbits hg => ?_
  have KX := hY w _ Y
  have own : ∀ (nm : Str) (f : Addr), ((recsOf q).any fun e => e.name == nm) = true → mg nm = some (.ref f) → LamX.OwnTab (K w.params) f s₁.heap := fun nm f hrec hmg2 c P o1 fd1 e dd vs1 sl k1 k2 k3 k4 k5 => by
    obtain ⟨dL, hm, hn1⟩ := List.any_eq_true.mp hrec
    have hn2 : dL.name = nm := beq_iff_eq.mp hn1
    obtain ⟨a', o', fd', c', P', h1, h2, h3, h4, h5, h6⟩ := G.T.tab dL hm
    rw [hn2, hmg2] at h1
    cases h1
    have g1 := KX _ _ k1
    rw [g1] at h2
    cases h2
    rw [k2] at h3
    cases h3
    rw [k3] at h4
    cases h4
    obtain ⟨⟨oc, vc, e1, _, e3, e4⟩, hP⟩ := h6
    have g2 := KX _ _ k4
    rw [g2] at e1
    cases e1
    cases e3
    rw [k5] at e4
    cases e4
    exact hP
  obtain ⟨fd, cs, sp, hT, nT, C, hb, hsp, hF⟩ := F w mg fa _ Y KX G.T.g hmg own
  exact law_callG KX G.T.g G.T.b G.T.builtins G.T.nolimit hg hT nT C G.T.bmain hobj hints (Nat.le_trans hlen hn2) hr hF hb (fun H hH hS => hsp H a ns hlen hbits hH hS) fun H e s' => hCX w H s₁ e s'
theorem mem_look {β : Type} : ∀ {l : List (String × β)} {x : String} {b : β}, l.lookup x = some b → (x, b) ∈ l
  | [], _, _, h => by cases h
  | (y, c) :: r, x, b, h => by
    rw [List.lookup_cons] at h
    split at h
    · rename_i e
      have e : x = y := by simpa using e
      cases h
      rw [e]
      exact List.mem_cons_self
    · exact List.mem_cons_of_mem _ (mem_look h)
theorem codeHd_at {K : Frag} {c P : Addr} {o : Obj} (e : K.lookup c = some o) (h : PySem.W.codeHdIn [(c, o)] c P = true) : PySem.W.codeHdIn K c P = true := by
  unfold PySem.W.codeHdIn at h ⊢
  rw [e]
  simpa [List.lookup] using h
/-- a def's code object and its table, as the written part tells them -/
structure TabK (K : Frag) (f : Addr) (fd : FuncData) (c0 P : Addr) : Prop where
  look : ∃ (oc : Value) (od : Option Addr) (sl : Array (Option Value)), K.lookup f = some ⟨oc, od, .func fd, sl⟩
  code : fd.code = .ref c0
  co : ∃ (e : Value) (dd : Option Addr) (vs : Array Value) (sl : Array (Option Value)), K.lookup c0 = some ⟨e, dd, .fields vs, sl⟩ ∧ vs[11]? = some (.ref P)
  hd : PySem.W.codeHdIn K c0 P = true
  out : K.lookup P = none
theorem TabK.empty {K : Frag} {f : Addr} {fd : FuncData} {c0 P : Addr} {h : Heap} (t : TabK K f fd c0 P) (o : LamX.OwnTab K f h) : h.get? P = some { cls := .none, data := .fields #[] } := by
  obtain ⟨oc, od, sl, e1⟩ := t.look
  obtain ⟨e, dd, vs, sl2, e2, e3⟩ := t.co
  exact o c0 P _ fd e dd vs sl2 e1 rfl t.code e2 e3
end Mn

/-! Mx: the pure side: what an evaluation comes to. -/
namespace Mn
open PySem
/-- not by the simplifier's own looking -/
theorem nr {α : Sort _} {a b : α} (h : a = b) : a = b := h

/-! ### evaluations that come to something -/
def Sat {α : Type} (r : R α) (Q : α → Store → Prop) : Prop := ∃ a S, r = .ok a S ∧ Q a S
section
variable {α β : Type}
theorem Sat.ok {a : α} {S : Store} {Q : α → Store → Prop} (h : Q a S) : Sat (.ok a S) Q := ⟨a, S, rfl, h⟩
theorem Sat.bind {r : R α} {f : α → Store → R β} {P : α → Store → Prop} {Q : β → Store → Prop} (h : Sat r P) (g : ∀ a S, P a S → Sat (f a S) Q) : Sat (r.bind f) Q := by
  obtain ⟨a, S, rfl, p⟩ := h
  exact g a S p
theorem Sat.imp {r : R α} {P Q : α → Store → Prop} (h : Sat r P) (g : ∀ a S, P a S → Q a S) : Sat r Q := by
  obtain ⟨a, S, e, p⟩ := h
  exact ⟨a, S, e, g a S p⟩
theorem Sat.nox {r : R α} {P : α → Store → Prop} (h : Sat r P) : Sat r.nox P := by
  obtain ⟨a, S, rfl, p⟩ := h
  exact ⟨a, S, rfl, p⟩
theorem Sat.eq {r : R α} {a : α} {S : Store} (h : Sat r fun b T => b = a ∧ T = S) : r = .ok a S := by
  obtain ⟨b, T, e, rfl, rfl⟩ := h
  exact e
theorem R.bind_ok {a : α} {S : Store} {f : α → Store → R β} : (R.ok a S).bind f = f a S := nr rfl
theorem ofO_some {a : α} {S : Store} : R.ofO (some a) S = .ok a S := nr rfl
theorem nox_ok {a : α} {S : Store} : (R.ok a S).nox = .ok a S := nr rfl
end

/-! ### comparing -/
mutual
def gd : D → Nat → Bool
  | .non, _ => true
  | .int _, _ => true
  | .str x, _ => PyData.strOk x
  | .tup l, k => match k with
    | 0 => false
    | k + 1 => gds l k
  | .lst l, k => match k with
    | 0 => false
    | k + 1 => gds l k
  | _, _ => false
def gds : List D → Nat → Bool
  | [], _ => true
  | d :: r, k => gd d k && gds r k
end
mutual
theorem gd_py : ∀ (d : D) (k : Nat), gd d k = true → ∃ p, pyG d = some p ∧ p.canLay0 = true ∧ p.depth ≤ k
  | .non, k, _ => ⟨.none, by simp [pyG], by simp [PyData.canLay0], by simp [PyData.depth]⟩
  | .bl _, k, h => by simp [gd] at h
  | .int i, k, _ => ⟨.int i, by simp [pyG], by simp [PyData.canLay0], by simp [PyData.depth]⟩
  | .str x, k, h => ⟨.str x, by simp [pyG], by simpa [PyData.canLay0, gd] using h, by simp [PyData.depth]⟩
  | .tup l, 0, h => by simp [gd] at h
  | .tup l, k + 1, h => by
    obtain ⟨ps, h1, h2, h3⟩ := gds_py l k (by simpa [gd] using h)
    exact ⟨.tuple ps, by simp [pyG, h1], by simpa [PyData.canLay0] using h2, by simp [PyData.depth]; exact h3⟩
  | .lst l, 0, h => by simp [gd] at h
  | .lst l, k + 1, h => by
    obtain ⟨ps, h1, h2, h3⟩ := gds_py l k (by simpa [gd] using h)
    exact ⟨.list ps, by simp [pyG, h1], by simpa [PyData.canLay0] using h2, by simp [PyData.depth]; exact h3⟩
  | .ref _, k, h => by simp [gd] at h
  | .fn _, k, h => by simp [gd] at h
  | .cls _, k, h => by simp [gd] at h
  | .ty _, k, h => by simp [gd] at h
  | .exn _ _, k, h => by simp [gd] at h
theorem gds_py : ∀ (l : List D) (k : Nat), gds l k = true → ∃ ps, pyGs l = some ps ∧ PyData.canLayAll0 ps = true ∧ PyData.depthAll ps ≤ k
  | [], k, _ => ⟨[], by simp [pyGs], by simp [PyData.canLayAll0], by simp [PyData.depthAll]⟩
  | d :: r, k, h => by
    simp only [gds, Bool.and_eq_true] at h
    obtain ⟨p, h1, h2, h3⟩ := gd_py d k h.1
    obtain ⟨ps, g1, g2, g3⟩ := gds_py r k h.2
    exact ⟨p :: ps, by simp [pyGs, h1, g1], by simp [PyData.canLayAll0, h2, g2], by
      simp only [PyData.depthAll]
      exact Nat.max_le.mpr ⟨h3, g3⟩⟩
end
mutual
theorem gd_eqv : ∀ (d e : D) (k j : Nat), gd d k = true → gd e j = true → ∀ p q, pyG d = some p → pyG e = some q → (PyData.eqv p q = true ↔ d = e)
  | .non, e, k, j, _, h, p, q, hp, hq => by
    simp only [pyG, Option.some.injEq] at hp
    subst hp
    cases e <;> simp_all [gd, pyG] <;> (try subst hp) <;> (try subst hq) <;> (try (obtain ⟨_, _, rfl⟩ := hq)) <;> (try subst q) <;> (try simp [PyData.eqv])
  | .bl _, e, k, j, h, _, p, q, hp, hq => by simp [gd] at h
  | .int i, e, k, j, _, h, p, q, hp, hq => by
    cases e <;> simp_all [gd, pyG] <;> (try subst hp) <;> (try subst hq) <;> (try (obtain ⟨_, _, rfl⟩ := hq)) <;> (try simp [PyData.eqv])
  | .str x, e, k, j, _, h, p, q, hp, hq => by
    cases e <;> simp_all [gd, pyG] <;> (try subst hp) <;> (try subst hq) <;> (try (obtain ⟨_, _, rfl⟩ := hq)) <;> (try simp [PyData.eqv])
  | .tup l, e, 0, j, h, _, p, q, hp, hq => by simp [gd] at h
  | .tup l, e, k + 1, j, h, h', p, q, hp, hq => by
    cases e with
    | tup m =>
      cases j with
      | zero => simp [gd] at h'
      | succ j =>
        simp only [gd] at h h'
        simp only [pyG, Option.map_eq_some_iff] at hp hq
        obtain ⟨ps, hp, rfl⟩ := hp
        obtain ⟨qs, hq, rfl⟩ := hq
        simp only [PyData.eqv, D.tup.injEq]
        exact gds_eqv l m k j h h' ps qs hp hq
    | _ => simp_all [gd, pyG] <;> (try subst hq) <;> (try (obtain ⟨_, _, rfl⟩ := hq)) <;> (try (obtain ⟨_, _, rfl⟩ := hp)) <;> simp [PyData.eqv]
  | .lst l, e, 0, j, h, _, p, q, hp, hq => by simp [gd] at h
  | .lst l, e, k + 1, j, h, h', p, q, hp, hq => by
    cases e with
    | lst m =>
      cases j with
      | zero => simp [gd] at h'
      | succ j =>
        simp only [gd] at h h'
        simp only [pyG, Option.map_eq_some_iff] at hp hq
        obtain ⟨ps, hp, rfl⟩ := hp
        obtain ⟨qs, hq, rfl⟩ := hq
        simp only [PyData.eqv, D.lst.injEq]
        exact gds_eqv l m k j h h' ps qs hp hq
    | _ => simp_all [gd, pyG] <;> (try subst hq) <;> (try (obtain ⟨_, _, rfl⟩ := hq)) <;> (try (obtain ⟨_, _, rfl⟩ := hp)) <;> simp [PyData.eqv]
  | .ref _, e, k, j, h, _, p, q, hp, hq => by simp [gd] at h
  | .fn _, e, k, j, h, _, p, q, hp, hq => by simp [gd] at h
  | .cls _, e, k, j, h, _, p, q, hp, hq => by simp [gd] at h
  | .ty _, e, k, j, h, _, p, q, hp, hq => by simp [gd] at h
  | .exn _ _, e, k, j, h, _, p, q, hp, hq => by simp [gd] at h
theorem gds_eqv : ∀ (d e : List D) (k j : Nat), gds d k = true → gds e j = true → ∀ p q, pyGs d = some p → pyGs e = some q → (PyData.eqvAll p q = true ↔ d = e)
  | [], [], k, j, _, _, p, q, hp, hq => by
    simp [pyGs] at hp hq
    subst hp hq
    simp [PyData.eqvAll]
  | [], e :: es, k, j, _, h, p, q, hp, hq => by
    simp only [gds, Bool.and_eq_true] at h
    obtain ⟨b, h1, _⟩ := gd_py e j h.1
    obtain ⟨bs, g1, _⟩ := gds_py es j h.2
    simp [pyGs, h1, g1] at hp hq
    subst hp hq
    simp [PyData.eqvAll]
  | e :: es, [], k, j, h, _, p, q, hp, hq => by
    simp only [gds, Bool.and_eq_true] at h
    obtain ⟨b, h1, _⟩ := gd_py e k h.1
    obtain ⟨bs, g1, _⟩ := gds_py es k h.2
    simp [pyGs, h1, g1] at hp hq
    subst hp hq
    simp [PyData.eqvAll]
  | d :: ds, e :: es, k, j, h, h', p, q, hp, hq => by
    simp only [gds, Bool.and_eq_true] at h h'
    obtain ⟨b, h1, _⟩ := gd_py e j h'.1
    obtain ⟨bs, g1, _⟩ := gds_py es j h'.2
    obtain ⟨a, h2, _⟩ := gd_py d k h.1
    obtain ⟨as, g2, _⟩ := gds_py ds k h.2
    simp [pyGs, h1, g1, h2, g2] at hp hq
    subst hp hq
    simp only [PyData.eqvAll, Bool.and_eq_true, List.cons.injEq, gd_eqv d e k j h.1 h'.1 a b h2 h1, gds_eqv ds es k j h.2 h'.2 as bs g2 g1]
end
noncomputable instance decD : DecidableEq D := fun _ _ => Classical.propDecidable _
theorem py_gd {S : Store} {d : D} {k : Nat} (h : gd d k = true) : py S d = pyG d := by
  cases d <;> first | rfl | simp [gd] at h
theorem eqA_gd {S : Store} {d e : D} (hd : gd d 64 = true) (he : gd e 64 = true) : eqA S d e = some (decide (d = e)) := by
  obtain ⟨p, h1, h2, h3⟩ := gd_py d 64 hd
  obtain ⟨q, g1, g2, g3⟩ := gd_py e 64 he
  have sp : SeqAt.shaped p = true := by simp [SeqAt.shaped, h2, h3]
  have sq : SeqAt.shaped q = true := by simp [SeqAt.shaped, g2, g3]
  have r := gd_eqv d e 64 64 hd he p q h1 g1
  unfold eqA
  rw [py_gd hd, py_gd he, h1, g1]
  simp only [Option.bind_some, sp, sq, and_self, if_true, Option.some.injEq]
  by_cases x : d = e
  · rw [decide_eq_true x, r.mpr x]
  · rw [decide_eq_false x]
    cases y : p.eqv q with
    | true => exact absurd (r.mp y) x
    | false => rfl
theorem eqA_bl {S : Store} (a b : Bool) : eqA S (.bl a) (.bl b) = some (a == b) := by
  cases a <;> cases b <;> rfl
mutual
theorem gd_mono : ∀ (d : D) (k j : Nat), gd d k = true → k ≤ j → gd d j = true
  | .non, k, j, h, _ => by simp [gd]
  | .bl _, k, j, h, _ => by simp [gd] at h
  | .int _, k, j, h, _ => by simp [gd]
  | .str _, k, j, h, _ => by simpa [gd] using h
  | .tup l, 0, j, h, _ => by simp [gd] at h
  | .tup l, k + 1, 0, h, hj => by omega
  | .tup l, k + 1, j + 1, h, hj => by
    simp only [gd] at h ⊢
    exact gds_mono l k j h (by omega)
  | .lst l, 0, j, h, _ => by simp [gd] at h
  | .lst l, k + 1, 0, h, hj => by omega
  | .lst l, k + 1, j + 1, h, hj => by
    simp only [gd] at h ⊢
    exact gds_mono l k j h (by omega)
  | .ref _, k, j, h, _ => by simp [gd] at h
  | .fn _, k, j, h, _ => by simp [gd] at h
  | .cls _, k, j, h, _ => by simp [gd] at h
  | .ty _, k, j, h, _ => by simp [gd] at h
  | .exn _ _, k, j, h, _ => by simp [gd] at h
theorem gds_mono : ∀ (d : List D) (k j : Nat), gds d k = true → k ≤ j → gds d j = true
  | [], k, j, _, _ => by simp [gds]
  | d :: r, k, j, h, hj => by
    simp only [gds, Bool.and_eq_true] at h ⊢
    exact ⟨gd_mono d k j h.1 hj, gds_mono r k j h.2 hj⟩
end
theorem gds_of {l : List D} {k : Nat} (h : ∀ d ∈ l, gd d k = true) : gds l k = true := by
  induction l with
  | nil => simp [gds]
  | cons d r ih =>
    simp only [gds, Bool.and_eq_true]
    exact ⟨h d (by simp), ih fun x hx => h x (by simp [hx])⟩
theorem gds_mem {l : List D} {k : Nat} (h : gds l k = true) : ∀ d ∈ l, gd d k = true := by
  induction l with
  | nil => simp
  | cons d r ih =>
    simp only [gds, Bool.and_eq_true] at h
    intro x hx
    rcases List.mem_cons.mp hx with rfl | hx
    · exact h.1
    · exact ih h.2 x hx
mutual
/-- what may be compared holds no refs -/
theorem gd_below : ∀ (d : D) (k n : Nat), gd d k = true → below n d = true
  | .non, k, n, h => by simp [below]
  | .bl _, k, n, h => by simp [below]
  | .int _, k, n, h => by simp [below]
  | .str _, k, n, h => by simp [below]
  | .tup l, 0, n, h => by simp [gd] at h
  | .tup l, k + 1, n, h => by
    simp only [gd, below] at h ⊢
    exact gds_below l k n h
  | .lst l, 0, n, h => by simp [gd] at h
  | .lst l, k + 1, n, h => by
    simp only [gd, below] at h ⊢
    exact gds_below l k n h
  | .ref _, k, n, h => by simp [gd] at h
  | .fn _, k, n, h => by simp [gd] at h
  | .cls _, k, n, h => by simp [gd] at h
  | .ty _, k, n, h => by simp [gd] at h
  | .exn _ _, k, n, h => by simp [gd] at h
theorem gds_below : ∀ (d : List D) (k n : Nat), gds d k = true → belows n d = true
  | [], k, n, _ => by simp [belows]
  | d :: r, k, n, h => by
    simp only [gds, belows, Bool.and_eq_true] at h ⊢
    exact ⟨gd_below d k n h.1, gds_below r k n h.2⟩
end

/-! ### leaving a def -/
theorem oldOk_refl (S : Store) : oldOk S S := ⟨Nat.le_refl _, fun i h => .inl rfl⟩
theorem oldOk_set {S : Store} {a : Nat} {o : O} (h : belowO S.length o = true) : oldOk S (S.set a o) := by
  refine ⟨by simp, fun i hi => ?_⟩
  by_cases e : a = i
  · subst e
    exact .inr ⟨o, by simp [hi], h⟩
  · exact .inl (by simp [List.getElem?_set_ne e])
theorem outD_below {S : Store} {n : Nat} {d : D} (h : below n d = true) : outD S n d = some d := by
  unfold outD
  rw [if_pos h]
/-- a def that hands back data and keeps the store as long as it was -/
theorem leave_rt {S S' : Store} {d : D} (h : oldOk S S') (hl : S'.length = S.length) (hd : below S.length d = true) : leave .pure S (.ok (.rt d) S') = .ok d S' := by
  show fin .pure S d S' = _
  unfold fin
  rw [if_pos h, outD_below hd]
  show R.ok d (S'.take S.length) = _
  rw [← hl, List.take_length]
theorem leave_same {S : Store} {d : D} (hd : below S.length d = true) : leave .pure S (.ok (.rt d) S) = .ok d S := leave_rt (oldOk_refl S) rfl hd
theorem leave_new {S : Store} {l : List D} (h : belows S.length l = true) : leave .new S (.ok (.rt (.ref S.length)) (S ++ [.lst l])) = .ok (.ref S.length) (S ++ [.lst l]) := by
  show fin .new S (.ref S.length) (S ++ [.lst l]) = _
  unfold fin
  have o : oldOk S (S ++ [.lst l]) := ⟨by simp, fun i hi => .inl (by simp [List.getElem?_append_left hi])⟩
  simp [h, o]
theorem Sat.leave {S : Store} {r : R F} {Q : D → Store → Prop} (h : Sat r fun f S' => ∃ d, f = .rt d ∧ oldOk S S' ∧ S'.length = S.length ∧ below S.length d = true ∧ Q d S') : Sat (leave .pure S r) Q := by
  obtain ⟨f, S', rfl, d, rfl, h1, h2, h3, h4⟩ := h
  rw [leave_rt h1 h2 h3]
  exact ⟨d, S', rfl, h4⟩

/-! ### single steps -/
section
variable {v : Bool} {S : Store} {i j : Int}
theorem add_i : binA v .Add (.int i) (.int j) S = .ok (.int (i + j)) S := nr rfl
theorem sub_i : binA v .Sub (.int i) (.int j) S = .ok (.int (i - j)) S := nr rfl
theorem mul_r (h : -(2 ^ 64) < j ∧ j < 2 ^ 64) : binA v .Mult (.int i) (.int j) S = .ok (.int (i * j)) S := by
  show (if (-(2 ^ 64) < i ∧ i < 2 ^ 64) ∨ (-(2 ^ 64) < j ∧ j < 2 ^ 64) then R.ok (D.int (i * j)) S else .bad) = _
  rw [if_pos (.inr h)]
theorem mul_l (h : -(2 ^ 64) < i ∧ i < 2 ^ 64) : binA v .Mult (.int i) (.int j) S = .ok (.int (i * j)) S := by
  show (if (-(2 ^ 64) < i ∧ i < 2 ^ 64) ∨ (-(2 ^ 64) < j ∧ j < 2 ^ 64) then R.ok (D.int (i * j)) S else .bad) = _
  rw [if_pos (.inl h)]
theorem mod_i (h : 0 < j) : binA v .Mod (.int i) (.int j) S = .ok (.int (i % j)) S := by
  show R.ofO ((ariA .Mod i j).map D.int) S = _
  simp [ariA, h, R.ofO]
theorem div_i (h : 0 < j ∧ j < 1073741824) : binA v .FloorDiv (.int i) (.int j) S = .ok (.int (i / j)) S := by
  show R.ofO ((ariA .FloorDiv i j).map D.int) S = _
  simp [ariA, h, R.ofO]
theorem pow_i (h : 0 ≤ j ∧ j ≤ 1000000) (h2 : -(2 ^ 64) < i ∧ i < 2 ^ 64) : binA v .Pow (.int i) (.int j) S = .ok (.int (i ^ j.toNat)) S := by
  have : i.natAbs < 2 ^ 64 := by omega
  show R.ofO ((if 0 ≤ j ∧ j ≤ 1000000 ∧ i.natAbs < 2 ^ 64 then some (i ^ j.toNat) else none).map D.int) S = _
  rw [if_pos ⟨h.1, h.2, this⟩]
  rfl
theorem ls_i : cmpA .Lt (.int i) (.int j) S = some (decide (i < j)) := nr rfl
theorem le_i : cmpA .LtE (.int i) (.int j) S = some (decide (i ≤ j)) := nr rfl
theorem gt_i : cmpA .Gt (.int i) (.int j) S = some (decide (j < i)) := nr rfl
theorem ge_i : cmpA .GtE (.int i) (.int j) S = some (decide (j ≤ i)) := nr rfl
theorem eq_i : cmpA .Eq (.int i) (.int j) S = some (decide (i = j)) := by
  show eqA S (.int i) (.int j) = _
  rw [eqA_gd (by simp [gd]) (by simp [gd])]
  simp
theorem eq_g {d e : D} (hd : gd d 64 = true) (he : gd e 64 = true) : cmpA .Eq d e S = some (decide (d = e)) := eqA_gd hd he
theorem ne_g {d e : D} (hd : gd d 64 = true) (he : gd e 64 = true) : cmpA .NotEq d e S = some (!decide (d = e)) := by
  show (eqA S d e).map _ = _
  rw [eqA_gd hd he]
  rfl
theorem ne_b {a b : Bool} : cmpA .NotEq (.bl a) (.bl b) S = some (!(a == b)) := by
  show (eqA S (.bl a) (.bl b)).map (!·) = _
  rw [eqA_bl]
  rfl
theorem tr_b {b : Bool} : truthA S (.bl b) = some b := nr rfl
theorem tr_i : truthA S (.int i) = some (i != 0) := nr rfl
theorem atI_nat {α : Type} {l : List α} {n : Nat} : L2.atI l (n : Int) = l[n]? := by
  unfold L2.atI L2.ixN
  rw [if_pos (by omega)]
  by_cases h : (n : Int) < l.length
  · rw [if_pos h]
    simp
  · rw [if_neg h]
    simp; omega
theorem atI_pos {α : Type} {l : List α} (h : 0 ≤ i) : L2.atI l i = l[i.toNat]? := by
  obtain ⟨n, rfl⟩ := Int.eq_ofNat_of_zero_le h
  rw [atI_nat]; rfl
theorem atI_neg {α : Type} {l : List α} {k : Nat} (h : k < l.length) : L2.atI l (-1 - (k : Int)) = l[l.length - 1 - k]? := by
  unfold L2.atI L2.ixN
  rw [if_neg (by omega), if_pos (by omega)]
  show l[(-1 - (k : Int) + l.length).toNat]? = _
  congr 1
  omega
theorem sub_t {l : List D} : subA S (.tup l) (.int i) = L2.atI l i := nr rfl
theorem sub_l {l : List D} : subA S (.lst l) (.int i) = L2.atI l i := nr rfl
theorem sub_r {n : Nat} {l : List D} (h : S[n]? = some (.lst l)) : subA S (.ref n) (.int i) = L2.atI l i := by
  show (seqA S (.ref n)).bind _ = _
  unfold seqA seqL
  simp [h]
theorem cut_to {l : List D} {k : Nat} : cutA l none (some (k : Int)) = l.take k := by
  unfold cutA
  rw [HT.sIx_nat, HT.sIx_none]
  simp
theorem cut_from {l : List D} {k : Nat} : cutA l (some (k : Int)) none = l.drop k := by
  unfold cutA
  rw [HT.sIx_nat, HT.sIx_none]
  by_cases h : k ≤ l.length
  · rw [Nat.min_eq_left h, List.take_of_length_le (by simp)]
  · rw [Nat.min_eq_right (by omega), List.drop_of_length_le (by omega : l.length ≤ k)]
    simp
theorem cut_mid {l : List D} {k m : Nat} : cutA l (some (k : Int)) (some ((k + m : Nat) : Int)) = (l.drop k).take m := by
  unfold cutA
  rw [HT.sIx_nat, HT.sIx_nat]
  by_cases h : k ≤ l.length
  · rw [Nat.min_eq_left h]
    by_cases h2 : k + m ≤ l.length
    · rw [Nat.min_eq_left h2]; congr 1; omega
    · rw [Nat.min_eq_right (by omega), List.take_of_length_le (by simp), List.take_of_length_le (by simp; omega)]
  · rw [Nat.min_eq_right (by omega : l.length ≤ k), List.drop_of_length_le (by omega : l.length ≤ k)]
    simp
theorem mkL_v {l : List D} (h : l.length ≤ sizeLine) : mkL true l S = .ok (.lst l) S := by
  unfold mkL
  rw [if_pos h]; rfl
theorem mkL_r {l : List D} (h : l.length ≤ sizeLine) : mkL false l S = .ok (.ref S.length) (S ++ [.lst l]) := by
  unfold mkL
  rw [if_pos h]; rfl
theorem mkT_v {l : List D} (h : l.length ≤ sizeLine) : mkT l S = .ok (.tup l) S := by
  unfold mkT
  rw [if_pos h]
theorem slc_t {l : List D} {a b : Option Int} : slcA v (.tup l) a b S = .ok (.tup (cutA l a b)) S := nr rfl
theorem slc_l {l : List D} {a b : Option Int} : slcA v (.lst l) a b S = mkL v (cutA l a b) S := nr rfl
theorem add_t {a b : List D} (h : a.length + b.length ≤ sizeLine) : binA v .Add (.tup a) (.tup b) S = .ok (.tup (a ++ b)) S := by
  show (if _ then _ else _) = _
  rw [if_pos h]
theorem add_l {a b : List D} : binA v .Add (.lst a) (.lst b) S = mkL v (a ++ b) S := nr rfl
theorem len_t {l : List D} : bltA v "len" [.tup l] S = .ok (.int l.length) S := nr rfl
theorem len_l {l : List D} : bltA v "len" [.lst l] S = .ok (.int l.length) S := nr rfl
theorem list_t {l : List D} : bltA v "list" [.tup l] S = mkL v l S := nr rfl
theorem list_l {l : List D} : bltA v "list" [.lst l] S = mkL v l S := nr rfl
theorem tuple_l {l : List D} : bltA v "tuple" [.lst l] S = mkT l S := nr rfl
theorem tuple_r {n : Nat} {l : List D} (h : S[n]? = some (.lst l)) : bltA v "tuple" [.ref n] S = mkT l S := by
  show (match seqL S (.ref n) with | some l => mkT l S | none => R.bad) = _
  unfold seqL
  simp [h]
theorem max_i : bltA v "max" [.int i, .int j] S = .ok (.int (if j > i then j else i)) S := nr rfl
theorem set_r {n k : Nat} {l : List D} {d : D} (h : S[n]? = some (.lst l)) (hk : k < l.length) : setA (.ref n) (.int (k : Int)) d S = .ok () (S.set n (.lst (l.set k d))) := by
  show (match S[n]? with | some (.lst l) => (match L2.ixN l.length (k : Int) with | some j => R.ok () (S.set n (.lst (l.set j d))) | none => .bad) | _ => .bad) = _
  rw [h]
  have : L2.ixN l.length (k : Int) = some k := by
    unfold L2.ixN
    rw [if_pos (by omega), if_pos (by omega)]
    simp
  simp only [this]
end

/-! ### loops -/
def nxQ (I : Env → Store → Prop) (Q : F → Store → Prop) (f : F) (S : Store) : Prop := match f with
  | .nx e => I e S
  | .ct e => I e S
  | .bk e => Q (.nx e) S
  | .rt d => Q (.rt d) S
theorem gdOk_nil {S : Store} : gdOk S [] := True.intro
theorem gdOf_tup {S : Store} {l : List D} : gdOf S (.tup l) = [] := nr rfl
theorem gdOf_lst {S : Store} {l : List D} : gdOf S (.lst l) = [] := nr rfl
theorem for_sat {tg : Tg} {b : Env → Store → R F} {l : List D} {Q : F → Store → Prop} (I : Nat → Env → Store → Prop)
    (step : ∀ i d e S, l[i]? = some d → I i e S → ∃ e1, asg tg d e = some e1 ∧ Sat (b e1 S) (nxQ (I (i + 1)) Q)) (hend : ∀ e S, I l.length e S → Q (.nx e) S) :
    ∀ {e S}, I 0 e S → Sat (forA [] tg b l e S) Q := by
  suffices h : ∀ (r : List D) (i : Nat) (e : Env) (S : Store), l = l.take i ++ r → i ≤ l.length → I i e S → Sat (forA [] tg b r e S) Q from fun {e S} z => h l 0 e S (by simp) (by omega) z
  intro r
  induction r with
  | nil =>
    intro i e S hl hi z
    have : i = l.length := by
      have := congrArg List.length hl
      simp at this
      omega
    subst this
    unfold forA
    rw [if_pos gdOk_nil]
    exact .ok (hend e S z)
  | cons d r ih =>
    intro i e S hl hi z
    have hi2 : (l.take i).length = i := by simp; omega
    have hd : l[i]? = some d := by
      rw [hl, List.getElem?_append_right (by omega), hi2]
      simp
    have hlt : i < l.length := (List.getElem?_eq_some_iff.mp hd).1
    have hn : l = l.take (i + 1) ++ r := by
      rw [List.take_succ, hd]
      simpa using hl
    obtain ⟨e1, h1, h2⟩ := step i d e S hd z
    unfold forA
    rw [if_pos gdOk_nil, h1]
    refine h2.bind fun f S1 hf => ?_
    cases f with
    | nx e2 => exact ih (i + 1) e2 S1 hn hlt hf
    | ct e2 => exact ih (i + 1) e2 S1 hn hlt hf
    | bk e2 => exact .ok hf
    | rt d => exact .ok hf
theorem comp_sat {tg : Tg} {c : Env → Store → R Bool} {t : Env → Store → R D} {e0 : Env} {l : List D} (I : Nat → List D → Store → Prop)
    (step : ∀ i d acc S, l[i]? = some d → I i acc S → ∃ e1, asg tg d e0 = some e1 ∧ Sat (c e1 S) fun ok S1 => if ok = true then acc.length < sizeLine ∧ Sat (t e1 S1) fun y S2 => I (i + 1) (acc ++ [y]) S2 else I (i + 1) acc S1) :
    ∀ {acc S}, I 0 acc S → Sat (compA [] tg c t e0 l acc S) (I l.length) := by
  suffices h : ∀ (r : List D) (i : Nat) (acc : List D) (S : Store), l = l.take i ++ r → i ≤ l.length → I i acc S → Sat (compA [] tg c t e0 r acc S) (I l.length) from fun {acc S} z => h l 0 acc S (by simp) (by omega) z
  intro r
  induction r with
  | nil =>
    intro i e S hl hi z
    have : i = l.length := by
      have := congrArg List.length hl
      simp at this
      omega
    subst this
    unfold compA
    rw [if_pos gdOk_nil]
    exact .ok z
  | cons d r ih =>
    intro i acc S hl hi z
    have hi2 : (l.take i).length = i := by simp; omega
    have hd : l[i]? = some d := by
      rw [hl, List.getElem?_append_right (by omega), hi2]
      simp
    have hlt : i < l.length := (List.getElem?_eq_some_iff.mp hd).1
    have hn : l = l.take (i + 1) ++ r := by
      rw [List.take_succ, hd]
      simpa using hl
    obtain ⟨e1, h1, h2⟩ := step i d acc S hd z
    unfold compA
    rw [if_pos gdOk_nil, h1]
    refine h2.nox.bind fun ok S1 hf => ?_
    by_cases ho : ok = true
    · rw [if_pos ho] at hf ⊢
      refine hf.2.nox.bind fun y S2 hy => ?_
      rw [if_pos hf.1]
      exact ih (i + 1) _ S2 hn hlt hy
    · rw [if_neg ho] at hf ⊢
      exact ih (i + 1) _ S1 hn hlt hf
/-- a comprehension that keeps the store -/
theorem comp_keep {g : Gd} {tg : Tg} {c : Env → Store → R Bool} {t : Env → Store → R D} {e0 : Env} {S : Store} (p : D → Bool) (y : D → D) (hg : gdOk S g) : ∀ (l : List D) (acc : List D), acc.length + l.length < sizeLine →
    (∀ d ∈ l, ∃ e1, asg tg d e0 = some e1 ∧ c e1 S = .ok (p d) S ∧ (p d = true → t e1 S = .ok (y d) S)) → compA g tg c t e0 l acc S = .ok (acc ++ (l.filter p).map y) S
  | [], acc, _, _ => by
    unfold compA
    rw [if_pos hg]
    simp
  | d :: r, acc, hl, h => by
    obtain ⟨e1, h1, h2, h3⟩ := h d List.mem_cons_self
    have ih := fun acc' h' => comp_keep (g := g) (tg := tg) (c := c) (t := t) (e0 := e0) p y hg r acc' h' fun x hx => h x (List.mem_cons_of_mem _ hx)
    simp only [List.length_cons] at hl
    unfold compA
    rw [if_pos hg, h1]
    dsimp only
    rw [h2, nox_ok, R.bind_ok]
    cases hp : p d with
    | true =>
      rw [if_pos rfl, h3 hp, nox_ok, R.bind_ok, if_pos (by omega), ih _ (by rw [List.length_append]; simp; omega)]
      simp [hp]
    | false =>
      rw [if_neg (by simp), ih _ (by omega)]
      simp [hp]
theorem gen_sat {q : Bool} {tg : Tg} {t : Env → Store → R D} {e0 : Env} {S : Store} (p : D → Bool) : ∀ {l : List D},
    (∀ d ∈ l, ∃ e1, asg tg d e0 = some e1 ∧ t e1 S = .ok (.bl (p d)) S) → genA [] q tg t e0 l S = .ok (if q = true then l.all p else l.any p) S
  | [], _ => by
    unfold genA
    rw [if_pos gdOk_nil]
    cases q <;> rfl
  | d :: r, h => by
    obtain ⟨e1, h1, h2⟩ := h d List.mem_cons_self
    have ih := gen_sat (q := q) (tg := tg) (t := t) (e0 := e0) (S := S) p (l := r) fun x hx => h x (List.mem_cons_of_mem _ hx)
    unfold genA
    rw [if_pos gdOk_nil, h1]
    dsimp only
    rw [h2, nox_ok, R.bind_ok]
    dsimp only
    cases hp : p d <;> cases q <;> simp [ih, hp]
theorem while_sat {c : Env → Store → R Bool} {b : Env → Store → R F} {Q : F → Store → Prop} (I : Nat → Env → Store → Prop)
    (step : ∀ m e S, I m e S → Sat (c e S) fun t S1 => if t = true then Sat (b e S1) (nxQ (fun e2 S2 => ∃ j, j < m ∧ I j e2 S2) Q) else Q (.nx e) S1) :
    ∀ n m e S, m < n → I m e S → Sat (whileA n c b e S) Q := by
  intro n
  induction n with
  | zero => intro m e S h; omega
  | succ n ih =>
    intro m e S hm z
    unfold whileA
    refine (step m e S z).bind fun t S1 ht => ?_
    by_cases h : t = true
    · rw [if_pos h] at ht ⊢
      refine ht.bind fun f S2 hf => ?_
      cases f with
      | nx e2 =>
        obtain ⟨j, hj, z⟩ := hf
        exact ih j e2 S2 (by omega) z
      | ct e2 =>
        obtain ⟨j, hj, z⟩ := hf
        exact ih j e2 S2 (by omega) z
      | bk e2 => exact .ok hf
      | rt d => exact .ok hf
    · rw [if_neg h] at ht ⊢
      exact .ok ht
theorem rng_get {a c : Int} {n i : Nat} {d : D} (h : (rng a n c)[i]? = some d) : i < n ∧ d = .int (a + i * c) := by
  unfold rng at h
  simp only [List.getElem?_map, Option.map_eq_some_iff] at h
  obtain ⟨x, hx, rfl⟩ := h
  obtain ⟨h1, h2⟩ := List.getElem?_eq_some_iff.mp hx
  simp at h1 h2
  subst h2
  exact ⟨h1, rfl⟩
theorem rng_len {a c : Int} {n : Nat} : (rng a n c).length = n := by simp [rng]
theorem sz {n : Nat} (h : n ≤ 100000) : n ≤ sizeLine := Nat.le_trans h (by decide)
theorem sz' {n : Nat} (h : n ≤ 100000) : n < sizeLine := Nat.lt_of_le_of_lt h (by decide)

/-! ### stores -/
theorem get_set {S : Store} {a : Nat} {o o' : O} (h : S[a]? = some o) : (S.set a o')[a]? = some o' := by
  have := (List.getElem?_eq_some_iff.mp h).1
  simp [this]
theorem get_set_ne {S : Store} {a b : Nat} {o' : O} (h : a ≠ b) : (S.set a o')[b]? = S[b]? := List.getElem?_set_ne h
theorem get_push {S : Store} {o : O} : (S ++ [o])[S.length]? = some o := by simp
theorem get_push_old {S : Store} {o o' : O} {a : Nat} (h : S[a]? = some o) : (S ++ [o'])[a]? = some o := by
  have := (List.getElem?_eq_some_iff.mp h).1
  rw [List.getElem?_append_left this, h]

/-! ### the evaluator, step by step -/
theorem R.bind_assoc {α β γ : Type} {r : R α} {f : α → Store → R β} {g : β → Store → R γ} : (r.bind f).bind g = r.bind fun a S => (f a S).bind g := by
  cases r <;> rfl
section
variable {G : Globs} {N : Nat} {call : String → List D → Store → R D} {e : Env} {S : Store}
noncomputable def nxK (G : Globs) (N : Nat) (call : String → List D → Store → R D) (r : Sts) (f : F) (S : Store) : R F := match f with
  | .nx e1 => exB G N call r e1 S
  | f => .ok f S
noncomputable def forB (G : Globs) (N : Nat) (call : String → List D → Store → R D) (g : Gd) (tg : Tg) (b : Sts) (l : List D) (e : Env) (S : Store) : R F := forA g tg (fun e S => exB G N call b e S) l e S
noncomputable def whlB (G : Globs) (N : Nat) (call : String → List D → Store → R D) (c : E) (b : Sts) (e : Env) (S : Store) : R F := whileA N (fun e S => tru (evE G call c e S)) (fun e S => exB G N call b e S) e S
noncomputable def cmpB (G : Globs) (call : String → List D → Store → R D) (g : Gd) (tg : Tg) (c : Oe) (t : E) (e0 : Env) (l : List D) (S : Store) : R (List D) := compA g tg (fun e S => tru (evOc G call c e S)) (fun e S => evE G call t e S) e0 l [] S
noncomputable def cmpC (G : Globs) (call : String → List D → Store → R D) (own1 : List Nat) (tg1 : Tg) (c1 : Oe) (t : E) (g : Gd) (e1 : Env) (l acc : List D) (S : Store) : R (List D) := compA g tg1 (fun e S => tru (evOc G call c1 e S)) (fun e S => evE G call t e S) (wipe e1 own1) l acc S
noncomputable def cmpD (G : Globs) (call : String → List D → Store → R D) (g : Gd) (tg : Tg) (c : Oe) (it1 : It) (own1 : List Nat) (tg1 : Tg) (c1 : Oe) (t : E) (e0 : Env) (l : List D) (S : Store) : R (List D) := comp2A g tg (fun e S => tru (evOc G call c e S)) (fun e S => evIt G call it1 e S) (cmpC G call own1 tg1 c1 t) e0 l [] S
noncomputable def iteB (G : Globs) (N : Nat) (call : String → List D → Store → R D) (a b : Sts) (e : Env) (t : Bool) (S : Store) : R F := if t then exB G N call a e S else exB G N call b e S
theorem nx_nx {r : Sts} : nxK G N call r (.nx e) S = exB G N call r e S := nr rfl
theorem nx_rt {r : Sts} {d : D} : nxK G N call r (.rt d) S = .ok (.rt d) S := nr rfl
theorem nx_bk {r : Sts} : nxK G N call r (.bk e) S = .ok (.bk e) S := nr rfl
theorem nx_ct {r : Sts} : nxK G N call r (.ct e) S = .ok (.ct e) S := nr rfl
theorem ite_t {a b : Sts} : iteB G N call a b e true S = exB G N call a e S := nr rfl
theorem ite_f {a b : Sts} : iteB G N call a b e false S = exB G N call b e S := nr rfl
theorem x_nil : exB G N call .nil e S = .ok (.nx e) S := by simp only [exB]
theorem x_cons {s : St} {r : Sts} : exB G N call (.cons s r) e S = (exS G N call s e S).bind (nxK G N call r) := by
  rw [exB]
  congr 1
theorem x_set {i : Nat} {a : E} : exS G N call (.set i a) e S = (evE G call a e S).bind fun x S1 => .ok (.nx (e.set i (some x))) S1 := by rw [exS]
theorem x_unp {is : List Nat} {a : E} : exS G N call (.unp is a) e S = (evE G call a e S).bind fun x S1 => match asg (.tp is) x e with
    | some e1 => .ok (.nx e1) S1
    | none => .bad := by first | (rw [exS]; done) | (rw [exS]; rfl)
theorem x_sets {a i b : E} : exS G N call (.sets a i b) e S = (evE G call b e S).bind fun y S1 => (evE G call a e S1).bind fun x S2 => (evE G call i e S2).bind fun k S3 => (setA x k y S3).bind fun _ S4 => .ok (.nx e) S4 := by rw [exS]
noncomputable def parK (i j : Nat) (e : Env) (ds : List D) (S : Store) : R F := match ds with
    | [x, y] => .ok (.nx ((e.set i (some x)).set j (some y))) S
    | _ => .bad
theorem par_k {i j : Nat} {x y : D} : parK i j e [x, y] S = .ok (.nx ((e.set i (some x)).set j (some y))) S := nr rfl
theorem x_par {i j : Nat} {es : Es} : exS G N call (.par i j es) e S = (evEs G call es e S).bind (parK i j e) := by first | (rw [exS]; done) | (rw [exS]; rfl)
theorem x_aug {i : Nat} {op : Operator} {a : E} {x : D} (h : e[i]? = some (some x)) : exS G N call (.aug i op a) e S = (evE G call a e S).bind fun y S1 => (augA op x y S1).bind fun z S2 => .ok (.nx (e.set i (some z))) S2 := by
  rw [exS, h]
theorem x_expr {a : E} : exS G N call (.expr a) e S = (evE G call a e S).bind fun _ S1 => .ok (.nx e) S1 := by rw [exS]
theorem x_ret {a : E} : exS G N call (.ret a) e S = (evE G call a e S).bind fun x S1 => .ok (.rt x) S1 := by rw [exS]
theorem x_pass : exS G N call .pass e S = .ok (.nx e) S := by rw [exS]
theorem x_brk : exS G N call .brk e S = .ok (.bk e) S := by rw [exS]
theorem x_cont : exS G N call .cont e S = .ok (.ct e) S := by rw [exS]
theorem x_ite {c : E} {a b : Sts} : exS G N call (.ite c a b) e S = (evE G call c e S).bind fun d S1 => (R.ofO (truthA S1 d) S1).bind (iteB G N call a b e) := by
  rw [exS]
  unfold tru
  rw [R.bind_assoc]
  rfl
theorem x_for {tg : Tg} {it : It} {b : Sts} : exS G N call (.for tg it b) e S = (evIt G call it e S).bind fun w S1 => forB G N call w.2 tg b w.1 e S1 := by first | (rw [exS]; done) | (rw [exS]; rfl)
theorem x_whl {c : E} {b : Sts} : exS G N call (.whl c b) e S = whlB G N call c b e S := by first | (rw [exS]; done) | (rw [exS]; rfl)
theorem v_bl {b : Bool} : evE G call (.bl b) e S = .ok (.bl b) S := by rw [evE]
theorem v_int {b : Int} : evE G call (.int b) e S = .ok (.int b) S := by rw [evE]
theorem v_str {b : Str} : evE G call (.str b) e S = .ok (.str b) S := by rw [evE]
theorem v_ty {b : String} : evE G call (.ty b) e S = .ok (.ty b) S := by rw [evE]
theorem v_non : evE G call .non e S = .ok .non S := by rw [evE]
theorem v_var {i : Nat} : evE G call (.var i) e S = match e[i]? with
    | some (some d) => .ok d S
    | _ => .bad := by first | (rw [evE]; done) | (rw [evE]; rfl)
theorem v_tup {es : Es} : evE G call (.tup es) e S = (evEs G call es e S).bind fun ds S1 => mkT ds S1 := by rw [evE]
theorem v_lst {v : Bool} {es : Es} : evE G call (.lst v es) e S = (evEs G call es e S).bind fun ds S1 => mkL v ds S1 := by rw [evE]
theorem v_bin {v : Bool} {op : Operator} {a b : E} : evE G call (.bin v op a b) e S = (evE G call a e S).bind fun x S1 => (evE G call b e S1).bind fun y S2 => binA v op x y S2 := by rw [evE]
theorem v_neg {a : E} : evE G call (.neg a) e S = (evE G call a e S).bind fun x S1 => R.ofO (negA x) S1 := by rw [evE]
theorem v_not {a : E} : evE G call (.not a) e S = (evE G call a e S).bind fun d S1 => (R.ofO (truthA S1 d) S1).bind fun t S1 => .ok (.bl (!t)) S1 := by
  rw [evE]
  unfold tru
  rw [R.bind_assoc]
theorem v_cmp {op : CmpOp} {a b : E} : evE G call (.cmp op a b) e S = (evE G call a e S).bind fun x S1 => (evE G call b e S1).bind fun y S2 => (R.ofO (cmpA op x y S2) S2).bind fun t S3 => .ok (.bl t) S3 := by rw [evE]
noncomputable def andB (G : Globs) (call : String → List D → Store → R D) (b : E) (e : Env) (x : D) (t : Bool) (S : Store) : R D := if t then evE G call b e S else .ok x S
noncomputable def orB (G : Globs) (call : String → List D → Store → R D) (b : E) (e : Env) (x : D) (t : Bool) (S : Store) : R D := if t then .ok x S else evE G call b e S
theorem v_and {a b : E} : evE G call (.and a b) e S = (evE G call a e S).bind fun x S1 => (R.ofO (truthA S1 x) S1).bind (andB G call b e x) := by first | (rw [evE]; done) | (rw [evE]; rfl)
theorem v_or {a b : E} : evE G call (.or a b) e S = (evE G call a e S).bind fun x S1 => (R.ofO (truthA S1 x) S1).bind (orB G call b e x) := by first | (rw [evE]; done) | (rw [evE]; rfl)
theorem and_t {b : E} {x : D} : andB G call b e x true S = evE G call b e S := nr rfl
theorem and_f {b : E} {x : D} : andB G call b e x false S = .ok x S := nr rfl
theorem or_t {b : E} {x : D} : orB G call b e x true S = .ok x S := nr rfl
theorem or_f {b : E} {x : D} : orB G call b e x false S = evE G call b e S := nr rfl
theorem v_ife {c a b : E} : evE G call (.ife c a b) e S = (evE G call c e S).bind fun d S1 => (R.ofO (truthA S1 d) S1).bind fun t S1 => if t then evE G call a e S1 else evE G call b e S1 := by
  rw [evE]
  unfold tru
  rw [R.bind_assoc]
theorem v_call {f : String} {es : Es} : evE G call (.call f es) e S = (evEs G call es e S).bind fun ds S1 => call f ds S1 := by rw [evE]
theorem v_blt {v : Bool} {f : String} {es : Es} : evE G call (.blt v f es) e S = (evEs G call es e S).bind fun ds S1 => bltA v f ds S1 := by rw [evE]
theorem v_mth {T m : String} {o : E} {es : Es} : evE G call (.mth T m o es) e S = (evE G call o e S).bind fun x S1 => (R.ofO (recvA T S1 x) S1).bind fun _ S2 => (evEs G call es e S2).bind fun ds S3 => mthA T m x ds S3 := by rw [evE]
theorem v_sub {a i : E} : evE G call (.sub a i) e S = (evE G call a e S).bind fun x S1 => (evE G call i e S1).bind fun y S2 => R.ofO (subA S2 x y) S2 := by rw [evE]
theorem v_slc {v : Bool} {a : E} {lo hi : Oe} : evE G call (.slc v a lo hi) e S = (evE G call a e S).bind fun x S1 => (evOe G call lo e S1).bind fun l S2 => (evOe G call hi e S2).bind fun h S3 => slcA v x l h S3 := by rw [evE]
theorem v_comp {v : Bool} {own : List Nat} {tg : Tg} {it : It} {c : Oe} {t : E} : evE G call (.comp v own tg it c t) e S = (evIt G call it e S).bind fun w S1 => (cmpB G call w.2 tg c t (wipe e own) w.1 S1).bind fun l S2 => mkL v l S2 := by first | (rw [evE]; done) | (rw [evE]; rfl)
theorem v_lens {a : E} : evE G call (.lens a) e S = (evE G call a e S).bind fun x S1 => R.ofO (lensA S1 x) S1 := by rw [evE]
theorem v_dict1 {k a : E} : evE G call (.dict1 k a) e S = (evE G call k e S).bind fun x S1 => (evE G call a e S1).bind fun y S2 => dic1A x y S2 := by rw [evE]
theorem v_tzip {a b : E} : evE G call (.tzip a b) e S = (evE G call a e S).bind fun x S1 => (evE G call b e S1).bind fun y S2 => tzipA x y S2 := by rw [evE]
theorem v_inv {a : E} : evE G call (.inv a) e S = (evE G call a e S).bind fun x S1 => R.ofO (invA x) S1 := by rw [evE]
theorem x_keptX {i j : Nat} {c : String} {a : E} : exS G N call (.keptX i j c a) e S = keptXA i j (evE G call a e S) e := by rw [exS]
theorem v_dict0 : evE G call .dict0 e S = .ok (.ref S.length) (S ++ [.dic [] []]) := by rw [evE]
theorem v_rvs {v : Bool} {a st : E} : evE G call (.rvs v a st) e S = (evE G call a e S).bind fun x S1 => (evE G call st e S1).bind fun k S2 => rvsA v x k S2 := by rw [evE]
theorem v_comp2 {v : Bool} {own own1 : List Nat} {tg tg1 : Tg} {it it1 : It} {c c1 : Oe} {t : E} : evE G call (.comp2 v own own1 tg it c tg1 it1 c1 t) e S = (evIt G call it e S).bind fun w S1 => (cmpD G call w.2 tg c it1 own1 tg1 c1 t (wipe e own) w.1 S1).bind fun l S2 => mkL v l S2 := by first | (rw [evE]; done) | (rw [evE]; rfl)
theorem v_maxd {a d : E} : evE G call (.maxd a d) e S = (evE G call a e S).bind fun x S1 => (evE G call d e S1).bind fun y S2 => R.ofO (maxdA S2 x y) S2 := by rw [evE]
theorem v_slcS {v : Bool} {a lo st : E} : evE G call (.slcS v a lo st) e S = (evE G call a e S).bind fun x S1 => (evE G call lo e S1).bind fun i S2 => (evE G call st e S2).bind fun k S3 => slcsA v x i k S3 := by rw [evE]
theorem o_none : evOe G call .none e S = .ok none S := by rw [evOe]
theorem o_some {a : E} : evOe G call (.some a) e S = (evE G call a e S).bind fun x S1 => (R.ofO (optI x) S1).bind fun i S2 => .ok (some i) S2 := by rw [evOe]
theorem oc_none : evOc G call .none e S = .ok (.bl true) S := by rw [evOc]
theorem oc_some {a : E} : evOc G call (.some a) e S = evE G call a e S := by rw [evOc]
theorem s_nil : evEs G call .nil e S = .ok [] S := by rw [evEs]
theorem s_cons {a : E} {r : Es} : evEs G call (.cons a r) e S = (evE G call a e S).bind fun x S1 => (evEs G call r e S1).bind fun xs S2 => .ok (x :: xs) S2 := by rw [evEs]
noncomputable def agB (G : Globs) (call : String → List D → Store → R D) (g : Gd) (q : Bool) (tg : Tg) (t : E) (e0 : Env) (l : List D) (S : Store) : R Bool := genA g q tg (fun e S => evE G call t e S) e0 l S
theorem v_agen {q : Bool} {own : List Nat} {tg : Tg} {it : It} {t : E} : evE G call (.agen q own tg it t) e S = (evIt G call it e S).bind fun w S1 => (agB G call w.2 q tg t (wipe e own) w.1 S1).bind fun b S2 => .ok (.bl b) S2 := by first | (rw [evE]; done) | (rw [evE]; rfl)
theorem v_glob {x : String} : evE G call (.glob x) e S = R.ofO (G x) S := by rw [evE]
theorem v_chain {o1 o2 : CmpOp} {a b c : E} : evE G call (.chain o1 o2 a b c) e S = (evE G call a e S).bind fun x S1 => (evE G call b e S1).bind fun y S2 => (R.ofO (cmpA o1 x y S2) S2).bind fun t S3 =>
      if t then (evE G call c e S3).bind fun z S4 => (R.ofO (cmpA o2 y z S4) S4).bind fun u S5 => .ok (.bl u) S5 else .ok (.bl false) S3 := by rw [evE]
theorem i_seq {a : E} : evIt G call (.seq a) e S = (evE G call a e S).bind fun x S1 => (R.ofO (itemsOf S1 x) S1).bind fun l S2 => .ok (l, gdOf S2 x) S2 := by rw [evIt]
theorem i_rng1 {a : E} : evIt G call (.rng1 a) e S = (evE G call a e S).bind fun x S1 => match x with
    | .int j => if -(2 ^ 62) ≤ j ∧ j < 2 ^ 62 then .ok (rng 0 j.toNat 1, []) S1 else .bad
    | _ => .bad := by first | (rw [evIt]; done) | (rw [evIt]; rfl)
theorem i_rng2 {a b : E} : evIt G call (.rng2 a b) e S = (evE G call a e S).bind fun x S1 => (evE G call b e S1).bind fun y S2 => match x, y with
    | .int i, .int j => if -(2 ^ 62) ≤ i ∧ i < 2 ^ 62 ∧ -(2 ^ 62) ≤ j ∧ j < 2 ^ 62 then .ok (rng i (j - i).toNat 1, []) S2 else .bad
    | _, _ => .bad := by first | (rw [evIt]; done) | (rw [evIt]; rfl)
theorem i_enum {a : E} : evIt G call (.enum a) e S = (evE G call a e S).bind fun x S1 => (R.ofO (seqA S1 x) S1).bind fun l S2 => .ok (enumF 0 l, gdOf S2 x) S2 := by rw [evIt]
theorem i_rngD {a b : E} : evIt G call (.rngD a b) e S = (evE G call a e S).bind fun x S1 => (evE G call b e S1).bind fun y S2 => match x, y with
    | .int i, .int j => if -(2 ^ 62) ≤ i ∧ i < 2 ^ 62 ∧ -(2 ^ 62) ≤ j ∧ j < 2 ^ 62 then .ok (rng i (i - j).toNat (-1), []) S2 else .bad
    | _, _ => .bad := by first | (rw [evIt]; done) | (rw [evIt]; rfl)
theorem i_zip {a b : E} : evIt G call (.zip a b) e S = (evE G call a e S).bind fun x S1 => (evE G call b e S1).bind fun y S2 => match seqL S2 x, seqL S2 y with
    | some l, some k => .ok (zipF l k, gdOf S2 x ++ gdOf S2 y) S2
    | _, _ => match seqT x, seqT y with
      | some l, some k => .ok (zipF l k, []) S2
      | _, _ => .bad := by first | (rw [evIt]; done) | (rw [evIt]; rfl)
theorem v_dict {ks : List Str} {es : Es} : evE G call (.dict ks es) e S = (evEs G call es e S).bind fun ds S1 => dicA ks ds S1 := by rw [evE]
theorem v_dget {o : E} {k : Str} : evE G call (.dget o k) e S = (evE G call o e S).bind fun x S1 => dgetA x k S1 := by rw [evE]
theorem v_isx {a : E} {y : String} {tab : List (String × Bool)} : evE G call (.isx a y tab) e S = (evE G call a e S).bind fun d S1 => R.ofO ((isxA tab S1 d).map .bl) S1 := by rw [evE]
theorem x_dput {o a : E} {k : Str} : exS G N call (.dput o k a) e S = (evE G call a e S).bind fun y S1 => (evE G call o e S1).bind fun x S2 => (dputA x k y S2).bind fun _ S3 => .ok (.nx e) S3 := by rw [exS]
theorem x_raise {c : String} {es : Es} : exS G N call (.raise c es) e S = (evEs G call es e S).bind fun ds S1 => if ds.length ≤ sizeLine then .exc (.exn c []) S1 else .bad := by rw [exS]
theorem x_kept {i j l : Nat} {c : String} {a : E} : exS G N call (.kept i j l c a) e S = keptA i j l (evE G call a e S) e := by rw [exS]
theorem optI_i {i : Int} : optI (.int i) = some i := nr rfl
theorem itm_t {l : List D} : itemsOf S (.tup l) = some l := nr rfl
theorem itm_l {l : List D} : itemsOf S (.lst l) = some l := nr rfl
theorem seqL_l {l : List D} : seqL S (.lst l) = some l := nr rfl
theorem aug_i {i j : Int} : augA .Add (.int i) (.int j) S = .ok (.int (i + j)) S := nr rfl
theorem neg_i {i : Int} : negA (.int i) = some (.int (-i)) := nr rfl
end
end Mn


/-! the terms of the text's defs, and the looks at them -/
namespace K01
open PySem Mn
def d_is_name : Def := ⟨1, 2, .pure,
    (.cons (.ite (.or (.not (.blt true "isinstance" (.cons (.var 0) (.cons (.ty "str") .nil)))) (.not (.chain .LtE .LtE (.int 1) (.blt true "len" (.cons (.var 0) .nil)) (.glob "MOST_LETTERS")))) (.cons (.ret (.bl false))
      .nil) .nil)
      (.cons (.ret (.and (.cmp .NotIn (.var 0) (.glob "WORDS")) (.agen true [1] (.nm 1) (.seq (.var 0)) (.cmp .In (.var 1) (.glob "SMALL_LETTERS")))))
      .nil))⟩
def d_need_name : Def := ⟨1, 1, .pure,
    (.cons (.ite (.not (.call "is_name" (.cons (.var 0) .nil))) (.cons (.raise "BadName" (.cons (.str "no name") .nil))
      .nil) .nil)
      .nil)⟩
def d_all_unlike : Def := ⟨1, 1, .pure,
    (.cons (.ret (.cmp .Eq (.lens (.var 0)) (.blt true "len" (.cons (.var 0) .nil))))
      .nil)⟩
def d_is_pair : Def := ⟨1, 1, .pure,
    (.cons (.ret (.and (.blt true "isinstance" (.cons (.var 0) (.cons (.ty "tuple") .nil))) (.and (.cmp .Eq (.blt true "len" (.cons (.var 0) .nil)) (.int 2)) (.and (.call "is_name" (.cons (.sub (.var 0) (.int 0)) .nil)) (.call "is_name" (.cons (.sub (.var 0) (.int 1)) .nil))))))
      .nil)⟩
def d_are_pairs : Def := ⟨1, 2, .pure,
    (.cons (.ite (.or (.not (.blt true "isinstance" (.cons (.var 0) (.cons (.ty "tuple") .nil)))) (.not (.agen true [1] (.nm 1) (.seq (.var 0)) (.call "is_pair" (.cons (.var 1) .nil))))) (.cons (.ret (.bl false))
      .nil) .nil)
      (.cons (.ret (.and (.call "all_unlike" (.cons (.comp true [1] (.nm 1) (.seq (.var 0)) .none (.sub (.var 1) (.int 0))) .nil)) (.call "all_unlike" (.cons (.comp true [1] (.nm 1) (.seq (.var 0)) .none (.sub (.var 1) (.int 1))) .nil))))
      .nil))⟩
def d_name_by : Def := ⟨2, 4, .pure,
    (.cons (.for (.tp [2, 3]) (.seq (.var 0)) (.cons (.ite (.cmp .Eq (.var 2) (.var 1)) (.cons (.ret (.var 3))
      .nil) .nil)
      .nil))
      (.cons (.ret (.var 1))
      .nil))⟩
def d__law_mixed : Def := ⟨2, 2, .pure,
    (.cons (.set 0 (.bin true .Mod (.bin true .Mult (.bin true .Add (.bin true .Add (.bin true .Mod (.var 0) (.int 2147483647)) (.bin true .Mult (.bin true .Mult (.int 7919) (.var 1)) (.var 1))) (.bin true .Mult (.int 31) (.var 1))) (.int 48271)) (.int 2147483647)))
      (.cons (.ret (.bin true .Mod (.bin true .Mult (.var 0) (.bin true .Add (.int 69621) (.bin true .Mult (.int 2) (.var 1)))) (.int 2147483629)))
      .nil))⟩
def d__law_stream : Def := ⟨2, 2, .new,
    (.cons (.ret (.lst false (.cons (.cmp .GtE (.var 0) (.bin true .Pow (.int 10) (.int 18))) (.cons (.var 0) (.cons (.int 0) (.cons (.call "_law_mixed" (.cons (.var 0) (.cons (.var 1) .nil))) .nil))))))
      .nil)⟩
def d__law_take : Def := ⟨2, 3, .pure,
    (.cons (.sets (.var 0) (.int 2) (.bin true .Add (.sub (.var 0) (.int 2)) (.int 1)))
      (.cons (.ite (.or (.not (.sub (.var 0) (.int 0))) (.or (.cmp .In (.sub (.var 0) (.int 1)) (.tup (.cons (.int 0) (.cons (.neg (.int 1)) .nil)))) (.cmp .Gt (.sub (.var 0) (.int 2)) (.int 60)))) (.cons (.ret (.bin true .Mod (.call "_law_mixed" (.cons (.call "_law_mixed" (.cons (.sub (.var 0) (.int 3)) (.cons (.sub (.var 0) (.int 2)) .nil))) (.cons (.int 7) .nil))) (.var 1)))
      .nil) .nil)
      (.cons (.set 2 (.bin true .Mod (.sub (.var 0) (.int 1)) (.var 1)))
      (.cons (.sets (.var 0) (.int 1) (.bin true .FloorDiv (.sub (.var 0) (.int 1)) (.var 1)))
      (.cons (.ret (.var 2))
      .nil)))))⟩
def d__law_names_by : Def := ⟨2, 10, .pure,
    (.cons (.set 2 (.str "abcdefghijklmnopqrstuvwxyz"))
      (.cons (.set 3 (.lst false (.cons (.str "yes") (.cons (.str "no") (.cons (.str "not") (.cons (.str "and") (.cons (.str "or") (.cons (.str "before") (.cons (.str "since") (.cons (.str "was") (.cons (.str "given") (.cons (.str "wanted") (.cons (.str "always") (.cons (.str "again") .nil))))))))))))))
      (.cons (.expr (.mth "list" "append" (.var 3) (.cons (.str "comes") .nil)))
      (.cons (.set 4 (.call "_law_take" (.cons (.var 0) (.cons (.int 26) .nil))))
      (.cons (.set 5 (.mth "str" "join" (.str "") (.cons (.comp true [7] (.nm 7) (.rng1 (.int 6)) .none (.sub (.var 2) (.call "_law_take" (.cons (.var 0) (.cons (.int 26) .nil))))) .nil)))
      (.cons (.ite (.cmp .Eq (.call "_law_take" (.cons (.var 0) (.cons (.int 2) .nil))) (.int 1)) (.cons (.ite (.blt true "any" (.cons (.comp true [7] (.nm 7) (.rng2 (.int 1) (.int 7)) .none (.cmp .In (.slc true (.var 5) .none (.some (.var 7))) (.var 3))) .nil)) (.cons (.set 5 (.bin true .Add (.str "q") (.slc true (.var 5) (.some (.int 1)) .none)))
      .nil) .nil)
      (.cons (.set 8 (.lst false (.cons (.int 1) (.cons (.int 2) (.cons (.int 3) (.cons (.int 4) (.cons (.int 5) (.cons (.int 6) .nil))))))))
      (.cons (.ret (.comp true [7] (.nm 7) (.rng1 (.var 1)) .none (.slc true (.var 5) .none (.some (.mth "list" "pop" (.var 8) (.cons (.call "_law_take" (.cons (.var 0) (.cons (.blt true "len" (.cons (.var 8) .nil)) .nil))) .nil))))))
      .nil))) .nil)
      (.cons (.set 6 (.lst false .nil))
      (.cons (.for (.nm 7) (.rng1 (.var 1)) (.cons (.set 9 (.slc true (.bin true .Add (.sub (.var 2) (.bin true .Mod (.bin true .Add (.var 4) (.bin true .Mult (.int 5) (.var 7))) (.int 26))) (.var 5)) .none (.some (.bin true .Add (.int 1) (.call "_law_take" (.cons (.var 0) (.cons (.int 6) .nil)))))))
      (.cons (.expr (.mth "list" "append" (.var 6) (.cons (.ife (.cmp .In (.var 9) (.var 3)) (.bin true .Add (.slc true (.var 9) .none (.some (.neg (.int 1)))) (.str "q")) (.var 9)) .nil)))
      .nil)))
      (.cons (.ret (.var 6))
      .nil)))))))))⟩
def d__law_word : Def := ⟨1, 5, .pure,
    (.cons (.set 1 (.lst false (.cons (.tup (.cons (.str "name") (.cons (.isx (.var 0) "BadName" [("BadName", true)]) .nil))) (.cons (.tup (.cons (.str "board") (.cons (.isx (.var 0) "BadBoard" [("BadName", false)]) .nil))) .nil))))
      (.cons (.set 1 (.bin false .Add (.var 1) (.lst true (.cons (.tup (.cons (.str "letter") (.cons (.isx (.var 0) "BadLetter" [("BadName", false)]) .nil))) (.cons (.tup (.cons (.str "turn") (.cons (.isx (.var 0) "BadTurn" [("BadName", false)]) .nil))) .nil)))))
      (.cons (.set 1 (.bin false .Add (.var 1) (.lst true (.cons (.tup (.cons (.str "loop") (.cons (.isx (.var 0) "BadLoop" [("BadName", false)]) .nil))) (.cons (.tup (.cons (.str "wish") (.cons (.isx (.var 0) "BadWish" [("BadName", false)]) .nil))) .nil)))))
      (.cons (.set 1 (.bin false .Add (.var 1) (.lst true (.cons (.tup (.cons (.str "row") (.cons (.isx (.var 0) "BadRow" [("BadName", false)]) .nil))) (.cons (.tup (.cons (.str "task") (.cons (.isx (.var 0) "BadTask" [("BadName", false)]) .nil))) .nil)))))
      (.cons (.set 1 (.bin false .Add (.var 1) (.lst true (.cons (.tup (.cons (.str "machine") (.cons (.isx (.var 0) "BadMachine" [("BadName", false)]) .nil))) (.cons (.tup (.cons (.str "plan") (.cons (.isx (.var 0) "BadPlan" [("BadName", false)]) .nil))) .nil)))))
      (.cons (.set 1 (.bin false .Add (.var 1) (.lst true (.cons (.tup (.cons (.str "position") (.cons (.isx (.var 0) "BadPosition" [("BadName", false)]) .nil))) (.cons (.tup (.cons (.str "run") (.cons (.isx (.var 0) "BadRun" [("BadName", false)]) .nil))) .nil)))))
      (.cons (.expr (.mth "list" "append" (.var 1) (.cons (.tup (.cons (.str "number") (.cons (.isx (.var 0) "BadNumber" [("BadName", false)]) .nil))) .nil)))
      (.cons (.expr (.mth "list" "append" (.var 1) (.cons (.tup (.cons (.str "great") (.cons (.isx (.var 0) "TooGreat" [("BadName", false)]) .nil))) .nil)))
      (.cons (.expr (.mth "list" "append" (.var 1) (.cons (.tup (.cons (.str "text") (.cons (.isx (.var 0) "BadText" [("BadName", false)]) .nil))) .nil)))
      (.cons (.set 1 (.bin false .Add (.var 1) (.lst true (.cons (.tup (.cons (.str "no machine") (.cons (.isx (.var 0) "NoMachine" [("BadName", false)]) .nil))) (.cons (.tup (.cons (.str "no plan") (.cons (.isx (.var 0) "NoPlan" [("BadName", false)]) .nil))) .nil)))))
      (.cons (.expr (.mth "list" "append" (.var 1) (.cons (.tup (.cons (.str "arena") (.cons (.isx (.var 0) "BadArena" [("BadName", false)]) .nil))) .nil)))
      (.cons (.set 2 (.comp true [3, 4] (.tp [3, 4]) (.seq (.var 1)) (.some (.var 4)) (.var 3)))
      (.cons (.ite (.cmp .Is (.var 0) .non) (.cons (.ret (.str ""))
      .nil) .nil)
      (.cons (.ret (.ife (.and (.cmp .Eq (.blt true "len" (.cons (.var 2) .nil)) (.int 1)) (.isx (.var 0) "ValueError" [("BadName", true)])) (.sub (.var 2) (.int 0)) (.str "another")))
      .nil))))))))))))))⟩
def d__law_said : Def := ⟨1, 3, .pure,
    (.cons (.set 1 .non)
      (.cons (.keptX 2 1 "WishError" (.call "need_name" (.cons (.var 0) .nil)))
      (.cons (.ret (.call "_law_word" (.cons (.var 1) .nil)))
      .nil)))⟩
def d__law_is_name : Def := ⟨1, 4, .pure,
    (.cons (.set 1 (.lst true (.cons (.str "yes") (.cons (.str "no") (.cons (.str "not") (.cons (.str "and") (.cons (.str "or") (.cons (.str "before") (.cons (.str "since") (.cons (.str "was") (.cons (.str "given") (.cons (.str "wanted") (.cons (.str "always") (.cons (.str "again") .nil))))))))))))))
      (.cons (.set 2 (.comp true [3] (.nm 3) (.seq (.var 0)) (.some (.chain .LtE .LtE (.str "a") (.var 3) (.str "z"))) (.var 3)))
      (.cons (.ret (.and (.chain .LtE .LtE (.int 1) (.blt true "len" (.cons (.var 0) .nil)) (.int 6)) (.and (.cmp .Eq (.blt true "len" (.cons (.var 2) .nil)) (.blt true "len" (.cons (.var 0) .nil))) (.cmp .NotIn (.var 0) (.bin true .Add (.var 1) (.lst true (.cons (.str "comes") (.cons (.str "answers") .nil))))))))
      .nil)))⟩
def d__law_odd : Def := ⟨2, 5, .pure,
    (.cons (.set 2 (.call "_law_take" (.cons (.var 0) (.cons (.blt true "len" (.cons (.var 1) .nil)) .nil))))
      (.cons (.set 3 (.sub (.lst true (.cons (.str "A") (.cons (.str " ") (.cons (.str "0") (.cons (.str "_") (.cons (.str "Z") (.cons (.str "") (.cons (.str "-") (.cons (.str "\n") .nil))))))))) (.call "_law_take" (.cons (.var 0) (.cons (.int 8) .nil)))))
      (.cons (.set 4 (.lst true (.cons (.bin true .Add (.bin true .Add (.slc true (.var 1) .none (.some (.var 2))) (.var 3)) (.slc true (.var 1) (.some (.bin true .Add (.var 2) (.int 1))) .none)) (.cons (.bin true .Add (.var 1) (.var 3)) (.cons (.bin true .Add (.var 3) (.var 1)) (.cons (.slc true (.bin true .Mult (.var 1) (.int 7)) .none (.some (.int 7))) (.cons (.slc true (.bin true .Add (.var 1) (.str "abcdefg")) .none (.some (.int 8))) .nil)))))))
      (.cons (.ret (.sub (.var 4) (.call "_law_take" (.cons (.var 0) (.cons (.int 5) .nil)))))
      .nil))))⟩
def d__law_pairs_right : Def := ⟨1, 11, .pure,
    (.cons (.set 1 (.call "_law_names_by" (.cons (.var 0) (.cons (.int 6) .nil))))
      (.cons (.set 2 (.call "_law_take" (.cons (.var 0) (.cons (.int 4) .nil))))
      (.cons (.set 3 (.tzip (.slc true (.var 1) .none (.some (.var 2))) (.slc true (.bin true .Add (.slc true (.var 1) (.some (.int 3)) .none) (.var 1)) .none (.some (.var 2)))))
      (.cons (.ite (.or (.cmp .IsNot (.call "are_pairs" (.cons (.var 3) .nil)) (.bl true)) (.cmp .IsNot (.call "are_pairs" (.cons (.tup .nil) .nil)) (.bl true))) (.cons (.ret (.bl false))
      .nil) .nil)
      (.cons (.for (.nm 4) (.seq (.bin true .Add (.var 1) (.lst true (.cons (.str "zz") .nil)))) (.cons (.set 8 (.bin true .Add (.comp true [9, 10] (.tp [9, 10]) (.seq (.var 3)) (.some (.cmp .Eq (.var 9) (.var 4))) (.var 10)) (.lst true (.cons (.var 4) .nil))))
      (.cons (.ite (.cmp .NotEq (.call "name_by" (.cons (.var 3) (.cons (.var 4) .nil))) (.sub (.var 8) (.int 0))) (.cons (.ret (.bl false))
      .nil) .nil)
      .nil)))
      (.cons (.set 5 (.tup (.cons (.sub (.var 1) (.int 0)) (.cons (.sub (.var 1) (.int 1)) .nil))))
      (.cons (.set 6 (.lst true (.cons (.tup (.cons (.sub (.var 1) (.int 0)) .nil)) (.cons (.lst true (.cons (.sub (.var 1) (.int 0)) (.cons (.sub (.var 1) (.int 1)) .nil))) (.cons (.tup (.cons (.sub (.var 1) (.int 0)) (.cons (.str "no") .nil))) (.cons (.tup (.cons (.str "Q") (.cons (.sub (.var 1) (.int 1)) .nil))) (.cons (.sub (.var 1) (.int 0)) (.cons .non (.cons (.tup (.cons (.sub (.var 1) (.int 0)) (.cons (.int 5) .nil))) (.cons (.tup .nil) .nil))))))))))
      (.cons (.set 7 (.lst true (.cons (.tup (.cons (.sub (.var 6) (.call "_law_take" (.cons (.var 0) (.cons (.int 8) .nil)))) .nil)) (.cons (.tup (.cons (.var 5) (.cons (.tup (.cons (.sub (.var 1) (.int 0)) (.cons (.sub (.var 1) (.int 2)) .nil))) .nil))) (.cons (.tup (.cons (.var 5) (.cons (.tup (.cons (.sub (.var 1) (.int 2)) (.cons (.sub (.var 1) (.int 1)) .nil))) .nil))) (.cons (.lst true (.cons (.var 5) .nil)) (.cons .non (.cons (.str "ab") .nil))))))))
      (.cons (.set 7 (.bin true .Add (.var 7) (.lst true (.cons (.tup (.cons (.var 5) (.cons (.sub (.var 6) (.call "_law_take" (.cons (.var 0) (.cons (.int 8) .nil)))) .nil))) (.cons (.dict1 (.sub (.var 1) (.int 0)) (.sub (.var 1) (.int 1))) (.cons (.int 5) .nil))))))
      (.cons (.ret (.cmp .Is (.call "are_pairs" (.cons (.sub (.var 7) (.call "_law_take" (.cons (.var 0) (.cons (.int 9) .nil)))) .nil)) (.bl false)))
      .nil))))))))))⟩
def d_law : Def := ⟨1, 11, .pure,
    (.cons (.set 1 (.lst true (.cons (.str "yes") (.cons (.str "no") (.cons (.str "not") (.cons (.str "and") (.cons (.str "or") (.cons (.str "before") (.cons (.str "since") (.cons (.str "was") (.cons (.str "given") (.cons (.str "wanted") (.cons (.str "always") (.cons (.str "again") (.cons (.str "comes") .nil)))))))))))))))
      (.cons (.for (.nm 2) (.seq (.bin true .Add (.var 1) (.lst true (.cons (.str "answers") .nil)))) (.cons (.for (.nm 3) (.seq (.tup (.cons (.var 2) (.cons (.bin true .Add (.var 2) (.str "a")) (.cons (.slc true (.var 2) .none (.some (.neg (.int 1)))) (.cons (.bin true .Add (.str "a") (.var 2)) .nil)))))) (.cons (.set 10 (.call "is_name" (.cons (.var 3) .nil)))
      (.cons (.ite (.or (.not (.blt true "isinstance" (.cons (.var 10) (.cons (.ty "bool") .nil)))) (.cmp .NotEq (.var 10) (.call "_law_is_name" (.cons (.var 3) .nil)))) (.cons (.ret (.bl false))
      .nil) .nil)
      .nil)))
      .nil))
      (.cons (.for (.tp [4, 5]) (.enum (.slc true (.bin true .Add (.var 0) (.lst true (.cons (.int 0) .nil))) .none (.some (.int 63)))) (.cons (.set 6 (.call "_law_stream" (.cons (.var 5) (.cons (.var 4) .nil))))
      (.cons (.set 7 (.sub (.call "_law_names_by" (.cons (.var 6) (.cons (.int 1) .nil))) (.int 0)))
      (.cons (.set 3 (.call "_law_odd" (.cons (.var 6) (.cons (.var 7) .nil))))
      (.cons (.set 8 (.sub (.lst true (.cons .non (.cons (.int 5) (.cons (.bl true) (.cons (.tup (.cons (.var 7) .nil)) (.cons (.lst true (.cons (.var 7) .nil)) (.cons .dict0 (.cons (.neg (.int 1)) (.cons (.tup .nil) .nil))))))))) (.call "_law_take" (.cons (.var 6) (.cons (.int 8) .nil)))))
      (.cons (.ite (.or (.cmp .IsNot (.call "is_name" (.cons (.var 7) .nil)) (.bl true)) (.or (.cmp .NotEq (.call "_law_said" (.cons (.var 7) .nil)) (.str "")) (.cmp .IsNot (.call "is_name" (.cons (.var 8) .nil)) (.bl false)))) (.cons (.ret (.bl false))
      .nil) .nil)
      (.cons (.ite (.or (.cmp .NotEq (.call "_law_said" (.cons (.var 8) .nil)) (.str "name")) (.cmp .NotEq (.call "_law_said" (.cons (.var 8) .nil)) (.str "name"))) (.cons (.ret (.bl false))
      .nil) .nil)
      (.cons (.set 9 (.call "is_name" (.cons (.var 3) .nil)))
      (.cons (.ite (.or (.not (.blt true "isinstance" (.cons (.var 9) (.cons (.ty "bool") .nil)))) (.or (.cmp .NotEq (.var 9) (.call "_law_is_name" (.cons (.var 3) .nil))) (.cmp .NotEq (.call "_law_said" (.cons (.var 3) .nil)) (.sub (.lst true (.cons (.str "name") (.cons (.str "") .nil))) (.blt true "int" (.cons (.var 9) .nil)))))) (.cons (.ret (.bl false))
      .nil) .nil)
      (.cons (.ite (.not (.call "_law_pairs_right" (.cons (.var 6) .nil))) (.cons (.ret (.bl false))
      .nil) .nil)
      .nil))))))))))
      (.cons (.ret (.bl true))
      .nil))))⟩
def topS (i : Nat) : Stmt := PySem.Challenge.pw_wishkeep_k01_names.main.body.getD i (.Pass ⟨0, 0, 0, 0⟩)
def Pg : Prog := fun s => match s with
  | "is_name" => some d_is_name
  | "need_name" => some d_need_name
  | "all_unlike" => some d_all_unlike
  | "is_pair" => some d_is_pair
  | "are_pairs" => some d_are_pairs
  | "name_by" => some d_name_by
  | "_law_mixed" => some d__law_mixed
  | "_law_stream" => some d__law_stream
  | "_law_take" => some d__law_take
  | "_law_names_by" => some d__law_names_by
  | "_law_word" => some d__law_word
  | "_law_said" => some d__law_said
  | "_law_is_name" => some d__law_is_name
  | "_law_odd" => some d__law_odd
  | "_law_pairs_right" => some d__law_pairs_right
  | "law" => some d_law
  | _ => none
def gscs : List Scope := [L2.defScope (topS 24), L2.defScope (topS 28)]
def sg : Sg := ⟨["all", "any", "bool", "enumerate", "int", "isinstance", "len", "range", "set", "str", "tuple", "zip"], fun s => (Pg s).map (·.np), ["BadName"], ["WishError"], [("BadArena", [("BadName", false)]), ("BadBoard", [("BadName", false)]), ("BadLetter", [("BadName", false)]), ("BadLoop", [("BadName", false)]), ("BadMachine", [("BadName", false)]), ("BadName", [("BadName", true)]), ("BadNumber", [("BadName", false)]), ("BadPlan", [("BadName", false)]), ("BadPosition", [("BadName", false)]), ("BadRow", [("BadName", false)]), ("BadRun", [("BadName", false)]), ("BadTask", [("BadName", false)]), ("BadText", [("BadName", false)]), ("BadTurn", [("BadName", false)]), ("BadWish", [("BadName", false)]), ("NoMachine", [("BadName", false)]), ("NoPlan", [("BadName", false)]), ("TooGreat", [("BadName", false)]), ("ValueError", [("BadName", true)])], gscs⟩
def caOf (cs : List Addr) : String → Option Addr := fun s => match s with
  | "BadName" => cs[0]?
  | _ => none
def Gs : Globs := fun s => match s with
  | "MOST_LETTERS" => some (.int 6)
  | "SMALL_LETTERS" => some (.str "abcdefghijklmnopqrstuvwxyz")
  | "WORDS" => some (.tup [.str "yes", .str "no", .str "not", .str "and", .str "or", .str "before", .str "since", .str "was", .str "given", .str "wanted", .str "always", .str "again", .str "comes", .str "answers"])
  | _ => none
abbrev s_is_name : Stmt := topS 24
theorem sc_is_name : L2.FnScope ["thing", "sign"] ["thing"] (L2.defScope s_is_name) := ⟨rfl, rfl, rfl, by decide +kernel, rfl, by decide +kernel, by decide +kernel⟩
theorem ck_is_name : ckSs sg ["thing", "sign"] 60 (L2.defScope s_is_name) d_is_name.body (L2.defBody s_is_name) = true := by decide +kernel
abbrev s_need_name : Stmt := topS 25
theorem sc_need_name : L2.FnScope ["thing"] ["thing"] (L2.defScope s_need_name) := ⟨rfl, rfl, rfl, by decide +kernel, rfl, by decide +kernel, by decide +kernel⟩
theorem ck_need_name : ckSs sg ["thing"] 60 (L2.defScope s_need_name) d_need_name.body (L2.defBody s_need_name) = true := by decide +kernel
abbrev s_all_unlike : Stmt := topS 26
theorem sc_all_unlike : L2.FnScope ["names"] ["names"] (L2.defScope s_all_unlike) := ⟨rfl, rfl, rfl, by decide +kernel, rfl, by decide +kernel, by decide +kernel⟩
theorem ck_all_unlike : ckSs sg ["names"] 60 (L2.defScope s_all_unlike) d_all_unlike.body (L2.defBody s_all_unlike) = true := by decide +kernel
abbrev s_is_pair : Stmt := topS 27
theorem sc_is_pair : L2.FnScope ["thing"] ["thing"] (L2.defScope s_is_pair) := ⟨rfl, rfl, rfl, by decide +kernel, rfl, by decide +kernel, by decide +kernel⟩
theorem ck_is_pair : ckSs sg ["thing"] 60 (L2.defScope s_is_pair) d_is_pair.body (L2.defBody s_is_pair) = true := by decide +kernel
abbrev s_are_pairs : Stmt := topS 28
theorem sc_are_pairs : L2.FnScope ["thing", "pair"] ["thing"] (L2.defScope s_are_pairs) := ⟨rfl, rfl, rfl, by decide +kernel, rfl, by decide +kernel, by decide +kernel⟩
theorem ck_are_pairs : ckSs sg ["thing", "pair"] 60 (L2.defScope s_are_pairs) d_are_pairs.body (L2.defBody s_are_pairs) = true := by decide +kernel
abbrev s_name_by : Stmt := topS 29
theorem sc_name_by : L2.FnScope ["pairs", "name", "old", "new"] ["pairs", "name"] (L2.defScope s_name_by) := ⟨rfl, rfl, rfl, by decide +kernel, rfl, by decide +kernel, by decide +kernel⟩
theorem ck_name_by : ckSs sg ["pairs", "name", "old", "new"] 60 (L2.defScope s_name_by) d_name_by.body (L2.defBody s_name_by) = true := by decide +kernel
abbrev s__law_mixed : Stmt := topS 31
theorem sc__law_mixed : L2.FnScope ["_law_number", "_law_k"] ["_law_number", "_law_k"] (L2.defScope s__law_mixed) := ⟨rfl, rfl, rfl, by decide +kernel, rfl, by decide +kernel, by decide +kernel⟩
theorem ck__law_mixed : ckSs sg ["_law_number", "_law_k"] 60 (L2.defScope s__law_mixed) d__law_mixed.body (L2.defBody s__law_mixed) = true := by decide +kernel
abbrev s__law_stream : Stmt := topS 32
theorem sc__law_stream : L2.FnScope ["_law_cell", "_law_k"] ["_law_cell", "_law_k"] (L2.defScope s__law_stream) := ⟨rfl, rfl, rfl, by decide +kernel, rfl, by decide +kernel, by decide +kernel⟩
theorem ck__law_stream : ckSs sg ["_law_cell", "_law_k"] 60 (L2.defScope s__law_stream) d__law_stream.body (L2.defBody s__law_stream) = true := by decide +kernel
abbrev s__law_take : Stmt := topS 33
theorem sc__law_take : L2.FnScope ["_law_stream_here", "_law_many", "_law_number"] ["_law_stream_here", "_law_many"] (L2.defScope s__law_take) := ⟨rfl, rfl, rfl, by decide +kernel, rfl, by decide +kernel, by decide +kernel⟩
theorem ck__law_take : ckSs sg ["_law_stream_here", "_law_many", "_law_number"] 60 (L2.defScope s__law_take) d__law_take.body (L2.defBody s__law_take) = true := by decide +kernel
abbrev s__law_names_by : Stmt := topS 34
theorem sc__law_names_by : L2.FnScope ["_law_stream_here", "_law_many", "_law_letters", "_law_heard", "_law_first", "_law_word_here", "_law_found", "_law_k", "_law_sizes", "_law_name"] ["_law_stream_here", "_law_many"] (L2.defScope s__law_names_by) := ⟨rfl, rfl, rfl, by decide +kernel, rfl, by decide +kernel, by decide +kernel⟩
theorem ck__law_names_by : ckSs sg ["_law_stream_here", "_law_many", "_law_letters", "_law_heard", "_law_first", "_law_word_here", "_law_found", "_law_k", "_law_sizes", "_law_name"] 60 (L2.defScope s__law_names_by) d__law_names_by.body (L2.defBody s__law_names_by) = true := by decide +kernel
abbrev s__law_word : Stmt := topS 35
theorem sc__law_word : L2.FnScope ["_law_error", "_law_some", "_law_found", "_law_word_here", "_law_good"] ["_law_error"] (L2.defScope s__law_word) := ⟨rfl, rfl, rfl, by decide +kernel, rfl, by decide +kernel, by decide +kernel⟩
theorem ck__law_word : ckSs sg ["_law_error", "_law_some", "_law_found", "_law_word_here", "_law_good"] 60 (L2.defScope s__law_word) d__law_word.body (L2.defBody s__law_word) = true := by decide +kernel
abbrev s__law_said : Stmt := topS 36
theorem sc__law_said : L2.FnScope ["_law_thing", "_law_caught", "_law_error"] ["_law_thing"] (L2.defScope s__law_said) := ⟨rfl, rfl, rfl, by decide +kernel, rfl, by decide +kernel, by decide +kernel⟩
theorem ck__law_said : ckSs sg ["_law_thing", "_law_caught", "_law_error"] 60 (L2.defScope s__law_said) d__law_said.body (L2.defBody s__law_said) = true := by decide +kernel
abbrev s__law_is_name : Stmt := topS 37
theorem sc__law_is_name : L2.FnScope ["_law_text", "_law_heard", "_law_good", "_law_sign"] ["_law_text"] (L2.defScope s__law_is_name) := ⟨rfl, rfl, rfl, by decide +kernel, rfl, by decide +kernel, by decide +kernel⟩
theorem ck__law_is_name : ckSs sg ["_law_text", "_law_heard", "_law_good", "_law_sign"] 60 (L2.defScope s__law_is_name) d__law_is_name.body (L2.defBody s__law_is_name) = true := by decide +kernel
abbrev s__law_odd : Stmt := topS 38
theorem sc__law_odd : L2.FnScope ["_law_stream_here", "_law_name", "_law_at", "_law_sign", "_law_some"] ["_law_stream_here", "_law_name"] (L2.defScope s__law_odd) := ⟨rfl, rfl, rfl, by decide +kernel, rfl, by decide +kernel, by decide +kernel⟩
theorem ck__law_odd : ckSs sg ["_law_stream_here", "_law_name", "_law_at", "_law_sign", "_law_some"] 60 (L2.defScope s__law_odd) d__law_odd.body (L2.defBody s__law_odd) = true := by decide +kernel
abbrev s__law_pairs_right : Stmt := topS 39
theorem sc__law_pairs_right : L2.FnScope ["_law_stream_here", "_law_names", "_law_many", "_law_pairs", "_law_name", "_law_good", "_law_odd_here", "_law_bad", "_law_due", "_law_one", "_law_other"] ["_law_stream_here"] (L2.defScope s__law_pairs_right) := ⟨rfl, rfl, rfl, by decide +kernel, rfl, by decide +kernel, by decide +kernel⟩
theorem ck__law_pairs_right : ckSs sg ["_law_stream_here", "_law_names", "_law_many", "_law_pairs", "_law_name", "_law_good", "_law_odd_here", "_law_bad", "_law_due", "_law_one", "_law_other"] 60 (L2.defScope s__law_pairs_right) d__law_pairs_right.body (L2.defBody s__law_pairs_right) = true := by decide +kernel
abbrev s_law : Stmt := topS 40
theorem sc_law : L2.FnScope ["_law_script", "_law_heard", "_law_word_here", "_law_text", "_law_k", "_law_cell", "_law_stream_here", "_law_name", "_law_thing", "_law_good", "_law_found"] ["_law_script"] (L2.defScope s_law) := ⟨rfl, rfl, rfl, by decide +kernel, rfl, by decide +kernel, by decide +kernel⟩
theorem ck_law : ckSs sg ["_law_script", "_law_heard", "_law_word_here", "_law_text", "_law_k", "_law_cell", "_law_stream_here", "_law_name", "_law_thing", "_law_good", "_law_found"] 60 (L2.defScope s_law) d_law.body (L2.defBody s_law) = true := by decide +kernel
end K01

namespace K01
open PySem Mn
noncomputable abbrev CC (k : Nat) : String → List D → Store → R D := callA Gs 1000000 Pg k
theorem call_step {k : Nat} {f : String} {d : Def} {ds : List D} {S : Store} (h : Pg f = some d) (hl : ds.length = d.np) : CC (k + 1) f ds S = leave d.md S (exB Gs 1000000 (CC k) d.body (ds.map some ++ List.replicate (d.n - d.np) none) S) := by
  unfold CC
  rw [callA, h]
  simp only [hl, if_true]
def mixed (n k : Int) : Int := (n % 2147483647 + 7919 * k * k + 31 * k) * 48271 % 2147483647 * (69621 + 2 * k) % 2147483629

theorem c_mixed (k : Nat) (n j : Int) (hj : 0 ≤ j ∧ j ≤ 1000000) (S : Store) : CC (k + 1) "_law_mixed" [.int n, .int j] S = .ok (.int (mixed n j)) S := by
  show leave .pure S (exB Gs 1000000 (CC k) d__law_mixed.body [some (.int n), some (.int j)] S) = _
  simp (disch := omega) only [d__law_mixed, exB, exS, evE, R.bind_ok, add_i, mul_r, mul_l, mod_i, List.getElem?_cons_zero, List.getElem?_cons_succ, List.set_cons_zero]
  exact leave_same (by simp [below])
theorem mixed_lt (n j : Int) : 0 ≤ mixed n j ∧ mixed n j < 2147483629 := by
  unfold mixed
  constructor
  · exact Int.emod_nonneg _ (by decide)
  · exact Int.emod_lt_of_pos _ (by decide)
/-- a stream -/
def strm (b : Bool) (n c r : Int) : O := .lst [.bl b, .int n, .int c, .int r]
theorem strm_below (m : Nat) (b : Bool) (n c r : Int) : belowO m (strm b n c r) = true := by simp [strm, belowO, belows, below]
theorem c_stream (k : Nat) (n j : Int) (hj : 0 ≤ j ∧ j ≤ 1000000) (S : Store) : ∃ b r, CC (k + 2) "_law_stream" [.int n, .int j] S = .ok (.ref S.length) (S ++ [strm b n 0 r]) := by
  refine ⟨decide (10 ^ (18 : Int).toNat ≤ n), mixed n j, ?_⟩
  show leave .new S (exB Gs 1000000 (CC (k + 1)) d__law_stream.body [some (.int n), some (.int j)] S) = _
  simp (disch := omega) only [d__law_stream, exB, exS, evE, evEs, R.bind_ok, pow_i, ge_i, ofO_some, c_mixed k n j hj, List.getElem?_cons_zero, List.getElem?_cons_succ, List.set_cons_zero]
  rw [mkL_r (sz (by simp)), R.bind_ok]
  exact leave_new (by simp [belows, below])
/-- at a: a stream that has been asked at most C times -/
def Stm (S : Store) (a : Nat) (C : Int) : Prop := ∃ b n c r, S[a]? = some (strm b n c r) ∧ 0 ≤ c ∧ c ≤ C
def Upd (S : Store) (a : Nat) (S' : Store) (C : Int) : Prop := ∃ b n c r, S' = S.set a (strm b n c r) ∧ 0 ≤ c ∧ c ≤ C
theorem Upd.stm {S S' : Store} {a : Nat} {C C' : Int} (h : Upd S a S' C) (hs : Stm S a C') : Stm S' a C := by
  obtain ⟨b, n, c, r, rfl, h1⟩ := h
  obtain ⟨_, _, _, _, e, _⟩ := hs
  exact ⟨b, n, c, r, get_set e, h1⟩
theorem Upd.trans {S S' S'' : Store} {a : Nat} {C C' : Int} (h : Upd S a S' C) (h' : Upd S' a S'' C') : Upd S a S'' C' := by
  obtain ⟨_, _, _, _, rfl, _⟩ := h
  obtain ⟨b, n, c, r, rfl, h1⟩ := h'
  exact ⟨b, n, c, r, by rw [List.set_set], h1⟩
theorem Upd.old {S S' : Store} {a : Nat} {C : Int} (h : Upd S a S' C) : oldOk S S' := by
  obtain ⟨b, n, c, r, rfl, _⟩ := h
  exact oldOk_set (strm_below _ _ _ _ _)
theorem Upd.len {S S' : Store} {a : Nat} {C : Int} (h : Upd S a S' C) : S'.length = S.length := by
  obtain ⟨b, n, c, r, rfl, _⟩ := h
  simp
theorem Upd.at {S S' : Store} {a b : Nat} {C : Int} (h : Upd S a S' C) (hb : a ≠ b) : S'[b]? = S[b]? := by
  obtain ⟨_, n, c, r, rfl, _⟩ := h
  exact get_set_ne hb
theorem Upd.refl {S : Store} {a : Nat} {C : Int} (h : Stm S a C) : Upd S a S C := by
  obtain ⟨b, n, c, r, e, h1⟩ := h
  refine ⟨b, n, c, r, ?_, h1⟩
  obtain ⟨hl, e2⟩ := List.getElem?_eq_some_iff.mp e
  rw [← e2, List.set_getElem_self]
theorem Upd.weak {S S' : Store} {a : Nat} {C C' : Int} (h : Upd S a S' C) (hc : C ≤ C') : Upd S a S' C' := by
  obtain ⟨b, n, c, r, e, h1, h2⟩ := h
  exact ⟨b, n, c, r, e, h1, by omega⟩
theorem Stm.weak {S : Store} {a : Nat} {C C' : Int} (h : Stm S a C) (hc : C ≤ C') : Stm S a C' := by
  obtain ⟨b, n, c, r, e, h1, h2⟩ := h
  exact ⟨b, n, c, r, e, h1, by omega⟩

theorem at4_0 {a b c d : D} : L2.atI [a, b, c, d] 0 = some a := nr rfl
theorem at4_1 {a b c d : D} : L2.atI [a, b, c, d] 1 = some b := nr rfl
theorem at4_2 {a b c d : D} : L2.atI [a, b, c, d] 2 = some c := nr rfl
theorem at4_3 {a b c d : D} : L2.atI [a, b, c, d] 3 = some d := nr rfl
theorem in2 {S : Store} {n : Int} : cmpA .In (.int n) (.tup [.int 0, .int (-1)]) S = some (decide (n = 0 ∨ n = -1)) := by
  show (if SeqAt.shaped (.int n) = true ∧ SeqAt.shaped (.list [.int 0, .int (-1)]) = true then some ([PyData.int 0, .int (-1)].any fun z => PyData.eqv z (.int n)) else none) = _
  rw [if_pos ⟨rfl, by decide⟩]
  congr 1
  rw [Bool.eq_iff_iff]
  simp [PyData.eqv]
  omega
theorem c_take (k : Nat) (S : Store) (a : Nat) (m C : Int) (hm : 0 < m ∧ m < 1073741824) (h : Stm S a C) (hC : C < 1000000) :
    Sat (CC (k + 2) "_law_take" [.ref a, .int m] S) fun d S' => ∃ v, d = .int v ∧ 0 ≤ v ∧ v < m ∧ Upd S a S' (C + 1) := by
  obtain ⟨b, n, c, r, e, h1, h2⟩ := h
  show Sat (leave .pure S (exB Gs 1000000 (CC (k + 1)) d__law_take.body [some (.ref a), some (.int m), none] S)) _
  have e' : S[a]? = some (.lst [.bl b, .int n, .int c, .int r]) := e
  have s2 : ∀ d, setA (.ref a) (.int 2) d S = .ok () (S.set a (.lst [.bl b, .int n, d, .int r])) := fun d => set_r (k := 2) e' (by simp)
  have g1 : (S.set a (.lst [.bl b, .int n, .int (c + 1), .int r]))[a]? = some (.lst [.bl b, .int n, .int (c + 1), .int r]) := get_set e
  have s1 : ∀ d, setA (.ref a) (.int 1) d (S.set a (.lst [.bl b, .int n, .int (c + 1), .int r])) = .ok () (S.set a (.lst [.bl b, d, .int (c + 1), .int r])) := fun d => by
    have := set_r (k := 1) (d := d) g1 (by simp)
    rwa [List.set_set] at this
  have i1 : 0 ≤ c + 1 ∧ c + 1 ≤ 1000000 := by omega
  have fin : ∀ (v : Int) (n' : Int), 0 ≤ v → v < m → Sat (leave .pure S (.ok (.rt (.int v)) (S.set a (.lst [.bl b, .int n', .int (c + 1), .int r])))) fun d S' => ∃ v, d = .int v ∧ 0 ≤ v ∧ v < m ∧ Upd S a S' (C + 1) := fun v n' hv hv2 =>
    Sat.leave (.ok ⟨_, rfl, oldOk_set (strm_below _ _ _ _ _), by simp, by simp [below], v, rfl, hv, hv2, b, n', c + 1, r, rfl, by omega, by omega⟩)
  simp (disch := omega) only [d__law_take, exB, exS, evE, evEs, R.bind_ok, add_i, mod_i, div_i, sub_r e', at4_2, at4_0, ofO_some, s2, List.getElem?_cons_zero, List.getElem?_cons_succ, List.set_cons_zero, List.set_cons_succ, sub_r g1, tr_b, tru]
  have seven : (0 : Int) ≤ 7 ∧ (7 : Int) ≤ 1000000 := by decide
  have two : [D.int 0, D.int (-1)].length ≤ sizeLine := sz (by simp)
  have f1 : ∀ x : Int, 0 ≤ x % m := fun x => Int.emod_nonneg _ (by omega)
  have f2 : ∀ x : Int, x % m < m := fun x => Int.emod_lt_of_pos _ hm.1
  cases b with
  | false =>
    simp only [d__law_take, exB, exS, evE, evEs, R.bind_ok, tr_b, ofO_some, at4_0, at4_1, at4_2, at4_3, sub_r g1, List.getElem?_cons_zero, List.getElem?_cons_succ, List.set_cons_zero, List.set_cons_succ, if_true, negA, Bool.not_false, Bool.not_true, Bool.false_eq_true, if_false, c_mixed k _ _ i1, c_mixed k _ 7 seven, mod_i hm.1, div_i hm, s1, in2, gt_i, mkT_v two]
    exact fin _ _ (f1 _) (f2 _)
  | true =>
    simp only [d__law_take, exB, exS, evE, evEs, R.bind_ok, tr_b, ofO_some, at4_0, at4_1, at4_2, at4_3, sub_r g1, List.getElem?_cons_zero, List.getElem?_cons_succ, List.set_cons_zero, List.set_cons_succ, if_true, negA, Bool.not_false, Bool.not_true, Bool.false_eq_true, if_false, c_mixed k _ _ i1, c_mixed k _ 7 seven, mod_i hm.1, div_i hm, s1, in2, gt_i, mkT_v two]
    by_cases hn : n = 0 ∨ n = -1
    · simp only [decide_eq_true hn, d__law_take, exB, exS, evE, evEs, R.bind_ok, tr_b, ofO_some, at4_0, at4_1, at4_2, at4_3, sub_r g1, List.getElem?_cons_zero, List.getElem?_cons_succ, List.set_cons_zero, List.set_cons_succ, if_true, negA, Bool.not_false, Bool.not_true, Bool.false_eq_true, if_false, c_mixed k _ _ i1, c_mixed k _ 7 seven, mod_i hm.1, div_i hm, s1, in2, gt_i, mkT_v two]
      exact fin _ _ (f1 _) (f2 _)
    · simp only [decide_eq_false hn, d__law_take, exB, exS, evE, evEs, R.bind_ok, tr_b, ofO_some, at4_0, at4_1, at4_2, at4_3, sub_r g1, List.getElem?_cons_zero, List.getElem?_cons_succ, List.set_cons_zero, List.set_cons_succ, if_true, negA, Bool.not_false, Bool.not_true, Bool.false_eq_true, if_false, c_mixed k _ _ i1, c_mixed k _ 7 seven, mod_i hm.1, div_i hm, s1, in2, gt_i, mkT_v two]
      by_cases hc : 60 < c + 1
      · simp only [decide_eq_true hc, d__law_take, exB, exS, evE, evEs, R.bind_ok, tr_b, ofO_some, at4_0, at4_1, at4_2, at4_3, sub_r g1, List.getElem?_cons_zero, List.getElem?_cons_succ, List.set_cons_zero, List.set_cons_succ, if_true, negA, Bool.not_false, Bool.not_true, Bool.false_eq_true, if_false, c_mixed k _ _ i1, c_mixed k _ 7 seven, mod_i hm.1, div_i hm, s1, in2, gt_i, mkT_v two]
        exact fin _ _ (f1 _) (f2 _)
      · simp only [decide_eq_false hc, d__law_take, exB, exS, evE, evEs, R.bind_ok, tr_b, ofO_some, at4_0, at4_1, at4_2, at4_3, sub_r g1, List.getElem?_cons_zero, List.getElem?_cons_succ, List.set_cons_zero, List.set_cons_succ, if_true, negA, Bool.not_false, Bool.not_true, Bool.false_eq_true, if_false, c_mixed k _ _ i1, c_mixed k _ 7 seven, mod_i hm.1, div_i hm, s1, in2, gt_i, mkT_v two]
        exact fin _ _ (f1 _) (f2 _)
end K01

namespace K01
open PySem Mn
/-! what is no ref, of any kind; texts are short -/
mutual
def pl : D → Bool
  | .non => true
  | .bl _ => true
  | .int _ => true
  | .str z => PyData.strOk z && decide (z.length ≤ 1000)
  | .tup l => pls l
  | .lst l => pls l
  | _ => false
def pls : List D → Bool
  | [] => true
  | d :: r => pl d && pls r
end
theorem pls_all : ∀ {l : List D}, pls l = true → ∀ d ∈ l, pl d = true
  | [], _, d, h => by cases h
  | e :: r, hl, d, h => by
    simp only [pls, Bool.and_eq_true] at hl
    rcases List.mem_cons.mp h with rfl | h
    · exact hl.1
    · exact pls_all hl.2 d h
theorem pls_of : ∀ {l : List D}, (∀ d ∈ l, pl d = true) → pls l = true
  | [], _ => rfl
  | d :: r, h => by
    simp only [pls, Bool.and_eq_true]
    exact ⟨h d List.mem_cons_self, pls_of fun x hx => h x (List.mem_cons_of_mem _ hx)⟩
mutual
theorem pl_below : ∀ (d : D) (n : Nat), pl d = true → below n d = true
  | .non, n, h => by simp [below]
  | .bl _, n, h => by simp [below]
  | .int _, n, h => by simp [below]
  | .str _, n, h => by simp [below]
  | .tup l, n, h => by
    simp only [pl, below] at h ⊢
    exact pls_below l n h
  | .lst l, n, h => by
    simp only [pl, below] at h ⊢
    exact pls_below l n h
  | .wtp _, n, h => by simp [pl] at h
  | .ref _, n, h => by simp [pl] at h
  | .fn _, n, h => by simp [pl] at h
  | .cls _, n, h => by simp [pl] at h
  | .ty _, n, h => by simp [pl] at h
  | .exn _ _, n, h => by simp [pl] at h
theorem pls_below : ∀ (l : List D) (n : Nat), pls l = true → belows n l = true
  | [], n, h => by simp [belows]
  | d :: r, n, h => by
    simp only [pls, belows, Bool.and_eq_true] at h ⊢
    exact ⟨pl_below d n h.1, pls_below r n h.2⟩
end
def isTup : D → Bool
  | .tup _ => true
  | _ => false
def isInt : D → Bool
  | .int _ => true
  | .bl _ => true
  | _ => false
def isBl : D → Bool
  | .bl _ => true
  | _ => false
def isSt : D → Bool
  | .str _ => true
  | _ => false
theorem isi_tup {v : Bool} {S : Store} {d : D} (h : pl d = true) : bltA v "isinstance" [d, .ty "tuple"] S = .ok (.bl (isTup d)) S := by
  cases d <;> first | rfl | (simp [pl] at h; done)
theorem isi_int {v : Bool} {S : Store} {d : D} (h : pl d = true) : bltA v "isinstance" [d, .ty "int"] S = .ok (.bl (isInt d)) S := by
  cases d <;> first | rfl | (simp [pl] at h; done)
theorem isi_bl {v : Bool} {S : Store} {d : D} (h : pl d = true) : bltA v "isinstance" [d, .ty "bool"] S = .ok (.bl (isBl d)) S := by
  cases d <;> first | rfl | (simp [pl] at h; done)
theorem isi_st {v : Bool} {S : Store} {d : D} (h : pl d = true) : bltA v "isinstance" [d, .ty "str"] S = .ok (.bl (isSt d)) S := by
  cases d <;> first | rfl | (simp [pl] at h; done)
theorem lv_ok {S : Store} {r : R F} {d : D} (h : r = .ok (.rt d) S) (hd : below S.length d = true) : leave .pure S r = .ok d S := by
  rw [h]
  exact leave_same hd
theorem at2_0 {a b : D} : L2.atI [a, b] 0 = some a := nr rfl
theorem at2_1 {a b : D} : L2.atI [a, b] 1 = some b := nr rfl
theorem ne_i {S : Store} {i j : Int} : cmpA .NotEq (.int i) (.int j) S = some (!decide (i = j)) := by
  rw [ne_g (by simp [gd]) (by simp [gd])]
  simp
theorem two_of {l : List D} (hl : (l.length : Int) = 2) : ∃ x y, l = [x, y] := by
  match l, hl with
  | [x, y], _ => exact ⟨x, y, rfl⟩
  | [], h => exact absurd h (by simp)
  | [x], h => exact absurd h (by simp)
  | x :: y :: z :: r, h => exact absurd h (by simp; omega)
/-! ### names, boards -/
def WDS : List Str := ["yes", "no", "not", "and", "or", "before", "since", "was", "given", "wanted", "always", "again", "comes", "answers"]
def abc : Str := "abcdefghijklmnopqrstuvwxyz"
def nmS (z : Str) : Bool := (decide (1 ≤ z.length) && decide (z.length ≤ 6)) && (!decide (z ∈ WDS) && z.cps.toList.all fun c => decide (c ∈ abc.cps.toList))
def nmB : D → Bool
  | .str z => nmS z
  | _ => false
theorem any_in {x : D} {a : PyData} {j k : Nat} (hx : gd x j = true) (ha : pyG x = some a) : ∀ (l : List D) (bs : List PyData), gds l k = true → pyGs l = some bs → (bs.any fun z => PyData.eqv z a) = decide (x ∈ l)
  | [], bs, _, h => by
    simp only [pyGs, Option.some.injEq] at h
    subst h
    rfl
  | d :: r, bs, hg, h => by
    simp only [gds, Bool.and_eq_true] at hg
    simp only [pyGs] at h
    cases e1 : pyG d with
    | none => rw [e1] at h; cases h
    | some p =>
      cases e2 : pyGs r with
      | none => rw [e1, e2] at h; cases h
      | some ps =>
        rw [e1, e2] at h
        cases h
        rw [List.any_cons, any_in hx ha r ps hg.2 e2, Bool.eq_iff_iff]
        have := gd_eqv d x k j hg.1 hx p a e1 ha
        simp only [Bool.or_eq_true, this, decide_eq_true_eq, List.mem_cons]
        exact ⟨fun z => z.elim (fun z => .inl z.symm) .inr, fun z => z.elim (fun z => .inl z.symm) .inr⟩
theorem in_t {S : Store} {x : D} {l : List D} (hx : gd x 63 = true) (hl : gds l 62 = true) : cmpA .In x (.tup l) S = some (decide (x ∈ l)) := by
  obtain ⟨a, h1, h2, h3⟩ := gd_py x 63 hx
  obtain ⟨bs, g1, g2, g3⟩ := gds_py l 62 hl
  have sa : SeqAt.shaped a = true := by simp [SeqAt.shaped, h2]; omega
  have sb : SeqAt.shaped (.list bs) = true := by simp [SeqAt.shaped, PyData.canLay0, PyData.depth, g2]; omega
  show inA S x (.tup l) = _
  unfold inA
  dsimp only
  rw [py_gd hx, h1, Option.bind_some, g1, Option.bind_some, if_pos ⟨sa, sb⟩, any_in hx h1 l bs hl g1]
theorem in_r {S : Store} {n : Nat} {x : D} {l : List D} (h : S[n]? = some (.lst l)) (hx : gd x 63 = true) (hl : gds l 62 = true) : cmpA .In x (.ref n) S = some (decide (x ∈ l)) := by
  obtain ⟨a, h1, h2, h3⟩ := gd_py x 63 hx
  obtain ⟨bs, g1, g2, g3⟩ := gds_py l 62 hl
  have sa : SeqAt.shaped a = true := by simp [SeqAt.shaped, h2]; omega
  have sb : SeqAt.shaped (.list bs) = true := by simp [SeqAt.shaped, PyData.canLay0, PyData.depth, g2]; omega
  show inA S x (.ref n) = _
  unfold inA
  dsimp only
  have e : py S (.ref n) = some (.list bs) := by
    show (match S[n]? with | some (.lst l) => (pyGs l).map PyData.list | _ => none) = _
    rw [h]
    simp [g1]
  rw [py_gd hx, h1, Option.bind_some, e, Option.bind_some]
  dsimp only
  rw [if_pos ⟨sa, sb⟩, any_in hx h1 l bs hl g1]
theorem mem_strs {x : Str} {l : List Str} : (D.str x ∈ l.map D.str) = (x ∈ l) := by
  simp [List.mem_map]
theorem gds_strs {l : List Str} {k : Nat} (h : ∀ y ∈ l, PyData.strOk y = true) : gds (l.map D.str) k = true := gds_of fun d hd => by
  obtain ⟨y, hy, rfl⟩ := List.mem_map.mp hd
  simp only [gd]
  exact h y hy
theorem in_strs {S : Store} {x : Str} {l : List Str} (hx : PyData.strOk x = true) (hl : ∀ y ∈ l, PyData.strOk y = true) : cmpA .In (.str x) (.tup (l.map .str)) S = some (decide (x ∈ l)) := by
  rw [in_t (by simp only [gd]; exact hx) (gds_strs hl)]
  congr 1
  rw [decide_eq_decide, mem_strs]
theorem in_strr {S : Store} {n : Nat} {x : Str} {l : List Str} (h : S[n]? = some (.lst (l.map .str))) (hx : PyData.strOk x = true) (hl : ∀ y ∈ l, PyData.strOk y = true) : cmpA .In (.str x) (.ref n) S = some (decide (x ∈ l)) := by
  rw [in_r h (by simp only [gd]; exact hx) (gds_strs hl)]
  congr 1
  rw [decide_eq_decide, mem_strs]
theorem wds_ok : ∀ y ∈ WDS, PyData.strOk y = true := by decide +kernel
theorem g_words : Gs "WORDS" = some (.tup (WDS.map .str)) := nr rfl
theorem g_small : Gs "SMALL_LETTERS" = some (.str abc) := nr rfl
theorem g_most : Gs "MOST_LETTERS" = some (.int 6) := nr rfl
theorem notIn_strs {S : Store} {x : Str} {l : List Str} (hx : PyData.strOk x = true) (hl : ∀ y ∈ l, PyData.strOk y = true) : cmpA .NotIn (.str x) (.tup (l.map .str)) S = some (!decide (x ∈ l)) := by
  have := in_strs (S := S) hx hl
  show (inA S _ _).map (!·) = _
  rw [show inA S (.str x) (.tup (l.map .str)) = _ from this]
  rfl
theorem in_sign {S : Store} {c : Nat} {z : Str} : cmpA .In (.str ⟨#[c]⟩) (.str z) S = some (decide (c ∈ z.cps.toList)) := by
  show some (!(Builtin.Str.occurrences z ⟨#[c]⟩ 0 z.length 1).isEmpty) = _
  rw [StrLaws.found_one]
theorem len_s {v : Bool} {S : Store} {z : Str} (h : z.length ≤ sizeLine) : bltA v "len" [.str z] S = .ok (.int z.length) S := by
  show (if z.length ≤ sizeLine then R.ok (D.int z.length) S else .bad) = _
  rw [if_pos h]
theorem itm_s {S : Store} {z : Str} : itemsOf S (.str z) = some (z.cps.toList.map fun c => .str ⟨#[c]⟩) := nr rfl
theorem gdOf_s {S : Store} {z : Str} : gdOf S (.str z) = [] := nr rfl
theorem dec_nat {a b : Nat} : decide ((a : Int) ≤ (b : Int)) = decide (a ≤ b) := by
  rw [decide_eq_decide]; omega
theorem c_name (k : Nat) (S : Store) (d : D) (h : pl d = true) : CC (k + 1) "is_name" [d] S = .ok (.bl (nmB d)) S := by
  show leave .pure S (exB Gs 1000000 (CC k) d_is_name.body [some d, none] S) = _
  refine lv_ok ?_ (by simp [below])
  simp only [d_is_name, v_dict1, v_tzip, v_inv, x_keptX, v_lens, v_dict0, v_rvs, v_comp2, v_maxd, v_dict, v_dget, x_dput, x_par, par_k, i_rngD, i_zip, v_agen, v_glob, v_chain, v_isx, x_raise, x_kept, x_nil, x_cons, x_set, x_unp, x_sets, x_expr, x_ret, x_pass, x_brk, x_cont, x_ite, x_for, x_whl, v_bl, v_int, v_str, v_ty, v_non, v_var, v_tup, v_lst, v_bin, v_neg, v_not, v_cmp, v_and, v_or, v_ife, v_call, v_blt, v_mth, v_sub, v_slc, v_comp, o_none, o_some, s_nil, s_cons, i_seq, i_rng1, i_rng2, i_enum, nx_nx, nx_rt, nx_bk, nx_ct, ite_t, ite_f, and_t, and_f, or_t, or_f, R.bind_ok, R.bind_assoc, ofO_some, tr_b, optI_i, itm_t, itm_l, seqL_l, gdOf_tup, gdOf_lst, neg_i, aug_i, add_i, sub_i, slc_t, slc_l, add_l, len_t, len_l, list_t, list_l, tuple_l, max_i, ls_i, le_i, gt_i, ge_i, sub_t, sub_l, List.getElem?_cons_zero, List.getElem?_cons_succ, List.set_cons_zero, List.set_cons_succ, Bool.not_true, Bool.not_false, isi_st h]
  cases d with
  | str z =>
    simp only [pl, Bool.and_eq_true, decide_eq_true_eq] at h
    have e1 : decide ((1 : Int) ≤ (z.length : Int)) = decide (1 ≤ z.length) := by rw [decide_eq_decide]; omega
    have e2 : decide ((z.length : Int) ≤ 6) = decide (z.length ≤ 6) := by rw [decide_eq_decide]; omega
    simp only [isSt, v_dict1, v_tzip, v_inv, x_keptX, v_lens, v_dict0, v_rvs, v_comp2, v_maxd, v_dict, v_dget, x_dput, x_par, par_k, i_rngD, i_zip, v_agen, v_glob, v_chain, v_isx, x_raise, x_kept, x_nil, x_cons, x_set, x_unp, x_sets, x_expr, x_ret, x_pass, x_brk, x_cont, x_ite, x_for, x_whl, v_bl, v_int, v_str, v_ty, v_non, v_var, v_tup, v_lst, v_bin, v_neg, v_not, v_cmp, v_and, v_or, v_ife, v_call, v_blt, v_mth, v_sub, v_slc, v_comp, o_none, o_some, s_nil, s_cons, i_seq, i_rng1, i_rng2, i_enum, nx_nx, nx_rt, nx_bk, nx_ct, ite_t, ite_f, and_t, and_f, or_t, or_f, R.bind_ok, R.bind_assoc, ofO_some, tr_b, optI_i, itm_t, itm_l, seqL_l, gdOf_tup, gdOf_lst, neg_i, aug_i, add_i, sub_i, slc_t, slc_l, add_l, len_t, len_l, list_t, list_l, tuple_l, max_i, ls_i, le_i, gt_i, ge_i, sub_t, sub_l, List.getElem?_cons_zero, List.getElem?_cons_succ, List.set_cons_zero, List.set_cons_succ, Bool.not_true, Bool.not_false, len_s (sz (by omega) : z.length ≤ sizeLine), e1, g_most, e2, nmB, nmS]
    cases h1 : decide (1 ≤ z.length) with
    | false => simp only [v_dict1, v_tzip, v_inv, x_keptX, v_lens, v_dict0, v_rvs, v_comp2, v_maxd, v_dict, v_dget, x_dput, x_par, par_k, i_rngD, i_zip, v_agen, v_glob, v_chain, v_isx, x_raise, x_kept, x_nil, x_cons, x_set, x_unp, x_sets, x_expr, x_ret, x_pass, x_brk, x_cont, x_ite, x_for, x_whl, v_bl, v_int, v_str, v_ty, v_non, v_var, v_tup, v_lst, v_bin, v_neg, v_not, v_cmp, v_and, v_or, v_ife, v_call, v_blt, v_mth, v_sub, v_slc, v_comp, o_none, o_some, s_nil, s_cons, i_seq, i_rng1, i_rng2, i_enum, nx_nx, nx_rt, nx_bk, nx_ct, ite_t, ite_f, and_t, and_f, or_t, or_f, R.bind_ok, R.bind_assoc, ofO_some, tr_b, optI_i, itm_t, itm_l, seqL_l, gdOf_tup, gdOf_lst, neg_i, aug_i, add_i, sub_i, slc_t, slc_l, add_l, len_t, len_l, list_t, list_l, tuple_l, max_i, ls_i, le_i, gt_i, ge_i, sub_t, sub_l, List.getElem?_cons_zero, List.getElem?_cons_succ, List.set_cons_zero, List.set_cons_succ, Bool.not_true, Bool.not_false, Bool.false_eq_true, if_false, Bool.false_and]
    | true =>
      simp only [v_dict1, v_tzip, v_inv, x_keptX, v_lens, v_dict0, v_rvs, v_comp2, v_maxd, v_dict, v_dget, x_dput, x_par, par_k, i_rngD, i_zip, v_agen, v_glob, v_chain, v_isx, x_raise, x_kept, x_nil, x_cons, x_set, x_unp, x_sets, x_expr, x_ret, x_pass, x_brk, x_cont, x_ite, x_for, x_whl, v_bl, v_int, v_str, v_ty, v_non, v_var, v_tup, v_lst, v_bin, v_neg, v_not, v_cmp, v_and, v_or, v_ife, v_call, v_blt, v_mth, v_sub, v_slc, v_comp, o_none, o_some, s_nil, s_cons, i_seq, i_rng1, i_rng2, i_enum, nx_nx, nx_rt, nx_bk, nx_ct, ite_t, ite_f, and_t, and_f, or_t, or_f, R.bind_ok, R.bind_assoc, ofO_some, tr_b, optI_i, itm_t, itm_l, seqL_l, gdOf_tup, gdOf_lst, neg_i, aug_i, add_i, sub_i, slc_t, slc_l, add_l, len_t, len_l, list_t, list_l, tuple_l, max_i, ls_i, le_i, gt_i, ge_i, sub_t, sub_l, List.getElem?_cons_zero, List.getElem?_cons_succ, List.set_cons_zero, List.set_cons_succ, Bool.not_true, Bool.not_false, if_true, g_most, e2]
      cases h2 : decide (z.length ≤ 6) with
      | false => simp only [v_dict1, v_tzip, v_inv, x_keptX, v_lens, v_dict0, v_rvs, v_comp2, v_maxd, v_dict, v_dget, x_dput, x_par, par_k, i_rngD, i_zip, v_agen, v_glob, v_chain, v_isx, x_raise, x_kept, x_nil, x_cons, x_set, x_unp, x_sets, x_expr, x_ret, x_pass, x_brk, x_cont, x_ite, x_for, x_whl, v_bl, v_int, v_str, v_ty, v_non, v_var, v_tup, v_lst, v_bin, v_neg, v_not, v_cmp, v_and, v_or, v_ife, v_call, v_blt, v_mth, v_sub, v_slc, v_comp, o_none, o_some, s_nil, s_cons, i_seq, i_rng1, i_rng2, i_enum, nx_nx, nx_rt, nx_bk, nx_ct, ite_t, ite_f, and_t, and_f, or_t, or_f, R.bind_ok, R.bind_assoc, ofO_some, tr_b, optI_i, itm_t, itm_l, seqL_l, gdOf_tup, gdOf_lst, neg_i, aug_i, add_i, sub_i, slc_t, slc_l, add_l, len_t, len_l, list_t, list_l, tuple_l, max_i, ls_i, le_i, gt_i, ge_i, sub_t, sub_l, List.getElem?_cons_zero, List.getElem?_cons_succ, List.set_cons_zero, List.set_cons_succ, Bool.not_true, Bool.not_false, Bool.false_eq_true, if_false, Bool.false_and, Bool.true_and]
      | true =>
        simp only [v_dict1, v_tzip, v_inv, x_keptX, v_lens, v_dict0, v_rvs, v_comp2, v_maxd, v_dict, v_dget, x_dput, x_par, par_k, i_rngD, i_zip, v_agen, v_glob, v_chain, v_isx, x_raise, x_kept, x_nil, x_cons, x_set, x_unp, x_sets, x_expr, x_ret, x_pass, x_brk, x_cont, x_ite, x_for, x_whl, v_bl, v_int, v_str, v_ty, v_non, v_var, v_tup, v_lst, v_bin, v_neg, v_not, v_cmp, v_and, v_or, v_ife, v_call, v_blt, v_mth, v_sub, v_slc, v_comp, o_none, o_some, s_nil, s_cons, i_seq, i_rng1, i_rng2, i_enum, nx_nx, nx_rt, nx_bk, nx_ct, ite_t, ite_f, and_t, and_f, or_t, or_f, R.bind_ok, R.bind_assoc, ofO_some, tr_b, optI_i, itm_t, itm_l, seqL_l, gdOf_tup, gdOf_lst, neg_i, aug_i, add_i, sub_i, slc_t, slc_l, add_l, len_t, len_l, list_t, list_l, tuple_l, max_i, ls_i, le_i, gt_i, ge_i, sub_t, sub_l, List.getElem?_cons_zero, List.getElem?_cons_succ, List.set_cons_zero, List.set_cons_succ, Bool.not_true, Bool.not_false, Bool.true_and, g_words, notIn_strs h.1 wds_ok]
        cases h3 : decide (z ∈ WDS) with
        | true => simp only [v_dict1, v_tzip, v_inv, x_keptX, v_lens, v_dict0, v_rvs, v_comp2, v_maxd, v_dict, v_dget, x_dput, x_par, par_k, i_rngD, i_zip, v_agen, v_glob, v_chain, v_isx, x_raise, x_kept, x_nil, x_cons, x_set, x_unp, x_sets, x_expr, x_ret, x_pass, x_brk, x_cont, x_ite, x_for, x_whl, v_bl, v_int, v_str, v_ty, v_non, v_var, v_tup, v_lst, v_bin, v_neg, v_not, v_cmp, v_and, v_or, v_ife, v_call, v_blt, v_mth, v_sub, v_slc, v_comp, o_none, o_some, s_nil, s_cons, i_seq, i_rng1, i_rng2, i_enum, nx_nx, nx_rt, nx_bk, nx_ct, ite_t, ite_f, and_t, and_f, or_t, or_f, R.bind_ok, R.bind_assoc, ofO_some, tr_b, optI_i, itm_t, itm_l, seqL_l, gdOf_tup, gdOf_lst, neg_i, aug_i, add_i, sub_i, slc_t, slc_l, add_l, len_t, len_l, list_t, list_l, tuple_l, max_i, ls_i, le_i, gt_i, ge_i, sub_t, sub_l, List.getElem?_cons_zero, List.getElem?_cons_succ, List.set_cons_zero, List.set_cons_succ, Bool.not_true, Bool.not_false, Bool.not_true, Bool.false_and]
        | false =>
          have g : agB Gs (CC k) [] true (.nm 1) (.cmp .In (.var 1) (.glob "SMALL_LETTERS")) (wipe [some (.str z), none] [1]) (z.cps.toList.map fun c => D.str ⟨#[c]⟩) S = .ok (z.cps.toList.all fun c => decide (c ∈ abc.cps.toList)) S := by
            unfold agB
            have := gen_sat (q := true) (tg := .nm 1) (t := fun e S => evE Gs (CC k) (.cmp .In (.var 1) (.glob "SMALL_LETTERS")) e S) (e0 := wipe [some (.str z), none] [1]) (S := S) (fun d => match d with | .str y => y.cps.toList.all fun c => decide (c ∈ abc.cps.toList) | _ => false) (l := z.cps.toList.map fun c => D.str ⟨#[c]⟩) fun x hx => by
              obtain ⟨c, _, rfl⟩ := List.mem_map.mp hx
              refine ⟨_, rfl, ?_⟩
              simp only [wipe, v_dict1, v_tzip, v_inv, x_keptX, v_lens, v_dict0, v_rvs, v_comp2, v_maxd, v_dict, v_dget, x_dput, x_par, par_k, i_rngD, i_zip, v_agen, v_glob, v_chain, v_isx, x_raise, x_kept, x_nil, x_cons, x_set, x_unp, x_sets, x_expr, x_ret, x_pass, x_brk, x_cont, x_ite, x_for, x_whl, v_bl, v_int, v_str, v_ty, v_non, v_var, v_tup, v_lst, v_bin, v_neg, v_not, v_cmp, v_and, v_or, v_ife, v_call, v_blt, v_mth, v_sub, v_slc, v_comp, o_none, o_some, s_nil, s_cons, i_seq, i_rng1, i_rng2, i_enum, nx_nx, nx_rt, nx_bk, nx_ct, ite_t, ite_f, and_t, and_f, or_t, or_f, R.bind_ok, R.bind_assoc, ofO_some, tr_b, optI_i, itm_t, itm_l, seqL_l, gdOf_tup, gdOf_lst, neg_i, aug_i, add_i, sub_i, slc_t, slc_l, add_l, len_t, len_l, list_t, list_l, tuple_l, max_i, ls_i, le_i, gt_i, ge_i, sub_t, sub_l, List.getElem?_cons_zero, List.getElem?_cons_succ, List.set_cons_zero, List.set_cons_succ, Bool.not_true, Bool.not_false, g_small, in_sign]
              simp
            rw [this, if_pos rfl, List.all_map]
            simp only [Function.comp_def, List.all_cons, List.all_nil, Bool.and_true]
          simp only [v_dict1, v_tzip, v_inv, x_keptX, v_lens, v_dict0, v_rvs, v_comp2, v_maxd, v_dict, v_dget, x_dput, x_par, par_k, i_rngD, i_zip, v_agen, v_glob, v_chain, v_isx, x_raise, x_kept, x_nil, x_cons, x_set, x_unp, x_sets, x_expr, x_ret, x_pass, x_brk, x_cont, x_ite, x_for, x_whl, v_bl, v_int, v_str, v_ty, v_non, v_var, v_tup, v_lst, v_bin, v_neg, v_not, v_cmp, v_and, v_or, v_ife, v_call, v_blt, v_mth, v_sub, v_slc, v_comp, o_none, o_some, s_nil, s_cons, i_seq, i_rng1, i_rng2, i_enum, nx_nx, nx_rt, nx_bk, nx_ct, ite_t, ite_f, and_t, and_f, or_t, or_f, R.bind_ok, R.bind_assoc, ofO_some, tr_b, optI_i, itm_t, itm_l, seqL_l, gdOf_tup, gdOf_lst, neg_i, aug_i, add_i, sub_i, slc_t, slc_l, add_l, len_t, len_l, list_t, list_l, tuple_l, max_i, ls_i, le_i, gt_i, ge_i, sub_t, sub_l, List.getElem?_cons_zero, List.getElem?_cons_succ, List.set_cons_zero, List.set_cons_succ, Bool.not_true, Bool.not_false, Bool.not_false, Bool.true_and, itm_s, gdOf_s, g]
  | _ => first | (simp [pl] at h; done) | (simp only [isSt, nmB, v_dict1, v_tzip, v_inv, x_keptX, v_lens, v_dict0, v_rvs, v_comp2, v_maxd, v_dict, v_dget, x_dput, x_par, par_k, i_rngD, i_zip, v_agen, v_glob, v_chain, v_isx, x_raise, x_kept, x_nil, x_cons, x_set, x_unp, x_sets, x_expr, x_ret, x_pass, x_brk, x_cont, x_ite, x_for, x_whl, v_bl, v_int, v_str, v_ty, v_non, v_var, v_tup, v_lst, v_bin, v_neg, v_not, v_cmp, v_and, v_or, v_ife, v_call, v_blt, v_mth, v_sub, v_slc, v_comp, o_none, o_some, s_nil, s_cons, i_seq, i_rng1, i_rng2, i_enum, nx_nx, nx_rt, nx_bk, nx_ct, ite_t, ite_f, and_t, and_f, or_t, or_f, R.bind_ok, R.bind_assoc, ofO_some, tr_b, optI_i, itm_t, itm_l, seqL_l, gdOf_tup, gdOf_lst, neg_i, aug_i, add_i, sub_i, slc_t, slc_l, add_l, len_t, len_l, list_t, list_l, tuple_l, max_i, ls_i, le_i, gt_i, ge_i, sub_t, sub_l, List.getElem?_cons_zero, List.getElem?_cons_succ, List.set_cons_zero, List.set_cons_succ, Bool.not_true, Bool.not_false]; done)
end K01

namespace K01
open PySem Mn
theorem strs_of : ∀ {ys : List Str}, strsOf (ys.map D.str) = some ys
  | [] => rfl
  | y :: r => by
    rw [List.map_cons]
    unfold strsOf
    rw [strs_of]
    rfl
theorem dcn_le : ∀ (n : Nat) (l : List Str), l.length ≤ n → dcn l ≤ l.length
  | 0, [], _ => Nat.le_refl _
  | 0, _ :: _, h => by simp at h
  | n + 1, [], _ => Nat.le_refl _
  | n + 1, x :: r, h => by
    unfold dcn
    rw [List.eraseDups_cons]
    have h1 := List.length_filter_le (fun b => !b == x) r
    have := dcn_le n (r.filter fun b => !b == x) (by simp at h; omega)
    unfold dcn at this
    simp only [List.length_cons]
    omega
theorem dcn_nd : ∀ (n : Nat) (l : List Str), l.length ≤ n → (dcn l = l.length ↔ l.Nodup)
  | 0, [], _ => ⟨fun _ => List.nodup_nil, fun _ => rfl⟩
  | 0, _ :: _, h => by simp at h
  | n + 1, [], _ => ⟨fun _ => List.nodup_nil, fun _ => rfl⟩
  | n + 1, x :: r, h => by
    have hr : r.length ≤ n := by simpa using h
    have e : dcn (x :: r) = dcn (r.filter fun b => !b == x) + 1 := by
      unfold dcn
      rw [List.eraseDups_cons, List.length_cons]
    have h1 : (r.filter fun b => !b == x).length ≤ r.length := List.length_filter_le _ _
    have h2 := dcn_le n (r.filter fun b => !b == x) (by omega)
    rw [e, List.length_cons, List.nodup_cons]
    by_cases hx : x ∈ r
    · have h3 : (r.filter fun b => !b == x).length < r.length := by
        rw [List.length_filter_lt_length_iff_exists]
        exact ⟨x, hx, by simp⟩
      exact ⟨fun z => by omega, fun z => absurd hx z.1⟩
    · have h3 : (r.filter fun b => !b == x) = r := List.filter_eq_self.mpr fun b hb => by
        simp only [Bool.not_eq_true', beq_eq_false_iff_ne, ne_eq]
        exact fun z => hx (z ▸ hb)
      rw [h3]
      have := dcn_nd n r hr
      exact ⟨fun z => ⟨hx, this.mp (by omega)⟩, fun z => by rw [this.mpr z.2]⟩
theorem c_unlike (k : Nat) (S : Store) (l : List Str) (h : l.length ≤ 100) : CC (k + 1) "all_unlike" [.lst (l.map .str)] S = .ok (.bl (decide l.Nodup)) S := by
  show leave .pure S (exB Gs 1000000 (CC k) d_all_unlike.body [some (.lst (l.map .str))] S) = _
  refine lv_ok ?_ (by simp [below])
  have z : lensA S (.lst (l.map .str)) = some (.int (dcn l : Nat)) := by
    show ((seqA S (.lst (l.map .str))).bind fun l => (strsOf l).bind fun ys => if ys.length ≤ 4000 then some (D.int (dcn ys : Nat)) else none) = _
    rw [show seqA S (.lst (l.map D.str)) = some (l.map .str) from rfl, Option.bind_some, strs_of, Option.bind_some, if_pos (by omega)]
  have e : decide ((dcn l : Int) = ((l.map D.str).length : Int)) = decide l.Nodup := by
    rw [decide_eq_decide, ← dcn_nd _ l (Nat.le_refl _), List.length_map]
    omega
  simp only [d_all_unlike, v_dict1, v_tzip, v_inv, x_keptX, v_lens, v_dict0, v_rvs, v_comp2, v_maxd, v_dict, v_dget, x_dput, x_par, par_k, i_rngD, i_zip, v_agen, v_glob, v_chain, v_isx, x_raise, x_kept, x_nil, x_cons, x_set, x_unp, x_sets, x_expr, x_ret, x_pass, x_brk, x_cont, x_ite, x_for, x_whl, v_bl, v_int, v_str, v_ty, v_non, v_var, v_tup, v_lst, v_bin, v_neg, v_not, v_cmp, v_and, v_or, v_ife, v_call, v_blt, v_mth, v_sub, v_slc, v_comp, o_none, o_some, s_nil, s_cons, i_seq, i_rng1, i_rng2, i_enum, nx_nx, nx_rt, nx_bk, nx_ct, ite_t, ite_f, and_t, and_f, or_t, or_f, R.bind_ok, R.bind_assoc, ofO_some, tr_b, optI_i, itm_t, itm_l, seqL_l, gdOf_tup, gdOf_lst, neg_i, aug_i, add_i, sub_i, slc_t, slc_l, add_l, len_t, len_l, list_t, list_l, tuple_l, max_i, ls_i, le_i, gt_i, ge_i, sub_t, sub_l, List.getElem?_cons_zero, List.getElem?_cons_succ, List.set_cons_zero, List.set_cons_succ, Bool.not_true, Bool.not_false, v_lens, z, eq_i, e]
theorem nmB_strs : ∀ {l : List D}, l.all nmB = true → ∃ ys : List Str, l = ys.map .str ∧ ∀ y ∈ ys, nmS y = true
  | [], _ => ⟨[], rfl, fun y h => absurd h (by simp)⟩
  | d :: r, h => by
    rw [List.all_cons, Bool.and_eq_true] at h
    obtain ⟨ys, rfl, h2⟩ := nmB_strs h.2
    cases d with
    | str z => exact ⟨z :: ys, rfl, fun y hy => by
        rcases List.mem_cons.mp hy with rfl | hy
        · exact h.1
        · exact h2 y hy⟩
    | _ => exact absurd h.1 (by simp [nmB])
theorem nodup_strs {l : List Str} : (l.map D.str).Nodup ↔ l.Nodup := by
  unfold List.Nodup
  rw [List.pairwise_map]
  constructor
  · exact fun h => h.imp fun q z => q (by rw [z])
  · exact fun h => h.imp fun q z => q (by cases z; rfl)
/-! refusals -/
theorem below_exn {n : Nat} {x : String} : below n (.exn x []) = true := by simp [below, belows]
theorem leave_exc {S : Store} {x : String} : leave .pure S (.exc (.exn x []) S) = .exc (.exn x []) S := by
  show (if oldOk S S ∧ below S.length (.exn x []) = true then R.exc (D.exn x []) (S.take S.length) else .bad) = _
  rw [if_pos ⟨oldOk_refl S, below_exn⟩, List.take_length]
theorem leave_nx {S : Store} {e : Mn.Env} : leave .pure S (.ok (.nx e) S) = .ok .non S := by
  show fin .pure S .non S = _
  unfold fin
  rw [if_pos (oldOk_refl S), outD_below (by simp [below])]
  show R.ok D.non (S.take S.length) = _
  rw [List.take_length]
theorem exc_bind {α β : Type} {x : D} {S : Store} {f : α → Store → R β} : (R.exc x S : R α).bind f = .exc x S := nr rfl
theorem sz1 {d : D} : ([d] : List D).length ≤ sizeLine := sz (by simp)
theorem comp_map {α : Type} (w : α → D) (p : α → Bool) (y : α → D) {g : Gd} {tg : Tg} {c : Mn.Env → Store → R Bool} {t : Mn.Env → Store → R D} {e0 : Mn.Env} {S : Store} (hg : gdOk S g) : ∀ (l : List α) (acc : List D), acc.length + l.length < sizeLine →
    (∀ d ∈ l, ∃ e1, asg tg (w d) e0 = some e1 ∧ c e1 S = .ok (p d) S ∧ (p d = true → t e1 S = .ok (y d) S)) → compA g tg c t e0 (l.map w) acc S = .ok (acc ++ (l.filter p).map y) S
  | [], acc, _, _ => by
    rw [List.map_nil]
    unfold compA
    rw [if_pos hg]
    simp
  | d :: r, acc, hl, h => by
    obtain ⟨e1, h1, h2, h3⟩ := h d List.mem_cons_self
    have ih := fun acc' h' => comp_map w p y (g := g) (tg := tg) (c := c) (t := t) (e0 := e0) hg r acc' h' fun x hx => h x (List.mem_cons_of_mem _ hx)
    simp only [List.length_cons] at hl
    rw [List.map_cons]
    unfold compA
    rw [if_pos hg, h1]
    dsimp only
    rw [h2, nox_ok, R.bind_ok]
    cases hp : p d with
    | true =>
      rw [if_pos rfl, h3 hp, nox_ok, R.bind_ok, if_pos (by omega), ih _ (by rw [List.length_append]; simp; omega)]
      simp [hp]
    | false =>
      rw [if_neg (by simp), ih _ (by omega)]
      simp [hp]

theorem c_nname (k : Nat) (S : Store) (d : D) (h : pl d = true) : CC (k + 2) "need_name" [d] S = if nmB d = true then .ok .non S else .exc (.exn "BadName" []) S := by
  show leave .pure S (exB Gs 1000000 (CC (k + 1)) d_need_name.body [some d] S) = _
  simp only [d_need_name, v_dict1, v_tzip, v_inv, x_keptX, v_lens, v_dict0, v_rvs, v_comp2, v_maxd, v_dict, v_dget, x_dput, x_par, par_k, i_rngD, i_zip, v_agen, v_glob, v_chain, v_isx, x_raise, x_kept, x_nil, x_cons, x_set, x_unp, x_sets, x_expr, x_ret, x_pass, x_brk, x_cont, x_ite, x_for, x_whl, v_bl, v_int, v_str, v_ty, v_non, v_var, v_tup, v_lst, v_bin, v_neg, v_not, v_cmp, v_and, v_or, v_ife, v_call, v_blt, v_mth, v_sub, v_slc, v_comp, o_none, o_some, s_nil, s_cons, i_seq, i_rng1, i_rng2, i_enum, nx_nx, nx_rt, nx_bk, nx_ct, ite_t, ite_f, and_t, and_f, or_t, or_f, R.bind_ok, R.bind_assoc, ofO_some, tr_b, optI_i, itm_t, itm_l, seqL_l, gdOf_tup, gdOf_lst, neg_i, aug_i, add_i, sub_i, slc_t, slc_l, add_l, len_t, len_l, list_t, list_l, tuple_l, max_i, ls_i, le_i, gt_i, ge_i, sub_t, sub_l, List.getElem?_cons_zero, List.getElem?_cons_succ, List.set_cons_zero, List.set_cons_succ, Bool.not_true, Bool.not_false, c_name k S d h]
  cases hc : nmB d with
  | true =>
    simp only [v_dict1, v_tzip, v_inv, x_keptX, v_lens, v_dict0, v_rvs, v_comp2, v_maxd, v_dict, v_dget, x_dput, x_par, par_k, i_rngD, i_zip, v_agen, v_glob, v_chain, v_isx, x_raise, x_kept, x_nil, x_cons, x_set, x_unp, x_sets, x_expr, x_ret, x_pass, x_brk, x_cont, x_ite, x_for, x_whl, v_bl, v_int, v_str, v_ty, v_non, v_var, v_tup, v_lst, v_bin, v_neg, v_not, v_cmp, v_and, v_or, v_ife, v_call, v_blt, v_mth, v_sub, v_slc, v_comp, o_none, o_some, s_nil, s_cons, i_seq, i_rng1, i_rng2, i_enum, nx_nx, nx_rt, nx_bk, nx_ct, ite_t, ite_f, and_t, and_f, or_t, or_f, R.bind_ok, R.bind_assoc, ofO_some, tr_b, optI_i, itm_t, itm_l, seqL_l, gdOf_tup, gdOf_lst, neg_i, aug_i, add_i, sub_i, slc_t, slc_l, add_l, len_t, len_l, list_t, list_l, tuple_l, max_i, ls_i, le_i, gt_i, ge_i, sub_t, sub_l, List.getElem?_cons_zero, List.getElem?_cons_succ, List.set_cons_zero, List.set_cons_succ, Bool.not_true, Bool.not_false, if_true]
    exact leave_nx
  | false =>
    simp only [v_dict1, v_tzip, v_inv, x_keptX, v_lens, v_dict0, v_rvs, v_comp2, v_maxd, v_dict, v_dget, x_dput, x_par, par_k, i_rngD, i_zip, v_agen, v_glob, v_chain, v_isx, x_raise, x_kept, x_nil, x_cons, x_set, x_unp, x_sets, x_expr, x_ret, x_pass, x_brk, x_cont, x_ite, x_for, x_whl, v_bl, v_int, v_str, v_ty, v_non, v_var, v_tup, v_lst, v_bin, v_neg, v_not, v_cmp, v_and, v_or, v_ife, v_call, v_blt, v_mth, v_sub, v_slc, v_comp, o_none, o_some, s_nil, s_cons, i_seq, i_rng1, i_rng2, i_enum, nx_nx, nx_rt, nx_bk, nx_ct, ite_t, ite_f, and_t, and_f, or_t, or_f, R.bind_ok, R.bind_assoc, ofO_some, tr_b, optI_i, itm_t, itm_l, seqL_l, gdOf_tup, gdOf_lst, neg_i, aug_i, add_i, sub_i, slc_t, slc_l, add_l, len_t, len_l, list_t, list_l, tuple_l, max_i, ls_i, le_i, gt_i, ge_i, sub_t, sub_l, List.getElem?_cons_zero, List.getElem?_cons_succ, List.set_cons_zero, List.set_cons_succ, Bool.not_true, Bool.not_false, Bool.false_eq_true, if_false, if_pos sz1, exc_bind]
    exact leave_exc
def prB : D → Bool
  | .tup [x, y] => nmB x && nmB y
  | _ => false
theorem c_pair (k : Nat) (S : Store) (d : D) (h : pl d = true) : CC (k + 2) "is_pair" [d] S = .ok (.bl (prB d)) S := by
  show leave .pure S (exB Gs 1000000 (CC (k + 1)) d_is_pair.body [some d] S) = _
  refine lv_ok ?_ (by simp [below])
  simp only [d_is_pair, v_dict1, v_tzip, v_inv, x_keptX, v_lens, v_dict0, v_rvs, v_comp2, v_maxd, v_dict, v_dget, x_dput, x_par, par_k, i_rngD, i_zip, v_agen, v_glob, v_chain, v_isx, x_raise, x_kept, x_nil, x_cons, x_set, x_unp, x_sets, x_expr, x_ret, x_pass, x_brk, x_cont, x_ite, x_for, x_whl, v_bl, v_int, v_str, v_ty, v_non, v_var, v_tup, v_lst, v_bin, v_neg, v_not, v_cmp, v_and, v_or, v_ife, v_call, v_blt, v_mth, v_sub, v_slc, v_comp, o_none, o_some, s_nil, s_cons, i_seq, i_rng1, i_rng2, i_enum, nx_nx, nx_rt, nx_bk, nx_ct, ite_t, ite_f, and_t, and_f, or_t, or_f, R.bind_ok, R.bind_assoc, ofO_some, tr_b, optI_i, itm_t, itm_l, seqL_l, gdOf_tup, gdOf_lst, neg_i, aug_i, add_i, sub_i, slc_t, slc_l, add_l, len_t, len_l, list_t, list_l, tuple_l, max_i, ls_i, le_i, gt_i, ge_i, sub_t, sub_l, List.getElem?_cons_zero, List.getElem?_cons_succ, List.set_cons_zero, List.set_cons_succ, Bool.not_true, Bool.not_false, isi_tup h]
  cases d with
  | tup l =>
    simp only [isTup, v_dict1, v_tzip, v_inv, x_keptX, v_lens, v_dict0, v_rvs, v_comp2, v_maxd, v_dict, v_dget, x_dput, x_par, par_k, i_rngD, i_zip, v_agen, v_glob, v_chain, v_isx, x_raise, x_kept, x_nil, x_cons, x_set, x_unp, x_sets, x_expr, x_ret, x_pass, x_brk, x_cont, x_ite, x_for, x_whl, v_bl, v_int, v_str, v_ty, v_non, v_var, v_tup, v_lst, v_bin, v_neg, v_not, v_cmp, v_and, v_or, v_ife, v_call, v_blt, v_mth, v_sub, v_slc, v_comp, o_none, o_some, s_nil, s_cons, i_seq, i_rng1, i_rng2, i_enum, nx_nx, nx_rt, nx_bk, nx_ct, ite_t, ite_f, and_t, and_f, or_t, or_f, R.bind_ok, R.bind_assoc, ofO_some, tr_b, optI_i, itm_t, itm_l, seqL_l, gdOf_tup, gdOf_lst, neg_i, aug_i, add_i, sub_i, slc_t, slc_l, add_l, len_t, len_l, list_t, list_l, tuple_l, max_i, ls_i, le_i, gt_i, ge_i, sub_t, sub_l, List.getElem?_cons_zero, List.getElem?_cons_succ, List.set_cons_zero, List.set_cons_succ, Bool.not_true, Bool.not_false, eq_i]
    by_cases hl : (l.length : Int) = 2
    · obtain ⟨x, y, rfl⟩ := two_of hl
      have hx : pl x = true := pls_all h x (by simp)
      have hy : pl y = true := pls_all h y (by simp)
      simp only [decide_eq_true hl, v_dict1, v_tzip, v_inv, x_keptX, v_lens, v_dict0, v_rvs, v_comp2, v_maxd, v_dict, v_dget, x_dput, x_par, par_k, i_rngD, i_zip, v_agen, v_glob, v_chain, v_isx, x_raise, x_kept, x_nil, x_cons, x_set, x_unp, x_sets, x_expr, x_ret, x_pass, x_brk, x_cont, x_ite, x_for, x_whl, v_bl, v_int, v_str, v_ty, v_non, v_var, v_tup, v_lst, v_bin, v_neg, v_not, v_cmp, v_and, v_or, v_ife, v_call, v_blt, v_mth, v_sub, v_slc, v_comp, o_none, o_some, s_nil, s_cons, i_seq, i_rng1, i_rng2, i_enum, nx_nx, nx_rt, nx_bk, nx_ct, ite_t, ite_f, and_t, and_f, or_t, or_f, R.bind_ok, R.bind_assoc, ofO_some, tr_b, optI_i, itm_t, itm_l, seqL_l, gdOf_tup, gdOf_lst, neg_i, aug_i, add_i, sub_i, slc_t, slc_l, add_l, len_t, len_l, list_t, list_l, tuple_l, max_i, ls_i, le_i, gt_i, ge_i, sub_t, sub_l, List.getElem?_cons_zero, List.getElem?_cons_succ, List.set_cons_zero, List.set_cons_succ, Bool.not_true, Bool.not_false, at2_0, at2_1, c_name k S x hx, prB]
      cases h1 : nmB x <;> simp only [v_dict1, v_tzip, v_inv, x_keptX, v_lens, v_dict0, v_rvs, v_comp2, v_maxd, v_dict, v_dget, x_dput, x_par, par_k, i_rngD, i_zip, v_agen, v_glob, v_chain, v_isx, x_raise, x_kept, x_nil, x_cons, x_set, x_unp, x_sets, x_expr, x_ret, x_pass, x_brk, x_cont, x_ite, x_for, x_whl, v_bl, v_int, v_str, v_ty, v_non, v_var, v_tup, v_lst, v_bin, v_neg, v_not, v_cmp, v_and, v_or, v_ife, v_call, v_blt, v_mth, v_sub, v_slc, v_comp, o_none, o_some, s_nil, s_cons, i_seq, i_rng1, i_rng2, i_enum, nx_nx, nx_rt, nx_bk, nx_ct, ite_t, ite_f, and_t, and_f, or_t, or_f, R.bind_ok, R.bind_assoc, ofO_some, tr_b, optI_i, itm_t, itm_l, seqL_l, gdOf_tup, gdOf_lst, neg_i, aug_i, add_i, sub_i, slc_t, slc_l, add_l, len_t, len_l, list_t, list_l, tuple_l, max_i, ls_i, le_i, gt_i, ge_i, sub_t, sub_l, List.getElem?_cons_zero, List.getElem?_cons_succ, List.set_cons_zero, List.set_cons_succ, Bool.not_true, Bool.not_false, Bool.false_and, Bool.true_and, at2_1, c_name k S y hy]
    · have e : prB (.tup l) = false := by
        unfold prB
        split
        · rename_i x y e
          cases e
          exact absurd rfl hl
        · rfl
      simp only [decide_eq_false hl, v_dict1, v_tzip, v_inv, x_keptX, v_lens, v_dict0, v_rvs, v_comp2, v_maxd, v_dict, v_dget, x_dput, x_par, par_k, i_rngD, i_zip, v_agen, v_glob, v_chain, v_isx, x_raise, x_kept, x_nil, x_cons, x_set, x_unp, x_sets, x_expr, x_ret, x_pass, x_brk, x_cont, x_ite, x_for, x_whl, v_bl, v_int, v_str, v_ty, v_non, v_var, v_tup, v_lst, v_bin, v_neg, v_not, v_cmp, v_and, v_or, v_ife, v_call, v_blt, v_mth, v_sub, v_slc, v_comp, o_none, o_some, s_nil, s_cons, i_seq, i_rng1, i_rng2, i_enum, nx_nx, nx_rt, nx_bk, nx_ct, ite_t, ite_f, and_t, and_f, or_t, or_f, R.bind_ok, R.bind_assoc, ofO_some, tr_b, optI_i, itm_t, itm_l, seqL_l, gdOf_tup, gdOf_lst, neg_i, aug_i, add_i, sub_i, slc_t, slc_l, add_l, len_t, len_l, list_t, list_l, tuple_l, max_i, ls_i, le_i, gt_i, ge_i, sub_t, sub_l, List.getElem?_cons_zero, List.getElem?_cons_succ, List.set_cons_zero, List.set_cons_succ, Bool.not_true, Bool.not_false, e]
  | _ => first | (simp [pl] at h; done) | (simp only [isTup, prB, v_dict1, v_tzip, v_inv, x_keptX, v_lens, v_dict0, v_rvs, v_comp2, v_maxd, v_dict, v_dget, x_dput, x_par, par_k, i_rngD, i_zip, v_agen, v_glob, v_chain, v_isx, x_raise, x_kept, x_nil, x_cons, x_set, x_unp, x_sets, x_expr, x_ret, x_pass, x_brk, x_cont, x_ite, x_for, x_whl, v_bl, v_int, v_str, v_ty, v_non, v_var, v_tup, v_lst, v_bin, v_neg, v_not, v_cmp, v_and, v_or, v_ife, v_call, v_blt, v_mth, v_sub, v_slc, v_comp, o_none, o_some, s_nil, s_cons, i_seq, i_rng1, i_rng2, i_enum, nx_nx, nx_rt, nx_bk, nx_ct, ite_t, ite_f, and_t, and_f, or_t, or_f, R.bind_ok, R.bind_assoc, ofO_some, tr_b, optI_i, itm_t, itm_l, seqL_l, gdOf_tup, gdOf_lst, neg_i, aug_i, add_i, sub_i, slc_t, slc_l, add_l, len_t, len_l, list_t, list_l, tuple_l, max_i, ls_i, le_i, gt_i, ge_i, sub_t, sub_l, List.getElem?_cons_zero, List.getElem?_cons_succ, List.set_cons_zero, List.set_cons_succ, Bool.not_true, Bool.not_false]; done)
def pd (p : Str × Str) : D := .tup [.str p.1, .str p.2]
theorem pr_strs : ∀ {l : List D}, l.all prB = true → ∃ ps : List (Str × Str), l = ps.map pd ∧ ∀ p ∈ ps, nmS p.1 = true ∧ nmS p.2 = true
  | [], _ => ⟨[], rfl, fun y h => absurd h (by simp)⟩
  | d :: r, h => by
    rw [List.all_cons, Bool.and_eq_true] at h
    obtain ⟨ps, rfl, h2⟩ := pr_strs h.2
    have h1 := h.1
    unfold prB at h1
    split at h1
    · rename_i x y
      rw [Bool.and_eq_true] at h1
      cases x with
      | str a =>
        cases y with
        | str b => exact ⟨(a, b) :: ps, rfl, fun p hp => by
            rcases List.mem_cons.mp hp with rfl | hp
            · exact h1
            · exact h2 p hp⟩
        | _ => exact absurd h1.2 (by simp [nmB])
      | _ => exact absurd h1.1 (by simp [nmB])
    · cases h1
def psS (ps : List (Str × Str)) : Bool := decide (ps.map (·.1)).Nodup && decide (ps.map (·.2)).Nodup
/-- what are pairs; what aren't -/
theorem c_pairs_yes (k : Nat) (S : Store) (ps : List (Str × Str)) (hl : ps.length ≤ 50) (h : pls (ps.map pd) = true) (ha : (ps.map pd).all prB = true) : CC (k + 3) "are_pairs" [.tup (ps.map pd)] S = .ok (.bl (psS ps)) S := by
  rw [show CC (k + 3) "are_pairs" [.tup (ps.map pd)] S = _ from call_step (k := k + 2) (d := d_are_pairs) rfl rfl]
  show leave .pure S (exB Gs 1000000 (CC (k + 2)) d_are_pairs.body [some (.tup (ps.map pd)), none] S) = _
  refine lv_ok ?_ (by simp [below])
  have g : agB Gs (CC (k + 2)) [] true (.nm 1) (.call "is_pair" (.cons (.var 1) .nil)) (wipe [some (.tup (ps.map pd)), none] [1]) (ps.map pd) S = .ok true S := by
    unfold agB
    rw [gen_sat (q := true) (tg := .nm 1) (t := fun e S => evE Gs (CC (k + 2)) (.call "is_pair" (.cons (.var 1) .nil)) e S) (e0 := wipe [some (.tup (ps.map pd)), none] [1]) (S := S) prB (l := ps.map pd) fun x hx => by
      refine ⟨_, rfl, ?_⟩
      simp only [wipe, v_dict1, v_tzip, v_inv, x_keptX, v_lens, v_dict0, v_rvs, v_comp2, v_maxd, v_dict, v_dget, x_dput, x_par, par_k, i_rngD, i_zip, v_agen, v_glob, v_chain, v_isx, x_raise, x_kept, x_nil, x_cons, x_set, x_unp, x_sets, x_expr, x_ret, x_pass, x_brk, x_cont, x_ite, x_for, x_whl, v_bl, v_int, v_str, v_ty, v_non, v_var, v_tup, v_lst, v_bin, v_neg, v_not, v_cmp, v_and, v_or, v_ife, v_call, v_blt, v_mth, v_sub, v_slc, v_comp, o_none, o_some, s_nil, s_cons, i_seq, i_rng1, i_rng2, i_enum, nx_nx, nx_rt, nx_bk, nx_ct, ite_t, ite_f, and_t, and_f, or_t, or_f, R.bind_ok, R.bind_assoc, ofO_some, tr_b, optI_i, itm_t, itm_l, seqL_l, gdOf_tup, gdOf_lst, neg_i, aug_i, add_i, sub_i, slc_t, slc_l, add_l, len_t, len_l, list_t, list_l, tuple_l, max_i, ls_i, le_i, gt_i, ge_i, sub_t, sub_l, List.getElem?_cons_zero, List.getElem?_cons_succ, List.set_cons_zero, List.set_cons_succ, Bool.not_true, Bool.not_false, c_pair k S x (pls_all h x hx)], if_pos rfl, ha]
  have q0 : cmpB Gs (CC (k + 2)) [] (.nm 1) .none (.sub (.var 1) (.int 0)) (wipe [some (.tup (ps.map pd)), none] [1]) (ps.map pd) S = .ok ((ps.map (·.1)).map .str) S := by
    unfold cmpB
    rw [comp_map pd (fun _ => true) (fun p => .str p.1) gdOk_nil ps [] (sz' (by simp; omega)) fun p hp => by
      refine ⟨_, rfl, ?_, fun _ => ?_⟩
      · simp only [tru, oc_none, v_dict1, v_tzip, v_inv, x_keptX, v_lens, v_dict0, v_rvs, v_comp2, v_maxd, v_dict, v_dget, x_dput, x_par, par_k, i_rngD, i_zip, v_agen, v_glob, v_chain, v_isx, x_raise, x_kept, x_nil, x_cons, x_set, x_unp, x_sets, x_expr, x_ret, x_pass, x_brk, x_cont, x_ite, x_for, x_whl, v_bl, v_int, v_str, v_ty, v_non, v_var, v_tup, v_lst, v_bin, v_neg, v_not, v_cmp, v_and, v_or, v_ife, v_call, v_blt, v_mth, v_sub, v_slc, v_comp, o_none, o_some, s_nil, s_cons, i_seq, i_rng1, i_rng2, i_enum, nx_nx, nx_rt, nx_bk, nx_ct, ite_t, ite_f, and_t, and_f, or_t, or_f, R.bind_ok, R.bind_assoc, ofO_some, tr_b, optI_i, itm_t, itm_l, seqL_l, gdOf_tup, gdOf_lst, neg_i, aug_i, add_i, sub_i, slc_t, slc_l, add_l, len_t, len_l, list_t, list_l, tuple_l, max_i, ls_i, le_i, gt_i, ge_i, sub_t, sub_l, List.getElem?_cons_zero, List.getElem?_cons_succ, List.set_cons_zero, List.set_cons_succ, Bool.not_true, Bool.not_false]
      · simp only [wipe, v_dict1, v_tzip, v_inv, x_keptX, v_lens, v_dict0, v_rvs, v_comp2, v_maxd, v_dict, v_dget, x_dput, x_par, par_k, i_rngD, i_zip, v_agen, v_glob, v_chain, v_isx, x_raise, x_kept, x_nil, x_cons, x_set, x_unp, x_sets, x_expr, x_ret, x_pass, x_brk, x_cont, x_ite, x_for, x_whl, v_bl, v_int, v_str, v_ty, v_non, v_var, v_tup, v_lst, v_bin, v_neg, v_not, v_cmp, v_and, v_or, v_ife, v_call, v_blt, v_mth, v_sub, v_slc, v_comp, o_none, o_some, s_nil, s_cons, i_seq, i_rng1, i_rng2, i_enum, nx_nx, nx_rt, nx_bk, nx_ct, ite_t, ite_f, and_t, and_f, or_t, or_f, R.bind_ok, R.bind_assoc, ofO_some, tr_b, optI_i, itm_t, itm_l, seqL_l, gdOf_tup, gdOf_lst, neg_i, aug_i, add_i, sub_i, slc_t, slc_l, add_l, len_t, len_l, list_t, list_l, tuple_l, max_i, ls_i, le_i, gt_i, ge_i, sub_t, sub_l, List.getElem?_cons_zero, List.getElem?_cons_succ, List.set_cons_zero, List.set_cons_succ, Bool.not_true, Bool.not_false, pd, at2_0]]
    rw [List.filter_eq_self.mpr fun _ _ => rfl, List.nil_append, List.map_map]
    rfl
  have q1 : cmpB Gs (CC (k + 2)) [] (.nm 1) .none (.sub (.var 1) (.int 1)) (wipe [some (.tup (ps.map pd)), none] [1]) (ps.map pd) S = .ok ((ps.map (·.2)).map .str) S := by
    unfold cmpB
    rw [comp_map pd (fun _ => true) (fun p => .str p.2) gdOk_nil ps [] (sz' (by simp; omega)) fun p hp => by
      refine ⟨_, rfl, ?_, fun _ => ?_⟩
      · simp only [tru, oc_none, v_dict1, v_tzip, v_inv, x_keptX, v_lens, v_dict0, v_rvs, v_comp2, v_maxd, v_dict, v_dget, x_dput, x_par, par_k, i_rngD, i_zip, v_agen, v_glob, v_chain, v_isx, x_raise, x_kept, x_nil, x_cons, x_set, x_unp, x_sets, x_expr, x_ret, x_pass, x_brk, x_cont, x_ite, x_for, x_whl, v_bl, v_int, v_str, v_ty, v_non, v_var, v_tup, v_lst, v_bin, v_neg, v_not, v_cmp, v_and, v_or, v_ife, v_call, v_blt, v_mth, v_sub, v_slc, v_comp, o_none, o_some, s_nil, s_cons, i_seq, i_rng1, i_rng2, i_enum, nx_nx, nx_rt, nx_bk, nx_ct, ite_t, ite_f, and_t, and_f, or_t, or_f, R.bind_ok, R.bind_assoc, ofO_some, tr_b, optI_i, itm_t, itm_l, seqL_l, gdOf_tup, gdOf_lst, neg_i, aug_i, add_i, sub_i, slc_t, slc_l, add_l, len_t, len_l, list_t, list_l, tuple_l, max_i, ls_i, le_i, gt_i, ge_i, sub_t, sub_l, List.getElem?_cons_zero, List.getElem?_cons_succ, List.set_cons_zero, List.set_cons_succ, Bool.not_true, Bool.not_false]
      · simp only [wipe, v_dict1, v_tzip, v_inv, x_keptX, v_lens, v_dict0, v_rvs, v_comp2, v_maxd, v_dict, v_dget, x_dput, x_par, par_k, i_rngD, i_zip, v_agen, v_glob, v_chain, v_isx, x_raise, x_kept, x_nil, x_cons, x_set, x_unp, x_sets, x_expr, x_ret, x_pass, x_brk, x_cont, x_ite, x_for, x_whl, v_bl, v_int, v_str, v_ty, v_non, v_var, v_tup, v_lst, v_bin, v_neg, v_not, v_cmp, v_and, v_or, v_ife, v_call, v_blt, v_mth, v_sub, v_slc, v_comp, o_none, o_some, s_nil, s_cons, i_seq, i_rng1, i_rng2, i_enum, nx_nx, nx_rt, nx_bk, nx_ct, ite_t, ite_f, and_t, and_f, or_t, or_f, R.bind_ok, R.bind_assoc, ofO_some, tr_b, optI_i, itm_t, itm_l, seqL_l, gdOf_tup, gdOf_lst, neg_i, aug_i, add_i, sub_i, slc_t, slc_l, add_l, len_t, len_l, list_t, list_l, tuple_l, max_i, ls_i, le_i, gt_i, ge_i, sub_t, sub_l, List.getElem?_cons_zero, List.getElem?_cons_succ, List.set_cons_zero, List.set_cons_succ, Bool.not_true, Bool.not_false, pd, at2_1]]
    rw [List.filter_eq_self.mpr fun _ _ => rfl, List.nil_append, List.map_map]
    rfl
  have tp : bltA true "isinstance" [.tup (ps.map pd), .ty "tuple"] S = .ok (.bl true) S := rfl
  simp only [d_are_pairs, v_dict1, v_tzip, v_inv, x_keptX, v_lens, v_dict0, v_rvs, v_comp2, v_maxd, v_dict, v_dget, x_dput, x_par, par_k, i_rngD, i_zip, v_agen, v_glob, v_chain, v_isx, x_raise, x_kept, x_nil, x_cons, x_set, x_unp, x_sets, x_expr, x_ret, x_pass, x_brk, x_cont, x_ite, x_for, x_whl, v_bl, v_int, v_str, v_ty, v_non, v_var, v_tup, v_lst, v_bin, v_neg, v_not, v_cmp, v_and, v_or, v_ife, v_call, v_blt, v_mth, v_sub, v_slc, v_comp, o_none, o_some, s_nil, s_cons, i_seq, i_rng1, i_rng2, i_enum, nx_nx, nx_rt, nx_bk, nx_ct, ite_t, ite_f, and_t, and_f, or_t, or_f, R.bind_ok, R.bind_assoc, ofO_some, tr_b, optI_i, itm_t, itm_l, seqL_l, gdOf_tup, gdOf_lst, neg_i, aug_i, add_i, sub_i, slc_t, slc_l, add_l, len_t, len_l, list_t, list_l, tuple_l, max_i, ls_i, le_i, gt_i, ge_i, sub_t, sub_l, List.getElem?_cons_zero, List.getElem?_cons_succ, List.set_cons_zero, List.set_cons_succ, Bool.not_true, Bool.not_false, tp, g, q0, q1, mkL_v (l := (ps.map (·.1)).map .str) (sz (by simp; omega)), mkL_v (l := (ps.map (·.2)).map .str) (sz (by simp; omega)), c_unlike (k + 1) S (ps.map (·.1)) (by simp; omega), c_unlike (k + 1) S (ps.map (·.2)) (by simp; omega), psS]
  cases hd : decide (ps.map (·.1)).Nodup <;> simp only [v_dict1, v_tzip, v_inv, x_keptX, v_lens, v_dict0, v_rvs, v_comp2, v_maxd, v_dict, v_dget, x_dput, x_par, par_k, i_rngD, i_zip, v_agen, v_glob, v_chain, v_isx, x_raise, x_kept, x_nil, x_cons, x_set, x_unp, x_sets, x_expr, x_ret, x_pass, x_brk, x_cont, x_ite, x_for, x_whl, v_bl, v_int, v_str, v_ty, v_non, v_var, v_tup, v_lst, v_bin, v_neg, v_not, v_cmp, v_and, v_or, v_ife, v_call, v_blt, v_mth, v_sub, v_slc, v_comp, o_none, o_some, s_nil, s_cons, i_seq, i_rng1, i_rng2, i_enum, nx_nx, nx_rt, nx_bk, nx_ct, ite_t, ite_f, and_t, and_f, or_t, or_f, R.bind_ok, R.bind_assoc, ofO_some, tr_b, optI_i, itm_t, itm_l, seqL_l, gdOf_tup, gdOf_lst, neg_i, aug_i, add_i, sub_i, slc_t, slc_l, add_l, len_t, len_l, list_t, list_l, tuple_l, max_i, ls_i, le_i, gt_i, ge_i, sub_t, sub_l, List.getElem?_cons_zero, List.getElem?_cons_succ, List.set_cons_zero, List.set_cons_succ, Bool.not_true, Bool.not_false, Bool.true_and, Bool.false_and, q1, mkL_v (l := (ps.map (·.2)).map .str) (sz (by simp; omega)), c_unlike (k + 1) S (ps.map (·.2)) (by simp; omega)]
theorem c_pairs_no (k : Nat) (S : Store) (d : D) (h : pl d = true) (hn : ∀ l, d = .tup l → l.all prB = false) : CC (k + 3) "are_pairs" [d] S = .ok (.bl false) S := by
  rw [show CC (k + 3) "are_pairs" [d] S = _ from call_step (k := k + 2) (d := d_are_pairs) rfl rfl]
  show leave .pure S (exB Gs 1000000 (CC (k + 2)) d_are_pairs.body [some d, none] S) = _
  refine lv_ok ?_ (by simp [below])
  simp only [d_are_pairs, v_dict1, v_tzip, v_inv, x_keptX, v_lens, v_dict0, v_rvs, v_comp2, v_maxd, v_dict, v_dget, x_dput, x_par, par_k, i_rngD, i_zip, v_agen, v_glob, v_chain, v_isx, x_raise, x_kept, x_nil, x_cons, x_set, x_unp, x_sets, x_expr, x_ret, x_pass, x_brk, x_cont, x_ite, x_for, x_whl, v_bl, v_int, v_str, v_ty, v_non, v_var, v_tup, v_lst, v_bin, v_neg, v_not, v_cmp, v_and, v_or, v_ife, v_call, v_blt, v_mth, v_sub, v_slc, v_comp, o_none, o_some, s_nil, s_cons, i_seq, i_rng1, i_rng2, i_enum, nx_nx, nx_rt, nx_bk, nx_ct, ite_t, ite_f, and_t, and_f, or_t, or_f, R.bind_ok, R.bind_assoc, ofO_some, tr_b, optI_i, itm_t, itm_l, seqL_l, gdOf_tup, gdOf_lst, neg_i, aug_i, add_i, sub_i, slc_t, slc_l, add_l, len_t, len_l, list_t, list_l, tuple_l, max_i, ls_i, le_i, gt_i, ge_i, sub_t, sub_l, List.getElem?_cons_zero, List.getElem?_cons_succ, List.set_cons_zero, List.set_cons_succ, Bool.not_true, Bool.not_false, isi_tup h]
  cases d with
  | tup l =>
    have g : agB Gs (CC (k + 2)) [] true (.nm 1) (.call "is_pair" (.cons (.var 1) .nil)) (wipe [some (.tup l), none] [1]) l S = .ok false S := by
      unfold agB
      rw [gen_sat (q := true) (tg := .nm 1) (t := fun e S => evE Gs (CC (k + 2)) (.call "is_pair" (.cons (.var 1) .nil)) e S) (e0 := wipe [some (.tup l), none] [1]) (S := S) prB (l := l) fun x hx => by
        refine ⟨_, rfl, ?_⟩
        simp only [wipe, v_dict1, v_tzip, v_inv, x_keptX, v_lens, v_dict0, v_rvs, v_comp2, v_maxd, v_dict, v_dget, x_dput, x_par, par_k, i_rngD, i_zip, v_agen, v_glob, v_chain, v_isx, x_raise, x_kept, x_nil, x_cons, x_set, x_unp, x_sets, x_expr, x_ret, x_pass, x_brk, x_cont, x_ite, x_for, x_whl, v_bl, v_int, v_str, v_ty, v_non, v_var, v_tup, v_lst, v_bin, v_neg, v_not, v_cmp, v_and, v_or, v_ife, v_call, v_blt, v_mth, v_sub, v_slc, v_comp, o_none, o_some, s_nil, s_cons, i_seq, i_rng1, i_rng2, i_enum, nx_nx, nx_rt, nx_bk, nx_ct, ite_t, ite_f, and_t, and_f, or_t, or_f, R.bind_ok, R.bind_assoc, ofO_some, tr_b, optI_i, itm_t, itm_l, seqL_l, gdOf_tup, gdOf_lst, neg_i, aug_i, add_i, sub_i, slc_t, slc_l, add_l, len_t, len_l, list_t, list_l, tuple_l, max_i, ls_i, le_i, gt_i, ge_i, sub_t, sub_l, List.getElem?_cons_zero, List.getElem?_cons_succ, List.set_cons_zero, List.set_cons_succ, Bool.not_true, Bool.not_false, c_pair k S x (pls_all h x hx)], if_pos rfl, hn l rfl]
    simp only [isTup, v_dict1, v_tzip, v_inv, x_keptX, v_lens, v_dict0, v_rvs, v_comp2, v_maxd, v_dict, v_dget, x_dput, x_par, par_k, i_rngD, i_zip, v_agen, v_glob, v_chain, v_isx, x_raise, x_kept, x_nil, x_cons, x_set, x_unp, x_sets, x_expr, x_ret, x_pass, x_brk, x_cont, x_ite, x_for, x_whl, v_bl, v_int, v_str, v_ty, v_non, v_var, v_tup, v_lst, v_bin, v_neg, v_not, v_cmp, v_and, v_or, v_ife, v_call, v_blt, v_mth, v_sub, v_slc, v_comp, o_none, o_some, s_nil, s_cons, i_seq, i_rng1, i_rng2, i_enum, nx_nx, nx_rt, nx_bk, nx_ct, ite_t, ite_f, and_t, and_f, or_t, or_f, R.bind_ok, R.bind_assoc, ofO_some, tr_b, optI_i, itm_t, itm_l, seqL_l, gdOf_tup, gdOf_lst, neg_i, aug_i, add_i, sub_i, slc_t, slc_l, add_l, len_t, len_l, list_t, list_l, tuple_l, max_i, ls_i, le_i, gt_i, ge_i, sub_t, sub_l, List.getElem?_cons_zero, List.getElem?_cons_succ, List.set_cons_zero, List.set_cons_succ, Bool.not_true, Bool.not_false, g]
  | _ => first | (simp [pl] at h; done) | (simp only [isTup, v_dict1, v_tzip, v_inv, x_keptX, v_lens, v_dict0, v_rvs, v_comp2, v_maxd, v_dict, v_dget, x_dput, x_par, par_k, i_rngD, i_zip, v_agen, v_glob, v_chain, v_isx, x_raise, x_kept, x_nil, x_cons, x_set, x_unp, x_sets, x_expr, x_ret, x_pass, x_brk, x_cont, x_ite, x_for, x_whl, v_bl, v_int, v_str, v_ty, v_non, v_var, v_tup, v_lst, v_bin, v_neg, v_not, v_cmp, v_and, v_or, v_ife, v_call, v_blt, v_mth, v_sub, v_slc, v_comp, o_none, o_some, s_nil, s_cons, i_seq, i_rng1, i_rng2, i_enum, nx_nx, nx_rt, nx_bk, nx_ct, ite_t, ite_f, and_t, and_f, or_t, or_f, R.bind_ok, R.bind_assoc, ofO_some, tr_b, optI_i, itm_t, itm_l, seqL_l, gdOf_tup, gdOf_lst, neg_i, aug_i, add_i, sub_i, slc_t, slc_l, add_l, len_t, len_l, list_t, list_l, tuple_l, max_i, ls_i, le_i, gt_i, ge_i, sub_t, sub_l, List.getElem?_cons_zero, List.getElem?_cons_succ, List.set_cons_zero, List.set_cons_succ, Bool.not_true, Bool.not_false]; done)
/-- what pairs tell -/
def tell (ps : List (Str × Str)) (z : Str) : Str := match ps.find? fun p => decide (p.1 = z) with
  | some p => p.2
  | none => z
theorem c_by (k : Nat) (S : Store) (ps : List (Str × Str)) (z : Str) (ho : ∀ p ∈ ps, PyData.strOk p.1 = true) (hz : PyData.strOk z = true) : CC (k + 1) "name_by" [.tup (ps.map pd), .str z] S = .ok (.str (tell ps z)) S := by
  rw [show CC (k + 1) "name_by" [.tup (ps.map pd), .str z] S = _ from call_step (k := k) (d := d_name_by) rfl rfl]
  show leave .pure S (exB Gs 1000000 (CC k) d_name_by.body [some (.tup (ps.map pd)), some (.str z), none, none] S) = _
  refine lv_ok ?_ (by simp [below])
  have loop : ∀ (qs : List (Str × Str)) (x2 x3 : Option D), (∀ p ∈ qs, PyData.strOk p.1 = true) → Sat (forB Gs 1000000 (CC k) [] (.tp [2, 3]) (.cons (.ite (.cmp .Eq (.var 2) (.var 1)) (.cons (.ret (.var 3)) .nil) .nil) .nil) (qs.map pd) [some (.tup (ps.map pd)), some (.str z), x2, x3] S) fun f S' => S' = S ∧ match qs.find? fun p => decide (p.1 = z) with
      | some p => f = .rt (.str p.2)
      | none => ∃ y2 y3, f = .nx [some (.tup (ps.map pd)), some (.str z), y2, y3] := by
    intro qs
    induction qs with
    | nil =>
      intro x2 x3 _
      unfold forB
      rw [List.map_nil]
      unfold forA
      rw [if_pos gdOk_nil]
      exact .ok ⟨rfl, _, _, rfl⟩
    | cons p r ih =>
      intro x2 x3 hq
      have hp := hq p List.mem_cons_self
      have e : asg (.tp [2, 3]) (pd p) [some (.tup (ps.map pd)), some (.str z), x2, x3] = some [some (.tup (ps.map pd)), some (.str z), some (.str p.1), some (.str p.2)] := rfl
      have c1 : cmpA .Eq (.str p.1) (.str z) S = some (decide (p.1 = z)) := by
        rw [eq_g (by simp only [gd]; exact hp) (by simp only [gd]; exact hz)]
        simp
      have ih := ih (some (.str p.1)) (some (.str p.2)) fun x hx => hq x (List.mem_cons_of_mem _ hx)
      unfold forB at ih ⊢
      rw [List.map_cons]
      unfold forA
      rw [if_pos gdOk_nil, e]
      dsimp only
      rw [List.find?_cons]
      cases hd : decide (p.1 = z) with
      | true =>
        simp only [v_dict1, v_tzip, v_inv, x_keptX, v_lens, v_dict0, v_rvs, v_comp2, v_maxd, v_dict, v_dget, x_dput, x_par, par_k, i_rngD, i_zip, v_agen, v_glob, v_chain, v_isx, x_raise, x_kept, x_nil, x_cons, x_set, x_unp, x_sets, x_expr, x_ret, x_pass, x_brk, x_cont, x_ite, x_for, x_whl, v_bl, v_int, v_str, v_ty, v_non, v_var, v_tup, v_lst, v_bin, v_neg, v_not, v_cmp, v_and, v_or, v_ife, v_call, v_blt, v_mth, v_sub, v_slc, v_comp, o_none, o_some, s_nil, s_cons, i_seq, i_rng1, i_rng2, i_enum, nx_nx, nx_rt, nx_bk, nx_ct, ite_t, ite_f, and_t, and_f, or_t, or_f, R.bind_ok, R.bind_assoc, ofO_some, tr_b, optI_i, itm_t, itm_l, seqL_l, gdOf_tup, gdOf_lst, neg_i, aug_i, add_i, sub_i, slc_t, slc_l, add_l, len_t, len_l, list_t, list_l, tuple_l, max_i, ls_i, le_i, gt_i, ge_i, sub_t, sub_l, List.getElem?_cons_zero, List.getElem?_cons_succ, List.set_cons_zero, List.set_cons_succ, Bool.not_true, Bool.not_false, c1, hd]
        exact .ok ⟨rfl, rfl⟩
      | false =>
        simp only [v_dict1, v_tzip, v_inv, x_keptX, v_lens, v_dict0, v_rvs, v_comp2, v_maxd, v_dict, v_dget, x_dput, x_par, par_k, i_rngD, i_zip, v_agen, v_glob, v_chain, v_isx, x_raise, x_kept, x_nil, x_cons, x_set, x_unp, x_sets, x_expr, x_ret, x_pass, x_brk, x_cont, x_ite, x_for, x_whl, v_bl, v_int, v_str, v_ty, v_non, v_var, v_tup, v_lst, v_bin, v_neg, v_not, v_cmp, v_and, v_or, v_ife, v_call, v_blt, v_mth, v_sub, v_slc, v_comp, o_none, o_some, s_nil, s_cons, i_seq, i_rng1, i_rng2, i_enum, nx_nx, nx_rt, nx_bk, nx_ct, ite_t, ite_f, and_t, and_f, or_t, or_f, R.bind_ok, R.bind_assoc, ofO_some, tr_b, optI_i, itm_t, itm_l, seqL_l, gdOf_tup, gdOf_lst, neg_i, aug_i, add_i, sub_i, slc_t, slc_l, add_l, len_t, len_l, list_t, list_l, tuple_l, max_i, ls_i, le_i, gt_i, ge_i, sub_t, sub_l, List.getElem?_cons_zero, List.getElem?_cons_succ, List.set_cons_zero, List.set_cons_succ, Bool.not_true, Bool.not_false, c1, hd] at ih ⊢
        exact ih
  have l := loop ps none none ho
  simp only [d_name_by, v_dict1, v_tzip, v_inv, x_keptX, v_lens, v_dict0, v_rvs, v_comp2, v_maxd, v_dict, v_dget, x_dput, x_par, par_k, i_rngD, i_zip, v_agen, v_glob, v_chain, v_isx, x_raise, x_kept, x_nil, x_cons, x_set, x_unp, x_sets, x_expr, x_ret, x_pass, x_brk, x_cont, x_ite, x_for, x_whl, v_bl, v_int, v_str, v_ty, v_non, v_var, v_tup, v_lst, v_bin, v_neg, v_not, v_cmp, v_and, v_or, v_ife, v_call, v_blt, v_mth, v_sub, v_slc, v_comp, o_none, o_some, s_nil, s_cons, i_seq, i_rng1, i_rng2, i_enum, nx_nx, nx_rt, nx_bk, nx_ct, ite_t, ite_f, and_t, and_f, or_t, or_f, R.bind_ok, R.bind_assoc, ofO_some, tr_b, optI_i, itm_t, itm_l, seqL_l, gdOf_tup, gdOf_lst, neg_i, aug_i, add_i, sub_i, slc_t, slc_l, add_l, len_t, len_l, list_t, list_l, tuple_l, max_i, ls_i, le_i, gt_i, ge_i, sub_t, sub_l, List.getElem?_cons_zero, List.getElem?_cons_succ, List.set_cons_zero, List.set_cons_succ, Bool.not_true, Bool.not_false]
  unfold tell
  obtain ⟨f, S', h1, h2, h3⟩ := l
  rw [h1]
  subst h2
  cases hf : ps.find? fun p => decide (p.1 = z) with
  | some p =>
    rw [hf] at h3
    dsimp only at h3
    subst h3
    simp only [v_dict1, v_tzip, v_inv, x_keptX, v_lens, v_dict0, v_rvs, v_comp2, v_maxd, v_dict, v_dget, x_dput, x_par, par_k, i_rngD, i_zip, v_agen, v_glob, v_chain, v_isx, x_raise, x_kept, x_nil, x_cons, x_set, x_unp, x_sets, x_expr, x_ret, x_pass, x_brk, x_cont, x_ite, x_for, x_whl, v_bl, v_int, v_str, v_ty, v_non, v_var, v_tup, v_lst, v_bin, v_neg, v_not, v_cmp, v_and, v_or, v_ife, v_call, v_blt, v_mth, v_sub, v_slc, v_comp, o_none, o_some, s_nil, s_cons, i_seq, i_rng1, i_rng2, i_enum, nx_nx, nx_rt, nx_bk, nx_ct, ite_t, ite_f, and_t, and_f, or_t, or_f, R.bind_ok, R.bind_assoc, ofO_some, tr_b, optI_i, itm_t, itm_l, seqL_l, gdOf_tup, gdOf_lst, neg_i, aug_i, add_i, sub_i, slc_t, slc_l, add_l, len_t, len_l, list_t, list_l, tuple_l, max_i, ls_i, le_i, gt_i, ge_i, sub_t, sub_l, List.getElem?_cons_zero, List.getElem?_cons_succ, List.set_cons_zero, List.set_cons_succ, Bool.not_true, Bool.not_false]
  | none =>
    rw [hf] at h3
    obtain ⟨y2, y3, rfl⟩ := h3
    simp only [v_dict1, v_tzip, v_inv, x_keptX, v_lens, v_dict0, v_rvs, v_comp2, v_maxd, v_dict, v_dget, x_dput, x_par, par_k, i_rngD, i_zip, v_agen, v_glob, v_chain, v_isx, x_raise, x_kept, x_nil, x_cons, x_set, x_unp, x_sets, x_expr, x_ret, x_pass, x_brk, x_cont, x_ite, x_for, x_whl, v_bl, v_int, v_str, v_ty, v_non, v_var, v_tup, v_lst, v_bin, v_neg, v_not, v_cmp, v_and, v_or, v_ife, v_call, v_blt, v_mth, v_sub, v_slc, v_comp, o_none, o_some, s_nil, s_cons, i_seq, i_rng1, i_rng2, i_enum, nx_nx, nx_rt, nx_bk, nx_ct, ite_t, ite_f, and_t, and_f, or_t, or_f, R.bind_ok, R.bind_assoc, ofO_some, tr_b, optI_i, itm_t, itm_l, seqL_l, gdOf_tup, gdOf_lst, neg_i, aug_i, add_i, sub_i, slc_t, slc_l, add_l, len_t, len_l, list_t, list_l, tuple_l, max_i, ls_i, le_i, gt_i, ge_i, sub_t, sub_l, List.getElem?_cons_zero, List.getElem?_cons_succ, List.set_cons_zero, List.set_cons_succ, Bool.not_true, Bool.not_false]
end K01

namespace K01
open PySem Mn
/-! what a caught one is called -/
theorem isx_e {x : String} {tab : List (String × Bool)} {S : Store} {b : Bool} (h : tab.lookup x = some b) : R.ofO ((isxA tab S (.exn x [])).map D.bl) S = .ok (.bl b) S := by
  show R.ofO ((tab.lookup x).map D.bl) S = _
  rw [h]
  rfl
theorem append_r {S : Store} {n : Nat} {l : List D} {d : D} (h : S[n]? = some (.lst l)) (hl : l.length < sizeLine) : mthA "list" "append" (.ref n) [d] S = .ok .non (S.set n (.lst (l ++ [d]))) := by
  show appA (.ref n) [d] S = _
  unfold appA
  dsimp only
  rw [h]
  dsimp only
  rw [if_pos hl]
theorem recv_r {S : Store} {n : Nat} {l : List D} (h : S[n]? = some (.lst l)) : recvA "list" S (.ref n) = some () := by
  show (seqL S (.ref n)).map (fun _ => ()) = _
  unfold seqL
  dsimp only
  rw [h]
  rfl
theorem addr_r {S : Store} {n : Nat} {l m : List D} (h : S[n]? = some (.lst l)) (hl : l.length + m.length ≤ sizeLine) : binA false .Add (.ref n) (.lst m) S = .ok (.ref S.length) (S ++ [.lst (l ++ m)]) := by
  show (match seqL S (.ref n), seqL S (.lst m) with
    | some a, some b => mkL false (a ++ b) S
    | _, _ => R.bad) = _
  unfold seqL
  dsimp only
  rw [h]
  dsimp only
  exact mkL_r (by rw [List.length_append]; exact hl)
theorem set_app {S : Store} {o o' : O} : (S ++ [o]).set S.length o' = S ++ [o'] := by
  rw [List.set_append_right _ _ (Nat.le_refl _), Nat.sub_self]
  rfl
theorem addr_p {S : Store} {l m : List D} (hl : l.length + m.length ≤ sizeLine) : binA false .Add (.ref S.length) (.lst m) (S ++ [.lst l]) = .ok (.ref (S ++ [O.lst l]).length) (S ++ [.lst l] ++ [.lst (l ++ m)]) := addr_r get_push hl
theorem append_p {S : Store} {l : List D} {d : D} (hl : l.length < sizeLine) : mthA "list" "append" (.ref S.length) [d] (S ++ [.lst l]) = .ok .non (S ++ [.lst (l ++ [d])]) := by
  rw [append_r get_push hl, set_app]
theorem recv_p {S : Store} {l : List D} : recvA "list" (S ++ [.lst l]) (.ref S.length) = some () := recv_r get_push
theorem itm_p {S : Store} {l : List D} : itemsOf (S ++ [.lst l]) (.ref S.length) = some l := by
  show seqA _ (.ref S.length) = _
  unfold seqA seqL
  dsimp only
  rw [get_push]
theorem gdOf_p {S : Store} {l : List D} : gdOf (S ++ [.lst l]) (.ref S.length) = [(S.length, l)] := by
  unfold gdOf
  dsimp only
  rw [get_push]
theorem gdOk_p {S : Store} {l : List D} : gdOk (S ++ [.lst l]) [(S.length, l)] := ⟨get_push, True.intro⟩
def pr (p : Str × Bool) : D := .tup [.str p.1, .bl p.2]
theorem leave_app {S T : Store} {d : D} (hd : below S.length d = true) : leave .pure S (.ok (.rt d) (S ++ T)) = .ok d S := by
  show fin .pure S d (S ++ T) = _
  unfold fin
  rw [if_pos ⟨by simp, fun i hi => .inl (List.getElem?_append_left hi)⟩, outD_below hd]
  show R.ok d ((S ++ T).take S.length) = _
  rw [List.take_left']
  rfl
theorem cmp_pairs {k : Nat} {S : Store} (l : List (Str × Bool)) {x0 x1 x2 : Option D} (h : l.length < 1000) : cmpB Gs (CC k) [(S.length, l.map pr)] (.tp [3, 4]) (.some (.var 4)) (.var 3) [x0, x1, x2, none, none] (l.map pr) (S ++ [.lst (l.map pr)]) = .ok ((l.filter (·.2)).map fun p => D.str p.1) (S ++ [.lst (l.map pr)]) := by
  have := comp_keep (tg := .tp [3, 4]) (c := fun e S => tru (evOc Gs (CC k) (.some (.var 4)) e S)) (t := fun e S => evE Gs (CC k) (.var 3) e S) (e0 := [x0, x1, x2, none, none]) (S := S ++ [.lst (l.map pr)])
    (fun d => match d with | .tup [_, .bl b] => b | _ => false) (fun d => match d with | .tup [x, _] => x | _ => .non) (gdOk_p (S := S) (l := l.map pr)) (l.map pr) [] (by simp; exact sz' (by omega)) fun d hd => by
      obtain ⟨p, _, rfl⟩ := List.mem_map.mp hd
      refine ⟨_, rfl, ?_, fun _ => ?_⟩
      · simp only [tru, oc_some, v_var, pr, List.getElem?_cons_zero, List.getElem?_cons_succ, List.set_cons_zero, List.set_cons_succ, R.bind_ok, tr_b, ofO_some]
      · simp only [v_var, pr, List.getElem?_cons_zero, List.getElem?_cons_succ, List.set_cons_zero, List.set_cons_succ]
  unfold cmpB
  rw [this]
  congr 1
  rw [List.nil_append, List.filter_map, List.map_map]
  rfl
theorem kept_ok {i j l : Nat} {d : D} {S : Store} {e : Mn.Env} : keptA i j l (.ok d S) e = .ok (.nx (e.set l (some d))) S := nr rfl
theorem kept_exc {i j l : Nat} {d : D} {S : Store} {e : Mn.Env} : keptA i j l (.exc d S) e = .ok (.nx (((e.set i (some d)).set j (some d)).set i none)) S := nr rfl
theorem is_nn {S : Store} : cmpA .Is .non .non S = some true := nr rfl


def ws (f : Bool → Bool) : List (Str × Bool) := [("name", f true), ("board", f false), ("letter", f false), ("turn", f false), ("loop", f false), ("wish", f false), ("row", f false), ("task", f false), ("machine", f false), ("plan", f false), ("position", f false), ("run", f false), ("number", f false), ("great", f false), ("text", f false), ("no machine", f false), ("no plan", f false), ("arena", f false)]
theorem is_non {S : Store} {x : String} : cmpA .Is (.exn x []) .non S = some false := nr rfl
theorem c_word (k : Nat) (S : Store) : CC (k + 1) "_law_word" [.exn "BadName" []] S = .ok (.str "name") S := by
  have i : ∀ a S, R.ofO ((isxA [("BadName", a)] S (.exn "BadName" [])).map D.bl) S = .ok (.bl a) S := fun a S => isx_e rfl
  show leave .pure S (exB Gs 1000000 (CC k) d__law_word.body [some (.exn "BadName" []), none, none, none, none] S) = _
  suffices h : ∃ T, exB Gs 1000000 (CC k) d__law_word.body [some (.exn "BadName" []), none, none, none, none] S = .ok (.rt (.str "name")) (S ++ T) by
    obtain ⟨T, h⟩ := h
    rw [h]
    exact leave_app (by simp [below])
  have z : ∀ (S : Store) (x0 x1 x2 : Option D), cmpB Gs (CC k) [(S.length, (ws id).map pr)] (.tp [3, 4]) (.some (.var 4)) (.var 3) [x0, x1, x2, none, none] ((ws id).map pr) (S ++ [.lst ((ws id).map pr)]) = .ok [.str "name"] (S ++ [.lst ((ws id).map pr)]) := fun S x0 x1 x2 => by
    rw [cmp_pairs (ws id) (by simp [ws])]
    rfl
  simp only [ws, List.map_cons, List.map_nil, pr, id] at z
  simp (disch := (simp only [List.length_cons, List.length_nil]; decide)) only [d__law_word, v_dict1, v_tzip, v_inv, x_keptX, v_lens, v_dict0, v_rvs, v_comp2, v_maxd, v_dict, v_dget, x_dput, x_par, par_k, i_rngD, i_zip, v_agen, v_glob, v_chain, v_isx, x_raise, x_kept, x_nil, x_cons, x_set, x_unp, x_sets, x_expr, x_ret, x_pass, x_brk, x_cont, x_ite, x_for, x_whl, v_bl, v_int, v_str, v_ty, v_non, v_var, v_tup, v_lst, v_bin, v_neg, v_not, v_cmp, v_and, v_or, v_ife, v_call, v_blt, v_mth, v_sub, v_slc, v_comp, o_none, o_some, s_nil, s_cons, i_seq, i_rng1, i_rng2, i_enum, nx_nx, nx_rt, nx_bk, nx_ct, ite_t, ite_f, and_t, and_f, or_t, or_f, R.bind_ok, R.bind_assoc, ofO_some, tr_b, optI_i, itm_t, itm_l, seqL_l, gdOf_tup, gdOf_lst, neg_i, aug_i, add_i, sub_i, slc_t, slc_l, add_l, len_t, len_l, list_t, list_l, tuple_l, max_i, ls_i, le_i, gt_i, ge_i, sub_t, sub_l, List.getElem?_cons_zero, List.getElem?_cons_succ, List.set_cons_zero, List.set_cons_succ, Bool.not_true, Bool.not_false, i, mkT_v, mkL_r, mkL_v, addr_p, append_p, recv_p, List.cons_append, List.nil_append]
  simp only [itm_p, gdOf_p, ofO_some, R.bind_ok, wipe, List.set_cons_zero, List.set_cons_succ, z]
  have z1 : L2.atI [D.str "name"] 0 = some (.str "name") := rfl
  simp (disch := (simp only [List.length_cons, List.length_nil]; decide)) only [v_dict1, v_tzip, v_inv, x_keptX, v_lens, v_dict0, v_rvs, v_comp2, v_maxd, v_dict, v_dget, x_dput, x_par, par_k, i_rngD, i_zip, v_agen, v_glob, v_chain, v_isx, x_raise, x_kept, x_nil, x_cons, x_set, x_unp, x_sets, x_expr, x_ret, x_pass, x_brk, x_cont, x_ite, x_for, x_whl, v_bl, v_int, v_str, v_ty, v_non, v_var, v_tup, v_lst, v_bin, v_neg, v_not, v_cmp, v_and, v_or, v_ife, v_call, v_blt, v_mth, v_sub, v_slc, v_comp, o_none, o_some, s_nil, s_cons, i_seq, i_rng1, i_rng2, i_enum, nx_nx, nx_rt, nx_bk, nx_ct, ite_t, ite_f, and_t, and_f, or_t, or_f, R.bind_ok, R.bind_assoc, ofO_some, tr_b, optI_i, itm_t, itm_l, seqL_l, gdOf_tup, gdOf_lst, neg_i, aug_i, add_i, sub_i, slc_t, slc_l, add_l, len_t, len_l, list_t, list_l, tuple_l, max_i, ls_i, le_i, gt_i, ge_i, sub_t, sub_l, List.getElem?_cons_zero, List.getElem?_cons_succ, List.set_cons_zero, List.set_cons_succ, Bool.not_true, Bool.not_false, mkL_v, is_non, eq_i, i]
  simp only [show decide (((([D.str "name"] : List D).length : Nat) : Int) = 1) = true from rfl, v_dict1, v_tzip, v_inv, x_keptX, v_lens, v_dict0, v_rvs, v_comp2, v_maxd, v_dict, v_dget, x_dput, x_par, par_k, i_rngD, i_zip, v_agen, v_glob, v_chain, v_isx, x_raise, x_kept, x_nil, x_cons, x_set, x_unp, x_sets, x_expr, x_ret, x_pass, x_brk, x_cont, x_ite, x_for, x_whl, v_bl, v_int, v_str, v_ty, v_non, v_var, v_tup, v_lst, v_bin, v_neg, v_not, v_cmp, v_and, v_or, v_ife, v_call, v_blt, v_mth, v_sub, v_slc, v_comp, o_none, o_some, s_nil, s_cons, i_seq, i_rng1, i_rng2, i_enum, nx_nx, nx_rt, nx_bk, nx_ct, ite_t, ite_f, and_t, and_f, or_t, or_f, R.bind_ok, R.bind_assoc, ofO_some, tr_b, optI_i, itm_t, itm_l, seqL_l, gdOf_tup, gdOf_lst, neg_i, aug_i, add_i, sub_i, slc_t, slc_l, add_l, len_t, len_l, list_t, list_l, tuple_l, max_i, ls_i, le_i, gt_i, ge_i, sub_t, sub_l, List.getElem?_cons_zero, List.getElem?_cons_succ, List.set_cons_zero, List.set_cons_succ, Bool.not_true, Bool.not_false, i, if_true, z1]
  exact ⟨_, by simp only [List.append_assoc]; rfl⟩
theorem c_word0 (k : Nat) (S : Store) : CC (k + 1) "_law_word" [.non] S = .ok (.str "") S := by
  have i : ∀ (tab : List (String × Bool)) S, R.ofO ((isxA tab S .non).map D.bl) S = .ok (.bl false) S := fun tab S => rfl
  show leave .pure S (exB Gs 1000000 (CC k) d__law_word.body [some .non, none, none, none, none] S) = _
  suffices h : ∃ T, exB Gs 1000000 (CC k) d__law_word.body [some .non, none, none, none, none] S = .ok (.rt (.str "")) (S ++ T) by
    obtain ⟨T, h⟩ := h
    rw [h]
    exact leave_app (by simp [below])
  have z : ∀ (S : Store) (x0 x1 x2 : Option D), cmpB Gs (CC k) [(S.length, (ws fun _ => false).map pr)] (.tp [3, 4]) (.some (.var 4)) (.var 3) [x0, x1, x2, none, none] ((ws fun _ => false).map pr) (S ++ [.lst ((ws fun _ => false).map pr)]) = .ok [] (S ++ [.lst ((ws fun _ => false).map pr)]) := fun S x0 x1 x2 => by
    rw [cmp_pairs (ws fun _ => false) (by simp [ws])]
    rfl
  simp only [ws, List.map_cons, List.map_nil, pr] at z
  simp (disch := (simp only [List.length_cons, List.length_nil]; decide)) only [d__law_word, v_dict1, v_tzip, v_inv, x_keptX, v_lens, v_dict0, v_rvs, v_comp2, v_maxd, v_dict, v_dget, x_dput, x_par, par_k, i_rngD, i_zip, v_agen, v_glob, v_chain, v_isx, x_raise, x_kept, x_nil, x_cons, x_set, x_unp, x_sets, x_expr, x_ret, x_pass, x_brk, x_cont, x_ite, x_for, x_whl, v_bl, v_int, v_str, v_ty, v_non, v_var, v_tup, v_lst, v_bin, v_neg, v_not, v_cmp, v_and, v_or, v_ife, v_call, v_blt, v_mth, v_sub, v_slc, v_comp, o_none, o_some, s_nil, s_cons, i_seq, i_rng1, i_rng2, i_enum, nx_nx, nx_rt, nx_bk, nx_ct, ite_t, ite_f, and_t, and_f, or_t, or_f, R.bind_ok, R.bind_assoc, ofO_some, tr_b, optI_i, itm_t, itm_l, seqL_l, gdOf_tup, gdOf_lst, neg_i, aug_i, add_i, sub_i, slc_t, slc_l, add_l, len_t, len_l, list_t, list_l, tuple_l, max_i, ls_i, le_i, gt_i, ge_i, sub_t, sub_l, List.getElem?_cons_zero, List.getElem?_cons_succ, List.set_cons_zero, List.set_cons_succ, Bool.not_true, Bool.not_false, i, mkT_v, mkL_r, mkL_v, addr_p, append_p, recv_p, List.cons_append, List.nil_append]
  simp only [itm_p, gdOf_p, ofO_some, R.bind_ok, wipe, List.set_cons_zero, List.set_cons_succ, z]
  simp (disch := (simp only [List.length_cons, List.length_nil]; decide)) only [v_dict1, v_tzip, v_inv, x_keptX, v_lens, v_dict0, v_rvs, v_comp2, v_maxd, v_dict, v_dget, x_dput, x_par, par_k, i_rngD, i_zip, v_agen, v_glob, v_chain, v_isx, x_raise, x_kept, x_nil, x_cons, x_set, x_unp, x_sets, x_expr, x_ret, x_pass, x_brk, x_cont, x_ite, x_for, x_whl, v_bl, v_int, v_str, v_ty, v_non, v_var, v_tup, v_lst, v_bin, v_neg, v_not, v_cmp, v_and, v_or, v_ife, v_call, v_blt, v_mth, v_sub, v_slc, v_comp, o_none, o_some, s_nil, s_cons, i_seq, i_rng1, i_rng2, i_enum, nx_nx, nx_rt, nx_bk, nx_ct, ite_t, ite_f, and_t, and_f, or_t, or_f, R.bind_ok, R.bind_assoc, ofO_some, tr_b, optI_i, itm_t, itm_l, seqL_l, gdOf_tup, gdOf_lst, neg_i, aug_i, add_i, sub_i, slc_t, slc_l, add_l, len_t, len_l, list_t, list_l, tuple_l, max_i, ls_i, le_i, gt_i, ge_i, sub_t, sub_l, List.getElem?_cons_zero, List.getElem?_cons_succ, List.set_cons_zero, List.set_cons_succ, Bool.not_true, Bool.not_false, mkL_v, is_nn, if_true]
  exact ⟨_, by simp only [List.append_assoc]; rfl⟩
theorem keptx_ok {i j : Nat} {d : D} {S : Store} {e : Mn.Env} : keptXA i j (.ok d S) e = .ok (.nx e) S := nr rfl
theorem keptx_exc {i j : Nat} {d : D} {S : Store} {e : Mn.Env} : keptXA i j (.exc d S) e = .ok (.nx (((e.set i (some d)).set j (some d)).set i none)) S := nr rfl
theorem c_said (k : Nat) (S : Store) (d : D) (b : Bool) (q : ∀ S', S' = S → CC (k + 2) "need_name" [d] S' = if b = true then .ok .non S' else .exc (.exn "BadName" []) S') : CC (k + 3) "_law_said" [d] S = .ok (.str (if b = true then "" else "name")) S := by
  rw [show CC (k + 3) "_law_said" [d] S = _ from call_step (k := k + 2) (d := d__law_said) rfl rfl]
  show leave .pure S (exB Gs 1000000 (CC (k + 2)) d__law_said.body [some d, none, none] S) = _
  refine lv_ok ?_ (by simp [below])
  simp only [d__law_said, v_dict1, v_tzip, v_inv, x_keptX, v_lens, v_dict0, v_rvs, v_comp2, v_maxd, v_dict, v_dget, x_dput, x_par, par_k, i_rngD, i_zip, v_agen, v_glob, v_chain, v_isx, x_raise, x_kept, x_nil, x_cons, x_set, x_unp, x_sets, x_expr, x_ret, x_pass, x_brk, x_cont, x_ite, x_for, x_whl, v_bl, v_int, v_str, v_ty, v_non, v_var, v_tup, v_lst, v_bin, v_neg, v_not, v_cmp, v_and, v_or, v_ife, v_call, v_blt, v_mth, v_sub, v_slc, v_comp, o_none, o_some, s_nil, s_cons, i_seq, i_rng1, i_rng2, i_enum, nx_nx, nx_rt, nx_bk, nx_ct, ite_t, ite_f, and_t, and_f, or_t, or_f, R.bind_ok, R.bind_assoc, ofO_some, tr_b, optI_i, itm_t, itm_l, seqL_l, gdOf_tup, gdOf_lst, neg_i, aug_i, add_i, sub_i, slc_t, slc_l, add_l, len_t, len_l, list_t, list_l, tuple_l, max_i, ls_i, le_i, gt_i, ge_i, sub_t, sub_l, List.getElem?_cons_zero, List.getElem?_cons_succ, List.set_cons_zero, List.set_cons_succ, Bool.not_true, Bool.not_false, q S rfl]
  cases b with
  | true => simp only [if_true, keptx_ok, v_dict1, v_tzip, v_inv, x_keptX, v_lens, v_dict0, v_rvs, v_comp2, v_maxd, v_dict, v_dget, x_dput, x_par, par_k, i_rngD, i_zip, v_agen, v_glob, v_chain, v_isx, x_raise, x_kept, x_nil, x_cons, x_set, x_unp, x_sets, x_expr, x_ret, x_pass, x_brk, x_cont, x_ite, x_for, x_whl, v_bl, v_int, v_str, v_ty, v_non, v_var, v_tup, v_lst, v_bin, v_neg, v_not, v_cmp, v_and, v_or, v_ife, v_call, v_blt, v_mth, v_sub, v_slc, v_comp, o_none, o_some, s_nil, s_cons, i_seq, i_rng1, i_rng2, i_enum, nx_nx, nx_rt, nx_bk, nx_ct, ite_t, ite_f, and_t, and_f, or_t, or_f, R.bind_ok, R.bind_assoc, ofO_some, tr_b, optI_i, itm_t, itm_l, seqL_l, gdOf_tup, gdOf_lst, neg_i, aug_i, add_i, sub_i, slc_t, slc_l, add_l, len_t, len_l, list_t, list_l, tuple_l, max_i, ls_i, le_i, gt_i, ge_i, sub_t, sub_l, List.getElem?_cons_zero, List.getElem?_cons_succ, List.set_cons_zero, List.set_cons_succ, Bool.not_true, Bool.not_false, c_word0 (k + 1) S]
  | false => simp only [Bool.false_eq_true, if_false, keptx_exc, v_dict1, v_tzip, v_inv, x_keptX, v_lens, v_dict0, v_rvs, v_comp2, v_maxd, v_dict, v_dget, x_dput, x_par, par_k, i_rngD, i_zip, v_agen, v_glob, v_chain, v_isx, x_raise, x_kept, x_nil, x_cons, x_set, x_unp, x_sets, x_expr, x_ret, x_pass, x_brk, x_cont, x_ite, x_for, x_whl, v_bl, v_int, v_str, v_ty, v_non, v_var, v_tup, v_lst, v_bin, v_neg, v_not, v_cmp, v_and, v_or, v_ife, v_call, v_blt, v_mth, v_sub, v_slc, v_comp, o_none, o_some, s_nil, s_cons, i_seq, i_rng1, i_rng2, i_enum, nx_nx, nx_rt, nx_bk, nx_ct, ite_t, ite_f, and_t, and_f, or_t, or_f, R.bind_ok, R.bind_assoc, ofO_some, tr_b, optI_i, itm_t, itm_l, seqL_l, gdOf_tup, gdOf_lst, neg_i, aug_i, add_i, sub_i, slc_t, slc_l, add_l, len_t, len_l, list_t, list_l, tuple_l, max_i, ls_i, le_i, gt_i, ge_i, sub_t, sub_l, List.getElem?_cons_zero, List.getElem?_cons_succ, List.set_cons_zero, List.set_cons_succ, Bool.not_true, Bool.not_false, c_word (k + 1) S]
end K01

namespace K01
open PySem Mn
/-! ### the store of one who makes things of his own -/
/-- S with the stream at a asked, and T behind -/
def W (S : Store) (a : Nat) (C : Int) (T S1 : Store) : Prop := ∃ b n c r, S1 = S.set a (strm b n c r) ++ T ∧ 0 ≤ c ∧ c ≤ C
section
variable {S S1 S2 T : Store} {a : Nat} {C C' : Int}
theorem W.len (h : W S a C T S1) : S1.length = S.length + T.length := by
  obtain ⟨b, n, c, r, rfl, _⟩ := h
  simp
theorem W.get (h : W S a C T S1) (i : Nat) : S1[S.length + i]? = T[i]? := by
  obtain ⟨b, n, c, r, rfl, _⟩ := h
  rw [List.getElem?_append_right (by simp)]
  simp
theorem W.set (h : W S a C T S1) (i : Nat) (o : O) : W S a C (T.set i o) (S1.set (S.length + i) o) := by
  obtain ⟨b, n, c, r, rfl, h1⟩ := h
  refine ⟨b, n, c, r, ?_, h1⟩
  rw [List.set_append_right _ _ (by simp)]
  simp
theorem W.push (h : W S a C T S1) (o : O) : W S a C (T ++ [o]) (S1 ++ [o]) := by
  obtain ⟨b, n, c, r, rfl, h1⟩ := h
  exact ⟨b, n, c, r, by simp, h1⟩
theorem W.stm (h : W S a C T S1) (ha : a < S.length) : Stm S1 a C := by
  obtain ⟨b, n, c, r, rfl, h1⟩ := h
  refine ⟨b, n, c, r, ?_, h1⟩
  rw [List.getElem?_append_left (by simpa using ha)]
  simp [ha]
theorem W.upd (h : W S a C T S1) (ha : a < S.length) (u : Upd S1 a S2 C') : W S a C' T S2 := by
  obtain ⟨b, n, c, r, rfl, h1⟩ := h
  obtain ⟨b', n', c', r', rfl, h2⟩ := u
  refine ⟨b', n', c', r', ?_, h2⟩
  rw [List.set_append_left _ _ (by simpa using ha), List.set_set]
theorem W.weak (h : W S a C T S1) (hc : C ≤ C') : W S a C' T S1 := by
  obtain ⟨b, n, c, r, rfl, h1, h2⟩ := h
  exact ⟨b, n, c, r, rfl, h1, by omega⟩
theorem W.mk (h : Stm S a C) : W S a C [] S := by
  obtain ⟨b, n, c, r, e, h1⟩ := Upd.refl h
  exact ⟨b, n, c, r, by rw [List.append_nil]; exact e, h1⟩
theorem Stm.lt (h : Stm S a C) : a < S.length := by
  obtain ⟨_, _, _, _, e, _⟩ := h
  exact (List.getElem?_eq_some_iff.mp e).1
/-- leaving: what is the callee's own goes -/
theorem W.leave {r : R F} {Q : D → Store → Prop} (h : Sat r fun f S1 => ∃ d T, f = .rt d ∧ W S a C T S1 ∧ ∃ x, outD S1 S.length d = some x ∧ ∀ S', Upd S a S' C → Q x S') : Sat (leave .pure S r) Q := by
  obtain ⟨f, S1, rfl, d, T, rfl, w, x, hx, q⟩ := h
  obtain ⟨b, n, c, r, rfl, h1⟩ := w
  have ok : oldOk S (S.set a (strm b n c r) ++ T) := by
    refine ⟨by simp, fun i hi => ?_⟩
    rw [List.getElem?_append_left (by simpa using hi)]
    exact (oldOk_set (strm_below _ _ _ _ _)).2 i hi
  show Sat (fin .pure S d _) Q
  unfold fin
  rw [if_pos ok, hx]
  refine ⟨x, _, rfl, ?_⟩
  have e : (S.set a (strm b n c r) ++ T).take S.length = S.set a (strm b n c r) := by
    rw [List.take_left']
    simp
  rw [e]
  exact q _ ⟨b, n, c, r, rfl, h1⟩
end
theorem W.take {S S1 T : Store} {a : Nat} {C : Int} (k : Nat) (w : W S a C T S1) (ha : a < S.length) (m : Int) (hm : 0 < m ∧ m < 1073741824) (hC : C < 1000000) :
    Sat (CC (k + 2) "_law_take" [.ref a, .int m] S1) fun d S2 => ∃ v, d = .int v ∧ 0 ≤ v ∧ v < m ∧ W S a (C + 1) T S2 :=
  (c_take k S1 a m C hm (w.stm ha) hC).imp fun d S2 ⟨v, h1, h2, h3, u⟩ => ⟨v, h1, h2, h3, w.upd ha u⟩


/-! ### texts by their signs -/
def ls (l : List Nat) : Str := ⟨l.toArray⟩
theorem ls_cps {l : List Nat} : (ls l).cps.toList = l := rfl
theorem ls_len {l : List Nat} : (ls l).length = l.length := by
  show l.toArray.size = _
  simp
theorem ls_inj {a b : List Nat} (h : ls a = ls b) : a = b := by
  have := congrArg (fun z : Str => z.cps.toList) h
  simpa [ls_cps] using this
theorem ls_app {a b : List Nat} : ls a ++ ls b = ls (a ++ b) := by
  show (⟨a.toArray ++ b.toArray⟩ : Str) = ⟨(a ++ b).toArray⟩
  congr 1
  simp
theorem ls_to {a : List Nat} {n : Nat} : L2.cutS (ls a) none (some (n : Int)) = ls (a.take n) := by
  unfold L2.cutS
  rw [HT.sIx_nat, HT.sIx_none, ls_len, ls_cps]
  unfold ls
  congr 2
  simp
theorem ls_from {a : List Nat} {n : Nat} (h : n ≤ a.length) : L2.cutS (ls a) (some (n : Int)) none = ls (a.drop n) := by
  unfold L2.cutS
  rw [HT.sIx_nat, HT.sIx_none, ls_len, ls_cps, Nat.min_eq_left h]
  unfold ls
  congr 2
  rw [List.take_of_length_le (by simp)]
theorem ls_butl {a : List Nat} (h : 1 ≤ a.length) : L2.cutS (ls a) none (some (-1)) = ls a.dropLast := by
  unfold L2.cutS
  rw [HT.sIx_none, ls_len, ls_cps]
  have e : HT.sIx a.length a.length (some (-1)) = a.length - 1 := by
    show (if (-1 : Int) < 0 then ((-1 : Int) + (a.length : Int)).toNat else min (-1 : Int).toNat a.length) = _
    rw [if_pos (by decide)]
    omega
  rw [e]
  unfold ls
  congr 2
  rw [List.dropLast_eq_take]
  simp
def abcL : List Nat := [97, 98, 99, 100, 101, 102, 103, 104, 105, 106, 107, 108, 109, 110, 111, 112, 113, 114, 115, 116, 117, 118, 119, 120, 121, 122]
theorem abc_ls : abc = ls abcL := by decide +kernel
theorem abc_cps : abc.cps.toList = abcL := by rw [abc_ls]; rfl
theorem q_ls : ("q" : Str) = ls [113] := by decide +kernel
def sml (l : List Nat) : Prop := ∀ c ∈ l, c ∈ abcL
theorem sml_ok {l : List Nat} (h : sml l) : PyData.strOk (ls l) = true := by
  unfold PyData.strOk
  rw [← Array.all_toList, List.all_eq_true]
  intro c hc
  have hc := h c hc
  have : ∀ c ∈ abcL, c < 0x110000 := by decide
  simpa using this c hc
theorem sml_app {a b : List Nat} (h : sml a) (h' : sml b) : sml (a ++ b) := fun c hc => (List.mem_append.mp hc).elim (h c) (h' c)
theorem sml_take {a : List Nat} {n : Nat} (h : sml a) : sml (a.take n) := fun c hc => h c (List.mem_of_mem_take hc)
theorem sml_drop {a : List Nat} {n : Nat} (h : sml a) : sml (a.drop n) := fun c hc => h c (List.mem_of_mem_drop hc)
theorem sml_butl {a : List Nat} (h : sml a) : sml a.dropLast := fun c hc => h c (by rw [List.dropLast_eq_take] at hc; exact List.mem_of_mem_take hc)
def heard : List Str := ["yes", "no", "not", "and", "or", "before", "since", "was", "given", "wanted", "always", "again", "comes"]
theorem heard_ok : ∀ y ∈ heard, PyData.strOk y = true := by decide +kernel
theorem heard_q : ∀ y ∈ heard, y.cps.toList.head? ≠ some 113 := by decide +kernel
theorem heard_2 : ∀ y ∈ heard, 2 ≤ y.cps.toList.length := by decide +kernel
theorem wds_q : ∀ y ∈ WDS, y.cps.toList.getLast? ≠ some 113 := by decide +kernel
theorem wds_heard : ∀ y ∈ WDS, y ∈ heard ∨ y.cps.toList.length = 7 := by decide +kernel
theorem nm_of {l : List Nat} (h1 : 1 ≤ l.length) (h2 : l.length ≤ 6) (hs : sml l) (hw : ls l ∉ WDS) : nmS (ls l) = true := by
  simp only [nmS, ls_len, Bool.and_eq_true, decide_eq_true_eq, Bool.not_eq_true', decide_eq_false_iff_not, List.all_eq_true]
  refine ⟨⟨h1, h2⟩, hw, fun c hc => ?_⟩
  rw [abc_cps]
  exact hs c hc
theorem not_wds {l : List Nat} (h : ls l ∉ heard) (h6 : l.length ≤ 6) : ls l ∉ WDS := fun z => by
  rcases wds_heard _ z with h1 | h1
  · exact h h1
  · rw [ls_cps] at h1; omega
theorem sub_s {S : Store} {z : Str} {i : Int} (h : z.length ≤ sizeLine) : subA S (.str z) (.int i) = (L2.atI z.cps.toList i).map fun c => .str ⟨#[c]⟩ := by
  show (if z.length ≤ sizeLine then _ else _) = _
  rw [if_pos h]
theorem slc_s {v : Bool} {S : Store} {z : Str} {lo hi : Option Int} (h : z.length ≤ sizeLine) : slcA v (.str z) lo hi S = .ok (.str (L2.cutS z lo hi)) S := by
  show (if z.length ≤ sizeLine then _ else _) = _
  rw [if_pos h]
theorem add_s {v : Bool} {S : Store} {x y : Str} (h : x.length + y.length ≤ sizeLine) : binA v .Add (.str x) (.str y) S = .ok (.str (x ++ y)) S := by
  show (if x.length + y.length ≤ sizeLine then _ else _) = _
  rw [if_pos h]
theorem slc_ls {v : Bool} {S : Store} {a : List Nat} {lo hi : Option Int} (h : a.length ≤ 1000) : slcA v (.str (ls a)) lo hi S = .ok (.str (L2.cutS (ls a) lo hi)) S := slc_s (by rw [ls_len]; exact sz (by omega))
theorem add_ls {v : Bool} {S : Store} {a b : List Nat} (h : a.length + b.length ≤ 1000) : binA v .Add (.str (ls a)) (.str (ls b)) S = .ok (.str (ls (a ++ b))) S := by
  rw [add_s (by rw [ls_len, ls_len]; exact sz (by omega)), ls_app]
theorem abc_at {i : Int} (h0 : 0 ≤ i) (h1 : i < 26) {S : Store} : ∃ c, subA S (.str abc) (.int i) = some (.str (ls [c])) ∧ abcL[i.toNat]? = some c ∧ c ∈ abcL := by
  obtain ⟨n, rfl⟩ := Int.eq_ofNat_of_zero_le h0
  have hl : abcL.length = 26 := by decide
  have hn : n < abcL.length := by omega
  refine ⟨abcL[n], ?_, ?_, List.getElem_mem hn⟩
  · rw [abc_ls, sub_s (by rw [ls_len]; exact sz (by omega)), atI_nat, ls_cps, List.getElem?_eq_getElem hn]
    rfl
  · rw [Int.toNat_natCast]
    exact List.getElem?_eq_getElem hn
theorem any_l {v : Bool} {S : Store} {ys : List Bool} : bltA v "any" [.lst (ys.map D.bl)] S = .ok (.bl (ys.any id)) S := by
  have bls_of : ∀ {ys : List Bool}, blsOf (ys.map D.bl) = some ys := by
    intro ys
    induction ys with
    | nil => rfl
    | cons y r ih =>
      rw [List.map_cons]
      unfold blsOf
      rw [ih]
      rfl
  show (match (seqL S (.lst (ys.map D.bl))).bind blsOf with
    | some l => R.ok (D.bl (l.any id)) S
    | none => .bad) = _
  rw [seqL_l, Option.bind_some, bls_of]
theorem join_l {S : Store} {a : Str} {ys : List Str} (h : (ys.map Str.length).sum + ys.length * a.length ≤ 16777216) : mthA "str" "join" (.str a) [.lst (ys.map D.str)] S = .ok (.str (Txt.join a ys)) S := by
  show (match (seqA S (.lst (ys.map D.str))).bind strsOf with
    | some ys => if (ys.map Str.length).sum + ys.length * a.length ≤ 16777216 then R.ok (D.str (Txt.join a ys)) S else .bad
    | none => .bad) = _
  rw [show seqA S (.lst (ys.map D.str)) = some (ys.map D.str) from rfl, Option.bind_some, strs_of]
  dsimp only
  rw [if_pos h]
theorem join_t {S : Store} {a : Str} {ys : List Str} (h : (ys.map Str.length).sum + ys.length * a.length ≤ 16777216) : mthA "str" "join" (.str a) [.tup (ys.map D.str)] S = .ok (.str (Txt.join a ys)) S := by
  show (match (seqA S (.tup (ys.map D.str))).bind strsOf with
    | some ys => if (ys.map Str.length).sum + ys.length * a.length ≤ 16777216 then R.ok (D.str (Txt.join a ys)) S else .bad
    | none => .bad) = _
  rw [show seqA S (.tup (ys.map D.str)) = some (ys.map D.str) from rfl, Option.bind_some, strs_of]
  dsimp only
  rw [if_pos h]
theorem recv_s {S : Store} {z : Str} : recvA "str" S (.str z) = some () := nr rfl
theorem join_ls : ∀ cs : List Nat, Str.join "" (cs.map fun c => ls [c]) = ls cs
  | [] => by decide +kernel
  | [c] => rfl
  | c :: d :: r => by
    have ih := join_ls (d :: r)
    show (ls [c] ++ "" ++ Str.join "" ((d :: r).map fun c => ls [c])) = _
    rw [ih, show ("" : Str) = ls [] by decide +kernel, ls_app, ls_app]
    rfl
theorem sum_len {cs : List Nat} : ((cs.map fun c => ls [c]).map Str.length).sum = cs.length := by
  induction cs with
  | nil => rfl
  | cons c r ih =>
    rw [List.map_cons, List.map_cons, List.sum_cons, ih, ls_len]
    simp; omega
theorem rng_ok {α : Type} {j : Int} (h0 : 0 ≤ j) (h1 : j < 1000) {x y : α} : (if -(2 ^ 62) ≤ j ∧ j < 2 ^ 62 then x else y) = x := if_pos ⟨by omega, by omega⟩
theorem rng_get0 {n i : Nat} {d : D} (h : (rng 0 n 1)[i]? = some d) : i < n ∧ d = .int (i : Int) := by
  obtain ⟨h1, rfl⟩ := rng_get h
  exact ⟨h1, by congr 1; omega⟩
/-- the word -/
theorem c_letters6 (k : Nat) (S S1 T : Store) (a : Nat) (C : Int) (e0 : Mn.Env) (h0 : e0[0]? = some (some (.ref a))) (h2 : e0[2]? = some (some (.str abc))) (w : W S a C T S1) (ha : a < S.length) (hC : C < 100000) :
    Sat (cmpB Gs (CC (k + 2)) [] (.nm 7) .none (.sub (.var 2) (.call "_law_take" (.cons (.var 0) (.cons (.int 26) .nil)))) e0 (rng 0 6 1) S1) fun l S2 => ∃ cs : List Nat, l = (cs.map fun c => ls [c]).map D.str ∧ cs.length = 6 ∧ sml cs ∧ W S a (C + 6) T S2 := by
  have z := comp_sat (tg := .nm 7) (c := fun e S => tru (evOc Gs (CC (k + 2)) .none e S)) (t := fun e S => evE Gs (CC (k + 2)) (.sub (.var 2) (.call "_law_take" (.cons (.var 0) (.cons (.int 26) .nil)))) e S) (e0 := e0) (l := rng 0 6 1)
    (fun i acc S' => ∃ cs : List Nat, acc = (cs.map fun c => ls [c]).map D.str ∧ cs.length = i ∧ sml cs ∧ i ≤ 6 ∧ W S a (C + i) T S') (fun i d acc S' hd hI => by
      obtain ⟨cs, rfl, hl, hy, hi6, u⟩ := hI
      obtain ⟨hi, rfl⟩ := rng_get0 hd
      refine ⟨_, rfl, ?_⟩
      simp only [oc_none, tru, R.bind_ok, tr_b, ofO_some]
      refine .ok ?_
      rw [if_pos rfl]
      refine ⟨sz' (by simp; omega), ?_⟩
      have e1 : (e0.set 7 (some (D.int (i : Int))))[0]? = some (some (.ref a)) := by rw [List.getElem?_set_ne (by decide), h0]
      have e2 : (e0.set 7 (some (D.int (i : Int))))[2]? = some (some (.str abc)) := by rw [List.getElem?_set_ne (by decide), h2]
      simp only [v_sub, v_call, v_int, s_cons, s_nil, v_var, e1, e2, R.bind_ok, R.bind_assoc]
      refine (W.take k u ha 26 (by decide) (by omega)).bind fun d S2 ⟨v, hd, hv0, hv1, u2⟩ => ?_
      subst hd
      obtain ⟨c, hy1, _, hy2⟩ := abc_at hv0 hv1 (S := S2)
      rw [hy1, ofO_some]
      exact .ok ⟨cs ++ [c], by simp, by simp [hl], sml_app hy fun x hx => by rw [List.mem_singleton.mp hx]; exact hy2, by omega, u2.weak (by push_cast; omega)⟩) (acc := []) (S := S1) ⟨[], rfl, rfl, (fun y hy => absurd hy (by simp)), by omega, w.weak (by omega)⟩
  rw [rng_len] at z
  exact Sat.imp z fun l S2 ⟨ys, h1, h2, h3, _, u⟩ => ⟨ys, h1, h2, h3, u.weak (by omega)⟩
/-- whether a beginning of the word is heard -/
theorem c_heard (k : Nat) (S S1 T : Store) (a n : Nat) (C : Int) (e0 : Mn.Env) (z : List Nat) (hz : z.length = 6) (hs : sml z) (h7 : 7 < e0.length) (h3 : e0[3]? = some (some (.ref n))) (h5 : e0[5]? = some (some (.str (ls z)))) (hn : S1[n]? = some (.lst (heard.map D.str))) (w : W S a C T S1) :
    Sat (cmpB Gs (CC k) [] (.nm 7) .none (.cmp .In (.slc true (.var 5) .none (.some (.var 7))) (.var 3)) e0 (rng 1 6 1) S1) fun l S2 => S2 = S1 ∧ l = ((List.range 6).map fun i => decide (ls (z.take (i + 1)) ∈ heard)).map D.bl := by
  have q := comp_sat (tg := .nm 7) (c := fun e S => tru (evOc Gs (CC k) .none e S)) (t := fun e S => evE Gs (CC k) (.cmp .In (.slc true (.var 5) .none (.some (.var 7))) (.var 3)) e S) (e0 := e0) (l := rng 1 6 1)
    (fun i acc S' => S' = S1 ∧ acc = ((List.range i).map fun i => decide (ls (z.take (i + 1)) ∈ heard)).map D.bl ∧ i ≤ 6) (fun i d acc S' hd hI => by
      obtain ⟨rfl, rfl, hi6⟩ := hI
      obtain ⟨hi, rfl⟩ := rng_get hd
      refine ⟨_, rfl, ?_⟩
      simp only [oc_none, tru, R.bind_ok, tr_b, ofO_some]
      refine .ok ?_
      rw [if_pos rfl]
      refine ⟨sz' (by simp; omega), ?_⟩
      have e1 : ∀ d, (e0.set 7 (some d))[3]? = some (some (.ref n)) := fun d => by rw [List.getElem?_set_ne (by decide), h3]
      have e2 : ∀ d, (e0.set 7 (some d))[5]? = some (some (.str (ls z))) := fun d => by rw [List.getElem?_set_ne (by decide), h5]
      have e3 : ∀ d, (e0.set 7 (some d))[7]? = some (some d) := fun d => List.getElem?_set_self h7
      have e4 : (1 : Int) + (i : Int) * 1 = ((i + 1 : Nat) : Int) := by omega
      have hb := in_strr (x := ls (z.take (i + 1))) hn (sml_ok (sml_take hs)) heard_ok
      simp only [v_cmp, v_slc, o_none, o_some, optI_i, v_var, e1, e2, e3, e4, R.bind_ok, R.bind_assoc, ofO_some, slc_ls (v := true) (a := z) (S := S') (lo := none) (by omega), ls_to, hb]
      exact .ok ⟨rfl, by rw [List.range_succ]; simp, by omega⟩) (acc := []) (S := S1) ⟨rfl, rfl, by omega⟩
  rw [rng_len] at q
  exact Sat.imp q fun l S2 ⟨h1, h2, h3⟩ => ⟨h1, h2⟩
end K01

namespace K01
open PySem Mn
theorem pop_r {S : Store} {n : Nat} {l : List D} {i : Int} {d : D} (h : S[n]? = some (.lst l)) (h0 : 0 ≤ i) (h1 : i < l.length) (h2 : l.length ≤ 1000) (hd : l[i.toNat]? = some d) : mthA "list" "pop" (.ref n) [.int i] S = .ok d (S.set n (.lst (l.eraseIdx i.toNat))) := by
  show popA (.ref n) [.int i] S = _
  unfold popA
  dsimp only
  rw [h]
  dsimp only
  rw [if_pos ⟨h0, h1, sz (by omega)⟩, hd]
  rfl
theorem len_r {v : Bool} {S : Store} {n : Nat} {l : List D} (h : S[n]? = some (.lst l)) : bltA v "len" [.ref n] S = .ok (.int l.length) S := by
  show (match seqA S (.ref n) with | some l => R.ok (D.int l.length) S | none => .bad) = _
  unfold seqA seqL
  simp [h]
theorem erase_map {α β : Type} {f : α → β} : ∀ (l : List α) (i : Nat), (l.map f).eraseIdx i = (l.eraseIdx i).map f
  | [], _ => rfl
  | _ :: _, 0 => rfl
  | x :: r, i + 1 => by
    show f x :: (r.map f).eraseIdx i = f x :: (r.eraseIdx i).map f
    rw [erase_map r i]

/-- sizes that are left and sizes that were taken -/
def Sz (us js : List Int) : Prop := (us ++ js).Perm [1, 2, 3, 4, 5, 6]
theorem Sz.nd {us js : List Int} (h : Sz us js) : us.Nodup := ((List.nodup_append.mp ((h.nodup_iff).mpr (by decide))).1)
theorem Sz.mem {us js : List Int} (h : Sz us js) : ∀ v ∈ us ++ js, 1 ≤ v ∧ v ≤ 6 := fun v hv => by
  have := h.mem_iff.mp hv
  simp only [List.mem_cons, List.not_mem_nil, or_false] at this
  omega
theorem perm_erase : ∀ (js : List Int) (n : Nat) (h : n < js.length), (js[n] :: js.eraseIdx n).Perm js
  | [], n, h => by simp at h
  | x :: r, 0, _ => .refl _
  | x :: r, n + 1, h => by
    have ih := perm_erase r n (by simpa using h)
    show (r[n]'(by simpa using h) :: x :: r.eraseIdx n).Perm (x :: r)
    exact (List.Perm.swap _ _ _).trans (.cons _ ih)
theorem Sz.step {us js : List Int} (h : Sz us js) (n : Nat) (hn : n < js.length) : Sz (us ++ [js[n]]) (js.eraseIdx n) := by
  unfold Sz at h ⊢
  rw [List.append_assoc]
  exact ((List.Perm.append_left us (perm_erase js n hn))).trans h
/-- beginnings of the word, of drawn lengths -/
theorem c_sizes (k : Nat) (S S1 : Store) (a m : Nat) (C : Int) (o : O) (e0 : Mn.Env) (z : List Nat) (hz : z.length = 6) (hm : m ≤ 6) (h7 : 7 < e0.length) (h0 : e0[0]? = some (some (.ref a))) (h5 : e0[5]? = some (some (.str (ls z)))) (h8 : e0[8]? = some (some (.ref (S.length + 1))))
    (w : W S a C [o, .lst (([1, 2, 3, 4, 5, 6] : List Int).map .int)] S1) (ha : a < S.length) (hC : C < 100000) :
    Sat (cmpB Gs (CC (k + 2)) [] (.nm 7) .none (.slc true (.var 5) .none (.some (.mth "list" "pop" (.var 8) (.cons (.call "_law_take" (.cons (.var 0) (.cons (.blt true "len" (.cons (.var 8) .nil)) .nil))) .nil)))) e0 (rng 0 m 1) S1) fun l S2 => ∃ us js : List Int, l = (us.map fun v => ls (z.take v.toNat)).map D.str ∧ us.length = m ∧ Sz us js ∧ ∃ T, W S a (C + 6) T S2 := by
  have q := comp_sat (tg := .nm 7) (c := fun e S => tru (evOc Gs (CC (k + 2)) .none e S)) (t := fun e S => evE Gs (CC (k + 2)) (.slc true (.var 5) .none (.some (.mth "list" "pop" (.var 8) (.cons (.call "_law_take" (.cons (.var 0) (.cons (.blt true "len" (.cons (.var 8) .nil)) .nil))) .nil)))) e S) (e0 := e0) (l := rng 0 m 1)
    (fun i acc S' => ∃ (us js : List Int), acc = (us.map fun v => ls (z.take v.toNat)).map D.str ∧ us.length = i ∧ js.length + i = 6 ∧ Sz us js ∧ W S a (C + i) [o, .lst (js.map .int)] S') (fun i d acc S' hd hI => by
      obtain ⟨us, js, rfl, hl, hj, hp, u⟩ := hI
      obtain ⟨hi, rfl⟩ := rng_get0 hd
      refine ⟨_, rfl, ?_⟩
      simp only [oc_none, tru, R.bind_ok, tr_b, ofO_some]
      refine .ok ?_
      rw [if_pos rfl]
      refine ⟨sz' (by simp; omega), ?_⟩
      have e1 : ∀ d, (e0.set 7 (some d))[0]? = some (some (.ref a)) := fun d => by rw [List.getElem?_set_ne (by decide), h0]
      have e2 : ∀ d, (e0.set 7 (some d))[5]? = some (some (.str (ls z))) := fun d => by rw [List.getElem?_set_ne (by decide), h5]
      have e3 : ∀ d, (e0.set 7 (some d))[8]? = some (some (.ref (S.length + 1))) := fun d => by rw [List.getElem?_set_ne (by decide), h8]
      have g : S'[S.length + 1]? = some (.lst (js.map .int)) := u.get 1
      simp only [v_slc, o_none, o_some, v_mth, v_call, v_blt, v_var, s_cons, s_nil, e1, e2, e3, R.bind_ok, R.bind_assoc, recv_r g, ofO_some, len_r g, List.length_map]
      refine (W.take k u ha (js.length : Int) (by omega) (by omega)).bind fun d S2 ⟨v, hd, hv0, hv1, u2⟩ => ?_
      subst hd
      have g2 : S2[S.length + 1]? = some (.lst (js.map .int)) := u2.get 1
      have hv : v.toNat < js.length := by omega
      have gd : (js.map D.int)[v.toNat]? = some (.int js[v.toNat]) := by
        rw [List.getElem?_map, List.getElem?_eq_getElem hv]
        rfl
      have hb := hp.mem js[v.toNat] (List.mem_append_right _ (List.getElem_mem hv))
      have hc : L2.cutS (ls z) none (some js[v.toNat]) = ls (z.take js[v.toNat].toNat) := by
        have := ls_to (a := z) (n := js[v.toNat].toNat)
        rwa [Int.toNat_of_nonneg (by omega)] at this
      simp only [R.bind_ok, pop_r g2 hv0 (by simpa using hv1) (by simp; omega) gd, optI_i, ofO_some, slc_ls (v := true) (a := z) (lo := none) (by omega), hc]
      have u3 := u2.set 1 (.lst ((js.eraseIdx v.toNat).map .int))
      refine .ok ⟨us ++ [js[v.toNat]], js.eraseIdx v.toNat, by simp, by simp [hl], by rw [List.length_eraseIdx_of_lt hv]; omega, hp.step _ hv, ?_⟩
      have e : (js.map D.int).eraseIdx v.toNat = (js.eraseIdx v.toNat).map .int := erase_map _ _
      rw [e]
      exact W.weak u3 (by push_cast; omega)) (acc := []) (S := S1) ⟨[], [1, 2, 3, 4, 5, 6], rfl, rfl, by simp, .refl _, w.weak (by omega)⟩
  rw [rng_len] at q
  exact Sat.imp q fun l S2 ⟨us, js, h1, h2, _, h3, u⟩ => ⟨us, js, h1, h2, h3, _, u.weak (by omega)⟩
theorem pls_strs {ys : List Str} (h : ∀ y ∈ ys, PyData.strOk y = true ∧ y.length ≤ 1000) : pls (ys.map D.str) = true := pls_of fun d hd => by
  obtain ⟨y, hy, rfl⟩ := List.mem_map.mp hd
  simp only [pl, Bool.and_eq_true, decide_eq_true_eq]
  exact h y hy
theorem bel_strs {n : Nat} {ys : List Str} : belows n (ys.map D.str) = true := by
  induction ys with
  | nil => rfl
  | cons y r ih => simp only [List.map_cons, belows, below, ih, Bool.and_self]
theorem outD_str {S : Store} {n : Nat} {ys : List Str} : outD S n (.lst (ys.map D.str)) = some (.lst (ys.map D.str)) := outD_below (by simp only [below]; exact bel_strs)
theorem outD_ref {S : Store} {n j : Nat} {ys : List Str} (hj : n ≤ j) (h : S[j]? = some (.lst (ys.map D.str))) : outD S n (.ref j) = some (.lst (ys.map D.str)) := by
  unfold outD
  rw [if_neg (by simp [below]; omega)]
  dsimp only
  rw [h]
  dsimp only
  rw [if_pos bel_strs]
/-- what each name is: a first sign, good -/
structure N1 (f : Int) (i : Nat) (l : List Nat) : Prop where
  hd : l.head? = abcL[((f + 5 * (i : Int)) % 26).toNat]?
  nm : nmS (ls l) = true
  ok : PyData.strOk (ls l) = true
theorem sml_q : sml [113] := fun c hc => by rw [List.mem_singleton.mp hc]; decide
/-- names, one by one -/
theorem c_each (k : Nat) (S S1 : Store) (a m : Nat) (C : Int) (z : List Nat) (hz : z.length = 6) (hs : sml z) (hm : m ≤ 6) (f : Int) (hf : 0 ≤ f ∧ f < 1000) (x7 x8 x9 : Option D) (w : W S a C [.lst (heard.map D.str), .lst []] S1) (ha : a < S.length) (hC : C < 100000) :
    Sat (forB Gs 1000000 (CC (k + 2)) [] (.nm 7) (.cons (.set 9 (.slc true (.bin true .Add (.sub (.var 2) (.bin true .Mod (.bin true .Add (.var 4) (.bin true .Mult (.int 5) (.var 7))) (.int 26))) (.var 5)) .none (.some (.bin true .Add (.int 1) (.call "_law_take" (.cons (.var 0) (.cons (.int 6) .nil)))))))
      (.cons (.expr (.mth "list" "append" (.var 6) (.cons (.ife (.cmp .In (.var 9) (.var 3)) (.bin true .Add (.slc true (.var 9) .none (.some (.neg (.int 1)))) (.str "q")) (.var 9)) .nil)))
      .nil)) (rng 0 m 1) [some (.ref a), some (.int (m : Int)), some (.str abc), some (.ref S.length), some (.int f), some (.str (ls z)), some (.ref (S.length + 1)), x7, x8, x9] S1)
      fun r S2 => ∃ (ns : List (List Nat)) (y7 y8 y9 : Option D), r = .nx [some (.ref a), some (.int (m : Int)), some (.str abc), some (.ref S.length), some (.int f), some (.str (ls z)), some (.ref (S.length + 1)), y7, y8, y9] ∧ ns.length = m ∧ (∀ j l, ns[j]? = some l → N1 f j l) ∧ W S a (C + 6) [.lst (heard.map D.str), .lst ((ns.map ls).map D.str)] S2 := by
  unfold forB
  refine for_sat (fun i e S' => ∃ (ns : List (List Nat)) (y7 y8 y9 : Option D), e = [some (.ref a), some (.int (m : Int)), some (.str abc), some (.ref S.length), some (.int f), some (.str (ls z)), some (.ref (S.length + 1)), y7, y8, y9] ∧ ns.length = i ∧ i ≤ m ∧ (∀ j l, ns[j]? = some l → N1 f j l) ∧ W S a (C + i) [.lst (heard.map D.str), .lst ((ns.map ls).map D.str)] S') ?_ ?_ ⟨[], x7, x8, x9, rfl, rfl, Nat.zero_le _, (fun j l h => by simp at h), w.weak (by omega)⟩
  · rintro i d e S' hd ⟨ns, y7, y8, y9, rfl, hl, him, hall, u⟩
    obtain ⟨hi, rfl⟩ := rng_get0 hd
    refine ⟨_, rfl, ?_⟩
    have hmod0 : 0 ≤ (f + 5 * (i : Int)) % 26 := Int.emod_nonneg _ (by decide)
    have hmod1 : (f + 5 * (i : Int)) % 26 < 26 := Int.emod_lt_of_pos _ (by decide)
    obtain ⟨c, hy, hat, hc⟩ := abc_at hmod0 hmod1 (S := S')
    have sc : sml (c :: z) := fun x hx => (List.mem_cons.mp hx).elim (fun q => q ▸ hc) (hs x)
    simp only [v_dict1, v_tzip, v_inv, x_keptX, v_lens, v_dict0, v_rvs, v_comp2, v_maxd, v_dict, v_dget, x_dput, x_par, par_k, i_rngD, i_zip, v_agen, v_glob, v_chain, v_isx, x_raise, x_kept, x_nil, x_cons, x_set, x_unp, x_sets, x_expr, x_ret, x_pass, x_brk, x_cont, x_ite, x_for, x_whl, v_bl, v_int, v_str, v_ty, v_non, v_var, v_tup, v_lst, v_bin, v_neg, v_not, v_cmp, v_and, v_or, v_ife, v_call, v_blt, v_mth, v_sub, v_slc, v_comp, o_none, o_some, s_nil, s_cons, i_seq, i_rng1, i_rng2, i_enum, nx_nx, nx_rt, nx_bk, nx_ct, ite_t, ite_f, and_t, and_f, or_t, or_f, R.bind_ok, R.bind_assoc, ofO_some, tr_b, optI_i, itm_t, itm_l, seqL_l, gdOf_tup, gdOf_lst, neg_i, aug_i, add_i, sub_i, slc_t, slc_l, add_l, len_t, len_l, list_t, list_l, tuple_l, max_i, ls_i, le_i, gt_i, ge_i, sub_t, sub_l, List.getElem?_cons_zero, List.getElem?_cons_succ, List.set_cons_zero, List.set_cons_succ, Bool.not_true, Bool.not_false, mul_l (i := 5) (by decide), mod_i (j := 26) (by decide), hy, add_ls (a := [c]) (b := z) (S := S') (v := true) (by simp; omega)]
    refine (W.take k u ha 6 (by decide) (by omega)).bind fun d S2 ⟨v, hd, hv0, hv1, u2⟩ => ?_
    subst hd
    have ec : L2.cutS (ls ([c] ++ z)) none (some (1 + v)) = ls (c :: z.take v.toNat) := by
      have := ls_to (a := [c] ++ z) (n := v.toNat + 1)
      rw [show ((v.toNat + 1 : Nat) : Int) = 1 + v by omega] at this
      rw [this]
      rfl
    simp only [v_dict1, v_tzip, v_inv, x_keptX, v_lens, v_dict0, v_rvs, v_comp2, v_maxd, v_dict, v_dget, x_dput, x_par, par_k, i_rngD, i_zip, v_agen, v_glob, v_chain, v_isx, x_raise, x_kept, x_nil, x_cons, x_set, x_unp, x_sets, x_expr, x_ret, x_pass, x_brk, x_cont, x_ite, x_for, x_whl, v_bl, v_int, v_str, v_ty, v_non, v_var, v_tup, v_lst, v_bin, v_neg, v_not, v_cmp, v_and, v_or, v_ife, v_call, v_blt, v_mth, v_sub, v_slc, v_comp, o_none, o_some, s_nil, s_cons, i_seq, i_rng1, i_rng2, i_enum, nx_nx, nx_rt, nx_bk, nx_ct, ite_t, ite_f, and_t, and_f, or_t, or_f, R.bind_ok, R.bind_assoc, ofO_some, tr_b, optI_i, itm_t, itm_l, seqL_l, gdOf_tup, gdOf_lst, neg_i, aug_i, add_i, sub_i, slc_t, slc_l, add_l, len_t, len_l, list_t, list_l, tuple_l, max_i, ls_i, le_i, gt_i, ge_i, sub_t, sub_l, List.getElem?_cons_zero, List.getElem?_cons_succ, List.set_cons_zero, List.set_cons_succ, Bool.not_true, Bool.not_false, slc_ls (v := true) (a := [c] ++ z) (S := S2) (lo := none) (by simp; omega), ec]
    have g0 : S2[S.length]? = some (.lst (heard.map D.str)) := u2.get 0
    have g1 : S2[S.length + 1]? = some (.lst ((ns.map ls).map D.str)) := u2.get 1
    have snm : sml (c :: z.take v.toNat) := fun x hx => (List.mem_cons.mp hx).elim (fun q => q ▸ hc) (sml_take hs x)
    have lnm : (c :: z.take v.toNat).length = 1 + v.toNat := by simp [hz]; omega
    have hb := in_strr (x := ls (c :: z.take v.toNat)) g0 (sml_ok snm) heard_ok
    have fin : ∀ nm' : List Nat, N1 f i nm' → Sat ((mthA "list" "append" (.ref (S.length + 1)) [.str (ls nm')] S2).bind fun _ S3 => (R.ok (F.nx [some (.ref a), some (.int (m : Int)), some (.str abc), some (.ref S.length), some (.int f), some (.str (ls z)), some (.ref (S.length + 1)), some (.int (i : Int)), y8, some (.str (ls (c :: z.take v.toNat)))]) S3 : R F))
        (nxQ (fun e S' => ∃ (ns : List (List Nat)) (y7 y8 y9 : Option D), e = [some (.ref a), some (.int (m : Int)), some (.str abc), some (.ref S.length), some (.int f), some (.str (ls z)), some (.ref (S.length + 1)), y7, y8, y9] ∧ ns.length = i + 1 ∧ i + 1 ≤ m ∧ (∀ j l, ns[j]? = some l → N1 f j l) ∧ W S a (C + ((i + 1 : Nat) : Int)) [.lst (heard.map D.str), .lst ((ns.map ls).map D.str)] S') fun r S2 => ∃ (ns : List (List Nat)) (y7 y8 y9 : Option D), r = .nx [some (.ref a), some (.int (m : Int)), some (.str abc), some (.ref S.length), some (.int f), some (.str (ls z)), some (.ref (S.length + 1)), y7, y8, y9] ∧ ns.length = m ∧ (∀ j l, ns[j]? = some l → N1 f j l) ∧ W S a (C + 6) [.lst (heard.map D.str), .lst ((ns.map ls).map D.str)] S2) := fun nm' hn => by
      rw [append_r g1 (sz' (by simp; omega)), R.bind_ok]
      have u3 := u2.set 1 (.lst (((ns ++ [nm']).map ls).map D.str))
      refine .ok ⟨ns ++ [nm'], _, _, _, rfl, by simp [hl], by omega, fun j l hj => ?_, ?_⟩
      · by_cases hji : j < ns.length
        · rw [List.getElem?_append_left hji] at hj
          exact hall j l hj
        · rw [List.getElem?_append_right (by omega)] at hj
          have : j - ns.length = 0 := by
            have := (List.getElem?_eq_some_iff.mp hj).1
            simp at this
            omega
          rw [this] at hj
          cases hj
          have : j = i := by omega
          subst this
          exact hn
      · have e : (ns.map ls).map D.str ++ [D.str (ls nm')] = ((ns ++ [nm']).map ls).map D.str := by simp
        rw [e]
        exact W.weak u3 (by push_cast; omega)
    by_cases hh : ls (c :: z.take v.toNat) ∈ heard
    · rw [decide_eq_true hh] at hb
      have h2 := heard_2 _ hh
      rw [ls_cps] at h2
      have s9 : sml (c :: z.take v.toNat).dropLast := sml_butl snm
      simp only [v_dict1, v_tzip, v_inv, x_keptX, v_lens, v_dict0, v_rvs, v_comp2, v_maxd, v_dict, v_dget, x_dput, x_par, par_k, i_rngD, i_zip, v_agen, v_glob, v_chain, v_isx, x_raise, x_kept, x_nil, x_cons, x_set, x_unp, x_sets, x_expr, x_ret, x_pass, x_brk, x_cont, x_ite, x_for, x_whl, v_bl, v_int, v_str, v_ty, v_non, v_var, v_tup, v_lst, v_bin, v_neg, v_not, v_cmp, v_and, v_or, v_ife, v_call, v_blt, v_mth, v_sub, v_slc, v_comp, o_none, o_some, s_nil, s_cons, i_seq, i_rng1, i_rng2, i_enum, nx_nx, nx_rt, nx_bk, nx_ct, ite_t, ite_f, and_t, and_f, or_t, or_f, R.bind_ok, R.bind_assoc, ofO_some, tr_b, optI_i, itm_t, itm_l, seqL_l, gdOf_tup, gdOf_lst, neg_i, aug_i, add_i, sub_i, slc_t, slc_l, add_l, len_t, len_l, list_t, list_l, tuple_l, max_i, ls_i, le_i, gt_i, ge_i, sub_t, sub_l, List.getElem?_cons_zero, List.getElem?_cons_succ, List.set_cons_zero, List.set_cons_succ, Bool.not_true, Bool.not_false, recv_r g1, hb, if_true, slc_ls (v := true) (a := c :: z.take v.toNat) (S := S2) (lo := none) (hi := some (-1)) (by omega), ls_butl (a := c :: z.take v.toNat) (by omega), q_ls, add_ls (a := (c :: z.take v.toNat).dropLast) (b := [113]) (S := S2) (v := true) (by rw [List.length_dropLast]; simp; omega)]
      refine fin _ ⟨?_, ?_, ?_⟩
      · rw [hat]
        match hz2 : z.take v.toNat, h2 with
        | [], h2 => simp [hz2] at h2
        | x :: r, _ => simp
      · refine nm_of (by simp) (by rw [List.length_append, List.length_dropLast]; simp; omega) (sml_app s9 sml_q) fun hw => wds_q _ hw ?_
        rw [ls_cps]
        simp
      · exact sml_ok (sml_app s9 sml_q)
    · rw [decide_eq_false hh] at hb
      simp only [v_dict1, v_tzip, v_inv, x_keptX, v_lens, v_dict0, v_rvs, v_comp2, v_maxd, v_dict, v_dget, x_dput, x_par, par_k, i_rngD, i_zip, v_agen, v_glob, v_chain, v_isx, x_raise, x_kept, x_nil, x_cons, x_set, x_unp, x_sets, x_expr, x_ret, x_pass, x_brk, x_cont, x_ite, x_for, x_whl, v_bl, v_int, v_str, v_ty, v_non, v_var, v_tup, v_lst, v_bin, v_neg, v_not, v_cmp, v_and, v_or, v_ife, v_call, v_blt, v_mth, v_sub, v_slc, v_comp, o_none, o_some, s_nil, s_cons, i_seq, i_rng1, i_rng2, i_enum, nx_nx, nx_rt, nx_bk, nx_ct, ite_t, ite_f, and_t, and_f, or_t, or_f, R.bind_ok, R.bind_assoc, ofO_some, tr_b, optI_i, itm_t, itm_l, seqL_l, gdOf_tup, gdOf_lst, neg_i, aug_i, add_i, sub_i, slc_t, slc_l, add_l, len_t, len_l, list_t, list_l, tuple_l, max_i, ls_i, le_i, gt_i, ge_i, sub_t, sub_l, List.getElem?_cons_zero, List.getElem?_cons_succ, List.set_cons_zero, List.set_cons_succ, Bool.not_true, Bool.not_false, recv_r g1, hb, Bool.false_eq_true, if_false]
      refine fin _ ⟨?_, nm_of (by omega) (by omega) snm (not_wds hh (by omega)), sml_ok snm⟩
      rw [hat]
      rfl
  · rintro e S' ⟨ns, y7, y8, y9, rfl, hl, him, hall, u⟩
    rw [rng_len] at hl u
    exact ⟨ns, y7, y8, y9, rfl, hl, hall, u.weak (by omega)⟩
end K01

namespace K01
open PySem Mn

theorem rng2_ok {α : Type} {x y : α} : (if -(2 ^ 62) ≤ (1 : Int) ∧ (1 : Int) < 2 ^ 62 ∧ -(2 ^ 62) ≤ (7 : Int) ∧ (7 : Int) < 2 ^ 62 then x else y) = x := if_pos (by decide)
theorem abc_eq : Str.ofString "abcdefghijklmnopqrstuvwxyz" = abc := nr rfl
/-- a row of good names -/
structure Ns (ys : List Str) : Prop where
  nd : ys.Nodup
  nm : ∀ x ∈ ys, nmS x = true
  ok : ∀ x ∈ ys, PyData.strOk x = true
theorem ns_sizes {z : List Nat} (hz : z.length = 6) (hs : sml z) (hh : ∀ n, n < 6 → ls (z.take (n + 1)) ∉ heard) {us js : List Int} (h : Sz us js) : Ns (us.map fun v => ls (z.take v.toNat)) := by
  have hu : ∀ v ∈ us, 1 ≤ v ∧ v ≤ 6 := fun v hv => h.mem v (List.mem_append_left _ hv)
  refine ⟨?_, fun x hx => ?_, fun x hx => ?_⟩
  · unfold List.Nodup
    rw [List.pairwise_map]
    refine List.Pairwise.imp_of_mem ?_ h.nd
    intro u v hu1 hv1 hne e
    have := congrArg List.length (ls_inj e)
    rw [List.length_take, List.length_take, hz] at this
    have := hu u hu1
    have := hu v hv1
    omega
  · obtain ⟨v, hv, rfl⟩ := List.mem_map.mp hx
    have hb := hu v hv
    have ll : (z.take v.toNat).length = v.toNat := by rw [List.length_take, hz]; omega
    refine nm_of (by omega) (by omega) (sml_take hs) (not_wds ?_ (by omega))
    have := hh (v.toNat - 1) (by omega)
    rwa [show v.toNat - 1 + 1 = v.toNat by omega] at this
  · obtain ⟨v, hv, rfl⟩ := List.mem_map.mp hx
    exact sml_ok (sml_take hs)
theorem abcL_at : ∀ n : Nat, n < 26 → abcL[n]? = some (97 + n) := by decide
theorem ns_each {f : Int} {ns : List (List Nat)} (hn : ns.length ≤ 6) (h : ∀ j l, ns[j]? = some l → N1 f j l) : Ns (ns.map ls) := by
  refine ⟨?_, fun x hx => ?_, fun x hx => ?_⟩
  · unfold List.Nodup
    rw [List.pairwise_map, List.pairwise_iff_getElem]
    intro i j hi hj hij e
    have e := ls_inj e
    have h1 := (h i _ (List.getElem?_eq_getElem hi)).hd
    have h2 := (h j _ (List.getElem?_eq_getElem hj)).hd
    rw [e, h2] at h1
    have a0 : 0 ≤ (f + 5 * (i : Int)) % 26 := Int.emod_nonneg _ (by decide)
    have a1 : (f + 5 * (i : Int)) % 26 < 26 := Int.emod_lt_of_pos _ (by decide)
    have b0 : 0 ≤ (f + 5 * (j : Int)) % 26 := Int.emod_nonneg _ (by decide)
    have b1 : (f + 5 * (j : Int)) % 26 < 26 := Int.emod_lt_of_pos _ (by decide)
    rw [abcL_at _ (by omega), abcL_at _ (by omega)] at h1
    simp only [Option.some.injEq] at h1
    omega
  · obtain ⟨l, hl, rfl⟩ := List.mem_map.mp hx
    obtain ⟨j, hj⟩ := List.mem_iff_getElem?.mp hl
    exact (h j l hj).nm
  · obtain ⟨l, hl, rfl⟩ := List.mem_map.mp hx
    obtain ⟨j, hj⟩ := List.mem_iff_getElem?.mp hl
    exact (h j l hj).ok
theorem c_names (k : Nat) (S : Store) (a m : Nat) (C : Int) (h : Stm S a C) (hC : C < 50000) (hm : m ≤ 6) :
    Sat (CC (k + 3) "_law_names_by" [.ref a, .int (m : Int)] S) fun d S' => ∃ ys : List Str, d = .lst (ys.map D.str) ∧ ys.length = m ∧ Ns ys ∧ Upd S a S' (C + 40) := by
  have ha := h.lt
  have nn := Upd.refl h
  show Sat (leave .pure S (exB Gs 1000000 (CC (k + 2)) d__law_names_by.body [some (.ref a), some (.int (m : Int)), none, none, none, none, none, none, none, none] S)) _
  refine W.leave (a := a) (C := C + 40) ?_
  have w0 := (W.mk h).push (.lst (heard.map D.str))
  simp (disch := (simp only [List.length_cons, List.length_nil]; decide)) only [d__law_names_by, v_dict1, v_tzip, v_inv, x_keptX, v_lens, v_dict0, v_rvs, v_comp2, v_maxd, v_dict, v_dget, x_dput, x_par, par_k, i_rngD, i_zip, v_agen, v_glob, v_chain, v_isx, x_raise, x_kept, x_nil, x_cons, x_set, x_unp, x_sets, x_expr, x_ret, x_pass, x_brk, x_cont, x_ite, x_for, x_whl, v_bl, v_int, v_str, v_ty, v_non, v_var, v_tup, v_lst, v_bin, v_neg, v_not, v_cmp, v_and, v_or, v_ife, v_call, v_blt, v_mth, v_sub, v_slc, v_comp, o_none, o_some, s_nil, s_cons, i_seq, i_rng1, i_rng2, i_enum, nx_nx, nx_rt, nx_bk, nx_ct, ite_t, ite_f, and_t, and_f, or_t, or_f, R.bind_ok, R.bind_assoc, ofO_some, tr_b, optI_i, itm_t, itm_l, seqL_l, gdOf_tup, gdOf_lst, neg_i, aug_i, add_i, sub_i, slc_t, slc_l, add_l, len_t, len_l, list_t, list_l, tuple_l, max_i, ls_i, le_i, gt_i, ge_i, sub_t, sub_l, List.getElem?_cons_zero, List.getElem?_cons_succ, List.set_cons_zero, List.set_cons_succ, Bool.not_true, Bool.not_false, abc_eq, mkL_r, recv_p, append_p, List.cons_append, List.nil_append]
  rw [show ([D.str "yes", D.str "no", D.str "not", D.str "and", D.str "or", D.str "before", D.str "since", D.str "was", D.str "given", D.str "wanted", D.str "always", D.str "again", D.str "comes"] : List D) = heard.map D.str from rfl]
  generalize S ++ [O.lst (heard.map D.str)] = S1 at w0 ⊢
  refine (W.take k w0 ha 26 (by decide) (by omega)).bind fun d S2 ⟨f, hd, hf0, hf1, w1⟩ => ?_
  subst hd
  simp only [v_dict1, v_tzip, v_inv, x_keptX, v_lens, v_dict0, v_rvs, v_comp2, v_maxd, v_dict, v_dget, x_dput, x_par, par_k, i_rngD, i_zip, v_agen, v_glob, v_chain, v_isx, x_raise, x_kept, x_nil, x_cons, x_set, x_unp, x_sets, x_expr, x_ret, x_pass, x_brk, x_cont, x_ite, x_for, x_whl, v_bl, v_int, v_str, v_ty, v_non, v_var, v_tup, v_lst, v_bin, v_neg, v_not, v_cmp, v_and, v_or, v_ife, v_call, v_blt, v_mth, v_sub, v_slc, v_comp, o_none, o_some, s_nil, s_cons, i_seq, i_rng1, i_rng2, i_enum, nx_nx, nx_rt, nx_bk, nx_ct, ite_t, ite_f, and_t, and_f, or_t, or_f, R.bind_ok, R.bind_assoc, ofO_some, tr_b, optI_i, itm_t, itm_l, seqL_l, gdOf_tup, gdOf_lst, neg_i, aug_i, add_i, sub_i, slc_t, slc_l, add_l, len_t, len_l, list_t, list_l, tuple_l, max_i, ls_i, le_i, gt_i, ge_i, sub_t, sub_l, List.getElem?_cons_zero, List.getElem?_cons_succ, List.set_cons_zero, List.set_cons_succ, Bool.not_true, Bool.not_false, recv_s, rng_ok (by decide : (0 : Int) ≤ 6) (by decide), show (6 : Int).toNat = 6 from rfl]
  refine (c_letters6 k S S2 _ a (C + 1) _ rfl rfl w1 ha (by omega)).bind fun l S3 ⟨z, hl, h6, hs, w2⟩ => ?_
  subst hl
  have js : mthA "str" "join" (.str "") [.lst ((z.map fun c => ls [c]).map D.str)] S3 = .ok (.str (ls z)) S3 := by
    rw [join_l (by rw [sum_len, show Str.length "" = 0 by decide +kernel]; omega), TL.join_eq, join_ls]
  simp only [mkL_v (l := (z.map fun c => ls [c]).map D.str) (sz (by simp; omega)), v_dict1, v_tzip, v_inv, x_keptX, v_lens, v_dict0, v_rvs, v_comp2, v_maxd, v_dict, v_dget, x_dput, x_par, par_k, i_rngD, i_zip, v_agen, v_glob, v_chain, v_isx, x_raise, x_kept, x_nil, x_cons, x_set, x_unp, x_sets, x_expr, x_ret, x_pass, x_brk, x_cont, x_ite, x_for, x_whl, v_bl, v_int, v_str, v_ty, v_non, v_var, v_tup, v_lst, v_bin, v_neg, v_not, v_cmp, v_and, v_or, v_ife, v_call, v_blt, v_mth, v_sub, v_slc, v_comp, o_none, o_some, s_nil, s_cons, i_seq, i_rng1, i_rng2, i_enum, nx_nx, nx_rt, nx_bk, nx_ct, ite_t, ite_f, and_t, and_f, or_t, or_f, R.bind_ok, R.bind_assoc, ofO_some, tr_b, optI_i, itm_t, itm_l, seqL_l, gdOf_tup, gdOf_lst, neg_i, aug_i, add_i, sub_i, slc_t, slc_l, add_l, len_t, len_l, list_t, list_l, tuple_l, max_i, ls_i, le_i, gt_i, ge_i, sub_t, sub_l, List.getElem?_cons_zero, List.getElem?_cons_succ, List.set_cons_zero, List.set_cons_succ, Bool.not_true, Bool.not_false, js]
  refine (W.take k w2 ha 2 (by decide) (by omega)).bind fun d S4 ⟨v, hd, hv0, hv1, w3⟩ => ?_
  subst hd
  simp only [v_dict1, v_tzip, v_inv, x_keptX, v_lens, v_dict0, v_rvs, v_comp2, v_maxd, v_dict, v_dget, x_dput, x_par, par_k, i_rngD, i_zip, v_agen, v_glob, v_chain, v_isx, x_raise, x_kept, x_nil, x_cons, x_set, x_unp, x_sets, x_expr, x_ret, x_pass, x_brk, x_cont, x_ite, x_for, x_whl, v_bl, v_int, v_str, v_ty, v_non, v_var, v_tup, v_lst, v_bin, v_neg, v_not, v_cmp, v_and, v_or, v_ife, v_call, v_blt, v_mth, v_sub, v_slc, v_comp, o_none, o_some, s_nil, s_cons, i_seq, i_rng1, i_rng2, i_enum, nx_nx, nx_rt, nx_bk, nx_ct, ite_t, ite_f, and_t, and_f, or_t, or_f, R.bind_ok, R.bind_assoc, ofO_some, tr_b, optI_i, itm_t, itm_l, seqL_l, gdOf_tup, gdOf_lst, neg_i, aug_i, add_i, sub_i, slc_t, slc_l, add_l, len_t, len_l, list_t, list_l, tuple_l, max_i, ls_i, le_i, gt_i, ge_i, sub_t, sub_l, List.getElem?_cons_zero, List.getElem?_cons_succ, List.set_cons_zero, List.set_cons_succ, Bool.not_true, Bool.not_false, eq_i]
  cases hb : decide (v = 1) with
  | true =>
    simp only [v_dict1, v_tzip, v_inv, x_keptX, v_lens, v_dict0, v_rvs, v_comp2, v_maxd, v_dict, v_dget, x_dput, x_par, par_k, i_rngD, i_zip, v_agen, v_glob, v_chain, v_isx, x_raise, x_kept, x_nil, x_cons, x_set, x_unp, x_sets, x_expr, x_ret, x_pass, x_brk, x_cont, x_ite, x_for, x_whl, v_bl, v_int, v_str, v_ty, v_non, v_var, v_tup, v_lst, v_bin, v_neg, v_not, v_cmp, v_and, v_or, v_ife, v_call, v_blt, v_mth, v_sub, v_slc, v_comp, o_none, o_some, s_nil, s_cons, i_seq, i_rng1, i_rng2, i_enum, nx_nx, nx_rt, nx_bk, nx_ct, ite_t, ite_f, and_t, and_f, or_t, or_f, R.bind_ok, R.bind_assoc, ofO_some, tr_b, optI_i, itm_t, itm_l, seqL_l, gdOf_tup, gdOf_lst, neg_i, aug_i, add_i, sub_i, slc_t, slc_l, add_l, len_t, len_l, list_t, list_l, tuple_l, max_i, ls_i, le_i, gt_i, ge_i, sub_t, sub_l, List.getElem?_cons_zero, List.getElem?_cons_succ, List.set_cons_zero, List.set_cons_succ, Bool.not_true, Bool.not_false, rng2_ok, show ((7 : Int) - 1).toNat = 6 from rfl]
    have g0 : S4[S.length]? = some (.lst (heard.map D.str)) := w3.get 0
    refine (c_heard (k + 2) S S4 _ a S.length _ _ z h6 hs (by simp [wipe]) rfl rfl g0 w3).bind fun l S5 ⟨hS, hl⟩ => ?_
    subst hS hl
    simp only [mkL_v (l := ((List.range 6).map fun i => decide (ls (z.take (i + 1)) ∈ heard)).map D.bl) (sz (by simp)), v_dict1, v_tzip, v_inv, x_keptX, v_lens, v_dict0, v_rvs, v_comp2, v_maxd, v_dict, v_dget, x_dput, x_par, par_k, i_rngD, i_zip, v_agen, v_glob, v_chain, v_isx, x_raise, x_kept, x_nil, x_cons, x_set, x_unp, x_sets, x_expr, x_ret, x_pass, x_brk, x_cont, x_ite, x_for, x_whl, v_bl, v_int, v_str, v_ty, v_non, v_var, v_tup, v_lst, v_bin, v_neg, v_not, v_cmp, v_and, v_or, v_ife, v_call, v_blt, v_mth, v_sub, v_slc, v_comp, o_none, o_some, s_nil, s_cons, i_seq, i_rng1, i_rng2, i_enum, nx_nx, nx_rt, nx_bk, nx_ct, ite_t, ite_f, and_t, and_f, or_t, or_f, R.bind_ok, R.bind_assoc, ofO_some, tr_b, optI_i, itm_t, itm_l, seqL_l, gdOf_tup, gdOf_lst, neg_i, aug_i, add_i, sub_i, slc_t, slc_l, add_l, len_t, len_l, list_t, list_l, tuple_l, max_i, ls_i, le_i, gt_i, ge_i, sub_t, sub_l, List.getElem?_cons_zero, List.getElem?_cons_succ, List.set_cons_zero, List.set_cons_succ, Bool.not_true, Bool.not_false, any_l]
    refine Sat.bind (P := fun r S6 => S6 = S5 ∧ ∃ z' : List Nat, z'.length = 6 ∧ sml z' ∧ (∀ n, n < 6 → ls (z'.take (n + 1)) ∉ heard) ∧ r = F.nx [some (.ref a), some (.int (m : Int)), some (.str abc), some (.ref S.length), some (.int f), some (.str (ls z')), none, none, none, none]) ?_ fun r S6 ⟨hS5, z', hz', hs', hh', hr⟩ => ?_
    · cases hh : ((List.range 6).map fun i => decide (ls (z.take (i + 1)) ∈ heard)).any id with
      | true =>
        have ef : L2.cutS (ls z) (some 1) none = ls (z.drop 1) := ls_from (a := z) (n := 1) (by omega)
        simp only [v_dict1, v_tzip, v_inv, x_keptX, v_lens, v_dict0, v_rvs, v_comp2, v_maxd, v_dict, v_dget, x_dput, x_par, par_k, i_rngD, i_zip, v_agen, v_glob, v_chain, v_isx, x_raise, x_kept, x_nil, x_cons, x_set, x_unp, x_sets, x_expr, x_ret, x_pass, x_brk, x_cont, x_ite, x_for, x_whl, v_bl, v_int, v_str, v_ty, v_non, v_var, v_tup, v_lst, v_bin, v_neg, v_not, v_cmp, v_and, v_or, v_ife, v_call, v_blt, v_mth, v_sub, v_slc, v_comp, o_none, o_some, s_nil, s_cons, i_seq, i_rng1, i_rng2, i_enum, nx_nx, nx_rt, nx_bk, nx_ct, ite_t, ite_f, and_t, and_f, or_t, or_f, R.bind_ok, R.bind_assoc, ofO_some, tr_b, optI_i, itm_t, itm_l, seqL_l, gdOf_tup, gdOf_lst, neg_i, aug_i, add_i, sub_i, slc_t, slc_l, add_l, len_t, len_l, list_t, list_l, tuple_l, max_i, ls_i, le_i, gt_i, ge_i, sub_t, sub_l, List.getElem?_cons_zero, List.getElem?_cons_succ, List.set_cons_zero, List.set_cons_succ, Bool.not_true, Bool.not_false, slc_ls (v := true) (a := z) (by omega), ef, q_ls, add_ls (a := [113]) (b := z.drop 1) (by simp; omega)]
        refine .ok ⟨rfl, _, by simp; omega, sml_app sml_q (sml_drop hs), fun n hn hw => heard_q _ hw ?_, rfl⟩
        rw [ls_cps]
        rfl
      | false =>
        simp only [v_dict1, v_tzip, v_inv, x_keptX, v_lens, v_dict0, v_rvs, v_comp2, v_maxd, v_dict, v_dget, x_dput, x_par, par_k, i_rngD, i_zip, v_agen, v_glob, v_chain, v_isx, x_raise, x_kept, x_nil, x_cons, x_set, x_unp, x_sets, x_expr, x_ret, x_pass, x_brk, x_cont, x_ite, x_for, x_whl, v_bl, v_int, v_str, v_ty, v_non, v_var, v_tup, v_lst, v_bin, v_neg, v_not, v_cmp, v_and, v_or, v_ife, v_call, v_blt, v_mth, v_sub, v_slc, v_comp, o_none, o_some, s_nil, s_cons, i_seq, i_rng1, i_rng2, i_enum, nx_nx, nx_rt, nx_bk, nx_ct, ite_t, ite_f, and_t, and_f, or_t, or_f, R.bind_ok, R.bind_assoc, ofO_some, tr_b, optI_i, itm_t, itm_l, seqL_l, gdOf_tup, gdOf_lst, neg_i, aug_i, add_i, sub_i, slc_t, slc_l, add_l, len_t, len_l, list_t, list_l, tuple_l, max_i, ls_i, le_i, gt_i, ge_i, sub_t, sub_l, List.getElem?_cons_zero, List.getElem?_cons_succ, List.set_cons_zero, List.set_cons_succ, Bool.not_true, Bool.not_false]
        refine .ok ⟨rfl, z, h6, hs, fun n hn hw => ?_, rfl⟩
        have := List.any_eq_false.mp hh (decide (ls (z.take (n + 1)) ∈ heard)) (List.mem_map.mpr ⟨n, List.mem_range.mpr hn, rfl⟩)
        simp only [id] at this
        exact this (decide_eq_true hw)
    · subst hS5 hr
      have w4 := w3.push (.lst (([1, 2, 3, 4, 5, 6] : List Int).map D.int))
      simp (disch := (simp only [List.length_cons, List.length_nil]; decide)) only [v_dict1, v_tzip, v_inv, x_keptX, v_lens, v_dict0, v_rvs, v_comp2, v_maxd, v_dict, v_dget, x_dput, x_par, par_k, i_rngD, i_zip, v_agen, v_glob, v_chain, v_isx, x_raise, x_kept, x_nil, x_cons, x_set, x_unp, x_sets, x_expr, x_ret, x_pass, x_brk, x_cont, x_ite, x_for, x_whl, v_bl, v_int, v_str, v_ty, v_non, v_var, v_tup, v_lst, v_bin, v_neg, v_not, v_cmp, v_and, v_or, v_ife, v_call, v_blt, v_mth, v_sub, v_slc, v_comp, o_none, o_some, s_nil, s_cons, i_seq, i_rng1, i_rng2, i_enum, nx_nx, nx_rt, nx_bk, nx_ct, ite_t, ite_f, and_t, and_f, or_t, or_f, R.bind_ok, R.bind_assoc, ofO_some, tr_b, optI_i, itm_t, itm_l, seqL_l, gdOf_tup, gdOf_lst, neg_i, aug_i, add_i, sub_i, slc_t, slc_l, add_l, len_t, len_l, list_t, list_l, tuple_l, max_i, ls_i, le_i, gt_i, ge_i, sub_t, sub_l, List.getElem?_cons_zero, List.getElem?_cons_succ, List.set_cons_zero, List.set_cons_succ, Bool.not_true, Bool.not_false, mkL_r]
      rw [show ([D.int 1, D.int 2, D.int 3, D.int 4, D.int 5, D.int 6] : List D) = ([1, 2, 3, 4, 5, 6] : List Int).map D.int from rfl, w3.len]
      generalize S6 ++ [O.lst (([1, 2, 3, 4, 5, 6] : List Int).map D.int)] = S8 at w4 ⊢
      simp only [v_dict1, v_tzip, v_inv, x_keptX, v_lens, v_dict0, v_rvs, v_comp2, v_maxd, v_dict, v_dget, x_dput, x_par, par_k, i_rngD, i_zip, v_agen, v_glob, v_chain, v_isx, x_raise, x_kept, x_nil, x_cons, x_set, x_unp, x_sets, x_expr, x_ret, x_pass, x_brk, x_cont, x_ite, x_for, x_whl, v_bl, v_int, v_str, v_ty, v_non, v_var, v_tup, v_lst, v_bin, v_neg, v_not, v_cmp, v_and, v_or, v_ife, v_call, v_blt, v_mth, v_sub, v_slc, v_comp, o_none, o_some, s_nil, s_cons, i_seq, i_rng1, i_rng2, i_enum, nx_nx, nx_rt, nx_bk, nx_ct, ite_t, ite_f, and_t, and_f, or_t, or_f, R.bind_ok, R.bind_assoc, ofO_some, tr_b, optI_i, itm_t, itm_l, seqL_l, gdOf_tup, gdOf_lst, neg_i, aug_i, add_i, sub_i, slc_t, slc_l, add_l, len_t, len_l, list_t, list_l, tuple_l, max_i, ls_i, le_i, gt_i, ge_i, sub_t, sub_l, List.getElem?_cons_zero, List.getElem?_cons_succ, List.set_cons_zero, List.set_cons_succ, Bool.not_true, Bool.not_false, rng_ok (by omega : (0 : Int) ≤ (m : Int)) (by omega : (m : Int) < 1000), Int.toNat_natCast]
      refine (c_sizes k S S8 a m _ _ _ z' hz' hm (by simp [wipe]) rfl rfl rfl w4 ha (by omega)).bind fun l S7 ⟨us, js, hl, hx, hp, T, w5⟩ => ?_
      subst hl
      simp only [mkL_v (l := (us.map fun v => ls (z'.take v.toNat)).map D.str) (sz (by simp; omega)), v_dict1, v_tzip, v_inv, x_keptX, v_lens, v_dict0, v_rvs, v_comp2, v_maxd, v_dict, v_dget, x_dput, x_par, par_k, i_rngD, i_zip, v_agen, v_glob, v_chain, v_isx, x_raise, x_kept, x_nil, x_cons, x_set, x_unp, x_sets, x_expr, x_ret, x_pass, x_brk, x_cont, x_ite, x_for, x_whl, v_bl, v_int, v_str, v_ty, v_non, v_var, v_tup, v_lst, v_bin, v_neg, v_not, v_cmp, v_and, v_or, v_ife, v_call, v_blt, v_mth, v_sub, v_slc, v_comp, o_none, o_some, s_nil, s_cons, i_seq, i_rng1, i_rng2, i_enum, nx_nx, nx_rt, nx_bk, nx_ct, ite_t, ite_f, and_t, and_f, or_t, or_f, R.bind_ok, R.bind_assoc, ofO_some, tr_b, optI_i, itm_t, itm_l, seqL_l, gdOf_tup, gdOf_lst, neg_i, aug_i, add_i, sub_i, slc_t, slc_l, add_l, len_t, len_l, list_t, list_l, tuple_l, max_i, ls_i, le_i, gt_i, ge_i, sub_t, sub_l, List.getElem?_cons_zero, List.getElem?_cons_succ, List.set_cons_zero, List.set_cons_succ, Bool.not_true, Bool.not_false]
      exact .ok ⟨_, T, rfl, w5.weak (by omega), _, outD_str, fun S' u => ⟨_, rfl, by rw [List.length_map]; exact hx, ns_sizes hz' hs' hh' hp, u⟩⟩
  | false =>
    simp (disch := (simp only [List.length_nil]; decide)) only [v_dict1, v_tzip, v_inv, x_keptX, v_lens, v_dict0, v_rvs, v_comp2, v_maxd, v_dict, v_dget, x_dput, x_par, par_k, i_rngD, i_zip, v_agen, v_glob, v_chain, v_isx, x_raise, x_kept, x_nil, x_cons, x_set, x_unp, x_sets, x_expr, x_ret, x_pass, x_brk, x_cont, x_ite, x_for, x_whl, v_bl, v_int, v_str, v_ty, v_non, v_var, v_tup, v_lst, v_bin, v_neg, v_not, v_cmp, v_and, v_or, v_ife, v_call, v_blt, v_mth, v_sub, v_slc, v_comp, o_none, o_some, s_nil, s_cons, i_seq, i_rng1, i_rng2, i_enum, nx_nx, nx_rt, nx_bk, nx_ct, ite_t, ite_f, and_t, and_f, or_t, or_f, R.bind_ok, R.bind_assoc, ofO_some, tr_b, optI_i, itm_t, itm_l, seqL_l, gdOf_tup, gdOf_lst, neg_i, aug_i, add_i, sub_i, slc_t, slc_l, add_l, len_t, len_l, list_t, list_l, tuple_l, max_i, ls_i, le_i, gt_i, ge_i, sub_t, sub_l, List.getElem?_cons_zero, List.getElem?_cons_succ, List.set_cons_zero, List.set_cons_succ, Bool.not_true, Bool.not_false, mkL_r]
    have w4 := w3.push (.lst [])
    rw [w3.len]
    generalize S4 ++ [O.lst []] = S6 at w4 ⊢
    simp only [rng_ok (by omega : (0 : Int) ≤ (m : Int)) (by omega : (m : Int) < 1000), Int.toNat_natCast, v_dict1, v_tzip, v_inv, x_keptX, v_lens, v_dict0, v_rvs, v_comp2, v_maxd, v_dict, v_dget, x_dput, x_par, par_k, i_rngD, i_zip, v_agen, v_glob, v_chain, v_isx, x_raise, x_kept, x_nil, x_cons, x_set, x_unp, x_sets, x_expr, x_ret, x_pass, x_brk, x_cont, x_ite, x_for, x_whl, v_bl, v_int, v_str, v_ty, v_non, v_var, v_tup, v_lst, v_bin, v_neg, v_not, v_cmp, v_and, v_or, v_ife, v_call, v_blt, v_mth, v_sub, v_slc, v_comp, o_none, o_some, s_nil, s_cons, i_seq, i_rng1, i_rng2, i_enum, nx_nx, nx_rt, nx_bk, nx_ct, ite_t, ite_f, and_t, and_f, or_t, or_f, R.bind_ok, R.bind_assoc, ofO_some, tr_b, optI_i, itm_t, itm_l, seqL_l, gdOf_tup, gdOf_lst, neg_i, aug_i, add_i, sub_i, slc_t, slc_l, add_l, len_t, len_l, list_t, list_l, tuple_l, max_i, ls_i, le_i, gt_i, ge_i, sub_t, sub_l, List.getElem?_cons_zero, List.getElem?_cons_succ, List.set_cons_zero, List.set_cons_succ, Bool.not_true, Bool.not_false]
    refine (c_each k S S6 a m _ z h6 hs hm f ⟨hf0, by omega⟩ none none none w4 ha (by omega)).bind fun r S7 ⟨ns, y7, y8, y9, hr, hx, hall, w5⟩ => ?_
    subst hr
    simp only [v_dict1, v_tzip, v_inv, x_keptX, v_lens, v_dict0, v_rvs, v_comp2, v_maxd, v_dict, v_dget, x_dput, x_par, par_k, i_rngD, i_zip, v_agen, v_glob, v_chain, v_isx, x_raise, x_kept, x_nil, x_cons, x_set, x_unp, x_sets, x_expr, x_ret, x_pass, x_brk, x_cont, x_ite, x_for, x_whl, v_bl, v_int, v_str, v_ty, v_non, v_var, v_tup, v_lst, v_bin, v_neg, v_not, v_cmp, v_and, v_or, v_ife, v_call, v_blt, v_mth, v_sub, v_slc, v_comp, o_none, o_some, s_nil, s_cons, i_seq, i_rng1, i_rng2, i_enum, nx_nx, nx_rt, nx_bk, nx_ct, ite_t, ite_f, and_t, and_f, or_t, or_f, R.bind_ok, R.bind_assoc, ofO_some, tr_b, optI_i, itm_t, itm_l, seqL_l, gdOf_tup, gdOf_lst, neg_i, aug_i, add_i, sub_i, slc_t, slc_l, add_l, len_t, len_l, list_t, list_l, tuple_l, max_i, ls_i, le_i, gt_i, ge_i, sub_t, sub_l, List.getElem?_cons_zero, List.getElem?_cons_succ, List.set_cons_zero, List.set_cons_succ, Bool.not_true, Bool.not_false]
    exact .ok ⟨_, _, rfl, w5.weak (by omega), _, outD_ref (by omega) (w5.get 1), fun S' u => ⟨_, rfl, by rw [List.length_map]; exact hx, ns_each (by omega) hall, u⟩⟩
theorem cut_n {l : List D} {v : Int} (h : 0 ≤ v) : cutA l none (some v) = l.take v.toNat := by
  obtain ⟨n, rfl⟩ := Int.eq_ofNat_of_zero_le h
  rw [cut_to]; rfl
theorem cut_f {l : List D} {v : Int} (h : 0 ≤ v) : cutA l (some v) none = l.drop v.toNat := by
  obtain ⟨n, rfl⟩ := Int.eq_ofNat_of_zero_le h
  rw [cut_from]; rfl
end K01

namespace K01
open PySem Mn
def so (n : Nat) (z : Str) : Prop := PyData.strOk z = true ∧ z.length ≤ n
theorem so_iff {z : Str} : PyData.strOk z = true ↔ ∀ c ∈ z.cps.toList, c < 0x110000 := by
  unfold PyData.strOk
  rw [← Array.all_toList, List.all_eq_true]
  simp
theorem len_cps {z : Str} : z.length = z.cps.toList.length := by
  show z.cps.size = _
  simp
theorem so.cut {n : Nat} {z : Str} (h : so n z) (lo hi : Option Int) : so n (L2.cutS z lo hi) := by
  refine ⟨so_iff.mpr fun c hc => ?_, Nat.le_trans (L2.cutS_length z lo hi) h.2⟩
  have hc : c ∈ (z.cps.toList.drop (HT.sIx z.length 0 lo)).take (HT.sIx z.length z.length hi - HT.sIx z.length 0 lo) := by simpa [L2.cutS] using hc
  exact so_iff.mp h.1 c (List.mem_of_mem_drop (List.mem_of_mem_take hc))
theorem so.app {n m : Nat} {x y : Str} (h : so n x) (h' : so m y) : so (n + m) (x ++ y) := by
  have e : (x ++ y).cps = x.cps ++ y.cps := rfl
  refine ⟨so_iff.mpr fun c hc => ?_, ?_⟩
  · rw [e, Array.toList_append] at hc
    rcases List.mem_append.mp hc with hc | hc
    · exact so_iff.mp h.1 c hc
    · exact so_iff.mp h'.1 c hc
  · rw [len_cps, e, Array.toList_append, List.length_append, ← len_cps, ← len_cps]
    exact Nat.add_le_add h.2 h'.2
theorem so.weak {n m : Nat} {z : Str} (h : so n z) (hm : n ≤ m) : so m z := ⟨h.1, Nat.le_trans h.2 hm⟩
theorem so0 : so 0 "" := ⟨by decide +kernel, by decide +kernel⟩
theorem so.join {n : Nat} : ∀ {ys : List Str}, (∀ y ∈ ys, so n y) → so (ys.length * n) (Str.join "" ys)
  | [], _ => so0.weak (Nat.zero_le _)
  | [p], h => (h p (by simp)).weak (by simp)
  | x :: z :: r, h => by
    have ih := so.join (n := n) (ys := z :: r) fun y hy => h y (List.mem_cons_of_mem _ hy)
    have := ((h x (by simp)).app so0).app ih
    refine so.weak (show so _ (x ++ "" ++ Str.join "" (z :: r)) from this) ?_
    simp only [List.length_cons]
    rw [Nat.add_mul, Nat.add_mul, Nat.add_mul]
    omega
theorem so.joinT {n : Nat} {ys : List Str} (h : ∀ y ∈ ys, so n y) : so (ys.length * n) (Txt.join "" ys) := by
  rw [TL.join_eq]
  exact so.join h

theorem in_l {S : Store} {x : D} {l : List D} (hx : gd x 63 = true) (hl : gds l 62 = true) : cmpA .In x (.lst l) S = some (decide (x ∈ l)) := by
  obtain ⟨a, h1, h2, h3⟩ := gd_py x 63 hx
  obtain ⟨bs, g1, g2, g3⟩ := gds_py l 62 hl
  have sa : SeqAt.shaped a = true := by simp [SeqAt.shaped, h2]; omega
  have sb : SeqAt.shaped (.list bs) = true := by simp [SeqAt.shaped, PyData.canLay0, PyData.depth, g2]; omega
  show inA S x (.lst l) = _
  unfold inA
  dsimp only
  have e : py S (.lst l) = some (.list bs) := by
    show (pyGs l).map PyData.list = _
    rw [g1]; rfl
  rw [py_gd hx, h1, Option.bind_some, e, Option.bind_some]
  dsimp only
  rw [if_pos ⟨sa, sb⟩, any_in hx h1 l bs hl g1]
theorem notIn_l {S : Store} {x : Str} {l : List Str} (hx : PyData.strOk x = true) (hl : ∀ y ∈ l, PyData.strOk y = true) : cmpA .NotIn (.str x) (.lst (l.map .str)) S = some (!decide (x ∈ l)) := by
  have h := in_l (S := S) (x := .str x) (l := l.map .str) (by simp only [gd]; exact hx) (gds_strs hl)
  have e : decide (D.str x ∈ l.map D.str) = decide (x ∈ l) := by rw [decide_eq_decide, mem_strs]
  rw [e] at h
  show (inA S _ _).map (!·) = _
  rw [show inA S (.str x) (.lst (l.map .str)) = _ from h]
  rfl
theorem a_cps : (("a" : Str)).cps.toList = [97] := by decide +kernel
theorem z_cps : (("z" : Str)).cps.toList = [122] := by decide +kernel
theorem one_lt {c d : Nat} : ([c] < [d]) ↔ c < d := by
  rw [List.cons_lt_cons_iff]
  simp
theorem le_a {S : Store} {c : Nat} : cmpA .LtE (.str "a") (.str ⟨#[c]⟩) S = some (decide (97 ≤ c)) := by
  show some (!decide ([c] < ("a" : Str).cps.toList)) = _
  rw [a_cps]
  congr 1
  rw [Bool.eq_iff_iff]
  simp only [Bool.not_eq_true', decide_eq_false_iff_not, decide_eq_true_eq, one_lt]
  omega
theorem le_z {S : Store} {c : Nat} : cmpA .LtE (.str ⟨#[c]⟩) (.str "z") S = some (decide (c ≤ 122)) := by
  show some (!decide (("z" : Str).cps.toList < [c])) = _
  rw [z_cps]
  congr 1
  rw [Bool.eq_iff_iff]
  simp only [Bool.not_eq_true', decide_eq_false_iff_not, decide_eq_true_eq, one_lt]
  omega
theorem abc_iff {c : Nat} : decide (c ∈ abc.cps.toList) = (decide (97 ≤ c) && decide (c ≤ 122)) := by
  rw [abc_cps, Bool.eq_iff_iff]
  simp only [abcL, List.mem_cons, List.not_mem_nil, or_false, decide_eq_true_eq, Bool.and_eq_true]
  omega
theorem c_lawis (k : Nat) (S : Store) (z : Str) (h : pl (.str z) = true) : CC (k + 1) "_law_is_name" [.str z] S = .ok (.bl (nmS z)) S := by
  simp only [pl, Bool.and_eq_true, decide_eq_true_eq] at h
  rw [show CC (k + 1) "_law_is_name" [.str z] S = _ from call_step (k := k) (d := d__law_is_name) rfl rfl]
  show leave .pure S (exB Gs 1000000 (CC k) d__law_is_name.body [some (.str z), none, none, none] S) = _
  refine lv_ok ?_ (by simp [below])
  have zl0 : z.cps.toList.length = z.length := by simp [Str.length]
  have g : ∀ x1 : Option D, cmpB Gs (CC k) [] (.nm 3) (.some (.chain .LtE .LtE (.str "a") (.var 3) (.str "z"))) (.var 3) [some (.str z), x1, none, none] (z.cps.toList.map fun c => D.str ⟨#[c]⟩) S = .ok ((z.cps.toList.filter fun c => decide (97 ≤ c) && decide (c ≤ 122)).map fun c => D.str ⟨#[c]⟩) S := fun x1 => by
    unfold cmpB
    rw [comp_map (fun c => D.str ⟨#[c]⟩) (fun c => decide (97 ≤ c) && decide (c ≤ 122)) (fun c => D.str ⟨#[c]⟩) gdOk_nil z.cps.toList [] (by rw [zl0]; exact sz' (by simp; omega)) fun c _ => by
      refine ⟨_, rfl, ?_, fun _ => ?_⟩
      · simp only [tru, oc_some, v_dict1, v_tzip, v_inv, x_keptX, v_lens, v_dict0, v_rvs, v_comp2, v_maxd, v_dict, v_dget, x_dput, x_par, par_k, i_rngD, i_zip, v_agen, v_glob, v_chain, v_isx, x_raise, x_kept, x_nil, x_cons, x_set, x_unp, x_sets, x_expr, x_ret, x_pass, x_brk, x_cont, x_ite, x_for, x_whl, v_bl, v_int, v_str, v_ty, v_non, v_var, v_tup, v_lst, v_bin, v_neg, v_not, v_cmp, v_and, v_or, v_ife, v_call, v_blt, v_mth, v_sub, v_slc, v_comp, o_none, o_some, s_nil, s_cons, i_seq, i_rng1, i_rng2, i_enum, nx_nx, nx_rt, nx_bk, nx_ct, ite_t, ite_f, and_t, and_f, or_t, or_f, R.bind_ok, R.bind_assoc, ofO_some, tr_b, optI_i, itm_t, itm_l, seqL_l, gdOf_tup, gdOf_lst, neg_i, aug_i, add_i, sub_i, slc_t, slc_l, add_l, len_t, len_l, list_t, list_l, tuple_l, max_i, ls_i, le_i, gt_i, ge_i, sub_t, sub_l, List.getElem?_cons_zero, List.getElem?_cons_succ, List.set_cons_zero, List.set_cons_succ, Bool.not_true, Bool.not_false, le_a]
        cases h1 : decide (97 ≤ c) <;> simp only [v_dict1, v_tzip, v_inv, x_keptX, v_lens, v_dict0, v_rvs, v_comp2, v_maxd, v_dict, v_dget, x_dput, x_par, par_k, i_rngD, i_zip, v_agen, v_glob, v_chain, v_isx, x_raise, x_kept, x_nil, x_cons, x_set, x_unp, x_sets, x_expr, x_ret, x_pass, x_brk, x_cont, x_ite, x_for, x_whl, v_bl, v_int, v_str, v_ty, v_non, v_var, v_tup, v_lst, v_bin, v_neg, v_not, v_cmp, v_and, v_or, v_ife, v_call, v_blt, v_mth, v_sub, v_slc, v_comp, o_none, o_some, s_nil, s_cons, i_seq, i_rng1, i_rng2, i_enum, nx_nx, nx_rt, nx_bk, nx_ct, ite_t, ite_f, and_t, and_f, or_t, or_f, R.bind_ok, R.bind_assoc, ofO_some, tr_b, optI_i, itm_t, itm_l, seqL_l, gdOf_tup, gdOf_lst, neg_i, aug_i, add_i, sub_i, slc_t, slc_l, add_l, len_t, len_l, list_t, list_l, tuple_l, max_i, ls_i, le_i, gt_i, ge_i, sub_t, sub_l, List.getElem?_cons_zero, List.getElem?_cons_succ, List.set_cons_zero, List.set_cons_succ, Bool.not_true, Bool.not_false, if_true, Bool.false_eq_true, if_false, Bool.false_and, Bool.true_and, le_z]
      · simp only [v_dict1, v_tzip, v_inv, x_keptX, v_lens, v_dict0, v_rvs, v_comp2, v_maxd, v_dict, v_dget, x_dput, x_par, par_k, i_rngD, i_zip, v_agen, v_glob, v_chain, v_isx, x_raise, x_kept, x_nil, x_cons, x_set, x_unp, x_sets, x_expr, x_ret, x_pass, x_brk, x_cont, x_ite, x_for, x_whl, v_bl, v_int, v_str, v_ty, v_non, v_var, v_tup, v_lst, v_bin, v_neg, v_not, v_cmp, v_and, v_or, v_ife, v_call, v_blt, v_mth, v_sub, v_slc, v_comp, o_none, o_some, s_nil, s_cons, i_seq, i_rng1, i_rng2, i_enum, nx_nx, nx_rt, nx_bk, nx_ct, ite_t, ite_f, and_t, and_f, or_t, or_f, R.bind_ok, R.bind_assoc, ofO_some, tr_b, optI_i, itm_t, itm_l, seqL_l, gdOf_tup, gdOf_lst, neg_i, aug_i, add_i, sub_i, slc_t, slc_l, add_l, len_t, len_l, list_t, list_l, tuple_l, max_i, ls_i, le_i, gt_i, ge_i, sub_t, sub_l, List.getElem?_cons_zero, List.getElem?_cons_succ, List.set_cons_zero, List.set_cons_succ, Bool.not_true, Bool.not_false]]
    rw [List.nil_append]
  have zl : z.cps.toList.length = z.length := by simp [Str.length]
  have fl : (z.cps.toList.filter fun c => decide (97 ≤ c) && decide (c ≤ 122)).length ≤ z.length := by
    rw [← zl]
    exact List.length_filter_le _ _
  have e1 : decide ((1 : Int) ≤ (z.length : Int)) = decide (1 ≤ z.length) := by rw [decide_eq_decide]; omega
  have e2 : decide ((z.length : Int) ≤ 6) = decide (z.length ≤ 6) := by rw [decide_eq_decide]; omega
  have e3 : decide (((((z.cps.toList.filter fun c => decide (97 ≤ c) && decide (c ≤ 122)).map fun c => D.str ⟨#[c]⟩).length : Nat) : Int) = (z.length : Int)) = z.cps.toList.all fun c => decide (c ∈ abc.cps.toList) := by
    rw [List.length_map, Bool.eq_iff_iff, decide_eq_true_eq, List.all_eq_true]
    constructor
    · intro h c hc
      have h2 : (z.cps.toList.filter fun c => decide (97 ≤ c) && decide (c ≤ 122)).length = z.cps.toList.length := by omega
      have := List.length_filter_eq_length_iff.mp h2 c hc
      rw [abc_iff]
      exact this
    · intro h
      have : (z.cps.toList.filter fun c => decide (97 ≤ c) && decide (c ≤ 122)) = z.cps.toList := List.filter_eq_self.mpr fun c hc => by
        have := h c hc
        rwa [abc_iff] at this
      rw [this, zl0]
  have w14 : ([D.str "yes", D.str "no", D.str "not", D.str "and", D.str "or", D.str "before", D.str "since", D.str "was", D.str "given", D.str "wanted", D.str "always", D.str "again"] ++ [D.str "comes", D.str "answers"] : List D) = WDS.map .str := rfl
  simp (disch := (simp only [List.length_cons, List.length_nil]; decide)) only [d__law_is_name, v_dict1, v_tzip, v_inv, x_keptX, v_lens, v_dict0, v_rvs, v_comp2, v_maxd, v_dict, v_dget, x_dput, x_par, par_k, i_rngD, i_zip, v_agen, v_glob, v_chain, v_isx, x_raise, x_kept, x_nil, x_cons, x_set, x_unp, x_sets, x_expr, x_ret, x_pass, x_brk, x_cont, x_ite, x_for, x_whl, v_bl, v_int, v_str, v_ty, v_non, v_var, v_tup, v_lst, v_bin, v_neg, v_not, v_cmp, v_and, v_or, v_ife, v_call, v_blt, v_mth, v_sub, v_slc, v_comp, o_none, o_some, s_nil, s_cons, i_seq, i_rng1, i_rng2, i_enum, nx_nx, nx_rt, nx_bk, nx_ct, ite_t, ite_f, and_t, and_f, or_t, or_f, R.bind_ok, R.bind_assoc, ofO_some, tr_b, optI_i, itm_t, itm_l, seqL_l, gdOf_tup, gdOf_lst, neg_i, aug_i, add_i, sub_i, slc_t, slc_l, add_l, len_t, len_l, list_t, list_l, tuple_l, max_i, ls_i, le_i, gt_i, ge_i, sub_t, sub_l, List.getElem?_cons_zero, List.getElem?_cons_succ, List.set_cons_zero, List.set_cons_succ, Bool.not_true, Bool.not_false, mkL_v, itm_s, gdOf_s, wipe, g]
  rw [mkL_v (sz (by rw [List.length_map]; omega))]
  simp only [v_dict1, v_tzip, v_inv, x_keptX, v_lens, v_dict0, v_rvs, v_comp2, v_maxd, v_dict, v_dget, x_dput, x_par, par_k, i_rngD, i_zip, v_agen, v_glob, v_chain, v_isx, x_raise, x_kept, x_nil, x_cons, x_set, x_unp, x_sets, x_expr, x_ret, x_pass, x_brk, x_cont, x_ite, x_for, x_whl, v_bl, v_int, v_str, v_ty, v_non, v_var, v_tup, v_lst, v_bin, v_neg, v_not, v_cmp, v_and, v_or, v_ife, v_call, v_blt, v_mth, v_sub, v_slc, v_comp, o_none, o_some, s_nil, s_cons, i_seq, i_rng1, i_rng2, i_enum, nx_nx, nx_rt, nx_bk, nx_ct, ite_t, ite_f, and_t, and_f, or_t, or_f, R.bind_ok, R.bind_assoc, ofO_some, tr_b, optI_i, itm_t, itm_l, seqL_l, gdOf_tup, gdOf_lst, neg_i, aug_i, add_i, sub_i, slc_t, slc_l, add_l, len_t, len_l, list_t, list_l, tuple_l, max_i, ls_i, le_i, gt_i, ge_i, sub_t, sub_l, List.getElem?_cons_zero, List.getElem?_cons_succ, List.set_cons_zero, List.set_cons_succ, Bool.not_true, Bool.not_false, len_s (sz (by omega) : z.length ≤ sizeLine), e1]
  have gl : ∀ {S : Store}, mkL true ([D.str "yes", D.str "no", D.str "not", D.str "and", D.str "or", D.str "before", D.str "since", D.str "was", D.str "given", D.str "wanted", D.str "always", D.str "again"] ++ [D.str "comes", D.str "answers"]) S = .ok (.lst (WDS.map .str)) S := fun {S} => mkL_v (sz (by simp))
  unfold nmS
  cases h1 : decide (1 ≤ z.length) with
  | false => simp only [v_dict1, v_tzip, v_inv, x_keptX, v_lens, v_dict0, v_rvs, v_comp2, v_maxd, v_dict, v_dget, x_dput, x_par, par_k, i_rngD, i_zip, v_agen, v_glob, v_chain, v_isx, x_raise, x_kept, x_nil, x_cons, x_set, x_unp, x_sets, x_expr, x_ret, x_pass, x_brk, x_cont, x_ite, x_for, x_whl, v_bl, v_int, v_str, v_ty, v_non, v_var, v_tup, v_lst, v_bin, v_neg, v_not, v_cmp, v_and, v_or, v_ife, v_call, v_blt, v_mth, v_sub, v_slc, v_comp, o_none, o_some, s_nil, s_cons, i_seq, i_rng1, i_rng2, i_enum, nx_nx, nx_rt, nx_bk, nx_ct, ite_t, ite_f, and_t, and_f, or_t, or_f, R.bind_ok, R.bind_assoc, ofO_some, tr_b, optI_i, itm_t, itm_l, seqL_l, gdOf_tup, gdOf_lst, neg_i, aug_i, add_i, sub_i, slc_t, slc_l, add_l, len_t, len_l, list_t, list_l, tuple_l, max_i, ls_i, le_i, gt_i, ge_i, sub_t, sub_l, List.getElem?_cons_zero, List.getElem?_cons_succ, List.set_cons_zero, List.set_cons_succ, Bool.not_true, Bool.not_false, Bool.false_eq_true, if_false, Bool.false_and]
  | true =>
    simp only [v_dict1, v_tzip, v_inv, x_keptX, v_lens, v_dict0, v_rvs, v_comp2, v_maxd, v_dict, v_dget, x_dput, x_par, par_k, i_rngD, i_zip, v_agen, v_glob, v_chain, v_isx, x_raise, x_kept, x_nil, x_cons, x_set, x_unp, x_sets, x_expr, x_ret, x_pass, x_brk, x_cont, x_ite, x_for, x_whl, v_bl, v_int, v_str, v_ty, v_non, v_var, v_tup, v_lst, v_bin, v_neg, v_not, v_cmp, v_and, v_or, v_ife, v_call, v_blt, v_mth, v_sub, v_slc, v_comp, o_none, o_some, s_nil, s_cons, i_seq, i_rng1, i_rng2, i_enum, nx_nx, nx_rt, nx_bk, nx_ct, ite_t, ite_f, and_t, and_f, or_t, or_f, R.bind_ok, R.bind_assoc, ofO_some, tr_b, optI_i, itm_t, itm_l, seqL_l, gdOf_tup, gdOf_lst, neg_i, aug_i, add_i, sub_i, slc_t, slc_l, add_l, len_t, len_l, list_t, list_l, tuple_l, max_i, ls_i, le_i, gt_i, ge_i, sub_t, sub_l, List.getElem?_cons_zero, List.getElem?_cons_succ, List.set_cons_zero, List.set_cons_succ, Bool.not_true, Bool.not_false, if_true, e2]
    cases h2 : decide (z.length ≤ 6) with
    | false => simp only [v_dict1, v_tzip, v_inv, x_keptX, v_lens, v_dict0, v_rvs, v_comp2, v_maxd, v_dict, v_dget, x_dput, x_par, par_k, i_rngD, i_zip, v_agen, v_glob, v_chain, v_isx, x_raise, x_kept, x_nil, x_cons, x_set, x_unp, x_sets, x_expr, x_ret, x_pass, x_brk, x_cont, x_ite, x_for, x_whl, v_bl, v_int, v_str, v_ty, v_non, v_var, v_tup, v_lst, v_bin, v_neg, v_not, v_cmp, v_and, v_or, v_ife, v_call, v_blt, v_mth, v_sub, v_slc, v_comp, o_none, o_some, s_nil, s_cons, i_seq, i_rng1, i_rng2, i_enum, nx_nx, nx_rt, nx_bk, nx_ct, ite_t, ite_f, and_t, and_f, or_t, or_f, R.bind_ok, R.bind_assoc, ofO_some, tr_b, optI_i, itm_t, itm_l, seqL_l, gdOf_tup, gdOf_lst, neg_i, aug_i, add_i, sub_i, slc_t, slc_l, add_l, len_t, len_l, list_t, list_l, tuple_l, max_i, ls_i, le_i, gt_i, ge_i, sub_t, sub_l, List.getElem?_cons_zero, List.getElem?_cons_succ, List.set_cons_zero, List.set_cons_succ, Bool.not_true, Bool.not_false, Bool.false_eq_true, if_false, Bool.false_and, Bool.true_and]
    | true =>
      simp only [v_dict1, v_tzip, v_inv, x_keptX, v_lens, v_dict0, v_rvs, v_comp2, v_maxd, v_dict, v_dget, x_dput, x_par, par_k, i_rngD, i_zip, v_agen, v_glob, v_chain, v_isx, x_raise, x_kept, x_nil, x_cons, x_set, x_unp, x_sets, x_expr, x_ret, x_pass, x_brk, x_cont, x_ite, x_for, x_whl, v_bl, v_int, v_str, v_ty, v_non, v_var, v_tup, v_lst, v_bin, v_neg, v_not, v_cmp, v_and, v_or, v_ife, v_call, v_blt, v_mth, v_sub, v_slc, v_comp, o_none, o_some, s_nil, s_cons, i_seq, i_rng1, i_rng2, i_enum, nx_nx, nx_rt, nx_bk, nx_ct, ite_t, ite_f, and_t, and_f, or_t, or_f, R.bind_ok, R.bind_assoc, ofO_some, tr_b, optI_i, itm_t, itm_l, seqL_l, gdOf_tup, gdOf_lst, neg_i, aug_i, add_i, sub_i, slc_t, slc_l, add_l, len_t, len_l, list_t, list_l, tuple_l, max_i, ls_i, le_i, gt_i, ge_i, sub_t, sub_l, List.getElem?_cons_zero, List.getElem?_cons_succ, List.set_cons_zero, List.set_cons_succ, Bool.not_true, Bool.not_false, len_s (sz (by omega) : z.length ≤ sizeLine), eq_i, e3, Bool.true_and]
      cases h3 : (z.cps.toList.all fun c => decide (c ∈ abc.cps.toList)) with
      | false => simp only [v_dict1, v_tzip, v_inv, x_keptX, v_lens, v_dict0, v_rvs, v_comp2, v_maxd, v_dict, v_dget, x_dput, x_par, par_k, i_rngD, i_zip, v_agen, v_glob, v_chain, v_isx, x_raise, x_kept, x_nil, x_cons, x_set, x_unp, x_sets, x_expr, x_ret, x_pass, x_brk, x_cont, x_ite, x_for, x_whl, v_bl, v_int, v_str, v_ty, v_non, v_var, v_tup, v_lst, v_bin, v_neg, v_not, v_cmp, v_and, v_or, v_ife, v_call, v_blt, v_mth, v_sub, v_slc, v_comp, o_none, o_some, s_nil, s_cons, i_seq, i_rng1, i_rng2, i_enum, nx_nx, nx_rt, nx_bk, nx_ct, ite_t, ite_f, and_t, and_f, or_t, or_f, R.bind_ok, R.bind_assoc, ofO_some, tr_b, optI_i, itm_t, itm_l, seqL_l, gdOf_tup, gdOf_lst, neg_i, aug_i, add_i, sub_i, slc_t, slc_l, add_l, len_t, len_l, list_t, list_l, tuple_l, max_i, ls_i, le_i, gt_i, ge_i, sub_t, sub_l, List.getElem?_cons_zero, List.getElem?_cons_succ, List.set_cons_zero, List.set_cons_succ, Bool.not_true, Bool.not_false, Bool.and_false]
      | true =>
        simp (disch := (simp only [List.length_cons, List.length_nil]; decide)) only [v_dict1, v_tzip, v_inv, x_keptX, v_lens, v_dict0, v_rvs, v_comp2, v_maxd, v_dict, v_dget, x_dput, x_par, par_k, i_rngD, i_zip, v_agen, v_glob, v_chain, v_isx, x_raise, x_kept, x_nil, x_cons, x_set, x_unp, x_sets, x_expr, x_ret, x_pass, x_brk, x_cont, x_ite, x_for, x_whl, v_bl, v_int, v_str, v_ty, v_non, v_var, v_tup, v_lst, v_bin, v_neg, v_not, v_cmp, v_and, v_or, v_ife, v_call, v_blt, v_mth, v_sub, v_slc, v_comp, o_none, o_some, s_nil, s_cons, i_seq, i_rng1, i_rng2, i_enum, nx_nx, nx_rt, nx_bk, nx_ct, ite_t, ite_f, and_t, and_f, or_t, or_f, R.bind_ok, R.bind_assoc, ofO_some, tr_b, optI_i, itm_t, itm_l, seqL_l, gdOf_tup, gdOf_lst, neg_i, aug_i, add_i, sub_i, slc_t, slc_l, add_l, len_t, len_l, list_t, list_l, tuple_l, max_i, ls_i, le_i, gt_i, ge_i, sub_t, sub_l, List.getElem?_cons_zero, List.getElem?_cons_succ, List.set_cons_zero, List.set_cons_succ, Bool.not_true, Bool.not_false, mkL_v, gl, notIn_l h.1 wds_ok, Bool.and_true]
end K01

namespace K01
open PySem Mn

theorem some_at {l : List D} {v : Int} (h0 : 0 ≤ v) (h1 : v < l.length) : ∃ d, L2.atI l v = some d ∧ d ∈ l := by
  obtain ⟨n, rfl⟩ := Int.eq_ofNat_of_zero_le h0
  have hn : n < l.length := by omega
  exact ⟨l[n], by rw [atI_nat, List.getElem?_eq_getElem hn], List.getElem_mem hn⟩
theorem so_pl {n : Nat} {z : Str} (h : so n z) (hn : n ≤ 1000) : pl (.str z) = true := by
  simp only [pl, Bool.and_eq_true, decide_eq_true_eq]
  exact ⟨h.1, Nat.le_trans h.2 hn⟩
theorem so_sz {n : Nat} {z : Str} (h : so n z) (hn : n ≤ 1000) : z.length ≤ sizeLine := sz (Nat.le_trans h.2 (by omega))
theorem so_mul {z : Str} (h : so 6 z) : so 42 (Txt.mul z 7) := by
  unfold Txt.mul
  rw [if_neg (by decide)]
  split
  · exact h.weak (by omega)
  · have := (((((((so0.app h).app h).app h).app h).app h).app h).app h)
    exact this.weak (by omega)
theorem signs {v : Int} (h0 : 0 ≤ v) (h1 : v < 8) : ∃ s, L2.atI [D.str "A", .str " ", .str "0", .str "_", .str "Z", .str "", .str "-", .str "\n"] v = some (.str s) ∧ so 1 s := by
  obtain ⟨d, hd, hm⟩ := some_at (l := [D.str "A", .str " ", .str "0", .str "_", .str "Z", .str "", .str "-", .str "\n"]) h0 (by simpa using h1)
  simp only [List.mem_cons, List.not_mem_nil, or_false] at hm
  rcases hm with rfl | rfl | rfl | rfl | rfl | rfl | rfl | rfl <;> exact ⟨_, hd, by decide +kernel, by decide +kernel⟩
theorem mul_s {v : Bool} {S : Store} {z : Str} (h : z.length ≤ 1000) : binA v .Mult (.str z) (.int 7) S = .ok (.str (Txt.mul z 7)) S := by
  show (if 0 ≤ (7 : Int) ∧ (7 : Int) ≤ 1000 ∧ z.length ≤ 1000 then R.ok (D.str (Txt.mul z 7)) S else .bad) = _
  rw [if_pos ⟨by decide, by decide, h⟩]
theorem c_oddt (k : Nat) (S : Store) (a : Nat) (C : Int) (nm : Str) (hn : so 6 nm) (h1 : 1 ≤ nm.length) (h : Stm S a C) (hC : C < 50000) :
    Sat (CC (k + 3) "_law_odd" [.ref a, .str nm] S) fun d S' => ∃ z, d = .str z ∧ pl (.str z) = true ∧ Upd S a S' (C + 3) := by
  rw [show CC (k + 3) "_law_odd" [.ref a, .str nm] S = _ from call_step (k := k + 2) (d := d__law_odd) rfl rfl]
  show Sat (leave .pure S (exB Gs 1000000 (CC (k + 2)) d__law_odd.body [some (.ref a), some (.str nm), none, none, none] S)) _
  refine Sat.leave ?_
  have h6 := hn.2
  simp only [d__law_odd, v_dict1, v_tzip, v_inv, x_keptX, v_lens, v_dict0, v_rvs, v_comp2, v_maxd, v_dict, v_dget, x_dput, x_par, par_k, i_rngD, i_zip, v_agen, v_glob, v_chain, v_isx, x_raise, x_kept, x_nil, x_cons, x_set, x_unp, x_sets, x_expr, x_ret, x_pass, x_brk, x_cont, x_ite, x_for, x_whl, v_bl, v_int, v_str, v_ty, v_non, v_var, v_tup, v_lst, v_bin, v_neg, v_not, v_cmp, v_and, v_or, v_ife, v_call, v_blt, v_mth, v_sub, v_slc, v_comp, o_none, o_some, s_nil, s_cons, i_seq, i_rng1, i_rng2, i_enum, nx_nx, nx_rt, nx_bk, nx_ct, ite_t, ite_f, and_t, and_f, or_t, or_f, R.bind_ok, R.bind_assoc, ofO_some, tr_b, optI_i, itm_t, itm_l, seqL_l, gdOf_tup, gdOf_lst, neg_i, aug_i, add_i, sub_i, slc_t, slc_l, add_l, len_t, len_l, list_t, list_l, tuple_l, max_i, ls_i, le_i, gt_i, ge_i, sub_t, sub_l, List.getElem?_cons_zero, List.getElem?_cons_succ, List.set_cons_zero, List.set_cons_succ, Bool.not_true, Bool.not_false, len_s (so_sz hn (by omega))]
  refine (c_take k S a (nm.length : Int) C (by omega) h (by omega)).bind fun d S1 ⟨v, hd, hv0, hv1, u1⟩ => ?_
  subst hd
  have st1 := u1.stm h
  simp (disch := (simp only [List.length_cons, List.length_nil]; decide)) only [v_dict1, v_tzip, v_inv, x_keptX, v_lens, v_dict0, v_rvs, v_comp2, v_maxd, v_dict, v_dget, x_dput, x_par, par_k, i_rngD, i_zip, v_agen, v_glob, v_chain, v_isx, x_raise, x_kept, x_nil, x_cons, x_set, x_unp, x_sets, x_expr, x_ret, x_pass, x_brk, x_cont, x_ite, x_for, x_whl, v_bl, v_int, v_str, v_ty, v_non, v_var, v_tup, v_lst, v_bin, v_neg, v_not, v_cmp, v_and, v_or, v_ife, v_call, v_blt, v_mth, v_sub, v_slc, v_comp, o_none, o_some, s_nil, s_cons, i_seq, i_rng1, i_rng2, i_enum, nx_nx, nx_rt, nx_bk, nx_ct, ite_t, ite_f, and_t, and_f, or_t, or_f, R.bind_ok, R.bind_assoc, ofO_some, tr_b, optI_i, itm_t, itm_l, seqL_l, gdOf_tup, gdOf_lst, neg_i, aug_i, add_i, sub_i, slc_t, slc_l, add_l, len_t, len_l, list_t, list_l, tuple_l, max_i, ls_i, le_i, gt_i, ge_i, sub_t, sub_l, List.getElem?_cons_zero, List.getElem?_cons_succ, List.set_cons_zero, List.set_cons_succ, Bool.not_true, Bool.not_false, mkL_v]
  refine (c_take k S1 a 8 _ (by decide) st1 (by omega)).bind fun d S2 ⟨w, hd, hw0, hw1, u2⟩ => ?_
  subst hd
  have st2 := u2.stm st1
  obtain ⟨s, hs, ss⟩ := signs hw0 hw1
  have s7 : so 7 "abcdefg" := ⟨by decide +kernel, by decide +kernel⟩
  have c1 := hn.cut none (some v)
  have c2 := hn.cut (some (v + 1)) none
  have t1 := (c1.app ss).app c2
  have t2 := hn.app ss
  have t3 := ss.app hn
  have t4 := (so_mul hn).cut none (some 7)
  have t5 := (hn.app s7).cut none (some 8)
  have g1 := c1.2
  have g2 := ss.2
  have g3 := c2.2
  have g4 := (c1.app ss).2
  have g5 := s7.2
  have g6 := (so_mul hn).2
  simp only [v_dict1, v_tzip, v_inv, x_keptX, v_lens, v_dict0, v_rvs, v_comp2, v_maxd, v_dict, v_dget, x_dput, x_par, par_k, i_rngD, i_zip, v_agen, v_glob, v_chain, v_isx, x_raise, x_kept, x_nil, x_cons, x_set, x_unp, x_sets, x_expr, x_ret, x_pass, x_brk, x_cont, x_ite, x_for, x_whl, v_bl, v_int, v_str, v_ty, v_non, v_var, v_tup, v_lst, v_bin, v_neg, v_not, v_cmp, v_and, v_or, v_ife, v_call, v_blt, v_mth, v_sub, v_slc, v_comp, o_none, o_some, s_nil, s_cons, i_seq, i_rng1, i_rng2, i_enum, nx_nx, nx_rt, nx_bk, nx_ct, ite_t, ite_f, and_t, and_f, or_t, or_f, R.bind_ok, R.bind_assoc, ofO_some, tr_b, optI_i, itm_t, itm_l, seqL_l, gdOf_tup, gdOf_lst, neg_i, aug_i, add_i, sub_i, slc_t, slc_l, add_l, len_t, len_l, list_t, list_l, tuple_l, max_i, ls_i, le_i, gt_i, ge_i, sub_t, sub_l, List.getElem?_cons_zero, List.getElem?_cons_succ, List.set_cons_zero, List.set_cons_succ, Bool.not_true, Bool.not_false, hs, slc_s (so_sz hn (by omega)), add_s (x := L2.cutS nm none (some v)) (y := s) (S := S2) (v := true) (sz (by omega)), add_s (x := L2.cutS nm none (some v) ++ s) (y := L2.cutS nm (some (v + 1)) none) (S := S2) (v := true) (sz (by omega)),
    add_s (x := nm) (y := s) (S := S2) (v := true) (sz (by omega)), add_s (x := s) (y := nm) (S := S2) (v := true) (sz (by omega)), mul_s (z := nm) (S := S2) (v := true) (by omega), slc_s (z := Txt.mul nm 7) (S := S2) (v := true) (sz (by omega)), add_s (x := nm) (y := "abcdefg") (S := S2) (v := true) (sz (by omega)), slc_s (z := nm ++ "abcdefg") (S := S2) (v := true) (so_sz (hn.app s7) (by omega))]
  refine (c_take k S2 a 5 _ (by decide) st2 (by omega)).bind fun d S3 ⟨x, hd, hx0, hx1, u3⟩ => ?_
  subst hd
  obtain ⟨d, hd, hm⟩ := some_at (l := [D.str (L2.cutS nm none (some v) ++ s ++ L2.cutS nm (some (v + 1)) none), .str (nm ++ s), .str (s ++ nm), .str (L2.cutS (Txt.mul nm 7) none (some 7)), .str (L2.cutS (nm ++ "abcdefg") none (some 8))]) hx0 (by simpa using hx1)
  have uu := (u1.trans u2).trans u3
  simp only [v_dict1, v_tzip, v_inv, x_keptX, v_lens, v_dict0, v_rvs, v_comp2, v_maxd, v_dict, v_dget, x_dput, x_par, par_k, i_rngD, i_zip, v_agen, v_glob, v_chain, v_isx, x_raise, x_kept, x_nil, x_cons, x_set, x_unp, x_sets, x_expr, x_ret, x_pass, x_brk, x_cont, x_ite, x_for, x_whl, v_bl, v_int, v_str, v_ty, v_non, v_var, v_tup, v_lst, v_bin, v_neg, v_not, v_cmp, v_and, v_or, v_ife, v_call, v_blt, v_mth, v_sub, v_slc, v_comp, o_none, o_some, s_nil, s_cons, i_seq, i_rng1, i_rng2, i_enum, nx_nx, nx_rt, nx_bk, nx_ct, ite_t, ite_f, and_t, and_f, or_t, or_f, R.bind_ok, R.bind_assoc, ofO_some, tr_b, optI_i, itm_t, itm_l, seqL_l, gdOf_tup, gdOf_lst, neg_i, aug_i, add_i, sub_i, slc_t, slc_l, add_l, len_t, len_l, list_t, list_l, tuple_l, max_i, ls_i, le_i, gt_i, ge_i, sub_t, sub_l, List.getElem?_cons_zero, List.getElem?_cons_succ, List.set_cons_zero, List.set_cons_succ, Bool.not_true, Bool.not_false, hd]
  have key : ∃ z, d = .str z ∧ pl (.str z) = true := by
    simp only [List.mem_cons, List.not_mem_nil, or_false] at hm
    rcases hm with rfl | rfl | rfl | rfl | rfl
    · exact ⟨_, rfl, so_pl t1 (by omega)⟩
    · exact ⟨_, rfl, so_pl t2 (by omega)⟩
    · exact ⟨_, rfl, so_pl t3 (by omega)⟩
    · exact ⟨_, rfl, so_pl t4 (by omega)⟩
    · exact ⟨_, rfl, so_pl t5 (by omega)⟩
  obtain ⟨z, rfl, hz⟩ := key
  exact .ok ⟨_, rfl, uu.old, uu.len, by simp [below], z, rfl, hz, uu.weak (by omega)⟩
/-! ### pairs -/
def PS (ys : List Str) (m : Nat) : List (Str × Str) := (ys.take m).zip ((ys.drop 3 ++ ys).take m)
theorem zip_pd : ∀ (a b : List Str), zipT (a.map .str) (b.map .str) = (a.zip b).map pd
  | [], _ => rfl
  | _ :: _, [] => rfl
  | x :: r, y :: t => by
    show D.tup [.str x, .str y] :: zipT (r.map .str) (t.map .str) = _
    rw [zip_pd r t]
    rfl
theorem tz {S : Store} {a b : List Str} (h : a.length ≤ 1000) : tzipA (.lst (a.map .str)) (.lst (b.map .str)) S = .ok (.tup ((a.zip b).map pd)) S := by
  show mkT (zipT (a.map .str) (b.map .str)) S = _
  rw [zip_pd, mkT_v (sz (by rw [List.length_map, List.length_zip]; omega))]
theorem ps_fst {ys : List Str} {m : Nat} (h6 : ys.length = 6) (hm : m ≤ 3) : (PS ys m).map (·.1) = ys.take m := by
  unfold PS
  exact List.map_fst_zip (by simp; omega)
theorem ps_snd {ys : List Str} {m : Nat} (h6 : ys.length = 6) (hm : m ≤ 3) : (PS ys m).map (·.2) = (ys.drop 3).take m := by
  unfold PS
  have e : (ys.drop 3 ++ ys).take m = (ys.drop 3).take m := by
    rw [List.take_append_of_le_length (by simp; omega)]
  rw [e]
  exact List.map_snd_zip (by simp; omega)
theorem ps_mem {ys : List Str} {m : Nat} (h6 : ys.length = 6) (hm : m ≤ 3) {p : Str × Str} (hp : p ∈ PS ys m) : p.1 ∈ ys ∧ p.2 ∈ ys := by
  have h1 : p.1 ∈ (PS ys m).map (·.1) := List.mem_map.mpr ⟨p, hp, rfl⟩
  have h2 : p.2 ∈ (PS ys m).map (·.2) := List.mem_map.mpr ⟨p, hp, rfl⟩
  rw [ps_fst h6 hm] at h1
  rw [ps_snd h6 hm] at h2
  exact ⟨List.mem_of_mem_take h1, List.mem_of_mem_drop (List.mem_of_mem_take h2)⟩
theorem nm_pl {z : Str} (h : nmS z = true) (ho : PyData.strOk z = true) : pl (.str z) = true := by
  have : z.length ≤ 6 := by
    simp only [nmS, Bool.and_eq_true, decide_eq_true_eq] at h
    exact h.1.2
  simp only [pl, Bool.and_eq_true, decide_eq_true_eq]
  exact ⟨ho, by omega⟩
theorem pd_ok {ps : List (Str × Str)} (h : ∀ p ∈ ps, (nmS p.1 = true ∧ PyData.strOk p.1 = true) ∧ nmS p.2 = true ∧ PyData.strOk p.2 = true) : pls (ps.map pd) = true ∧ (ps.map pd).all prB = true := by
  constructor
  · refine pls_of fun d hd => ?_
    obtain ⟨p, hp, rfl⟩ := List.mem_map.mp hd
    obtain ⟨⟨h1, h2⟩, h3, h4⟩ := h p hp
    have e1 := nm_pl h1 h2
    have e2 := nm_pl h3 h4
    simp only [pd]
    simp only [pl, pls] at e1 e2 ⊢
    simp only [e1, e2, Bool.and_self]
  · rw [List.all_map, List.all_eq_true]
    intro p hp
    obtain ⟨⟨h1, h2⟩, h3, h4⟩ := h p hp
    show (nmS p.1 && nmS p.2) = true
    rw [h1, h3]
    rfl
theorem ps_yes {S : Store} {ys : List Str} {m : Nat} (hn : Ns ys) (h6 : ys.length = 6) (hm : m ≤ 3) : CC 38 "are_pairs" [.tup ((PS ys m).map pd)] S = .ok (.bl true) S := by
  obtain ⟨h1, h2⟩ := pd_ok (ps := PS ys m) fun p hp => by
    obtain ⟨m1, m2⟩ := ps_mem h6 hm hp
    exact ⟨⟨hn.nm _ m1, hn.ok _ m1⟩, hn.nm _ m2, hn.ok _ m2⟩
  have hl : (PS ys m).length ≤ 50 := by
    unfold PS
    rw [List.length_zip, List.length_take]
    omega
  have q := c_pairs_yes 35 S (PS ys m) hl h1 h2
  have e : psS (PS ys m) = true := by
    unfold psS
    rw [ps_fst h6 hm, ps_snd h6 hm, decide_eq_true (hn.nd.sublist (List.take_sublist _ _)), decide_eq_true (hn.nd.sublist ((List.take_sublist _ _).trans (List.drop_sublist _ _)))]
    rfl
  rw [e] at q
  exact q
theorem tell_head {ps : List (Str × Str)} {z : Str} : L2.atI (((ps.filter fun p => decide (p.1 = z)).map fun p => D.str p.2) ++ [D.str z]) 0 = some (.str (tell ps z)) := by
  have e : (0 : Int) = ((0 : Nat) : Int) := rfl
  rw [e, atI_nat]
  unfold tell
  induction ps with
  | nil => rfl
  | cons p r ih =>
    rw [List.find?_cons, List.filter_cons]
    cases hd : decide (p.1 = z) with
    | true => rfl
    | false => exact ih
theorem c_loopn {S : Store} (a : Nat) (v : Int) (ys : List Str) (ps : List (Str × Str)) (hp : ∀ p ∈ ps, PyData.strOk p.1 = true) (hp2 : ∀ p ∈ ps, PyData.strOk p.2 = true) (hl : ps.length ≤ 50) (zs : List Str) (hz : ∀ z ∈ zs, PyData.strOk z = true) {x4 x8 : Option D} :
    Sat (forB Gs 1000000 (CC 38) [] (.nm 4) (match d__law_pairs_right.body with
      | .cons _ (.cons _ (.cons _ (.cons _ (.cons (.for _ _ b) _)))) => b
      | _ => .nil) (zs.map .str) [some (.ref a), some (.lst (ys.map .str)), some (.int v), some (.tup (ps.map pd)), x4, none, none, none, x8, none, none] S) fun f S' => S' = S ∧ ∃ y4 y8, f = .nx [some (.ref a), some (.lst (ys.map .str)), some (.int v), some (.tup (ps.map pd)), y4, none, none, none, y8, none, none] := by
  unfold forB
  refine for_sat (fun i e S' => S' = S ∧ ∃ y4 y8, e = [some (.ref a), some (.lst (ys.map .str)), some (.int v), some (.tup (ps.map pd)), y4, none, none, none, y8, none, none]) ?_ (fun e S' ⟨h, y4, y8, he⟩ => ⟨h, y4, y8, by rw [he]⟩) ⟨rfl, _, _, rfl⟩
  rintro i d e S' hd ⟨rfl, y4, y8, rfl⟩
  obtain ⟨z, hzm, rfl⟩ := List.mem_map.mp (List.mem_of_getElem? hd)
  have zo := hz z hzm
  refine ⟨_, rfl, ?_⟩
  have g : cmpB Gs (CC 38) [] (.tp [9, 10]) (.some (.cmp .Eq (.var 9) (.var 4))) (.var 10) [some (.ref a), some (.lst (ys.map .str)), some (.int v), some (.tup (ps.map pd)), some (.str z), none, none, none, y8, none, none] (ps.map pd) S' = .ok ((ps.filter fun p => decide (p.1 = z)).map fun p => D.str p.2) S' := by
    unfold cmpB
    rw [comp_map pd (fun p => decide (p.1 = z)) (fun p => .str p.2) gdOk_nil ps [] (sz' (by simp; omega)) fun p hpm => by
      have c1 : cmpA .Eq (.str p.1) (.str z) S' = some (decide (p.1 = z)) := by
        rw [eq_g (by simp only [gd]; exact hp p hpm) (by simp only [gd]; exact zo)]
        simp
      refine ⟨_, rfl, ?_, fun _ => ?_⟩
      · simp only [tru, oc_some, v_dict1, v_tzip, v_inv, x_keptX, v_lens, v_dict0, v_rvs, v_comp2, v_maxd, v_dict, v_dget, x_dput, x_par, par_k, i_rngD, i_zip, v_agen, v_glob, v_chain, v_isx, x_raise, x_kept, x_nil, x_cons, x_set, x_unp, x_sets, x_expr, x_ret, x_pass, x_brk, x_cont, x_ite, x_for, x_whl, v_bl, v_int, v_str, v_ty, v_non, v_var, v_tup, v_lst, v_bin, v_neg, v_not, v_cmp, v_and, v_or, v_ife, v_call, v_blt, v_mth, v_sub, v_slc, v_comp, o_none, o_some, s_nil, s_cons, i_seq, i_rng1, i_rng2, i_enum, nx_nx, nx_rt, nx_bk, nx_ct, ite_t, ite_f, and_t, and_f, or_t, or_f, R.bind_ok, R.bind_assoc, ofO_some, tr_b, optI_i, itm_t, itm_l, seqL_l, gdOf_tup, gdOf_lst, neg_i, aug_i, add_i, sub_i, slc_t, slc_l, add_l, len_t, len_l, list_t, list_l, tuple_l, max_i, ls_i, le_i, gt_i, ge_i, sub_t, sub_l, List.getElem?_cons_zero, List.getElem?_cons_succ, List.set_cons_zero, List.set_cons_succ, Bool.not_true, Bool.not_false, c1]
      · simp only [v_dict1, v_tzip, v_inv, x_keptX, v_lens, v_dict0, v_rvs, v_comp2, v_maxd, v_dict, v_dget, x_dput, x_par, par_k, i_rngD, i_zip, v_agen, v_glob, v_chain, v_isx, x_raise, x_kept, x_nil, x_cons, x_set, x_unp, x_sets, x_expr, x_ret, x_pass, x_brk, x_cont, x_ite, x_for, x_whl, v_bl, v_int, v_str, v_ty, v_non, v_var, v_tup, v_lst, v_bin, v_neg, v_not, v_cmp, v_and, v_or, v_ife, v_call, v_blt, v_mth, v_sub, v_slc, v_comp, o_none, o_some, s_nil, s_cons, i_seq, i_rng1, i_rng2, i_enum, nx_nx, nx_rt, nx_bk, nx_ct, ite_t, ite_f, and_t, and_f, or_t, or_f, R.bind_ok, R.bind_assoc, ofO_some, tr_b, optI_i, itm_t, itm_l, seqL_l, gdOf_tup, gdOf_lst, neg_i, aug_i, add_i, sub_i, slc_t, slc_l, add_l, len_t, len_l, list_t, list_l, tuple_l, max_i, ls_i, le_i, gt_i, ge_i, sub_t, sub_l, List.getElem?_cons_zero, List.getElem?_cons_succ, List.set_cons_zero, List.set_cons_succ, Bool.not_true, Bool.not_false]]
    rw [List.nil_append]
  have fl : ((ps.filter fun p => decide (p.1 = z)).map fun p => D.str p.2).length ≤ 50 := by
    rw [List.length_map]
    exact Nat.le_trans (List.length_filter_le _ _) hl
  have ne : cmpA .NotEq (.str (tell ps z)) (.str (tell ps z)) S' = some false := by
    have : PyData.strOk (tell ps z) = true := by
      unfold tell
      cases hf : ps.find? fun p => decide (p.1 = z) with
      | some p => exact hp2 p (List.mem_of_find?_eq_some hf)
      | none => exact zo
    rw [ne_g (by simp only [gd]; exact this) (by simp only [gd]; exact this)]
    simp
  simp only [d__law_pairs_right, List.set_cons_zero, List.set_cons_succ, v_dict1, v_tzip, v_inv, x_keptX, v_lens, v_dict0, v_rvs, v_comp2, v_maxd, v_dict, v_dget, x_dput, x_par, par_k, i_rngD, i_zip, v_agen, v_glob, v_chain, v_isx, x_raise, x_kept, x_nil, x_cons, x_set, x_unp, x_sets, x_expr, x_ret, x_pass, x_brk, x_cont, x_ite, x_for, x_whl, v_bl, v_int, v_str, v_ty, v_non, v_var, v_tup, v_lst, v_bin, v_neg, v_not, v_cmp, v_and, v_or, v_ife, v_call, v_blt, v_mth, v_sub, v_slc, v_comp, o_none, o_some, s_nil, s_cons, i_seq, i_rng1, i_rng2, i_enum, nx_nx, nx_rt, nx_bk, nx_ct, ite_t, ite_f, and_t, and_f, or_t, or_f, R.bind_ok, R.bind_assoc, ofO_some, tr_b, optI_i, itm_t, itm_l, seqL_l, gdOf_tup, gdOf_lst, neg_i, aug_i, add_i, sub_i, slc_t, slc_l, add_l, len_t, len_l, list_t, list_l, tuple_l, max_i, ls_i, le_i, gt_i, ge_i, sub_t, sub_l, List.getElem?_cons_zero, List.getElem?_cons_succ, List.set_cons_zero, List.set_cons_succ, Bool.not_true, Bool.not_false, wipe, g]
  rw [mkL_v (sz (by omega))]
  simp only [v_dict1, v_tzip, v_inv, x_keptX, v_lens, v_dict0, v_rvs, v_comp2, v_maxd, v_dict, v_dget, x_dput, x_par, par_k, i_rngD, i_zip, v_agen, v_glob, v_chain, v_isx, x_raise, x_kept, x_nil, x_cons, x_set, x_unp, x_sets, x_expr, x_ret, x_pass, x_brk, x_cont, x_ite, x_for, x_whl, v_bl, v_int, v_str, v_ty, v_non, v_var, v_tup, v_lst, v_bin, v_neg, v_not, v_cmp, v_and, v_or, v_ife, v_call, v_blt, v_mth, v_sub, v_slc, v_comp, o_none, o_some, s_nil, s_cons, i_seq, i_rng1, i_rng2, i_enum, nx_nx, nx_rt, nx_bk, nx_ct, ite_t, ite_f, and_t, and_f, or_t, or_f, R.bind_ok, R.bind_assoc, ofO_some, tr_b, optI_i, itm_t, itm_l, seqL_l, gdOf_tup, gdOf_lst, neg_i, aug_i, add_i, sub_i, slc_t, slc_l, add_l, len_t, len_l, list_t, list_l, tuple_l, max_i, ls_i, le_i, gt_i, ge_i, sub_t, sub_l, List.getElem?_cons_zero, List.getElem?_cons_succ, List.set_cons_zero, List.set_cons_succ, Bool.not_true, Bool.not_false, mkL_v (l := [D.str z]) (sz (by simp))]
  rw [mkL_v (sz (by rw [List.length_append]; simp only [List.length_cons, List.length_nil]; omega))]
  simp only [v_dict1, v_tzip, v_inv, x_keptX, v_lens, v_dict0, v_rvs, v_comp2, v_maxd, v_dict, v_dget, x_dput, x_par, par_k, i_rngD, i_zip, v_agen, v_glob, v_chain, v_isx, x_raise, x_kept, x_nil, x_cons, x_set, x_unp, x_sets, x_expr, x_ret, x_pass, x_brk, x_cont, x_ite, x_for, x_whl, v_bl, v_int, v_str, v_ty, v_non, v_var, v_tup, v_lst, v_bin, v_neg, v_not, v_cmp, v_and, v_or, v_ife, v_call, v_blt, v_mth, v_sub, v_slc, v_comp, o_none, o_some, s_nil, s_cons, i_seq, i_rng1, i_rng2, i_enum, nx_nx, nx_rt, nx_bk, nx_ct, ite_t, ite_f, and_t, and_f, or_t, or_f, R.bind_ok, R.bind_assoc, ofO_some, tr_b, optI_i, itm_t, itm_l, seqL_l, gdOf_tup, gdOf_lst, neg_i, aug_i, add_i, sub_i, slc_t, slc_l, add_l, len_t, len_l, list_t, list_l, tuple_l, max_i, ls_i, le_i, gt_i, ge_i, sub_t, sub_l, List.getElem?_cons_zero, List.getElem?_cons_succ, List.set_cons_zero, List.set_cons_succ, Bool.not_true, Bool.not_false, c_by 37 S' ps z hp zo, tell_head, ne]
  exact .ok ⟨rfl, _, _, rfl⟩
end K01

namespace K01
open PySem Mn

theorem no_q : nmS "Q" = false ∧ nmS "no" = false ∧ pl (.str "Q") = true ∧ pl (.str "no") = true ∧ pl (.str "ab") = true := by decide +kernel
/-- no pair -/
theorem odd_pair {a b : Str} (ha : pl (.str a) = true) (hb : pl (.str b) = true) {v : Int} (h0 : 0 ≤ v) (h1 : v < 8) : ∃ d, L2.atI [D.tup [.str a], .lst [.str a, .str b], .tup [.str a, .str "no"], .tup [.str "Q", .str b], .str a, .non, .tup [.str a, .int 5], .tup []] v = some d ∧ pl d = true ∧ prB d = false := by
  obtain ⟨d, hd, hm⟩ := some_at (l := [D.tup [.str a], .lst [.str a, .str b], .tup [.str a, .str "no"], .tup [.str "Q", .str b], .str a, .non, .tup [.str a, .int 5], .tup []]) h0 (by simpa using h1)
  refine ⟨d, hd, ?_⟩
  obtain ⟨q1, q2, q3, q4, _⟩ := no_q
  simp only [pl] at ha hb q3 q4
  simp only [List.mem_cons, List.not_mem_nil, or_false] at hm
  rcases hm with rfl | rfl | rfl | rfl | rfl | rfl | rfl | rfl
  · exact ⟨by simp only [pl, pls, ha, Bool.and_self], rfl⟩
  · exact ⟨by simp only [pl, pls, ha, hb, Bool.and_self], rfl⟩
  · exact ⟨by simp only [pl, pls, ha, q4, Bool.and_self], by simp [prB, nmB, q2]⟩
  · exact ⟨by simp only [pl, pls, q3, hb, Bool.and_self], by simp [prB, nmB, q1]⟩
  · exact ⟨by simp only [pl]; exact ha, rfl⟩
  · exact ⟨rfl, rfl⟩
  · exact ⟨by simp only [pl, pls, ha, Bool.and_self], by simp [prB, nmB]⟩
  · exact ⟨rfl, rfl⟩
theorem isi_dic {v : Bool} {S : Store} {n : Nat} {ks : List Str} {ds : List D} (t : String) (ht : t = "tuple" ∨ t = "str") (h : S[n]? = some (.dic ks ds)) : bltA v "isinstance" [.ref n, .ty t] S = .ok (.bl false) S := by
  have e : tyOf S (.ref n) = some "dict" := by
    unfold tyOf
    dsimp only
    rw [h]
  show (match tyOf S (.ref n) with
    | some a => (match L2.kitB a t with
      | some b => R.ok (D.bl b) S
      | none => .bad)
    | none => .bad) = _
  rw [e]
  rcases ht with rfl | rfl <;> rfl
theorem dic_pairs {S : Store} {n : Nat} {ks : List Str} {ds : List D} (h : S[n]? = some (.dic ks ds)) : CC 38 "are_pairs" [.ref n] S = .ok (.bl false) S := by
  rw [show CC 38 "are_pairs" [.ref n] S = _ from call_step (k := 37) (d := d_are_pairs) rfl rfl]
  show leave .pure S (exB Gs 1000000 (CC 37) d_are_pairs.body [some (.ref n), none] S) = _
  refine lv_ok ?_ (by simp [below])
  simp only [d_are_pairs, v_dict1, v_tzip, v_inv, x_keptX, v_lens, v_dict0, v_rvs, v_comp2, v_maxd, v_dict, v_dget, x_dput, x_par, par_k, i_rngD, i_zip, v_agen, v_glob, v_chain, v_isx, x_raise, x_kept, x_nil, x_cons, x_set, x_unp, x_sets, x_expr, x_ret, x_pass, x_brk, x_cont, x_ite, x_for, x_whl, v_bl, v_int, v_str, v_ty, v_non, v_var, v_tup, v_lst, v_bin, v_neg, v_not, v_cmp, v_and, v_or, v_ife, v_call, v_blt, v_mth, v_sub, v_slc, v_comp, o_none, o_some, s_nil, s_cons, i_seq, i_rng1, i_rng2, i_enum, nx_nx, nx_rt, nx_bk, nx_ct, ite_t, ite_f, and_t, and_f, or_t, or_f, R.bind_ok, R.bind_assoc, ofO_some, tr_b, optI_i, itm_t, itm_l, seqL_l, gdOf_tup, gdOf_lst, neg_i, aug_i, add_i, sub_i, slc_t, slc_l, add_l, len_t, len_l, list_t, list_l, tuple_l, max_i, ls_i, le_i, gt_i, ge_i, sub_t, sub_l, List.getElem?_cons_zero, List.getElem?_cons_succ, List.set_cons_zero, List.set_cons_succ, Bool.not_true, Bool.not_false, isi_dic "tuple" (.inl rfl) h]
theorem dic_name {k : Nat} {S : Store} {n : Nat} {ks : List Str} {ds : List D} (h : S[n]? = some (.dic ks ds)) : CC (k + 1) "is_name" [.ref n] S = .ok (.bl false) S := by
  rw [show CC (k + 1) "is_name" [.ref n] S = _ from call_step (k := k) (d := d_is_name) rfl rfl]
  show leave .pure S (exB Gs 1000000 (CC k) d_is_name.body [some (.ref n), none] S) = _
  refine lv_ok ?_ (by simp [below])
  simp only [d_is_name, v_dict1, v_tzip, v_inv, x_keptX, v_lens, v_dict0, v_rvs, v_comp2, v_maxd, v_dict, v_dget, x_dput, x_par, par_k, i_rngD, i_zip, v_agen, v_glob, v_chain, v_isx, x_raise, x_kept, x_nil, x_cons, x_set, x_unp, x_sets, x_expr, x_ret, x_pass, x_brk, x_cont, x_ite, x_for, x_whl, v_bl, v_int, v_str, v_ty, v_non, v_var, v_tup, v_lst, v_bin, v_neg, v_not, v_cmp, v_and, v_or, v_ife, v_call, v_blt, v_mth, v_sub, v_slc, v_comp, o_none, o_some, s_nil, s_cons, i_seq, i_rng1, i_rng2, i_enum, nx_nx, nx_rt, nx_bk, nx_ct, ite_t, ite_f, and_t, and_f, or_t, or_f, R.bind_ok, R.bind_assoc, ofO_some, tr_b, optI_i, itm_t, itm_l, seqL_l, gdOf_tup, gdOf_lst, neg_i, aug_i, add_i, sub_i, slc_t, slc_l, add_l, len_t, len_l, list_t, list_l, tuple_l, max_i, ls_i, le_i, gt_i, ge_i, sub_t, sub_l, List.getElem?_cons_zero, List.getElem?_cons_succ, List.set_cons_zero, List.set_cons_succ, Bool.not_true, Bool.not_false, isi_dic "str" (.inr rfl) h]
theorem bad_all {S : Store} {a b c : Str} (ha : nmS a = true ∧ PyData.strOk a = true) (hb : nmS b = true ∧ PyData.strOk b = true) (hc : nmS c = true ∧ PyData.strOk c = true) {o o2 : D} (po : pl o = true) (no : prB o = false) (po2 : pl o2 = true) (no2 : prB o2 = false) {n : Nat} {ks : List Str} {ds : List D} (hn : S[n]? = some (.dic ks ds)) {v : Int} (h0 : 0 ≤ v) (h1 : v < 9) :
    ∃ d, L2.atI ([D.tup [o], .tup [pd (a, b), pd (a, c)], .tup [pd (a, b), pd (c, b)], .lst [pd (a, b)], .non, .str "ab"] ++ [.tup [pd (a, b), o2], .ref n, .int 5]) v = some d ∧ CC 38 "are_pairs" [d] S = .ok (.bl false) S := by
  obtain ⟨d, hd, hm⟩ := some_at (l := [D.tup [o], .tup [pd (a, b), pd (a, c)], .tup [pd (a, b), pd (c, b)], .lst [pd (a, b)], .non, .str "ab"] ++ [.tup [pd (a, b), o2], .ref n, .int 5]) h0 (by simpa using h1)
  refine ⟨d, hd, ?_⟩
  have pa := nm_pl ha.1 ha.2
  have pb := nm_pl hb.1 hb.2
  have pab : pl (pd (a, b)) = true := by
    simp only [pl] at pa pb
    simp only [pd, pl, pls, pa, pb, Bool.and_self]
  simp only [List.cons_append, List.nil_append, List.mem_cons, List.not_mem_nil, or_false] at hm
  rcases hm with rfl | rfl | rfl | rfl | rfl | rfl | rfl | rfl | rfl
  · exact c_pairs_no 35 S _ (by simp only [pl, pls, po, Bool.and_self]) fun l e => by cases e; simp [no]
  · obtain ⟨h1, h2⟩ := pd_ok (ps := [(a, b), (a, c)]) fun p hp => by
      simp only [List.mem_cons, List.not_mem_nil, or_false] at hp
      rcases hp with rfl | rfl
      · exact ⟨ha, hb⟩
      · exact ⟨ha, hc⟩
    have q := c_pairs_yes 35 S [(a, b), (a, c)] (by simp) h1 h2
    have e : psS [(a, b), (a, c)] = false := by simp [psS]
    rw [e] at q
    exact q
  · obtain ⟨h1, h2⟩ := pd_ok (ps := [(a, b), (c, b)]) fun p hp => by
      simp only [List.mem_cons, List.not_mem_nil, or_false] at hp
      rcases hp with rfl | rfl
      · exact ⟨ha, hb⟩
      · exact ⟨hc, hb⟩
    have q := c_pairs_yes 35 S [(a, b), (c, b)] (by simp) h1 h2
    have e : psS [(a, b), (c, b)] = false := by simp [psS]
    rw [e] at q
    exact q
  · exact c_pairs_no 35 S _ (by simp only [pl, pls, pab, Bool.and_self]) fun l e => by cases e
  · exact c_pairs_no 35 S _ rfl fun l e => by cases e
  · exact c_pairs_no 35 S _ no_q.2.2.2.2 fun l e => by cases e
  · exact c_pairs_no 35 S _ (by simp only [pl, pls, pab, po2, Bool.and_self]) fun l e => by cases e; simp [no2]
  · exact dic_pairs hn
  · exact c_pairs_no 35 S _ rfl fun l e => by cases e
theorem at6 {a b c d e f : D} : L2.atI [a, b, c, d, e, f] 0 = some a ∧ L2.atI [a, b, c, d, e, f] 1 = some b ∧ L2.atI [a, b, c, d, e, f] 2 = some c := ⟨rfl, rfl, rfl⟩
theorem isn_b {S : Store} {a b : Bool} : cmpA .IsNot (.bl a) (.bl b) S = some (!decide (a = b)) := nr rfl
theorem is_b {S : Store} {a b : Bool} : cmpA .Is (.bl a) (.bl b) S = some (decide (a = b)) := nr rfl
theorem c_pr (S : Store) (a : Nat) (C : Int) (h : Stm S a C) (hC : C < 20000) : Sat (CC 39 "_law_pairs_right" [.ref a] S) fun d S' => d = .bl true ∧ Upd S a S' (C + 50) := by
  have ha := h.lt
  rw [show CC 39 "_law_pairs_right" [.ref a] S = _ from call_step (k := 38) (d := d__law_pairs_right) rfl rfl]
  show Sat (leave .pure S (exB Gs 1000000 (CC 38) d__law_pairs_right.body [some (.ref a), none, none, none, none, none, none, none, none, none, none] S)) _
  refine W.leave (a := a) (C := C + 50) ?_
  have w0 := W.mk h
  simp only [d__law_pairs_right, v_dict1, v_tzip, v_inv, x_keptX, v_lens, v_dict0, v_rvs, v_comp2, v_maxd, v_dict, v_dget, x_dput, x_par, par_k, i_rngD, i_zip, v_agen, v_glob, v_chain, v_isx, x_raise, x_kept, x_nil, x_cons, x_set, x_unp, x_sets, x_expr, x_ret, x_pass, x_brk, x_cont, x_ite, x_for, x_whl, v_bl, v_int, v_str, v_ty, v_non, v_var, v_tup, v_lst, v_bin, v_neg, v_not, v_cmp, v_and, v_or, v_ife, v_call, v_blt, v_mth, v_sub, v_slc, v_comp, o_none, o_some, s_nil, s_cons, i_seq, i_rng1, i_rng2, i_enum, nx_nx, nx_rt, nx_bk, nx_ct, ite_t, ite_f, and_t, and_f, or_t, or_f, R.bind_ok, R.bind_assoc, ofO_some, tr_b, optI_i, itm_t, itm_l, seqL_l, gdOf_tup, gdOf_lst, neg_i, aug_i, add_i, sub_i, slc_t, slc_l, add_l, len_t, len_l, list_t, list_l, tuple_l, max_i, ls_i, le_i, gt_i, ge_i, sub_t, sub_l, List.getElem?_cons_zero, List.getElem?_cons_succ, List.set_cons_zero, List.set_cons_succ, Bool.not_true, Bool.not_false]
  refine Sat.bind (c_names 35 S a 6 C h (by omega) (by omega)) fun d S1 ⟨ys, hd, h6, hn, u1⟩ => ?_
  subst hd
  have w1 := w0.upd ha u1
  have st1 := u1.stm h
  try simp only [v_dict1, v_tzip, v_inv, x_keptX, v_lens, v_dict0, v_rvs, v_comp2, v_maxd, v_dict, v_dget, x_dput, x_par, par_k, i_rngD, i_zip, v_agen, v_glob, v_chain, v_isx, x_raise, x_kept, x_nil, x_cons, x_set, x_unp, x_sets, x_expr, x_ret, x_pass, x_brk, x_cont, x_ite, x_for, x_whl, v_bl, v_int, v_str, v_ty, v_non, v_var, v_tup, v_lst, v_bin, v_neg, v_not, v_cmp, v_and, v_or, v_ife, v_call, v_blt, v_mth, v_sub, v_slc, v_comp, o_none, o_some, s_nil, s_cons, i_seq, i_rng1, i_rng2, i_enum, nx_nx, nx_rt, nx_bk, nx_ct, ite_t, ite_f, and_t, and_f, or_t, or_f, R.bind_ok, R.bind_assoc, ofO_some, tr_b, optI_i, itm_t, itm_l, seqL_l, gdOf_tup, gdOf_lst, neg_i, aug_i, add_i, sub_i, slc_t, slc_l, add_l, len_t, len_l, list_t, list_l, tuple_l, max_i, ls_i, le_i, gt_i, ge_i, sub_t, sub_l, List.getElem?_cons_zero, List.getElem?_cons_succ, List.set_cons_zero, List.set_cons_succ, Bool.not_true, Bool.not_false]
  refine Sat.bind (W.take 36 w1 ha 4 (by decide) (by omega)) fun d S2 ⟨v, hd, hv0, hv1, w2⟩ => ?_
  subst hd
  have loop := fun (x8 : Option D) => c_loopn (S := S2) a v ys (PS ys v.toNat) (fun p hp => hn.ok _ (ps_mem h6 (by omega) hp).1) (fun p hp => hn.ok _ (ps_mem h6 (by omega) hp).2) (by unfold PS; rw [List.length_zip, List.length_take]; omega) (ys ++ [("zz" : Str)]) (fun z hz => (List.mem_append.mp hz).elim (hn.ok z) fun q => by rw [List.mem_singleton.mp q]; decide +kernel) (x4 := none) (x8 := x8)
  simp only [d__law_pairs_right] at loop
  have c3 : cutA (ys.map D.str) (some 3) none = (ys.drop 3).map .str := by
    have := cut_from (l := ys.map D.str) (k := 3)
    rw [List.map_drop]
    exact this
  have e0 : (ys.drop 3).map D.str ++ ys.map D.str = (ys.drop 3 ++ ys).map .str := by simp
  have yes0 := ps_yes (S := S2) (m := 0) hn h6 (by omega)
  have yesv := ps_yes (S := S2) (m := v.toNat) hn h6 (by omega)
  have e1 : ys.map D.str ++ [D.str "zz"] = (ys ++ [("zz" : Str)]).map .str := by simp
  simp only [v_dict1, v_tzip, v_inv, x_keptX, v_lens, v_dict0, v_rvs, v_comp2, v_maxd, v_dict, v_dget, x_dput, x_par, par_k, i_rngD, i_zip, v_agen, v_glob, v_chain, v_isx, x_raise, x_kept, x_nil, x_cons, x_set, x_unp, x_sets, x_expr, x_ret, x_pass, x_brk, x_cont, x_ite, x_for, x_whl, v_bl, v_int, v_str, v_ty, v_non, v_var, v_tup, v_lst, v_bin, v_neg, v_not, v_cmp, v_and, v_or, v_ife, v_call, v_blt, v_mth, v_sub, v_slc, v_comp, o_none, o_some, s_nil, s_cons, i_seq, i_rng1, i_rng2, i_enum, nx_nx, nx_rt, nx_bk, nx_ct, ite_t, ite_f, and_t, and_f, or_t, or_f, R.bind_ok, R.bind_assoc, ofO_some, tr_b, optI_i, itm_t, itm_l, seqL_l, gdOf_tup, gdOf_lst, neg_i, aug_i, add_i, sub_i, slc_t, slc_l, add_l, len_t, len_l, list_t, list_l, tuple_l, max_i, ls_i, le_i, gt_i, ge_i, sub_t, sub_l, List.getElem?_cons_zero, List.getElem?_cons_succ, List.set_cons_zero, List.set_cons_succ, Bool.not_true, Bool.not_false, cut_n hv0, c3, ← List.map_take]
  rw [mkL_v (l := (ys.take v.toNat).map .str) (sz (by simp; omega)), R.bind_ok, mkL_v (l := (ys.drop 3).map .str) (sz (by simp; omega))]
  simp only [v_dict1, v_tzip, v_inv, x_keptX, v_lens, v_dict0, v_rvs, v_comp2, v_maxd, v_dict, v_dget, x_dput, x_par, par_k, i_rngD, i_zip, v_agen, v_glob, v_chain, v_isx, x_raise, x_kept, x_nil, x_cons, x_set, x_unp, x_sets, x_expr, x_ret, x_pass, x_brk, x_cont, x_ite, x_for, x_whl, v_bl, v_int, v_str, v_ty, v_non, v_var, v_tup, v_lst, v_bin, v_neg, v_not, v_cmp, v_and, v_or, v_ife, v_call, v_blt, v_mth, v_sub, v_slc, v_comp, o_none, o_some, s_nil, s_cons, i_seq, i_rng1, i_rng2, i_enum, nx_nx, nx_rt, nx_bk, nx_ct, ite_t, ite_f, and_t, and_f, or_t, or_f, R.bind_ok, R.bind_assoc, ofO_some, tr_b, optI_i, itm_t, itm_l, seqL_l, gdOf_tup, gdOf_lst, neg_i, aug_i, add_i, sub_i, slc_t, slc_l, add_l, len_t, len_l, list_t, list_l, tuple_l, max_i, ls_i, le_i, gt_i, ge_i, sub_t, sub_l, List.getElem?_cons_zero, List.getElem?_cons_succ, List.set_cons_zero, List.set_cons_succ, Bool.not_true, Bool.not_false, e0]
  rw [mkL_v (l := (ys.drop 3 ++ ys).map .str) (sz (by simp; omega))]
  simp only [v_dict1, v_tzip, v_inv, x_keptX, v_lens, v_dict0, v_rvs, v_comp2, v_maxd, v_dict, v_dget, x_dput, x_par, par_k, i_rngD, i_zip, v_agen, v_glob, v_chain, v_isx, x_raise, x_kept, x_nil, x_cons, x_set, x_unp, x_sets, x_expr, x_ret, x_pass, x_brk, x_cont, x_ite, x_for, x_whl, v_bl, v_int, v_str, v_ty, v_non, v_var, v_tup, v_lst, v_bin, v_neg, v_not, v_cmp, v_and, v_or, v_ife, v_call, v_blt, v_mth, v_sub, v_slc, v_comp, o_none, o_some, s_nil, s_cons, i_seq, i_rng1, i_rng2, i_enum, nx_nx, nx_rt, nx_bk, nx_ct, ite_t, ite_f, and_t, and_f, or_t, or_f, R.bind_ok, R.bind_assoc, ofO_some, tr_b, optI_i, itm_t, itm_l, seqL_l, gdOf_tup, gdOf_lst, neg_i, aug_i, add_i, sub_i, slc_t, slc_l, add_l, len_t, len_l, list_t, list_l, tuple_l, max_i, ls_i, le_i, gt_i, ge_i, sub_t, sub_l, List.getElem?_cons_zero, List.getElem?_cons_succ, List.set_cons_zero, List.set_cons_succ, Bool.not_true, Bool.not_false, cut_n hv0, ← List.map_take]
  rw [mkL_v (l := ((ys.drop 3 ++ ys).take v.toNat).map .str) (sz (by simp; omega))]
  simp only [v_dict1, v_tzip, v_inv, x_keptX, v_lens, v_dict0, v_rvs, v_comp2, v_maxd, v_dict, v_dget, x_dput, x_par, par_k, i_rngD, i_zip, v_agen, v_glob, v_chain, v_isx, x_raise, x_kept, x_nil, x_cons, x_set, x_unp, x_sets, x_expr, x_ret, x_pass, x_brk, x_cont, x_ite, x_for, x_whl, v_bl, v_int, v_str, v_ty, v_non, v_var, v_tup, v_lst, v_bin, v_neg, v_not, v_cmp, v_and, v_or, v_ife, v_call, v_blt, v_mth, v_sub, v_slc, v_comp, o_none, o_some, s_nil, s_cons, i_seq, i_rng1, i_rng2, i_enum, nx_nx, nx_rt, nx_bk, nx_ct, ite_t, ite_f, and_t, and_f, or_t, or_f, R.bind_ok, R.bind_assoc, ofO_some, tr_b, optI_i, itm_t, itm_l, seqL_l, gdOf_tup, gdOf_lst, neg_i, aug_i, add_i, sub_i, slc_t, slc_l, add_l, len_t, len_l, list_t, list_l, tuple_l, max_i, ls_i, le_i, gt_i, ge_i, sub_t, sub_l, List.getElem?_cons_zero, List.getElem?_cons_succ, List.set_cons_zero, List.set_cons_succ, Bool.not_true, Bool.not_false, tz (S := S2) (a := ys.take v.toNat) (b := (ys.drop 3 ++ ys).take v.toNat) (by simp; omega)]
  rw [show (ys.take v.toNat).zip ((ys.drop 3 ++ ys).take v.toNat) = PS ys v.toNat from rfl]
  rw [show D.tup ((PS ys 0).map pd) = .tup [] from rfl] at yes0
  simp only [v_dict1, v_tzip, v_inv, x_keptX, v_lens, v_dict0, v_rvs, v_comp2, v_maxd, v_dict, v_dget, x_dput, x_par, par_k, i_rngD, i_zip, v_agen, v_glob, v_chain, v_isx, x_raise, x_kept, x_nil, x_cons, x_set, x_unp, x_sets, x_expr, x_ret, x_pass, x_brk, x_cont, x_ite, x_for, x_whl, v_bl, v_int, v_str, v_ty, v_non, v_var, v_tup, v_lst, v_bin, v_neg, v_not, v_cmp, v_and, v_or, v_ife, v_call, v_blt, v_mth, v_sub, v_slc, v_comp, o_none, o_some, s_nil, s_cons, i_seq, i_rng1, i_rng2, i_enum, nx_nx, nx_rt, nx_bk, nx_ct, ite_t, ite_f, and_t, and_f, or_t, or_f, R.bind_ok, R.bind_assoc, ofO_some, tr_b, optI_i, itm_t, itm_l, seqL_l, gdOf_tup, gdOf_lst, neg_i, aug_i, add_i, sub_i, slc_t, slc_l, add_l, len_t, len_l, list_t, list_l, tuple_l, max_i, ls_i, le_i, gt_i, ge_i, sub_t, sub_l, List.getElem?_cons_zero, List.getElem?_cons_succ, List.set_cons_zero, List.set_cons_succ, Bool.not_true, Bool.not_false, yesv, isn_b, decide_true, Bool.not_true, mkT_v (l := []) (S := S2) (sz (by simp)), yes0, mkL_v (l := [D.str "zz"]) (S := S2) (sz (by simp)), e1]
  rw [mkL_v (l := (ys ++ [("zz" : Str)]).map .str) (sz (by simp; omega))]
  simp only [v_dict1, v_tzip, v_inv, x_keptX, v_lens, v_dict0, v_rvs, v_comp2, v_maxd, v_dict, v_dget, x_dput, x_par, par_k, i_rngD, i_zip, v_agen, v_glob, v_chain, v_isx, x_raise, x_kept, x_nil, x_cons, x_set, x_unp, x_sets, x_expr, x_ret, x_pass, x_brk, x_cont, x_ite, x_for, x_whl, v_bl, v_int, v_str, v_ty, v_non, v_var, v_tup, v_lst, v_bin, v_neg, v_not, v_cmp, v_and, v_or, v_ife, v_call, v_blt, v_mth, v_sub, v_slc, v_comp, o_none, o_some, s_nil, s_cons, i_seq, i_rng1, i_rng2, i_enum, nx_nx, nx_rt, nx_bk, nx_ct, ite_t, ite_f, and_t, and_f, or_t, or_f, R.bind_ok, R.bind_assoc, ofO_some, tr_b, optI_i, itm_t, itm_l, seqL_l, gdOf_tup, gdOf_lst, neg_i, aug_i, add_i, sub_i, slc_t, slc_l, add_l, len_t, len_l, list_t, list_l, tuple_l, max_i, ls_i, le_i, gt_i, ge_i, sub_t, sub_l, List.getElem?_cons_zero, List.getElem?_cons_succ, List.set_cons_zero, List.set_cons_succ, Bool.not_true, Bool.not_false]
  refine Sat.bind (loop _) fun f S3 ⟨hS, y4, y8, hf⟩ => ?_
  subst hS hf
  obtain ⟨n0, n1, n2, n3, n4, n5, rfl⟩ : ∃ a b c d e f, ys = [a, b, c, d, e, f] := by
    match ys, h6 with
    | [a, b, c, d, e, f], _ => exact ⟨a, b, c, d, e, f, rfl⟩
  have f0 : nmS n0 = true ∧ PyData.strOk n0 = true := ⟨hn.nm _ (by simp), hn.ok _ (by simp)⟩
  have f1 : nmS n1 = true ∧ PyData.strOk n1 = true := ⟨hn.nm _ (by simp), hn.ok _ (by simp)⟩
  have f2 : nmS n2 = true ∧ PyData.strOk n2 = true := ⟨hn.nm _ (by simp), hn.ok _ (by simp)⟩
  have p0 := nm_pl f0.1 f0.2
  have p1 := nm_pl f1.1 f1.2
  have ats := fun (S : Store) => at6 (a := D.str n0) (b := .str n1) (c := .str n2) (d := .str n3) (e := .str n4) (f := .str n5)
  simp only [List.map_cons, List.map_nil] at w2 ⊢
  simp (disch := (simp only [List.length_cons, List.length_nil]; decide)) only [v_dict1, v_tzip, v_inv, x_keptX, v_lens, v_dict0, v_rvs, v_comp2, v_maxd, v_dict, v_dget, x_dput, x_par, par_k, i_rngD, i_zip, v_agen, v_glob, v_chain, v_isx, x_raise, x_kept, x_nil, x_cons, x_set, x_unp, x_sets, x_expr, x_ret, x_pass, x_brk, x_cont, x_ite, x_for, x_whl, v_bl, v_int, v_str, v_ty, v_non, v_var, v_tup, v_lst, v_bin, v_neg, v_not, v_cmp, v_and, v_or, v_ife, v_call, v_blt, v_mth, v_sub, v_slc, v_comp, o_none, o_some, s_nil, s_cons, i_seq, i_rng1, i_rng2, i_enum, nx_nx, nx_rt, nx_bk, nx_ct, ite_t, ite_f, and_t, and_f, or_t, or_f, R.bind_ok, R.bind_assoc, ofO_some, tr_b, optI_i, itm_t, itm_l, seqL_l, gdOf_tup, gdOf_lst, neg_i, aug_i, add_i, sub_i, slc_t, slc_l, add_l, len_t, len_l, list_t, list_l, tuple_l, max_i, ls_i, le_i, gt_i, ge_i, sub_t, sub_l, List.getElem?_cons_zero, List.getElem?_cons_succ, List.set_cons_zero, List.set_cons_succ, Bool.not_true, Bool.not_false, (ats []).1, (ats []).2.1, (ats []).2.2, mkL_v, mkT_v]
  refine Sat.bind (W.take 36 w2 ha 8 (by decide) (by omega)) fun d S4 ⟨x, hd, hx0, hx1, w3⟩ => ?_
  subst hd
  obtain ⟨o, ho, po, no⟩ := odd_pair p0 p1 hx0 hx1
  simp (disch := (simp only [List.length_cons, List.length_nil]; decide)) only [v_dict1, v_tzip, v_inv, x_keptX, v_lens, v_dict0, v_rvs, v_comp2, v_maxd, v_dict, v_dget, x_dput, x_par, par_k, i_rngD, i_zip, v_agen, v_glob, v_chain, v_isx, x_raise, x_kept, x_nil, x_cons, x_set, x_unp, x_sets, x_expr, x_ret, x_pass, x_brk, x_cont, x_ite, x_for, x_whl, v_bl, v_int, v_str, v_ty, v_non, v_var, v_tup, v_lst, v_bin, v_neg, v_not, v_cmp, v_and, v_or, v_ife, v_call, v_blt, v_mth, v_sub, v_slc, v_comp, o_none, o_some, s_nil, s_cons, i_seq, i_rng1, i_rng2, i_enum, nx_nx, nx_rt, nx_bk, nx_ct, ite_t, ite_f, and_t, and_f, or_t, or_f, R.bind_ok, R.bind_assoc, ofO_some, tr_b, optI_i, itm_t, itm_l, seqL_l, gdOf_tup, gdOf_lst, neg_i, aug_i, add_i, sub_i, slc_t, slc_l, add_l, len_t, len_l, list_t, list_l, tuple_l, max_i, ls_i, le_i, gt_i, ge_i, sub_t, sub_l, List.getElem?_cons_zero, List.getElem?_cons_succ, List.set_cons_zero, List.set_cons_succ, Bool.not_true, Bool.not_false, ho, (ats []).1, (ats []).2.1, (ats []).2.2, mkL_v, mkT_v]
  refine Sat.bind (W.take 36 w3 ha 8 (by decide) (by omega)) fun d S5 ⟨y, hd, hy0, hy1, w4⟩ => ?_
  subst hd
  obtain ⟨o2, ho2, po2, no2⟩ := odd_pair p0 p1 hy0 hy1
  have d1 : ∀ S, dic1A (.str n0) (.str n1) S = .ok (.ref S.length) (S ++ [.dic [n0] [.str n1]]) := fun S => by
    show (if ([n0] : List Str).length = ([D.str n1] : List D).length ∧ ([n0] : List Str).Nodup ∧ 1 ≤ ([n0] : List Str).length ∧ ([n0] : List Str).length ≤ 15 then R.ok (D.ref S.length) (S ++ [O.dic [n0] [.str n1]]) else .bad) = _
    rw [if_pos ⟨rfl, by simp, by simp, by simp⟩]
  have w5 := w4.push (.dic [n0] [.str n1])
  simp (disch := (simp only [List.length_cons, List.length_nil]; decide)) only [v_dict1, v_tzip, v_inv, x_keptX, v_lens, v_dict0, v_rvs, v_comp2, v_maxd, v_dict, v_dget, x_dput, x_par, par_k, i_rngD, i_zip, v_agen, v_glob, v_chain, v_isx, x_raise, x_kept, x_nil, x_cons, x_set, x_unp, x_sets, x_expr, x_ret, x_pass, x_brk, x_cont, x_ite, x_for, x_whl, v_bl, v_int, v_str, v_ty, v_non, v_var, v_tup, v_lst, v_bin, v_neg, v_not, v_cmp, v_and, v_or, v_ife, v_call, v_blt, v_mth, v_sub, v_slc, v_comp, o_none, o_some, s_nil, s_cons, i_seq, i_rng1, i_rng2, i_enum, nx_nx, nx_rt, nx_bk, nx_ct, ite_t, ite_f, and_t, and_f, or_t, or_f, R.bind_ok, R.bind_assoc, ofO_some, tr_b, optI_i, itm_t, itm_l, seqL_l, gdOf_tup, gdOf_lst, neg_i, aug_i, add_i, sub_i, slc_t, slc_l, add_l, len_t, len_l, list_t, list_l, tuple_l, max_i, ls_i, le_i, gt_i, ge_i, sub_t, sub_l, List.getElem?_cons_zero, List.getElem?_cons_succ, List.set_cons_zero, List.set_cons_succ, Bool.not_true, Bool.not_false, ho2, (ats []).1, (ats []).2.1, (ats []).2.2, mkL_v, mkT_v, d1]
  generalize hS6 : S5 ++ [O.dic [n0] [.str n1]] = S6 at w5 ⊢
  rw [mkL_v (sz (by simp))]
  simp only [v_dict1, v_tzip, v_inv, x_keptX, v_lens, v_dict0, v_rvs, v_comp2, v_maxd, v_dict, v_dget, x_dput, x_par, par_k, i_rngD, i_zip, v_agen, v_glob, v_chain, v_isx, x_raise, x_kept, x_nil, x_cons, x_set, x_unp, x_sets, x_expr, x_ret, x_pass, x_brk, x_cont, x_ite, x_for, x_whl, v_bl, v_int, v_str, v_ty, v_non, v_var, v_tup, v_lst, v_bin, v_neg, v_not, v_cmp, v_and, v_or, v_ife, v_call, v_blt, v_mth, v_sub, v_slc, v_comp, o_none, o_some, s_nil, s_cons, i_seq, i_rng1, i_rng2, i_enum, nx_nx, nx_rt, nx_bk, nx_ct, ite_t, ite_f, and_t, and_f, or_t, or_f, R.bind_ok, R.bind_assoc, ofO_some, tr_b, optI_i, itm_t, itm_l, seqL_l, gdOf_tup, gdOf_lst, neg_i, aug_i, add_i, sub_i, slc_t, slc_l, add_l, len_t, len_l, list_t, list_l, tuple_l, max_i, ls_i, le_i, gt_i, ge_i, sub_t, sub_l, List.getElem?_cons_zero, List.getElem?_cons_succ, List.set_cons_zero, List.set_cons_succ, Bool.not_true, Bool.not_false]
  refine Sat.bind (W.take 36 w5 ha 9 (by decide) (by omega)) fun d S7 ⟨r, hd, hr0, hr1, w6⟩ => ?_
  subst hd
  have l5 : S5.length = S.length := by
    have := w4.len
    simpa using this
  have g7 : S7[S5.length]? = some (.dic [n0] [.str n1]) := by
    have := w6.get 0
    rw [l5]
    exact this
  obtain ⟨b, hb, qb⟩ := bad_all (S := S7) f0 f1 f2 po no po2 no2 g7 hr0 hr1
  have hb : L2.atI ([D.tup [o], D.tup [D.tup [.str n0, .str n1], D.tup [.str n0, .str n2]], D.tup [D.tup [.str n0, .str n1], D.tup [.str n2, .str n1]], D.lst [D.tup [.str n0, .str n1]], D.non, D.str "ab"] ++ [D.tup [D.tup [.str n0, .str n1], o2], D.ref S5.length, D.int 5]) r = some b := hb
  simp only [v_dict1, v_tzip, v_inv, x_keptX, v_lens, v_dict0, v_rvs, v_comp2, v_maxd, v_dict, v_dget, x_dput, x_par, par_k, i_rngD, i_zip, v_agen, v_glob, v_chain, v_isx, x_raise, x_kept, x_nil, x_cons, x_set, x_unp, x_sets, x_expr, x_ret, x_pass, x_brk, x_cont, x_ite, x_for, x_whl, v_bl, v_int, v_str, v_ty, v_non, v_var, v_tup, v_lst, v_bin, v_neg, v_not, v_cmp, v_and, v_or, v_ife, v_call, v_blt, v_mth, v_sub, v_slc, v_comp, o_none, o_some, s_nil, s_cons, i_seq, i_rng1, i_rng2, i_enum, nx_nx, nx_rt, nx_bk, nx_ct, ite_t, ite_f, and_t, and_f, or_t, or_f, R.bind_ok, R.bind_assoc, ofO_some, tr_b, optI_i, itm_t, itm_l, seqL_l, gdOf_tup, gdOf_lst, neg_i, aug_i, add_i, sub_i, slc_t, slc_l, add_l, len_t, len_l, list_t, list_l, tuple_l, max_i, ls_i, le_i, gt_i, ge_i, sub_t, sub_l, List.getElem?_cons_zero, List.getElem?_cons_succ, List.set_cons_zero, List.set_cons_succ, Bool.not_true, Bool.not_false, hb, qb, is_b, decide_true]
  exact .ok ⟨_, _, rfl, w6.weak (by omega), _, outD_below (by simp [below]), fun S' u => ⟨rfl, u⟩⟩
end K01

namespace K01
open PySem Mn
theorem enum_get : ∀ {l : List D} {n i : Nat} {d : D}, (enumF n l)[i]? = some d → ∃ x, l[i]? = some x ∧ d = .wtp [.int ((n + i : Nat) : Int), x]
  | [], _, _, _, h => by simp [enumF] at h
  | x :: r, n, 0, d, h => by
    unfold enumF at h
    simp only [List.getElem?_cons_zero, Option.some.injEq] at h
    exact ⟨x, rfl, h.symm⟩
  | x :: r, n, i + 1, d, h => by
    unfold enumF at h
    rw [List.getElem?_cons_succ] at h
    obtain ⟨y, h1, h2⟩ := enum_get h
    exact ⟨y, by rw [List.getElem?_cons_succ]; exact h1, by rw [h2]; congr 4; omega⟩

/-- no name -/
def Odd (S : Store) (d : D) : Prop := (pl d = true ∧ nmB d = false) ∨ ∃ n, d = .ref n ∧ S[n]? = some (.dic [] [])
theorem odd_no {k : Nat} {S : Store} {d : D} (h : Odd S d) : CC (k + 1) "is_name" [d] S = .ok (.bl false) S := by
  rcases h with ⟨h1, h2⟩ | ⟨n, rfl, hn⟩
  · rw [c_name k S d h1, h2]
  · exact dic_name hn
theorem odd_said {S : Store} {d : D} (h : Odd S d) : CC 39 "_law_said" [d] S = .ok (.str "name") S := by
  refine c_said 36 S d false fun S' hS => ?_
  subst hS
  rw [show CC 38 "need_name" [d] S' = _ from call_step (k := 37) (d := d_need_name) rfl rfl]
  show leave .pure S' (exB Gs 1000000 (CC 37) d_need_name.body [some d] S') = _
  simp only [d_need_name, v_dict1, v_tzip, v_inv, x_keptX, v_lens, v_dict0, v_rvs, v_comp2, v_maxd, v_dict, v_dget, x_dput, x_par, par_k, i_rngD, i_zip, v_agen, v_glob, v_chain, v_isx, x_raise, x_kept, x_nil, x_cons, x_set, x_unp, x_sets, x_expr, x_ret, x_pass, x_brk, x_cont, x_ite, x_for, x_whl, v_bl, v_int, v_str, v_ty, v_non, v_var, v_tup, v_lst, v_bin, v_neg, v_not, v_cmp, v_and, v_or, v_ife, v_call, v_blt, v_mth, v_sub, v_slc, v_comp, o_none, o_some, s_nil, s_cons, i_seq, i_rng1, i_rng2, i_enum, nx_nx, nx_rt, nx_bk, nx_ct, ite_t, ite_f, and_t, and_f, or_t, or_f, R.bind_ok, R.bind_assoc, ofO_some, tr_b, optI_i, itm_t, itm_l, seqL_l, gdOf_tup, gdOf_lst, neg_i, aug_i, add_i, sub_i, slc_t, slc_l, add_l, len_t, len_l, list_t, list_l, tuple_l, max_i, ls_i, le_i, gt_i, ge_i, sub_t, sub_l, List.getElem?_cons_zero, List.getElem?_cons_succ, List.set_cons_zero, List.set_cons_succ, Bool.not_true, Bool.not_false, odd_no (k := 36) h, if_pos sz1, exc_bind, Bool.false_eq_true, if_false]
  exact leave_exc
theorem str_said {S : Store} {z : Str} (h : pl (.str z) = true) : CC 39 "_law_said" [.str z] S = .ok (.str (if nmS z = true then "" else "name")) S := c_said 36 S (.str z) (nmS z) fun S' _ => c_nname 36 S' (.str z) h
theorem thing {S : Store} {nm : Str} (hn : pl (.str nm) = true) {n : Nat} (hd : S[n]? = some (.dic [] [])) {v : Int} (h0 : 0 ≤ v) (h1 : v < 8) : ∃ d, L2.atI [D.non, .int 5, .bl true, .tup [.str nm], .lst [.str nm], .ref n, .int (-1), .tup []] v = some d ∧ Odd S d := by
  obtain ⟨d, he, hm⟩ := some_at (l := [D.non, .int 5, .bl true, .tup [.str nm], .lst [.str nm], .ref n, .int (-1), .tup []]) h0 (by simpa using h1)
  refine ⟨d, he, ?_⟩
  simp only [pl] at hn
  simp only [List.mem_cons, List.not_mem_nil, or_false] at hm
  rcases hm with rfl | rfl | rfl | rfl | rfl | rfl | rfl | rfl
  · exact .inl ⟨rfl, rfl⟩
  · exact .inl ⟨rfl, rfl⟩
  · exact .inl ⟨rfl, rfl⟩
  · exact .inl ⟨by simp only [pl, pls, hn, Bool.and_self], rfl⟩
  · exact .inl ⟨by simp only [pl, pls, hn, Bool.and_self], rfl⟩
  · exact .inr ⟨n, rfl, hd⟩
  · exact .inl ⟨rfl, rfl⟩
  · exact .inl ⟨rfl, rfl⟩
theorem be {b : Bool} : (b == b) = true := by cases b <;> rfl
/-- the told words, each with a letter more or less -/
theorem words_loop {S : Store} (ns : List Int) {x2 x3 x10 : Option D} : Sat (forB Gs 1000000 (CC 39) [] (.nm 2) (match d_law.body with
      | .cons _ (.cons (.for _ _ b) _) => b
      | _ => .nil) (WDS.map .str) [some (.lst (ns.map .int)), some (.lst (heard.map .str)), x2, x3, none, none, none, none, none, none, x10] S) fun f S' => S' = S ∧ ∃ y2 y3 y10, f = .nx [some (.lst (ns.map .int)), some (.lst (heard.map .str)), y2, y3, none, none, none, none, none, none, y10] := by
  unfold forB
  refine for_sat (fun i e S' => S' = S ∧ ∃ y2 y3 y10, e = [some (.lst (ns.map .int)), some (.lst (heard.map .str)), y2, y3, none, none, none, none, none, none, y10]) ?_ (fun e S' ⟨h, y2, y3, y10, he⟩ => ⟨h, y2, y3, y10, by rw [he]⟩) ⟨rfl, _, _, _, rfl⟩
  rintro i d e S' hd ⟨rfl, y2, y3, y10, rfl⟩
  obtain ⟨z, hz, rfl⟩ := List.mem_map.mp (List.mem_of_getElem? hd)
  have sz7 : so 7 z := by
    have : ∀ z ∈ WDS, PyData.strOk z = true ∧ z.length ≤ 7 := by decide +kernel
    exact this z hz
  have sa : so 1 "a" := ⟨by decide +kernel, by decide +kernel⟩
  have t1 := sz7.app sa
  have t2 := sz7.cut none (some (-1))
  have t3 := sa.app sz7
  have g1 := sz7.2
  have g2 := sa.2
  refine ⟨_, rfl, ?_⟩
  have four : ([D.str z, .str (z ++ "a"), .str (L2.cutS z none (some (-1))), .str ("a" ++ z)] : List D) = [z, z ++ "a", L2.cutS z none (some (-1)), "a" ++ z].map .str := rfl
  have fok : ∀ y ∈ [z, z ++ "a", L2.cutS z none (some (-1)), "a" ++ z], pl (.str y) = true := fun y hy => by
    simp only [List.mem_cons, List.not_mem_nil, or_false] at hy
    rcases hy with rfl | rfl | rfl | rfl
    · exact so_pl sz7 (by omega)
    · exact so_pl t1 (by omega)
    · exact so_pl t2 (by omega)
    · exact so_pl t3 (by omega)
  generalize hys : [z, z ++ "a", L2.cutS z none (some (-1)), "a" ++ z] = ys at four fok
  have inner : ∀ {y3 y10 : Option D}, Sat (forB Gs 1000000 (CC 39) [] (.nm 3) (.cons (.set 10 (.call "is_name" (.cons (.var 3) .nil))) (.cons (.ite (.or (.not (.blt true "isinstance" (.cons (.var 10) (.cons (.ty "bool") .nil)))) (.cmp .NotEq (.var 10) (.call "_law_is_name" (.cons (.var 3) .nil)))) (.cons (.ret (.bl false)) .nil) .nil) .nil)) (ys.map .str) [some (.lst (ns.map .int)), some (.lst (heard.map .str)), some (.str z), y3, none, none, none, none, none, none, y10] S') fun f S2 => S2 = S' ∧ ∃ y3 y10, f = .nx [some (.lst (ns.map .int)), some (.lst (heard.map .str)), some (.str z), y3, none, none, none, none, none, none, y10] := by
    intro y3 y10
    unfold forB
    refine for_sat (fun i e S2 => S2 = S' ∧ ∃ y3 y10, e = [some (.lst (ns.map .int)), some (.lst (heard.map .str)), some (.str z), y3, none, none, none, none, none, none, y10]) ?_ (fun e S2 ⟨h, y3, y10, he⟩ => ⟨h, y3, y10, by rw [he]⟩) ⟨rfl, _, _, rfl⟩
    rintro i d e S2 hd ⟨rfl, y3, y10, rfl⟩
    obtain ⟨t, ht, rfl⟩ := List.mem_map.mp (List.mem_of_getElem? hd)
    have pt := fok t ht
    refine ⟨_, rfl, ?_⟩
    have ib : ∀ (S : Store) (b : Bool), bltA true "isinstance" [.bl b, .ty "bool"] S = .ok (.bl true) S := fun S b => rfl
    have cn := c_name 38 S2 (.str t) pt
    simp only [nmB] at cn
    simp only [List.set_cons_zero, List.set_cons_succ, v_dict1, v_tzip, v_inv, x_keptX, v_lens, v_dict0, v_rvs, v_comp2, v_maxd, v_dict, v_dget, x_dput, x_par, par_k, i_rngD, i_zip, v_agen, v_glob, v_chain, v_isx, x_raise, x_kept, x_nil, x_cons, x_set, x_unp, x_sets, x_expr, x_ret, x_pass, x_brk, x_cont, x_ite, x_for, x_whl, v_bl, v_int, v_str, v_ty, v_non, v_var, v_tup, v_lst, v_bin, v_neg, v_not, v_cmp, v_and, v_or, v_ife, v_call, v_blt, v_mth, v_sub, v_slc, v_comp, o_none, o_some, s_nil, s_cons, i_seq, i_rng1, i_rng2, i_enum, nx_nx, nx_rt, nx_bk, nx_ct, ite_t, ite_f, and_t, and_f, or_t, or_f, R.bind_ok, R.bind_assoc, ofO_some, tr_b, optI_i, itm_t, itm_l, seqL_l, gdOf_tup, gdOf_lst, neg_i, aug_i, add_i, sub_i, slc_t, slc_l, add_l, len_t, len_l, list_t, list_l, tuple_l, max_i, ls_i, le_i, gt_i, ge_i, sub_t, sub_l, List.getElem?_cons_zero, List.getElem?_cons_succ, List.set_cons_zero, List.set_cons_succ, Bool.not_true, Bool.not_false, cn, ib, c_lawis 38 S2 t pt, ne_b, be, Bool.not_true]
    exact .ok ⟨rfl, _, _, rfl⟩
  simp only [d_law, List.set_cons_zero, List.set_cons_succ, v_dict1, v_tzip, v_inv, x_keptX, v_lens, v_dict0, v_rvs, v_comp2, v_maxd, v_dict, v_dget, x_dput, x_par, par_k, i_rngD, i_zip, v_agen, v_glob, v_chain, v_isx, x_raise, x_kept, x_nil, x_cons, x_set, x_unp, x_sets, x_expr, x_ret, x_pass, x_brk, x_cont, x_ite, x_for, x_whl, v_bl, v_int, v_str, v_ty, v_non, v_var, v_tup, v_lst, v_bin, v_neg, v_not, v_cmp, v_and, v_or, v_ife, v_call, v_blt, v_mth, v_sub, v_slc, v_comp, o_none, o_some, s_nil, s_cons, i_seq, i_rng1, i_rng2, i_enum, nx_nx, nx_rt, nx_bk, nx_ct, ite_t, ite_f, and_t, and_f, or_t, or_f, R.bind_ok, R.bind_assoc, ofO_some, tr_b, optI_i, itm_t, itm_l, seqL_l, gdOf_tup, gdOf_lst, neg_i, aug_i, add_i, sub_i, slc_t, slc_l, add_l, len_t, len_l, list_t, list_l, tuple_l, max_i, ls_i, le_i, gt_i, ge_i, sub_t, sub_l, List.getElem?_cons_zero, List.getElem?_cons_succ, List.set_cons_zero, List.set_cons_succ, Bool.not_true, Bool.not_false, add_s (x := z) (y := "a") (S := S') (v := true) (sz (by omega)), slc_s (z := z) (S := S') (v := true) (sz (by omega)), add_s (x := "a") (y := z) (S := S') (v := true) (sz (by omega)), mkT_v (l := [D.str z, .str (z ++ "a"), .str (L2.cutS z none (some (-1))), .str ("a" ++ z)]) (S := S') (sz (by simp))]
  rw [four]
  refine Sat.bind inner fun f S2 ⟨hS, z3, z10, hf⟩ => ?_
  subst hS hf
  simp only [v_dict1, v_tzip, v_inv, x_keptX, v_lens, v_dict0, v_rvs, v_comp2, v_maxd, v_dict, v_dget, x_dput, x_par, par_k, i_rngD, i_zip, v_agen, v_glob, v_chain, v_isx, x_raise, x_kept, x_nil, x_cons, x_set, x_unp, x_sets, x_expr, x_ret, x_pass, x_brk, x_cont, x_ite, x_for, x_whl, v_bl, v_int, v_str, v_ty, v_non, v_var, v_tup, v_lst, v_bin, v_neg, v_not, v_cmp, v_and, v_or, v_ife, v_call, v_blt, v_mth, v_sub, v_slc, v_comp, o_none, o_some, s_nil, s_cons, i_seq, i_rng1, i_rng2, i_enum, nx_nx, nx_rt, nx_bk, nx_ct, ite_t, ite_f, and_t, and_f, or_t, or_f, R.bind_ok, R.bind_assoc, ofO_some, tr_b, optI_i, itm_t, itm_l, seqL_l, gdOf_tup, gdOf_lst, neg_i, aug_i, add_i, sub_i, slc_t, slc_l, add_l, len_t, len_l, list_t, list_l, tuple_l, max_i, ls_i, le_i, gt_i, ge_i, sub_t, sub_l, List.getElem?_cons_zero, List.getElem?_cons_succ, List.set_cons_zero, List.set_cons_succ, Bool.not_true, Bool.not_false]
  exact .ok ⟨rfl, _, _, _, rfl⟩
theorem hlaw (ns : List Int) (hn : ns.length ≤ 63) : ∃ S', callA Gs 1000000 Pg 40 "law" [.lst (ns.map .int)] [] = .ok (.bl true) S' := by
  rw [show callA Gs 1000000 Pg 40 "law" [.lst (ns.map .int)] [] = _ from call_step (k := 39) (d := d_law) rfl rfl]
  show ∃ S', leave .pure [] (exB Gs 1000000 (CC 39) d_law.body [some (.lst (ns.map .int)), none, none, none, none, none, none, none, none, none, none] []) = _
  have lv : ∀ r : R Mn.F, Sat r (fun f S' => f = .rt (.bl true)) → ∃ S', leave .pure [] r = .ok (.bl true) S' := by
    rintro r ⟨f, S', rfl, rfl⟩
    refine ⟨[], ?_⟩
    show fin .pure [] (.bl true) S' = _
    unfold fin
    rw [if_pos ⟨Nat.zero_le _, fun i h => by cases h⟩, outD_below (by simp [below])]
    rfl
  refine lv _ ?_
  have c63 : cutA ((ns ++ [0]).map D.int) none (some 63) = ((ns ++ [0]).take 63).map D.int := by
    have := cut_to (l := (ns ++ [0]).map D.int) (k := 63)
    rw [← List.map_take] at this
    exact this
  have ap : ns.map D.int ++ [D.int 0] = (ns ++ [0]).map D.int := by simp
  have sq : ∀ (S : Store) (l : List D), seqA S (.lst l) = some l := fun _ _ => rfl
  have hd13 : ∀ S, mkL true [D.str "yes", .str "no", .str "not", .str "and", .str "or", .str "before", .str "since", .str "was", .str "given", .str "wanted", .str "always", .str "again", .str "comes"] S = .ok (.lst (heard.map .str)) S := fun S => mkL_v (sz (by simp))
  have w14 : heard.map D.str ++ [D.str "answers"] = WDS.map .str := rfl
  have wl := fun (x2 x3 x10 : Option D) => words_loop (S := []) ns (x2 := x2) (x3 := x3) (x10 := x10)
  simp only [d_law] at wl
  simp only [d_law, s_cons, s_nil, v_str, x_cons, x_set, v_lst, R.bind_ok, hd13, nx_nx, List.set_cons_zero, List.set_cons_succ]
  simp only [v_dict1, v_tzip, v_inv, x_keptX, v_lens, v_dict0, v_rvs, v_comp2, v_maxd, v_dict, v_dget, x_dput, x_par, par_k, i_rngD, i_zip, v_agen, v_glob, v_chain, v_isx, x_raise, x_kept, x_nil, x_cons, x_set, x_unp, x_sets, x_expr, x_ret, x_pass, x_brk, x_cont, x_ite, x_for, x_whl, v_bl, v_int, v_str, v_ty, v_non, v_var, v_tup, v_lst, v_bin, v_neg, v_not, v_cmp, v_and, v_or, v_ife, v_call, v_blt, v_mth, v_sub, v_slc, v_comp, o_none, o_some, s_nil, s_cons, i_seq, i_rng1, i_rng2, i_enum, nx_nx, nx_rt, nx_bk, nx_ct, ite_t, ite_f, and_t, and_f, or_t, or_f, R.bind_ok, R.bind_assoc, ofO_some, tr_b, optI_i, itm_t, itm_l, seqL_l, gdOf_tup, gdOf_lst, neg_i, aug_i, add_i, sub_i, slc_t, slc_l, add_l, len_t, len_l, list_t, list_l, tuple_l, max_i, ls_i, le_i, gt_i, ge_i, sub_t, sub_l, List.getElem?_cons_zero, List.getElem?_cons_succ, List.set_cons_zero, List.set_cons_succ, Bool.not_true, Bool.not_false, mkL_v (l := [D.str "answers"]) (sz (by simp)), w14]
  rw [mkL_v (l := WDS.map .str) (sz (by simp [WDS]))]
  simp only [v_dict1, v_tzip, v_inv, x_keptX, v_lens, v_dict0, v_rvs, v_comp2, v_maxd, v_dict, v_dget, x_dput, x_par, par_k, i_rngD, i_zip, v_agen, v_glob, v_chain, v_isx, x_raise, x_kept, x_nil, x_cons, x_set, x_unp, x_sets, x_expr, x_ret, x_pass, x_brk, x_cont, x_ite, x_for, x_whl, v_bl, v_int, v_str, v_ty, v_non, v_var, v_tup, v_lst, v_bin, v_neg, v_not, v_cmp, v_and, v_or, v_ife, v_call, v_blt, v_mth, v_sub, v_slc, v_comp, o_none, o_some, s_nil, s_cons, i_seq, i_rng1, i_rng2, i_enum, nx_nx, nx_rt, nx_bk, nx_ct, ite_t, ite_f, and_t, and_f, or_t, or_f, R.bind_ok, R.bind_assoc, ofO_some, tr_b, optI_i, itm_t, itm_l, seqL_l, gdOf_tup, gdOf_lst, neg_i, aug_i, add_i, sub_i, slc_t, slc_l, add_l, len_t, len_l, list_t, list_l, tuple_l, max_i, ls_i, le_i, gt_i, ge_i, sub_t, sub_l, List.getElem?_cons_zero, List.getElem?_cons_succ, List.set_cons_zero, List.set_cons_succ, Bool.not_true, Bool.not_false]
  refine Sat.bind (wl _ _ _) fun f S0 ⟨hS, x2, x3, x10, hf⟩ => ?_
  subst hS hf
  simp only [v_dict1, v_tzip, v_inv, x_keptX, v_lens, v_dict0, v_rvs, v_comp2, v_maxd, v_dict, v_dget, x_dput, x_par, par_k, i_rngD, i_zip, v_agen, v_glob, v_chain, v_isx, x_raise, x_kept, x_nil, x_cons, x_set, x_unp, x_sets, x_expr, x_ret, x_pass, x_brk, x_cont, x_ite, x_for, x_whl, v_bl, v_int, v_str, v_ty, v_non, v_var, v_tup, v_lst, v_bin, v_neg, v_not, v_cmp, v_and, v_or, v_ife, v_call, v_blt, v_mth, v_sub, v_slc, v_comp, o_none, o_some, s_nil, s_cons, i_seq, i_rng1, i_rng2, i_enum, nx_nx, nx_rt, nx_bk, nx_ct, ite_t, ite_f, and_t, and_f, or_t, or_f, R.bind_ok, R.bind_assoc, ofO_some, tr_b, optI_i, itm_t, itm_l, seqL_l, gdOf_tup, gdOf_lst, neg_i, aug_i, add_i, sub_i, slc_t, slc_l, add_l, len_t, len_l, list_t, list_l, tuple_l, max_i, ls_i, le_i, gt_i, ge_i, sub_t, sub_l, List.getElem?_cons_zero, List.getElem?_cons_succ, List.set_cons_zero, List.set_cons_succ, Bool.not_true, Bool.not_false, sq, mkL_v (l := [D.int 0]) (sz (by simp)), ap, mkL_v (l := (ns ++ [0]).map D.int) (sz (by simp; omega)), c63, mkL_v (l := ((ns ++ [0]).take 63).map D.int) (sz (by simp; omega))]
  refine Sat.bind (P := fun f S' => ∃ e, f = .nx e) ?_ fun f S' ⟨e, hf⟩ => ?_
  · unfold forB
    refine for_sat (fun i e S' => ∃ x1 x2 x3 x4 x5 x6 x7 x8 x9 x10, e = [some (.lst (ns.map .int)), x1, x2, x3, x4, x5, x6, x7, x8, x9, x10]) ?_ (fun e S' _ => ⟨e, rfl⟩) ⟨_, _, _, _, _, _, _, _, _, _, rfl⟩
    rintro i d e S hd ⟨x1, x2, x3, x4, x5, x6, x7, x8, x9, x10, rfl⟩
    obtain ⟨c, hc, rfl⟩ := enum_get hd
    have hi : i < 63 := by
      have := (List.getElem?_eq_some_iff.mp hc).1
      simp at this
      omega
    obtain ⟨cell, rfl⟩ : ∃ n, c = .int n := by
      obtain ⟨n, _, rfl⟩ := List.mem_map.mp (List.mem_of_getElem? hc)
      exact ⟨n, rfl⟩
    refine ⟨_, rfl, ?_⟩
    simp only [v_dict1, v_tzip, v_inv, x_keptX, v_lens, v_dict0, v_rvs, v_comp2, v_maxd, v_dict, v_dget, x_dput, x_par, par_k, i_rngD, i_zip, v_agen, v_glob, v_chain, v_isx, x_raise, x_kept, x_nil, x_cons, x_set, x_unp, x_sets, x_expr, x_ret, x_pass, x_brk, x_cont, x_ite, x_for, x_whl, v_bl, v_int, v_str, v_ty, v_non, v_var, v_tup, v_lst, v_bin, v_neg, v_not, v_cmp, v_and, v_or, v_ife, v_call, v_blt, v_mth, v_sub, v_slc, v_comp, o_none, o_some, s_nil, s_cons, i_seq, i_rng1, i_rng2, i_enum, nx_nx, nx_rt, nx_bk, nx_ct, ite_t, ite_f, and_t, and_f, or_t, or_f, R.bind_ok, R.bind_assoc, ofO_some, tr_b, optI_i, itm_t, itm_l, seqL_l, gdOf_tup, gdOf_lst, neg_i, aug_i, add_i, sub_i, slc_t, slc_l, add_l, len_t, len_l, list_t, list_l, tuple_l, max_i, ls_i, le_i, gt_i, ge_i, sub_t, sub_l, List.getElem?_cons_zero, List.getElem?_cons_succ, List.set_cons_zero, List.set_cons_succ, Bool.not_true, Bool.not_false]
    obtain ⟨b, r, hs⟩ := c_stream 37 cell ((0 + i : Nat) : Int) (by omega) S
    have hs : CC 39 "_law_stream" [.int cell, .int ((0 + i : Nat) : Int)] S = .ok (.ref S.length) (S ++ [strm b cell 0 r]) := hs
    have st : Stm (S ++ [strm b cell 0 r]) S.length 0 := ⟨b, cell, 0, r, get_push, by decide, by decide⟩
    generalize S ++ [strm b cell 0 r] = S1 at hs st
    generalize S.length = a at hs st
    simp only [hs, v_dict1, v_tzip, v_inv, x_keptX, v_lens, v_dict0, v_rvs, v_comp2, v_maxd, v_dict, v_dget, x_dput, x_par, par_k, i_rngD, i_zip, v_agen, v_glob, v_chain, v_isx, x_raise, x_kept, x_nil, x_cons, x_set, x_unp, x_sets, x_expr, x_ret, x_pass, x_brk, x_cont, x_ite, x_for, x_whl, v_bl, v_int, v_str, v_ty, v_non, v_var, v_tup, v_lst, v_bin, v_neg, v_not, v_cmp, v_and, v_or, v_ife, v_call, v_blt, v_mth, v_sub, v_slc, v_comp, o_none, o_some, s_nil, s_cons, i_seq, i_rng1, i_rng2, i_enum, nx_nx, nx_rt, nx_bk, nx_ct, ite_t, ite_f, and_t, and_f, or_t, or_f, R.bind_ok, R.bind_assoc, ofO_some, tr_b, optI_i, itm_t, itm_l, seqL_l, gdOf_tup, gdOf_lst, neg_i, aug_i, add_i, sub_i, slc_t, slc_l, add_l, len_t, len_l, list_t, list_l, tuple_l, max_i, ls_i, le_i, gt_i, ge_i, sub_t, sub_l, List.getElem?_cons_zero, List.getElem?_cons_succ, List.set_cons_zero, List.set_cons_succ, Bool.not_true, Bool.not_false]
    refine Sat.bind (c_names 36 S1 a 1 0 st (by omega) (by omega)) fun d S2 ⟨ys, hd, h1, hn, u1⟩ => ?_
    subst hd
    have st2 := u1.stm st
    obtain ⟨nm, rfl⟩ : ∃ z, ys = [z] := by
      match ys, h1 with
      | [z], _ => exact ⟨z, rfl⟩
    have nn := hn.nm nm (by simp)
    have no := hn.ok nm (by simp)
    have pn := nm_pl nn no
    have sn : so 6 nm ∧ 1 ≤ nm.length := by
      simp only [nmS, Bool.and_eq_true, decide_eq_true_eq] at nn
      exact ⟨⟨no, nn.1.2⟩, nn.1.1⟩
    have a0 : L2.atI ([nm].map D.str) 0 = some (.str nm) := rfl
    simp only [v_dict1, v_tzip, v_inv, x_keptX, v_lens, v_dict0, v_rvs, v_comp2, v_maxd, v_dict, v_dget, x_dput, x_par, par_k, i_rngD, i_zip, v_agen, v_glob, v_chain, v_isx, x_raise, x_kept, x_nil, x_cons, x_set, x_unp, x_sets, x_expr, x_ret, x_pass, x_brk, x_cont, x_ite, x_for, x_whl, v_bl, v_int, v_str, v_ty, v_non, v_var, v_tup, v_lst, v_bin, v_neg, v_not, v_cmp, v_and, v_or, v_ife, v_call, v_blt, v_mth, v_sub, v_slc, v_comp, o_none, o_some, s_nil, s_cons, i_seq, i_rng1, i_rng2, i_enum, nx_nx, nx_rt, nx_bk, nx_ct, ite_t, ite_f, and_t, and_f, or_t, or_f, R.bind_ok, R.bind_assoc, ofO_some, tr_b, optI_i, itm_t, itm_l, seqL_l, gdOf_tup, gdOf_lst, neg_i, aug_i, add_i, sub_i, slc_t, slc_l, add_l, len_t, len_l, list_t, list_l, tuple_l, max_i, ls_i, le_i, gt_i, ge_i, sub_t, sub_l, List.getElem?_cons_zero, List.getElem?_cons_succ, List.set_cons_zero, List.set_cons_succ, Bool.not_true, Bool.not_false, a0]
    refine Sat.bind (c_oddt 36 S2 a _ nm sn.1 sn.2 st2 (by omega)) fun d S3 ⟨z, hd, pz, u2⟩ => ?_
    subst hd
    have st3 := u2.stm st2
    have st4 : Stm (S3 ++ [.dic [] []]) a (0 + 40 + 3) := by
      obtain ⟨b, n, c, r, e, h⟩ := st3
      exact ⟨b, n, c, r, get_push_old e, h⟩
    have dd : (S3 ++ [O.dic [] []])[S3.length]? = some (.dic [] []) := get_push
    simp (disch := (simp only [List.length_cons, List.length_nil]; decide)) only [v_dict1, v_tzip, v_inv, x_keptX, v_lens, v_dict0, v_rvs, v_comp2, v_maxd, v_dict, v_dget, x_dput, x_par, par_k, i_rngD, i_zip, v_agen, v_glob, v_chain, v_isx, x_raise, x_kept, x_nil, x_cons, x_set, x_unp, x_sets, x_expr, x_ret, x_pass, x_brk, x_cont, x_ite, x_for, x_whl, v_bl, v_int, v_str, v_ty, v_non, v_var, v_tup, v_lst, v_bin, v_neg, v_not, v_cmp, v_and, v_or, v_ife, v_call, v_blt, v_mth, v_sub, v_slc, v_comp, o_none, o_some, s_nil, s_cons, i_seq, i_rng1, i_rng2, i_enum, nx_nx, nx_rt, nx_bk, nx_ct, ite_t, ite_f, and_t, and_f, or_t, or_f, R.bind_ok, R.bind_assoc, ofO_some, tr_b, optI_i, itm_t, itm_l, seqL_l, gdOf_tup, gdOf_lst, neg_i, aug_i, add_i, sub_i, slc_t, slc_l, add_l, len_t, len_l, list_t, list_l, tuple_l, max_i, ls_i, le_i, gt_i, ge_i, sub_t, sub_l, List.getElem?_cons_zero, List.getElem?_cons_succ, List.set_cons_zero, List.set_cons_succ, Bool.not_true, Bool.not_false, mkT_v, mkL_v]
    have al := st3.lt
    generalize S3.length = n at dd al ⊢
    generalize S3 ++ [O.dic [] []] = S4 at st4 dd ⊢
    refine Sat.bind (c_take 37 S4 a 8 _ (by decide) st4 (by omega)) fun d S5 ⟨w, hd, hw0, hw1, u3⟩ => ?_
    subst hd
    have st5 := u3.stm st4
    have d5 : S5[n]? = some (.dic [] []) := by rw [u3.at (by omega)]; exact dd
    obtain ⟨th, hth, oth⟩ := thing pn d5 hw0 hw1
    have cn := c_name 38 S5 (.str nm) pn
    simp only [nmB, nn] at cn
    have sd := str_said (S := S5) pn
    rw [if_pos nn] at sd
    have cz := c_name 38 S5 (.str z) pz
    simp only [nmB] at cz
    have ge : gd (.str "") 64 = true := by decide +kernel
    have gn : gd (.str "name") 64 = true := by decide +kernel
    have ib : ∀ (S : Store) (b : Bool), bltA true "isinstance" [.bl b, .ty "bool"] S = .ok (.bl true) S := fun S b => rfl
    have ii : ∀ (S : Store) (b : Bool), bltA true "int" [.bl b] S = .ok (.int (if b then 1 else 0)) S := fun S b => rfl
    have sb : L2.atI [D.str "name", .str ""] (if nmS z = true then 1 else 0) = some (.str (if nmS z = true then "" else "name")) := by
      cases nmS z <;> rfl
    have gz : gd (.str (if nmS z = true then ("" : Str) else "name")) 64 = true := by
      cases nmS z
      · exact gn
      · exact ge
    simp (disch := (simp only [List.length_cons, List.length_nil]; decide)) only [v_dict1, v_tzip, v_inv, x_keptX, v_lens, v_dict0, v_rvs, v_comp2, v_maxd, v_dict, v_dget, x_dput, x_par, par_k, i_rngD, i_zip, v_agen, v_glob, v_chain, v_isx, x_raise, x_kept, x_nil, x_cons, x_set, x_unp, x_sets, x_expr, x_ret, x_pass, x_brk, x_cont, x_ite, x_for, x_whl, v_bl, v_int, v_str, v_ty, v_non, v_var, v_tup, v_lst, v_bin, v_neg, v_not, v_cmp, v_and, v_or, v_ife, v_call, v_blt, v_mth, v_sub, v_slc, v_comp, o_none, o_some, s_nil, s_cons, i_seq, i_rng1, i_rng2, i_enum, nx_nx, nx_rt, nx_bk, nx_ct, ite_t, ite_f, and_t, and_f, or_t, or_f, R.bind_ok, R.bind_assoc, ofO_some, tr_b, optI_i, itm_t, itm_l, seqL_l, gdOf_tup, gdOf_lst, neg_i, aug_i, add_i, sub_i, slc_t, slc_l, add_l, len_t, len_l, list_t, list_l, tuple_l, max_i, ls_i, le_i, gt_i, ge_i, sub_t, sub_l, List.getElem?_cons_zero, List.getElem?_cons_succ, List.set_cons_zero, List.set_cons_succ, Bool.not_true, Bool.not_false, hth, cn, sd, odd_no (k := 38) oth, odd_said oth, isn_b, ne_g ge ge, ne_g gn gn, decide_true, Bool.not_true, cz, ib, c_lawis 38 S5 z pz, ne_b, be, str_said (S := S5) pz, mkL_v, ii, sb, ne_g gz gz]
    refine Sat.bind (c_pr S5 a _ st5 (by omega)) fun d S6 ⟨hd, u6⟩ => ?_
    subst hd
    simp only [v_dict1, v_tzip, v_inv, x_keptX, v_lens, v_dict0, v_rvs, v_comp2, v_maxd, v_dict, v_dget, x_dput, x_par, par_k, i_rngD, i_zip, v_agen, v_glob, v_chain, v_isx, x_raise, x_kept, x_nil, x_cons, x_set, x_unp, x_sets, x_expr, x_ret, x_pass, x_brk, x_cont, x_ite, x_for, x_whl, v_bl, v_int, v_str, v_ty, v_non, v_var, v_tup, v_lst, v_bin, v_neg, v_not, v_cmp, v_and, v_or, v_ife, v_call, v_blt, v_mth, v_sub, v_slc, v_comp, o_none, o_some, s_nil, s_cons, i_seq, i_rng1, i_rng2, i_enum, nx_nx, nx_rt, nx_bk, nx_ct, ite_t, ite_f, and_t, and_f, or_t, or_f, R.bind_ok, R.bind_assoc, ofO_some, tr_b, optI_i, itm_t, itm_l, seqL_l, gdOf_tup, gdOf_lst, neg_i, aug_i, add_i, sub_i, slc_t, slc_l, add_l, len_t, len_l, list_t, list_l, tuple_l, max_i, ls_i, le_i, gt_i, ge_i, sub_t, sub_l, List.getElem?_cons_zero, List.getElem?_cons_succ, List.set_cons_zero, List.set_cons_succ, Bool.not_true, Bool.not_false, Bool.not_true]
    exact .ok ⟨_, _, _, _, _, _, _, _, _, _, rfl⟩
  · subst hf
    simp only [v_dict1, v_tzip, v_inv, x_keptX, v_lens, v_dict0, v_rvs, v_comp2, v_maxd, v_dict, v_dget, x_dput, x_par, par_k, i_rngD, i_zip, v_agen, v_glob, v_chain, v_isx, x_raise, x_kept, x_nil, x_cons, x_set, x_unp, x_sets, x_expr, x_ret, x_pass, x_brk, x_cont, x_ite, x_for, x_whl, v_bl, v_int, v_str, v_ty, v_non, v_var, v_tup, v_lst, v_bin, v_neg, v_not, v_cmp, v_and, v_or, v_ife, v_call, v_blt, v_mth, v_sub, v_slc, v_comp, o_none, o_some, s_nil, s_cons, i_seq, i_rng1, i_rng2, i_enum, nx_nx, nx_rt, nx_bk, nx_ct, ite_t, ite_f, and_t, and_f, or_t, or_f, R.bind_ok, R.bind_assoc, ofO_some, tr_b, optI_i, itm_t, itm_l, seqL_l, gdOf_tup, gdOf_lst, neg_i, aug_i, add_i, sub_i, slc_t, slc_l, add_l, len_t, len_l, list_t, list_l, tuple_l, max_i, ls_i, le_i, gt_i, ge_i, sub_t, sub_l, List.getElem?_cons_zero, List.getElem?_cons_succ, List.set_cons_zero, List.set_cons_succ, Bool.not_true, Bool.not_false]
    exact .ok rfl
end K01


/-! the end: what the top has written -/
namespace K01
open PySem PySem.Spec PyProof.Rows Mn
theorem law_all {l : PySem.W.OpenLaw} {qq : Program} {w : World} {K : PySem.W.Frag} {h : Heap} {mg : Str → Option Value} {fa : Addr} (X : K.In h) (G : h.Ns mainGlobals mg) (hfa : mg "law" = some (.ref fa))
    {od0 an0 : Option Addr} {sl0 : Array (Option Value)} {oc0 kV0 dc0 pm0 cd0 ct0 : Value} {f0 : Addr}
    {od1 an1 : Option Addr} {sl1 : Array (Option Value)} {oc1 kV1 dc1 pm1 cd1 ct1 : Value} {f1 : Addr}
    {od2 an2 : Option Addr} {sl2 : Array (Option Value)} {oc2 kV2 dc2 pm2 cd2 ct2 : Value} {f2 : Addr}
    {od3 an3 : Option Addr} {sl3 : Array (Option Value)} {oc3 kV3 dc3 pm3 cd3 ct3 : Value} {f3 : Addr}
    {od4 an4 : Option Addr} {sl4 : Array (Option Value)} {oc4 kV4 dc4 pm4 cd4 ct4 : Value} {f4 : Addr}
    {od5 an5 : Option Addr} {sl5 : Array (Option Value)} {oc5 kV5 dc5 pm5 cd5 ct5 : Value} {f5 : Addr}
    {od6 an6 : Option Addr} {sl6 : Array (Option Value)} {oc6 kV6 dc6 pm6 cd6 ct6 : Value} {f6 : Addr}
    {od7 an7 : Option Addr} {sl7 : Array (Option Value)} {oc7 kV7 dc7 pm7 cd7 ct7 : Value} {f7 : Addr}
    {od8 an8 : Option Addr} {sl8 : Array (Option Value)} {oc8 kV8 dc8 pm8 cd8 ct8 : Value} {f8 : Addr}
    {od9 an9 : Option Addr} {sl9 : Array (Option Value)} {oc9 kV9 dc9 pm9 cd9 ct9 : Value} {f9 : Addr}
    {od10 an10 : Option Addr} {sl10 : Array (Option Value)} {oc10 kV10 dc10 pm10 cd10 ct10 : Value} {f10 : Addr}
    {od11 an11 : Option Addr} {sl11 : Array (Option Value)} {oc11 kV11 dc11 pm11 cd11 ct11 : Value} {f11 : Addr}
    {od12 an12 : Option Addr} {sl12 : Array (Option Value)} {oc12 kV12 dc12 pm12 cd12 ct12 : Value} {f12 : Addr}
    {od13 an13 : Option Addr} {sl13 : Array (Option Value)} {oc13 kV13 dc13 pm13 cd13 ct13 : Value} {f13 : Addr}
    {od14 an14 : Option Addr} {sl14 : Array (Option Value)} {oc14 kV14 dc14 pm14 cd14 ct14 : Value} {f14 : Addr}
    {od15 an15 : Option Addr} {sl15 : Array (Option Value)} {oc15 kV15 dc15 pm15 cd15 ct15 : Value} {f15 : Addr}
    {cc0 P0 : Addr} {ke0 : Value} {kd0 : Option Addr} {kv0 : Array Value} {ks0 : Array (Option Value)}
    {cc4 P4 : Addr} {ke4 : Value} {kd4 : Option Addr} {kv4 : Array Value} {ks4 : Array (Option Value)}
    {CE0 : Addr}
    {CT0 : Addr}
    {CA0 : Addr}
    {CA1 : Addr}
    {CA2 : Addr}
    {CA3 : Addr}
    {CA4 : Addr}
    {CA5 : Addr}
    {CA6 : Addr}
    {CA7 : Addr}
    {CA8 : Addr}
    {CA9 : Addr}
    {CA10 : Addr}
    {CA11 : Addr}
    {CA12 : Addr}
    {CA13 : Addr}
    {CA14 : Addr}
    {CA15 : Addr}
    {CA16 : Addr}
    {CA17 : Addr}
    {gt0 : Tok}
    {gt1 : Tok}
    {GA2 : Addr} {GV2 : Array Value} {gn2 : Nat} {gs2 : Array (Option Value)}
    (a0 : PySem.W.nsIn K mainGlobals "is_name" = some (some (.ref f0))) (l0 : K.lookup f0 = some ⟨oc0, od0, .func (PySem.W.fnOf "is_name" "is_name" (L2.defArgs s_is_name) (L2.defBody s_is_name) (L2.defScope s_is_name) .none kV0 dc0 pm0 an0 cd0 ct0), sl0⟩) (c0 : PySem.W.codeIn K cd0 "is_name" = true) (k0 : PySem.W.keepIn K (.ref f0) = true)
    (a1 : PySem.W.nsIn K mainGlobals "need_name" = some (some (.ref f1))) (l1 : K.lookup f1 = some ⟨oc1, od1, .func (PySem.W.fnOf "need_name" "need_name" (L2.defArgs s_need_name) (L2.defBody s_need_name) (L2.defScope s_need_name) .none kV1 dc1 pm1 an1 cd1 ct1), sl1⟩) (c1 : PySem.W.codeIn K cd1 "need_name" = true) (k1 : PySem.W.keepIn K (.ref f1) = true)
    (a2 : PySem.W.nsIn K mainGlobals "all_unlike" = some (some (.ref f2))) (l2 : K.lookup f2 = some ⟨oc2, od2, .func (PySem.W.fnOf "all_unlike" "all_unlike" (L2.defArgs s_all_unlike) (L2.defBody s_all_unlike) (L2.defScope s_all_unlike) .none kV2 dc2 pm2 an2 cd2 ct2), sl2⟩) (c2 : PySem.W.codeIn K cd2 "all_unlike" = true) (k2 : PySem.W.keepIn K (.ref f2) = true)
    (a3 : PySem.W.nsIn K mainGlobals "is_pair" = some (some (.ref f3))) (l3 : K.lookup f3 = some ⟨oc3, od3, .func (PySem.W.fnOf "is_pair" "is_pair" (L2.defArgs s_is_pair) (L2.defBody s_is_pair) (L2.defScope s_is_pair) .none kV3 dc3 pm3 an3 cd3 ct3), sl3⟩) (c3 : PySem.W.codeIn K cd3 "is_pair" = true) (k3 : PySem.W.keepIn K (.ref f3) = true)
    (a4 : PySem.W.nsIn K mainGlobals "are_pairs" = some (some (.ref f4))) (l4 : K.lookup f4 = some ⟨oc4, od4, .func (PySem.W.fnOf "are_pairs" "are_pairs" (L2.defArgs s_are_pairs) (L2.defBody s_are_pairs) (L2.defScope s_are_pairs) .none kV4 dc4 pm4 an4 cd4 ct4), sl4⟩) (c4 : PySem.W.codeIn K cd4 "are_pairs" = true) (k4 : PySem.W.keepIn K (.ref f4) = true)
    (a5 : PySem.W.nsIn K mainGlobals "name_by" = some (some (.ref f5))) (l5 : K.lookup f5 = some ⟨oc5, od5, .func (PySem.W.fnOf "name_by" "name_by" (L2.defArgs s_name_by) (L2.defBody s_name_by) (L2.defScope s_name_by) .none kV5 dc5 pm5 an5 cd5 ct5), sl5⟩) (c5 : PySem.W.codeIn K cd5 "name_by" = true) (k5 : PySem.W.keepIn K (.ref f5) = true)
    (a6 : PySem.W.nsIn K mainGlobals "_law_mixed" = some (some (.ref f6))) (l6 : K.lookup f6 = some ⟨oc6, od6, .func (PySem.W.fnOf "_law_mixed" "_law_mixed" (L2.defArgs s__law_mixed) (L2.defBody s__law_mixed) (L2.defScope s__law_mixed) .none kV6 dc6 pm6 an6 cd6 ct6), sl6⟩) (c6 : PySem.W.codeIn K cd6 "_law_mixed" = true) (k6 : PySem.W.keepIn K (.ref f6) = true)
    (a7 : PySem.W.nsIn K mainGlobals "_law_stream" = some (some (.ref f7))) (l7 : K.lookup f7 = some ⟨oc7, od7, .func (PySem.W.fnOf "_law_stream" "_law_stream" (L2.defArgs s__law_stream) (L2.defBody s__law_stream) (L2.defScope s__law_stream) .none kV7 dc7 pm7 an7 cd7 ct7), sl7⟩) (c7 : PySem.W.codeIn K cd7 "_law_stream" = true) (k7 : PySem.W.keepIn K (.ref f7) = true)
    (a8 : PySem.W.nsIn K mainGlobals "_law_take" = some (some (.ref f8))) (l8 : K.lookup f8 = some ⟨oc8, od8, .func (PySem.W.fnOf "_law_take" "_law_take" (L2.defArgs s__law_take) (L2.defBody s__law_take) (L2.defScope s__law_take) .none kV8 dc8 pm8 an8 cd8 ct8), sl8⟩) (c8 : PySem.W.codeIn K cd8 "_law_take" = true) (k8 : PySem.W.keepIn K (.ref f8) = true)
    (a9 : PySem.W.nsIn K mainGlobals "_law_names_by" = some (some (.ref f9))) (l9 : K.lookup f9 = some ⟨oc9, od9, .func (PySem.W.fnOf "_law_names_by" "_law_names_by" (L2.defArgs s__law_names_by) (L2.defBody s__law_names_by) (L2.defScope s__law_names_by) .none kV9 dc9 pm9 an9 cd9 ct9), sl9⟩) (c9 : PySem.W.codeIn K cd9 "_law_names_by" = true) (k9 : PySem.W.keepIn K (.ref f9) = true)
    (a10 : PySem.W.nsIn K mainGlobals "_law_word" = some (some (.ref f10))) (l10 : K.lookup f10 = some ⟨oc10, od10, .func (PySem.W.fnOf "_law_word" "_law_word" (L2.defArgs s__law_word) (L2.defBody s__law_word) (L2.defScope s__law_word) .none kV10 dc10 pm10 an10 cd10 ct10), sl10⟩) (c10 : PySem.W.codeIn K cd10 "_law_word" = true) (k10 : PySem.W.keepIn K (.ref f10) = true)
    (a11 : PySem.W.nsIn K mainGlobals "_law_said" = some (some (.ref f11))) (l11 : K.lookup f11 = some ⟨oc11, od11, .func (PySem.W.fnOf "_law_said" "_law_said" (L2.defArgs s__law_said) (L2.defBody s__law_said) (L2.defScope s__law_said) .none kV11 dc11 pm11 an11 cd11 ct11), sl11⟩) (c11 : PySem.W.codeIn K cd11 "_law_said" = true) (k11 : PySem.W.keepIn K (.ref f11) = true)
    (a12 : PySem.W.nsIn K mainGlobals "_law_is_name" = some (some (.ref f12))) (l12 : K.lookup f12 = some ⟨oc12, od12, .func (PySem.W.fnOf "_law_is_name" "_law_is_name" (L2.defArgs s__law_is_name) (L2.defBody s__law_is_name) (L2.defScope s__law_is_name) .none kV12 dc12 pm12 an12 cd12 ct12), sl12⟩) (c12 : PySem.W.codeIn K cd12 "_law_is_name" = true) (k12 : PySem.W.keepIn K (.ref f12) = true)
    (a13 : PySem.W.nsIn K mainGlobals "_law_odd" = some (some (.ref f13))) (l13 : K.lookup f13 = some ⟨oc13, od13, .func (PySem.W.fnOf "_law_odd" "_law_odd" (L2.defArgs s__law_odd) (L2.defBody s__law_odd) (L2.defScope s__law_odd) .none kV13 dc13 pm13 an13 cd13 ct13), sl13⟩) (c13 : PySem.W.codeIn K cd13 "_law_odd" = true) (k13 : PySem.W.keepIn K (.ref f13) = true)
    (a14 : PySem.W.nsIn K mainGlobals "_law_pairs_right" = some (some (.ref f14))) (l14 : K.lookup f14 = some ⟨oc14, od14, .func (PySem.W.fnOf "_law_pairs_right" "_law_pairs_right" (L2.defArgs s__law_pairs_right) (L2.defBody s__law_pairs_right) (L2.defScope s__law_pairs_right) .none kV14 dc14 pm14 an14 cd14 ct14), sl14⟩) (c14 : PySem.W.codeIn K cd14 "_law_pairs_right" = true) (k14 : PySem.W.keepIn K (.ref f14) = true)
    (a15 : PySem.W.nsIn K mainGlobals "law" = some (some (.ref f15))) (l15 : K.lookup f15 = some ⟨oc15, od15, .func (PySem.W.fnOf "law" "law" (L2.defArgs s_law) (L2.defBody s_law) (L2.defScope s_law) .none kV15 dc15 pm15 an15 cd15 ct15), sl15⟩) (c15 : PySem.W.codeIn K cd15 "law" = true) (k15 : PySem.W.keepIn K (.ref f15) = true)
    (q0 : cd0 = .ref cc0) (o0 : K.lookup cc0 = some ⟨ke0, kd0, .fields kv0, ks0⟩) (p0 : kv0[11]? = some (.ref P0)) (h0 : PySem.W.codeHdIn [(cc0, ⟨ke0, kd0, .fields kv0, ks0⟩)] cc0 P0 = true) (n0 : K.lookup P0 = none) (r0 : ((recsOf qq).any fun e => e.name == "is_name") = true)
    (q4 : cd4 = .ref cc4) (o4 : K.lookup cc4 = some ⟨ke4, kd4, .fields kv4, ks4⟩) (p4 : kv4[11]? = some (.ref P4)) (h4 : PySem.W.codeHdIn [(cc4, ⟨ke4, kd4, .fields kv4, ks4⟩)] cc4 P4 = true) (n4 : K.lookup P4 = none) (r4 : ((recsOf qq).any fun e => e.name == "are_pairs") = true)
    (ea0 : PySem.W.nsIn K mainGlobals "BadName" = some (some (.ref CE0))) (eb0 : PySem.W.excIn K CE0 [.type "ValueError", .type "Exception", .type "BaseException", .type "object"] "ValueError.__new__" = true) (ek0 : PySem.W.keepIn K (.ref CE0) = true) (es0 : PySem.W.subIn K (.ref CE0) (.type "BaseException") = some true) (et0 : PySem.W.typeIn K (.ref CE0) = some (.type "type")) (ec0_0 : PySem.W.findIn K (.ref CE0) "__getattribute__" = some (some (.builtin "BaseException.__getattribute__"))) (ec0_1 : PySem.W.findIn K (.ref CE0) "__getattr__" = some none) (ec0_2 : PySem.W.subIn K (.ref CE0) (.type "BaseException") = some true) (ec0_3 : PySem.W.hasDictIn K CE0 = true) (ec0_4 : PySem.W.findIn K (.ref CE0) "__class__" = some (some (.builtin "object.__class__"))) (ec0_7 : PySem.W.mroIn K CE0 (.type "object") = some true) (ecx5 : PySem.W.specialIn K (.builtin "object.__class__") "__get__" = some (some (.builtin "getset_descriptor.__get__"))) (ecx6 : PySem.W.takesIn K (.builtin "object.__class__") = some true) (ta0 : PySem.W.nsIn K mainGlobals "WishError" = some (some (.ref CT0))) (tm0_0 : PySem.W.exmOne K (.ref CE0) (.ref CT0) = some true) (ya0 : PySem.W.nsIn K mainGlobals "BadArena" = some (some (.ref CA0))) (yk0_NoneType : PySem.W.kitOne K (.type "NoneType") (.ref CA0) = some false) (yk0_bool : PySem.W.kitOne K (.type "bool") (.ref CA0) = some false) (yk0_int : PySem.W.kitOne K (.type "int") (.ref CA0) = some false) (yk0_str : PySem.W.kitOne K (.type "str") (.ref CA0) = some false) (yk0_tuple : PySem.W.kitOne K (.type "tuple") (.ref CA0) = some false) (yk0_list : PySem.W.kitOne K (.type "list") (.ref CA0) = some false) (yk0_dict : PySem.W.kitOne K (.type "dict") (.ref CA0) = some false) (yx0_0 : PySem.W.kitOne K (.ref CE0) (.ref CA0) = some false) (ya1 : PySem.W.nsIn K mainGlobals "BadBoard" = some (some (.ref CA1))) (yk1_NoneType : PySem.W.kitOne K (.type "NoneType") (.ref CA1) = some false) (yk1_bool : PySem.W.kitOne K (.type "bool") (.ref CA1) = some false) (yk1_int : PySem.W.kitOne K (.type "int") (.ref CA1) = some false) (yk1_str : PySem.W.kitOne K (.type "str") (.ref CA1) = some false) (yk1_tuple : PySem.W.kitOne K (.type "tuple") (.ref CA1) = some false) (yk1_list : PySem.W.kitOne K (.type "list") (.ref CA1) = some false) (yk1_dict : PySem.W.kitOne K (.type "dict") (.ref CA1) = some false) (yx1_0 : PySem.W.kitOne K (.ref CE0) (.ref CA1) = some false) (ya2 : PySem.W.nsIn K mainGlobals "BadLetter" = some (some (.ref CA2))) (yk2_NoneType : PySem.W.kitOne K (.type "NoneType") (.ref CA2) = some false) (yk2_bool : PySem.W.kitOne K (.type "bool") (.ref CA2) = some false) (yk2_int : PySem.W.kitOne K (.type "int") (.ref CA2) = some false) (yk2_str : PySem.W.kitOne K (.type "str") (.ref CA2) = some false) (yk2_tuple : PySem.W.kitOne K (.type "tuple") (.ref CA2) = some false) (yk2_list : PySem.W.kitOne K (.type "list") (.ref CA2) = some false) (yk2_dict : PySem.W.kitOne K (.type "dict") (.ref CA2) = some false) (yx2_0 : PySem.W.kitOne K (.ref CE0) (.ref CA2) = some false) (ya3 : PySem.W.nsIn K mainGlobals "BadLoop" = some (some (.ref CA3))) (yk3_NoneType : PySem.W.kitOne K (.type "NoneType") (.ref CA3) = some false) (yk3_bool : PySem.W.kitOne K (.type "bool") (.ref CA3) = some false) (yk3_int : PySem.W.kitOne K (.type "int") (.ref CA3) = some false) (yk3_str : PySem.W.kitOne K (.type "str") (.ref CA3) = some false) (yk3_tuple : PySem.W.kitOne K (.type "tuple") (.ref CA3) = some false) (yk3_list : PySem.W.kitOne K (.type "list") (.ref CA3) = some false) (yk3_dict : PySem.W.kitOne K (.type "dict") (.ref CA3) = some false) (yx3_0 : PySem.W.kitOne K (.ref CE0) (.ref CA3) = some false) (ya4 : PySem.W.nsIn K mainGlobals "BadMachine" = some (some (.ref CA4))) (yk4_NoneType : PySem.W.kitOne K (.type "NoneType") (.ref CA4) = some false) (yk4_bool : PySem.W.kitOne K (.type "bool") (.ref CA4) = some false) (yk4_int : PySem.W.kitOne K (.type "int") (.ref CA4) = some false) (yk4_str : PySem.W.kitOne K (.type "str") (.ref CA4) = some false) (yk4_tuple : PySem.W.kitOne K (.type "tuple") (.ref CA4) = some false) (yk4_list : PySem.W.kitOne K (.type "list") (.ref CA4) = some false) (yk4_dict : PySem.W.kitOne K (.type "dict") (.ref CA4) = some false) (yx4_0 : PySem.W.kitOne K (.ref CE0) (.ref CA4) = some false) (ya5 : PySem.W.nsIn K mainGlobals "BadName" = some (some (.ref CA5))) (yk5_NoneType : PySem.W.kitOne K (.type "NoneType") (.ref CA5) = some false) (yk5_bool : PySem.W.kitOne K (.type "bool") (.ref CA5) = some false) (yk5_int : PySem.W.kitOne K (.type "int") (.ref CA5) = some false) (yk5_str : PySem.W.kitOne K (.type "str") (.ref CA5) = some false) (yk5_tuple : PySem.W.kitOne K (.type "tuple") (.ref CA5) = some false) (yk5_list : PySem.W.kitOne K (.type "list") (.ref CA5) = some false) (yk5_dict : PySem.W.kitOne K (.type "dict") (.ref CA5) = some false) (yx5_0 : PySem.W.kitOne K (.ref CE0) (.ref CA5) = some true) (ya6 : PySem.W.nsIn K mainGlobals "BadNumber" = some (some (.ref CA6))) (yk6_NoneType : PySem.W.kitOne K (.type "NoneType") (.ref CA6) = some false) (yk6_bool : PySem.W.kitOne K (.type "bool") (.ref CA6) = some false) (yk6_int : PySem.W.kitOne K (.type "int") (.ref CA6) = some false) (yk6_str : PySem.W.kitOne K (.type "str") (.ref CA6) = some false) (yk6_tuple : PySem.W.kitOne K (.type "tuple") (.ref CA6) = some false) (yk6_list : PySem.W.kitOne K (.type "list") (.ref CA6) = some false) (yk6_dict : PySem.W.kitOne K (.type "dict") (.ref CA6) = some false) (yx6_0 : PySem.W.kitOne K (.ref CE0) (.ref CA6) = some false) (ya7 : PySem.W.nsIn K mainGlobals "BadPlan" = some (some (.ref CA7))) (yk7_NoneType : PySem.W.kitOne K (.type "NoneType") (.ref CA7) = some false) (yk7_bool : PySem.W.kitOne K (.type "bool") (.ref CA7) = some false) (yk7_int : PySem.W.kitOne K (.type "int") (.ref CA7) = some false) (yk7_str : PySem.W.kitOne K (.type "str") (.ref CA7) = some false) (yk7_tuple : PySem.W.kitOne K (.type "tuple") (.ref CA7) = some false) (yk7_list : PySem.W.kitOne K (.type "list") (.ref CA7) = some false) (yk7_dict : PySem.W.kitOne K (.type "dict") (.ref CA7) = some false) (yx7_0 : PySem.W.kitOne K (.ref CE0) (.ref CA7) = some false) (ya8 : PySem.W.nsIn K mainGlobals "BadPosition" = some (some (.ref CA8))) (yk8_NoneType : PySem.W.kitOne K (.type "NoneType") (.ref CA8) = some false) (yk8_bool : PySem.W.kitOne K (.type "bool") (.ref CA8) = some false) (yk8_int : PySem.W.kitOne K (.type "int") (.ref CA8) = some false) (yk8_str : PySem.W.kitOne K (.type "str") (.ref CA8) = some false) (yk8_tuple : PySem.W.kitOne K (.type "tuple") (.ref CA8) = some false) (yk8_list : PySem.W.kitOne K (.type "list") (.ref CA8) = some false) (yk8_dict : PySem.W.kitOne K (.type "dict") (.ref CA8) = some false) (yx8_0 : PySem.W.kitOne K (.ref CE0) (.ref CA8) = some false) (ya9 : PySem.W.nsIn K mainGlobals "BadRow" = some (some (.ref CA9))) (yk9_NoneType : PySem.W.kitOne K (.type "NoneType") (.ref CA9) = some false) (yk9_bool : PySem.W.kitOne K (.type "bool") (.ref CA9) = some false) (yk9_int : PySem.W.kitOne K (.type "int") (.ref CA9) = some false) (yk9_str : PySem.W.kitOne K (.type "str") (.ref CA9) = some false) (yk9_tuple : PySem.W.kitOne K (.type "tuple") (.ref CA9) = some false) (yk9_list : PySem.W.kitOne K (.type "list") (.ref CA9) = some false) (yk9_dict : PySem.W.kitOne K (.type "dict") (.ref CA9) = some false) (yx9_0 : PySem.W.kitOne K (.ref CE0) (.ref CA9) = some false) (ya10 : PySem.W.nsIn K mainGlobals "BadRun" = some (some (.ref CA10))) (yk10_NoneType : PySem.W.kitOne K (.type "NoneType") (.ref CA10) = some false) (yk10_bool : PySem.W.kitOne K (.type "bool") (.ref CA10) = some false) (yk10_int : PySem.W.kitOne K (.type "int") (.ref CA10) = some false) (yk10_str : PySem.W.kitOne K (.type "str") (.ref CA10) = some false) (yk10_tuple : PySem.W.kitOne K (.type "tuple") (.ref CA10) = some false) (yk10_list : PySem.W.kitOne K (.type "list") (.ref CA10) = some false) (yk10_dict : PySem.W.kitOne K (.type "dict") (.ref CA10) = some false) (yx10_0 : PySem.W.kitOne K (.ref CE0) (.ref CA10) = some false) (ya11 : PySem.W.nsIn K mainGlobals "BadTask" = some (some (.ref CA11))) (yk11_NoneType : PySem.W.kitOne K (.type "NoneType") (.ref CA11) = some false) (yk11_bool : PySem.W.kitOne K (.type "bool") (.ref CA11) = some false) (yk11_int : PySem.W.kitOne K (.type "int") (.ref CA11) = some false) (yk11_str : PySem.W.kitOne K (.type "str") (.ref CA11) = some false) (yk11_tuple : PySem.W.kitOne K (.type "tuple") (.ref CA11) = some false) (yk11_list : PySem.W.kitOne K (.type "list") (.ref CA11) = some false) (yk11_dict : PySem.W.kitOne K (.type "dict") (.ref CA11) = some false) (yx11_0 : PySem.W.kitOne K (.ref CE0) (.ref CA11) = some false) (ya12 : PySem.W.nsIn K mainGlobals "BadText" = some (some (.ref CA12))) (yk12_NoneType : PySem.W.kitOne K (.type "NoneType") (.ref CA12) = some false) (yk12_bool : PySem.W.kitOne K (.type "bool") (.ref CA12) = some false) (yk12_int : PySem.W.kitOne K (.type "int") (.ref CA12) = some false) (yk12_str : PySem.W.kitOne K (.type "str") (.ref CA12) = some false) (yk12_tuple : PySem.W.kitOne K (.type "tuple") (.ref CA12) = some false) (yk12_list : PySem.W.kitOne K (.type "list") (.ref CA12) = some false) (yk12_dict : PySem.W.kitOne K (.type "dict") (.ref CA12) = some false) (yx12_0 : PySem.W.kitOne K (.ref CE0) (.ref CA12) = some false) (ya13 : PySem.W.nsIn K mainGlobals "BadTurn" = some (some (.ref CA13))) (yk13_NoneType : PySem.W.kitOne K (.type "NoneType") (.ref CA13) = some false) (yk13_bool : PySem.W.kitOne K (.type "bool") (.ref CA13) = some false) (yk13_int : PySem.W.kitOne K (.type "int") (.ref CA13) = some false) (yk13_str : PySem.W.kitOne K (.type "str") (.ref CA13) = some false) (yk13_tuple : PySem.W.kitOne K (.type "tuple") (.ref CA13) = some false) (yk13_list : PySem.W.kitOne K (.type "list") (.ref CA13) = some false) (yk13_dict : PySem.W.kitOne K (.type "dict") (.ref CA13) = some false) (yx13_0 : PySem.W.kitOne K (.ref CE0) (.ref CA13) = some false) (ya14 : PySem.W.nsIn K mainGlobals "BadWish" = some (some (.ref CA14))) (yk14_NoneType : PySem.W.kitOne K (.type "NoneType") (.ref CA14) = some false) (yk14_bool : PySem.W.kitOne K (.type "bool") (.ref CA14) = some false) (yk14_int : PySem.W.kitOne K (.type "int") (.ref CA14) = some false) (yk14_str : PySem.W.kitOne K (.type "str") (.ref CA14) = some false) (yk14_tuple : PySem.W.kitOne K (.type "tuple") (.ref CA14) = some false) (yk14_list : PySem.W.kitOne K (.type "list") (.ref CA14) = some false) (yk14_dict : PySem.W.kitOne K (.type "dict") (.ref CA14) = some false) (yx14_0 : PySem.W.kitOne K (.ref CE0) (.ref CA14) = some false) (ya15 : PySem.W.nsIn K mainGlobals "NoMachine" = some (some (.ref CA15))) (yk15_NoneType : PySem.W.kitOne K (.type "NoneType") (.ref CA15) = some false) (yk15_bool : PySem.W.kitOne K (.type "bool") (.ref CA15) = some false) (yk15_int : PySem.W.kitOne K (.type "int") (.ref CA15) = some false) (yk15_str : PySem.W.kitOne K (.type "str") (.ref CA15) = some false) (yk15_tuple : PySem.W.kitOne K (.type "tuple") (.ref CA15) = some false) (yk15_list : PySem.W.kitOne K (.type "list") (.ref CA15) = some false) (yk15_dict : PySem.W.kitOne K (.type "dict") (.ref CA15) = some false) (yx15_0 : PySem.W.kitOne K (.ref CE0) (.ref CA15) = some false) (ya16 : PySem.W.nsIn K mainGlobals "NoPlan" = some (some (.ref CA16))) (yk16_NoneType : PySem.W.kitOne K (.type "NoneType") (.ref CA16) = some false) (yk16_bool : PySem.W.kitOne K (.type "bool") (.ref CA16) = some false) (yk16_int : PySem.W.kitOne K (.type "int") (.ref CA16) = some false) (yk16_str : PySem.W.kitOne K (.type "str") (.ref CA16) = some false) (yk16_tuple : PySem.W.kitOne K (.type "tuple") (.ref CA16) = some false) (yk16_list : PySem.W.kitOne K (.type "list") (.ref CA16) = some false) (yk16_dict : PySem.W.kitOne K (.type "dict") (.ref CA16) = some false) (yx16_0 : PySem.W.kitOne K (.ref CE0) (.ref CA16) = some false) (ya17 : PySem.W.nsIn K mainGlobals "TooGreat" = some (some (.ref CA17))) (yk17_NoneType : PySem.W.kitOne K (.type "NoneType") (.ref CA17) = some false) (yk17_bool : PySem.W.kitOne K (.type "bool") (.ref CA17) = some false) (yk17_int : PySem.W.kitOne K (.type "int") (.ref CA17) = some false) (yk17_str : PySem.W.kitOne K (.type "str") (.ref CA17) = some false) (yk17_tuple : PySem.W.kitOne K (.type "tuple") (.ref CA17) = some false) (yk17_list : PySem.W.kitOne K (.type "list") (.ref CA17) = some false) (yk17_dict : PySem.W.kitOne K (.type "dict") (.ref CA17) = some false) (yx17_0 : PySem.W.kitOne K (.ref CE0) (.ref CA17) = some false) (ya18 : PySem.W.nsIn K mainGlobals "ValueError" = some none) (yk18_NoneType : PySem.W.kitOne K (.type "NoneType") (.type "ValueError") = some false) (yk18_bool : PySem.W.kitOne K (.type "bool") (.type "ValueError") = some false) (yk18_int : PySem.W.kitOne K (.type "int") (.type "ValueError") = some false) (yk18_str : PySem.W.kitOne K (.type "str") (.type "ValueError") = some false) (yk18_tuple : PySem.W.kitOne K (.type "tuple") (.type "ValueError") = some false) (yk18_list : PySem.W.kitOne K (.type "list") (.type "ValueError") = some false) (yk18_dict : PySem.W.kitOne K (.type "dict") (.type "ValueError") = some false) (yx18_0 : PySem.W.kitOne K (.ref CE0) (.type "ValueError") = some true) (ga0 : PySem.W.nsIn K mainGlobals "MOST_LETTERS" = some (some (.int 6 gt0))) (ga1 : PySem.W.nsIn K mainGlobals "SMALL_LETTERS" = some (some (.str "abcdefghijklmnopqrstuvwxyz" gt1))) (ga2 : PySem.W.nsIn K mainGlobals "WORDS" = some (some (.ref GA2))) (gl2 : K.lookup GA2 = some ⟨.type "tuple", none, .seq GV2 gn2, gs2⟩) (gz2 : GV2.size ≤ sizeLine) (gv2 : L2.Vals [.str "yes", .str "no", .str "not", .str "and", .str "or", .str "before", .str "since", .str "was", .str "given", .str "wanted", .str "always", .str "again", .str "comes", .str "answers"] GV2.toList)
    (z0 : PySem.W.nsIn K mainGlobals "all" = some none) (z1 : PySem.W.nsIn K mainGlobals "any" = some none) (z2 : PySem.W.nsIn K mainGlobals "bool" = some none) (z3 : PySem.W.nsIn K mainGlobals "enumerate" = some none) (z4 : PySem.W.nsIn K mainGlobals "int" = some none) (z5 : PySem.W.nsIn K mainGlobals "isinstance" = some none) (z6 : PySem.W.nsIn K mainGlobals "len" = some none) (z7 : PySem.W.nsIn K mainGlobals "range" = some none) (z8 : PySem.W.nsIn K mainGlobals "set" = some none) (z9 : PySem.W.nsIn K mainGlobals "str" = some none) (z10 : PySem.W.nsIn K mainGlobals "tuple" = some none) (z11 : PySem.W.nsIn K mainGlobals "zip" = some none)
    (hown : ∀ (nm : Str) (f : Addr), ((recsOf qq).any fun e => e.name == nm) = true → mg nm = some (.ref f) → LamX.OwnTab K f h)
    (hlaw : ∀ ns : List Int, ns.length ≤ 63 → ∃ S', callA Gs 1000000 Pg 40 "law" [.lst (ns.map .int)] [] = .ok (.bl true) S') :
    LawG l w K (L2.CX l.prog w) 80 63 "_law_script" mg fa h := by
  have ok : ProgOk ⟨fun _ => none, (caOf [CE0]), ([(cc0, P0), (cc4, P4)] : List (Addr × Addr)).map (·.2), sg⟩ [(cc0, P0), (cc4, P4)] Gs Pg K mg := by
    refine ⟨fun name d hd => ?_, fun f a hf => ?_, fun f hf => ?_, fun f hf => ?_, fun f tab hf => ?_, fun f hf => ?_, fun x d h => ?_, rfl⟩
    · unfold Pg at hd
      split at hd
      · cases hd
        have F := L2.fun_mk (st := s_is_name) l0 c0 k0
        exact ⟨60, ⟨_, _, _, _, _, _, F, sc_is_name, rfl, rfl, ck_is_name, PySem.W.mg_of X G a0, F.binds (ps := ["thing"]) fun _ _ _ _ _ _ us hl => match us, hl with | [_], _ => rfl, fun _ => ⟨cc0, P0, q0, by simp⟩⟩⟩
      · cases hd
        have F := L2.fun_mk (st := s_need_name) l1 c1 k1
        exact ⟨60, ⟨_, _, _, _, _, _, F, sc_need_name, rfl, rfl, ck_need_name, PySem.W.mg_of X G a1, F.binds (ps := ["thing"]) fun _ _ _ _ _ _ us hl => match us, hl with | [_], _ => rfl, fun z => (by rw [show gOk sg (L2.defScope s_need_name) = false by decide +kernel] at z; cases z)⟩⟩
      · cases hd
        have F := L2.fun_mk (st := s_all_unlike) l2 c2 k2
        exact ⟨60, ⟨_, _, _, _, _, _, F, sc_all_unlike, rfl, rfl, ck_all_unlike, PySem.W.mg_of X G a2, F.binds (ps := ["names"]) fun _ _ _ _ _ _ us hl => match us, hl with | [_], _ => rfl, fun z => (by rw [show gOk sg (L2.defScope s_all_unlike) = false by decide +kernel] at z; cases z)⟩⟩
      · cases hd
        have F := L2.fun_mk (st := s_is_pair) l3 c3 k3
        exact ⟨60, ⟨_, _, _, _, _, _, F, sc_is_pair, rfl, rfl, ck_is_pair, PySem.W.mg_of X G a3, F.binds (ps := ["thing"]) fun _ _ _ _ _ _ us hl => match us, hl with | [_], _ => rfl, fun z => (by rw [show gOk sg (L2.defScope s_is_pair) = false by decide +kernel] at z; cases z)⟩⟩
      · cases hd
        have F := L2.fun_mk (st := s_are_pairs) l4 c4 k4
        exact ⟨60, ⟨_, _, _, _, _, _, F, sc_are_pairs, rfl, rfl, ck_are_pairs, PySem.W.mg_of X G a4, F.binds (ps := ["thing"]) fun _ _ _ _ _ _ us hl => match us, hl with | [_], _ => rfl, fun _ => ⟨cc4, P4, q4, by simp⟩⟩⟩
      · cases hd
        have F := L2.fun_mk (st := s_name_by) l5 c5 k5
        exact ⟨60, ⟨_, _, _, _, _, _, F, sc_name_by, rfl, rfl, ck_name_by, PySem.W.mg_of X G a5, F.binds (ps := ["pairs", "name"]) fun _ _ _ _ _ _ us hl => match us, hl with | [_, _], _ => rfl, fun z => (by rw [show gOk sg (L2.defScope s_name_by) = false by decide +kernel] at z; cases z)⟩⟩
      · cases hd
        have F := L2.fun_mk (st := s__law_mixed) l6 c6 k6
        exact ⟨60, ⟨_, _, _, _, _, _, F, sc__law_mixed, rfl, rfl, ck__law_mixed, PySem.W.mg_of X G a6, F.binds (ps := ["_law_number", "_law_k"]) fun _ _ _ _ _ _ us hl => match us, hl with | [_, _], _ => rfl, fun z => (by rw [show gOk sg (L2.defScope s__law_mixed) = false by decide +kernel] at z; cases z)⟩⟩
      · cases hd
        have F := L2.fun_mk (st := s__law_stream) l7 c7 k7
        exact ⟨60, ⟨_, _, _, _, _, _, F, sc__law_stream, rfl, rfl, ck__law_stream, PySem.W.mg_of X G a7, F.binds (ps := ["_law_cell", "_law_k"]) fun _ _ _ _ _ _ us hl => match us, hl with | [_, _], _ => rfl, fun z => (by rw [show gOk sg (L2.defScope s__law_stream) = false by decide +kernel] at z; cases z)⟩⟩
      · cases hd
        have F := L2.fun_mk (st := s__law_take) l8 c8 k8
        exact ⟨60, ⟨_, _, _, _, _, _, F, sc__law_take, rfl, rfl, ck__law_take, PySem.W.mg_of X G a8, F.binds (ps := ["_law_stream_here", "_law_many"]) fun _ _ _ _ _ _ us hl => match us, hl with | [_, _], _ => rfl, fun z => (by rw [show gOk sg (L2.defScope s__law_take) = false by decide +kernel] at z; cases z)⟩⟩
      · cases hd
        have F := L2.fun_mk (st := s__law_names_by) l9 c9 k9
        exact ⟨60, ⟨_, _, _, _, _, _, F, sc__law_names_by, rfl, rfl, ck__law_names_by, PySem.W.mg_of X G a9, F.binds (ps := ["_law_stream_here", "_law_many"]) fun _ _ _ _ _ _ us hl => match us, hl with | [_, _], _ => rfl, fun z => (by rw [show gOk sg (L2.defScope s__law_names_by) = false by decide +kernel] at z; cases z)⟩⟩
      · cases hd
        have F := L2.fun_mk (st := s__law_word) l10 c10 k10
        exact ⟨60, ⟨_, _, _, _, _, _, F, sc__law_word, rfl, rfl, ck__law_word, PySem.W.mg_of X G a10, F.binds (ps := ["_law_error"]) fun _ _ _ _ _ _ us hl => match us, hl with | [_], _ => rfl, fun z => (by rw [show gOk sg (L2.defScope s__law_word) = false by decide +kernel] at z; cases z)⟩⟩
      · cases hd
        have F := L2.fun_mk (st := s__law_said) l11 c11 k11
        exact ⟨60, ⟨_, _, _, _, _, _, F, sc__law_said, rfl, rfl, ck__law_said, PySem.W.mg_of X G a11, F.binds (ps := ["_law_thing"]) fun _ _ _ _ _ _ us hl => match us, hl with | [_], _ => rfl, fun z => (by rw [show gOk sg (L2.defScope s__law_said) = false by decide +kernel] at z; cases z)⟩⟩
      · cases hd
        have F := L2.fun_mk (st := s__law_is_name) l12 c12 k12
        exact ⟨60, ⟨_, _, _, _, _, _, F, sc__law_is_name, rfl, rfl, ck__law_is_name, PySem.W.mg_of X G a12, F.binds (ps := ["_law_text"]) fun _ _ _ _ _ _ us hl => match us, hl with | [_], _ => rfl, fun z => (by rw [show gOk sg (L2.defScope s__law_is_name) = false by decide +kernel] at z; cases z)⟩⟩
      · cases hd
        have F := L2.fun_mk (st := s__law_odd) l13 c13 k13
        exact ⟨60, ⟨_, _, _, _, _, _, F, sc__law_odd, rfl, rfl, ck__law_odd, PySem.W.mg_of X G a13, F.binds (ps := ["_law_stream_here", "_law_name"]) fun _ _ _ _ _ _ us hl => match us, hl with | [_, _], _ => rfl, fun z => (by rw [show gOk sg (L2.defScope s__law_odd) = false by decide +kernel] at z; cases z)⟩⟩
      · cases hd
        have F := L2.fun_mk (st := s__law_pairs_right) l14 c14 k14
        exact ⟨60, ⟨_, _, _, _, _, _, F, sc__law_pairs_right, rfl, rfl, ck__law_pairs_right, PySem.W.mg_of X G a14, F.binds (ps := ["_law_stream_here"]) fun _ _ _ _ _ _ us hl => match us, hl with | [_], _ => rfl, fun z => (by rw [show gOk sg (L2.defScope s__law_pairs_right) = false by decide +kernel] at z; cases z)⟩⟩
      · cases hd
        have F := L2.fun_mk (st := s_law) l15 c15 k15
        exact ⟨60, ⟨_, _, _, _, _, _, F, sc_law, rfl, rfl, ck_law, PySem.W.mg_of X G a15, F.binds (ps := ["_law_script"]) fun _ _ _ _ _ _ us hl => match us, hl with | [_], _ => rfl, fun z => (by rw [show gOk sg (L2.defScope s_law) = false by decide +kernel] at z; cases z)⟩⟩
      · cases hd
    · cases e : Pg f with
      | none => simp [sg, e] at hf
      | some d => exact ⟨d, rfl, by simpa [sg, e] using hf⟩
    · simp only [sg, List.contains_iff_mem, List.mem_cons, List.not_mem_nil, or_false] at hf
      rcases hf with rfl | rfl | rfl | rfl | rfl | rfl | rfl | rfl | rfl | rfl | rfl | rfl
      · exact PySem.W.mg_none_of X G z0
      · exact PySem.W.mg_none_of X G z1
      · exact PySem.W.mg_none_of X G z2
      · exact PySem.W.mg_none_of X G z3
      · exact PySem.W.mg_none_of X G z4
      · exact PySem.W.mg_none_of X G z5
      · exact PySem.W.mg_none_of X G z6
      · exact PySem.W.mg_none_of X G z7
      · exact PySem.W.mg_none_of X G z8
      · exact PySem.W.mg_none_of X G z9
      · exact PySem.W.mg_none_of X G z10
      · exact PySem.W.mg_none_of X G z11
    · simp only [sg, List.contains_iff_mem, List.mem_cons, List.not_mem_nil, or_false] at hf
      rcases hf with rfl
      · exact ⟨CE0, rfl, ⟨⟨_, _, _, _, PySem.F.excBase_ValueError, eb0⟩, PySem.W.mg_of X G ea0, ek0, es0, et0⟩⟩
    · have hf := Mn.mem_look hf
      simp only [sg, List.mem_cons, List.not_mem_nil, or_false, Prod.mk.injEq] at hf
      rcases hf with ⟨rfl, rfl⟩ | ⟨rfl, rfl⟩ | ⟨rfl, rfl⟩ | ⟨rfl, rfl⟩ | ⟨rfl, rfl⟩ | ⟨rfl, rfl⟩ | ⟨rfl, rfl⟩ | ⟨rfl, rfl⟩ | ⟨rfl, rfl⟩ | ⟨rfl, rfl⟩ | ⟨rfl, rfl⟩ | ⟨rfl, rfl⟩ | ⟨rfl, rfl⟩ | ⟨rfl, rfl⟩ | ⟨rfl, rfl⟩ | ⟨rfl, rfl⟩ | ⟨rfl, rfl⟩ | ⟨rfl, rfl⟩ | ⟨rfl, rfl⟩
      · refine ⟨(.ref CA0), (.ref CA0), .own _, rfl, .inl (PySem.W.mg_of X G ya0), fun T hT => ?_, fun x b D h1 h2 => ?_⟩
        · simp only [tyNs, List.mem_cons, List.not_mem_nil, or_false] at hT
          rcases hT with rfl | rfl | rfl | rfl | rfl | rfl | rfl
          · exact yk0_NoneType
          · exact yk0_bool
          · exact yk0_int
          · exact yk0_str
          · exact yk0_tuple
          · exact yk0_list
          · exact yk0_dict
        · have h1 := Mn.mem_look h1
          simp only [List.mem_cons, List.not_mem_nil, or_false, Prod.mk.injEq] at h1
          rcases h1 with ⟨rfl, rfl⟩
          · cases (show some CE0 = some D from h2)
            exact ⟨⟨ec0_0, ec0_1, ec0_2, ec0_3, ec0_4, ecx5, ecx6, ec0_7⟩, yx0_0⟩
      · refine ⟨(.ref CA1), (.ref CA1), .own _, rfl, .inl (PySem.W.mg_of X G ya1), fun T hT => ?_, fun x b D h1 h2 => ?_⟩
        · simp only [tyNs, List.mem_cons, List.not_mem_nil, or_false] at hT
          rcases hT with rfl | rfl | rfl | rfl | rfl | rfl | rfl
          · exact yk1_NoneType
          · exact yk1_bool
          · exact yk1_int
          · exact yk1_str
          · exact yk1_tuple
          · exact yk1_list
          · exact yk1_dict
        · have h1 := Mn.mem_look h1
          simp only [List.mem_cons, List.not_mem_nil, or_false, Prod.mk.injEq] at h1
          rcases h1 with ⟨rfl, rfl⟩
          · cases (show some CE0 = some D from h2)
            exact ⟨⟨ec0_0, ec0_1, ec0_2, ec0_3, ec0_4, ecx5, ecx6, ec0_7⟩, yx1_0⟩
      · refine ⟨(.ref CA2), (.ref CA2), .own _, rfl, .inl (PySem.W.mg_of X G ya2), fun T hT => ?_, fun x b D h1 h2 => ?_⟩
        · simp only [tyNs, List.mem_cons, List.not_mem_nil, or_false] at hT
          rcases hT with rfl | rfl | rfl | rfl | rfl | rfl | rfl
          · exact yk2_NoneType
          · exact yk2_bool
          · exact yk2_int
          · exact yk2_str
          · exact yk2_tuple
          · exact yk2_list
          · exact yk2_dict
        · have h1 := Mn.mem_look h1
          simp only [List.mem_cons, List.not_mem_nil, or_false, Prod.mk.injEq] at h1
          rcases h1 with ⟨rfl, rfl⟩
          · cases (show some CE0 = some D from h2)
            exact ⟨⟨ec0_0, ec0_1, ec0_2, ec0_3, ec0_4, ecx5, ecx6, ec0_7⟩, yx2_0⟩
      · refine ⟨(.ref CA3), (.ref CA3), .own _, rfl, .inl (PySem.W.mg_of X G ya3), fun T hT => ?_, fun x b D h1 h2 => ?_⟩
        · simp only [tyNs, List.mem_cons, List.not_mem_nil, or_false] at hT
          rcases hT with rfl | rfl | rfl | rfl | rfl | rfl | rfl
          · exact yk3_NoneType
          · exact yk3_bool
          · exact yk3_int
          · exact yk3_str
          · exact yk3_tuple
          · exact yk3_list
          · exact yk3_dict
        · have h1 := Mn.mem_look h1
          simp only [List.mem_cons, List.not_mem_nil, or_false, Prod.mk.injEq] at h1
          rcases h1 with ⟨rfl, rfl⟩
          · cases (show some CE0 = some D from h2)
            exact ⟨⟨ec0_0, ec0_1, ec0_2, ec0_3, ec0_4, ecx5, ecx6, ec0_7⟩, yx3_0⟩
      · refine ⟨(.ref CA4), (.ref CA4), .own _, rfl, .inl (PySem.W.mg_of X G ya4), fun T hT => ?_, fun x b D h1 h2 => ?_⟩
        · simp only [tyNs, List.mem_cons, List.not_mem_nil, or_false] at hT
          rcases hT with rfl | rfl | rfl | rfl | rfl | rfl | rfl
          · exact yk4_NoneType
          · exact yk4_bool
          · exact yk4_int
          · exact yk4_str
          · exact yk4_tuple
          · exact yk4_list
          · exact yk4_dict
        · have h1 := Mn.mem_look h1
          simp only [List.mem_cons, List.not_mem_nil, or_false, Prod.mk.injEq] at h1
          rcases h1 with ⟨rfl, rfl⟩
          · cases (show some CE0 = some D from h2)
            exact ⟨⟨ec0_0, ec0_1, ec0_2, ec0_3, ec0_4, ecx5, ecx6, ec0_7⟩, yx4_0⟩
      · refine ⟨(.ref CA5), (.ref CA5), .own _, rfl, .inl (PySem.W.mg_of X G ya5), fun T hT => ?_, fun x b D h1 h2 => ?_⟩
        · simp only [tyNs, List.mem_cons, List.not_mem_nil, or_false] at hT
          rcases hT with rfl | rfl | rfl | rfl | rfl | rfl | rfl
          · exact yk5_NoneType
          · exact yk5_bool
          · exact yk5_int
          · exact yk5_str
          · exact yk5_tuple
          · exact yk5_list
          · exact yk5_dict
        · have h1 := Mn.mem_look h1
          simp only [List.mem_cons, List.not_mem_nil, or_false, Prod.mk.injEq] at h1
          rcases h1 with ⟨rfl, rfl⟩
          · cases (show some CE0 = some D from h2)
            exact ⟨⟨ec0_0, ec0_1, ec0_2, ec0_3, ec0_4, ecx5, ecx6, ec0_7⟩, yx5_0⟩
      · refine ⟨(.ref CA6), (.ref CA6), .own _, rfl, .inl (PySem.W.mg_of X G ya6), fun T hT => ?_, fun x b D h1 h2 => ?_⟩
        · simp only [tyNs, List.mem_cons, List.not_mem_nil, or_false] at hT
          rcases hT with rfl | rfl | rfl | rfl | rfl | rfl | rfl
          · exact yk6_NoneType
          · exact yk6_bool
          · exact yk6_int
          · exact yk6_str
          · exact yk6_tuple
          · exact yk6_list
          · exact yk6_dict
        · have h1 := Mn.mem_look h1
          simp only [List.mem_cons, List.not_mem_nil, or_false, Prod.mk.injEq] at h1
          rcases h1 with ⟨rfl, rfl⟩
          · cases (show some CE0 = some D from h2)
            exact ⟨⟨ec0_0, ec0_1, ec0_2, ec0_3, ec0_4, ecx5, ecx6, ec0_7⟩, yx6_0⟩
      · refine ⟨(.ref CA7), (.ref CA7), .own _, rfl, .inl (PySem.W.mg_of X G ya7), fun T hT => ?_, fun x b D h1 h2 => ?_⟩
        · simp only [tyNs, List.mem_cons, List.not_mem_nil, or_false] at hT
          rcases hT with rfl | rfl | rfl | rfl | rfl | rfl | rfl
          · exact yk7_NoneType
          · exact yk7_bool
          · exact yk7_int
          · exact yk7_str
          · exact yk7_tuple
          · exact yk7_list
          · exact yk7_dict
        · have h1 := Mn.mem_look h1
          simp only [List.mem_cons, List.not_mem_nil, or_false, Prod.mk.injEq] at h1
          rcases h1 with ⟨rfl, rfl⟩
          · cases (show some CE0 = some D from h2)
            exact ⟨⟨ec0_0, ec0_1, ec0_2, ec0_3, ec0_4, ecx5, ecx6, ec0_7⟩, yx7_0⟩
      · refine ⟨(.ref CA8), (.ref CA8), .own _, rfl, .inl (PySem.W.mg_of X G ya8), fun T hT => ?_, fun x b D h1 h2 => ?_⟩
        · simp only [tyNs, List.mem_cons, List.not_mem_nil, or_false] at hT
          rcases hT with rfl | rfl | rfl | rfl | rfl | rfl | rfl
          · exact yk8_NoneType
          · exact yk8_bool
          · exact yk8_int
          · exact yk8_str
          · exact yk8_tuple
          · exact yk8_list
          · exact yk8_dict
        · have h1 := Mn.mem_look h1
          simp only [List.mem_cons, List.not_mem_nil, or_false, Prod.mk.injEq] at h1
          rcases h1 with ⟨rfl, rfl⟩
          · cases (show some CE0 = some D from h2)
            exact ⟨⟨ec0_0, ec0_1, ec0_2, ec0_3, ec0_4, ecx5, ecx6, ec0_7⟩, yx8_0⟩
      · refine ⟨(.ref CA9), (.ref CA9), .own _, rfl, .inl (PySem.W.mg_of X G ya9), fun T hT => ?_, fun x b D h1 h2 => ?_⟩
        · simp only [tyNs, List.mem_cons, List.not_mem_nil, or_false] at hT
          rcases hT with rfl | rfl | rfl | rfl | rfl | rfl | rfl
          · exact yk9_NoneType
          · exact yk9_bool
          · exact yk9_int
          · exact yk9_str
          · exact yk9_tuple
          · exact yk9_list
          · exact yk9_dict
        · have h1 := Mn.mem_look h1
          simp only [List.mem_cons, List.not_mem_nil, or_false, Prod.mk.injEq] at h1
          rcases h1 with ⟨rfl, rfl⟩
          · cases (show some CE0 = some D from h2)
            exact ⟨⟨ec0_0, ec0_1, ec0_2, ec0_3, ec0_4, ecx5, ecx6, ec0_7⟩, yx9_0⟩
      · refine ⟨(.ref CA10), (.ref CA10), .own _, rfl, .inl (PySem.W.mg_of X G ya10), fun T hT => ?_, fun x b D h1 h2 => ?_⟩
        · simp only [tyNs, List.mem_cons, List.not_mem_nil, or_false] at hT
          rcases hT with rfl | rfl | rfl | rfl | rfl | rfl | rfl
          · exact yk10_NoneType
          · exact yk10_bool
          · exact yk10_int
          · exact yk10_str
          · exact yk10_tuple
          · exact yk10_list
          · exact yk10_dict
        · have h1 := Mn.mem_look h1
          simp only [List.mem_cons, List.not_mem_nil, or_false, Prod.mk.injEq] at h1
          rcases h1 with ⟨rfl, rfl⟩
          · cases (show some CE0 = some D from h2)
            exact ⟨⟨ec0_0, ec0_1, ec0_2, ec0_3, ec0_4, ecx5, ecx6, ec0_7⟩, yx10_0⟩
      · refine ⟨(.ref CA11), (.ref CA11), .own _, rfl, .inl (PySem.W.mg_of X G ya11), fun T hT => ?_, fun x b D h1 h2 => ?_⟩
        · simp only [tyNs, List.mem_cons, List.not_mem_nil, or_false] at hT
          rcases hT with rfl | rfl | rfl | rfl | rfl | rfl | rfl
          · exact yk11_NoneType
          · exact yk11_bool
          · exact yk11_int
          · exact yk11_str
          · exact yk11_tuple
          · exact yk11_list
          · exact yk11_dict
        · have h1 := Mn.mem_look h1
          simp only [List.mem_cons, List.not_mem_nil, or_false, Prod.mk.injEq] at h1
          rcases h1 with ⟨rfl, rfl⟩
          · cases (show some CE0 = some D from h2)
            exact ⟨⟨ec0_0, ec0_1, ec0_2, ec0_3, ec0_4, ecx5, ecx6, ec0_7⟩, yx11_0⟩
      · refine ⟨(.ref CA12), (.ref CA12), .own _, rfl, .inl (PySem.W.mg_of X G ya12), fun T hT => ?_, fun x b D h1 h2 => ?_⟩
        · simp only [tyNs, List.mem_cons, List.not_mem_nil, or_false] at hT
          rcases hT with rfl | rfl | rfl | rfl | rfl | rfl | rfl
          · exact yk12_NoneType
          · exact yk12_bool
          · exact yk12_int
          · exact yk12_str
          · exact yk12_tuple
          · exact yk12_list
          · exact yk12_dict
        · have h1 := Mn.mem_look h1
          simp only [List.mem_cons, List.not_mem_nil, or_false, Prod.mk.injEq] at h1
          rcases h1 with ⟨rfl, rfl⟩
          · cases (show some CE0 = some D from h2)
            exact ⟨⟨ec0_0, ec0_1, ec0_2, ec0_3, ec0_4, ecx5, ecx6, ec0_7⟩, yx12_0⟩
      · refine ⟨(.ref CA13), (.ref CA13), .own _, rfl, .inl (PySem.W.mg_of X G ya13), fun T hT => ?_, fun x b D h1 h2 => ?_⟩
        · simp only [tyNs, List.mem_cons, List.not_mem_nil, or_false] at hT
          rcases hT with rfl | rfl | rfl | rfl | rfl | rfl | rfl
          · exact yk13_NoneType
          · exact yk13_bool
          · exact yk13_int
          · exact yk13_str
          · exact yk13_tuple
          · exact yk13_list
          · exact yk13_dict
        · have h1 := Mn.mem_look h1
          simp only [List.mem_cons, List.not_mem_nil, or_false, Prod.mk.injEq] at h1
          rcases h1 with ⟨rfl, rfl⟩
          · cases (show some CE0 = some D from h2)
            exact ⟨⟨ec0_0, ec0_1, ec0_2, ec0_3, ec0_4, ecx5, ecx6, ec0_7⟩, yx13_0⟩
      · refine ⟨(.ref CA14), (.ref CA14), .own _, rfl, .inl (PySem.W.mg_of X G ya14), fun T hT => ?_, fun x b D h1 h2 => ?_⟩
        · simp only [tyNs, List.mem_cons, List.not_mem_nil, or_false] at hT
          rcases hT with rfl | rfl | rfl | rfl | rfl | rfl | rfl
          · exact yk14_NoneType
          · exact yk14_bool
          · exact yk14_int
          · exact yk14_str
          · exact yk14_tuple
          · exact yk14_list
          · exact yk14_dict
        · have h1 := Mn.mem_look h1
          simp only [List.mem_cons, List.not_mem_nil, or_false, Prod.mk.injEq] at h1
          rcases h1 with ⟨rfl, rfl⟩
          · cases (show some CE0 = some D from h2)
            exact ⟨⟨ec0_0, ec0_1, ec0_2, ec0_3, ec0_4, ecx5, ecx6, ec0_7⟩, yx14_0⟩
      · refine ⟨(.ref CA15), (.ref CA15), .own _, rfl, .inl (PySem.W.mg_of X G ya15), fun T hT => ?_, fun x b D h1 h2 => ?_⟩
        · simp only [tyNs, List.mem_cons, List.not_mem_nil, or_false] at hT
          rcases hT with rfl | rfl | rfl | rfl | rfl | rfl | rfl
          · exact yk15_NoneType
          · exact yk15_bool
          · exact yk15_int
          · exact yk15_str
          · exact yk15_tuple
          · exact yk15_list
          · exact yk15_dict
        · have h1 := Mn.mem_look h1
          simp only [List.mem_cons, List.not_mem_nil, or_false, Prod.mk.injEq] at h1
          rcases h1 with ⟨rfl, rfl⟩
          · cases (show some CE0 = some D from h2)
            exact ⟨⟨ec0_0, ec0_1, ec0_2, ec0_3, ec0_4, ecx5, ecx6, ec0_7⟩, yx15_0⟩
      · refine ⟨(.ref CA16), (.ref CA16), .own _, rfl, .inl (PySem.W.mg_of X G ya16), fun T hT => ?_, fun x b D h1 h2 => ?_⟩
        · simp only [tyNs, List.mem_cons, List.not_mem_nil, or_false] at hT
          rcases hT with rfl | rfl | rfl | rfl | rfl | rfl | rfl
          · exact yk16_NoneType
          · exact yk16_bool
          · exact yk16_int
          · exact yk16_str
          · exact yk16_tuple
          · exact yk16_list
          · exact yk16_dict
        · have h1 := Mn.mem_look h1
          simp only [List.mem_cons, List.not_mem_nil, or_false, Prod.mk.injEq] at h1
          rcases h1 with ⟨rfl, rfl⟩
          · cases (show some CE0 = some D from h2)
            exact ⟨⟨ec0_0, ec0_1, ec0_2, ec0_3, ec0_4, ecx5, ecx6, ec0_7⟩, yx16_0⟩
      · refine ⟨(.ref CA17), (.ref CA17), .own _, rfl, .inl (PySem.W.mg_of X G ya17), fun T hT => ?_, fun x b D h1 h2 => ?_⟩
        · simp only [tyNs, List.mem_cons, List.not_mem_nil, or_false] at hT
          rcases hT with rfl | rfl | rfl | rfl | rfl | rfl | rfl
          · exact yk17_NoneType
          · exact yk17_bool
          · exact yk17_int
          · exact yk17_str
          · exact yk17_tuple
          · exact yk17_list
          · exact yk17_dict
        · have h1 := Mn.mem_look h1
          simp only [List.mem_cons, List.not_mem_nil, or_false, Prod.mk.injEq] at h1
          rcases h1 with ⟨rfl, rfl⟩
          · cases (show some CE0 = some D from h2)
            exact ⟨⟨ec0_0, ec0_1, ec0_2, ec0_3, ec0_4, ecx5, ecx6, ec0_7⟩, yx17_0⟩
      · refine ⟨(.ty "ValueError"), (.type "ValueError"), .ty _, rfl, .inr ⟨PySem.W.mg_none_of X G ya18, PyProof.Rows.Boot.«ValueError»⟩, fun T hT => ?_, fun x b D h1 h2 => ?_⟩
        · simp only [tyNs, List.mem_cons, List.not_mem_nil, or_false] at hT
          rcases hT with rfl | rfl | rfl | rfl | rfl | rfl | rfl
          · exact yk18_NoneType
          · exact yk18_bool
          · exact yk18_int
          · exact yk18_str
          · exact yk18_tuple
          · exact yk18_list
          · exact yk18_dict
        · have h1 := Mn.mem_look h1
          simp only [List.mem_cons, List.not_mem_nil, or_false, Prod.mk.injEq] at h1
          rcases h1 with ⟨rfl, rfl⟩
          · cases (show some CE0 = some D from h2)
            exact ⟨⟨ec0_0, ec0_1, ec0_2, ec0_3, ec0_4, ecx5, ecx6, ec0_7⟩, yx18_0⟩
    · simp only [sg, List.contains_iff_mem, List.mem_cons, List.not_mem_nil, or_false] at hf
      rcases hf with rfl
      · refine ⟨CT0, PySem.W.mg_of X G ta0, fun y D hy => ?_⟩
        have hy : caOf [CE0] y = some D := hy
        unfold caOf at hy
        split at hy
        · cases (show some CE0 = some D from hy)
          exact tm0_0
        · cases hy
    · unfold Gs at h
      split at h
      · cases h
        exact ⟨_, .int 6, PySem.W.mg_of X G ga0, ⟨gt0, rfl⟩, fun _ _ => .int _⟩
      · cases h
        exact ⟨_, .str "abcdefghijklmnopqrstuvwxyz", PySem.W.mg_of X G ga1, ⟨gt1, rfl⟩, fun _ _ => .str _⟩
      · cases h
        exact ⟨_, .ref GA2, PySem.W.mg_of X G ga2, rfl, fun _ _ => .tup (.inr ⟨_, _, _, gl2, rfl, rfl, rfl, gz2, gv2⟩) (.cons (.str _) (.cons (.str _) (.cons (.str _) (.cons (.str _) (.cons (.str _) (.cons (.str _) (.cons (.str _) (.cons (.str _) (.cons (.str _) (.cons (.str _) (.cons (.str _) (.cons (.str _) (.cons (.str _) (.cons (.str _) .nil))))))))))))))⟩
      · cases h
  have e := hfa.symm.trans (PySem.W.mg_of X G a15)
  cases e
  have F := L2.fun_mk (st := s_law) l15 c15 k15
  have b := F.binds (ps := ["_law_script"]) fun _ _ _ _ _ _ us hl => match us, hl with | [_], _ => rfl
  have T0 : TabK K f0 _ cc0 P0 := ⟨⟨_, _, _, l0⟩, q0, ⟨_, _, _, _, o0, p0⟩, Mn.codeHd_at o0 h0, n0⟩
  have T4 : TabK K f4 _ cc4 P4 := ⟨⟨_, _, _, l4⟩, q4, ⟨_, _, _, _, o4, p4⟩, Mn.codeHd_at o4 h4, n4⟩
  refine ⟨PySem.W.fnOf "law" "law" (L2.defArgs s_law) (L2.defBody s_law) (L2.defScope s_law) .none kV15 dc15 pm15 an15 cd15 ct15, [(cc0, P0), (cc4, P4)], spLaw K (([(cc0, P0), (cc4, P4)] : List (Addr × Addr)).map (·.2)), ?_, ?_, ?_, fun s v => .of_eq rfl, fun H a ns hl _ hc hS => ⟨a, ns, rfl, hS, hl, fun P hP => ?_, fun _ => rfl⟩, fun base hk hn hT => ?_⟩
  · intro p hp
    simp only [List.mem_cons, List.not_mem_nil, or_false] at hp
    rcases hp with rfl | rfl
    · exact T0.empty (hown "is_name" _ r0 (PySem.W.mg_of X G a0))
    · exact T4.empty (hown "are_pairs" _ r4 (PySem.W.mg_of X G a4))
  · intro p hp
    simp only [List.mem_cons, List.not_mem_nil, or_false] at hp
    rcases hp with rfl | rfl
    · exact n0
    · exact n4
  · intro p hp
    simp only [List.mem_cons, List.not_mem_nil, or_false] at hp
    rcases hp with rfl | rfl
    · exact PySem.W.codeHd_of_K X T0.hd
    · exact PySem.W.codeHd_of_K X T4.hd
  · obtain ⟨p, hp, e⟩ := List.mem_map.mp hP
    rw [← e]
    exact hc p hp
  · exact FnG.imp (prog_fn (P := l.prog) (w := w) (base := base) (fuel := 1000000) ok hT 39 (name := "law") (d := d_law) rfl F sc_law rfl rfl ck_law fun z => (by rw [show gOk sg (L2.defScope s_law) = false by decide +kernel] at z; cases z)) fun vs H Q E h => law_of hlaw vs H Q E h
end K01


open PySem PySem.W PyProof.Rows
set_option maxHeartbeats 0 in
theorem PySem.Challenge.cw_wishkeep_k01_names_holds : PySem.Challenge.rw_wishkeep_k01_names.Holds := by
  w_on; o_law; k_head; (case hw => w_witness2)
  k_fill
  refine Mn.walk_tabs (l := PySem.Challenge.rw_wishkeep_k01_names) (n := 63) (k := 80) (x := "_law_script") (CX := fun w => L2.CX (PySem.Challenge.rw_wishkeep_k01_names).prog w) rfl (by decide) rfl ⟨rfl, by decide, by decide⟩ (fun w h Y => PySem.W.kIn_of Y) ?F ?C
  case C => exact fun w H s e s' h => by obtain ⟨_, _, _, _, _, _, _, _, _, _, _, _, h⟩ := h; exact h
  case F =>
    intro w mg fa h Y KX G hmg hown
    refine' K01.law_all KX G hmg ?a0 ?l0 ?c0 ?k0 ?a1 ?l1 ?c1 ?k1 ?a2 ?l2 ?c2 ?k2 ?a3 ?l3 ?c3 ?k3 ?a4 ?l4 ?c4 ?k4 ?a5 ?l5 ?c5 ?k5 ?a6 ?l6 ?c6 ?k6 ?a7 ?l7 ?c7 ?k7 ?a8 ?l8 ?c8 ?k8 ?a9 ?l9 ?c9 ?k9 ?a10 ?l10 ?c10 ?k10 ?a11 ?l11 ?c11 ?k11 ?a12 ?l12 ?c12 ?k12 ?a13 ?l13 ?c13 ?k13 ?a14 ?l14 ?c14 ?k14 ?a15 ?l15 ?c15 ?k15 ?q0 ?o0 ?p0 ?h0 ?n0 ?r0 ?q4 ?o4 ?p4 ?h4 ?n4 ?r4 ?ea0 ?eb0 ?ek0 ?es0 ?et0 ?ec0_0 ?ec0_1 ?ec0_2 ?ec0_3 ?ec0_4 ?ec0_7 ?ecx5 ?ecx6 ?ta0 ?tm0_0 ?ya0 ?yk0_NoneType ?yk0_bool ?yk0_int ?yk0_str ?yk0_tuple ?yk0_list ?yk0_dict ?yx0_0 ?ya1 ?yk1_NoneType ?yk1_bool ?yk1_int ?yk1_str ?yk1_tuple ?yk1_list ?yk1_dict ?yx1_0 ?ya2 ?yk2_NoneType ?yk2_bool ?yk2_int ?yk2_str ?yk2_tuple ?yk2_list ?yk2_dict ?yx2_0 ?ya3 ?yk3_NoneType ?yk3_bool ?yk3_int ?yk3_str ?yk3_tuple ?yk3_list ?yk3_dict ?yx3_0 ?ya4 ?yk4_NoneType ?yk4_bool ?yk4_int ?yk4_str ?yk4_tuple ?yk4_list ?yk4_dict ?yx4_0 ?ya5 ?yk5_NoneType ?yk5_bool ?yk5_int ?yk5_str ?yk5_tuple ?yk5_list ?yk5_dict ?yx5_0 ?ya6 ?yk6_NoneType ?yk6_bool ?yk6_int ?yk6_str ?yk6_tuple ?yk6_list ?yk6_dict ?yx6_0 ?ya7 ?yk7_NoneType ?yk7_bool ?yk7_int ?yk7_str ?yk7_tuple ?yk7_list ?yk7_dict ?yx7_0 ?ya8 ?yk8_NoneType ?yk8_bool ?yk8_int ?yk8_str ?yk8_tuple ?yk8_list ?yk8_dict ?yx8_0 ?ya9 ?yk9_NoneType ?yk9_bool ?yk9_int ?yk9_str ?yk9_tuple ?yk9_list ?yk9_dict ?yx9_0 ?ya10 ?yk10_NoneType ?yk10_bool ?yk10_int ?yk10_str ?yk10_tuple ?yk10_list ?yk10_dict ?yx10_0 ?ya11 ?yk11_NoneType ?yk11_bool ?yk11_int ?yk11_str ?yk11_tuple ?yk11_list ?yk11_dict ?yx11_0 ?ya12 ?yk12_NoneType ?yk12_bool ?yk12_int ?yk12_str ?yk12_tuple ?yk12_list ?yk12_dict ?yx12_0 ?ya13 ?yk13_NoneType ?yk13_bool ?yk13_int ?yk13_str ?yk13_tuple ?yk13_list ?yk13_dict ?yx13_0 ?ya14 ?yk14_NoneType ?yk14_bool ?yk14_int ?yk14_str ?yk14_tuple ?yk14_list ?yk14_dict ?yx14_0 ?ya15 ?yk15_NoneType ?yk15_bool ?yk15_int ?yk15_str ?yk15_tuple ?yk15_list ?yk15_dict ?yx15_0 ?ya16 ?yk16_NoneType ?yk16_bool ?yk16_int ?yk16_str ?yk16_tuple ?yk16_list ?yk16_dict ?yx16_0 ?ya17 ?yk17_NoneType ?yk17_bool ?yk17_int ?yk17_str ?yk17_tuple ?yk17_list ?yk17_dict ?yx17_0 ?ya18 ?yk18_NoneType ?yk18_bool ?yk18_int ?yk18_str ?yk18_tuple ?yk18_list ?yk18_dict ?yx18_0 ?ga0 ?ga1 ?ga2 ?gl2 ?gz2 ?gv2 ?z0 ?z1 ?z2 ?z3 ?z4 ?z5 ?z6 ?z7 ?z8 ?z9 ?z10 ?z11 hown K01.hlaw
    case a0 => k_is
    case l0 => k_is
    case c0 => k_is
    case k0 => k_is
    case a1 => k_is
    case l1 => k_is
    case c1 => k_is
    case k1 => k_is
    case a2 => k_is
    case l2 => k_is
    case c2 => k_is
    case k2 => k_is
    case a3 => k_is
    case l3 => k_is
    case c3 => k_is
    case k3 => k_is
    case a4 => k_is
    case l4 => k_is
    case c4 => k_is
    case k4 => k_is
    case a5 => k_is
    case l5 => k_is
    case c5 => k_is
    case k5 => k_is
    case a6 => k_is
    case l6 => k_is
    case c6 => k_is
    case k6 => k_is
    case a7 => k_is
    case l7 => k_is
    case c7 => k_is
    case k7 => k_is
    case a8 => k_is
    case l8 => k_is
    case c8 => k_is
    case k8 => k_is
    case a9 => k_is
    case l9 => k_is
    case c9 => k_is
    case k9 => k_is
    case a10 => k_is
    case l10 => k_is
    case c10 => k_is
    case k10 => k_is
    case a11 => k_is
    case l11 => k_is
    case c11 => k_is
    case k11 => k_is
    case a12 => k_is
    case l12 => k_is
    case c12 => k_is
    case k12 => k_is
    case a13 => k_is
    case l13 => k_is
    case c13 => k_is
    case k13 => k_is
    case a14 => k_is
    case l14 => k_is
    case c14 => k_is
    case k14 => k_is
    case a15 => k_is
    case l15 => k_is
    case c15 => k_is
    case k15 => k_is
    case q0 => first | k_is | rfl | decide +kernel
    case o0 => first | k_is | rfl | decide +kernel
    case p0 => first | k_is | rfl | decide +kernel
    case h0 => first | k_is | rfl | decide +kernel
    case n0 => first | k_is | rfl | decide +kernel
    case r0 => first | k_is | rfl | decide +kernel
    case q4 => first | k_is | rfl | decide +kernel
    case o4 => first | k_is | rfl | decide +kernel
    case p4 => first | k_is | rfl | decide +kernel
    case h4 => first | k_is | rfl | decide +kernel
    case n4 => first | k_is | rfl | decide +kernel
    case r4 => first | k_is | rfl | decide +kernel
    case ea0 => k_is
    case eb0 => k_exc
    case ek0 => k_is
    case es0 => k_is
    case et0 => k_is
    case ec0_0 => k_is
    case ec0_1 => k_is
    case ec0_2 => k_is
    case ec0_3 => k_is
    case ec0_4 => k_is
    case ec0_7 => k_is
    case ecx5 => k_is
    case ecx6 => k_is
    case ta0 => k_is
    case tm0_0 => kts_exm
    case ya0 => k_is
    case yk0_NoneType => kit_is
    case yk0_bool => kit_is
    case yk0_int => kit_is
    case yk0_str => kit_is
    case yk0_tuple => kit_is
    case yk0_list => kit_is
    case yk0_dict => kit_is
    case yx0_0 => kit_is
    case ya1 => k_is
    case yk1_NoneType => kit_is
    case yk1_bool => kit_is
    case yk1_int => kit_is
    case yk1_str => kit_is
    case yk1_tuple => kit_is
    case yk1_list => kit_is
    case yk1_dict => kit_is
    case yx1_0 => kit_is
    case ya2 => k_is
    case yk2_NoneType => kit_is
    case yk2_bool => kit_is
    case yk2_int => kit_is
    case yk2_str => kit_is
    case yk2_tuple => kit_is
    case yk2_list => kit_is
    case yk2_dict => kit_is
    case yx2_0 => kit_is
    case ya3 => k_is
    case yk3_NoneType => kit_is
    case yk3_bool => kit_is
    case yk3_int => kit_is
    case yk3_str => kit_is
    case yk3_tuple => kit_is
    case yk3_list => kit_is
    case yk3_dict => kit_is
    case yx3_0 => kit_is
    case ya4 => k_is
    case yk4_NoneType => kit_is
    case yk4_bool => kit_is
    case yk4_int => kit_is
    case yk4_str => kit_is
    case yk4_tuple => kit_is
    case yk4_list => kit_is
    case yk4_dict => kit_is
    case yx4_0 => kit_is
    case ya5 => k_is
    case yk5_NoneType => kit_is
    case yk5_bool => kit_is
    case yk5_int => kit_is
    case yk5_str => kit_is
    case yk5_tuple => kit_is
    case yk5_list => kit_is
    case yk5_dict => kit_is
    case yx5_0 => kit_is
    case ya6 => k_is
    case yk6_NoneType => kit_is
    case yk6_bool => kit_is
    case yk6_int => kit_is
    case yk6_str => kit_is
    case yk6_tuple => kit_is
    case yk6_list => kit_is
    case yk6_dict => kit_is
    case yx6_0 => kit_is
    case ya7 => k_is
    case yk7_NoneType => kit_is
    case yk7_bool => kit_is
    case yk7_int => kit_is
    case yk7_str => kit_is
    case yk7_tuple => kit_is
    case yk7_list => kit_is
    case yk7_dict => kit_is
    case yx7_0 => kit_is
    case ya8 => k_is
    case yk8_NoneType => kit_is
    case yk8_bool => kit_is
    case yk8_int => kit_is
    case yk8_str => kit_is
    case yk8_tuple => kit_is
    case yk8_list => kit_is
    case yk8_dict => kit_is
    case yx8_0 => kit_is
    case ya9 => k_is
    case yk9_NoneType => kit_is
    case yk9_bool => kit_is
    case yk9_int => kit_is
    case yk9_str => kit_is
    case yk9_tuple => kit_is
    case yk9_list => kit_is
    case yk9_dict => kit_is
    case yx9_0 => kit_is
    case ya10 => k_is
    case yk10_NoneType => kit_is
    case yk10_bool => kit_is
    case yk10_int => kit_is
    case yk10_str => kit_is
    case yk10_tuple => kit_is
    case yk10_list => kit_is
    case yk10_dict => kit_is
    case yx10_0 => kit_is
    case ya11 => k_is
    case yk11_NoneType => kit_is
    case yk11_bool => kit_is
    case yk11_int => kit_is
    case yk11_str => kit_is
    case yk11_tuple => kit_is
    case yk11_list => kit_is
    case yk11_dict => kit_is
    case yx11_0 => kit_is
    case ya12 => k_is
    case yk12_NoneType => kit_is
    case yk12_bool => kit_is
    case yk12_int => kit_is
    case yk12_str => kit_is
    case yk12_tuple => kit_is
    case yk12_list => kit_is
    case yk12_dict => kit_is
    case yx12_0 => kit_is
    case ya13 => k_is
    case yk13_NoneType => kit_is
    case yk13_bool => kit_is
    case yk13_int => kit_is
    case yk13_str => kit_is
    case yk13_tuple => kit_is
    case yk13_list => kit_is
    case yk13_dict => kit_is
    case yx13_0 => kit_is
    case ya14 => k_is
    case yk14_NoneType => kit_is
    case yk14_bool => kit_is
    case yk14_int => kit_is
    case yk14_str => kit_is
    case yk14_tuple => kit_is
    case yk14_list => kit_is
    case yk14_dict => kit_is
    case yx14_0 => kit_is
    case ya15 => k_is
    case yk15_NoneType => kit_is
    case yk15_bool => kit_is
    case yk15_int => kit_is
    case yk15_str => kit_is
    case yk15_tuple => kit_is
    case yk15_list => kit_is
    case yk15_dict => kit_is
    case yx15_0 => kit_is
    case ya16 => k_is
    case yk16_NoneType => kit_is
    case yk16_bool => kit_is
    case yk16_int => kit_is
    case yk16_str => kit_is
    case yk16_tuple => kit_is
    case yk16_list => kit_is
    case yk16_dict => kit_is
    case yx16_0 => kit_is
    case ya17 => k_is
    case yk17_NoneType => kit_is
    case yk17_bool => kit_is
    case yk17_int => kit_is
    case yk17_str => kit_is
    case yk17_tuple => kit_is
    case yk17_list => kit_is
    case yk17_dict => kit_is
    case yx17_0 => kit_is
    case ya18 => k_is
    case yk18_NoneType => kit_is
    case yk18_bool => kit_is
    case yk18_int => kit_is
    case yk18_str => kit_is
    case yk18_tuple => kit_is
    case yk18_list => kit_is
    case yk18_dict => kit_is
    case yx18_0 => kit_is
    case ga0 => k_is
    case ga1 => k_is
    case ga2 => k_is
    case gl2 => first | k_is | rfl | decide +kernel
    case gz2 => decide
    case gv2 => exact .cons ⟨_, rfl⟩ (.cons ⟨_, rfl⟩ (.cons ⟨_, rfl⟩ (.cons ⟨_, rfl⟩ (.cons ⟨_, rfl⟩ (.cons ⟨_, rfl⟩ (.cons ⟨_, rfl⟩ (.cons ⟨_, rfl⟩ (.cons ⟨_, rfl⟩ (.cons ⟨_, rfl⟩ (.cons ⟨_, rfl⟩ (.cons ⟨_, rfl⟩ (.cons ⟨_, rfl⟩ (.cons ⟨_, rfl⟩ (.nil))))))))))))))
    case z0 => k_is
    case z1 => k_is
    case z2 => k_is
    case z3 => k_is
    case z4 => k_is
    case z5 => k_is
    case z6 => k_is
    case z7 => k_is
    case z8 => k_is
    case z9 => k_is
    case z10 => k_is
    case z11 => k_is

