import PyProof.Rows.All
import Wide.All
import OpenK.AllK
import Wide.FinOn
import HandS.ForMost
import HandS.ForExc
import HandS.Wide
import HandS.Gcd
import HandS.IsInst
import HandS.TryMany
import HandS.Small
import HandS.Style
import HandS.ExcIs
import HandS.CallLocal
import HandS.Zip
import HandS.Flow
import HandS.Conv
import HandS.Defaults
import HandS.HeadHook2
import HandS.HeadEnd
import HandS.Head2
import KE.KStateDown
import HandS.Codes
import HandS.Words
import HandS.WordsExc
import HandS.Head0
import HandS.Head1
import PySem.Challenge.RW_glidenames_k01_whole_fractions_by_own_re
set_option Elab.async false
set_option linter.all false
/-! Ev, part A: data, an own small language over it, and what it evaluates to. -/
namespace Ev
open PySem L2

/-- data, by value; loc: a list that may change, by its number in the store; scr: the script -/
inductive D where
  | non | bl (b : Bool) | int (i : Int) | str (x : Str) | tup (xs : List D) | lst (xs : List D)
  | loc (n : Nat) | fn (f : Nat) | scr (ns : List Int) | exc (c : Nat)
deriving Inhabited

abbrev Sto := List (Option (List D))
abbrev Lenv := List (Option D)

mutual
/-- every changing list in it has a number less than n; no exception in it -/
def D.fits (n : Nat) : D → Bool
  | .tup xs => D.fitsL n xs
  | .lst xs => D.fitsL n xs
  | .loc m => decide (m < n)
  | .exc _ => false
  | _ => true
def D.fitsL (n : Nat) : List D → Bool
  | [] => true
  | x :: xs => D.fits n x && D.fitsL n xs
end

mutual
/-- as the library's data -/
def D.py : D → Option PyData
  | .non => some .none
  | .bl b => some (.bool b)
  | .int i => some (.int i)
  | .str x => some (.str x)
  | .tup xs => (D.pys xs).map .tuple
  | .lst xs => (D.pys xs).map .list
  | _ => none
def D.pys : List D → Option (List PyData)
  | [] => some []
  | x :: xs => match D.py x, D.pys xs with
    | some d, some ds => some (d :: ds)
    | _, _ => none
end

def big : Nat := 16777216

/-- a computation's end: a value and the store; an error of the class c; or no word -/
inductive Out (α : Type) where
  | ok (a : α) (S : Sto) | err (c : Nat) (S : Sto) | bad
def Out.bind {α β : Type} (o : Out α) (f : α → Sto → Out β) : Out β := match o with
  | .ok a S => f a S
  | .err c S => .err c S
  | .bad => .bad
theorem Out.bind_assoc {α β γ : Type} (o : Out α) (f : α → Sto → Out β) (g : β → Sto → Out γ) : (o.bind f).bind g = o.bind fun a S => (f a S).bind g := by cases o <;> rfl
def lift {α : Type} (o : Option α) (S : Sto) : Out α := match o with
  | some a => .ok a S
  | none => .bad

inductive Op where | add | sub | mul | fdiv | mod | pow
deriving DecidableEq
inductive Cp where | eq | ne | lt | le | gt | ge
deriving DecidableEq
inductive Ty where | int | bool | str | list | tuple
deriving DecidableEq
inductive B1 where | len | abs | int | all | any | sum | list | tuple | gcd | min2 | max2
deriving DecidableEq

def mulOk (i j : Int) : Bool := (decide (-(2 ^ 64) < i) && decide (i < 2 ^ 64)) || (decide (-(2 ^ 64) < j) && decide (j < 2 ^ 64)) || decide (i.natAbs.log2 + j.natAbs.log2 < 1000000)
def divOk (j : Int) : Bool := decide (j ≠ 0) && decide (j.natAbs.log2 < 9000)
def powOk (i j : Int) : Bool := decide (0 ≤ j) && decide (j ≤ 1000000) && decide (i.natAbs < 2 ^ 64)

def opD : Op → D → D → Option D
  | .add, .int i, .int j => some (.int (i + j))
  | .add, .lst xs, .lst ys => if xs.length + ys.length ≤ big then some (.lst (xs ++ ys)) else none
  | .sub, .int i, .int j => some (.int (i - j))
  | .mul, .int i, .int j => if mulOk i j then some (.int (i * j)) else none
  | .mul, .lst xs, .int k => if decide (-(2 ^ 63) ≤ k) && decide (k < 2 ^ 63) && decide (xs.length * k.toNat ≤ big) then some (.lst (List.replicate k.toNat xs).flatten) else none
  | .fdiv, .int i, .int j => if divOk j then some (.int (i.fdiv j)) else none
  | .mod, .int i, .int j => if decide (j ≠ 0) then some (.int (i.fmod j)) else none
  | .pow, .int i, .int j => if powOk i j then some (.int (i ^ j.toNat)) else none
  | _, _, _ => none

def eqD (x y : D) : Option Bool := match x.py, y.py with
  | some d, some e => if SeqAt.shaped d && SeqAt.shaped e then some (PyData.eqv d e) else none
  | _, _ => none
def cpD : Cp → D → D → Option Bool
  | .eq, x, y => eqD x y
  | .ne, x, y => (eqD x y).map (!·)
  | .lt, .int i, .int j => some (decide (i < j))
  | .le, .int i, .int j => some (decide (i ≤ j))
  | .gt, .int i, .int j => some (decide (j < i))
  | .ge, .int i, .int j => some (decide (j ≤ i))
  | _, _, _ => none

def tyD : D → Option String
  | .non => some "NoneType"
  | .bl _ => some "bool"
  | .int _ => some "int"
  | .str _ => some "str"
  | .tup _ => some "tuple"
  | .lst _ => some "list"
  | _ => none
def isTy (t : String) : Ty → Bool
  | .int => t == "int" || t == "bool"
  | .bool => t == "bool"
  | .str => t == "str"
  | .list => t == "list"
  | .tuple => t == "tuple"
def isiD (x : D) (ts : List Ty) : Option Bool := (tyD x).map fun t => ts.any (isTy t)

/-- truth -/
def truD (S : Sto) : D → Option Bool
  | .non => some false
  | .bl b => some b
  | .int i => some (i != 0)
  | .tup xs => some (!xs.isEmpty)
  | .lst xs => some (!xs.isEmpty)
  | .loc n => match S[n]? with
    | some (some xs) => some (!xs.isEmpty)
    | _ => none
  | _ => none

def intsD : List D → Option (List Int)
  | [] => some []
  | .int i :: r => (intsD r).map (i :: ·)
  | _ => none
def blsD : List D → Option (List Bool)
  | [] => some []
  | .bl i :: r => (blsD r).map (i :: ·)
  | _ => none

def b1D : B1 → List D → Sto → Option D
  | .len, [.tup xs], _ => some (.int xs.length)
  | .len, [.lst xs], _ => some (.int xs.length)
  | .len, [.scr xs], _ => some (.int xs.length)
  | .len, [.loc n], S => match S[n]? with
    | some (some xs) => some (.int xs.length)
    | _ => none
  | .abs, [.int i], _ => some (.int (if i < 0 then -i else i))
  | .int, [.int i], _ => some (.int i)
  | .int, [.bl b], _ => some (.int (if b then 1 else 0))
  | .all, [.lst xs], _ => (blsD xs).map fun bs => .bl (bs.all id)
  | .any, [.lst xs], _ => (blsD xs).map fun bs => .bl (bs.any id)
  | .sum, [.lst xs], _ => (intsD xs).map fun ns => .int ns.sum
  | .list, [.tup xs], _ => some (.lst xs)
  | .list, [.lst xs], _ => some (.lst xs)
  | .tuple, [.tup xs], _ => some (.tup xs)
  | .tuple, [.lst xs], _ => some (.tup xs)
  | .tuple, [.loc n], S => match S[n]? with
    | some (some xs) => some (.tup xs)
    | _ => none
  | .gcd, [.int i, .int j], _ => some (.int ((Nat.gcd i.natAbs j.natAbs : Nat) : Int))
  | .min2, [.int i, .int j], _ => some (.int (if j < i then j else i))
  | .max2, [.int i, .int j], _ => some (.int (if j > i then j else i))
  | _, _, _ => none

def ixD (x k : D) (S : Sto) : Option D := match x, k with
  | .tup xs, .int i => atI xs i
  | .lst xs, .int i => atI xs i
  | .scr xs, .int i => (atI xs i).map .int
  | .loc n, .int i => match S[n]? with
    | some (some xs) => atI xs i
    | _ => none
  | _, _ => none

def cutD {α : Type} (xs : List α) (lo hi : Option Int) : List α := (xs.drop (HT.sIx xs.length 0 lo)).take (HT.sIx xs.length xs.length hi - HT.sIx xs.length 0 lo)
def slD (x : D) (lo hi : Option Int) : Option D := match x with
  | .lst xs => some (.lst (cutD xs lo hi))
  | .scr xs => some (.lst ((cutD xs lo hi).map .int))
  | .tup xs => if HT.sIx xs.length 0 lo = 0 ∧ HT.sIx xs.length xs.length hi = xs.length then none else some (.tup (cutD xs lo hi))
  | _ => none

/-- what a for takes apart -/
inductive Tg where
  | n (i : Nat) | t (ts : List Nat)
def setAll : List Nat → List D → Lenv → Option Lenv
  | [], [], e => some e
  | i :: is, d :: ds, e => setAll is ds (e.set i (some d))
  | _, _, _ => none
def Tg.set (t : Tg) (d : D) (e : Lenv) : Option Lenv := match t with
  | .n i => some (e.set i (some d))
  | .t ts => match d with
    | .tup xs => setAll ts xs e
    | .lst xs => setAll ts xs e
    | _ => none

inductive E where
  | cst (d : D) | var (i : Nat) | gfn (f : Nat)
  | op (o : Op) (a b : E) | neg (a : E) | not (a : E)
  | cmp (c : Cp) (a b : E) | isn (a : E) (no : Bool)
  | and (a b : E) | or (a b : E) | one (a : E)
  | ite (c a b : E)
  | call (f : Nat) (as : E) | callk (f : Nat) (as : E) (ix : List Nat) (ks : E) | callv (i : Nat) (as : E)
  | blt (b : B1) (as : E) | isi (a : E) (ts : List Ty)
  | idx (a b : E) | sl (a lo hi : E)
  | tup (as : E) | lst (as : E) | loc (as : E) | locL (a : E) | frz (a : E) | locC (a b : E) | isx (i k : Nat)
  | app (i : Nat) (a : E) | pop (i : Nat) (a : E)
  | comp (elt : E) (own : List Nat) (t : Tg) (it c : E)
  | rng (a : E) | rng2 (a b : E) | enum (a : E) | zip (a b : E)
  | nil | cons (a r : E)

def popD (xs : List D) (k : D) : Option (D × List D) := match k with
  | .int k => match seqIndex? k xs.length with
    | some j => match xs[j]? with
      | some y => if decide (-(2 ^ 63) ≤ k) && decide (k < 2 ^ 63) then some (y, xs.eraseIdx j) else none
      | none => none
    | none => none
  | _ => none
structure Cl where
  call : Nat → List D → Sto → Out D
  /-- the class of an error is taken by a clause -/
  is : Nat → Nat → Bool

def wipeE (e : Lenv) : List Nat → Lenv
  | [] => e
  | v :: vs => (wipeE e vs).set v none

/-- the turns of a comprehension; nothing may be raised in them -/
def compL (el cd : Lenv → Sto → Out D) (t : Tg) (e : Lenv) : List D → Sto → Out (List D)
  | [], S => .ok [] S
  | d :: ds, S => match t.set d e with
    | none => .bad
    | some e' => match cd e' S with
      | .ok c S1 => match truD S1 c with
        | some true => match el e' S1 with
          | .ok y S2 => match compL el cd t e ds S2 with
            | .ok ys S3 => .ok (y :: ys) S3
            | _ => .bad
          | _ => .bad
        | some false => compL el cd t e ds S1
        | none => .bad
      | _ => .bad

def itD : D → Option (List D)
  | .tup xs => some xs
  | .lst xs => some xs
  | _ => none

def E.isNon : E → Bool
  | .cst .non => true
  | _ => false
def oD (n : Bool) : D → Sto → Out D
  | .int i, S => if n then .bad else .ok (.int i) S
  | .non, S => if n then .ok .non S else .bad
  | _, _ => .bad
def sArg : D → Option (Option Int)
  | .non => some none
  | .int i => some (some i)
  | _ => none

/-- positional values, and those by keyword at the places ix -/
def mixA (vs : List D) (ix : List Nat) (ws : List D) : List D :=
  (List.range (vs.length + ws.length)).map fun k => if k < vs.length then vs.getD k .non else ws.getD (ix.idxOf k) .non

mutual
def evE (C : Cl) : E → Lenv → Sto → Out D
  | .cst d, _, S => .ok d S
  | .var i, e, S => lift (e.getD i none) S
  | .gfn f, _, S => .ok (.fn f) S
  | .op o a b, e, S => (evE C a e S).bind fun x S => (evE C b e S).bind fun y S => lift (opD o x y) S
  | .neg a, e, S => (evE C a e S).bind fun x S => match x with
    | .int i => .ok (.int (-i)) S
    | _ => .bad
  | .not a, e, S => (evE C a e S).bind fun x S => lift ((truD S x).map fun b => .bl (!b)) S
  | .cmp c a b, e, S => (evE C a e S).bind fun x S => (evE C b e S).bind fun y S => lift ((cpD c x y).map .bl) S
  | .isn a no, e, S => (evE C a e S).bind fun x S => match x with
    | .non => .ok (.bl (!no)) S
    | .loc _ => .bad
    | _ => .ok (.bl no) S
  | .and a b, e, S => (evE C a e S).bind fun x S => match truD S x with
    | some true => evE C b e S
    | some false => .ok x S
    | none => .bad
  | .or a b, e, S => (evE C a e S).bind fun x S => match truD S x with
    | some true => .ok x S
    | some false => evE C b e S
    | none => .bad
  | .one a, e, S => evE C a e S
  | .ite c a b, e, S => (evE C c e S).bind fun x S => match truD S x with
    | some true => evE C a e S
    | some false => evE C b e S
    | none => .bad
  | .call f as, e, S => (evA C as e S).bind fun vs S => C.call f vs S
  | .callk f as ix ks, e, S => (evA C as e S).bind fun vs S => (evA C ks e S).bind fun ws S => C.call f (mixA vs ix ws) S
  | .callv i as, e, S => match e.getD i none with
    | some (.fn f) => (evA C as e S).bind fun vs S => C.call f vs S
    | _ => .bad
  | .blt b as, e, S => (evA C as e S).bind fun vs S => lift (b1D b vs S) S
  | .isi a ts, e, S => (evE C a e S).bind fun x S => lift ((isiD x ts).map .bl) S
  | .idx a b, e, S => (evE C a e S).bind fun x S => (evE C b e S).bind fun y S => lift (ixD x y S) S
  | .sl a lo hi, e, S => (evE C a e S).bind fun x S => ((evE C lo e S).bind (oD lo.isNon)).bind fun l S => ((evE C hi e S).bind (oD hi.isNon)).bind fun h S => match sArg l, sArg h with
    | some l, some h => lift (slD x l h) S
    | _, _ => .bad
  | .tup as, e, S => (evA C as e S).bind fun vs S => if vs.length ≤ big then .ok (.tup vs) S else .bad
  | .lst as, e, S => (evA C as e S).bind fun vs S => if vs.length ≤ big then .ok (.lst vs) S else .bad
  | .loc as, e, S => (evA C as e S).bind fun vs S => if vs.length ≤ big && D.fitsL S.length vs then .ok (.loc S.length) (S ++ [some vs]) else .bad
  | .locL a, e, S => (evE C a e S).bind fun x S => match b1D .list [x] S with
    | some (.lst vs) => if D.fitsL S.length vs then .ok (.loc S.length) (S ++ [some vs]) else .bad
    | _ => .bad
  | .frz a, e, S => (evE C a e S).bind fun x S => match x with
    | .loc n => match S[n]? with
      | some (some xs) => .ok (.lst xs) (S.set n none)
      | _ => .bad
    | _ => .bad
  | .locC a b, e, S => (evE C a e S).bind fun x S => (evE C b e S).bind fun y S => match opD .add x y with
    | some (.lst vs) => if D.fitsL S.length vs then .ok (.loc S.length) (S ++ [some vs]) else .bad
    | _ => .bad
  | .isx i k, e, S => match e.getD i none with
    | some (.exc c) => .ok (.bl (C.is c k)) S
    | _ => .bad
  | .app i a, e, S => match e.getD i none with
    | some (.loc n) => match S[n]? with
      | some (some _) => (evE C a e S).bind fun x S => match S[n]? with
        | some (some xs) => if xs.length < big && D.fits n x then .ok .non (S.set n (some (xs ++ [x]))) else .bad
        | _ => .bad
      | _ => .bad
    | _ => .bad
  | .pop i a, e, S => match e.getD i none with
    | some (.loc n) => match S[n]? with
      | some (some _) => (evE C a e S).bind fun x S => match S[n]? with
        | some (some xs) => match popD xs x with
          | some (y, ys) => .ok y (S.set n (some ys))
          | none => .bad
        | _ => .bad
      | _ => .bad
    | _ => .bad
  | .comp elt own t it c, e, S => (evI C it e S).bind fun xs S => if xs.length ≤ big then (compL (evE C elt) (evE C c) t (wipeE e own) xs S).bind fun ys S => .ok (.lst ys) S else .bad
  | _, _, _ => .bad
def evA (C : Cl) : E → Lenv → Sto → Out (List D)
  | .nil, _, S => .ok [] S
  | .cons a r, e, S => (evE C a e S).bind fun x S => (evA C r e S).bind fun xs S => .ok (x :: xs) S
  | _, _, _ => .bad
/-- what a for or a comprehension walks -/
def evI (C : Cl) : E → Lenv → Sto → Out (List D)
  | .rng a, e, S => (evE C a e S).bind fun x S => match x with
    | .int n => if decide (-(2 ^ 62) ≤ n) && decide (n < 2 ^ 62) then .ok ((List.range n.toNat).map fun (k : Nat) => .int (0 + (k : Int))) S else .bad
    | _ => .bad
  | .rng2 a b, e, S => (evE C a e S).bind fun x S => (evE C b e S).bind fun y S => match x, y with
    | .int m, .int n => if decide (-(2 ^ 62) ≤ m) && decide (m < 2 ^ 62) && decide (-(2 ^ 62) ≤ n) && decide (n < 2 ^ 62) then .ok ((List.range (n - m).toNat).map fun (k : Nat) => .int (m + (k : Int))) S else .bad
    | _, _ => .bad
  | .enum a, e, S => (evE C a e S).bind fun x S => match x with
    | .lst xs => .ok ((List.range xs.length).map fun (k : Nat) => .tup [.int k, xs.getD k .non]) S
    | _ => .bad
  | .zip a b, e, S => (evE C a e S).bind fun x S => (evE C b e S).bind fun y S => match x, y with
    | .lst xs, .lst ys => .ok ((xs.zip ys).map fun p => .tup [p.1, p.2]) S
    | .tup xs, .tup ys => .ok ((xs.zip ys).map fun p => .tup [p.1, p.2]) S
    | _, _ => .bad
  | .one a, e, S => (evE C a e S).bind fun x S => lift (itD x) S
  | _, _, _ => .bad
end

def augD : Op → D → D → Option D
  | .add, .int p, .int q => some (.int (p + q))
  | .sub, .int p, .int q => some (.int (p - q))
  | _, _, _ => none
/-! ### statements -/
inductive Sm where
  | nil | cons (a r : Sm)
  | ret (a : E) | set (i : Nat) (a : E) | asg (ts : List Nat) (a : E) | par (i j : Nat) (a b : E) | par3 (i j l : Nat) (a b c : E)
  | setI (i : Nat) (k a : E) | aug (i : Nat) (o : Op) (a : E)
  | ex (a : E) | ite (c : E) (a b : Sm) | for_ (t : Tg) (it : E) (b : Sm) | whl (c : E) (b : Sm) | brk | cnt | pass
  | raise (c : Nat) | try_ (b hs : Sm) | hnil | hcons (k : Nat) (i : Option Nat) (b r : Sm)

inductive OutS where
  | nx (e : Lenv) (S : Sto) | rt (d : D) (S : Sto) | bk (e : Lenv) (S : Sto) | ct (e : Lenv) (S : Sto) | err (c : Nat) (e : Lenv) (S : Sto) | bad

def Out.toS (o : Out D) (e : Lenv) (f : D → Sto → OutS) : OutS := match o with
  | .ok d S => f d S
  | .err c S => .err c e S
  | .bad => .bad

def forL (b : Lenv → Sto → OutS) (t : Tg) : List D → Lenv → Sto → OutS
  | [], e, S => .nx e S
  | d :: ds, e, S => match t.set d e with
    | none => .bad
    | some e' => match b e' S with
      | .nx e2 S2 => forL b t ds e2 S2
      | .ct e2 S2 => forL b t ds e2 S2
      | .bk e2 S2 => .nx e2 S2
      | .rt d S2 => .rt d S2
      | .err c e2 S2 => .err c e2 S2
      | .bad => .bad
def whlL (c : Lenv → Sto → Out D) (b : Lenv → Sto → OutS) : Nat → Lenv → Sto → OutS
  | 0, _, _ => .bad
  | n + 1, e, S => match c e S with
    | .ok x S1 => match truD S1 x with
      | some true => match b e S1 with
        | .nx e2 S2 => whlL c b n e2 S2
        | .ct e2 S2 => whlL c b n e2 S2
        | .bk e2 S2 => .nx e2 S2
        | .rt d S2 => .rt d S2
        | .err c e2 S2 => .err c e2 S2
        | .bad => .bad
      | some false => .nx e S1
      | none => .bad
    | .err k S1 => .err k e S1
    | .bad => .bad

def fuel : Nat := 100000

/-- what a suite that took an exception leaves: no exception in it -/
def outH : OutS → OutS
  | .rt d S => if d.fits S.length then .rt d S else .bad
  | .nx e S => if e.all (fun o => match o with | some d => d.fits S.length | none => true) then .nx e S else .bad
  | _ => .bad
/-- its name gone -/
def unsl (i : Nat) : OutS → OutS
  | .nx e S => .nx (e.set i none) S
  | o => o

mutual
def evS (C : Cl) : Sm → Lenv → Sto → OutS
  | .nil, e, S => .nx e S
  | .cons a r, e, S => match evS C a e S with
    | .nx e2 S2 => evS C r e2 S2
    | o => o
  | .ret a, e, S => (evE C a e S).toS e fun d S => .rt d S
  | .set i a, e, S => (evE C a e S).toS e fun d S => .nx (e.set i (some d)) S
  | .asg ts a, e, S => (evE C a e S).toS e fun d S => match d with
    | .tup xs => match setAll ts xs e with
      | some e2 => .nx e2 S
      | none => .bad
    | .lst xs => match setAll ts xs e with
      | some e2 => .nx e2 S
      | none => .bad
    | _ => .bad
  | .par i j a b, e, S => (evE C a e S).toS e fun x S => (evE C b e S).toS e fun y S => .nx ((e.set i (some x)).set j (some y)) S
  | .par3 i j l a b c, e, S => (evE C a e S).toS e fun x S => (evE C b e S).toS e fun y S => (evE C c e S).toS e fun z S => .nx (((e.set i (some x)).set j (some y)).set l (some z)) S
  | .setI i k a, e, S => (evE C a e S).toS e fun x S => match e.getD i none with
    | some (.loc n) => (evE C k e S).toS e fun k S => match S[n]?, k with
      | some (some xs), .int k => match ixN xs.length k with
        | some j => if D.fits n x then .nx e (S.set n (some (xs.set j x))) else .bad
        | none => .bad
      | _, _ => .bad
    | _ => .bad
  | .aug i o a, e, S => match e.getD i none with
    | some x => (evE C a e S).toS e fun y S => match augD o x y with
      | some z => .nx (e.set i (some z)) S
      | none => .bad
    | none => .bad
  | .ex a, e, S => (evE C a e S).toS e fun _ S => .nx e S
  | .ite c a b, e, S => (evE C c e S).toS e fun x S => match truD S x with
    | some true => evS C a e S
    | some false => evS C b e S
    | none => .bad
  | .for_ t it b, e, S => match evI C it e S with
    | .ok xs S1 => forL (evS C b) t xs e S1
    | .err c S1 => .err c e S1
    | .bad => .bad
  | .whl c b, e, S => whlL (evE C c) (evS C b) fuel e S
  | .brk, e, S => .bk e S
  | .cnt, e, S => .ct e S
  | .pass, e, S => .nx e S
  | .raise c, e, S => .err c e S
  | .try_ b hs, e, S => match evS C b e S with
    | .err c e2 S2 => evH C hs c e2 S2
    | o => o
  | .hnil, _, _ => .bad
  | .hcons _ _ _ _, _, _ => .bad
def evH (C : Cl) : Sm → Nat → Lenv → Sto → OutS
  | .hnil, c, e, S => .err c e S
  | .hcons k i b r, c, e, S => if C.is c k then (match i with
      | some i => outH (unsl i (evS C b (e.set i (some (.exc c))) S))
      | none => outH (evS C b e S)) else evH C r c e S
  | _, _, _, _ => .bad
end

/-! ### defs -/
structure Fn where
  np : Nat
  nl : Nat
  body : Sm

def fin (n : Nat) (d : D) (S : Sto) : Out D := if d.fits n then .ok d (S.take n) else .ok d S
def endF (n : Nat) : OutS → Out D
  | .rt d S => fin n d S
  | .nx _ S => fin n .non S
  | .err c _ S => .err c (S.take n)
  | _ => .bad
def callN (P : List Fn) (is : Nat → Nat → Bool) : Nat → Nat → List D → Sto → Out D
  | 0, _, _, _ => .bad
  | n + 1, f, vs, S => match P[f]? with
    | none => .bad
    | some F => if vs.length = F.np then endF S.length (evS ⟨callN P is n, is⟩ F.body (vs.map some ++ List.replicate (F.nl - F.np) none) S) else .bad
end Ev

set_option Elab.async false
set_option linter.all false
set_option maxRecDepth 100000
/-! Ev, part B: how data stand in a heap. -/
namespace Ev
open PySem PySem.Spec PyProof.Rows L2

structure Tb where
  K : PySem.W.Frag
  fa : Nat → Option Addr
  ca : Nat → Addr
  xa : Nat → Addr → Prop

/-- where the changing lists stand; what else is not to be seen -/
structure Pl where
  l : List Addr
  h : Addr → Prop
def Pl.app (ρ : Pl) (p : Addr) : Pl := ⟨ρ.l ++ [p], ρ.h⟩
def Pl.cut (ρ : Pl) (n : Nat) : Pl := ⟨ρ.l.take n, ρ.h⟩
def Pl.hid (ρ : Pl) (p : Addr) : Pl := ⟨ρ.l, fun b => ρ.h b ∨ b = p⟩

mutual
/-- the data d stand as the value v in the heap H; ρ: where the changing lists stand -/
def Rep (T : Tb) (ρ : Pl) (H : Hp) : D → V → Prop
  | .non, v => v = .non
  | .bl b, v => v = .bl b
  | .int i, v => v = .int i
  | .str x, v => v = .str x
  | .tup ds, v => ∃ a vs, v = .ref a ∧ SqT T.K H a vs ∧ Reps T ρ H ds vs
  | .lst ds, v => ∃ a vs, v = .ref a ∧ H a = some (.lst vs) ∧ Reps T ρ H ds vs
  | .loc n, v => ∃ a, v = .ref a ∧ ρ.l[n]? = some a
  | .fn f, v => ∃ a, v = .ref a ∧ T.fa f = some a
  | .scr ns, v => ∃ a, v = .ref a ∧ SqL T.K H a (ns.map V.int) ∧ ns.length ≤ big
  | .exc c, v => ∃ a, v = .ref a ∧ T.xa c a
def Reps (T : Tb) (ρ : Pl) (H : Hp) : List D → List V → Prop
  | [], vs => vs = []
  | d :: ds, vs => ∃ v r, vs = v :: r ∧ Rep T ρ H d v ∧ Reps T ρ H ds r
end

theorem SqT.mono {K : PySem.W.Frag} {H H' : Hp} {a : Addr} {xs : List V} (e : Same H H') (h : SqT K H a xs) : SqT K H' a xs := by
  rcases h with (h | ⟨o, h⟩) | h
  · exact .inl (.inl (e _ _ h))
  · exact .inl (.inr ⟨o, e _ _ h⟩)
  · exact .inr h

mutual
theorem Rep.mono {T : Tb} {ρ ρ' : Pl} {H H' : Hp} (hρ : ∀ (n : Nat) (a : Addr), ρ.l[n]? = some a → ρ'.l[n]? = some a) (hs : Same H H') : ∀ (d : D) (v : V), Rep T ρ H d v → Rep T ρ' H' d v
  | .non, _, h => h
  | .bl _, _, h => h
  | .int _, _, h => h
  | .str _, _, h => h
  | .tup ds, v, h => by
    simp only [Rep] at h ⊢
    obtain ⟨a, vs, e, s, r⟩ := h
    exact ⟨a, vs, e, SqT.mono hs s, Reps.mono hρ hs ds vs r⟩
  | .lst ds, v, h => by
    simp only [Rep] at h ⊢
    obtain ⟨a, vs, e, s, r⟩ := h
    exact ⟨a, vs, e, hs _ _ s, Reps.mono hρ hs ds vs r⟩
  | .loc n, v, h => by
    simp only [Rep] at h ⊢
    obtain ⟨a, e, s⟩ := h
    exact ⟨a, e, hρ _ _ s⟩
  | .fn f, v, h => h
  | .scr ns, v, h => by
    simp only [Rep] at h ⊢
    obtain ⟨a, e, s, l⟩ := h
    exact ⟨a, e, hs.seq s, l⟩
  | .exc c, v, h => h
theorem Reps.mono {T : Tb} {ρ ρ' : Pl} {H H' : Hp} (hρ : ∀ (n : Nat) (a : Addr), ρ.l[n]? = some a → ρ'.l[n]? = some a) (hs : Same H H') : ∀ (ds : List D) (vs : List V), Reps T ρ H ds vs → Reps T ρ' H' ds vs
  | [], _, h => h
  | d :: ds, vs, h => by
    simp only [Reps] at h ⊢
    obtain ⟨v, r, e, h1, h2⟩ := h
    exact ⟨v, r, e, Rep.mono hρ hs d v h1, Reps.mono hρ hs ds r h2⟩
end

mutual
/-- data without a changing list of number n or more: ρ may be cut there -/
theorem Rep.cut {T T' : Tb} {ρ : Pl} {H : Hp} {n : Nat} (hK : T.K = T'.K) (hf : T.fa = T'.fa) : ∀ (d : D) (v : V), d.fits n = true → Rep T ρ H d v → Rep T' (ρ.cut n) H d v
  | .non, _, _, h => h
  | .bl _, _, _, h => h
  | .int _, _, _, h => h
  | .str _, _, _, h => h
  | .tup ds, v, b, h => by
    simp only [Rep, D.fits] at h b ⊢
    obtain ⟨a, vs, e, s, r⟩ := h
    exact ⟨a, vs, e, hK ▸ s, Reps.cut hK hf ds vs b r⟩
  | .lst ds, v, b, h => by
    simp only [Rep, D.fits] at h b ⊢
    obtain ⟨a, vs, e, s, r⟩ := h
    exact ⟨a, vs, e, s, Reps.cut hK hf ds vs b r⟩
  | .loc m, v, b, h => by
    simp only [Rep, D.fits, decide_eq_true_eq] at h b ⊢
    obtain ⟨a, e, s⟩ := h
    exact ⟨a, e, by unfold Pl.cut; rw [List.getElem?_take_of_lt b]; exact s⟩
  | .fn f, v, _, h => by
    simp only [Rep] at h ⊢
    rw [← hf]; exact h
  | .scr ns, v, _, h => by
    simp only [Rep] at h ⊢
    rw [← hK]; exact h
  | .exc c, v, b, h => by simp [D.fits] at b
theorem Reps.cut {T T' : Tb} {ρ : Pl} {H : Hp} {n : Nat} (hK : T.K = T'.K) (hf : T.fa = T'.fa) : ∀ (ds : List D) (vs : List V), D.fitsL n ds = true → Reps T ρ H ds vs → Reps T' (ρ.cut n) H ds vs
  | [], _, _, h => h
  | d :: ds, vs, b, h => by
    simp only [Reps, D.fitsL, Bool.and_eq_true] at h b ⊢
    obtain ⟨v, r, e, h1, h2⟩ := h
    exact ⟨v, r, e, Rep.cut hK hf d v b.1 h1, Reps.cut hK hf ds r b.2 h2⟩
end

section
variable {T : Tb} {ρ : Pl} {H : Hp}
theorem Reps.nil : Reps T ρ H [] [] := by simp [Reps]
theorem Reps.cons {d : D} {ds : List D} {v : V} {vs : List V} (h : Rep T ρ H d v) (hs : Reps T ρ H ds vs) : Reps T ρ H (d :: ds) (v :: vs) := by
  simp only [Reps]; exact ⟨v, vs, rfl, h, hs⟩
theorem Reps.uncons {d : D} {ds : List D} {vs : List V} (h : Reps T ρ H (d :: ds) vs) : ∃ v r, vs = v :: r ∧ Rep T ρ H d v ∧ Reps T ρ H ds r := by
  simpa only [Reps] using h
theorem Reps.isnil {vs : List V} (h : Reps T ρ H [] vs) : vs = [] := by simpa only [Reps] using h
theorem Reps.length : ∀ {ds : List D} {vs : List V}, Reps T ρ H ds vs → vs.length = ds.length
  | [], _, h => by rw [h.isnil]; rfl
  | d :: ds, _, h => by
    obtain ⟨v, r, e, _, h2⟩ := h.uncons
    rw [e, List.length_cons, List.length_cons, h2.length]
theorem Reps.get : ∀ {ds : List D} {vs : List V} {i : Nat} {d : D}, Reps T ρ H ds vs → ds[i]? = some d → ∃ v, vs[i]? = some v ∧ Rep T ρ H d v
  | [], _, _, _, _, e => by simp at e
  | d :: ds, _, i, d', h, e => by
    obtain ⟨v, r, e1, h1, h2⟩ := h.uncons
    subst e1
    cases i with
    | zero => simp at e; subst e; exact ⟨v, rfl, h1⟩
    | succ i => exact h2.get (i := i) (by simpa using e)
theorem Reps.append : ∀ {ds es : List D} {vs ws : List V}, Reps T ρ H ds vs → Reps T ρ H es ws → Reps T ρ H (ds ++ es) (vs ++ ws)
  | [], _, _, _, h, k => by rw [h.isnil]; exact k
  | d :: ds, _, _, _, h, k => by
    obtain ⟨v, r, e1, h1, h2⟩ := h.uncons
    subst e1
    exact .cons h1 (h2.append k)
theorem Reps.take : ∀ {ds : List D} {vs : List V} (n : Nat), Reps T ρ H ds vs → Reps T ρ H (ds.take n) (vs.take n)
  | _, _, 0, _ => by simp [Reps.nil]
  | [], _, n + 1, h => by rw [h.isnil]; exact .nil
  | d :: ds, _, n + 1, h => by
    obtain ⟨v, r, e1, h1, h2⟩ := h.uncons
    subst e1
    exact .cons h1 (h2.take n)
theorem Reps.drop : ∀ {ds : List D} {vs : List V} (n : Nat), Reps T ρ H ds vs → Reps T ρ H (ds.drop n) (vs.drop n)
  | _, _, 0, h => h
  | [], _, n + 1, h => by rw [h.isnil]; exact .nil
  | d :: ds, _, n + 1, h => by
    obtain ⟨v, r, e1, h1, h2⟩ := h.uncons
    subst e1
    exact h2.drop n
theorem Reps.set : ∀ {ds : List D} {vs : List V} (n : Nat) {d : D} {v : V}, Rep T ρ H d v → Reps T ρ H ds vs → Reps T ρ H (ds.set n d) (vs.set n v)
  | [], _, n, _, _, _, h => by rw [h.isnil]; exact .nil
  | d :: ds, _, 0, _, _, k, h => by
    obtain ⟨v, r, e1, h1, h2⟩ := h.uncons
    subst e1
    exact .cons k h2
  | d :: ds, _, n + 1, _, _, k, h => by
    obtain ⟨v, r, e1, h1, h2⟩ := h.uncons
    subst e1
    exact .cons h1 (h2.set n k)
theorem Reps.eraseIdx : ∀ {ds : List D} {vs : List V} (n : Nat), Reps T ρ H ds vs → Reps T ρ H (ds.eraseIdx n) (vs.eraseIdx n)
  | [], _, n, h => by rw [h.isnil]; exact .nil
  | d :: ds, _, 0, h => by
    obtain ⟨v, r, e1, h1, h2⟩ := h.uncons
    subst e1
    exact h2
  | d :: ds, _, n + 1, h => by
    obtain ⟨v, r, e1, h1, h2⟩ := h.uncons
    subst e1
    exact .cons h1 (h2.eraseIdx n)
theorem Reps.rep {ds : List D} {vs : List V} (h : Reps T ρ H ds vs) : ∀ k : Nat, Reps T ρ H (List.replicate k ds).flatten (List.replicate k vs).flatten
  | 0 => .nil
  | k + 1 => by
    rw [List.replicate_succ, List.replicate_succ, List.flatten_cons, List.flatten_cons]
    exact h.append (h.rep k)
theorem Reps.atI {ds : List D} {vs : List V} {i : Int} {d : D} (h : Reps T ρ H ds vs) (e : L2.atI ds i = some d) : ∃ v, L2.atI vs i = some v ∧ Rep T ρ H d v := by
  unfold L2.atI at e ⊢
  rw [h.length]
  cases q : ixN ds.length i with
  | none => rw [q] at e; cases e
  | some j =>
    rw [q] at e
    exact h.get e
theorem Reps.ints : ∀ {ds : List D} {vs : List V} {ns : List Int}, Reps T ρ H ds vs → intsD ds = some ns → vs = ns.map V.int
  | [], _, ns, h, e => by
    simp only [intsD, Option.some.injEq] at e
    subst e; rw [h.isnil]; rfl
  | d :: ds, _, ns, h, e => by
    obtain ⟨v, r, e1, h1, h2⟩ := h.uncons
    cases d with
    | int i =>
      simp only [intsD, Option.map_eq_some_iff] at e
      obtain ⟨ms, e2, rfl⟩ := e
      simp only [Rep] at h1
      rw [e1, h1, h2.ints e2]; rfl
    | _ => simp [intsD] at e
theorem Reps.bls : ∀ {ds : List D} {vs : List V} {ns : List Bool}, Reps T ρ H ds vs → blsD ds = some ns → vs = ns.map V.bl
  | [], _, ns, h, e => by
    simp only [blsD, Option.some.injEq] at e
    subst e; rw [h.isnil]; rfl
  | d :: ds, _, ns, h, e => by
    obtain ⟨v, r, e1, h1, h2⟩ := h.uncons
    cases d with
    | bl i =>
      simp only [blsD, Option.map_eq_some_iff] at e
      obtain ⟨ms, e2, rfl⟩ := e
      simp only [Rep] at h1
      rw [e1, h1, h2.bls e2]; rfl
    | _ => simp [blsD] at e
theorem Reps.of_ints : ∀ (ns : List Int), Reps T ρ H (ns.map D.int) (ns.map V.int)
  | [] => .nil
  | n :: ns => .cons (by simp [Rep]) (Reps.of_ints ns)
end

mutual
theorem Rep.py {T : Tb} {ρ : Pl} {H : Hp} : ∀ (d : D) (v : V) (p : PyData), Rep T ρ H d v → d.py = some p → Dp T.K H v p
  | .non, v, p, h, e => by
    simp only [Rep, D.py, Option.some.injEq] at h e
    subst h; subst e; exact .non
  | .bl b, v, p, h, e => by
    simp only [Rep, D.py, Option.some.injEq] at h e
    subst h; subst e; exact .bl b
  | .int b, v, p, h, e => by
    simp only [Rep, D.py, Option.some.injEq] at h e
    subst h; subst e; exact .int b
  | .str b, v, p, h, e => by
    simp only [Rep, D.py, Option.some.injEq] at h e
    subst h; subst e; exact .str b
  | .tup ds, v, p, h, e => by
    simp only [Rep, D.py, Option.map_eq_some_iff] at h e
    obtain ⟨ps, e, rfl⟩ := e
    obtain ⟨a, vs, rfl, s, r⟩ := h
    exact .tup s (Reps.py ds vs ps r e)
  | .lst ds, v, p, h, e => by
    simp only [Rep, D.py, Option.map_eq_some_iff] at h e
    obtain ⟨ps, e, rfl⟩ := e
    obtain ⟨a, vs, rfl, s, r⟩ := h
    exact .lst (SqL.of s) (Reps.py ds vs ps r e)
  | .loc n, v, p, h, e => by simp [D.py] at e
  | .fn n, v, p, h, e => by simp [D.py] at e
  | .scr n, v, p, h, e => by simp [D.py] at e
  | .exc n, v, p, h, e => by simp [D.py] at e
theorem Reps.py {T : Tb} {ρ : Pl} {H : Hp} : ∀ (ds : List D) (vs : List V) (ps : List PyData), Reps T ρ H ds vs → D.pys ds = some ps → DpAll T.K H vs ps
  | [], vs, ps, h, e => by
    simp only [D.pys, Option.some.injEq] at e
    subst e; rw [h.isnil]; exact .nil
  | d :: ds, vs, ps, h, e => by
    obtain ⟨v, r, e1, h1, h2⟩ := h.uncons
    subst e1
    simp only [D.pys] at e
    cases q1 : d.py with
    | none => rw [q1] at e; cases e
    | some p =>
      cases q2 : D.pys ds with
      | none => rw [q1, q2] at e; cases e
      | some qs =>
        rw [q1, q2] at e
        cases e
        exact .cons (Rep.py d v p h1 q1) (Reps.py ds r qs h2 q2)
end

/-! ### the store -/
def Alv (ρ : Pl) (S : Sto) (b : Addr) : Prop := ρ.h b ∨ ∃ (n : Nat) (xs : List D), ρ.l[n]? = some b ∧ S[n]? = some (some xs)
open Classical in
/-- the heap without the lists that may change -/
noncomputable def vis (ρ : Pl) (S : Sto) (H : Hp) : Hp := fun b => if Alv ρ S b then none else H b
section
variable {T : Tb} {ρ ρ' ρ'' : Pl} {S S' S'' : Sto} {H H' H'' : Hp} {a b p : Addr} {o : HO}
theorem vis_of (h : H b = some o) (n : ¬ Alv ρ S b) : vis ρ S H b = some o := by unfold vis; rw [if_neg n]; exact h
theorem of_vis (h : vis ρ S H b = some o) : H b = some o ∧ ¬ Alv ρ S b := by
  unfold vis at h
  split at h
  · cases h
  · exact ⟨h, by assumption⟩
theorem vis_sub : Same (vis ρ S H) H := fun _ _ h => (of_vis h).1

structure Rl (T : Tb) (ρ : Pl) (S : Sto) (H : Hp) : Prop where
  len : ρ.l.length = S.length
  inj : ∀ (n m : Nat) (a : Addr), ρ.l[n]? = some a → ρ.l[m]? = some a → n = m
  dom : ∀ (n : Nat) (a : Addr), ρ.l[n]? = some a → H a ≠ none
  nh : ∀ (n : Nat) (a : Addr), ρ.l[n]? = some a → ¬ ρ.h a
  hd : ∀ b, ρ.h b → H b ≠ none
  at_ : ∀ (n : Nat) (xs : List D), S[n]? = some (some xs) → ∃ a vs, ρ.l[n]? = some a ∧ H a = some (.lst vs) ∧ Reps T ρ (vis ρ S H) xs vs ∧ D.fitsL n xs = true
structure Stp (ρ : Pl) (S : Sto) (H : Hp) (ρ' : Pl) (S' : Sto) (H' : Hp) : Prop where
  ext : ∀ (n : Nat) (a : Addr), ρ.l[n]? = some a → ρ'.l[n]? = some a
  sm : Same (vis ρ S H) (vis ρ' S' H')
  dm : ∀ b, H b ≠ none → H' b ≠ none
  hh : ρ'.h = ρ.h
  hk : ∀ b, ρ.h b → H' b = H b
theorem Stp.refl : Stp ρ S H ρ S H := ⟨fun _ _ h => h, Same.refl _, fun _ h => h, rfl, fun _ _ => rfl⟩
theorem Stp.trans (x : Stp ρ S H ρ' S' H') (y : Stp ρ' S' H' ρ'' S'' H'') : Stp ρ S H ρ'' S'' H'' :=
  ⟨fun n a h => y.ext n a (x.ext n a h), x.sm.trans y.sm, fun b h => y.dm b (x.dm b h), y.hh.trans x.hh, fun b h => (y.hk b (x.hh ▸ h)).trans (x.hk b h)⟩
theorem Rep.stp {d : D} {v : V} (x : Stp ρ S H ρ' S' H') (h : Rep T ρ (vis ρ S H) d v) : Rep T ρ' (vis ρ' S' H') d v := Rep.mono x.ext x.sm d v h
theorem Reps.stp {d : List D} {v : List V} (x : Stp ρ S H ρ' S' H') (h : Reps T ρ (vis ρ S H) d v) : Reps T ρ' (vis ρ' S' H') d v := Reps.mono x.ext x.sm d v h
theorem Rl.alv (r : Rl T ρ S H) (h : Alv ρ S b) : H b ≠ none := by
  rcases h with h | ⟨n, xs, e1, e2⟩
  · exact r.hd b h
  · exact r.dom n b e1
theorem Rl.new (r : Rl T ρ S H) (hp : H p = none) : ¬ Alv ρ S p := fun h => r.alv h hp
/-- a new object -/
theorem Rl.stpush (r : Rl T ρ S H) (hp : H p = none) : Stp ρ S H ρ S (upd H p o) := ⟨fun _ _ h => h, fun b u h => by
  obtain ⟨h1, h2⟩ := of_vis h
  exact vis_of (by rw [upd_ne (ne_of_none h1 hp)]; exact h1) h2, fun b h => by
  by_cases e : b = p
  · subst e; rw [upd_same]; simp
  · rw [upd_ne e]; exact h, rfl, fun b h => upd_ne fun e => r.hd b h (e ▸ hp)⟩
theorem Rl.push (r : Rl T ρ S H) (hp : H p = none) : Rl T ρ S (upd H p o) := by
  have st := r.stpush (o := o) hp
  refine ⟨r.len, r.inj, fun n a e => st.dm a (r.dom n a e), r.nh, fun b h => st.dm b (r.hd b h), fun n xs e => ?_⟩
  obtain ⟨a, vs, e1, e2, e3, e4⟩ := r.at_ n xs e
  exact ⟨a, vs, e1, by rw [upd_ne (ne_of_none e2 hp)]; exact e2, Reps.stp st e3, e4⟩
theorem Rl.seen (r : Rl T ρ S H) (hp : H p = none) : vis ρ S (upd H p o) p = some o := vis_of upd_same (r.new hp)

theorem get_app {α : Type} {l : List α} {x : α} {n : Nat} {y : α} (h : (l ++ [x])[n]? = some y) : l[n]? = some y ∨ (n = l.length ∧ y = x) := by
  by_cases hn : n < l.length
  · rw [List.getElem?_append_left hn] at h; exact .inl h
  · rw [List.getElem?_append_right (by omega)] at h
    by_cases e : n - l.length = 0
    · rw [e] at h
      exact .inr ⟨by omega, by simpa using h.symm⟩
    · obtain ⟨k, hk⟩ : ∃ k, n - l.length = k + 1 := ⟨n - l.length - 1, by omega⟩
      rw [hk] at h; simp at h
theorem app_get {α : Type} {l : List α} {x : α} {n : Nat} {y : α} (h : l[n]? = some y) : (l ++ [x])[n]? = some y := by
  have hn : n < l.length := (List.getElem?_eq_some_iff.mp h).1
  rw [List.getElem?_append_left hn]; exact h
/-- a new list that may change -/
theorem Rl.lay (r : Rl T ρ S H) (hp : H p = none) {xs : List D} {vs : List V} (hr : Reps T ρ (vis ρ S H) xs vs) (hf : D.fitsL S.length xs = true) :
    Rl T (ρ.app p) (S ++ [some xs]) (upd H p (.lst vs)) ∧ Stp ρ S H (ρ.app p) (S ++ [some xs]) (upd H p (.lst vs)) := by
  have st0 := r.stpush (o := .lst vs) hp
  have st : Stp ρ S H (ρ.app p) (S ++ [some xs]) (upd H p (.lst vs)) := by
    refine ⟨fun n a h => app_get h, fun b u h => ?_, st0.dm, rfl, st0.hk⟩
    obtain ⟨h1, h2⟩ := of_vis h
    refine vis_of (by rw [upd_ne (ne_of_none h1 hp)]; exact h1) fun q => ?_
    rcases q with q | ⟨n, ys, e1, e2⟩
    · exact h2 (.inl q)
    · rcases get_app e1 with e1 | ⟨en, e1⟩
      · rcases get_app e2 with e2 | ⟨en2, e2⟩
        · exact h2 (.inr ⟨n, ys, e1, e2⟩)
        · have := (List.getElem?_eq_some_iff.mp e1).1
          rw [r.len] at this; omega
      · subst e1
        rw [hp] at h1; cases h1
  refine ⟨⟨by simp [r.len, Pl.app], fun n m a e1 e2 => ?_, fun n a e => ?_, fun n a e => ?_, fun b h => st.dm b (r.hd b h), fun n ys e => ?_⟩, st⟩
  · rcases get_app e1 with f1 | ⟨n1, f1⟩ <;> rcases get_app e2 with f2 | ⟨n2, f2⟩
    · exact r.inj n m a f1 f2
    · exact absurd hp (f2 ▸ r.dom n a f1)
    · exact absurd hp (f1 ▸ r.dom m a f2)
    · omega
  · rcases get_app e with e | ⟨n1, e⟩
    · exact st.dm a (r.dom n a e)
    · subst e; rw [upd_same]; simp
  · rcases get_app e with e | ⟨n1, e⟩
    · exact r.nh n a e
    · subst e; exact fun h => r.hd _ h hp
  · rcases get_app e with e | ⟨n1, e⟩
    · obtain ⟨a, ws, e1, e2, e3, e4⟩ := r.at_ n ys e
      exact ⟨a, ws, app_get e1, by rw [upd_ne (ne_of_none e2 hp)]; exact e2, e3.stp st, e4⟩
    · cases e
      refine ⟨p, vs, ?_, upd_same, hr.stp st, n1 ▸ hf⟩
      rw [n1, ← r.len]; simp [Pl.app]
theorem Sto.set_get {S : Sto} {n m : Nat} {x y : Option (List D)} (h : (S.set n x)[m]? = some y) : (m = n ∧ y = x) ∨ (m ≠ n ∧ S[m]? = some y) := by
  by_cases e : m = n
  · subst e
    have hl : m < S.length := by
      have := (List.getElem?_eq_some_iff.mp h).1
      simpa using this
    rw [List.getElem?_set_self hl] at h
    exact .inl ⟨rfl, (Option.some.inj h).symm⟩
  · rw [List.getElem?_set_ne (Ne.symm e)] at h
    exact .inr ⟨e, h⟩
/-- a list that may change changes -/
theorem Rl.chg (r : Rl T ρ S H) {n : Nat} {ys xs : List D} {vs : List V} (hn : S[n]? = some (some ys)) (ha : ρ.l[n]? = some a) (hr : Reps T ρ (vis ρ S H) xs vs) (hf : D.fitsL n xs = true) :
    Rl T ρ (S.set n (some xs)) (upd H a (.lst vs)) ∧ Stp ρ S H ρ (S.set n (some xs)) (upd H a (.lst vs)) := by
  have hl : n < S.length := (List.getElem?_eq_some_iff.mp hn).1
  have ev : vis ρ (S.set n (some xs)) (upd H a (.lst vs)) = vis ρ S H := by
    funext b
    by_cases h : Alv ρ S b
    · have h' : Alv ρ (S.set n (some xs)) b := by
        rcases h with h | ⟨m, zs, e1, e2⟩
        · exact .inl h
        · by_cases e : m = n
          · subst e; exact .inr ⟨m, xs, e1, List.getElem?_set_self hl⟩
          · exact .inr ⟨m, zs, e1, by rw [List.getElem?_set_ne (Ne.symm e)]; exact e2⟩
      unfold vis; rw [if_pos h, if_pos h']
    · have h' : ¬ Alv ρ (S.set n (some xs)) b := fun q => by
        rcases q with q | ⟨m, zs, e1, e2⟩
        · exact h (.inl q)
        · rcases Sto.set_get e2 with ⟨rfl, _⟩ | ⟨_, e2⟩
          · exact h (.inr ⟨m, ys, e1, hn⟩)
          · exact h (.inr ⟨m, zs, e1, e2⟩)
      have hb : b ≠ a := fun e => h (.inr ⟨n, ys, e ▸ ha, hn⟩)
      unfold vis; rw [if_neg h, if_neg h', upd_ne hb]
  have dm : ∀ b, H b ≠ none → (upd H a (.lst vs)) b ≠ none := fun b h => by
    by_cases e : b = a
    · subst e; rw [upd_same]; simp
    · rw [upd_ne e]; exact h
  have st : Stp ρ S H ρ (S.set n (some xs)) (upd H a (.lst vs)) := ⟨fun _ _ h => h, by rw [ev]; exact Same.refl _, dm, rfl, fun b h => upd_ne fun e => r.nh n a ha (e ▸ h)⟩
  refine ⟨⟨by simpa using r.len, r.inj, fun m b e => dm b (r.dom m b e), r.nh, fun b h => dm b (r.hd b h), fun m zs e => ?_⟩, st⟩
  rw [ev]
  rcases Sto.set_get e with ⟨rfl, e'⟩ | ⟨ne, e⟩
  · cases e'
    exact ⟨a, vs, ha, upd_same, hr, hf⟩
  · obtain ⟨b, ws, e1, e2, e3, e4⟩ := r.at_ m zs e
    exact ⟨b, ws, e1, by rw [upd_ne fun q => ne (r.inj m n a (by rw [e1, q]) ha)]; exact e2, e3, e4⟩
/-- a list that may change is held as it is from here on -/
theorem Rl.hold (r : Rl T ρ S H) {n : Nat} {xs : List D} (hn : S[n]? = some (some xs)) :
    Rl T ρ (S.set n none) H ∧ Stp ρ S H ρ (S.set n none) H ∧ ∃ a vs, ρ.l[n]? = some a ∧ vis ρ (S.set n none) H a = some (.lst vs) ∧ Reps T ρ (vis ρ (S.set n none) H) xs vs := by
  have sub : ∀ b, Alv ρ (S.set n none) b → Alv ρ S b := fun b q => by
    rcases q with q | ⟨m, zs, e1, e2⟩
    · exact .inl q
    · rcases Sto.set_get e2 with ⟨_, e⟩ | ⟨_, e2⟩
      · cases e
      · exact .inr ⟨m, zs, e1, e2⟩
  have st : Stp ρ S H ρ (S.set n none) H := ⟨fun _ _ h => h, fun b u h => vis_of (of_vis h).1 fun q => (of_vis h).2 (sub b q), fun _ h => h, rfl, fun _ _ => rfl⟩
  refine ⟨⟨by simpa using r.len, r.inj, r.dom, r.nh, r.hd, fun m zs e => ?_⟩, st, ?_⟩
  · rcases Sto.set_get e with ⟨_, e⟩ | ⟨_, e⟩
    · cases e
    · obtain ⟨b, ws, e1, e2, e3, e4⟩ := r.at_ m zs e
      exact ⟨b, ws, e1, e2, e3.stp st, e4⟩
  · obtain ⟨a, vs, e1, e2, e3, _⟩ := r.at_ n xs hn
    refine ⟨a, vs, e1, vis_of e2 fun q => ?_, e3.stp st⟩
    rcases q with q | ⟨m, zs, f1, f2⟩
    · exact r.nh n a e1 q
    · rcases Sto.set_get f2 with ⟨_, e⟩ | ⟨ne, _⟩
      · cases e
      · exact ne (r.inj m n a f1 e1)

mutual
theorem Rep.hidden {T : Tb} {ρ : Pl} {H : Hp} {p : Addr} : ∀ (d : D) (v : V), Rep T ρ H d v ↔ Rep T (ρ.hid p) H d v
  | .non, _ => Iff.rfl
  | .bl _, _ => Iff.rfl
  | .int _, _ => Iff.rfl
  | .str _, _ => Iff.rfl
  | .tup ds, v => by
    simp only [Rep]
    exact ⟨fun ⟨a, vs, e, s, r⟩ => ⟨a, vs, e, s, (Reps.hidden ds vs).mp r⟩, fun ⟨a, vs, e, s, r⟩ => ⟨a, vs, e, s, (Reps.hidden ds vs).mpr r⟩⟩
  | .lst ds, v => by
    simp only [Rep]
    exact ⟨fun ⟨a, vs, e, s, r⟩ => ⟨a, vs, e, s, (Reps.hidden ds vs).mp r⟩, fun ⟨a, vs, e, s, r⟩ => ⟨a, vs, e, s, (Reps.hidden ds vs).mpr r⟩⟩
  | .loc n, v => Iff.rfl
  | .fn f, v => Iff.rfl
  | .scr ns, v => Iff.rfl
  | .exc c, v => Iff.rfl
theorem Reps.hidden {T : Tb} {ρ : Pl} {H : Hp} {p : Addr} : ∀ (ds : List D) (vs : List V), Reps T ρ H ds vs ↔ Reps T (ρ.hid p) H ds vs
  | [], _ => Iff.rfl
  | d :: ds, vs => by
    simp only [Reps]
    exact ⟨fun ⟨v, r, e, h1, h2⟩ => ⟨v, r, e, (Rep.hidden d v).mp h1, (Reps.hidden ds r).mp h2⟩, fun ⟨v, r, e, h1, h2⟩ => ⟨v, r, e, (Rep.hidden d v).mpr h1, (Reps.hidden ds r).mpr h2⟩⟩
end
/-- a new object that is not to be seen for a while -/
theorem vis_hid (r : Rl T ρ S H) (hp : H p = none) : Same (vis ρ S H) (vis (ρ.hid p) S (upd H p o)) := fun b u h => by
  obtain ⟨h1, h2⟩ := of_vis h
  refine vis_of (by rw [upd_ne (ne_of_none h1 hp)]; exact h1) fun q => ?_
  rcases q with (q | q) | q
  · exact h2 (.inl q)
  · exact ne_of_none h1 hp q
  · exact h2 (.inr q)
theorem Rl.hide (r : Rl T ρ S H) (hp : H p = none) : Rl T (ρ.hid p) S (upd H p o) := by
  have dm := (r.stpush (o := o) hp).dm
  refine ⟨r.len, r.inj, fun n a e => dm a (r.dom n a e), fun n a e q => ?_, fun b q => ?_, fun n xs e => ?_⟩
  · rcases q with q | q
    · exact r.nh n a e q
    · exact r.dom n a e (q ▸ hp)
  · rcases q with q | q
    · exact dm b (r.hd b q)
    · rw [q, upd_same]; simp
  · obtain ⟨a, vs, e1, e2, e3, e4⟩ := r.at_ n xs e
    exact ⟨a, vs, e1, by rw [upd_ne (ne_of_none e2 hp)]; exact e2, (Reps.hidden xs vs).mp (Reps.mono (fun _ _ z => z) (vis_hid r hp) xs vs e3), e4⟩
theorem vis_unhid : Same (vis (ρ.hid p) S H) (vis ρ S H) := fun b u h => by
  obtain ⟨h1, h2⟩ := of_vis h
  exact vis_of h1 fun q => h2 (q.elim (fun q => .inl (.inl q)) .inr)
/-- what is hidden changes -/
theorem vis_at (r : Rl T (ρ.hid p) S H) : vis (ρ.hid p) S (upd H p o) = vis (ρ.hid p) S H := by
  funext b
  by_cases h : Alv (ρ.hid p) S b
  · unfold vis; rw [if_pos h, if_pos h]
  · have hb : b ≠ p := fun e => h (.inl (.inr e))
    unfold vis; rw [if_neg h, if_neg h, upd_ne hb]
theorem Rl.hset (r : Rl T (ρ.hid p) S H) : Rl T (ρ.hid p) S (upd H p o) := by
  have dm : ∀ b, H b ≠ none → (upd H p o) b ≠ none := fun b h => by
    by_cases e : b = p
    · subst e; rw [upd_same]; simp
    · rw [upd_ne e]; exact h
  refine ⟨r.len, r.inj, fun n a e => dm a (r.dom n a e), r.nh, fun b h => dm b (r.hd b h), fun n xs e => ?_⟩
  obtain ⟨a, vs, e1, e2, e3, e4⟩ := r.at_ n xs e
  rw [vis_at r]
  exact ⟨a, vs, e1, by rw [upd_ne fun q => r.nh n a e1 (.inr q)]; exact e2, e3, e4⟩
theorem Rl.unhide (r : Rl T (ρ.hid p) S H) : Rl T ρ S H :=
  ⟨r.len, r.inj, r.dom, fun n a e q => r.nh n a e (.inl q), fun b q => r.hd b (.inl q), fun n xs e => by
    obtain ⟨a, vs, e1, e2, e3, e4⟩ := r.at_ n xs e
    exact ⟨a, vs, e1, e2, (Reps.hidden xs vs).mpr (Reps.mono (fun _ _ z => z) vis_unhid xs vs e3), e4⟩⟩
/-- from before the hidden object was made to behind its time -/
theorem Stp.over {ρ1 : Pl} {S1 : Sto} {H1 : Hp} (r : Rl T ρ S H) (hp : H p = none) (st : Stp (ρ.hid p) S (upd H p o) (ρ1.hid p) S1 H1) (hh : ρ1.h = ρ.h) : Stp ρ S H ρ1 S1 H1 :=
  ⟨st.ext, (vis_hid r hp).trans (st.sm.trans vis_unhid), fun b h => st.dm b ((r.stpush (o := o) hp).dm b h), hh, fun b h => by
    have ne : b ≠ p := fun e => r.hd b h (by rw [e]; exact hp)
    rw [st.hk b (.inl h), upd_ne ne]⟩
end

/-! ### slots -/
structure EnvR (T : Tb) (ρ : Pl) (S : Sto) (H : Hp) (σ : L2.St) (e : Lenv) : Prop where
  len : e.length = σ.length
  at_ : ∀ (i : Nat) (d : D), e[i]? = some (some d) → ∃ v, σ[i]? = some (some v) ∧ Rep T ρ (vis ρ S H) d v
section
variable {T : Tb} {ρ ρ' : Pl} {S S' : Sto} {H H' : Hp} {σ : L2.St} {e : Lenv}
theorem EnvR.stp (x : Stp ρ S H ρ' S' H') (h : EnvR T ρ S H σ e) : EnvR T ρ' S' H' σ e := ⟨h.len, fun i d q => by
  obtain ⟨v, e1, e2⟩ := h.at_ i d q
  exact ⟨v, e1, e2.stp x⟩⟩
theorem EnvR.set (h : EnvR T ρ S H σ e) {i : Nat} {d : D} {v : V} (r : Rep T ρ (vis ρ S H) d v) : EnvR T ρ S H (σ.set i (some v)) (e.set i (some d)) := by
  refine ⟨by simpa using h.len, fun j d' q => ?_⟩
  by_cases ij : i = j
  · subst ij
    have hl : i < e.length := by
      have := (List.getElem?_eq_some_iff.mp q).1
      simpa using this
    rw [List.getElem?_set_self hl] at q
    cases q
    exact ⟨v, List.getElem?_set_self (by rw [← h.len]; exact hl), r⟩
  · rw [List.getElem?_set_ne ij] at q
    rw [List.getElem?_set_ne ij]
    exact h.at_ j d' q
theorem EnvR.forget (h : EnvR T ρ S H σ e) (i : Nat) (w : Option V) : EnvR T ρ S H (σ.set i w) (e.set i none) := by
  refine ⟨by simpa using h.len, fun j d' q => ?_⟩
  by_cases ij : i = j
  · subst ij
    have hl : i < e.length := by
      have := (List.getElem?_eq_some_iff.mp q).1
      simpa using this
    rw [List.getElem?_set_self hl] at q
    cases q
  · rw [List.getElem?_set_ne ij] at q
    rw [List.getElem?_set_ne ij]
    exact h.at_ j d' q
theorem EnvR.get (h : EnvR T ρ S H σ e) {i : Nat} {d : D} (q : e.getD i none = some d) : ∃ v, σ[i]? = some (some v) ∧ Rep T ρ (vis ρ S H) d v := by
  refine h.at_ i d ?_
  rw [List.getD_eq_getElem?_getD] at q
  cases z : e[i]? with
  | none => rw [z] at q; cases q
  | some w => rw [z] at q; exact congrArg some q
theorem EnvR.wipe (h : EnvR T ρ S H σ e) : ∀ vs : List Nat, EnvR T ρ S H (L2.wipe σ vs) (wipeE e vs)
  | [] => h
  | v :: vs => by
    unfold L2.wipe wipeE
    exact (h.wipe vs).forget v none
end
end Ev

set_option Elab.async false
set_option linter.all false
set_option maxRecDepth 100000
/-! Ev, part C: readings by evaluation, the rules of expressions. -/
namespace Ev
open PySem PySem.Spec PyProof.Rows L2

abbrev RelT (α β : Type) := Pl → Hp → α → β → Prop
/-- what is to be shown of a computation's end -/
def Po {α β : Type} (T : Tb) (R : RelT α β) (ρ : Pl) (S : Sto) (H : Hp) (We : Nat → Hp → Prop) (Q : β → Hp → Prop) : Out α → Prop
  | .ok a S' => ∀ ρ' H' b, Rl T ρ' S' H' → Stp ρ S H ρ' S' H' → R ρ' (vis ρ' S' H') a b → Q b H'
  | .err c S' => ∀ ρ' H', Rl T ρ' S' H' → Stp ρ S H ρ' S' H' → We c H'
  | .bad => False
section
variable {α β γ δ : Type} {T : Tb} {R : RelT α β} {R' : RelT γ δ} {ρ ρ1 : Pl} {S S1 : Sto} {H H1 : Hp} {We : Nat → Hp → Prop} {Q : β → Hp → Prop}
theorem Po.stp {o : Out α} (x : Stp ρ S H ρ1 S1 H1) (h : Po T R ρ S H We Q o) : Po T R ρ1 S1 H1 We Q o := by
  cases o with
  | ok a S' => exact fun ρ' H' b r s q => h ρ' H' b r (x.trans s) q
  | err c S' => exact fun ρ' H' r s => h ρ' H' r (x.trans s)
  | bad => exact h
theorem Po.bind {o : Out α} {f : α → Sto → Out γ} {Q' : δ → Hp → Prop} (hp : Po T R' ρ S H We Q' (o.bind f))
    (h : ∀ a S1 ρ1 H1 b, Rl T ρ1 S1 H1 → Stp ρ S H ρ1 S1 H1 → R ρ1 (vis ρ1 S1 H1) a b → Po T R' ρ1 S1 H1 We Q' (f a S1) → Q b H1) : Po T R ρ S H We Q o := by
  cases o with
  | ok a S' => exact fun ρ' H' b r s q => h a S' ρ' H' b r s q (Po.stp s hp)
  | err c S' => exact hp
  | bad => exact hp
theorem Po.lift {o : Option α} (h : Po T R ρ S H We Q (Ev.lift o S)) : ∃ a, o = some a ∧ ∀ ρ' H' b, Rl T ρ' S H' → Stp ρ S H ρ' S H' → R ρ' (vis ρ' S H') a b → Q b H' := by
  cases o with
  | none => exact False.elim h
  | some a => exact ⟨a, rfl, h⟩
end

abbrev RD (T : Tb) : RelT D V := fun ρ H d v => Rep T ρ H d v
abbrev RDs (T : Tb) : RelT (List D) (List V) := fun ρ H d v => Reps T ρ H d v
abbrev RB : RelT Bool Bool := fun _ _ a b => a = b
abbrev Wc (T : Tb) (W : WX) (σ : L2.St) : Nat → Hp → Prop := fun c H' => W (.ref (T.ca c)) none σ H'
def SE (T : Tb) (W : WX) (r : Lenv → Sto → Out D) : TE := fun σ H Q => ∃ ρ e S, Rl T ρ S H ∧ EnvR T ρ S H σ e ∧ Po T (RD T) ρ S H (Wc T W σ) Q (r e S)
def SA (T : Tb) (W : WX) (r : Lenv → Sto → Out (List D)) : TA := fun σ H Q => ∃ ρ e S, Rl T ρ S H ∧ EnvR T ρ S H σ e ∧ Po T (RDs T) ρ S H (Wc T W σ) Q (r e S)
def ST (T : Tb) (W : WX) (r : Lenv → Sto → Out Bool) : TT := fun σ H Q => ∃ ρ e S, Rl T ρ S H ∧ EnvR T ρ S H σ e ∧ Po T RB ρ S H (Wc T W σ) Q (r e S)
def tst (r : Lenv → Sto → Out D) : Lenv → Sto → Out Bool := fun e S => (r e S).bind fun x S => lift (truD S x) S

section
variable {X : Cx}
theorem PEi {e : Expr} {t t' : TE} (h : PE X e t) (k : ∀ σ H Q, t' σ H Q → t σ H Q) : PE X e t' := ⟨fun pins s σ H Q I q => h.run pins s σ H Q I (k σ H Q q)⟩
theorem PTi {e : Expr} {t t' : TT} (h : PT X e t) (k : ∀ σ H Q, t' σ H Q → t σ H Q) : PT X e t' := ⟨fun pins s σ H Q I q => h.run pins s σ H Q I (k σ H Q q)⟩
theorem PWi {e : Expr} {t t' : TT} (h : PW X e t) (k : ∀ σ H Q, t' σ H Q → t σ H Q) : PW X e t' := ⟨fun wh pins s σ H Q I q => h.run wh pins s σ H Q I (k σ H Q q)⟩
theorem PAi {e : List Expr} {t t' : TA} (h : PA X e t) (k : ∀ σ H Q, t' σ H Q → t σ H Q) : PA X e t' := ⟨fun pos pins s σ H Q I q => h.run pos pins s σ H Q I (k σ H Q q)⟩

variable {T : Tb} {W : WX} {pos : Pos} {a b c : Expr} {ra rb rc : Lenv → Sto → Out D}

theorem e_cst {e : Expr} {d : D} {v : V} (h : PE X e (tC v)) (hr : ∀ ρ H, Rep T ρ H d v) : PE X e (SE T W fun _ S => .ok d S) :=
  PEi h fun σ H Q ⟨ρ, e, S, hR, hE, hp⟩ => hp ρ H v hR .refl (hr _ _)
theorem e_var {i : Nat} {x : Str} (hN : X.N[i]? = some x) (hv : Vis X.env.scope x) (hd : (x == ("__debug__" : Str)) = false) (hcd : (x == ("__classdict__" : Str)) = false) :
    PE X (.Name x pos) (SE T W fun e S => lift (e.getD i none) S) :=
  PEi (pe_var hN hv hd hcd) fun σ H Q ⟨ρ, e, S, hR, hE, hp⟩ => by
    obtain ⟨d, hd, q⟩ := hp.lift
    obtain ⟨v, h1, h2⟩ := hE.get hd
    exact ⟨v, h1, q ρ H v hR .refl h2⟩
theorem e_gfn {f : Nat} {x : Str} {p : Addr} (hg : Gl X x) (hm : X.mg x = some (.ref p)) (hf : T.fa f = some p) (hd : (x == ("__debug__" : Str)) = false) : PE X (.Name x pos) (SE T W fun _ S => .ok (.fn f) S) :=
  e_cst (pe_glob hg hm (v := .ref p) rfl hd) fun ρ H => by simp only [Rep]; exact ⟨p, rfl, hf⟩

/-- a two-place operation by values -/
theorem e_bin {e : Expr} {r : R2} {f : D → D → Option D} (h : PE X e (tOp r (SE T W ra) (SE T W rb)))
    (hr : ∀ ρ S H x y v w d Q, Rl T ρ S H → Rep T ρ (vis ρ S H) x v → Rep T ρ (vis ρ S H) y w → f x y = some d → (∀ H' z, Rl T ρ S H' → Stp ρ S H ρ S H' → Rep T ρ (vis ρ S H') d z → Q z H') → r v w H Q) :
    PE X e (SE T W fun e S => (ra e S).bind fun x S => (rb e S).bind fun y S => lift (f x y) S) :=
  PEi h fun σ H Q ⟨ρ, e, S, hR, hE, hp⟩ => ⟨ρ, e, S, hR, hE, hp.bind fun x S1 ρ1 H1 v hR1 hS1 hx hp1 => ⟨ρ1, e, S1, hR1, hE.stp hS1, hp1.bind fun y S2 ρ2 H2 w hR2 hS2 hy hp2 => by
    obtain ⟨d, hd, q⟩ := hp2.lift
    exact hr ρ2 S2 H2 x y v w d Q hR2 (hx.stp hS2) hy hd fun H' z r s k => q ρ2 H' z r s k⟩⟩
theorem mulOk_ok {i j : Int} (h : mulOk i j = true) : IntMulOk i j := by
  unfold mulOk at h
  simp only [Bool.or_eq_true, Bool.and_eq_true, decide_eq_true_eq] at h
  rcases h with (h | h) | h
  · exact .of_left (intBits_le_64 h.1 h.2)
  · exact .of_right (intBits_le_64 h.1 h.2)
  · exact CMulW.ok h
theorem op_mulE : OpR X (binaryOp .Mult) (rI (fun i j => mulOk i j = true) fun i j => .int (i * j)) := opI fun _ _ _ _ _ _ _ hc q => mul_int q (mulOk_ok hc)
theorem op_fdivE : OpR X (binaryOp .FloorDiv) (rI (fun _ j => divOk j = true) fun i j => .int (i.fdiv j)) := opI fun _ _ _ _ _ _ _ hc q => by
  unfold divOk at hc
  simp only [Bool.and_eq_true, decide_eq_true_eq] at hc
  exact floordiv_int hc.1 q (.inl (PyProof.noPylong_of_log2 hc.2))
theorem bigline : big = sizeLine := by rw [sizeLine_eq]; rfl
def opOf : Op → Operator
  | .add => .Add | .sub => .Sub | .mul => .Mult | .fdiv => .FloorDiv | .mod => .Mod | .pow => .Pow
theorem rep_new {ρ : Pl} {S : Sto} {H : Hp} {ds : List D} {vs : List V} {p : Addr} (r : Rl T ρ S H) (hp : H p = none) (h : Reps T ρ (vis ρ S H) ds vs) : Rep T ρ (vis ρ S (upd H p (.lst vs))) (.lst ds) (.ref p) := by
  simp only [Rep]
  exact ⟨p, vs, rfl, r.seen hp, h.stp (r.stpush hp)⟩
theorem rep_newT {ρ : Pl} {S : Sto} {H : Hp} {ds : List D} {vs : List V} {p : Addr} (r : Rl T ρ S H) (hp : H p = none) (h : Reps T ρ (vis ρ S H) ds vs) : Rep T ρ (vis ρ S (upd H p (.tup vs))) (.tup ds) (.ref p) := by
  simp only [Rep]
  exact ⟨p, vs, rfl, .inl (.inl (r.seen hp)), h.stp (r.stpush hp)⟩
theorem op_all (o : Op) : ∃ r, OpR X (binaryOp (opOf o)) r ∧
    ∀ ρ S H x y v w d Q, Rl T ρ S H → Rep T ρ (vis ρ S H) x v → Rep T ρ (vis ρ S H) y w → opD o x y = some d → (∀ H' z, Rl T ρ S H' → Stp ρ S H ρ S H' → Rep T ρ (vis ρ S H') d z → Q z H') → r v w H Q := by
  cases o with
  | add =>
    refine ⟨_, op_add.or op_cat, fun ρ S H x y v w d Q hR hx hy hd q => ?_⟩
    cases x <;> cases y <;> simp only [opD] at hd <;> (try cases hd)
    · simp only [Rep] at hx hy
      subst hx; subst hy
      exact .inl ⟨_, _, rfl, rfl, q H _ hR .refl (by simp only [Rep])⟩
    · split at hd
      · cases hd
        rename_i hle
        simp only [Rep] at hx hy
        obtain ⟨l, xs, rfl, s1, r1⟩ := hx
        obtain ⟨l2, ys, rfl, s2, r2⟩ := hy
        refine .inr ⟨l, l2, xs, ys, rfl, rfl, vis_sub _ _ s1, vis_sub _ _ s2, by rw [r1.length, r2.length, ← bigline]; exact hle, fun p hp => ?_⟩
        exact q _ _ (hR.push hp) (hR.stpush hp) (rep_new hR hp (r1.append r2))
      · cases hd
  | sub =>
    refine ⟨_, op_sub, fun ρ S H x y v w d Q hR hx hy hd q => ?_⟩
    cases x <;> cases y <;> simp only [opD] at hd <;> (try cases hd)
    simp only [Rep] at hx hy
    subst hx; subst hy
    exact ⟨_, _, rfl, rfl, q H _ hR .refl (by simp only [Rep])⟩
  | mul =>
    refine ⟨_, op_mulE.or op_rep, fun ρ S H x y v w d Q hR hx hy hd q => ?_⟩
    cases x <;> cases y <;> simp only [opD] at hd <;> (try cases hd)
    · split at hd
      · cases hd
        rename_i hle
        simp only [Rep] at hx hy
        subst hx; subst hy
        exact .inl ⟨_, _, rfl, rfl, hle, q H _ hR .refl (by simp only [Rep])⟩
      · cases hd
    · split at hd
      · cases hd
        rename_i hle
        simp only [Bool.and_eq_true, decide_eq_true_eq] at hle
        simp only [Rep] at hx hy
        obtain ⟨l, xs, rfl, s1, r1⟩ := hx
        subst hy
        refine .inr ⟨l, _, xs, rfl, rfl, vis_sub _ _ s1, hle.1.1, hle.1.2, by rw [r1.length, ← bigline]; exact hle.2, fun p hp => ?_⟩
        exact q _ _ (hR.push hp) (hR.stpush hp) (rep_new hR hp (r1.rep _))
      · cases hd
  | fdiv =>
    refine ⟨_, op_fdivE, fun ρ S H x y v w d Q hR hx hy hd q => ?_⟩
    cases x <;> cases y <;> simp only [opD] at hd <;> (try cases hd)
    split at hd
    · cases hd
      rename_i hle
      simp only [Rep] at hx hy
      subst hx; subst hy
      exact ⟨_, _, rfl, rfl, hle, q H _ hR .refl (by simp only [Rep])⟩
    · cases hd
  | mod =>
    refine ⟨_, op_modN, fun ρ S H x y v w d Q hR hx hy hd q => ?_⟩
    cases x <;> cases y <;> simp only [opD] at hd <;> (try cases hd)
    split at hd
    · cases hd
      rename_i hle
      simp only [Rep] at hx hy
      subst hx; subst hy
      exact ⟨_, _, rfl, rfl, of_decide_eq_true hle, q H _ hR .refl (by simp only [Rep])⟩
    · cases hd
  | pow =>
    refine ⟨_, op_pow, fun ρ S H x y v w d Q hR hx hy hd q => ?_⟩
    cases x <;> cases y <;> simp only [opD] at hd <;> (try cases hd)
    split at hd
    · cases hd
      rename_i hle
      simp only [powOk, Bool.and_eq_true, decide_eq_true_eq] at hle
      simp only [Rep] at hx hy
      subst hx; subst hy
      exact ⟨_, _, rfl, rfl, ⟨hle.1.1, hle.1.2, hle.2⟩, q H _ hR .refl (by simp only [Rep])⟩
    · cases hd
theorem e_op (o : Op) (ha : PE X a (SE T W ra)) (hb : PE X b (SE T W rb)) : PE X (.BinOp a (opOf o) b pos) (SE T W fun e S => (ra e S).bind fun x S => (rb e S).bind fun y S => lift (opD o x y) S) := by
  obtain ⟨r, h1, h2⟩ := op_all (X := X) (T := T) o
  exact e_bin (pe_op h1 ha hb) h2
theorem e_neg (ha : PE X a (SE T W ra)) : PE X (.UnaryOp .USub a pos) (SE T W fun e S => (ra e S).bind fun x S => match x with | .int i => .ok (.int (-i)) S | _ => .bad) :=
  PEi (pe_un un_neg ha) fun σ H Q ⟨ρ, e, S, hR, hE, hp⟩ => ⟨ρ, e, S, hR, hE, hp.bind fun x S1 ρ1 H1 v hR1 hS1 hx hp1 => by
    cases x with
    | int i =>
      simp only [Rep] at hx
      exact ⟨i, hx, hp1 ρ1 H1 _ hR1 .refl (by simp only [Rep])⟩
    | _ => exact False.elim hp1⟩

/-! ### comparisons -/
def cpOf : Cp → CmpOp
  | .eq => .Eq | .ne => .NotEq | .lt => .Lt | .le => .LtE | .gt => .Gt | .ge => .GtE
theorem eqD_ok {ρ : Pl} {S : Sto} {H : Hp} {x y : D} {v w : V} {k : Bool} (hx : Rep T ρ (vis ρ S H) x v) (hy : Rep T ρ (vis ρ S H) y w) (h : eqD x y = some k) :
    ∃ d e, Dp T.K H v d ∧ Dp T.K H w e ∧ SeqAt.shaped d = true ∧ SeqAt.shaped e = true ∧ PyData.eqv d e = k := by
  unfold eqD at h
  cases q1 : x.py with
  | none => rw [q1] at h; cases h
  | some d =>
    cases q2 : y.py with
    | none => rw [q1, q2] at h; cases h
    | some e =>
      rw [q1, q2] at h
      simp only at h
      split at h
      · rename_i hs
        rw [Bool.and_eq_true] at hs
        have hx' : Rep T ρ H x v := Rep.mono (fun _ _ z => z) vis_sub x v hx
        have hy' : Rep T ρ H y w := Rep.mono (fun _ _ z => z) vis_sub y w hy
        exact ⟨d, e, Rep.py x v d hx' q1, Rep.py y w e hy' q2, hs.1, hs.2, Option.some.inj h⟩
      · cases h
theorem cp_all (o : Cp) (hK : X.K = T.K) (hu : X.A.units + 64 < cLine) : ∃ r, OpR X (compareOp (cpOf o)) r ∧
    ∀ ρ S H x y v w k Q, Rl T ρ S H → Rep T ρ (vis ρ S H) x v → Rep T ρ (vis ρ S H) y w → cpD o x y = some k → Q (.bl k) H → r v w H Q := by
  have int : ∀ {g : Int → Int → Bool} {o : Cp}, (∀ x y k, cpD o x y = some k → ∃ i j, x = .int i ∧ y = .int j ∧ k = g i j) → ∀ ρ S H x y v w k (Q : VK), Rl T ρ S H → Rep T ρ (vis ρ S H) x v → Rep T ρ (vis ρ S H) y w → cpD o x y = some k → Q (.bl k) H → (rI0 fun i j => .bl (g i j)) v w H Q := by
    intro g o hg ρ S H x y v w k Q hR hx hy hd q
    obtain ⟨i, j, rfl, rfl, rfl⟩ := hg x y k hd
    simp only [Rep] at hx hy
    subst hx; subst hy
    exact ⟨i, j, rfl, rfl, q⟩
  cases o with
  | eq =>
    refine ⟨_, op_eqD hu, fun ρ S H x y v w k Q hR hx hy hd q => ?_⟩
    obtain ⟨d, e, h1, h2, h3, h4, h5⟩ := eqD_ok hx hy hd
    exact ⟨d, e, hK ▸ h1, hK ▸ h2, h3, h4, h5 ▸ q⟩
  | ne =>
    refine ⟨_, op_neD hu, fun ρ S H x y v w k Q hR hx hy hd q => ?_⟩
    simp only [cpD, Option.map_eq_some_iff] at hd
    obtain ⟨k', hd, rfl⟩ := hd
    obtain ⟨d, e, h1, h2, h3, h4, h5⟩ := eqD_ok hx hy hd
    exact ⟨d, e, hK ▸ h1, hK ▸ h2, h3, h4, h5 ▸ q⟩
  | lt => exact ⟨_, op_lt, int fun x y k h => by cases x <;> cases y <;> simp only [cpD] at h <;> cases h; exact ⟨_, _, rfl, rfl, rfl⟩⟩
  | le => exact ⟨_, op_le, int fun x y k h => by cases x <;> cases y <;> simp only [cpD] at h <;> cases h; exact ⟨_, _, rfl, rfl, rfl⟩⟩
  | gt => exact ⟨_, op_gt, int fun x y k h => by cases x <;> cases y <;> simp only [cpD] at h <;> cases h; exact ⟨_, _, rfl, rfl, rfl⟩⟩
  | ge => exact ⟨_, op_ge, int fun x y k h => by cases x <;> cases y <;> simp only [cpD] at h <;> cases h; exact ⟨_, _, rfl, rfl, rfl⟩⟩
theorem cpOf_ne (o : Cp) : cpOf o ≠ .In ∧ cpOf o ≠ .NotIn := by cases o <;> exact ⟨by decide, by decide⟩
theorem e_cmp (o : Cp) (hK : X.K = T.K) (hu : X.A.units + 64 < cLine) (ha : PE X a (SE T W ra)) (hb : PE X b (SE T W rb)) : PE X (.Compare a [cpOf o] [b] pos) (SE T W fun e S => (ra e S).bind fun x S => (rb e S).bind fun y S => lift ((cpD o x y).map .bl) S) := by
  obtain ⟨r, h1, h2⟩ := cp_all (X := X) (T := T) o hK hu
  refine e_bin (f := fun x y => (cpD o x y).map .bl) (pe_cmpR h1 ha hb (nomark _ (cpOf_ne o).1 (cpOf_ne o).2)) fun ρ S H x y v w d Q hR hx hy hd q => ?_
  obtain ⟨k, hk, rfl⟩ := Option.map_eq_some_iff.mp hd
  exact h2 ρ S H x y v w k Q hR hx hy hk (q H _ hR .refl (by simp only [Rep]))
theorem t_cmp (o : Cp) (hK : X.K = T.K) (hu : X.A.units + 64 < cLine) (ha : PE X a (SE T W ra)) (hb : PE X b (SE T W rb)) : PT X (.Compare a [cpOf o] [b] pos) (ST T W (tst fun e S => (ra e S).bind fun x S => (rb e S).bind fun y S => lift ((cpD o x y).map .bl) S)) := by
  obtain ⟨r, h1, h2⟩ := cp_all (X := X) (T := T) o hK hu
  refine PTi (pt_cmpR h1 ha hb (nomark _ (cpOf_ne o).1 (cpOf_ne o).2)) fun σ H Q ⟨ρ, e, S, hR, hE, hp⟩ => ?_
  have hp : Po T RB ρ S H (Wc T W σ) Q ((ra e S).bind fun x S => (rb e S).bind fun y S => (lift ((cpD o x y).map .bl) S).bind fun x S => lift (truD S x) S) := by
    simpa only [tst, Out.bind_assoc] using hp
  refine ⟨ρ, e, S, hR, hE, hp.bind fun x S1 ρ1 H1 v hR1 hS1 hx hp1 => ⟨ρ1, e, S1, hR1, hE.stp hS1, hp1.bind fun y S2 ρ2 H2 w hR2 hS2 hy hp2 => ?_⟩⟩
  cases hk : cpD o x y with
  | none => rw [hk] at hp2; exact False.elim hp2
  | some k =>
    rw [hk] at hp2
    exact h2 ρ2 S2 H2 x y v w k _ hR2 (hx.stp hS2) hy hk ⟨k, rfl, hp2 ρ2 H2 k hR2 .refl rfl⟩
/-- is None, is not None -/
theorem e_isN {no : Bool} {j : Nat} {p : Pos} (ha : PE X a (SE T W ra)) : PE X (.Compare a [if no then .IsNot else .Is] [.Constant .none j p] pos) (SE T W fun e S => (ra e S).bind fun x S => match x with | .non => .ok (.bl (!no)) S | .loc _ => .bad | _ => .ok (.bl no) S) := by
  have key : ∀ (x : D) (ρ S H We) (v : V) (Q : VK), Rl T ρ S H → Rep T ρ (vis ρ S H) x v → Po T (RD T) ρ S H We Q (match x with | .non => .ok (.bl (!no)) S | .loc _ => .bad | _ => .ok (.bl no) S) → Q (.bl (if no then !decide (v = .non) else decide (v = .non))) H := by
    intro x ρ S H We v Q hR hx hp
    cases x <;> simp only at hp <;> first
      | exact False.elim hp
      | (simp only [Rep] at hx
         first
          | (subst hx; have z := hp ρ H _ hR .refl (by simp only [Rep]; rfl); cases no <;> simpa using z)
          | (obtain ⟨_, hx⟩ := hx
             first
              | (obtain ⟨rfl, _⟩ := hx; have z := hp ρ H _ hR .refl (by simp only [Rep]; rfl); cases no <;> simpa using z)
              | (obtain ⟨_, rfl, _⟩ := hx; have z := hp ρ H _ hR .refl (by simp only [Rep]; rfl); cases no <;> simpa using z)))
  cases no with
  | false =>
    exact PEi (pe_cmp (pc_isN ha) rfl) fun σ H Q ⟨ρ, e, S, hR, hE, hp⟩ => ⟨ρ, e, S, hR, hE, hp.bind fun x S1 ρ1 H1 v hR1 hS1 hx hp1 => key x ρ1 S1 H1 _ v Q hR1 hx hp1⟩
  | true =>
    exact PEi (pe_cmp (pc_notN ha) rfl) fun σ H Q ⟨ρ, e, S, hR, hE, hp⟩ => ⟨ρ, e, S, hR, hE, hp.bind fun x S1 ρ1 H1 v hR1 hS1 hx hp1 => key x ρ1 S1 H1 _ v Q hR1 hx hp1⟩
end
end Ev

set_option Elab.async false
set_option linter.all false
set_option maxRecDepth 100000
/-! Ev, part D: tests, argument lists, displays, subscripts, built-ins. -/
namespace Ev
open PySem PySem.Spec PyProof.Rows L2

theorem tru_ok' {T : Tb} {ρ : Pl} {S : Sto} {H : Hp} {d : D} {v : V} {k : Bool} (hR : Rl T ρ S H) (h : Rep T ρ (vis ρ S H) d v) (e : truD S d = some k) : TruV T.K v H k := by
  have emp : ∀ {ds : List D} {vs : List V}, Reps T ρ (vis ρ S H) ds vs → (!ds.isEmpty) = (!vs.isEmpty) := fun {ds vs} r => by
    cases ds with
    | nil => rw [r.isnil]; rfl
    | cons _ _ => obtain ⟨_, _, e, _⟩ := r.uncons; rw [e]; rfl
  cases d with
  | non => simp only [Rep, truD, Option.some.injEq] at h e; subst h; subst e; rfl
  | bl b => simp only [Rep, truD, Option.some.injEq] at h e; subst h; subst e; rfl
  | int b => simp only [Rep, truD, Option.some.injEq] at h e; subst h; subst e; rfl
  | tup xs =>
    simp only [Rep, truD, Option.some.injEq] at h e
    obtain ⟨a, vs, rfl, s, r⟩ := h
    exact .inr (.inl ⟨vs, SqT.mono vis_sub s, by rw [← e]; exact emp r⟩)
  | lst xs =>
    simp only [Rep, truD, Option.some.injEq] at h e
    obtain ⟨a, vs, rfl, s, r⟩ := h
    exact .inl ⟨vs, SqL.of (vis_sub _ _ s), by rw [← e]; exact emp r⟩
  | loc n =>
    simp only [Rep] at h
    obtain ⟨a, rfl, ha⟩ := h
    simp only [truD] at e
    split at e
    · rename_i xs hxs
      cases e
      obtain ⟨a', vs, e1, e2, e3, _⟩ := hR.at_ n xs hxs
      rw [ha] at e1; cases e1
      exact .inl ⟨vs, SqL.of e2, emp e3⟩
    · cases e
  | _ => simp [truD] at e

section
variable {X : Cx} {T : Tb} {W : WX} {pos : Pos} {a b c : Expr} {es rest : List Expr} {ra rb rc : Lenv → Sto → Out D} {rs : Lenv → Sto → Out (List D)}

theorem t_truth (hK : X.K = T.K) (ha : PE X a (SE T W ra)) (he : ∀ whole, isTrue a X.env whole = (do let v ← whole; standAt a.pos; holding [v] (truthy v))) : PT X a (ST T W (tst ra)) :=
  PTi (pt_truth ha he) fun σ H Q ⟨ρ, e, S, hR, hE, hp⟩ => ⟨ρ, e, S, hR, hE, Po.bind hp fun x S1 ρ1 H1 v hR1 hS1 hx hp1 => by
    obtain ⟨k, hk, q⟩ := hp1.lift
    exact ⟨k, hK ▸ tru_ok' hR1 hx hk, q ρ1 H1 k hR1 .refl rfl⟩⟩
theorem e_not (hK : X.K = T.K) (ha : PE X a (SE T W ra)) : PE X (.UnaryOp .Not a pos) (SE T W fun e S => (ra e S).bind fun x S => lift ((truD S x).map fun b => .bl (!b)) S) :=
  PEi (pe_notT ha) fun σ H Q ⟨ρ, e, S, hR, hE, hp⟩ => ⟨ρ, e, S, hR, hE, hp.bind fun x S1 ρ1 H1 v hR1 hS1 hx hp1 => by
    obtain ⟨d, hd, q⟩ := hp1.lift
    obtain ⟨k, hk, rfl⟩ := Option.map_eq_some_iff.mp hd
    exact ⟨k, hK ▸ tru_ok' hR1 hx hk, q ρ1 H1 _ hR1 .refl (by simp only [Rep])⟩⟩
theorem t_not (ha : PT X a (ST T W (tst ra))) : PT X (.UnaryOp .Not a pos) (ST T W (tst fun e S => (ra e S).bind fun x S => lift ((truD S x).map fun b => .bl (!b)) S)) := by
  refine PTi (pt_not ha) fun σ H Q ⟨ρ, e, S, hR, hE, hp⟩ => ⟨ρ, e, S, hR, hE, ?_⟩
  simp only [tst] at hp ⊢
  generalize ra e S = o at hp ⊢
  cases o with
  | err c S1 => exact hp
  | bad => exact hp
  | ok x S1 =>
    simp only [Out.bind] at hp ⊢
    generalize truD S1 x = k at hp ⊢
    cases k with
    | none => exact hp
    | some k =>
      intro ρ' H' b r s q
      exact hp ρ' H' (!b) r s (by subst q; rfl)

/-- and, or by values -/
theorem e_and (hK : X.K = T.K) (ha : PE X a (SE T W ra)) (hb : PE X (.BoolOp .And (b :: rest) pos) (SE T W rb)) :
    PE X (.BoolOp .And (a :: b :: rest) pos) (SE T W fun e S => (ra e S).bind fun x S => match truD S x with | some true => rb e S | some false => .ok x S | none => .bad) :=
  PEi (pe_andT ha hb) fun σ H Q ⟨ρ, e, S, hR, hE, hp⟩ => ⟨ρ, e, S, hR, hE, hp.bind fun x S1 ρ1 H1 v hR1 hS1 hx hp1 => by
    cases hk : truD S1 x with
    | none => rw [hk] at hp1; exact False.elim hp1
    | some k =>
      rw [hk] at hp1
      refine ⟨k, hK ▸ tru_ok' hR1 hx hk, ?_⟩
      cases k with
      | true => exact ⟨ρ1, e, S1, hR1, hE.stp hS1, hp1⟩
      | false => exact hp1 ρ1 H1 v hR1 .refl hx⟩
theorem e_or (hK : X.K = T.K) (ha : PE X a (SE T W ra)) (hb : PE X (.BoolOp .Or (b :: rest) pos) (SE T W rb)) :
    PE X (.BoolOp .Or (a :: b :: rest) pos) (SE T W fun e S => (ra e S).bind fun x S => match truD S x with | some true => .ok x S | some false => rb e S | none => .bad) :=
  PEi (pe_orT ha hb) fun σ H Q ⟨ρ, e, S, hR, hE, hp⟩ => ⟨ρ, e, S, hR, hE, hp.bind fun x S1 ρ1 H1 v hR1 hS1 hx hp1 => by
    cases hk : truD S1 x with
    | none => rw [hk] at hp1; exact False.elim hp1
    | some k =>
      rw [hk] at hp1
      refine ⟨k, hK ▸ tru_ok' hR1 hx hk, ?_⟩
      cases k with
      | false => exact ⟨ρ1, e, S1, hR1, hE.stp hS1, hp1⟩
      | true => exact hp1 ρ1 H1 v hR1 .refl hx⟩
theorem w_and (ha : PT X a (ST T W (tst ra))) (hb : PW X (.BoolOp .And (b :: rest) pos) (ST T W (tst rb))) :
    PW X (.BoolOp .And (a :: b :: rest) pos) (ST T W (tst fun e S => (ra e S).bind fun x S => match truD S x with | some true => rb e S | some false => .ok x S | none => .bad)) := by
  refine PWi (pw_and ha hb) fun σ H Q ⟨ρ, e, S, hR, hE, hp⟩ => ⟨ρ, e, S, hR, hE, ?_⟩
  simp only [tst] at hp ⊢
  generalize ra e S = o at hp ⊢
  cases o with
  | err c S1 => exact hp
  | bad => exact hp
  | ok x S1 =>
    simp only [Out.bind] at hp ⊢
    cases hk : truD S1 x with
    | none => rw [hk] at hp; exact hp
    | some k =>
      cases k with
      | true =>
        intro ρ' H' b r s q
        subst q
        simp only [hk] at hp
        exact ⟨ρ', e, S1, r, hE.stp s, Po.stp s hp⟩
      | false =>
        intro ρ' H' b r s q
        subst q
        simp only [hk] at hp
        exact hp ρ' H' false r s rfl
theorem w_or (ha : PT X a (ST T W (tst ra))) (hb : PW X (.BoolOp .Or (b :: rest) pos) (ST T W (tst rb))) :
    PW X (.BoolOp .Or (a :: b :: rest) pos) (ST T W (tst fun e S => (ra e S).bind fun x S => match truD S x with | some true => .ok x S | some false => rb e S | none => .bad)) := by
  refine PWi (pw_or ha hb) fun σ H Q ⟨ρ, e, S, hR, hE, hp⟩ => ⟨ρ, e, S, hR, hE, ?_⟩
  simp only [tst] at hp ⊢
  generalize ra e S = o at hp ⊢
  cases o with
  | err c S1 => exact hp
  | bad => exact hp
  | ok x S1 =>
    simp only [Out.bind] at hp ⊢
    cases hk : truD S1 x with
    | none => rw [hk] at hp; exact hp
    | some k =>
      cases k with
      | true =>
        intro ρ' H' b r s q
        subst q
        simp only [hk] at hp
        exact hp ρ' H' true r s rfl
      | false =>
        intro ρ' H' b r s q
        subst q
        simp only [hk] at hp
        exact ⟨ρ', e, S1, r, hE.stp s, Po.stp s hp⟩
theorem e_ite (hc : PT X c (ST T W (tst rc))) (ha : PE X a (SE T W ra)) (hb : PE X b (SE T W rb)) :
    PE X (.IfExp c a b pos) (SE T W fun e S => (rc e S).bind fun x S => match truD S x with | some true => ra e S | some false => rb e S | none => .bad) := by
  refine PEi (pe_ifExp hc ha hb) fun σ H Q ⟨ρ, e, S, hR, hE, hp⟩ => ⟨ρ, e, S, hR, hE, ?_⟩
  simp only [tst] at hp ⊢
  generalize rc e S = o at hp ⊢
  cases o with
  | err c S1 => exact hp
  | bad => exact hp
  | ok x S1 =>
    simp only [Out.bind] at hp ⊢
    cases hk : truD S1 x with
    | none => rw [hk] at hp; exact hp
    | some k =>
      cases k with
      | true =>
        intro ρ' H' b r s q
        subst q
        simp only [hk] at hp
        exact ⟨ρ', e, S1, r, hE.stp s, Po.stp s hp⟩
      | false =>
        intro ρ' H' b r s q
        subst q
        simp only [hk] at hp
        exact ⟨ρ', e, S1, r, hE.stp s, Po.stp s hp⟩

/-! ### argument lists -/
theorem a_nil : PA X [] (SA T W fun _ S => .ok [] S) := PAi pa_nil fun σ H Q ⟨ρ, e, S, hR, hE, hp⟩ => hp ρ H [] hR .refl .nil
theorem a_cons (ha : PE X a (SE T W ra)) (hr : PA X es (SA T W rs)) (hs : starEach (a :: es) X.env = (false, eval a X.env) :: starEach es X.env) :
    PA X (a :: es) (SA T W fun e S => (ra e S).bind fun x S => (rs e S).bind fun xs S => .ok (x :: xs) S) :=
  PAi (pa_cons ha hr hs) fun σ H Q ⟨ρ, e, S, hR, hE, hp⟩ => ⟨ρ, e, S, hR, hE, hp.bind fun x S1 ρ1 H1 v hR1 hS1 hx hp1 => ⟨ρ1, e, S1, hR1, hE.stp hS1, hp1.bind fun xs S2 ρ2 H2 vs hR2 hS2 hxs hp2 =>
    hp2 ρ2 H2 (v :: vs) hR2 .refl (.cons (hx.stp hS2) hxs)⟩⟩

/-! ### displays -/
theorem e_tup {k : Nat} (h : PA X es (SA T W rs)) : PE X (.Tuple es k pos) (SE T W fun e S => (rs e S).bind fun vs S => if vs.length ≤ big then .ok (.tup vs) S else .bad) :=
  PEi (pe_tup h) fun σ H Q ⟨ρ, e, S, hR, hE, hp⟩ => ⟨ρ, e, S, hR, hE, hp.bind fun ds S1 ρ1 H1 vs hR1 hS1 hx hp1 => by
    split at hp1
    · rename_i hl
      exact ⟨by rw [hx.length, ← bigline]; exact hl, fun p hn => hp1 ρ1 _ _ (hR1.push hn) (hR1.stpush hn) (rep_newT hR1 hn hx)⟩
    · exact False.elim hp1⟩
theorem e_lst (h : PA X es (SA T W rs)) : PE X (.List es pos) (SE T W fun e S => (rs e S).bind fun vs S => if vs.length ≤ big then .ok (.lst vs) S else .bad) :=
  PEi (pe_lst h) fun σ H Q ⟨ρ, e, S, hR, hE, hp⟩ => ⟨ρ, e, S, hR, hE, hp.bind fun ds S1 ρ1 H1 vs hR1 hS1 hx hp1 => by
    split at hp1
    · rename_i hl
      exact ⟨by rw [hx.length, ← bigline]; exact hl, fun p hn => hp1 ρ1 _ _ (hR1.push hn) (hR1.stpush hn) (rep_new hR1 hn hx)⟩
    · exact False.elim hp1⟩
theorem lay_rep {ρ : Pl} {S : Sto} {H : Hp} {p : Addr} (hR : Rl T ρ S H) : Rep T (ρ.app p) H (.loc S.length) (.ref p) := by
  simp only [Rep]
  exact ⟨p, rfl, by rw [← hR.len]; simp [Pl.app]⟩
theorem e_loc (h : PA X es (SA T W rs)) : PE X (.List es pos) (SE T W fun e S => (rs e S).bind fun vs S => if vs.length ≤ big && D.fitsL S.length vs then .ok (.loc S.length) (S ++ [some vs]) else .bad) :=
  PEi (pe_lst h) fun σ H Q ⟨ρ, e, S, hR, hE, hp⟩ => ⟨ρ, e, S, hR, hE, hp.bind fun ds S1 ρ1 H1 vs hR1 hS1 hx hp1 => by
    split at hp1
    · rename_i hl
      simp only [Bool.and_eq_true, decide_eq_true_eq] at hl
      refine ⟨by rw [hx.length, ← bigline]; exact hl.1, fun p hn => ?_⟩
      obtain ⟨r, s⟩ := hR1.lay hn hx hl.2
      exact hp1 _ _ _ r s (Rep.mono (fun _ _ z => z) (fun _ _ z => z) _ _ (by simpa [Rep] using lay_rep (T := T) hR1))
    · exact False.elim hp1⟩
theorem addL_lst {x y : D} {vs : List D} (h : opD .add x y = some (.lst vs)) : ∃ as bs, x = .lst as ∧ y = .lst bs ∧ as.length + bs.length ≤ big ∧ vs = as ++ bs := by
  unfold opD at h
  split at h <;> (try cases h) <;> (try contradiction)
  split at h
  · cases h
    exact ⟨_, _, rfl, rfl, by assumption, rfl⟩
  · cases h
theorem e_locC (ha : PE X a (SE T W ra)) (hb : PE X b (SE T W rb)) : PE X (.BinOp a .Add b pos) (SE T W fun e S => (ra e S).bind fun x S => (rb e S).bind fun y S => match opD .add x y with
    | some (.lst vs) => (if D.fitsL S.length vs then .ok (.loc S.length) (S ++ [some vs]) else .bad)
    | _ => .bad) :=
  PEi (pe_op op_cat ha hb) fun σ H Q ⟨ρ, e, S, hR, hE, hp⟩ => ⟨ρ, e, S, hR, hE, hp.bind fun x S1 ρ1 H1 v hR1 hS1 hx hp1 => ⟨ρ1, e, S1, hR1, hE.stp hS1, hp1.bind fun y S2 ρ2 H2 w hR2 hS2 hy hp2 => by
    have hx := hx.stp hS2
    split at hp2
    · rename_i vs hop
      obtain ⟨as, bs, rfl, rfl, hle, rfl⟩ := addL_lst hop
      split at hp2
      · rename_i hl
        simp only [Rep] at hx hy
        obtain ⟨l, xs, rfl, s1, r1⟩ := hx
        obtain ⟨l2, ys, rfl, s2, r2⟩ := hy
        refine ⟨l, l2, xs, ys, rfl, rfl, vis_sub _ _ s1, vis_sub _ _ s2, by rw [r1.length, r2.length, ← bigline]; exact hle, fun p hn => ?_⟩
        obtain ⟨r, s⟩ := hR2.lay hn (r1.append r2) hl
        exact hp2 _ _ _ r s (Rep.mono (fun _ _ z => z) (fun _ _ z => z) _ _ (by simpa [Rep] using lay_rep (T := T) hR2))
      · exact False.elim hp2
    · exact False.elim hp2⟩⟩
/-- a list that may change is held as it is -/
theorem e_frz (ha : PE X a (SE T W ra)) : PE X a (SE T W fun e S => (ra e S).bind fun x S => match x with | .loc n => (match S[n]? with | some (some xs) => .ok (.lst xs) (S.set n none) | _ => .bad) | _ => .bad) :=
  PEi ha fun σ H Q ⟨ρ, e, S, hR, hE, hp⟩ => ⟨ρ, e, S, hR, hE, hp.bind fun x S1 ρ1 H1 v hR1 hS1 hx hp1 => by
    cases x with
    | loc n =>
      simp only at hp1
      split at hp1
      · rename_i xs hxs
        obtain ⟨r, s, a, vs, e1, e2, e3⟩ := hR1.hold hxs
        simp only [Rep] at hx
        obtain ⟨a', rfl, e1'⟩ := hx
        rw [e1] at e1'; cases e1'
        exact hp1 ρ1 H1 _ r s (by simp only [Rep]; exact ⟨a, vs, rfl, e2, e3⟩)
      · exact False.elim hp1
    | _ => exact False.elim hp1⟩

/-! ### subscripts -/
theorem e_idx (hK : X.K = T.K) (ha : PE X a (SE T W ra)) (hb : PE X b (SE T W rb)) (hs : PlainIx b) : PE X (.Subscript a b pos) (SE T W fun e S => (ra e S).bind fun x S => (rb e S).bind fun y S => lift (ixD x y S) S) :=
  PEi (pe_ix (ix_list.or ix_tup) ha hb hs) fun σ H Q ⟨ρ, e, S, hR, hE, hp⟩ => ⟨ρ, e, S, hR, hE, hp.bind fun x S1 ρ1 H1 v hR1 hS1 hx hp1 => ⟨ρ1, e, S1, hR1, hE.stp hS1, hp1.bind fun y S2 ρ2 H2 w hR2 hS2 hy hp2 => by
    obtain ⟨d, hd, q⟩ := hp2.lift
    have hx2 := hx.stp hS2
    cases y with
    | int i =>
      simp only [Rep] at hy
      subst hy
      cases x with
      | tup xs =>
        simp only [ixD] at hd
        simp only [Rep] at hx2
        obtain ⟨p, vs, rfl, s, r⟩ := hx2
        obtain ⟨z, h1, h2⟩ := r.atI hd
        exact .inr ⟨p, vs, i, z, rfl, rfl, hK ▸ SqT.mono vis_sub s, h1, q ρ2 H2 z hR2 .refl h2⟩
      | lst xs =>
        simp only [ixD] at hd
        simp only [Rep] at hx2
        obtain ⟨p, vs, rfl, s, r⟩ := hx2
        obtain ⟨z, h1, h2⟩ := r.atI hd
        exact .inl ⟨p, vs, i, z, rfl, rfl, SqL.of (vis_sub _ _ s), h1, q ρ2 H2 z hR2 .refl h2⟩
      | scr xs =>
        simp only [ixD, Option.map_eq_some_iff] at hd
        obtain ⟨n, hn, rfl⟩ := hd
        simp only [Rep] at hx2
        obtain ⟨p, rfl, s, _⟩ := hx2
        have hv : L2.atI (xs.map V.int) i = some (.int n) := by
          unfold L2.atI at hn ⊢
          rw [List.length_map]
          cases z : ixN xs.length i with
          | none => rw [z] at hn; cases hn
          | some j => rw [z] at hn; simp only [Option.bind] at hn ⊢; rw [List.getElem?_map, hn]; rfl
        exact .inl ⟨p, _, i, _, rfl, rfl, hK ▸ vis_sub.seq s, hv, q ρ2 H2 _ hR2 .refl (by simp only [Rep])⟩
      | loc n =>
        simp only [ixD] at hd
        split at hd
        · rename_i xs hxs
          simp only [Rep] at hx2
          obtain ⟨p, rfl, hp⟩ := hx2
          obtain ⟨p', vs, e1, e2, e3, _⟩ := hR2.at_ n xs hxs
          rw [hp] at e1; cases e1
          obtain ⟨z, h1, h2⟩ := e3.atI hd
          exact .inl ⟨p, vs, i, z, rfl, rfl, SqL.of e2, h1, q ρ2 H2 z hR2 .refl h2⟩
        · cases hd
      | _ => simp [ixD] at hd
    | _ => cases x <;> simp [ixD] at hd⟩⟩
end
end Ev

set_option Elab.async false
set_option linter.all false
set_option maxRecDepth 100000
/-! Ev, part E: built-ins, slices, methods, what is walked, comprehensions. -/
namespace Ev
open PySem PySem.Spec PyProof.Rows L2

section
variable {X : Cx} {T : Tb} {W : WX} {pos p : Pos} {a b c : Expr} {es : List Expr} {ra rb rc : Lenv → Sto → Out D} {rs : Lenv → Sto → Out (List D)}

/-- a built-in by values -/
theorem e_fun {e : Expr} {r : List V → Hp → VK → Prop} {f : List D → Sto → Option D} (h : PE X e (tCB r (SA T W rs)))
    (hr : ∀ ρ S H ds vs d Q, Rl T ρ S H → Reps T ρ (vis ρ S H) ds vs → f ds S = some d → (∀ H' z, Rl T ρ S H' → Stp ρ S H ρ S H' → Rep T ρ (vis ρ S H') d z → Q z H') → r vs H Q) :
    PE X e (SE T W fun e S => (rs e S).bind fun vs S => lift (f vs S) S) :=
  PEi h fun σ H Q ⟨ρ, e, S, hR, hE, hp⟩ => ⟨ρ, e, S, hR, hE, hp.bind fun ds S1 ρ1 H1 vs hR1 hS1 hx hp1 => by
    obtain ⟨d, hd, q⟩ := hp1.lift
    exact hr ρ1 S1 H1 ds vs d Q hR1 hx hd fun H' z r s k => q ρ1 H' z r s k⟩

def nmB : B1 → Str
  | .len => "len" | .abs => "abs" | .int => "int" | .all => "all" | .any => "any" | .sum => "sum" | .list => "list" | .tuple => "tuple" | .gcd => "gcd" | .min2 => "min" | .max2 => "max"
theorem vals_one {ρ : Pl} {H : Hp} {d : D} {vs : List V} (h : Reps T ρ H [d] vs) : ∃ v, vs = [v] ∧ Rep T ρ H d v := by
  obtain ⟨v, r, e, h1, h2⟩ := h.uncons
  rw [h2.isnil] at e
  exact ⟨v, e, h1⟩
theorem vals_two {ρ : Pl} {H : Hp} {d d' : D} {vs : List V} (h : Reps T ρ H [d, d'] vs) : ∃ v w, vs = [v, w] ∧ Rep T ρ H d v ∧ Rep T ρ H d' w := by
  obtain ⟨v, r, e, h1, h2⟩ := h.uncons
  obtain ⟨w, e2, h3⟩ := vals_one h2
  rw [e2] at e
  exact ⟨v, w, e, h1, h3⟩
theorem b1D_list {ds : List D} {S : Sto} {d : D} (h : b1D .list ds S = some d) : ∃ xs, (ds = [.tup xs] ∨ ds = [.lst xs]) ∧ d = .lst xs := by
  match ds, h with
  | [.tup xs], h => exact ⟨xs, .inl rfl, (Option.some.inj h).symm⟩
  | [.lst xs], h => exact ⟨xs, .inr rfl, (Option.some.inj h).symm⟩
  | [.non], h => simp [b1D] at h
  | [.bl _], h => simp [b1D] at h
  | [.int _], h => simp [b1D] at h
  | [.str _], h => simp [b1D] at h
  | [.loc _], h => simp [b1D] at h
  | [.fn _], h => simp [b1D] at h
  | [.scr _], h => simp [b1D] at h
  | [.exc _], h => simp [b1D] at h
  | [], h => simp [b1D] at h
  | _ :: _ :: _, h => simp [b1D] at h
theorem seqD {ρ : Pl} {S : Sto} {H : Hp} {K : PySem.W.Frag} (hK : K = T.K) {xs : List D} {v : V} {d : D} (hd : d = .tup xs ∨ d = .lst xs) (h : Rep T ρ (vis ρ S H) d v) : ∃ q vs, v = .ref q ∧ (SqL K H q vs ∨ SqT K H q vs) ∧ Reps T ρ (vis ρ S H) xs vs := by
  rcases hd with rfl | rfl
  · simp only [Rep] at h
    obtain ⟨q, vs, e, s, r⟩ := h
    exact ⟨q, vs, e, .inr (hK ▸ SqT.mono vis_sub s), r⟩
  · simp only [Rep] at h
    obtain ⟨q, vs, e, s, r⟩ := h
    exact ⟨q, vs, e, .inl (SqL.of (vis_sub _ _ s)), r⟩

theorem e_blt (k : B1) (hK : X.K = T.K) (hc : X.calm = true) (hg : Gl X (nmB k)) (hm : X.mg (nmB k) = if k = .gcd then some (.builtin "math.gcd") else none) (h : PA X (a :: es) (SA T W rs))
    (he : starEach (a :: es) X.env = (false, eval a X.env) :: starEach es X.env) (hpl : (backTo pos (starEach es X.env)).any (·.1) = false) :
    PE X (.Call (.Name (nmB k) p) (a :: es) [] pos) (SE T W fun e S => (rs e S).bind fun vs S => lift (b1D k vs S) S) := by
  cases k with
  | len =>
    refine e_fun (f := b1D .len) (pe_callB call_len hg hm boot_len h (by decide) (by decide) he hpl) fun ρ S H ds vs d Q hR hx hd q => ?_
    match ds, hd with
    | [.tup xs], hd =>
      cases hd
      obtain ⟨v, rfl, hv⟩ := vals_one hx
      simp only [Rep] at hv
      obtain ⟨q', ws, rfl, s, r⟩ := hv
      exact ⟨_, xs.length, rfl, .inr ⟨ws, hK ▸ SqT.mono vis_sub s, r.length.symm⟩, q H _ hR .refl (by simp only [Rep])⟩
    | [.lst xs], hd =>
      cases hd
      obtain ⟨v, rfl, hv⟩ := vals_one hx
      simp only [Rep] at hv
      obtain ⟨q', ws, rfl, s, r⟩ := hv
      exact ⟨_, xs.length, rfl, .inl ⟨ws, SqL.of (vis_sub _ _ s), r.length.symm⟩, q H _ hR .refl (by simp only [Rep])⟩
    | [.scr xs], hd =>
      cases hd
      obtain ⟨v, rfl, hv⟩ := vals_one hx
      simp only [Rep] at hv
      obtain ⟨q', rfl, s, _⟩ := hv
      exact ⟨_, xs.length, rfl, .inl ⟨_, hK ▸ vis_sub.seq s, by rw [List.length_map]⟩, q H _ hR .refl (by simp only [Rep])⟩
    | [.loc n], hd =>
      simp only [b1D] at hd
      split at hd
      · rename_i xs hxs
        cases hd
        obtain ⟨v, rfl, hv⟩ := vals_one hx
        simp only [Rep] at hv
        obtain ⟨q', rfl, hq⟩ := hv
        obtain ⟨q2, ws, e1, e2, e3, _⟩ := hR.at_ n xs hxs
        rw [hq] at e1; cases e1
        exact ⟨_, xs.length, rfl, .inl ⟨ws, SqL.of e2, e3.length.symm⟩, q H _ hR .refl (by simp only [Rep])⟩
      · cases hd
    | [.non], h => simp [b1D] at h
    | [.bl _], h => simp [b1D] at h
    | [.int _], h => simp [b1D] at h
    | [.str _], h => simp [b1D] at h
    | [.fn _], h => simp [b1D] at h
    | [.exc _], h => simp [b1D] at h
    | [], h => simp [b1D] at h
    | _ :: _ :: _, h => simp [b1D] at h
  | abs =>
    refine e_fun (f := b1D .abs) (pe_callB call_abs hg hm boot_abs h (by decide) (by decide) he hpl) fun ρ S H ds vs d Q hR hx hd q => ?_
    match ds, hd with
    | [.int i], hd =>
      cases hd
      obtain ⟨v, rfl, hv⟩ := vals_one hx
      simp only [Rep] at hv
      subst hv
      exact ⟨i, rfl, q H _ hR .refl (by simp only [Rep])⟩
    | [.non], h => simp [b1D] at h
    | [.bl _], h => simp [b1D] at h
    | [.tup _], h => simp [b1D] at h
    | [.lst _], h => simp [b1D] at h
    | [.loc _], h => simp [b1D] at h
    | [.scr _], h => simp [b1D] at h
    | [.str _], h => simp [b1D] at h
    | [.fn _], h => simp [b1D] at h
    | [.exc _], h => simp [b1D] at h
    | [], h => simp [b1D] at h
    | _ :: _ :: _, h => simp [b1D] at h
  | int =>
    refine e_fun (f := b1D .int) (pe_callTy call_int1 hg hm boot_int h (by decide) (by decide) he hpl) fun ρ S H ds vs d Q hR hx hd q => ?_
    match ds, hd with
    | [.int i], hd =>
      cases hd
      obtain ⟨v, rfl, hv⟩ := vals_one hx
      simp only [Rep] at hv
      subst hv
      exact .inl ⟨i, rfl, q H _ hR .refl (by simp only [Rep])⟩
    | [.bl i], hd =>
      cases hd
      obtain ⟨v, rfl, hv⟩ := vals_one hx
      simp only [Rep] at hv
      subst hv
      exact .inr ⟨i, rfl, q H _ hR .refl (by simp only [Rep])⟩
    | [.non], h => simp [b1D] at h
    | [.tup _], h => simp [b1D] at h
    | [.lst _], h => simp [b1D] at h
    | [.loc _], h => simp [b1D] at h
    | [.scr _], h => simp [b1D] at h
    | [.str _], h => simp [b1D] at h
    | [.fn _], h => simp [b1D] at h
    | [.exc _], h => simp [b1D] at h
    | [], h => simp [b1D] at h
    | _ :: _ :: _, h => simp [b1D] at h
  | all =>
    refine e_fun (f := b1D .all) (pe_callB (cr_all hc) hg hm boot_all h (by decide) (by decide) he hpl) fun ρ S H ds vs d Q hR hx hd q => ?_
    match ds, hd with
    | [.lst xs], hd =>
      simp only [b1D, Option.map_eq_some_iff] at hd
      obtain ⟨bs, hb, rfl⟩ := hd
      obtain ⟨v, rfl, hv⟩ := vals_one hx
      simp only [Rep] at hv
      obtain ⟨q', ws, rfl, s, r⟩ := hv
      exact ⟨q', bs, rfl, by rw [← r.bls hb]; exact SqL.of (vis_sub _ _ s), q H _ hR .refl (by simp only [Rep])⟩
    | [.non], h => simp [b1D] at h
    | [.bl _], h => simp [b1D] at h
    | [.int _], h => simp [b1D] at h
    | [.tup _], h => simp [b1D] at h
    | [.loc _], h => simp [b1D] at h
    | [.scr _], h => simp [b1D] at h
    | [.str _], h => simp [b1D] at h
    | [.fn _], h => simp [b1D] at h
    | [.exc _], h => simp [b1D] at h
    | [], h => simp [b1D] at h
    | _ :: _ :: _, h => simp [b1D] at h
  | any =>
    refine e_fun (f := b1D .any) (pe_callB (cr_any hc) hg hm boot_any h (by decide) (by decide) he hpl) fun ρ S H ds vs d Q hR hx hd q => ?_
    match ds, hd with
    | [.lst xs], hd =>
      simp only [b1D, Option.map_eq_some_iff] at hd
      obtain ⟨bs, hb, rfl⟩ := hd
      obtain ⟨v, rfl, hv⟩ := vals_one hx
      simp only [Rep] at hv
      obtain ⟨q', ws, rfl, s, r⟩ := hv
      exact ⟨q', bs, rfl, by rw [← r.bls hb]; exact SqL.of (vis_sub _ _ s), q H _ hR .refl (by simp only [Rep])⟩
    | [.non], h => simp [b1D] at h
    | [.bl _], h => simp [b1D] at h
    | [.int _], h => simp [b1D] at h
    | [.tup _], h => simp [b1D] at h
    | [.loc _], h => simp [b1D] at h
    | [.scr _], h => simp [b1D] at h
    | [.str _], h => simp [b1D] at h
    | [.fn _], h => simp [b1D] at h
    | [.exc _], h => simp [b1D] at h
    | [], h => simp [b1D] at h
    | _ :: _ :: _, h => simp [b1D] at h
  | sum =>
    refine e_fun (f := b1D .sum) (pe_callB (cr_sum hc) hg hm boot_sum h (by decide) (by decide) he hpl) fun ρ S H ds vs d Q hR hx hd q => ?_
    match ds, hd with
    | [.lst xs], hd =>
      simp only [b1D, Option.map_eq_some_iff] at hd
      obtain ⟨bs, hb, rfl⟩ := hd
      obtain ⟨v, rfl, hv⟩ := vals_one hx
      simp only [Rep] at hv
      obtain ⟨q', ws, rfl, s, r⟩ := hv
      exact ⟨q', bs, rfl, by rw [← r.ints hb]; exact SqL.of (vis_sub _ _ s), q H _ hR .refl (by simp only [Rep])⟩
    | [.non], h => simp [b1D] at h
    | [.bl _], h => simp [b1D] at h
    | [.int _], h => simp [b1D] at h
    | [.tup _], h => simp [b1D] at h
    | [.loc _], h => simp [b1D] at h
    | [.scr _], h => simp [b1D] at h
    | [.str _], h => simp [b1D] at h
    | [.fn _], h => simp [b1D] at h
    | [.exc _], h => simp [b1D] at h
    | [], h => simp [b1D] at h
    | _ :: _ :: _, h => simp [b1D] at h
  | list =>
    refine e_fun (f := b1D .list) (pe_callTy call_list_of hg hm boot_list h (by decide) (by decide) he hpl) fun ρ S H ds vs d Q hR hx hd q => ?_
    obtain ⟨xs, hds, rfl⟩ := b1D_list hd
    have hx' : ∃ dd, (dd = .tup xs ∨ dd = .lst xs) ∧ ds = [dd] := by rcases hds with e | e <;> exact ⟨_, by first | exact .inl rfl | exact .inr rfl, e⟩
    obtain ⟨dd, hdd, rfl⟩ := hx'
    obtain ⟨v, rfl, hv⟩ := vals_one hx
    obtain ⟨q', ws, rfl, s, r⟩ := seqD hK hdd hv
    exact ⟨q', ws, rfl, s, fun l hl => q _ _ (hR.push hl) (hR.stpush hl) (rep_new hR hl r)⟩
  | tuple =>
    refine e_fun (f := b1D .tuple) (pe_callTy call_tuple_of hg hm boot_tuple h (by decide) (by decide) he hpl) fun ρ S H ds vs d Q hR hx hd q => ?_
    match ds, hd with
    | [.tup xs], hd =>
      cases hd
      obtain ⟨v, rfl, hv⟩ := vals_one hx
      have hv' := hv
      simp only [Rep] at hv'
      obtain ⟨q', ws, rfl, s, r⟩ := hv'
      exact ⟨q', ws, rfl, .inr ⟨hK ▸ SqT.mono vis_sub s, q H _ hR .refl hv⟩⟩
    | [.lst xs], hd =>
      cases hd
      obtain ⟨v, rfl, hv⟩ := vals_one hx
      simp only [Rep] at hv
      obtain ⟨q', ws, rfl, s, r⟩ := hv
      exact ⟨q', ws, rfl, .inl ⟨SqL.of (vis_sub _ _ s), fun l hl => q _ _ (hR.push hl) (hR.stpush hl) (rep_newT hR hl r)⟩⟩
    | [.loc n], hd =>
      simp only [b1D] at hd
      split at hd
      · rename_i xs hxs
        cases hd
        obtain ⟨v, rfl, hv⟩ := vals_one hx
        simp only [Rep] at hv
        obtain ⟨q', rfl, hq⟩ := hv
        obtain ⟨q2, ws, e1, e2, e3, _⟩ := hR.at_ n xs hxs
        rw [hq] at e1; cases e1
        exact ⟨q', ws, rfl, .inl ⟨SqL.of e2, fun l hl => q _ _ (hR.push hl) (hR.stpush hl) (rep_newT hR hl e3)⟩⟩
      · cases hd
    | [.non], h => simp [b1D] at h
    | [.bl _], h => simp [b1D] at h
    | [.int _], h => simp [b1D] at h
    | [.str _], h => simp [b1D] at h
    | [.fn _], h => simp [b1D] at h
    | [.scr _], h => simp [b1D] at h
    | [.exc _], h => simp [b1D] at h
    | [], h => simp [b1D] at h
    | _ :: _ :: _, h => simp [b1D] at h
  | gcd =>
    refine e_fun (f := b1D .gcd) (pe_callBfun cr_gcd hg hm h (by decide) he hpl) fun ρ S H ds vs d Q hR hx hd q => ?_
    have hds : ∃ i j, ds = [.int i, .int j] ∧ d = .int ((Nat.gcd i.natAbs j.natAbs : Nat) : Int) := by
      unfold b1D at hd
      split at hd <;> first | cases hd | skip
      all_goals first | exact ⟨_, _, rfl, rfl⟩ | simp_all
    obtain ⟨i, j, rfl, rfl⟩ := hds
    obtain ⟨v, w, rfl, hv, hw⟩ := vals_two hx
    simp only [Rep] at hv hw
    subst hv; subst hw
    exact ⟨i, j, rfl, q H _ hR .refl (by simp only [Rep])⟩
  | min2 =>
    refine e_fun (f := b1D .min2) (pe_callB (call_min2 hc) hg hm boot_min h (by decide) (by decide) he hpl) fun ρ S H ds vs d Q hR hx hd q => ?_
    have hds : ∃ i j, ds = [.int i, .int j] ∧ d = .int (if j < i then j else i) := by
      unfold b1D at hd
      split at hd <;> first | cases hd | skip
      all_goals first | exact ⟨_, _, rfl, rfl⟩ | simp_all
    obtain ⟨i, j, rfl, rfl⟩ := hds
    obtain ⟨v, w, rfl, hv, hw⟩ := vals_two hx
    simp only [Rep] at hv hw
    subst hv; subst hw
    exact ⟨i, j, rfl, q H _ hR .refl (by simp only [Rep])⟩
  | max2 =>
    refine e_fun (f := b1D .max2) (pe_callB (call_max2 hc) hg hm boot_max h (by decide) (by decide) he hpl) fun ρ S H ds vs d Q hR hx hd q => ?_
    have hds : ∃ i j, ds = [.int i, .int j] ∧ d = .int (if j > i then j else i) := by
      unfold b1D at hd
      split at hd <;> first | cases hd | skip
      all_goals first | exact ⟨_, _, rfl, rfl⟩ | simp_all
    obtain ⟨i, j, rfl, rfl⟩ := hds
    obtain ⟨v, w, rfl, hv, hw⟩ := vals_two hx
    simp only [Rep] at hv hw
    subst hv; subst hw
    exact ⟨i, j, rfl, q H _ hR .refl (by simp only [Rep])⟩

/-- list(e), a list that may change -/
theorem e_locL (hK : X.K = T.K) (hg : Gl X "list") (hm : X.mg "list" = none) (ha : PE X a (SE T W ra)) (he : starEach [a] X.env = (false, eval a X.env) :: starEach [] X.env) :
    PE X (.Call (.Name "list" p) [a] [] pos) (SE T W fun e S => (ra e S).bind fun x S => match b1D .list [x] S with | some (.lst vs) => (if D.fitsL S.length vs then .ok (.loc S.length) (S ++ [some vs]) else .bad) | _ => .bad) :=
  PEi (pe_callTy call_list_of hg hm boot_list (pa_cons ha pa_nil he) (by decide) (by decide) he rfl) fun σ H Q ⟨ρ, e, S, hR, hE, hp⟩ => ⟨ρ, e, S, hR, hE, hp.bind fun x S1 ρ1 H1 v hR1 hS1 hx hp1 => by
    cases hd : b1D .list [x] S1 with
    | none => rw [hd] at hp1; exact False.elim hp1
    | some d =>
      rw [hd] at hp1
      obtain ⟨xs, hds, rfl⟩ := b1D_list hd
      have hdd : x = .tup xs ∨ x = .lst xs := by simpa using hds
      obtain ⟨q', ws, rfl, s, r⟩ := seqD hK hdd hx
      simp only at hp1
      split at hp1
      · rename_i hf
        refine ⟨q', ws, rfl, s, fun l hl => ?_⟩
        obtain ⟨r', s'⟩ := hR1.lay hl r hf
        exact hp1 _ _ _ r' s' (by simpa [Rep] using lay_rep (T := T) hR1)
      · exact False.elim hp1⟩

/-! ### isinstance -/
def nmT : Ty → String
  | .int => "int" | .bool => "bool" | .str => "str" | .list => "list" | .tuple => "tuple"
theorem bootT (t : Ty) : bootBuiltins (Str.ofString (nmT t)) = some (.type (nmT t)) := by cases t <;> decide +kernel
theorem nameT (t : Ty) : Str.ofString (nmT t) ≠ "__name__" ∧ (Str.ofString (nmT t) == ("__debug__" : Str)) = false := by cases t <;> exact ⟨by decide +kernel, by decide +kernel⟩
theorem tyX_of {ρ : Pl} {S : Sto} {H : Hp} {d : D} {v : V} {t : String} (h : Rep T ρ (vis ρ S H) d v) (e : tyD d = some t) : TyX T.K H v (.type t) := by
  cases d with
  | non => cases e; simp only [Rep] at h; subst h; exact .base .non
  | bl b => cases e; simp only [Rep] at h; subst h; exact .base (.bl b)
  | int b => cases e; simp only [Rep] at h; subst h; exact .base (.int b)
  | str b => cases e; simp only [Rep] at h; subst h; exact .base (.str b)
  | tup xs =>
    cases e
    simp only [Rep] at h
    obtain ⟨q, vs, rfl, s, _⟩ := h
    rcases SqT.mono vis_sub s with (s | ⟨o, s⟩) | ⟨o, _, _, s, k, _⟩
    · exact .base (.tup s)
    · exact .fTuple s
    · exact .kTuple s k
  | lst xs =>
    cases e
    simp only [Rep] at h
    obtain ⟨q, vs, rfl, s, _⟩ := h
    exact .base (.lst (vis_sub _ _ s))
  | _ => simp [tyD] at e
theorem kitTab : ∀ (t : String) (y : Ty), t ∈ ["NoneType", "bool", "int", "str", "tuple", "list"] → kitB t (nmT y) = some (isTy t y) := by
  intro t y ht
  simp only [List.mem_cons, List.mem_nil_iff, or_false] at ht
  rcases ht with rfl | rfl | rfl | rfl | rfl | rfl <;> cases y <;> decide +kernel
theorem tyD_mem {d : D} {t : String} (e : tyD d = some t) : t ∈ ["NoneType", "bool", "int", "str", "tuple", "list"] := by
  cases d <;> simp only [tyD, Option.some.injEq] at e <;> first | (subst e; decide) | cases e
theorem e_isi1 {t : Ty} {p2 : Pos} (hK : X.K = T.K) (hg : Gl X "isinstance") (hm : X.mg "isinstance" = none) (hgt : Gl X (Str.ofString (nmT t))) (hmt : X.mg (Str.ofString (nmT t)) = none) (ha : PE X a (SE T W ra))
    (he : ∀ r, starEach (a :: r) X.env = (false, eval a X.env) :: starEach r X.env) :
    PE X (.Call (.Name "isinstance" p) [a, .Name (Str.ofString (nmT t)) p2] [] pos) (SE T W fun e S => (ra e S).bind fun x S => lift ((isiD x [t]).map .bl) S) :=
  PEi (pe_callB call_isi hg hm boot_isinstance (pa_cons ha (pa_cons (pe_bltn (v := .ty (nmT t)) hgt hmt (bootT t) rfl (nameT t).1 (nameT t).2) pa_nil rfl) (he _)) (by decide) (by decide) (he _) rfl) fun σ H Q ⟨ρ, e, S, hR, hE, hp⟩ => ⟨ρ, e, S, hR, hE, hp.bind fun x S1 ρ1 H1 v hR1 hS1 hx hp1 => by
    obtain ⟨d, hd, q⟩ := hp1.lift
    obtain ⟨k, hk, rfl⟩ := Option.map_eq_some_iff.mp hd
    unfold isiD at hk
    obtain ⟨tn, ht, hk⟩ := Option.map_eq_some_iff.mp hk
    refine ⟨v, .ty (nmT t), .type tn, .type (nmT t), k, rfl, .ty _, hK ▸ tyX_of hx ht, ?_, q ρ1 H1 _ hR1 .refl (by simp only [Rep])⟩
    rw [kit_ty (kitTab tn t (tyD_mem ht)), ← hk]
    simp⟩
theorem tys_ok {es : List Expr} : ∀ (ts : List Ty), (∀ t ∈ ts, Gl X (Str.ofString (nmT t)) ∧ X.mg (Str.ofString (nmT t)) = none) → ∀ ps : List Pos, ps.length = ts.length →
    es = (ts.zip ps).map (fun q => Expr.Name (Str.ofString (nmT q.1)) q.2) → PA X es (fun _ H Q => Q (ts.map fun t => V.ty (nmT t)) H) := by
  intro ts
  induction ts generalizing es with
  | nil => intro _ ps _ e; subst e; exact PAi pa_nil fun σ H Q h => h
  | cons t ts ih =>
    intro hts ps hl e
    cases ps with
    | nil => simp at hl
    | cons q ps =>
      subst e
      refine PAi (pa_cons (pe_bltn (v := .ty (nmT t)) (hts t List.mem_cons_self).1 (hts t List.mem_cons_self).2 (bootT t) rfl (nameT t).1 (nameT t).2) (ih (fun t' h => hts t' (List.mem_cons_of_mem _ h)) ps (by simpa using hl) rfl) rfl) fun σ H Q h => h
theorem kitAny_all {K : PySem.W.Frag} {t : String} (ht : t ∈ ["NoneType", "bool", "int", "str", "tuple", "list"]) : ∀ ts : List Ty, PySem.W.kitAny K (.type t) (ts.map fun y => .type (nmT y)) = some (ts.any (isTy t))
  | [] => kitAny_nil
  | y :: ts => kitAny_cons (kit_ty (kitTab t y ht)) (fun h => by rw [kitAny_all ht ts, List.any_cons, h, Bool.false_or]) (fun h => by rw [List.any_cons, h, Bool.true_or])
theorem cls_all : ∀ ts : List Ty, Paired ClsV (ts.map fun t => V.ty (nmT t)) (ts.map fun t => Value.type (nmT t))
  | [] => .nil
  | t :: ts => .cons (.ty _) (cls_all ts)
theorem e_isiT {ts : List Ty} {ps : List Pos} {k0 : Nat} {p2 : Pos} (hK : X.K = T.K) (hg : Gl X "isinstance") (hm : X.mg "isinstance" = none) (hts : ∀ t ∈ ts, Gl X (Str.ofString (nmT t)) ∧ X.mg (Str.ofString (nmT t)) = none)
    (hl : ps.length = ts.length) (hsz : ts.length ≤ big) (ha : PE X a (SE T W ra)) (he : ∀ r, starEach (a :: r) X.env = (false, eval a X.env) :: starEach r X.env) :
    PE X (.Call (.Name "isinstance" p) [a, .Tuple ((ts.zip ps).map fun q => Expr.Name (Str.ofString (nmT q.1)) q.2) k0 p2] [] pos) (SE T W fun e S => (ra e S).bind fun x S => lift ((isiD x ts).map .bl) S) :=
  PEi (pe_callB call_isiT hg hm boot_isinstance (pa_cons ha (pa_cons (pe_tup (tys_ok ts hts ps hl rfl)) pa_nil rfl) (he _)) (by decide) (by decide) (he _) rfl) fun σ H Q ⟨ρ, e, S, hR, hE, hp⟩ => ⟨ρ, e, S, hR, hE, hp.bind fun x S1 ρ1 H1 v hR1 hS1 hx hp1 => by
    obtain ⟨d, hd, q⟩ := hp1.lift
    obtain ⟨k, hk, rfl⟩ := Option.map_eq_some_iff.mp hd
    unfold isiD at hk
    obtain ⟨tn, ht, hk⟩ := Option.map_eq_some_iff.mp hk
    refine ⟨by rw [List.length_map, ← bigline]; exact hsz, fun tp hn => ?_⟩
    refine ⟨v, tp, ts.map fun t => V.ty (nmT t), .type tn, ts.map fun t => Value.type (nmT t), k, rfl, upd_same, cls_all ts, hK ▸ tyX_of (hx.stp (hR1.stpush hn)) ht, ?_, q ρ1 _ _ (hR1.push hn) (hR1.stpush hn) (by simp only [Rep])⟩
    rw [kitAny_all (tyD_mem ht), ← hk]⟩

/-! ### slices -/
def SO (T : Tb) (W : WX) (r : Lenv → Sto → Out D) : TO := fun σ H Q => ∃ ρ e S, Rl T ρ S H ∧ EnvR T ρ S H σ e ∧ Po T (fun _ _ (d : D) (o : Option Int) => sArg d = some o) ρ S H (Wc T W σ) Q (r e S)
theorem o_none : PO X none (SO T W fun _ S => .ok .non S) := ⟨fun pins s σ H Q I ⟨ρ, e, S, hR, hE, hp⟩ => po_none.run pins s σ H Q I (hp ρ H none hR .refl rfl)⟩
theorem o_some (ha : PE X a (SE T W ra)) : PO X (some a) (SO T W fun e S => (ra e S).bind fun x S => match x with | .int i => .ok (.int i) S | _ => .bad) :=
  ⟨fun pins s σ H Q I ⟨ρ, e, S, hR, hE, hp⟩ => (po_some ha).run pins s σ H Q I ⟨ρ, e, S, hR, hE, hp.bind fun x S1 ρ1 H1 v hR1 hS1 hx hp1 => by
    cases x with
    | int i =>
      simp only [Rep] at hx
      exact ⟨i, hx, hp1 ρ1 H1 (some i) hR1 .refl rfl⟩
    | _ => exact False.elim hp1⟩⟩
theorem Reps.cut' {ρ : Pl} {H : Hp} {ds : List D} {vs : List V} (lo hi : Option Int) (h : Reps T ρ H ds vs) : Reps T ρ H (cutD ds lo hi) (cutV vs lo hi) := by
  unfold cutD cutV
  rw [h.length]
  exact (h.drop _).take _
theorem cutV_map {α : Type} (f : α → V) (xs : List α) (lo hi : Option Int) : cutV (xs.map f) lo hi = (cutD xs lo hi).map f := by
  unfold cutD cutV
  rw [List.length_map, List.map_take, List.map_drop]
theorem cutD_len {α : Type} (xs : List α) (lo hi : Option Int) : (cutD xs lo hi).length ≤ xs.length := by
  unfold cutD; rw [List.length_take, List.length_drop]; omega
theorem e_sl {lo hi : Option Expr} {rl rh : Lenv → Sto → Out D} {p2 : Pos} (hK : X.K = T.K) (ha : PE X a (SE T W ra)) (hl : PO X lo (SO T W rl)) (hh : PO X hi (SO T W rh)) :
    PE X (.Subscript a (.Slice lo hi none p2) pos) (SE T W fun e S => (ra e S).bind fun x S => (rl e S).bind fun l S => (rh e S).bind fun h S => match sArg l, sArg h with | some l, some h => lift (slD x l h) S | _, _ => .bad) :=
  PEi (pe_slice (sl_list.or sl_tup) ha hl hh) fun σ H Q ⟨ρ, e, S, hR, hE, hp⟩ => ⟨ρ, e, S, hR, hE, hp.bind fun x S1 ρ1 H1 v hR1 hS1 hx hp1 => ⟨ρ1, e, S1, hR1, hE.stp hS1, hp1.bind fun l S2 ρ2 H2 lo' hR2 hS2 hl' hp2 =>
    ⟨ρ2, e, S2, hR2, (hE.stp hS1).stp hS2, hp2.bind fun h S3 ρ3 H3 hi' hR3 hS3 hh' hp3 => by
      rw [hl', hh'] at hp3
      obtain ⟨d, hd, q⟩ := hp3.lift
      have hx3 := (hx.stp hS2).stp hS3
      cases x with
      | lst xs =>
        cases hd
        simp only [Rep] at hx3
        obtain ⟨q', ws, rfl, s, r⟩ := hx3
        exact .inl ⟨q', ws, rfl, SqL.of (vis_sub _ _ s), fun n hn => q ρ3 _ _ (hR3.push hn) (hR3.stpush hn) (rep_new hR3 hn (r.cut' lo' hi'))⟩
      | scr xs =>
        cases hd
        simp only [Rep] at hx3
        obtain ⟨q', rfl, s, _⟩ := hx3
        refine .inl ⟨q', _, rfl, hK ▸ vis_sub.seq s, fun n hn => q ρ3 _ _ (hR3.push hn) (hR3.stpush hn) (rep_new hR3 hn ?_)⟩
        rw [cutV_map]
        exact .of_ints _
      | tup xs =>
        simp only [slD] at hd
        split at hd
        · cases hd
        · rename_i hw
          cases hd
          simp only [Rep] at hx3
          obtain ⟨q', ws, rfl, s, r⟩ := hx3
          refine .inr ⟨q', ws, rfl, hK ▸ SqT.mono vis_sub s, by rw [r.length]; simpa using hw, fun n hn => q ρ3 _ _ (hR3.push hn) (hR3.stpush hn) (rep_newT hR3 hn (r.cut' lo' hi'))⟩
      | _ => cases hd⟩⟩⟩

/-! ### append, pop -/
theorem D.fitsL_app {n : Nat} : ∀ {xs ys : List D}, D.fitsL n (xs ++ ys) = (D.fitsL n xs && D.fitsL n ys)
  | [], _ => by simp [D.fitsL]
  | x :: xs, ys => by
    rw [List.cons_append]
    simp only [D.fitsL]
    rw [D.fitsL_app, Bool.and_assoc]
theorem D.fitsL_at {n : Nat} : ∀ {xs : List D} {i : Nat} {x : D}, D.fitsL n xs = true → xs[i]? = some x → D.fits n x = true
  | [], _, _, _, e => by simp at e
  | y :: xs, i, x, h, e => by
    simp only [D.fitsL, Bool.and_eq_true] at h
    cases i with
    | zero => simp at e; subst e; exact h.1
    | succ i => exact D.fitsL_at h.2 (i := i) (by simpa using e)
theorem D.fitsL_erase {n : Nat} : ∀ {xs : List D} {i : Nat}, D.fitsL n xs = true → D.fitsL n (xs.eraseIdx i) = true
  | [], _, h => h
  | y :: xs, i, h => by
    simp only [D.fitsL, Bool.and_eq_true] at h
    cases i with
    | zero => exact h.2
    | succ i =>
      simp only [List.eraseIdx_cons_succ, D.fitsL, Bool.and_eq_true]
      exact ⟨h.1, D.fitsL_erase h.2⟩
theorem D.fitsL_set {n : Nat} {x : D} (hx : D.fits n x = true) : ∀ {xs : List D} {i : Nat}, D.fitsL n xs = true → D.fitsL n (xs.set i x) = true
  | [], _, h => h
  | y :: xs, i, h => by
    simp only [D.fitsL, Bool.and_eq_true] at h
    cases i with
    | zero => simp only [List.set_cons_zero, D.fitsL, Bool.and_eq_true]; exact ⟨hx, h.2⟩
    | succ i =>
      simp only [List.set_cons_succ, D.fitsL, Bool.and_eq_true]
      exact ⟨h.1, D.fitsL_set hx h.2⟩
theorem e_app {i : Nat} {x : Str} {p3 p4 : Pos} (hN : X.N[i]? = some x) (hv : Vis X.env.scope x) (hd : (x == ("__debug__" : Str)) = false) (hcd : (x == ("__classdict__" : Str)) = false) (ha : PE X a (SE T W ra))
    (he : starEach [a] X.env = (false, eval a X.env) :: starEach [] X.env) (hline : (p4.endLine == pos.line) = true) :
    PE X (.Call (.Attribute (.Name x p3) "append" p4) [a] [] pos) (SE T W fun e S => match e.getD i none with
      | some (.loc n) => (match S[n]? with
        | some (some _) => (ra e S).bind fun x S => (match S[n]? with
          | some (some xs) => if xs.length < big && D.fits n x then .ok .non (S.set n (some (xs ++ [x]))) else .bad
          | _ => .bad)
        | _ => .bad)
      | _ => .bad) :=
  PEi (pe_bm PySem.F.plainAttrs_list PySem.F.slot_list_append PySem.F.type_list_append mt_append (pe_var hN hv hd hcd) (pa_cons ha pa_nil he) (by first | rfl | (unfold attributeBase; rfl)) (by rw [he]; rfl) hline he rfl) fun σ H Q ⟨ρ, e, S, hR, hE, hp⟩ => by
    simp only at hp
    split at hp
    · rename_i n hn
      split at hp
      · rename_i xs0 hx0
        obtain ⟨v, h1, h2⟩ := hE.get hn
        simp only [Rep] at h2
        obtain ⟨q', rfl, hq⟩ := h2
        obtain ⟨q2, ws0, e1, e2, e3, _⟩ := hR.at_ n xs0 hx0
        rw [hq] at e1; cases e1
        refine ⟨_, h1, .inl ⟨rfl, _, .inl (.inl e2)⟩, ρ, e, S, hR, hE, hp.bind fun y S1 ρ1 H1 w hR1 hS1 hy hp1 => ?_⟩
        split at hp1
        · rename_i xs hx
          split at hp1
          · rename_i hf
            simp only [Bool.and_eq_true, decide_eq_true_eq] at hf
            obtain ⟨q3, ws, f1, f2, f3, f4⟩ := hR1.at_ n xs hx
            have f1' := hS1.ext _ _ hq
            rw [f1] at f1'; cases f1'
            obtain ⟨r, s⟩ := hR1.chg hx f1 (f3.append (.cons hy .nil)) (by rw [D.fitsL_app, f4]; simp [D.fitsL, hf.2])
            exact ⟨q', ws, w, rfl, rfl, f2, by rw [f3.length, ← bigline]; exact hf.1, hp1 _ _ _ r s (by simp only [Rep])⟩
          · exact False.elim hp1
        · exact False.elim hp1
      · exact False.elim hp
    · exact False.elim hp
theorem e_pop {i : Nat} {x : Str} {p3 p4 : Pos} (hN : X.N[i]? = some x) (hv : Vis X.env.scope x) (hd : (x == ("__debug__" : Str)) = false) (hcd : (x == ("__classdict__" : Str)) = false) (ha : PE X a (SE T W ra))
    (he : starEach [a] X.env = (false, eval a X.env) :: starEach [] X.env) (hline : (p4.endLine == pos.line) = true) :
    PE X (.Call (.Attribute (.Name x p3) "pop" p4) [a] [] pos) (SE T W fun e S => match e.getD i none with
      | some (.loc n) => (match S[n]? with
        | some (some _) => (ra e S).bind fun x S => (match S[n]? with
          | some (some xs) => (match popD xs x with
            | some (y, ys) => .ok y (S.set n (some ys))
            | none => .bad)
          | _ => .bad)
        | _ => .bad)
      | _ => .bad) :=
  PEi (pe_bm PySem.F.plainAttrs_list PySem.F.slot_list_pop PySem.F.type_list_pop mt_popAt (pe_var hN hv hd hcd) (pa_cons ha pa_nil he) (by first | rfl | (unfold attributeBase; rfl)) (by rw [he]; rfl) hline he rfl) fun σ H Q ⟨ρ, e, S, hR, hE, hp⟩ => by
    simp only at hp
    split at hp
    · rename_i n hn
      split at hp
      · rename_i xs0 hx0
        obtain ⟨v, h1, h2⟩ := hE.get hn
        simp only [Rep] at h2
        obtain ⟨q', rfl, hq⟩ := h2
        obtain ⟨q2, ws0, e1, e2, e3, _⟩ := hR.at_ n xs0 hx0
        rw [hq] at e1; cases e1
        refine ⟨_, h1, .inl ⟨rfl, _, .inl (.inl e2)⟩, ρ, e, S, hR, hE, hp.bind fun y S1 ρ1 H1 w hR1 hS1 hy hp1 => ?_⟩
        split at hp1
        · rename_i xs hx
          cases hpo : popD xs y with
          | none => rw [hpo] at hp1; exact False.elim hp1
          | some r =>
            obtain ⟨z, zs⟩ := r
            rw [hpo] at hp1
            obtain ⟨q3, ws, f1, f2, f3, f4⟩ := hR1.at_ n xs hx
            have f1' := hS1.ext _ _ hq
            rw [f1] at f1'; cases f1'
            cases y with
            | int k =>
              simp only [Rep] at hy
              subst hy
              simp only [popD] at hpo
              split at hpo
              · rename_i j hj
                split at hpo
                · rename_i z' hz'
                  split at hpo
                  · rename_i hb
                    simp only [Bool.and_eq_true, decide_eq_true_eq] at hb
                    cases hpo
                    obtain ⟨u, g1, g2⟩ := f3.get hz'
                    obtain ⟨r, s⟩ := hR1.chg hx f1 (f3.eraseIdx j) (D.fitsL_erase f4)
                    exact ⟨q', ws, k, j, u, rfl, rfl, f2, hb.1, hb.2, by rw [f3.length]; exact hj, g1, hp1 _ _ _ r s (g2.stp s)⟩
                  · cases hpo
                · cases hpo
              · cases hpo
            | _ => simp [popD] at hpo
        · exact False.elim hp1
      · exact False.elim hp
    · exact False.elim hp
end
end Ev

set_option Elab.async false
set_option linter.all false
set_option maxRecDepth 100000
/-! Ev, part F: what is walked, targets, comprehensions. -/
namespace Ev
open PySem PySem.Spec PyProof.Rows L2

/-- later, maybe with more that is not to be seen -/
structure Wk (ρ : Pl) (S : Sto) (H : Hp) (ρ' : Pl) (S' : Sto) (H' : Hp) : Prop where
  ext : ∀ (n : Nat) (a : Addr), ρ.l[n]? = some a → ρ'.l[n]? = some a
  sm : Same (vis ρ S H) (vis ρ' S' H')
theorem Stp.wk {ρ ρ' : Pl} {S S' : Sto} {H H' : Hp} (x : Stp ρ S H ρ' S' H') : Wk ρ S H ρ' S' H' := ⟨x.ext, x.sm⟩
theorem Rep.wk {T : Tb} {ρ ρ' : Pl} {S S' : Sto} {H H' : Hp} {d : D} {v : V} (x : Wk ρ S H ρ' S' H') (h : Rep T ρ (vis ρ S H) d v) : Rep T ρ' (vis ρ' S' H') d v := Rep.mono x.ext x.sm d v h
theorem Reps.wk {T : Tb} {ρ ρ' : Pl} {S S' : Sto} {H H' : Hp} {d : List D} {v : List V} (x : Wk ρ S H ρ' S' H') (h : Reps T ρ (vis ρ S H) d v) : Reps T ρ' (vis ρ' S' H') d v := Reps.mono x.ext x.sm d v h
theorem EnvR.wk {T : Tb} {ρ ρ' : Pl} {S S' : Sto} {H H' : Hp} {σ : L2.St} {e : Lenv} (x : Wk ρ S H ρ' S' H') (h : EnvR T ρ S H σ e) : EnvR T ρ' S' H' σ e := ⟨h.len, fun i d q => by
  obtain ⟨v, e1, e2⟩ := h.at_ i d q
  exact ⟨v, e1, e2.wk x⟩⟩
/-- J walks the data ds, whatever happens to what may change -/
def Wlk (T : Tb) (ρ0 : Pl) (S0 : Sto) (H0 : Hp) (J : It) (ds : List D) : Prop := ∀ ρ S H, Wk ρ0 S0 H0 ρ S H → Rl T ρ S H →
  (∀ i d, ds[i]? = some d → J.go i H ∧ ∀ x H', J.yld i H x H' → Rl T ρ S H' ∧ Stp ρ S H ρ S H' ∧ Rep T ρ (vis ρ S H') d x) ∧ J.stop ds.length H
def PoI (T : Tb) (ρ : Pl) (S : Sto) (H : Hp) (We : Nat → Hp → Prop) (R : It → Hp → Prop) : Out (List D) → Prop
  | .ok ds S' => ∀ ρ' H' J, Rl T ρ' S' H' → Stp ρ S H ρ' S' H' → Wlk T ρ' S' H' J ds → R J H'
  | .err c S' => ∀ ρ' H', Rl T ρ' S' H' → Stp ρ S H ρ' S' H' → We c H'
  | .bad => False
def SI (T : Tb) (W : WX) (r : Lenv → Sto → Out (List D)) : TI := fun σ H R => ∃ ρ e S, Rl T ρ S H ∧ EnvR T ρ S H σ e ∧ PoI T ρ S H (Wc T W σ) R (r e S)
section
variable {X : Cx} {T : Tb} {W : WX} {pos p : Pos} {a b c tg : Expr} {es : List Expr} {ra rb rc : Lenv → Sto → Out D} {rs : Lenv → Sto → Out (List D)}
variable {ρ ρ1 : Pl} {S S1 : Sto} {H H1 : Hp} {We : Nat → Hp → Prop} {R : It → Hp → Prop}

theorem PoI.stp {o : Out (List D)} (x : Stp ρ S H ρ1 S1 H1) (h : PoI T ρ S H We R o) : PoI T ρ1 S1 H1 We R o := by
  cases o with
  | ok a S' => exact fun ρ' H' b r s q => h ρ' H' b r (x.trans s) q
  | err c S' => exact fun ρ' H' r s => h ρ' H' r (x.trans s)
  | bad => exact h
theorem PoI.bind {α β : Type} {RR : RelT α β} {o : Out α} {f : α → Sto → Out (List D)} {Q : β → Hp → Prop} (hp : PoI T ρ S H We R (o.bind f))
    (h : ∀ a S1 ρ1 H1 b, Rl T ρ1 S1 H1 → Stp ρ S H ρ1 S1 H1 → RR ρ1 (vis ρ1 S1 H1) a b → PoI T ρ1 S1 H1 We R (f a S1) → Q b H1) : Po T RR ρ S H We Q o := by
  cases o with
  | ok a S' => exact fun ρ' H' b r s q => h a S' ρ' H' b r s q (PoI.stp s hp)
  | err c S' => exact hp
  | bad => exact hp
theorem PIi {e : Expr} {t t' : TI} (h : PI X tg e t) (k : ∀ σ H Q, t' σ H Q → t σ H Q) : PI X tg e t' := ⟨fun pins s σ H Q I q => h.run pins s σ H Q I (k σ H Q q)⟩

theorem wlk_lst {q : Addr} {vs : List V} {ds : List D} (hK : X.K = T.K) (hv : vis ρ S H q = some (.lst vs)) (hr : Reps T ρ (vis ρ S H) ds vs) : Wlk T ρ S H (Itl X.K q) ds := by
  intro ρ' S' H' st hR
  have s : SqL X.K H' q vs := SqL.of (vis_sub _ _ (st.sm _ _ hv))
  have r := hr.wk st
  refine ⟨fun i d hd => ?_, ⟨vs, s, by rw [r.length]; exact Nat.le_refl _⟩⟩
  obtain ⟨v, h1, h2⟩ := r.get hd
  refine ⟨⟨vs, v, s, h1⟩, fun x H2 ⟨e, f⟩ => ?_⟩
  subst e
  have := f vs s
  rw [h1] at this; cases this
  exact ⟨hR, .refl, h2⟩
theorem wlk_tup {q : Addr} {vs : List V} {ds : List D} (hK : X.K = T.K) (hv : SqT T.K (vis ρ S H) q vs) (hr : Reps T ρ (vis ρ S H) ds vs) : Wlk T ρ S H (Itt X.K q) ds := by
  intro ρ' S' H' st hR
  have s : SqT X.K H' q vs := hK ▸ SqT.mono vis_sub (SqT.mono st.sm hv)
  have r := hr.wk st
  refine ⟨fun i d hd => ?_, ⟨vs, s, by rw [r.length]; exact Nat.le_refl _⟩⟩
  obtain ⟨v, h1, h2⟩ := r.get hd
  refine ⟨⟨vs, v, s, h1⟩, fun x H2 ⟨e, f⟩ => ?_⟩
  subst e
  have := f vs s
  rw [h1] at this; cases this
  exact ⟨hR, .refl, h2⟩
theorem PIor {e : Expr} {t t' : TI} (h : PI X tg e t) (h' : PI X tg e t') : PI X tg e (fun σ H R => t σ H R ∨ t' σ H R) := ⟨fun pins s σ H Q I q => q.elim (h.run pins s σ H Q I) (h'.run pins s σ H Q I)⟩
theorem i_seq (hK : X.K = T.K) (ha : PE X a (SE T W ra)) : PI X tg a (SI T W fun e S => (ra e S).bind fun x S => lift (itD x) S) := by
  refine PIi (PIor (pi_list ha) (pi_tup ha)) fun σ H R ⟨ρ, e, S, hR, hE, hp⟩ => ?_
  simp only at hp
  cases q : ra e S with
  | err c S1 =>
    rw [q] at hp
    exact .inl ⟨ρ, e, S, hR, hE, by rw [q]; exact hp⟩
  | bad => rw [q] at hp; exact False.elim hp
  | ok x S1 =>
    rw [q] at hp
    cases x with
    | lst xs =>
      refine .inl ⟨ρ, e, S, hR, hE, ?_⟩
      rw [q]
      intro ρ1 H1 v r1 s1 hx
      simp only [Rep] at hx
      obtain ⟨u, vs, rfl, s, r⟩ := hx
      exact ⟨u, rfl, ⟨vs, SqL.of (vis_sub _ _ s)⟩, hp ρ1 H1 _ r1 s1 (wlk_lst hK s r)⟩
    | tup xs =>
      refine .inr ⟨ρ, e, S, hR, hE, ?_⟩
      rw [q]
      intro ρ1 H1 v r1 s1 hx
      simp only [Rep] at hx
      obtain ⟨u, vs, rfl, s, r⟩ := hx
      exact ⟨u, rfl, ⟨vs, hK ▸ SqT.mono vis_sub s⟩, hp ρ1 H1 _ r1 s1 (wlk_tup hK s r)⟩
    | _ => exact False.elim hp
theorem wlk_rng {lo : Int} {n : Nat} : Wlk T ρ S H (Itr lo n) ((List.range n).map fun (k : Nat) => .int (lo + (k : Int))) := by
  intro ρ' S' H' st hR
  refine ⟨fun i d hd => ?_, by show n ≤ _; simp⟩
  rw [List.getElem?_map] at hd
  cases q : (List.range n)[i]? with
  | none => rw [q] at hd; cases hd
  | some k =>
    rw [q] at hd
    cases hd
    have hi : i < n := by
      have := (List.getElem?_eq_some_iff.mp q).1
      simpa using this
    have hk : k = i := by
      rw [List.getElem?_range hi] at q
      exact (Option.some.inj q).symm
    subst hk
    exact ⟨hi, fun x H2 ⟨e, f⟩ => by subst e; subst f; exact ⟨hR, .refl, by simp only [Rep]⟩⟩
theorem i_rng (hg : Gl X "range") (hm : X.mg "range" = none) (ha : PE X a (SE T W ra)) (he : ∀ r, starEach (a :: r) X.env = (false, eval a X.env) :: starEach r X.env) :
    PI X tg (.Call (.Name "range" p) [a] [] pos) (SI T W fun e S => (ra e S).bind fun x S => match x with | .int n => (if decide (-(2 ^ 62) ≤ n) && decide (n < 2 ^ 62) then .ok ((List.range n.toNat).map fun (k : Nat) => .int (0 + (k : Int))) S else .bad) | _ => .bad) :=
  PIi (pi_range1 hg hm (pa_cons ha pa_nil (he _)) (he _)) fun σ H R ⟨ρ, e, S, hR, hE, hp⟩ => ⟨ρ, e, S, hR, hE, hp.bind fun x S1 ρ1 H1 v hR1 hS1 hx hp1 => by
    cases x with
    | int n =>
      simp only [Rep] at hx
      subst hx
      simp only at hp1
      split at hp1
      · rename_i hb
        simp only [Bool.and_eq_true, decide_eq_true_eq] at hb
        exact ⟨n, rfl, hb.1, hb.2, hp1 ρ1 H1 _ hR1 .refl wlk_rng⟩
      · exact False.elim hp1
    | _ => exact False.elim hp1⟩
theorem i_rng2 (hg : Gl X "range") (hm : X.mg "range" = none) (ha : PE X a (SE T W ra)) (hb : PE X b (SE T W rb)) (he : ∀ r, starEach (a :: r) X.env = (false, eval a X.env) :: starEach r X.env) (he2 : ∀ r, starEach (b :: r) X.env = (false, eval b X.env) :: starEach r X.env) :
    PI X tg (.Call (.Name "range" p) [a, b] [] pos) (SI T W fun e S => (ra e S).bind fun x S => (rb e S).bind fun y S => match x, y with
      | .int m, .int n => (if decide (-(2 ^ 62) ≤ m) && decide (m < 2 ^ 62) && decide (-(2 ^ 62) ≤ n) && decide (n < 2 ^ 62) then .ok ((List.range (n - m).toNat).map fun (k : Nat) => .int (m + (k : Int))) S else .bad)
      | _, _ => .bad) :=
  PIi (pi_range2 hg hm (pa_cons ha (pa_cons hb pa_nil (he2 _)) (he _)) (by rw [he, he2]; rfl) (by rw [he2]; rfl)) fun σ H R ⟨ρ, e, S, hR, hE, hp⟩ => ⟨ρ, e, S, hR, hE, hp.bind fun x S1 ρ1 H1 v hR1 hS1 hx hp1 => ⟨ρ1, e, S1, hR1, hE.stp hS1, hp1.bind fun y S2 ρ2 H2 w hR2 hS2 hy hp2 => by
    cases x with
    | int m =>
      cases y with
      | int n =>
        simp only [Rep] at hx hy
        subst hx; subst hy
        simp only at hp2
        split at hp2
        · rename_i hb
          simp only [Bool.and_eq_true, decide_eq_true_eq] at hb
          exact ⟨m, n, rfl, ⟨hb.1.1.1, hb.1.1.2, hb.1.2, hb.2⟩, hp2 ρ2 H2 _ hR2 .refl wlk_rng⟩
        · exact False.elim hp2
      | _ => exact False.elim hp2
    | _ => cases y <;> exact False.elim hp2⟩⟩
theorem Reps.getD {vs : List V} {ds : List D} {i : Nat} {v : V} (hr : Reps T ρ H ds vs) (h : vs[i]? = some v) : Rep T ρ H (ds.getD i .non) v := by
  have hi : i < ds.length := by
    have := (List.getElem?_eq_some_iff.mp h).1
    rw [hr.length] at this; exact this
  obtain ⟨w, h1, h2⟩ := hr.get (List.getElem?_eq_getElem hi)
  rw [h] at h1; cases h1
  rw [List.getD_eq_getElem?_getD, List.getElem?_eq_getElem hi]; exact h2
theorem i_enum {elts : List Expr} {kk : Nat} {tpos : Pos} (hK : X.K = T.K) (hg : Gl X "enumerate") (hm : X.mg "enumerate" = none) (ha : PE X a (SE T W ra)) (he : ∀ r, starEach (a :: r) X.env = (false, eval a X.env) :: starEach r X.env) :
    PI X (.Tuple elts kk tpos) (.Call (.Name "enumerate" p) [a] [] pos) (SI T W fun e S => (ra e S).bind fun x S => match x with | .lst xs => .ok ((List.range xs.length).map fun (k : Nat) => .tup [.int k, xs.getD k .non]) S | _ => .bad) :=
  PIi (pi_enum hg hm (pa_cons ha pa_nil (he _)) (he _)) fun σ H R ⟨ρ, e, S, hR, hE, hp⟩ => ⟨ρ, e, S, hR, hE, hp.bind fun x S1 ρ1 H1 v hR1 hS1 hx hp1 => by
    cases x with
    | lst xs =>
      simp only [Rep] at hx
      obtain ⟨q, vs, rfl, s, r⟩ := hx
      refine ⟨q, vs, rfl, SqL.of (vis_sub _ _ s), hp1 ρ1 H1 _ hR1 .refl ?_⟩
      intro ρ' S' H' st hR'
      have s' : SqL X.K H' q vs := SqL.of (vis_sub _ _ (st.sm _ _ s))
      have r' := r.wk st
      refine ⟨fun i d hd => ?_, ⟨vs, s', by rw [r'.length]; simp⟩⟩
      rw [List.getElem?_map] at hd
      cases z : (List.range xs.length)[i]? with
      | none => rw [z] at hd; cases hd
      | some k =>
        rw [z] at hd
        cases hd
        have hi : i < xs.length := by
          have := (List.getElem?_eq_some_iff.mp z).1
          simpa using this
        have hk : k = i := by
          rw [List.getElem?_range hi] at z
          exact (Option.some.inj z).symm
        subst hk
        obtain ⟨w, h1, h2⟩ := r'.get (List.getElem?_eq_getElem hi)
        refine ⟨⟨vs, w, s', h1⟩, fun y H2 hy => ?_⟩
        obtain ⟨t, u, rfl, ht, rfl, f⟩ := hy
        have fu := f vs s'
        exact ⟨hR'.push ht, hR'.stpush ht, rep_newT hR' ht (.cons (by simp only [Rep]) (.cons (r'.getD fu) .nil))⟩
    | _ => exact False.elim hp1⟩
theorem wlk_zip {K : PySem.W.Frag} {xs ys : List D} {vs ws : List V} (J : It) (P : Hp → Prop) (hP : ∀ ρ' S' H', Wk ρ S H ρ' S' H' → P H')
    (hgo : ∀ i H v w, P H → vs[i]? = some v → ws[i]? = some w → J.go i H) (hy : ∀ i H x H', P H → J.yld i H x H' → ∃ t v w, x = .ref t ∧ H t = none ∧ H' = upd H t (.tup [v, w]) ∧ vs[i]? = some v ∧ ws[i]? = some w)
    (hst : ∀ i H, P H → vs.length ≤ i ∨ ws.length ≤ i → J.stop i H) (rx : Reps T ρ (vis ρ S H) xs vs) (ry : Reps T ρ (vis ρ S H) ys ws) : Wlk T ρ S H J ((xs.zip ys).map fun p => .tup [p.1, p.2]) := by
  intro ρ' S' H' st hR'
  have p := hP _ _ _ st
  have rx' := rx.wk st
  have ry' := ry.wk st
  refine ⟨fun i d hd => ?_, hst _ _ p (by rw [rx'.length, ry'.length]; simp; omega)⟩
  rw [List.getElem?_map] at hd
  cases z : (xs.zip ys)[i]? with
  | none => rw [z] at hd; cases hd
  | some k =>
    rw [z] at hd
    cases hd
    obtain ⟨x, y⟩ := k
    obtain ⟨z1, z2⟩ := List.getElem?_zip_eq_some.mp z
    obtain ⟨v, h1, h2⟩ := rx'.get z1
    obtain ⟨w, h3, h4⟩ := ry'.get z2
    refine ⟨hgo i H' v w p h1 h3, fun u H2 hu => ?_⟩
    obtain ⟨t, v', w', rfl, ht, rfl, f1, f2⟩ := hy i H' u H2 p hu
    rw [h1] at f1; cases f1
    rw [h3] at f2; cases f2
    exact ⟨hR'.push ht, hR'.stpush ht, rep_newT hR' ht (.cons h2 (.cons h4 .nil))⟩
theorem i_zip {elts : List Expr} {kk : Nat} {tpos : Pos} (hK : X.K = T.K) (hg : Gl X "zip") (hm : X.mg "zip" = none) (ha : PE X a (SE T W ra)) (hb : PE X b (SE T W rb)) (he : ∀ r, starEach (a :: r) X.env = (false, eval a X.env) :: starEach r X.env) (he2 : ∀ r, starEach (b :: r) X.env = (false, eval b X.env) :: starEach r X.env) :
    PI X (.Tuple elts kk tpos) (.Call (.Name "zip" p) [a, b] [] pos) (SI T W fun e S => (ra e S).bind fun x S => (rb e S).bind fun y S => match x, y with
      | .lst xs, .lst ys => .ok ((xs.zip ys).map fun p => .tup [p.1, p.2]) S
      | .tup xs, .tup ys => .ok ((xs.zip ys).map fun p => .tup [p.1, p.2]) S
      | _, _ => .bad) :=
  PIi (RZ.pi_zipA hg hm (pa_cons ha (pa_cons hb pa_nil (he2 _)) (he _)) (he _) (by rw [he2]; rfl)) fun σ H R ⟨ρ, e, S, hR, hE, hp⟩ => ⟨ρ, e, S, hR, hE, hp.bind fun x S1 ρ1 H1 v hR1 hS1 hx hp1 => ⟨ρ1, e, S1, hR1, hE.stp hS1, hp1.bind fun y S2 ρ2 H2 w hR2 hS2 hy hp2 => by
    have hx2 := hx.stp hS2
    cases x with
    | lst xs =>
      cases y with
      | lst ys =>
        simp only [Rep] at hx2 hy
        obtain ⟨q, vs, rfl, s, r⟩ := hx2
        obtain ⟨q2, ws, rfl, s2, r2⟩ := hy
        refine ⟨q, q2, vs, ws, rfl, .inl ⟨SqL.of (vis_sub _ _ s), SqL.of (vis_sub _ _ s2), hp2 ρ2 H2 _ hR2 .refl ?_⟩⟩
        refine wlk_zip (K := X.K) _ (fun H' => SqL X.K H' q vs ∧ SqL X.K H' q2 ws) (fun ρ' S' H' st => ⟨SqL.of (vis_sub _ _ (st.sm _ _ s)), SqL.of (vis_sub _ _ (st.sm _ _ s2))⟩) (fun i H v w p h1 h2 => ⟨vs, ws, v, w, p.1, p.2, h1, h2⟩)
          (fun i H x H' p hy => ?_) (fun i H p h => ⟨vs, ws, p.1, p.2, h⟩) r r2
        obtain ⟨t, v, w, e1, e2, e3, f1, f2⟩ := hy
        exact ⟨t, v, w, e1, e2, e3, f1 vs p.1, f2 ws p.2⟩
      | _ => exact False.elim hp2
    | tup xs =>
      cases y with
      | tup ys =>
        simp only [Rep] at hx2 hy
        obtain ⟨q, vs, rfl, s, r⟩ := hx2
        obtain ⟨q2, ws, rfl, s2, r2⟩ := hy
        refine ⟨q, q2, vs, ws, rfl, .inr ⟨hK ▸ SqT.mono vis_sub s, hK ▸ SqT.mono vis_sub s2, hp2 ρ2 H2 _ hR2 .refl ?_⟩⟩
        refine wlk_zip (K := X.K) _ (fun H' => SqT X.K H' q vs ∧ SqT X.K H' q2 ws) (fun ρ' S' H' st => ⟨hK ▸ SqT.mono vis_sub (SqT.mono st.sm s), hK ▸ SqT.mono vis_sub (SqT.mono st.sm s2)⟩) (fun i H v w p h1 h2 => ⟨vs, ws, v, w, p.1, p.2, h1, h2⟩)
          (fun i H x H' p hy => ?_) (fun i H p h => ⟨vs, ws, p.1, p.2, h⟩) r r2
        obtain ⟨t, v, w, e1, e2, e3, f1, f2⟩ := hy
        exact ⟨t, v, w, e1, e2, e3, f1 vs p.1, f2 ws p.2⟩
      | _ => exact False.elim hp2
    | _ => cases y <;> exact False.elim hp2⟩⟩

/-! ### targets -/
def gsOf : List Nat → TGs
  | [] => gNil
  | i :: is => gCons (gName i) (gsOf is)
def gOf (K : PySem.W.Frag) : Tg → TG
  | .n i => gName i
  | .t is => fun v σ H Q => gTup K is.length (gsOf is) v σ H Q ∨ gLst K is.length (gsOf is) v σ H Q
def Tg.ix : Tg → List Nat
  | .n i => [i]
  | .t is => is
theorem wipe_set {σ : L2.St} {i : Nat} {w : Option V} : ∀ {vs : List Nat}, i ∈ vs → L2.wipe (σ.set i w) vs = L2.wipe σ vs
  | [], h => by simp at h
  | v :: vs, h => by
    unfold L2.wipe
    by_cases hm : i ∈ vs
    · rw [wipe_set hm]
    · have e : i = v := by simpa [hm] using h
      subst e
      have comm : ∀ (ws : List Nat), L2.wipe (σ.set i w) ws = (L2.wipe σ ws).set i w ∨ i ∈ ws := by
        intro ws
        induction ws with
        | nil => exact .inl rfl
        | cons u us ih =>
          by_cases hu : i = u
          · exact .inr (by simp [hu])
          · rcases ih with ih | ih
            · left
              unfold L2.wipe
              rw [ih, List.set_comm _ _ hu]
            · exact .inr (List.mem_cons_of_mem _ ih)
      rcases comm vs with c | c
      · rw [c, List.set_set]
      · exact absurd c hm
theorem PGor {t : Expr} {g g' : TG} (h : PG X t g) (h' : PG X t g') : PG X t (fun v σ H Q => g v σ H Q ∨ g' v σ H Q) := ⟨fun pins s σ H v u Q I r q => q.elim (h.run pins s σ H v u Q I r) (h'.run pins s σ H v u Q I r)⟩
/-- plain names -/
structure Nms (X : Cx) (es : List Expr) (is : List Nat) : Prop where
  pgs : PGs X es (gsOf is)
  len : (assignEach es X.env).length = is.length
  nst : (assignEach es X.env).findIdx? (·.1) = none
theorem nms_nil : Nms X [] [] := ⟨pgs_nil, rfl, rfl⟩
theorem nms_cons {i : Nat} {x : Str} {es : List Expr} {is : List Nat} (hN : X.N.Nodup) (hi : X.N[i]? = some x) (hx : Loc X.env.scope x) (hf : X.fn x = true ∨ X.env.scope.names.lookup x = some .local) (r : Nms X es is) : Nms X (.Name x pos :: es) (i :: is) := by
  have ha : assignEach (.Name x pos :: es) X.env = (false, assign (.Name x pos) X.env) :: assignEach es X.env := rfl
  exact ⟨pgs_cons (pg_name hN hi hx hf) r.pgs (by rw [ha]; rfl), by rw [ha, List.length_cons, List.length_cons, r.len], by rw [ha, List.findIdx?_cons]; simp [r.nst]⟩
theorem tg_name {i : Nat} {x : Str} (hN : X.N.Nodup) (hi : X.N[i]? = some x) (hx : Loc X.env.scope x) (hf : X.fn x = true ∨ X.env.scope.names.lookup x = some .local) : PG X (.Name x pos) (gOf X.K (.n i)) := pg_name hN hi hx hf
theorem tg_tup {es : List Expr} {is : List Nat} {k : Nat} (hc : X.calm = true) (r : Nms X es is) : PG X (.Tuple es k pos) (gOf X.K (.t is)) := PGor (pg_tup hc r.pgs r.len r.nst) (pg_lst hc r.pgs r.len r.nst)
theorem gs_ok : ∀ {is : List Nat} {vs : List V} {σ : L2.St} {H : Hp} {Q : L2.St → Hp → Prop}, vs.length = is.length → Q ((is.zip vs).foldl (fun s p => s.set p.1 (some p.2)) σ) H → gsOf is vs σ H Q
  | [], vs, σ, H, Q, hl, q => by
    have : vs = [] := by simpa using hl
    subst this; exact ⟨rfl, q⟩
  | i :: is, [], _, _, _, hl, _ => by simp at hl
  | i :: is, v :: vs, σ, H, Q, hl, q => ⟨v, vs, rfl, gs_ok (is := is) (by simpa using hl) q⟩
theorem env_all {ρ : Pl} {S : Sto} {H : Hp} : ∀ {is : List Nat} {ds : List D} {vs : List V} {σ : L2.St} {e e' : Lenv}, EnvR T ρ S H σ e → Reps T ρ (vis ρ S H) ds vs → setAll is ds e = some e' →
    vs.length = is.length ∧ EnvR T ρ S H ((is.zip vs).foldl (fun s p => s.set p.1 (some p.2)) σ) e' ∧
      ∀ ws, (∀ i ∈ is, i ∈ ws) → L2.wipe ((is.zip vs).foldl (fun s p => s.set p.1 (some p.2)) σ) ws = L2.wipe σ ws
  | [], [], vs, σ, e, e', hE, hr, h => by
    rw [hr.isnil]
    simp only [setAll, Option.some.injEq] at h
    subst h
    exact ⟨rfl, hE, fun _ _ => rfl⟩
  | i :: is, d :: ds, vs, σ, e, e', hE, hr, h => by
    obtain ⟨v, r, rfl, h1, h2⟩ := hr.uncons
    simp only [setAll] at h
    obtain ⟨g1, g2, g4⟩ := env_all (hE.set h1) h2 h
    refine ⟨by simp [g1], g2, fun ws hw => ?_⟩
    rw [List.zip_cons_cons, List.foldl_cons, g4 ws fun j hj => hw j (List.mem_cons_of_mem _ hj)]
    exact wipe_set (hw i List.mem_cons_self)
  | [], _ :: _, _, _, _, _, _, _, h => by simp [setAll] at h
  | _ :: _, [], _, _, _, _, _, _, h => by simp [setAll] at h
theorem g_ok {K : PySem.W.Frag} (hK : K = T.K) (t : Tg) {ρ : Pl} {S : Sto} {H : Hp} {σ : L2.St} {e e' : Lenv} {d : D} {v : V} {Q : L2.St → Hp → Prop} (hE : EnvR T ρ S H σ e) (hd : Rep T ρ (vis ρ S H) d v) (h : t.set d e = some e')
    (q : ∀ σ', EnvR T ρ S H σ' e' → (∀ vs, (∀ i ∈ t.ix, i ∈ vs) → L2.wipe σ' vs = L2.wipe σ vs) → Q σ' H) : gOf K t v σ H Q := by
  cases t with
  | n i =>
    cases h
    exact q _ (hE.set hd) fun vs hv => wipe_set (hv i (by simp [Tg.ix]))
  | t is =>
    cases d with
    | tup xs =>
      simp only [Rep] at hd
      obtain ⟨p, vs, rfl, s, rr⟩ := hd
      obtain ⟨l, g1, g3⟩ := env_all hE rr h
      exact .inl ⟨p, vs, rfl, hK ▸ SqT.mono vis_sub s, l, gs_ok l (q _ g1 fun ws hw => g3 ws fun i hi => hw i hi)⟩
    | lst xs =>
      simp only [Rep] at hd
      obtain ⟨p, vs, rfl, s, rr⟩ := hd
      obtain ⟨l, g1, g3⟩ := env_all hE rr h
      exact .inr ⟨p, vs, rfl, SqL.of (vis_sub _ _ s), l, gs_ok l (q _ g1 fun ws hw => g3 ws fun i hi => hw i hi)⟩
    | _ => simp [Tg.set] at h
end

/-! ### comprehensions -/
theorem compL_noerr {el cd : Lenv → Sto → Out D} {t : Tg} {e : Lenv} : ∀ {ds : List D} {S S' : Sto} {c : Nat}, compL el cd t e ds S ≠ .err c S'
  | [], _, _, _ => by simp [compL]
  | d :: ds, S, S', c => by
    unfold compL
    repeat' split
    all_goals first | (intro h; cases h) | exact compL_noerr
theorem wipe_nil (σ : L2.St) : L2.wipe σ [] = σ := rfl
theorem wipe_idem (σ : L2.St) (vs : List Nat) : L2.wipe (L2.wipe σ vs) vs = L2.wipe σ vs := by
  have key : ∀ (us : List Nat), (∀ i ∈ us, i ∈ vs) → L2.wipe (L2.wipe σ us) vs = L2.wipe σ vs := by
    intro us
    induction us with
    | nil => intro _; rfl
    | cons u us ih =>
      intro h
      show L2.wipe ((L2.wipe σ us).set u none) vs = _
      rw [wipe_set (h u List.mem_cons_self), ih fun i hi => h i (List.mem_cons_of_mem _ hi)]
  exact key vs fun _ h => h
/-- from before a list was made that is not to be seen, to now -/
structure Hst (ρ1 : Pl) (S1 : Sto) (H1 : Hp) (ρ : Pl) (S : Sto) (H : Hp) : Prop where
  ext : ∀ (n : Nat) (a : Addr), ρ1.l[n]? = some a → ρ.l[n]? = some a
  sm : Same (vis ρ1 S1 H1) (vis ρ S H)
  dm : ∀ b, H1 b ≠ none → H b ≠ none
  hk : ∀ b, ρ1.h b → H b = H1 b
  hi : ∀ b, ρ1.h b → ρ.h b
theorem Hst.stp {ρ1 ρ ρ' : Pl} {S1 S S' : Sto} {H1 H H' : Hp} (x : Hst ρ1 S1 H1 ρ S H) (y : Stp ρ S H ρ' S' H') : Hst ρ1 S1 H1 ρ' S' H' :=
  ⟨fun n a h => y.ext n a (x.ext n a h), x.sm.trans y.sm, fun b h => y.dm b (x.dm b h), fun b h => (y.hk b (x.hi b h)).trans (x.hk b h), fun b h => y.hh ▸ x.hi b h⟩
abbrev W0 : WX := fun _ _ _ _ => False
section
variable {X : Cx} {T : Tb} {W : WX} {pos p : Pos} {elt tg iter : Expr} {ifs : List Expr} {ri : Lenv → Sto → Out (List D)} {rel rcd : Lenv → Sto → Out D}
theorem ts_nil : PTs X [] (ST T W (tst fun _ S => .ok (.bl true) S)) := ⟨fun pins s σ H Q I ⟨ρ, e, S, hR, hE, hp⟩ => pts_nil.run pins s σ H Q I (hp ρ H true hR .refl rfl)⟩
def compE (ri : Lenv → Sto → Out (List D)) (rel rcd : Lenv → Sto → Out D) (t : Tg) (us : List Nat) : Lenv → Sto → Out D :=
  fun e S => (ri e S).bind fun xs S => if xs.length ≤ big then (compL rel rcd t (wipeE e us) xs S).bind fun ys S => .ok (.lst ys) S else .bad
theorem comp_read {t : Tg} {us : List Nat} (hK : X.K = T.K) (hix : ∀ i ∈ t.ix, i ∈ us) (σ : L2.St) (H : Hp) (Q : VK) (h : SE T W (compE ri rel rcd t us) σ H Q) :
    tLc (SI T W ri) (gOf X.K t) (ST T W0 (tst rcd)) (SE T W0 rel) us σ H Q := by
  obtain ⟨ρ, e, S, hR, hE, hp⟩ := h
  refine ⟨ρ, e, S, hR, hE, ?_⟩
  unfold compE at hp
  generalize ri e S = o at hp ⊢
  cases o with
  | err c S1 => exact hp
  | bad => exact hp
  | ok xs S1 =>
    intro ρ1 H1 J hR1 hS1 hW D hD
    simp only [Out.bind] at hp
    split at hp
    · rename_i hbig
      cases hcl : compL rel rcd t (wipeE e us) xs S1 with
      | err c S2 => exact absurd hcl compL_noerr
      | bad => rw [hcl] at hp; exact False.elim hp
      | ok full Sf =>
        rw [hcl] at hp
        have base : Rl T (ρ1.hid D) S1 (upd H1 D (.lst [])) := hR1.hide hD
        have hEw : EnvR T ρ1 S1 H1 (L2.wipe σ us) (wipeE e us) := (hE.stp hS1).wipe us
        refine ⟨fun i m H2 => m = xs.length - i ∧ i ≤ xs.length ∧ ∃ ρh S2 acc vs rest, ρh.h = (ρ1.hid D).h ∧ Rl T ρh S2 H2 ∧ Hst ρ1 S1 H1 ρh S2 H2 ∧ H2 D = some (.lst vs) ∧ Reps T ρh (vis ρh S2 H2) acc vs ∧
          acc.length ≤ i ∧ compL rel rcd t (wipeE e us) (xs.drop i) S2 = .ok rest Sf ∧ full = acc ++ rest, ⟨xs.length, by simp, Nat.zero_le _, ρ1.hid D, S1, [], [], full, rfl, base, ⟨fun _ _ h => h, vis_hid hR1 hD, (hR1.stpush hD).dm, (hR1.stpush hD).hk, fun _ h => .inl h⟩, upd_same, .nil, by simp, by simpa using hcl, rfl⟩, ?_⟩
        rintro i m H2 ⟨rfl, hi', ρh, S2, acc, vs, rest, hh, hRh, hSh, hHD, hacc, hal, hco, hfull⟩
        have wk1 : Wk ρ1 S1 H1 ρh S2 H2 := ⟨hSh.ext, hSh.sm⟩
        obtain ⟨hgo, hstop⟩ := hW ρh S2 H2 wk1 hRh
        by_cases hlt : i < xs.length
        · have hx : xs[i]? = some xs[i] := List.getElem?_eq_getElem hlt
          obtain ⟨go, hy⟩ := hgo i _ hx
          rw [List.drop_eq_getElem_cons hlt] at hco
          unfold compL at hco
          split at hco
          · cases hco
          · rename_i e' hset
            split at hco
            · rename_i cv S3 hcv
              refine .inr ⟨go, fun H3 => ∃ ρ3 S4 acc' vs' rest', ρ3.h = (ρ1.hid D).h ∧ Rl T ρ3 S4 H3 ∧ Hst ρ1 S1 H1 ρ3 S4 H3 ∧ H3 D = some (.lst vs') ∧ Reps T ρ3 (vis ρ3 S4 H3) acc' vs' ∧
                acc'.length ≤ i + 1 ∧ compL rel rcd t (wipeE e us) (xs.drop (i + 1)) S4 = .ok rest' Sf ∧ full = acc' ++ rest', fun H3 hn => ⟨xs.length - (i + 1), by omega, rfl, hlt, hn⟩, fun x H3 hyld => ?_⟩
              obtain ⟨r3, s3, hx3⟩ := hy x H3 hyld
              have hE3 : EnvR T ρh S2 H3 (L2.wipe σ us) (wipeE e us) := (hEw.wk wk1).stp s3
              refine g_ok hK t hE3 hx3 hset fun σ' hE4 hw => ?_
              refine ⟨by rw [hw us hix, wipe_idem], ρh, e', S2, r3, hE4, ?_⟩
              show Po T RB ρh S2 H3 _ _ (tst rcd e' S2)
              simp only [tst, hcv, Out.bind]
              have hD3 : H3 D = some (.lst vs) := by rw [s3.hk D (by rw [hh]; exact .inr rfl)]; exact hHD
              split at hco
              · -- kept
                rename_i hb
                rw [hb]
                intro ρ5 H5 b r5 s5 eb
                subst eb
                rw [if_pos rfl]
                split at hco
                · rename_i y S6 hy6
                  split at hco
                  · rename_i ys S7 hys
                    cases hco
                    refine ⟨ρ5, e', S3, r5, hE4.stp s5, ?_⟩
                    rw [hy6]
                    intro ρ6 H6 w r6 s6 hw6
                    have h5 : ρ5.h = (ρ1.hid D).h := s5.hh.trans hh
                    have h6 : ρ6.h = (ρ1.hid D).h := s6.hh.trans h5
                    have e5 : H5 D = some (.lst vs) := by rw [s5.hk D (by rw [hh]; exact .inr rfl)]; exact hD3
                    have e6 : H6 D = some (.lst vs) := by rw [s6.hk D (by rw [h5]; exact .inr rfl)]; exact e5
                    have racc : Reps T ρ6 (vis ρ6 S6 H6) acc vs := ((hacc.stp s3).stp s5).stp s6
                    obtain ⟨l6, hh6⟩ := ρ6
                    have h6' : hh6 = (ρ1.hid D).h := h6
                    subst h6'
                    have r6' : Rl T (Pl.hid ⟨l6, ρ1.h⟩ D) S6 H6 := r6
                    have vv : vis (Pl.hid ⟨l6, ρ1.h⟩ D) S6 (upd H6 D (.lst (vs ++ [w]))) = vis (Pl.hid ⟨l6, ρ1.h⟩ D) S6 H6 := vis_at r6'
                    refine ⟨vs, e6, by rw [racc.length, ← bigline]; omega, ⟨l6, (ρ1.hid D).h⟩, S6, acc ++ [y], vs ++ [w], ys, rfl, r6'.hset, ?_, upd_same, ?_, by simp; omega, hys, by rw [hfull]; simp⟩
                    · have st := ((hSh.stp s3).stp s5).stp s6
                      refine ⟨st.ext, ?_, fun b hb => ?_, fun b hb => ?_, st.hi⟩
                      · show Same _ (vis (Pl.hid ⟨l6, ρ1.h⟩ D) S6 _)
                        rw [vv]; exact st.sm
                      · by_cases eb : b = D
                        · rw [eb, upd_same]; simp
                        · rw [upd_ne eb]; exact st.dm b hb
                      · have eb : b ≠ D := fun eb => hR1.hd b hb (by rw [eb]; exact hD)
                        rw [upd_ne eb]; exact st.hk b hb
                    · show Reps T (Pl.hid ⟨l6, ρ1.h⟩ D) (vis (Pl.hid ⟨l6, ρ1.h⟩ D) S6 _) _ _
                      rw [vv]; exact racc.append (.cons hw6 .nil)
                  · cases hco
                · cases hco
              · -- left out
                rename_i hb
                rw [hb]
                intro ρ5 H5 b r5 s5 eb
                subst eb
                rw [if_neg (by simp)]
                exact ⟨ρ5, S3, acc, vs, rest, s5.hh.trans hh, r5, (hSh.stp s3).stp s5, by rw [s5.hk D (by rw [hh]; exact .inr rfl)]; exact hD3, (hacc.stp s3).stp s5, by omega, hco, hfull⟩
              · cases hco
            · cases hco
        · have ei : i = xs.length := by omega
          subst ei
          rw [List.drop_length] at hco
          simp only [compL] at hco
          cases hco
          refine .inl ⟨hstop, ?_⟩
          obtain ⟨lh, hh'⟩ := ρh
          have hhe : hh' = (ρ1.hid D).h := hh
          subst hhe
          have hRh' : Rl T (Pl.hid ⟨lh, ρ1.h⟩ D) Sf H2 := hRh
          have hu : Rl T ⟨lh, ρ1.h⟩ Sf H2 := hRh'.unhide
          have st2 : Stp ρ1 S1 H1 ⟨lh, ρ1.h⟩ Sf H2 := ⟨hSh.ext, hSh.sm.trans (vis_unhid (ρ := ⟨lh, ρ1.h⟩) (p := D)), hSh.dm, rfl, hSh.hk⟩
          refine hp ⟨lh, ρ1.h⟩ H2 (.ref D) hu (hS1.trans st2) ?_
          simp only [Rep]
          refine ⟨D, vs, rfl, vis_of hHD fun q => ?_, ?_⟩
          · rcases q with q | ⟨n, ys, e1, e2⟩
            · exact hR1.hd D q hD
            · exact hRh'.nh n D e1 (.inr rfl)
          · rw [hfull, List.append_nil]
            exact (Reps.hidden (p := D) acc vs).mpr (Reps.mono (fun _ _ z => z) vis_unhid acc vs hacc)
    · exact False.elim hp

theorem e_comp {scope : Scope} {own : List (Str × Nat)} {t : Tg} (hK : X.K = T.K) (hc : X.calm = true) (hN : X.N.Nodup) (hi : PI X tg iter (SI T W ri)) (ok : BlkOk X.N X.env.scope scope own)
    (hg : ∀ (s : Shared) (H : Hp) (C : Addr) (cl : List (Str × Addr)) (fp : List Addr), PG (X.blk s H scope (compEnvC scope cl C X.env) fp) tg (gOf X.K t))
    (ht : ∀ (s : Shared) (H : Hp) (C : Addr) (cl : List (Str × Addr)) (fp : List Addr), PTs (X.blk s H scope (compEnvC scope cl C X.env) fp) ifs (ST T W0 (tst rcd)))
    (he : ∀ (s : Shared) (H : Hp) (C : Addr) (cl : List (Str × Addr)) (fp : List Addr), PE (X.blk s H scope (compEnvC scope cl C X.env) fp) elt (SE T W0 rel)) (hs : ∀ x, foldedSetIterable iter X.env x = pure x)
    (hix : ∀ i ∈ t.ix, i ∈ own.map (·.2)) :
    PE X (.ListComp elt [⟨tg, iter, ifs, 0⟩] scope pos) (SE T W (compE ri rel rcd t (own.map (·.2)))) := by
  exact PEi (pe_lc hc hN hi ok hg ht he hs) fun σ H Q h => comp_read hK hix σ H Q h
end
end Ev

set_option Elab.async false
set_option linter.all false
set_option maxRecDepth 100000
/-! Ev, part G: statements. -/
namespace Ev
open PySem PySem.Spec PyProof.Rows L2

def PoS (T : Tb) (W : WX) (ρ : Pl) (S : Sto) (H : Hp) (F : Ends) : OutS → Prop
  | .nx e S' => ∀ ρ' H' σ', Rl T ρ' S' H' → Stp ρ S H ρ' S' H' → EnvR T ρ' S' H' σ' e → F.nx σ' H'
  | .rt d S' => ∀ ρ' H' v, Rl T ρ' S' H' → Stp ρ S H ρ' S' H' → Rep T ρ' (vis ρ' S' H') d v → F.rt v H'
  | .bk e S' => ∀ ρ' H' σ', Rl T ρ' S' H' → Stp ρ S H ρ' S' H' → EnvR T ρ' S' H' σ' e → F.bk σ' H'
  | .ct e S' => ∀ ρ' H' σ', Rl T ρ' S' H' → Stp ρ S H ρ' S' H' → EnvR T ρ' S' H' σ' e → F.ct σ' H'
  | .err c e S' => ∀ ρ' H' σ', Rl T ρ' S' H' → Stp ρ S H ρ' S' H' → EnvR T ρ' S' H' σ' e → W (.ref (T.ca c)) none σ' H'
  | .bad => False
def SS (T : Tb) (W : WX) (r : Lenv → Sto → OutS) : TS := fun F σ H => ∃ ρ e S, Rl T ρ S H ∧ EnvR T ρ S H σ e ∧ PoS T W ρ S H F (r e S)
section
variable {X : Cx} {T : Tb} {W : WX} {pos p : Pos} {a b c tg : Expr} {st : Stmt} {sts sts2 : List Stmt} {es : List Expr} {ra rb rc : Lenv → Sto → Out D} {ri : Lenv → Sto → Out (List D)} {sa sb : Lenv → Sto → OutS}
variable {ρ ρ1 : Pl} {S S1 : Sto} {H H1 : Hp} {F F' : Ends}

theorem PoS.stp {o : OutS} (x : Stp ρ S H ρ1 S1 H1) (h : PoS T W ρ S H F o) : PoS T W ρ1 S1 H1 F o := by
  cases o with
  | nx e S' => exact fun ρ' H' σ' r s q => h ρ' H' σ' r (x.trans s) q
  | rt e S' => exact fun ρ' H' σ' r s q => h ρ' H' σ' r (x.trans s) q
  | bk e S' => exact fun ρ' H' σ' r s q => h ρ' H' σ' r (x.trans s) q
  | ct e S' => exact fun ρ' H' σ' r s q => h ρ' H' σ' r (x.trans s) q
  | err c e S' => exact fun ρ' H' σ' r s q => h ρ' H' σ' r (x.trans s) q
  | bad => exact h
theorem PSi {t t' : TS} (h : PS X st t) (k : ∀ F σ H, t' F σ H → t F σ H) : PS X st t' := ⟨fun pins s σ H F I q => h.run pins s σ H F I (k F σ H q)⟩
theorem PSsi {t t' : TS} (h : PSs X sts t) (k : ∀ F σ H, t' F σ H → t F σ H) : PSs X sts t' := ⟨fun pins s σ H F I q => h.run pins s σ H F I (k F σ H q)⟩
/-- from a statement's end to its expression's -/
theorem PoS.ex {o : Out D} {e : Lenv} {σ : L2.St} {f : D → Sto → OutS} {Q : VK} (hE : EnvR T ρ S H σ e) (hp : PoS T W ρ S H F (o.toS e f))
    (h : ∀ a S1 ρ1 H1 b, Rl T ρ1 S1 H1 → Stp ρ S H ρ1 S1 H1 → Rep T ρ1 (vis ρ1 S1 H1) a b → PoS T W ρ1 S1 H1 F (f a S1) → Q b H1) : Po T (RD T) ρ S H (Wc T W σ) Q o := by
  cases o with
  | ok a S' => exact fun ρ' H' b r s q => h a S' ρ' H' b r s q (PoS.stp s hp)
  | err c S' => exact fun ρ' H' r s => hp ρ' H' σ r s (hE.stp s)
  | bad => exact hp

theorem s_nil : PSs X [] (SS T W fun e S => .nx e S) := PSsi pss_nil fun F σ H ⟨ρ, e, S, hR, hE, hp⟩ => hp ρ H σ hR .refl hE
theorem s_cons (h1 : PS X st (SS T W sa)) (h2 : PSs X sts (SS T W sb)) : PSs X (st :: sts) (SS T W fun e S => match sa e S with | .nx e2 S2 => sb e2 S2 | o => o) :=
  PSsi (pss_cons h1 h2) fun F σ H ⟨ρ, e, S, hR, hE, hp⟩ => by
    refine ⟨ρ, e, S, hR, hE, ?_⟩
    simp only at hp
    generalize sa e S = o at hp ⊢
    cases o with
    | nx e2 S2 => exact fun ρ' H' σ' r s q => ⟨ρ', e2, S2, r, q, PoS.stp s hp⟩
    | _ => exact hp
theorem s_ret (ha : PE X a (SE T W ra)) : PS X (.Return (some a) pos) (SS T W fun e S => (ra e S).toS e fun d S => .rt d S) :=
  PSi (ps_ret ha) fun F σ H ⟨ρ, e, S, hR, hE, hp⟩ => ⟨ρ, e, S, hR, hE, PoS.ex hE hp fun d S1 ρ1 H1 v r s q hp1 => hp1 ρ1 H1 v r .refl q⟩
theorem s_set {i : Nat} {x : Str} (hN : X.N.Nodup) (hi : X.N[i]? = some x) (hx : Loc X.env.scope x) (hf : X.fn x = true ∨ X.env.scope.names.lookup x = some .local) (ha : PE X a (SE T W ra))
    (hs : swapsWith a (some (.Name x p)) pos.line X.env = pure false) : PS X (.Assign [.Name x p] a pos) (SS T W fun e S => (ra e S).toS e fun d S => .nx (e.set i (some d)) S) :=
  PSi (ps_set hN hi hx ha hs hf) fun F σ H ⟨ρ, e, S, hR, hE, hp⟩ => ⟨ρ, e, S, hR, hE, PoS.ex hE hp fun d S1 ρ1 H1 v r s q hp1 => hp1 ρ1 H1 _ r .refl ((hE.stp s).set q)⟩
theorem s_setLc {i : Nat} {x : Str} {elt iter : Expr} {ifs : List Expr} {rel rcd : Lenv → Sto → Out D} {scope : Scope} {own : List (Str × Nat)} {t : Tg} {p2 : Pos} (hK : X.K = T.K) (hc : X.calm = true) (hN : X.N.Nodup) (hi' : X.N[i]? = some x) (hyl : X.env.scope.names.lookup x = some .local)
    (hsw : swapsWith (.ListComp elt [⟨tg, iter, ifs, 0⟩] scope p2) (some (.Name x p)) pos.line X.env = pure true) (hi : PI X tg iter (SI T W ri)) (ok : BlkOk X.N X.env.scope scope own)
    (hg : ∀ (s : Shared) (H : Hp) (C : Addr) (cl : List (Str × Addr)) (fp : List Addr), PG (X.blk s H scope (compEnvC scope cl C X.env) fp) tg (gOf X.K t))
    (ht : ∀ (s : Shared) (H : Hp) (C : Addr) (cl : List (Str × Addr)) (fp : List Addr), PTs (X.blk s H scope (compEnvC scope cl C X.env) fp) ifs (ST T W0 (tst rcd)))
    (he : ∀ (s : Shared) (H : Hp) (C : Addr) (cl : List (Str × Addr)) (fp : List Addr), PE (X.blk s H scope (compEnvC scope cl C X.env) fp) elt (SE T W0 rel)) (hs : ∀ x, foldedSetIterable iter X.env x = pure x)
    (hix : ∀ i ∈ t.ix, i ∈ own.map (·.2)) :
    PS X (.Assign [.Name x p] (.ListComp elt [⟨tg, iter, ifs, 0⟩] scope p2) pos) (SS T W fun e S => (compE ri rel rcd t (own.map (·.2)) e S).toS e fun d S => .nx (e.set i (some d)) S) :=
  PSi (ps_setLc hc hN hi' hyl hsw hi ok hg ht he hs) fun F σ H ⟨ρ, e, S, hR, hE, hp⟩ =>
    comp_read hK hix σ H _ ⟨ρ, e, S, hR, hE, PoS.ex hE hp fun d S1 ρ1 H1 v r s q hp1 => hp1 ρ1 H1 _ r .refl ((hE.stp s).set q)⟩
theorem s_asg {is : List Nat} {k : Nat} (hK : X.K = T.K) (hc : X.calm = true) (hn : Nms X es is) (ha : PE X a (SE T W ra)) (hs : swapsWithSole [.Tuple es k p] a pos.line X.env = pure false) (hw : swappedStores [.Tuple es k p] a X.env = pure none) :
    PS X (.Assign [.Tuple es k p] a pos) (SS T W fun e S => (ra e S).toS e fun d S => match d with
      | .tup xs => (match setAll is xs e with | some e2 => .nx e2 S | none => .bad)
      | .lst xs => (match setAll is xs e with | some e2 => .nx e2 S | none => .bad)
      | _ => .bad) :=
  PSi (ps_asg ha (tg_tup hc hn) hs hw rfl) fun F σ H ⟨ρ, e, S, hR, hE, hp⟩ => ⟨ρ, e, S, hR, hE, PoS.ex hE hp fun d S1 ρ1 H1 v r s q hp1 => by
    have key : ∀ xs, (d = .tup xs ∨ d = .lst xs) → PoS T W ρ1 S1 H1 F (match setAll is xs e with | some e2 => .nx e2 S1 | none => .bad) → gOf X.K (.t is) v σ H1 F.nx := fun xs hd hp2 => by
      cases hsa : setAll is xs e with
      | none => rw [hsa] at hp2; exact False.elim hp2
      | some e2 =>
        rw [hsa] at hp2
        exact g_ok hK (.t is) (hE.stp s) q (by rcases hd with rfl | rfl <;> exact hsa) fun σ' hE' _ => hp2 ρ1 H1 σ' r .refl hE'
    cases d with
    | tup xs => exact key xs (.inl rfl) hp1
    | lst xs => exact key xs (.inr rfl) hp1
    | _ => exact False.elim hp1⟩
theorem s_par {i j : Nat} {x y : Str} {px py pt : Pos} {kt k2 : Nat} {pt2 : Pos} (hc : X.calm = true) (hN : X.N.Nodup) (hi : X.N[i]? = some x) (hj : X.N[j]? = some y) (hij : i ≠ j) (hx : X.env.scope.names.lookup x = some .local) (hy : X.env.scope.names.lookup y = some .local)
    (ha : PE X a (SE T W ra)) (hb : PE X b (SE T W rb)) (he : ∀ r, starEach (a :: r) X.env = (false, eval a X.env) :: starEach r X.env) (he2 : ∀ r, starEach (b :: r) X.env = (false, eval b X.env) :: starEach r X.env)
    (hw : swappedStores [.Tuple [.Name x px, .Name y py] kt pt] (.Tuple [a, b] k2 pt2) X.env = pure (some [x, y])) :
    PS X (.Assign [.Tuple [.Name x px, .Name y py] kt pt] (.Tuple [a, b] k2 pt2) pos) (SS T W fun e S => (ra e S).toS e fun x S => (rb e S).toS e fun y S => .nx ((e.set i (some x)).set j (some y)) S) :=
  PSi (ps_par hc hN hi hj hij hx hy (pa_cons ha (pa_cons hb pa_nil (he2 _)) (he _)) hw) fun F σ H ⟨ρ, e, S, hR, hE, hp⟩ => ⟨ρ, e, S, hR, hE, PoS.ex hE hp fun d S1 ρ1 H1 v r s q hp1 =>
    ⟨ρ1, e, S1, r, hE.stp s, PoS.ex (hE.stp s) hp1 fun d2 S2 ρ2 H2 w r2 s2 q2 hp2 => ⟨v, w, rfl, hp2 ρ2 H2 _ r2 .refl ((((hE.stp s).stp s2).set (q.stp s2)).set q2)⟩⟩⟩
theorem s_par3 {i j l : Nat} {x y z : Str} {px py pz pt : Pos} {kt k2 : Nat} {pt2 : Pos} {c : Expr} {rc : Lenv → Sto → Out D} (hc : X.calm = true) (hN : X.N.Nodup) (hi : X.N[i]? = some x) (hj : X.N[j]? = some y) (hl : X.N[l]? = some z) (hij : i ≠ j) (hil : i ≠ l) (hjl : j ≠ l)
    (hx : X.env.scope.names.lookup x = some .local) (hy : X.env.scope.names.lookup y = some .local) (hz : X.env.scope.names.lookup z = some .local)
    (ha : PE X a (SE T W ra)) (hb : PE X b (SE T W rb)) (hc' : PE X c (SE T W rc)) (he : ∀ r, starEach (a :: r) X.env = (false, eval a X.env) :: starEach r X.env) (he2 : ∀ r, starEach (b :: r) X.env = (false, eval b X.env) :: starEach r X.env) (he3 : ∀ r, starEach (c :: r) X.env = (false, eval c X.env) :: starEach r X.env)
    (hw : swappedStores [.Tuple [.Name x px, .Name y py, .Name z pz] kt pt] (.Tuple [a, b, c] k2 pt2) X.env = pure (some [x, y, z])) :
    PS X (.Assign [.Tuple [.Name x px, .Name y py, .Name z pz] kt pt] (.Tuple [a, b, c] k2 pt2) pos) (SS T W fun e S => (ra e S).toS e fun x S => (rb e S).toS e fun y S => (rc e S).toS e fun z S => .nx (((e.set i (some x)).set j (some y)).set l (some z)) S) :=
  PSi (ps_par3 hc hN hi hj hl hij hil hjl hx hy hz (pa_cons ha (pa_cons hb (pa_cons hc' pa_nil (he3 _)) (he2 _)) (he _)) hw) fun F σ H ⟨ρ, e, S, hR, hE, hp⟩ => ⟨ρ, e, S, hR, hE, PoS.ex hE hp fun d S1 ρ1 H1 v r s q hp1 =>
    ⟨ρ1, e, S1, r, hE.stp s, PoS.ex (hE.stp s) hp1 fun d2 S2 ρ2 H2 w r2 s2 q2 hp2 => ⟨ρ2, e, S2, r2, (hE.stp s).stp s2, PoS.ex ((hE.stp s).stp s2) hp2 fun d3 S3 ρ3 H3 w3 r3 s3 q3 hp3 =>
      ⟨v, w, w3, rfl, hp3 ρ3 H3 _ r3 .refl ((((((hE.stp s).stp s2).stp s3).set ((q.stp s2).stp s3)).set (q2.stp s3)).set q3)⟩⟩⟩⟩
theorem s_aug {i : Nat} {x : Str} (o : Op) (ho : o = .add ∨ o = .sub) (hN : X.N.Nodup) (hi : X.N[i]? = some x) (hx : Loc X.env.scope x) (hf : X.fn x = true ∨ X.env.scope.names.lookup x = some .local) (ha : PE X a (SE T W ra)) :
    PS X (.AugAssign (.Name x p) (opOf o) a pos) (SS T W fun e S => match e.getD i none with
      | some x => (ra e S).toS e fun y S => (match augD o x y with
        | some z => .nx (e.set i (some z)) S
        | none => .bad)
      | none => .bad) := by
  have go : ∀ {f : Int → Int → Int}, PIp X (opOf o) (ipI f) → (∀ x y d, augD o x y = some d → ∃ m n, x = .int m ∧ y = .int n ∧ d = .int (f m n)) → PS X (.AugAssign (.Name x p) (opOf o) a pos) (SS T W fun (e : Lenv) S => match e.getD i none with
      | some x => (ra e S).toS e fun y S => (match augD o x y with
        | some z => .nx (e.set i (some z)) S
        | none => .bad)
      | none => .bad) := fun {f} hip hm => PSi (ps_aug hN hi hx ha hip hf) fun F σ H ⟨ρ, e, S, hR, hE, hp⟩ => by
    simp only at hp
    split at hp
    · rename_i d hd
      obtain ⟨v, h1, h2⟩ := hE.get hd
      refine ⟨v, h1, ρ, e, S, hR, hE, PoS.ex hE hp fun d2 S1 ρ1 H1 w r s q hp1 => ?_⟩
      cases ha : augD o d d2 with
      | none => rw [ha] at hp1; exact False.elim hp1
      | some z =>
        rw [ha] at hp1
        obtain ⟨m, n, rfl, rfl, rfl⟩ := hm d d2 z ha
        simp only [Rep] at h2 q
        exact ⟨m, n, h2, q, hp1 ρ1 H1 _ r .refl ((hE.stp s).set (by simp only [Rep]))⟩
    · exact False.elim hp
  rcases ho with rfl | rfl
  · exact go ip_add fun x y d h => by cases x <;> cases y <;> simp only [augD] at h <;> cases h; exact ⟨_, _, rfl, rfl, rfl⟩
  · exact go ip_sub fun x y d h => by cases x <;> cases y <;> simp only [augD] at h <;> cases h; exact ⟨_, _, rfl, rfl, rfl⟩
/-- x[k] = a -/
theorem s_setI {i : Nat} {x : Str} {k : Expr} {rk : Lenv → Sto → Out D} {p3 p4 : Pos} (hN : X.N[i]? = some x) (hv : Vis X.env.scope x) (hd : (x == ("__debug__" : Str)) = false) (hcd : (x == ("__classdict__" : Str)) = false) (ha : PE X a (SE T W ra)) (hk : PE X k (SE T W rk))
    (hs : swapsWithSole [.Subscript (.Name x p3) k p4] a pos.line X.env = pure false) (hw : swappedStores [.Subscript (.Name x p3) k p4] a X.env = pure none)
    (hg : ∀ v, assign (.Subscript (.Name x p3) k p4) X.env v = (do
      let ov ← holding [v] (eval (.Name x p3) X.env)
      let iv ← holding [v, ov] (eval k X.env)
      standAt p4
      holding [v, ov, iv] (setItem ov iv v)
      release [v, ov, iv] [])) :
    PS X (.Assign [.Subscript (.Name x p3) k p4] a pos) (SS T W fun e S => (ra e S).toS e fun x S => match e.getD i none with
      | some (.loc n) => (rk e S).toS e fun k S => (match S[n]?, k with
        | some (some xs), .int k => (match ixN xs.length k with
          | some j => if D.fits n x then .nx e (S.set n (some (xs.set j x))) else .bad
          | none => .bad)
        | _, _ => .bad)
      | _ => .bad) :=
  PSi (ps_asg ha (pg_sub (pe_var hN hv hd hcd) hk set_list hg) hs hw rfl) fun F σ H ⟨ρ, e, S, hR, hE, hp⟩ => ⟨ρ, e, S, hR, hE, PoS.ex hE hp fun d S1 ρ1 H1 v r s q hp1 => by
    split at hp1
    · rename_i n hn
      have hE1 := hE.stp s
      obtain ⟨u, h1, h2⟩ := hE1.get hn
      simp only [Rep] at h2
      obtain ⟨A, rfl, hA⟩ := h2
      refine ⟨_, h1, ρ1, e, S1, r, hE1, PoS.ex hE1 hp1 fun dk S2 ρ2 H2 w r2 s2 q2 hp2 => ?_⟩
      split at hp2
      · rename_i xs kk hxs
        split at hp2
        · rename_i j hj
          split at hp2
          · rename_i hf
            obtain ⟨A', ws, f1, f2, f3, f4⟩ := r2.at_ n xs hxs
            have f1' := s2.ext _ _ hA
            rw [f1] at f1'; cases f1'
            simp only [Rep] at q2
            subst q2
            obtain ⟨r3, s3⟩ := r2.chg hxs f1 (f3.set j (q.stp s2)) (D.fitsL_set hf f4)
            exact ⟨A, ws, kk, j, rfl, rfl, f2, by rw [f3.length]; exact hj, hp2 _ _ _ r3 s3 ((hE1.stp s2).stp s3)⟩
          · exact False.elim hp2
        · exact False.elim hp2
      · exact False.elim hp2
    · exact False.elim hp1⟩
theorem s_ex (ha : PE X a (SE T W ra)) (hs : swapsWith a none pos.line X.env = pure false) : PS X (.Expr a pos) (SS T W fun e S => (ra e S).toS e fun _ S => .nx e S) :=
  PSi (ps_expr ha hs) fun F σ H ⟨ρ, e, S, hR, hE, hp⟩ => ⟨ρ, e, S, hR, hE, PoS.ex hE hp fun d S1 ρ1 H1 v r s q hp1 => hp1 ρ1 H1 σ r .refl (hE.stp s)⟩
theorem s_brk : PS X (.Break pos) (SS T W fun e S => .bk e S) := PSi ps_break fun F σ H ⟨ρ, e, S, hR, hE, hp⟩ => hp ρ H σ hR .refl hE
theorem s_cnt : PS X (.Continue pos) (SS T W fun e S => .ct e S) := PSi ps_continue fun F σ H ⟨ρ, e, S, hR, hE, hp⟩ => hp ρ H σ hR .refl hE
theorem s_pass : PS X (.Pass pos) (SS T W fun e S => .nx e S) := PSi ps_pass fun F σ H ⟨ρ, e, S, hR, hE, hp⟩ => hp ρ H σ hR .refl hE
theorem s_ite (hc : PT X c (ST T W (tst rc))) (ha : PSs X sts (SS T W sa)) (hb : PSs X sts2 (SS T W sb)) :
    PS X (.If c sts sts2 pos) (SS T W fun e S => (rc e S).toS e fun x S => match truD S x with | some true => sa e S | some false => sb e S | none => .bad) := by
  refine PSi (ps_if hc ha hb) fun F σ H ⟨ρ, e, S, hR, hE, hp⟩ => ⟨ρ, e, S, hR, hE, ?_⟩
  simp only [tst, Out.toS] at hp ⊢
  generalize rc e S = o at hp ⊢
  cases o with
  | err c S1 => exact fun ρ' H' r s => hp ρ' H' σ r s (hE.stp s)
  | bad => exact hp
  | ok x S1 =>
    simp only [Out.bind] at hp ⊢
    cases hk : truD S1 x with
    | none => rw [hk] at hp; exact hp
    | some k =>
      cases k with
      | true =>
        intro ρ' H' b r s q
        subst q
        simp only [hk] at hp
        exact ⟨ρ', e, S1, r, hE.stp s, PoS.stp s hp⟩
      | false =>
        intro ρ' H' b r s q
        subst q
        simp only [hk] at hp
        exact ⟨ρ', e, S1, r, hE.stp s, PoS.stp s hp⟩
theorem s_for {t : Tg} (hK : X.K = T.K) (hp' : PassesOwn (model X.prog X.w) X.A X.env X.xe) (hc : X.calm = true) (hi : PI X tg a (SI T W ri)) (hg : PG X tg (gOf X.K t)) (hb : PSs X sts (SS T W sb)) (hs : ∀ x, foldedSetIterable a X.env x = pure x) :
    PS X (.For tg a sts [] pos) (SS T W fun e S => match ri e S with | .ok xs S1 => forL sb t xs e S1 | .err c S1 => .err c e S1 | .bad => .bad) := by
  refine PSi (ps_for hp' hc hi hg hb hs) fun F σ H ⟨ρ, e, S, hR, hE, hp⟩ => ⟨ρ, e, S, hR, hE, ?_⟩
  simp only at hp
  generalize ri e S = o at hp ⊢
  cases o with
  | err c S1 => exact fun ρ' H' r s => hp ρ' H' σ r s (hE.stp s)
  | bad => exact hp
  | ok xs S1 =>
    intro ρ1 H1 J r1 s1 hW
    refine ⟨fun i m σ2 H2 => m = xs.length - i ∧ i ≤ xs.length ∧ ∃ ρ2 e2 S2, Rl T ρ2 S2 H2 ∧ EnvR T ρ2 S2 H2 σ2 e2 ∧ Stp ρ1 S1 H1 ρ2 S2 H2 ∧ PoS T W ρ2 S2 H2 F (forL sb t (xs.drop i) e2 S2), ⟨xs.length, by simp, Nat.zero_le _, ρ1, e, S1, r1, hE.stp s1, .refl, by simpa using PoS.stp s1 hp⟩, ?_⟩
    rintro i m σ2 H2 ⟨rfl, hi', ρ2, e2, S2, r2, hE2, s2, hp2⟩
    obtain ⟨hgo, hstop⟩ := hW ρ2 S2 H2 s2.wk r2
    by_cases hlt : i < xs.length
    · obtain ⟨go, hy⟩ := hgo i _ (List.getElem?_eq_getElem hlt)
      rw [List.drop_eq_getElem_cons hlt] at hp2
      unfold forL at hp2
      split at hp2
      · exact False.elim hp2
      · rename_i e' hset
        refine .inr ⟨go, fun σ3 H3 => ∃ ρ3 e3 S3, Rl T ρ3 S3 H3 ∧ EnvR T ρ3 S3 H3 σ3 e3 ∧ Stp ρ1 S1 H1 ρ3 S3 H3 ∧ PoS T W ρ3 S3 H3 F (forL sb t (xs.drop (i + 1)) e3 S3), fun σ3 H3 h => ⟨xs.length - (i + 1), by omega, rfl, hlt, h⟩, fun x H3 hyld => ?_⟩
        obtain ⟨r3, s3, hx3⟩ := hy x H3 hyld
        refine g_ok hK t (hE2.stp s3) hx3 hset fun σ4 hE4 _ => ⟨ρ2, e', S2, r3, hE4, ?_⟩
        have hp3 := PoS.stp s3 hp2
        generalize sb e' S2 = o at hp3 ⊢
        cases o with
        | nx e5 S5 => exact fun ρ5 H5 σ5 r5 s5 q5 => ⟨ρ5, e5, S5, r5, q5, (s2.trans s3).trans s5, PoS.stp s5 hp3⟩
        | ct e5 S5 => exact fun ρ5 H5 σ5 r5 s5 q5 => ⟨ρ5, e5, S5, r5, q5, (s2.trans s3).trans s5, PoS.stp s5 hp3⟩
        | bk e5 S5 => exact fun ρ5 H5 σ5 r5 s5 q5 => hp3 ρ5 H5 σ5 r5 s5 q5
        | rt d S5 => exact hp3
        | err c e5 S5 => exact hp3
        | bad => exact hp3
    · have ei : i = xs.length := by omega
      subst ei
      rw [List.drop_length] at hp2
      exact .inl ⟨hstop, hp2 ρ2 H2 σ2 r2 .refl hE2⟩
theorem s_whl {n : Nat} (hp' : PassesOwn (model X.prog X.w) X.A X.env X.xe) (hc : PT X c (ST T W (tst rc))) (hb : PSs X sts (SS T W sb)) : PS X (.While c sts [] pos) (SS T W fun e S => whlL rc sb n e S) := by
  refine PSi (ps_while hp' hc hb) fun F σ H ⟨ρ, e, S, hR, hE, hp⟩ => ?_
  refine ⟨fun m σ2 H2 => ∃ ρ2 e2 S2, Rl T ρ2 S2 H2 ∧ EnvR T ρ2 S2 H2 σ2 e2 ∧ PoS T W ρ2 S2 H2 F (whlL rc sb m e2 S2), ⟨n, ρ, e, S, hR, hE, hp⟩, ?_⟩
  rintro m σ2 H2 ⟨ρ2, e2, S2, r2, hE2, hp2⟩
  cases m with
  | zero => exact False.elim hp2
  | succ m =>
    unfold whlL at hp2
    refine ⟨ρ2, e2, S2, r2, hE2, ?_⟩
    simp only [tst]
    generalize rc e2 S2 = o at hp2 ⊢
    cases o with
    | err c S1 => exact fun ρ' H' r s => hp2 ρ' H' σ2 r s (hE2.stp s)
    | bad => exact hp2
    | ok x S1 =>
      simp only [Out.bind] at hp2 ⊢
      cases hk : truD S1 x with
      | none => rw [hk] at hp2; exact hp2
      | some k =>
        cases k with
        | false =>
          intro ρ3 H3 b r3 s3 q
          subst q
          simp only [hk] at hp2
          rw [if_neg (by simp)]
          exact hp2 ρ3 H3 σ2 r3 s3 (hE2.stp s3)
        | true =>
          intro ρ3 H3 b r3 s3 q
          subst q
          simp only [hk] at hp2
          rw [if_pos rfl]
          refine ⟨fun σ4 H4 => ∃ ρ4 e4 S4, Rl T ρ4 S4 H4 ∧ EnvR T ρ4 S4 H4 σ4 e4 ∧ PoS T W ρ4 S4 H4 F (whlL rc sb m e4 S4), fun σ4 H4 h => ⟨m, Nat.lt_succ_self _, h⟩, ρ3, e2, S1, r3, hE2.stp s3, ?_⟩
          have hp3 := PoS.stp s3 hp2
          generalize sb e2 S1 = o at hp3 ⊢
          cases o with
          | nx e5 S5 => exact fun ρ5 H5 σ5 r5 s5 q5 => ⟨ρ5, e5, S5, r5, q5, PoS.stp s5 hp3⟩
          | ct e5 S5 => exact fun ρ5 H5 σ5 r5 s5 q5 => ⟨ρ5, e5, S5, r5, q5, PoS.stp s5 hp3⟩
          | bk e5 S5 => exact fun ρ5 H5 σ5 r5 s5 q5 => hp3 ρ5 H5 σ5 r5 s5 q5
          | rt d S5 => exact hp3
          | err c e5 S5 => exact hp3
          | bad => exact hp3
end
end Ev

set_option Elab.async false
set_option linter.all false
set_option maxRecDepth 100000
/-! Ev, part H: how arguments come to plain parameters. -/
namespace Ev
open PySem PySem.Spec PyProof.Rows L2

theorem loop_kw {names : List Str} {F : Str × Value → List (Str × Value) × List (Str × Value) → Sem (ForInStep (List (Str × Value) × List (Str × Value)))}
    (hF : ∀ x s, names.contains x.1 = true → s.1.lookup x.1 = none → F x s = pure (.yield (s.1 ++ [(x.1, x.2)], s.2))) :
    ∀ (kws sl : List (Str × Value)), (∀ x ∈ kws, names.contains x.1 = true) → (∀ x ∈ kws, sl.lookup x.1 = none) → (kws.map (·.1)).Nodup → forIn kws (sl, ([] : List (Str × Value))) F = pure (sl ++ kws, [])
  | [], sl, _, _, _ => by simp
  | x :: kws, sl, h1, h2, h3 => by
    rw [List.forIn_cons, hF x (sl, []) (h1 x List.mem_cons_self) (h2 x List.mem_cons_self)]
    have e : sl ++ x :: kws = (sl ++ [(x.1, x.2)]) ++ kws := by simp
    rw [e]
    rw [List.map_cons, List.nodup_cons] at h3
    exact loop_kw hF kws (sl ++ [(x.1, x.2)]) (fun y hy => h1 y (List.mem_cons_of_mem _ hy)) (fun y hy => by
      rw [List.lookup_append, h2 y (List.mem_cons_of_mem _ hy)]
      have ne : (y.1 == x.1) = false := beq_eq_false_iff_ne.mpr fun q => h3.1 (q ▸ List.mem_map_of_mem hy)
      simp [List.lookup_cons, ne]) h3.2
theorem seq_none : seqItems? .none = pure none := by first | rfl | (unfold seqItems?; rfl)

theorem bind_plain {fd : FuncData} {us : List Value} {kws : List (Str × Value)} (h1 : fd.params.posonlyargs = []) (h2 : fd.params.vararg = none) (h3 : fd.params.kwonlyargs = []) (h4 : fd.params.kwarg = none) (h5 : fd.defaults = .none)
    (hu : us.length ≤ (fd.params.args.map (·.arg)).length) (k1 : ∀ x ∈ kws, (fd.params.args.map (·.arg)).contains x.1 = true) (k2 : ∀ x ∈ kws, ((fd.params.args.map (·.arg)).zip us).lookup x.1 = none) (k3 : (kws.map (·.1)).Nodup)
    (hall : ∀ n ∈ fd.params.args.map (·.arg), (((fd.params.args.map (·.arg)).zip us ++ kws).lookup n).isSome = true) :
    bindArgs fd ⟨us, kws⟩ = pure ((fd.params.args.map (·.arg)).filterMap fun n => (((fd.params.args.map (·.arg)).zip us ++ kws).lookup n).map (n, ·)) := by
  have hm : (fd.params.args.map (·.arg)).filter (fun n => (((fd.params.args.map (·.arg)).zip us ++ kws).lookup n).isNone) = [] := by
    rw [List.filter_eq_nil_iff]
    intro n hn
    have := hall n hn
    cases q : ((fd.params.args.map (·.arg)).zip us ++ kws).lookup n with
    | none => rw [q] at this; cases this
    | some v => simp
  unfold bindArgs
  simp only [h1, h2, h3, h4, h5, List.map_nil, List.nil_append, List.append_nil]
  generalize fd.params.args.map (·.arg) = names at hu k1 k2 k3 hall hm ⊢
  rw [loop_kw (names := names) ?hF kws (names.zip us) k1 k2 k3]
  case hF =>
    intro x s hx hs
    have hs' : (List.lookup x.1 s.1).isSome = false := by rw [hs]; rfl
    have hx' : (names.contains x.1 || ([] : List Str).contains x.1) = true := by rw [hx]; rfl
    rw [if_pos hx', if_neg (by rw [hs']; simp)]
  have e1 : (decide (us.length > names.length) && (none : Option Arg).isNone) = false := by simp; omega
  simp only [pure_bind, seq_none, Option.getD_none, List.drop_nil, List.length_nil, Nat.sub_zero, List.take_length, hm, List.isEmpty_nil, Bool.not_true, Bool.false_eq_true, if_false, List.drop_length, List.zip_nil_right, List.forIn_nil, e1]

theorem look_all {L : List (Str × Value)} : ∀ {names : List Str} {vals : List Value}, vals.length = names.length → (∀ (i : Nat) (n : Str) (v : Value), names[i]? = some n → vals[i]? = some v → L.lookup n = some v) →
    (names.filterMap fun n => (L.lookup n).map (n, ·)) = names.zip vals
  | [], vals, hl, _ => by simp
  | n :: names, [], hl, _ => by simp at hl
  | n :: names, v :: vals, hl, h => by
    rw [List.filterMap_cons, h 0 n v rfl rfl, List.zip_cons_cons]
    simp only [Option.map_some]
    rw [look_all (by simpa using hl) fun i m w e1 e2 => h (i + 1) m w (by simpa using e1) (by simpa using e2)]
theorem zip_look {names : List Str} (nd : names.Nodup) : ∀ {us : List Value} {i : Nat} {n : Str} {v : Value}, names[i]? = some n → us[i]? = some v → (names.zip us).lookup n = some v := by
  induction names with
  | nil => intro us i n v h; simp at h
  | cons m names ih =>
    intro us i n v h1 h2
    rw [List.nodup_cons] at nd
    cases us with
    | nil => simp at h2
    | cons u us =>
      rw [List.zip_cons_cons, List.lookup_cons]
      cases i with
      | zero => simp at h1 h2; subst h1; subst h2; simp
      | succ i =>
        have hm : n ∈ names := List.mem_of_getElem? (i := i) (by simpa using h1)
        have ne : (n == m) = false := beq_eq_false_iff_ne.mpr fun q => nd.1 (q ▸ hm)
        rw [ne]
        exact ih nd.2 (i := i) (by simpa using h1) (by simpa using h2)
theorem zip_none {names : List Str} (nd : names.Nodup) : ∀ {us : List Value} {i : Nat} {n : Str}, names[i]? = some n → us.length ≤ i → (names.zip us).lookup n = none := by
  induction names with
  | nil => intro us i n h; simp at h
  | cons m names ih =>
    intro us i n h1 h2
    rw [List.nodup_cons] at nd
    cases us with
    | nil => simp
    | cons u us =>
      rw [List.zip_cons_cons, List.lookup_cons]
      cases i with
      | zero => simp at h2
      | succ i =>
        have hm : n ∈ names := List.mem_of_getElem? (i := i) (by simpa using h1)
        have ne : (n == m) = false := beq_eq_false_iff_ne.mpr fun q => nd.1 (q ▸ hm)
        rw [ne]
        exact ih nd.2 (i := i) (by simpa using h1) (by simpa using h2)

/-- values in the parameters' order: n by place, the others by keyword, for the places ix -/
def mixG {α : Type} (d : α) (vs : List α) (ix : List Nat) (ws : List α) : List α := (List.range (vs.length + ws.length)).map fun k => if k < vs.length then vs.getD k d else ws.getD (ix.idxOf k) d
/-- the keywords' names stand at the places ix, all behind the first n; together all -/
def ixOk (names : List Str) (n : Nat) (ks : List Str) (ix : List Nat) : Bool :=
  decide (ks.length = ix.length) && decide (n + ix.length = names.length) && decide (ix.Nodup) && decide (ks = ix.map fun i => names.getD i "") && ix.all (fun i => decide (n ≤ i) && decide (i < names.length)) && (List.range names.length).all (fun i => decide (i < n) || decide (i ∈ ix))
theorem kw_at {names : List Str} {n : Nat} {ks : List Str} {ix : List Nat} (nd : names.Nodup) (h : ixOk names n ks ix = true) {us ws : List Value} (l1 : us.length = n) (l2 : ws.length = ks.length) :
    (∀ x ∈ ks.zip ws, names.contains x.1 = true) ∧ (∀ x ∈ ks.zip ws, (names.zip us).lookup x.1 = none) ∧ ((ks.zip ws).map (·.1)).Nodup ∧ (mixG .none us ix ws).length = names.length ∧
      ∀ (i : Nat) (m : Str) (v : Value), names[i]? = some m → (mixG .none us ix ws)[i]? = some v → (names.zip us ++ ks.zip ws).lookup m = some v := by
  simp only [ixOk, Bool.and_eq_true, decide_eq_true_eq, List.all_eq_true, Bool.or_eq_true, List.mem_range] at h
  obtain ⟨⟨⟨⟨⟨h1, h2⟩, h3⟩, h4⟩, h5⟩, h6⟩ := h
  have nameAt : ∀ i ∈ ix, names[i]? = some (names.getD i "") := fun i hi => by
    have := (h5 i hi).2
    rw [List.getD_eq_getElem?_getD, List.getElem?_eq_getElem this]; rfl
  have ksN : ks.Nodup := by
    rw [h4]
    refine List.Pairwise.map _ ?_ (List.Pairwise.and_mem.mp h3)
    rintro i j ⟨hi, hj, hij⟩ q
    have e1 := nameAt i hi
    have e2 := nameAt j hj
    rw [q] at e1
    exact hij (nodup_ix nd e1 e2)
  have mm : (ks.zip ws).map (·.1) = ks := by
    rw [List.map_fst_zip]; omega
  have inK : ∀ x ∈ ks.zip ws, ∃ i ∈ ix, names[i]? = some x.1 := fun x hx => by
    have : x.1 ∈ ks := (List.of_mem_zip (show (x.1, x.2) ∈ ks.zip ws from hx)).1
    rw [h4] at this
    obtain ⟨i, hi, e⟩ := List.mem_map.mp this
    exact ⟨i, hi, by rw [← e]; exact nameAt i hi⟩
  refine ⟨fun x hx => ?_, fun x hx => ?_, by rw [mm]; exact ksN, by simp [mixG]; omega, fun i m v e1 e2 => ?_⟩
  · obtain ⟨i, _, e⟩ := inK x hx
    simpa using List.mem_of_getElem? e
  · obtain ⟨i, hi, e⟩ := inK x hx
    exact zip_none nd e (by rw [l1]; exact (h5 i hi).1)
  · have hi : i < us.length + ws.length := by
      have := (List.getElem?_eq_some_iff.mp e2).1
      simpa [mixG] using this
    have ev : v = if i < us.length then us.getD i .none else ws.getD (ix.idxOf i) .none := by
      unfold mixG at e2
      rw [List.getElem?_map, List.getElem?_range hi] at e2
      exact (Option.some.inj e2).symm
    by_cases hlt : i < us.length
    · rw [if_pos hlt] at ev
      rw [List.lookup_append, zip_look nd e1 (v := v) (by rw [ev, List.getD_eq_getElem?_getD, List.getElem?_eq_getElem hlt]; rfl)]
      rfl
    · rw [if_neg hlt] at ev
      have hmem : i ∈ ix := by
        have hin : i < names.length := (List.getElem?_eq_some_iff.mp e1).1
        exact (h6 i hin).resolve_left (by omega)
      have hk : ix.idxOf i < ix.length := List.idxOf_lt_length_iff.mpr hmem
      have hkk : ks[ix.idxOf i]? = some m := by
        rw [h4, List.getElem?_map, List.getElem?_eq_getElem hk, List.getElem_idxOf hk]
        have := nameAt i hmem
        rw [e1] at this
        exact this.symm ▸ rfl
      rw [List.lookup_append, zip_none nd e1 (by omega)]
      refine zip_look ksN hkk ?_
      rw [ev, List.getD_eq_getElem?_getD, List.getElem?_eq_getElem (by omega)]
      rfl
/-- a def with plain parameters alone -/
def plainP (p : Arguments) : Bool := p.posonlyargs.isEmpty && p.vararg.isNone && p.kwonlyargs.isEmpty && p.kwarg.isNone
theorem bind_kw {fd : FuncData} {names : List Str} {n : Nat} {ks : List Str} {ix : List Nat} (hp : plainP fd.params = true) (hn : fd.params.args.map (·.arg) = names) (h5 : fd.defaults = .none) (nd : names.Nodup) (h : ixOk names n ks ix = true)
    {us ws : List Value} (l1 : us.length = n) (l2 : ws.length = ks.length) : bindArgs fd ⟨us, ks.zip ws⟩ = pure (names.zip (mixG .none us ix ws)) := by
  obtain ⟨k1, k2, k3, k4, k5⟩ := kw_at nd h l1 l2
  simp only [plainP, Bool.and_eq_true, List.isEmpty_iff, Option.isNone_iff_eq_none] at hp
  obtain ⟨⟨⟨p1, p2⟩, p3⟩, p4⟩ := hp
  subst hn
  rw [bind_plain p1 p2 p3 p4 h5 ?_ k1 k2 k3 ?_, look_all k4 k5]
  · rw [← k4]; simp [mixG]
  · intro m hm
    obtain ⟨i, hi⟩ := List.getElem?_of_mem hm
    have hi' : i < (mixG Value.none us ix ws).length := by rw [k4]; exact (List.getElem?_eq_some_iff.mp hi).1
    rw [k5 i m _ hi (List.getElem?_eq_getElem hi')]
    rfl
theorem mix_vals {vs : List V} {us : List Value} {zs : List V} {ws : List Value} (ix : List Nat) (r : Vals vs us) (s : Vals zs ws) : Vals (mixG .non vs ix zs) (mixG .none us ix ws) := by
  have gd : ∀ {as : List V} {bs : List Value} (k : Nat), Vals as bs → RelV (as.getD k .non) (bs.getD k .none) := fun {as bs} k h => by
    rw [List.getD_eq_getElem?_getD, List.getD_eq_getElem?_getD]
    cases q : as[k]? with
    | none => rw [h.none_of q]; exact rfl
    | some a => obtain ⟨b, e, hb⟩ := h.get q; rw [e]; exact hb
  unfold mixG
  rw [r.length, s.length]
  generalize List.range (us.length + ws.length) = l
  induction l with
  | nil => exact .nil
  | cons k l ih =>
    rw [List.map_cons, List.map_cons]
    refine .cons ?_ ih
    by_cases h : k < us.length
    · rw [if_pos h, if_pos h]; exact gd k r
    · rw [if_neg h, if_neg h]; exact gd _ s
end Ev

set_option Elab.async false
set_option linter.all false
set_option maxRecDepth 100000
/-! Ev, part I: calls of defs, raise. -/
namespace Ev
open PySem PySem.Spec PyProof.Rows L2

/-- what the def of number f promises, with calls n deep -/
def spF (T : Tb) (P : List Fn) (is : Nat → Nat → Bool) (n f : Nat) : Sp := fun vs H Q E => ∃ ρ S ds, Rl T ρ S H ∧ Reps T ρ (vis ρ S H) ds vs ∧ Po T (RD T) ρ S H (fun c H' => E (.ref (T.ca c)) none H') Q (callN P is n f ds S)
/-- how the def of number f stands, for the calls in X -/
structure DefOk (X : Cx) (T : Tb) (P : List Fn) (is : Nat → Nat → Bool) (n f : Nat) (x : Str) (ps : List Str) : Prop where
  ex : ∃ (a : Addr) (fd : FuncData), X.mg x = some (.ref a) ∧ T.fa f = some a ∧ PySem.W.keepIn X.K (.ref a) = true ∧ FnOk X.prog X.w X.K X.mg X.base (L2.CX X.prog X.w) n a fd ps (spF T P is n f) ∧
    plainP fd.params = true ∧ fd.params.args.map (·.arg) = ps ∧ fd.defaults = .none ∧ ps.Nodup

theorem mixG_nil {α : Type} (d : α) (us : List α) : mixG d us [] [] = us := by
  apply List.ext_getElem?
  intro i
  unfold mixG
  rw [List.getElem?_map]
  by_cases h : i < us.length
  · rw [List.getElem?_range (by simpa using h)]
    simp [h, List.getD_eq_getElem?_getD]
  · have h1 : us[i]? = none := List.getElem?_eq_none (by omega)
    have h2 : (List.range (us.length + ([] : List α).length))[i]? = none := List.getElem?_eq_none (by simp; omega)
    rw [h1, h2]; rfl
theorem ixOk_nil {names : List Str} : ixOk names names.length [] [] = true := by
  simp [ixOk, List.all_eq_true]
theorem binds_all {K : PySem.W.Frag} {fd : FuncData} {ps : List Str} (h1 : plainP fd.params = true) (h2 : fd.params.args.map (·.arg) = ps) (h3 : fd.defaults = .none) (nd : ps.Nodup) : Binds K fd ps [] :=
  .all fun us hl => by
    have := bind_kw (us := us) (ws := []) h1 h2 h3 nd ixOk_nil hl rfl
    rw [mixG_nil] at this
    exact this

section
variable {X : Cx} {T : Tb} {W : WX} {P : List Fn} {is : Nat → Nat → Bool} {n f : Nat} {x : Str} {ps : List Str} {pos p : Pos} {a : Expr} {es : List Expr} {ks : List Keyword} {rs rk : Lenv → Sto → Out (List D)}
theorem e_call (F : DefOk X T P is n f x ps) (hr : Room n X.A) (tk : Takes X W) (hg : Gl X x) (ha : PA X (a :: es) (SA T W rs)) (hdb : (x == ("__debug__" : Str)) = false)
    (he : starEach (a :: es) X.env = (false, eval a X.env) :: starEach es X.env) (hpl : (backTo pos (starEach es X.env)).any (·.1) = false) :
    PE X (.Call (.Name x p) (a :: es) [] pos) (SE T W fun e S => (rs e S).bind fun vs S => callN P is n f vs S) := by
  obtain ⟨A, fd, hm, hf, hk, G, b1, b2, b3, b4⟩ := F.ex
  exact PEi (pe_callS (E := WE W) G hr hg hm hk (binds_all b1 b2 b3 b4) (fun σ => passAt tk σ) ha hdb he hpl) fun σ H Q ⟨ρ, e, S, hR, hE, hp⟩ => ⟨ρ, e, S, hR, hE, hp.bind fun ds S1 ρ1 H1 vs hR1 hS1 hx hp1 => ⟨ρ1, S1, ds, hR1, hx, hp1⟩⟩
theorem e_call0 (F : DefOk X T P is n f x ps) (hr : Room n X.A) (tk : Takes X W) (hg : Gl X x) (hdb : (x == ("__debug__" : Str)) = false) : PE X (.Call (.Name x p) [] [] pos) (SE T W fun e S => callN P is n f [] S) := by
  obtain ⟨A, fd, hm, hf, hk, G, b1, b2, b3, b4⟩ := F.ex
  refine ⟨fun pins s σ H Q I ⟨ρ, e, S, hR, hE, hp⟩ => wpAny_Call_Name_kw (ld_glob I hg hm ?_ hdb)⟩
  exact PySem.W.callWith_K0 I.kIn hk (run_fnS (E := WE W) (us := []) (vs := []) G hr (binds_all b1 b2 b3 b4) (passAt tk σ) I .nil ⟨ρ, S, [], hR, .nil, hp⟩)
/-- the keywords' names -/
def kwN (ks : List Keyword) : List Str := ks.filterMap (·.arg)
structure KwOk (X : Cx) (ks : List Keyword) (t : TA) : Prop where
  pk : PK X ks t
  some_ : ∀ pos, (backToKw pos (keywordEach ks X.env)).all (·.1.isSome) = true
  nms : ∀ pos, (backToKw pos (keywordEach ks X.env)).filterMap (·.1) = kwN ks
  non : ∀ pos, (backToKw pos (keywordEach ks X.env)).any (·.1.isNone) = false
theorem kw_nil : KwOk X [] (SA T W fun _ S => .ok [] S) := by
  refine ⟨⟨fun pos pins s σ H Q I ⟨ρ, e, S, hR, hE, hp⟩ => pk_nil.run pos pins s σ H Q I (hp ρ H [] hR .refl .nil)⟩, fun _ => rfl, fun _ => rfl, fun _ => rfl⟩
theorem kw_cons {m : Str} {kp : Pos} {ra : Lenv → Sto → Out D} (ha : PE X a (SE T W ra)) (hr : KwOk X ks (SA T W rs)) : KwOk X (⟨some m, a, kp⟩ :: ks) (SA T W fun e S => (ra e S).bind fun x S => (rs e S).bind fun xs S => .ok (x :: xs) S) := by
  have e1 : ∀ pos, backToKw pos (keywordEach (⟨some m, a, kp⟩ :: ks) X.env) = (some m, do let v ← eval a X.env; standAt pos; pure v) :: backToKw pos (keywordEach ks X.env) := fun pos => rfl
  refine ⟨⟨fun pos pins s σ H Q I ⟨ρ, e, S, hR, hE, hp⟩ => (pk_cons ha hr.pk).run pos pins s σ H Q I ⟨ρ, e, S, hR, hE, hp.bind fun x S1 ρ1 H1 v hR1 hS1 hx hp1 => ⟨ρ1, e, S1, hR1, hE.stp hS1, hp1.bind fun xs S2 ρ2 H2 vs hR2 hS2 hxs hp2 =>
    hp2 ρ2 H2 (v :: vs) hR2 .refl (.cons (hx.stp hS2) hxs)⟩⟩⟩, fun pos => ?_, fun pos => ?_, fun pos => ?_⟩
  · rw [e1, List.all_cons, hr.some_]; rfl
  · rw [e1, List.filterMap_cons]; simp only; rw [hr.nms]; rfl
  · rw [e1, List.any_cons, hr.non]; rfl
theorem run_kw (F : DefOk X T P is n f x ps) (hr : Room n X.A) (tk : Takes X W) {A : Addr} (hm : X.mg x = some (.ref A)) {pins : List (Addr × Obj)} {s : Shared} {σ : L2.St} {H : Hp} {Q : VK} {us ws : List Value} {vs zs : List V} {m : Nat} {nms : List Str} {ix : List Nat}
    (hn : ixOk ps m nms ix = true) (l1 : us.length = m) (l2 : ws.length = nms.length)
    (I : Inv X pins σ H s) (r : Vals vs us) (rz : Vals zs ws) (h : spF T P is n f (mixG .non vs ix zs) H Q (WE W σ)) : wpAny (model X.prog X.w) X.A (call (.ref A) us (nms.zip ws)) (EP X pins σ Q) X.xe s := by
  obtain ⟨A', fd, hm', hf, hk, G, b1, b2, b3, b4⟩ := F.ex
  rw [hm] at hm'; cases hm'
  refine wpAny_call (codeAny_mono (G.run X.A X.stack s H ⟨us, nms.zip ws⟩ (mixG .none us ix ws) (mixG .non vs ix zs) Q (WE W σ) hr I.env0 (.of_eq (bind_kw b1 b2 b3 b4 hn l1 l2)) (mix_vals ix r rz) h) fun r' s' hq => ?_)
  cases r' with
  | error e => exact passAt tk σ pins H s e s' I hq
  | ok fl =>
    cases fl with
    | ret u => exact I.after hq
    | _ => exact False.elim hq
theorem mixG_reps {ρ : Pl} {H : Hp} {ds es : List D} {vs zs : List V} (ix : List Nat) (h1 : Reps T ρ H ds vs) (h2 : Reps T ρ H es zs) : Reps T ρ H (mixA ds ix es) (mixG .non vs ix zs) := by
  have gd : ∀ {as : List D} {bs : List V} (k : Nat), Reps T ρ H as bs → Rep T ρ H (as.getD k .non) (bs.getD k .non) := fun {as bs} k h => by
    rw [List.getD_eq_getElem?_getD, List.getD_eq_getElem?_getD]
    cases q : as[k]? with
    | none =>
      have : bs[k]? = none := List.getElem?_eq_none (by rw [h.length]; exact List.getElem?_eq_none_iff.mp q)
      rw [this]; simp [Rep]
    | some a => obtain ⟨b, e, hb⟩ := h.get q; rw [e]; exact hb
  unfold mixA mixG
  rw [h1.length, h2.length]
  generalize List.range (ds.length + es.length) = l
  induction l with
  | nil => exact .nil
  | cons k l ih =>
    rw [List.map_cons, List.map_cons]
    refine .cons ?_ ih
    by_cases h : k < ds.length
    · rw [if_pos h, if_pos h]; exact gd k h1
    · rw [if_neg h, if_neg h]; exact gd _ h2
theorem Po.bindE {α β γ δ : Type} {R : RelT α β} {R' : RelT γ δ} {ρ : Pl} {S : Sto} {H : Hp} {We : Nat → Hp → Prop} {Q : β → Hp → Prop} {o : Out α} {g : α → Sto → Out γ} {Q' : δ → Hp → Prop} (hp : Po T R' ρ S H We Q' (o.bind g))
    (h : ∀ a S1 ρ1 H1 b, o = .ok a S1 → Rl T ρ1 S1 H1 → Stp ρ S H ρ1 S1 H1 → R ρ1 (vis ρ1 S1 H1) a b → Po T R' ρ1 S1 H1 We Q' (g a S1) → Q b H1) : Po T R ρ S H We Q o := by
  cases o with
  | ok a S' => exact fun ρ' H' b r s q => h a S' ρ' H' b rfl r s q (Po.stp s hp)
  | err c S' => exact hp
  | bad => exact hp
theorem e_callk {m : Nat} {ix : List Nat} (F : DefOk X T P is n f x ps) (hr : Room n X.A) (tk : Takes X W) (hg : Gl X x) (ha : PA X (a :: es) (SA T W rs)) (hkw : KwOk X ks (SA T W rk)) (hdb : (x == ("__debug__" : Str)) = false)
    (he : starEach (a :: es) X.env = (false, eval a X.env) :: starEach es X.env) (hpl : (backTo pos (starEach es X.env)).any (·.1) = false)
    (hn : ixOk ps m (kwN ks) ix = true)
    (h1 : ∀ e S ds S', rs e S = .ok ds S' → ds.length = m) (h2 : ∀ e S ds S', rk e S = .ok ds S' → ds.length = (kwN ks).length) :
    PE X (.Call (.Name x p) (a :: es) ks pos) (SE T W fun e S => (rs e S).bind fun vs S => (rk e S).bind fun ws S => callN P is n f (mixA vs ix ws) S) := by
  obtain ⟨A, fd, hm, hf, hk, G, b1, b2, b3, b4⟩ := id F.ex
  refine ⟨fun pins s σ H Q I ⟨ρ, e, S, hR, hE, hp⟩ => wpAny_Call_Name_kw (ld_glob I hg hm ?_ hdb)⟩
  refine PySem.W.callWith_KW (h₀ := X.base) I.ok.mod.kin hk (hkw.some_ pos) (thn (ha.run pos pins s σ H (fun vs H1 => vs.length = m ∧ SA T W rk σ H1 fun zs H2 => zs.length = (kwN ks).length ∧ spF T P is n f (mixG .non vs ix zs) H2 Q (WE W σ)) I
    ⟨ρ, e, S, hR, hE, Po.bindE hp fun ds S1 ρ1 H1 vs eq hR1 hS1 hx hp1 => ⟨by rw [hx.length]; exact h1 _ _ _ _ eq, ρ1, e, S1, hR1, hE.stp hS1, Po.bindE hp1 fun es S2 ρ2 H2 zs eq2 hR2 hS2 hy hp2 => ⟨by rw [hy.length]; exact h2 _ _ _ _ eq2, ρ2, S2, _, hR2, mixG_reps ix (hx.stp hS2) hy, hp2⟩⟩⟩)
    fun us s1 ⟨vs, H1, I1, r, l1, q⟩ => thn (hkw.pk.run pos pins s1 σ H1 _ I1 q) fun ws s2 ⟨zs, H2, I2, rz, l2, q2⟩ => ⟨I2.kIn, ?_⟩) ?_ he
  · rw [hkw.nms]
    exact run_kw F hr tk hm hn (r.length.symm.trans l1) (rz.length.symm.trans l2) I2 r rz q2
  · have e0 : backTo pos (starEach (a :: es) X.env) = (false, eval a X.env) :: backTo pos (starEach es X.env) := by rw [he]; rfl
    rw [e0, List.any_cons, hpl, hkw.non]; rfl
theorem e_callk0 {ix : List Nat} (F : DefOk X T P is n f x ps) (hr : Room n X.A) (tk : Takes X W) (hg : Gl X x) (hkw : KwOk X ks (SA T W rk)) (hdb : (x == ("__debug__" : Str)) = false)
    (hn : ixOk ps 0 (kwN ks) ix = true)
    (h2 : ∀ e S ds S', rk e S = .ok ds S' → ds.length = (kwN ks).length) :
    PE X (.Call (.Name x p) [] ks pos) (SE T W fun e S => (rk e S).bind fun ws S => callN P is n f (mixA [] ix ws) S) := by
  obtain ⟨A, fd, hm, hf, hk, G, b1, b2, b3, b4⟩ := id F.ex
  refine ⟨fun pins s σ H Q I ⟨ρ, e, S, hR, hE, hp⟩ => wpAny_Call_Name_kw (ld_glob I hg hm ?_ hdb)⟩
  refine PySem.W.callWith_KW0 (h₀ := X.base) I.ok.mod.kin hk (hkw.some_ pos) (thn (hkw.pk.run pos pins s σ H (fun zs H2 => zs.length = (kwN ks).length ∧ spF T P is n f (mixG .non [] ix zs) H2 Q (WE W σ)) I
    ⟨ρ, e, S, hR, hE, Po.bindE hp fun es S2 ρ2 H2 zs eq2 hR2 hS2 hy hp2 => ⟨by rw [hy.length]; exact h2 _ _ _ _ eq2, ρ2, S2, _, hR2, mixG_reps ix .nil hy, hp2⟩⟩) fun ws s2 ⟨zs, H2, I2, rz, l2, q2⟩ => ⟨I2.kIn, ?_⟩) ?_
  · rw [hkw.nms]
    exact run_kw (us := []) (vs := []) F hr tk hm hn rfl (rz.length.symm.trans l2) I2 .nil rz q2
  · rw [hkw.non]; rfl
/-- a call of what a name of the def holds -/
theorem e_callv {i : Nat} (Fs : ∀ g A, T.fa g = some A → ∃ y ps, DefOk X T P is n g y ps ∧ X.mg y = some (.ref A)) (hr : Room n X.A) (tk : Takes X W) (hN : X.N[i]? = some x) (hv : Vis X.env.scope x) (hdb : (x == ("__debug__" : Str)) = false) (hcd : (x == ("__classdict__" : Str)) = false)
    (ha : PA X (a :: es) (SA T W rs)) (he : starEach (a :: es) X.env = (false, eval a X.env) :: starEach es X.env) (hpl : (backTo pos (starEach es X.env)).any (·.1) = false) :
    PE X (.Call (.Name x p) (a :: es) [] pos) (SE T W fun e S => match e.getD i none with
      | some (.fn g) => (rs e S).bind fun vs S => callN P is n g vs S
      | _ => .bad) := by
  refine ⟨fun pins s σ H Q I ⟨ρ, e, S, hR, hE, hp⟩ => ?_⟩
  simp only at hp
  split at hp
  · rename_i g hg
    obtain ⟨v, h1, h2⟩ := hE.get hg
    simp only [Rep] at h2
    obtain ⟨A, rfl, hA⟩ := h2
    obtain ⟨y, ps, F, hy⟩ := Fs g A hA
    obtain ⟨A', fd, hm, hf, hk, G, b1, b2, b3, b4⟩ := F.ex
    rw [hy] at hm; cases hm
    refine wpAny_Call_Name_kw (thn ((pe_var (pos := p) hN hv hdb hcd).run pins s σ H (fun v H1 => v = .ref A ∧ H1 = H) I ⟨_, h1, rfl, rfl⟩) fun u s1 ⟨v, H1, I1, r1, q1, q2⟩ => ?_)
    subst q1; subst q2
    cases r1
    exact PySem.W.callWith_K (h₀ := X.base) I.ok.mod.kin hk (thn (ha.run pos pins s1 σ _ (fun vs H1 => spF T P is n g vs H1 Q (WE W σ)) I1 ⟨ρ, e, S, hR, hE, hp.bind fun ds S1 ρ1 H1 vs hR1 hS1 hx hp1 => ⟨ρ1, S1, ds, hR1, hx, hp1⟩⟩)
      fun us s2 ⟨vs, H2, I2, r, q⟩ => ⟨I2.kIn, run_fnS (E := WE W) G hr (binds_all b1 b2 b3 b4) (passAt tk σ) I2 r q⟩) he hpl
  · exact False.elim hp
end

/-! ### raise -/
section
variable {X : Cx} {T : Tb} {W : WX} {pos p p2 : Pos} {x : Str}
/-- X() of an own error class without own __init__ -/
theorem pmk_own0 {C : Addr} {bmB : List Value} {B newId initId : String} (F : ExcBaseFacts B newId initId bmB) (q : PySem.W.excIn X.K C bmB newId = true) (gC : X.mg x = some (.ref C)) (kC : PySem.W.keepIn X.K (.ref C) = true) (r : Raises X (.ref C)) (hg : Gl X x)
    (hdb : (x == ("__debug__" : Str)) = false) : PMk X (.Call (.Name x p) [] [] pos) (fun _ H Q => Q (.ref C) none H) := by
  intro pins s σ H Q I h
  refine wpAny_Call_Name_kw (ld_glob I hg gC ?_ hdb)
  refine PySem.W.callWith_K0 I.kIn kC ?_
  obtain ⟨bm, N, nm, qn, bs, hdct, sn, sub, ab, col, dd, k0, k1, k2, k3, k5, mN, hC, hN, hni, Tt⟩ := exc_obj I.kIn q
  refine wpAny_call_exc_subT F Tt hC hN hni (fun h' e hm => ?_) (by show 0 ≤ sizeLine; exact Nat.zero_le _)
  exact mk_of I hm r h (I.hok.gone hm.new)
/-- an own error class over ValueError, without own __init__ -/
structure ExcOk (X : Cx) (T : Tb) (c : Nat) (x : Str) : Prop where
  mg : X.mg x = some (.ref (T.ca c))
  ex : PySem.W.excIn X.K (T.ca c) [.type "ValueError", .type "Exception", .type "BaseException", .type "object"] "ValueError.__new__" = true
  kp : PySem.W.keepIn X.K (.ref (T.ca c)) = true
  rs : Raises X (.ref (T.ca c))
theorem s_raise {c : Nat} (hc : X.calm = true) (tk : Takes X W) (F : ExcOk X T c x) (hg : Gl X x) (hdb : (x == ("__debug__" : Str)) = false) : PS X (.Raise (some (.Call (.Name x p) [] [] p2)) none pos) (SS T W fun e S => .err c e S) :=
  PSi (ps_raise hc tk (pmk_own0 PySem.F.excBase_ValueError F.ex F.mg F.kp F.rs hg hdb)) fun FF σ H ⟨ρ, e, S, hR, hE, hp⟩ => hp ρ H σ hR .refl hE
end
end Ev

set_option Elab.async false
set_option linter.all false
set_option maxRecDepth 100000
set_option maxHeartbeats 2000000
/-! Ev, part J: try with any number of clauses, each with or without a name. -/
namespace Ev
open PySem PySem.Spec PyProof.Rows L2

abbrev Cls := Value × Option Nat × (Addr → Value → Option Addr → TS)
/-- the ends of a suite, the name of whose clause goes -/
def gone (i : Nat) (F : Ends) : Ends := { nx := fun σ H => F.nx (σ.set i none) H, rt := F.rt, bk := fun σ H => F.bk (σ.set i none) H, ct := fun σ H => F.ct (σ.set i none) H }
def clsW (c : Cls) (F : Ends) (a : Addr) (cls : Value) (d : Option Addr) (σ : L2.St) (H : Hp) : Prop := match c.2.1 with
  | none => c.2.2 a cls d F σ H
  | some i => c.2.2 a cls d (gone i F) (σ.set i (some (.ref a))) H
def wAll (K : PySem.W.Frag) (Wout : WX) (F : Ends) : List Cls → WX
  | [] => Wout
  | c :: r => fun cls d σ H => ∃ b, PySem.W.exmOne K cls c.1 = some b ∧ (b = true → ∀ a, H a = none → clsW c F a cls d σ H) ∧ (b = false → wAll K Wout F r cls d σ H)
/-- how a clause's name stands -/
def NmOk (X : Cx) : Option Str → Option Nat → Prop
  | none, none => True
  | some n, some i => X.N.Nodup ∧ X.N[i]? = some n ∧ X.env.kindOf n = some .local
  | _, _ => False
inductive Hds (X : Cx) : List ExceptHandler → List Cls → Prop
  | nil : Hds X [] []
  | cons {x : Str} {c : Value} {m : Option Str} {i : Option Nat} {ts : Addr → Value → Option Addr → TS} {b0 : Stmt} {suite : List Stmt} {np pos' : Pos} {hds : List ExceptHandler} {l : List Cls} (hc : Names X x c) (hn : NmOk X m i)
      (hsu : ∀ (a : Addr) (oe : Obj) (cls : Value) (d : Option Addr) (pn : List (Addr × Obj)), Zc cls d oe → (∃ vs, oe.data = .fields vs) → PSs (X.suite a ((a, oe) :: pn)) (b0 :: suite) (ts a cls d)) (r : Hds X hds l) :
      Hds X (.ExceptHandler (some (.Name x np)) m (b0 :: suite) pos' :: hds) ((c, i, ts) :: l)

section
variable {X : Cx} {pins : List (Addr × Obj)} {σ0 : L2.St} {H0 : Hp} {F : Ends} {Wout : WX}
/-- what holds of an error that was caught and is held -/
structure Got (X : Cx) (pins : List (Addr × Obj)) (a : Addr) (B : Heap) (sI s : Shared) (σ : L2.St) (H : Hp) (cls : Value) (d : Option Addr) (h : Heap) : Prop where
  inv : Inv X pins σ H sI
  nb : ∀ b o, sI.heap.get? b = some o → b ∉ frs X.stack → B.get? b = some o
  up : sI.heap.UpToSlots h
  fly : HandSPX.FlyingZ B (X.env :: X.outer) a (Zc cls d) h
  na : H a = none
  os : s.os = sI.os
  ag : AllBare s.gens
theorem Got.here {a : Addr} {B : Heap} {sI s : Shared} {σ : L2.St} {H : Hp} {cls : Value} {d : Option Addr} {h : Heap} (g : Got X pins a B sI s σ H cls d h) : Inv X pins σ H { s with heap := h } :=
  g.inv.landed g.nb g.fly.1 g.up g.os g.ag
theorem Got.apart {a : Addr} {B : Heap} {sI s : Shared} {σ : L2.St} {H : Hp} {cls : Value} {d : Option Addr} {h : Heap} (hf : X.env.frame = some X.env.locals) (g : Got X pins a B sI s σ H cls d h) : a ≠ X.env.locals ∧ a ∉ X.fs := by
  obtain ⟨oe, vs, he, _, hd⟩ := g.fly.there
  have away : a ∉ frs (X.env :: X.outer) := fun hm => by
    obtain ⟨_, o', e', no⟩ := (g.fly.2.2.1).mem hm
    rw [he] at e'
    exact no vs (Option.some.inj e' ▸ hd)
  constructor
  · exact fun z => away (List.mem_filterMap.mpr ⟨X.env, List.mem_cons_self, by rw [hf, z]⟩)
  · intro hm
    obtain ⟨e, h1, h2⟩ := List.mem_filterMap.mp hm
    exact away (List.mem_filterMap.mpr ⟨e, List.mem_cons_of_mem _ h1, h2⟩)
theorem handle (hs : X.stack = X.env :: X.outer) (hf : X.env.frame = some X.env.locals) (tk : Takes X Wout) {a : Addr} {B : Heap} {sI s : Shared} {σ : L2.St} {H : Hp} {cls : Value} {d : Option Addr} {h3 : Heap} (g : Got X pins a B sI s σ H cls d h3) :
    ∀ {hds : List ExceptHandler} {l : List Cls}, Hds X hds l → wAll X.K Wout F l cls d σ H → wpAny (model X.prog X.w) X.A (handleBy (.ref a) X.env hds) (SP X pins F) X.xe { s with heap := h3 } := by
  have ok := g.inv.ok
  obtain ⟨nL, nF⟩ := g.apart hf
  obtain ⟨oe3, vs3, he3, hz3, hd3⟩ := g.fly.there
  have S3 := g.here.suite he3 hd3 g.na nL nF
  intro hds l hk
  induction hk with
  | nil =>
    intro w
    refine wpAny_handleBy_nil ?_
    obtain ⟨_, _, _, oe, vs, tb, _, _, he, _, hd, h1, _⟩ := id g.fly
    unfold PySem.passOn
    refine wpAny_bind (wpAny_field he hd h1 ?_)
    rw [if_neg (by simp)]
    have out : wpAny (model X.prog X.w) X.A (setFlight (.ref a) X.env.frame) (fun _ s4 => wpAny (model X.prog X.w) X.A (throw (.ref a) : Sem Flow) (SP X pins F) X.xe s4) X.xe { s with heap := h3 } := by
      rw [hf]
      exact HandSPX.setFlight_upZ g.fly fun h4 held up4 => wpAny_throw (tk _ _ ⟨a, B, sI, pins, σ, H, cls, d, rfl, g.inv, g.nb, g.up.trans up4, .inr (.inr (hs ▸ held)), g.na, g.os, g.ag, w⟩)
    first
      | exact wpAny_bind (wpAny_pure (wpAny_bind out))
      | exact wpAny_bind out
  | @cons x c m i ts b0 suite np pos' hds2 l2 hc hn hsu r ih =>
    intro w
    obtain ⟨b, hb, yes, no⟩ := w
    refine wpAny_handleBy_cons (codeAny_handlers_test ?_) (by intro q; cases q)
    have LT : PySem.W.Looks (model X.prog X.w) h3 (typeOf (.ref a)) cls := fun _ _ _ s k q => wpAny_typeOf_ref (k _ _ he3) (hz3.1.symm ▸ q)
    have LM := PySem.W.exm_one (M := model X.prog X.w) g.here.kIn LT hb
    have named : ∀ {Q E : Value → Shared → Prop}, Q c { s with heap := h3 } → wpAny (model X.prog X.w) (X.A.mark (some (.ref a))) (eval (.Name x np) X.env) Q E { s with heap := h3 } := fun {Q E} q => by
      rcases hc with ⟨h1, h2, h3 | ⟨h3, h4, h5⟩⟩
      · exact ld_glob S3 h1 h3 q h2
      · exact ld_blt S3 h1 h3 h4 q h5 h2
    refine named (LM.here ?_)
    cases b with
    | false => exact ih (no rfl)
    | true =>
      have y := yes rfl a g.na
      cases m with
      | none =>
        cases i with
        | some _ => exact False.elim hn
        | none =>
          refine codeAny_handlers_suite (HandSPX.lands_againZ g.fly fun h4 fl4 up4 => ?_)
          have g4 : Got X pins a B sI s σ H cls d h4 := ⟨g.inv, g.nb, g.up.trans up4, fl4, g.na, g.os, g.ag⟩
          obtain ⟨oe4, vs4, he4, hz4, hd4⟩ := fl4.there
          refine wpAny_mono ((hsu a oe4 cls d (X.pn ++ pins) hz4 ⟨_, hd4⟩).run [] _ _ H F (g4.here.suite he4 hd4 g.na nL nF) y) (fun f s6 hsp => ?_) (fun _ _ z => False.elim z)
          cases f <;> simp only [SP] at hsp ⊢
          · obtain ⟨_, _, I6, q⟩ := hsp; exact ⟨_, _, I6.unsuite ok, q⟩
          · obtain ⟨_, _, I6, q⟩ := hsp; exact ⟨_, _, I6.unsuite ok, q⟩
          · obtain ⟨_, _, I6, q⟩ := hsp; exact ⟨_, _, I6.unsuite ok, q⟩
          · obtain ⟨_, _, _, I6, rr, q⟩ := hsp; exact ⟨_, _, _, I6.unsuite ok, rr, q⟩
      | some n =>
        cases i with
        | none => exact False.elim hn
        | some i =>
          obtain ⟨hN, hi, hl⟩ := hn
          refine codeAny_handlers_suite_as (HandSPX.lands_againZ g.fly fun h4 fl4 up4 => ?_)
          have g4 : Got X pins a B sI s σ H cls d h4 := ⟨g.inv, g.nb, g.up.trans up4, fl4, g.na, g.os, g.ag⟩
          obtain ⟨oe4, vs4, he4, hz4, hd4⟩ := fl4.there
          refine store_ok (X := X.suite a ((a, oe4) :: (X.pn ++ pins))) (v := .ref a) (g4.here.suite he4 hd4 g.na nL nF) hN hi (.inl hl) rfl (fun s5 S5 => ?_) (.inr hl)
          refine wpAny_mono ((hsu a oe4 cls d (X.pn ++ pins) hz4 ⟨_, hd4⟩).run [] s5 _ H _ S5 y) (fun f s6 hsp => ?_) (fun _ _ z => False.elim z)
          have bye : ∀ {σ6 : L2.St} {H6 : Hp} {Q : Shared → Prop}, Inv (X.suite a ((a, oe4) :: (X.pn ++ pins))) [] σ6 H6 s6 → (∀ s7, Inv X pins (σ6.set i none) H6 s7 → Q s7) →
              wpAny (model X.prog X.w) X.A (do bindName X.env n .none; unbindBehindTheSuite X.env n pos') (fun _ s7 => Q s7) X.xe s6 := fun I6 q => gone_ok (I6.unsuite ok) hN hi hl q
          cases f <;> simp only [SP] at hsp
          · obtain ⟨_, _, I6, q⟩ := hsp; exact bye I6 fun s7 J => ⟨_, _, J, q⟩
          · obtain ⟨_, _, I6, q⟩ := hsp; exact bye I6 fun s7 J => ⟨_, _, J, q⟩
          · obtain ⟨_, _, I6, q⟩ := hsp; exact bye I6 fun s7 J => ⟨_, _, J, q⟩
          · obtain ⟨_, _, _, I6, rr, q⟩ := hsp; exact bye I6 fun s7 J => ⟨_, _, _, J, rr, q⟩
theorem ps_try_all {body : List Stmt} {h0 : ExceptHandler} {hds : List ExceptHandler} {l : List Cls} {pos : Pos} {tb : WX → TS} (hs : X.stack = X.env :: X.outer) (hf : X.env.frame = some X.env.locals) (tk : Takes X Wout)
    (hb : ∀ (W : WX) (pn : List (Addr × Obj)) (xe : Value → Shared → Prop), Takes (X.tr pn xe) W → PassesOwn (model X.prog X.w) X.A X.env xe → PSs (X.tr pn xe) body (tb W)) (hh : Hds X (h0 :: hds) l) :
    PS X (.Try body (h0 :: hds) [] [] pos) (fun F σ H => tb (wAll X.K Wout F l) F σ H) := by
  refine ⟨fun pins s σ H F I h => ?_⟩
  have ok := I.ok
  have fr : X.A.frames = some (X.env :: X.outer) := ok.frames.trans (by rw [hs])
  let xe : Value → Shared → Prop := fun e s1 => wpAny (model X.prog X.w) X.A (noteFrame e X.env) (fun _ s2 => wpAny (model X.prog X.w) X.A (setFlight e none) (fun _ s3 => wpAny (model X.prog X.w) X.A (handleBy e X.env (h0 :: hds)) (SP X pins F) X.xe s3) X.xe s2) X.xe s1
  have tk2 : Takes (X.tr (X.pn ++ pins) xe) (wAll X.K Wout F l) := fun u s' x => by
    obtain ⟨a, B, sI, pins', σ', H', cls, d, rfl, J', nb, up, sky, na, os, ag, w⟩ := x
    have sky' : Sky B (X.env :: X.outer) a (Zc cls d) X.env.locals s'.heap := by rw [← hs]; exact sky
    exact Sky.land Zc.steady fr hf sky' fun h3 fl3 up3 => handle hs hf tk ⟨J'.ofTry ok, nb, up.trans up3, fl3, na, os, ag⟩ hh w
  refine wpAny_Try_except (wpAny_mono ((hb _ _ xe tk2 PassesOwn.looking).run [] s σ H F (I.toTry _) h) (fun f s1 hsp => ?_) fun _ _ q => q)
  cases f <;> simp only [SP] at hsp
  · obtain ⟨_, _, J, q⟩ := hsp; exact wpAny_execs_nil ⟨_, _, J.ofTry ok, q⟩
  · obtain ⟨_, _, J, q⟩ := hsp; exact ⟨_, _, J.ofTry ok, q⟩
  · obtain ⟨_, _, J, q⟩ := hsp; exact ⟨_, _, J.ofTry ok, q⟩
  · obtain ⟨_, _, _, J, rr, q⟩ := hsp; exact ⟨_, _, _, J.ofTry ok, rr, q⟩
end
end Ev

set_option Elab.async false
set_option linter.all false
set_option maxRecDepth 100000
set_option maxHeartbeats 4000000
/-! Ev, part K: the checker of expressions, and that it is right. -/
namespace Ev
open PySem PySem.Spec PyProof.Rows L2

/-- a block: its names with their slots, its scope -/
structure Bk where
  N : List Str
  sc : Scope
  fnb : Str → Bool
  calm : Bool
structure FnD where
  name : Str
  ps : List Str
/-- what stands at the top: defs, error classes, built-ins that no name hides -/
structure Pg where
  fns : List FnD
  exc : List Str
  bas : List String
  free : List Str
  gcd : Bool

def visB (sc : Scope) (x : Str) : Bool := match sc.names.lookup x with | some .local => true | some .cell => true | some .free => true | _ => false
def locB (sc : Scope) (x : Str) : Bool := match sc.names.lookup x with | some .local => true | some .cell => true | _ => false
def isL (sc : Scope) (x : Str) : Bool := match sc.names.lookup x with | some .local => true | _ => false
def glB (sc : Scope) (x : Str) : Bool := match sc.names.lookup x with | some .globalImplicit => true | _ => false
def okNm (x : Str) : Bool := !(x == ("__debug__" : Str)) && !(x == ("__classdict__" : Str))
def varB (B : Bk) (i : Nat) (x : Str) : Bool := decide (B.N[i]? = some x) && visB B.sc x && okNm x
def stB (B : Bk) (i : Nat) (x : Str) : Bool := decide (B.N[i]? = some x) && locB B.sc x && (B.fnb x || isL B.sc x)
def fnB (G : Pg) (B : Bk) (f : Nat) (x : Str) : Bool := glB B.sc x && okNm x && (match G.fns[f]? with | some d => decide (d.name = x) | none => false)
def freeB (G : Pg) (B : Bk) (x : Str) : Bool := glB B.sc x && G.free.contains x
def noStar : Expr → Bool
  | .Starred .. => false
  | _ => true
def noSet : Expr → Bool
  | .Set .. => false
  | _ => true
def plainT : Expr → Bool
  | .UnaryOp .Not _ _ => false
  | .BoolOp .. => false
  | .IfExp .. => false
  | .Compare .. => false
  | _ => true
def plainIx : Expr → Bool
  | .Slice .. => false
  | _ => true
def cstB : D → Expr → Bool
  | .non, .Constant .none _ _ => true
  | .bl b, .Constant (.bool c) _ _ => b == c
  | .int i, .Constant (.int j) _ _ => decide (i = j)
  | .str x, .Constant (.str y) _ _ => decide (x = y)
  | _, _ => false
def isTrueC : E → Bool
  | .cst (.bl true) => true
  | _ => false
def tysB (G : Pg) (B : Bk) : List Ty → List Expr → Bool
  | [], [] => true
  | t :: ts, .Name x _ :: es => decide (x = Str.ofString (nmT t)) && freeB G B x && tysB G B ts es
  | _, _ => false
def ownOf (B : Bk) (own : List Nat) : List (Str × Nat) := own.map fun i => (B.N.getD i "", i)
def Bk.blk (B : Bk) (scope : Scope) : Bk := ⟨B.N, relS scope B.sc, fun x => scope.names.lookup x == some .cell, B.calm⟩
def nmsB (B : Bk) : List Nat → List Expr → Bool
  | [], [] => true
  | i :: is, .Name x _ :: es => stB B i x && nmsB B is es
  | _, _ => false
def tgB (B : Bk) : Tg → Expr → Bool
  | .n i, .Name x _ => stB B i x
  | .t is, .Tuple es _ _ => B.calm && nmsB B is es
  | _, _ => false

mutual
/-- t: asked for its truth alone -/
def chkE (G : Pg) : E → Bool → Bk → Expr → Bool
  | .cst d, t, B, c => (!t || plainT c) && cstB d c
  | .var i, t, B, c => match c with
    | .Name x _ => varB B i x
    | _ => false
  | .gfn f, t, B, c => match c with
    | .Name x _ => !t && fnB G B f x
    | _ => false
  | .op o a b, t, B, c => match c with
    | .BinOp l p r _ => decide (p = opOf o) && chkE G a false B l && chkE G b false B r
    | _ => false
  | .neg a, t, B, c => match c with
    | .UnaryOp .USub l _ => chkE G a false B l
    | _ => false
  | .not a, t, B, c => match c with
    | .UnaryOp .Not l _ => chkE G a t B l
    | _ => false
  | .cmp o a b, t, B, c => match c with
    | .Compare l [p] [r] _ => decide (p = cpOf o) && chkE G a false B l && chkE G b false B r
    | _ => false
  | .isn a no, t, B, c => match c with
    | .Compare l [p] [.Constant .none _ _] _ => decide (p = if no then .IsNot else .Is) && chkE G a false B l
    | _ => false
  | .and a b, t, B, c => match c with
    | .BoolOp .And (x :: y :: r) _ => chkE G a t B x && chkV G b true t B (y :: r)
    | _ => false
  | .or a b, t, B, c => match c with
    | .BoolOp .Or (x :: y :: r) _ => chkE G a t B x && chkV G b false t B (y :: r)
    | _ => false
  | .ite a x y, t, B, c => match c with
    | .IfExp a' x' y' _ => !t && chkE G a true B a' && chkE G x false B x' && chkE G y false B y'
    | _ => false
  | .call f as, t, B, c => match c with
    | .Call (.Name x _) es [] _ => B.calm && fnB G B f x && chkA G as B es
    | _ => false
  | .callk f as ix ks, t, B, c => match c with
    | .Call (.Name x _) es kws _ => B.calm && fnB G B f x && chkA G as B es && chkK G ks B kws && (match G.fns[f]? with | some d => ixOk d.ps es.length (kwN kws) ix | none => false)
    | _ => false
  | .callv i as, t, B, c => match c with
    | .Call (.Name x _) (e :: es) [] _ => B.calm && varB B i x && chkA G as B (e :: es)
    | _ => false
  | .blt b as, t, B, c => match c with
    | .Call (.Name x _) (e :: es) [] _ => B.calm && decide (x = nmB b) && glB B.sc x && (match b with | .gcd => G.gcd | _ => G.free.contains x) && chkA G as B (e :: es)
    | _ => false
  | .isi a ts, t, B, c => match c with
    | .Call (.Name x _) [e, u] [] _ => decide (x = "isinstance") && freeB G B x && noStar e && chkE G a false B e && (match u with
      | .Tuple us _ _ => decide (ts.length ≤ big) && tysB G B ts us
      | u => tysB G B ts [u])
    | _ => false
  | .idx a b, t, B, c => match c with
    | .Subscript l r _ => chkE G a false B l && chkE G b false B r && plainIx r
    | _ => false
  | .sl a lo hi, t, B, c => match c with
    | .Subscript l (.Slice x y none _) _ => chkE G a false B l && (match x with | none => lo.isNon | some x => !lo.isNon && chkE G lo false B x) && (match y with | none => hi.isNon | some y => !hi.isNon && chkE G hi false B y)
    | _ => false
  | .tup as, t, B, c => match c with
    | .Tuple es _ _ => chkA G as B es
    | _ => false
  | .lst as, t, B, c => match c with
    | .List es _ => chkA G as B es
    | _ => false
  | .loc as, t, B, c => match c with
    | .List es _ => chkA G as B es
    | _ => false
  | .locL a, t, B, c => match c with
    | .Call (.Name x _) [e] [] _ => decide (x = "list") && freeB G B x && noStar e && chkE G a false B e
    | _ => false
  | .frz a, t, B, c => !t && chkE G a false B c
  | .locC a b, t, B, c => match c with
    | .BinOp l .Add r _ => chkE G a false B l && chkE G b false B r
    | _ => false
  | .isx i k, t, B, c => match c with
    | .Call (.Name x _) [.Name y _, .Name z _] [] _ => decide (x = "isinstance") && freeB G B x && varB B i y && glB B.sc z && decide (1000 ≤ k) && (match G.bas[k - 1000]? with | some s => decide (z = Str.ofString s) | none => false)
    | _ => false
  | .app i a, t, B, c => match c with
    | .Call (.Attribute (.Name x _) m p4) [e] [] pos => decide (m = "append") && (p4.endLine == pos.line) && varB B i x && noStar e && chkE G a false B e
    | _ => false
  | .pop i a, t, B, c => match c with
    | .Call (.Attribute (.Name x _) m p4) [e] [] pos => decide (m = "pop") && (p4.endLine == pos.line) && varB B i x && noStar e && chkE G a false B e
    | _ => false
  | .comp el own tg it cd, t, B, c => match c with
    | .ListComp e [⟨g, iter, ifs, 0⟩] scope _ => B.calm && chkI G it B g iter && noSet iter && blkC B.N B.sc scope (ownOf B own) && tg.ix.all (fun i => decide (i ∈ own)) && tgB (B.blk scope) tg g && chkE G el false (B.blk scope) e &&
        (match ifs with | [] => isTrueC cd | [x] => chkE G cd true (B.blk scope) x | _ => false)
    | _ => false
  | _, _, _, _ => false
def chkA (G : Pg) : E → Bk → List Expr → Bool
  | .nil, _, c => match c with
    | [] => true
    | _ => false
  | .cons a r, B, c => match c with
    | x :: xs => noStar x && chkE G a false B x && chkA G r B xs
    | _ => false
  | _, _, _ => false
/-- the rest of an and (isAnd), of an or -/
def chkV (G : Pg) : E → Bool → Bool → Bk → List Expr → Bool
  | .one a, _, t, B, c => match c with
    | [x] => chkE G a t B x
    | _ => false
  | .and a b, isAnd, t, B, c => match c with
    | x :: y :: r => isAnd && chkE G a t B x && chkV G b true t B (y :: r)
    | _ => false
  | .or a b, isAnd, t, B, c => match c with
    | x :: y :: r => !isAnd && chkE G a t B x && chkV G b false t B (y :: r)
    | _ => false
  | _, _, _, _, _ => false
def chkI (G : Pg) : E → Bk → Expr → Expr → Bool
  | .rng a, B, g, c => match c with
    | .Call (.Name x _) [e] [] _ => decide (x = "range") && freeB G B x && noStar e && chkE G a false B e
    | _ => false
  | .rng2 a b, B, g, c => match c with
    | .Call (.Name x _) [e, f] [] _ => decide (x = "range") && freeB G B x && noStar e && noStar f && chkE G a false B e && chkE G b false B f
    | _ => false
  | .enum a, B, g, c => match g, c with
    | .Tuple .., .Call (.Name x _) [e] [] _ => decide (x = "enumerate") && freeB G B x && noStar e && chkE G a false B e
    | _, _ => false
  | .zip a b, B, g, c => match g, c with
    | .Tuple .., .Call (.Name x _) [e, f] [] _ => decide (x = "zip") && freeB G B x && noStar e && noStar f && chkE G a false B e && chkE G b false B f
    | _, _ => false
  | .one a, B, g, c => chkE G a false B c
  | _, _, _, _ => false
def chkK (G : Pg) : E → Bk → List Keyword → Bool
  | .nil, _, c => match c with
    | [] => true
    | _ => false
  | .cons a r, B, c => match c with
    | ⟨some _, x, _⟩ :: xs => chkE G a false B x && chkK G r B xs
    | _ => false
  | _, _, _ => false
end
end Ev

set_option Elab.async false
set_option linter.all false
set_option maxRecDepth 100000
set_option maxHeartbeats 4000000
/-! Ev, part L: the checker of expressions is right. -/
namespace Ev
open PySem PySem.Spec PyProof.Rows L2

theorem star_one {a : Expr} {env : Env} (h : noStar a = true) (r : List Expr) : starEach (a :: r) env = (false, eval a env) :: starEach r env := by
  cases a <;> first | rfl | cases h
theorem stars_any {env : Env} {pos : Pos} : ∀ {es : List Expr}, (∀ c ∈ es, noStar c = true) → (backTo pos (starEach es env)).any (·.1) = false
  | [], _ => rfl
  | e :: es, h => by
    have e0 : backTo pos (starEach (e :: es) env) = (false, eval e env) :: backTo pos (starEach es env) := by rw [star_one (h e List.mem_cons_self)]; rfl
    rw [e0, List.any_cons, stars_any fun c m => h c (List.mem_cons_of_mem _ m)]; rfl
theorem set_no {c : Expr} (h : noSet c = true) (env : Env) : ∀ x, foldedSetIterable c env x = pure x := by
  cases c <;> first | (intro x; rfl) | cases h
theorem ix_plain {c : Expr} (h : plainIx c = true) : PlainIx c := by
  cases c <;> first | (intro o i; rfl) | cases h
theorem plain_true {c : Expr} {env : Env} (h : plainT c = true) : ∀ whole, isTrue c env whole = (do let v ← whole; standAt c.pos; holding [v] (truthy v)) := by
  cases c <;> first | (intro o; rfl) | cases h | skip
  rename_i op a p
  cases op <;> first | (intro o; rfl) | cases h

/-- a block as the checker knows it -/
structure CxOk (G : Pg) (T : Tb) (P : List Fn) (is : Nat → Nat → Bool) (n : Nat) (B : Bk) (X : Cx) (W : WX) : Prop where
  N : X.N = B.N
  nd : X.N.Nodup
  sc : X.env.scope = B.sc
  fn : ∀ x, B.fnb x = true → X.fn x = true
  K : X.K = T.K
  calm : B.calm = true → X.calm = true ∧ Room n X.A
  un : X.A.units + 64 < cLine
  tk : Takes X W
  free : ∀ x ∈ G.free, X.mg x = none
  gcd : G.gcd = true → X.mg "gcd" = some (.builtin "math.gcd")
  df : B.calm = true → ∀ f d, G.fns[f]? = some d → DefOk X T P is n f d.name d.ps
  fm : ∀ f d, G.fns[f]? = some d → ∃ A, X.mg d.name = some (.ref A) ∧ T.fa f = some A
  xn : B.calm = true → ∀ c a, ¬ T.xa c a
  xx : ∀ c a, T.xa c a → CallR X (.builtin "isinstance") (rIsE X.K (T.ca c) a)
  bs : ∀ k s, G.bas[k]? = some s → X.mg (Str.ofString s) = none ∧ bootBuiltins (Str.ofString s) = some (.type s) ∧ Str.ofString s ≠ "__name__" ∧ (Str.ofString s == ("__debug__" : Str)) = false ∧
    ∀ c, (∃ a, T.xa c a) → PySem.W.kitOne X.K (.ref (T.ca c)) (.type s) = some (is c (1000 + k))
  fs : ∀ g A, T.fa g = some A → ∃ d, G.fns[g]? = some d ∧ X.mg d.name = some (.ref A)

section
variable {G : Pg} {T : Tb} {P : List Fn} {is : Nat → Nat → Bool} {n : Nat} {B : Bk} {X : Cx} {W : WX} {x : Str} {i f : Nat}
theorem CxOk.vis (c : CxOk G T P is n B X W) (h : visB B.sc x = true) : Vis X.env.scope x := by
  unfold visB at h
  unfold Vis
  rw [c.sc]
  split at h <;> first | exact .inl ‹_› | exact .inr (.inl ‹_›) | exact .inr (.inr ‹_›) | cases h
theorem CxOk.loc (c : CxOk G T P is n B X W) (h : locB B.sc x = true) : L2.Loc X.env.scope x := by
  unfold locB at h
  unfold L2.Loc
  rw [c.sc]
  split at h <;> first | exact .inl ‹_› | exact .inr ‹_› | cases h
theorem CxOk.isl (c : CxOk G T P is n B X W) (h : isL B.sc x = true) : X.env.scope.names.lookup x = some .local := by
  unfold isL at h
  rw [c.sc]
  split at h <;> first | assumption | cases h
theorem CxOk.gl (c : CxOk G T P is n B X W) (h : glB B.sc x = true) : Gl X x := by
  unfold glB at h
  show X.env.scope.names.lookup x = _
  rw [c.sc]
  split at h <;> first | assumption | cases h
theorem okNm_ok (h : okNm x = true) : (x == ("__debug__" : Str)) = false ∧ (x == ("__classdict__" : Str)) = false := by
  unfold okNm at h
  simpa only [Bool.and_eq_true, Bool.not_eq_true'] using h
theorem CxOk.var (c : CxOk G T P is n B X W) (h : varB B i x = true) : X.N[i]? = some x ∧ Vis X.env.scope x ∧ (x == ("__debug__" : Str)) = false ∧ (x == ("__classdict__" : Str)) = false := by
  unfold varB at h
  simp only [Bool.and_eq_true, decide_eq_true_eq] at h
  exact ⟨c.N ▸ h.1.1, c.vis h.1.2, okNm_ok h.2⟩
theorem CxOk.st (c : CxOk G T P is n B X W) (h : stB B i x = true) : X.N[i]? = some x ∧ L2.Loc X.env.scope x ∧ (X.fn x = true ∨ X.env.scope.names.lookup x = some .local) := by
  unfold stB at h
  simp only [Bool.and_eq_true, decide_eq_true_eq, Bool.or_eq_true] at h
  exact ⟨c.N ▸ h.1.1, c.loc h.1.2, h.2.imp (c.fn x) c.isl⟩
theorem CxOk.fnd (c : CxOk G T P is n B X W) (h : fnB G B f x = true) : Gl X x ∧ (x == ("__debug__" : Str)) = false ∧ ∃ ps, G.fns[f]? = some ⟨x, ps⟩ ∧ (B.calm = true → DefOk X T P is n f x ps) ∧ ∃ A, X.mg x = some (.ref A) ∧ T.fa f = some A := by
  unfold fnB at h
  simp only [Bool.and_eq_true] at h
  obtain ⟨⟨h1, h2⟩, h3⟩ := h
  split at h3
  · rename_i d hd
    have e := of_decide_eq_true h3
    obtain ⟨nm, ps⟩ := d
    simp only at e
    subst e
    exact ⟨c.gl h1, (okNm_ok h2).1, ps, hd, fun hc => c.df hc _ _ hd, c.fm _ _ hd⟩
  · cases h3
theorem CxOk.fr (c : CxOk G T P is n B X W) (h : freeB G B x = true) : Gl X x ∧ X.mg x = none := by
  unfold freeB at h
  simp only [Bool.and_eq_true, List.contains_iff_mem] at h
  exact ⟨c.gl h.1, c.free x h.2⟩
end

def opV (k : Bool) : BoolOp := if k then .And else .Or
/-- what the checker's yes means, for e -/
structure Snd (G : Pg) (T : Tb) (P : List Fn) (is : Nat → Nat → Bool) (n : Nat) (e : E) : Prop where
  vE : ∀ {B : Bk} {X : Cx} {W : WX} {c : Expr}, CxOk G T P is n B X W → chkE G e false B c = true → PE X c (SE T W (evE ⟨callN P is n, is⟩ e))
  vT : ∀ {B : Bk} {X : Cx} {W : WX} {c : Expr}, CxOk G T P is n B X W → chkE G e true B c = true → PT X c (ST T W (tst (evE ⟨callN P is n, is⟩ e)))
  vA : ∀ {B : Bk} {X : Cx} {W : WX} {cs : List Expr}, CxOk G T P is n B X W → chkA G e B cs = true →
    PA X cs (SA T W (evA ⟨callN P is n, is⟩ e)) ∧ (∀ c ∈ cs, noStar c = true) ∧ ∀ r S ds S', evA ⟨callN P is n, is⟩ e r S = .ok ds S' → ds.length = cs.length
  vV : ∀ {B : Bk} {X : Cx} {W : WX} {cs : List Expr} (k : Bool) (pos : Pos), CxOk G T P is n B X W → chkV G e k false B cs = true → PE X (.BoolOp (opV k) cs pos) (SE T W (evE ⟨callN P is n, is⟩ e))
  vU : ∀ {B : Bk} {X : Cx} {W : WX} {cs : List Expr} (k : Bool) (pos : Pos), CxOk G T P is n B X W → chkV G e k true B cs = true → PW X (.BoolOp (opV k) cs pos) (ST T W (tst (evE ⟨callN P is n, is⟩ e)))
  vI : ∀ {B : Bk} {X : Cx} {W : WX} {g c : Expr}, CxOk G T P is n B X W → chkI G e B g c = true → PI X g c (SI T W (evI ⟨callN P is n, is⟩ e))
  vK : ∀ {B : Bk} {X : Cx} {W : WX} {ks : List Keyword}, CxOk G T P is n B X W → chkK G e B ks = true →
    KwOk X ks (SA T W (evA ⟨callN P is n, is⟩ e)) ∧ ∀ r S ds S', evA ⟨callN P is n, is⟩ e r S = .ok ds S' → ds.length = (kwN ks).length

section
variable {G : Pg} {T : Tb} {P : List Fn} {is : Nat → Nat → Bool} {n : Nat} {e a b : E}
theorem Snd.of (hE : ∀ {B : Bk} {X : Cx} {W : WX} {c : Expr}, CxOk G T P is n B X W → chkE G e false B c = true → PE X c (SE T W (evE ⟨callN P is n, is⟩ e)))
    (hT : ∀ {B : Bk} {X : Cx} {W : WX} {c : Expr}, CxOk G T P is n B X W → chkE G e true B c = true → PT X c (ST T W (tst (evE ⟨callN P is n, is⟩ e))))
    (hA : ∀ B cs, chkA G e B cs = false := by intros; rfl) (hV : ∀ k t B cs, chkV G e k t B cs = false := by intros; rfl) (hI : ∀ B g c, chkI G e B g c = false := by intros; rfl) (hK : ∀ B c, chkK G e B c = false := by intros; rfl) : Snd G T P is n e :=
  ⟨hE, hT, fun _ h => by (rw [hA] at h; cases h), fun _ _ _ h => by (rw [hV] at h; cases h), fun _ _ _ h => by (rw [hV] at h; cases h), fun _ h => by (rw [hI] at h; cases h), fun _ h => by (rw [hK] at h; cases h)⟩
/-- where the truth is asked of the value -/
theorem Snd.ofE (hE : ∀ {B : Bk} {X : Cx} {W : WX} {c : Expr}, CxOk G T P is n B X W → chkE G e false B c = true → PE X c (SE T W (evE ⟨callN P is n, is⟩ e)))
    (hP : ∀ B c, chkE G e true B c = true → chkE G e false B c = true ∧ plainT c = true)
    (hA : ∀ B cs, chkA G e B cs = false := by intros; rfl) (hV : ∀ k t B cs, chkV G e k t B cs = false := by intros; rfl) (hI : ∀ B g c, chkI G e B g c = false := by intros; rfl) (hK : ∀ B c, chkK G e B c = false := by intros; rfl) : Snd G T P is n e :=
  .of hE (fun cx h => by
    obtain ⟨h1, h2⟩ := hP _ _ h
    exact t_truth cx.K (hE cx h1) (plain_true h2)) hA hV hI hK

theorem snd_cst {d : D} : Snd G T P is n (.cst d) := .ofE (fun {B X W c} cx h => by
    simp only [chkE, Bool.not_false, Bool.true_or, Bool.true_and] at h
    cases d <;> cases c <;> simp only [cstB] at h <;> (try cases h)
    all_goals rename_i k j p
    all_goals cases k <;> simp only [cstB] at h <;> (try cases h)
    · exact e_cst pe_non fun ρ H => by simp only [Rep]
    · have h := eq_of_beq h
      subst h
      exact e_cst pe_bl fun ρ H => by simp only [Rep]
    · have h := of_decide_eq_true h
      subst h
      exact e_cst pe_int fun ρ H => by simp only [Rep]
    · have h := of_decide_eq_true h
      subst h
      exact e_cst pe_str fun ρ H => by simp only [Rep])
  fun B c h => by
    simp only [chkE, Bool.not_true, Bool.false_or, Bool.not_false, Bool.true_or, Bool.true_and, Bool.and_eq_true] at h ⊢
    exact ⟨h.2, h.1⟩
theorem snd_var {i : Nat} : Snd G T P is n (.var i) := .ofE (fun {B X W c} cx h => by
    simp only [chkE] at h
    split at h
    · obtain ⟨h1, h2, h3, h4⟩ := cx.var h
      exact e_var h1 h2 h3 h4
    · cases h)
  fun B c h => by
    simp only [chkE] at h ⊢
    split at h
    · exact ⟨h, rfl⟩
    · cases h
theorem snd_gfn {i : Nat} : Snd G T P is n (.gfn i) := .ofE (fun {B X W c} cx h => by
    simp only [chkE] at h
    split at h
    · simp only [Bool.not_false, Bool.true_and] at h
      obtain ⟨h1, h2, ps, h3, F, A, m1, m2⟩ := cx.fnd h
      exact e_gfn h1 m1 m2 h2
    · cases h)
  fun B c h => by
    simp only [chkE] at h ⊢
    split at h <;> simp at h
theorem snd_op {o : Op} (ha : Snd G T P is n a) (hb : Snd G T P is n b) : Snd G T P is n (.op o a b) := .ofE (fun {B X W c} cx h => by
    simp only [chkE] at h
    split at h
    · simp only [Bool.and_eq_true, decide_eq_true_eq] at h
      obtain ⟨⟨rfl, h1⟩, h2⟩ := h
      exact e_op o (ha.vE cx h1) (hb.vE cx h2)
    · cases h)
  fun B c h => by
    simp only [chkE] at h ⊢
    split at h
    · exact ⟨h, rfl⟩
    · cases h
theorem snd_neg (ha : Snd G T P is n a) : Snd G T P is n (.neg a) := .ofE (fun {B X W c} cx h => by
    simp only [chkE] at h
    split at h
    · exact e_neg (ha.vE cx h)
    · cases h)
  fun B c h => by
    simp only [chkE] at h ⊢
    split at h
    · exact ⟨h, rfl⟩
    · cases h
theorem snd_not (ha : Snd G T P is n a) : Snd G T P is n (.not a) := .of (fun {B X W c} cx h => by
    simp only [chkE] at h
    split at h
    · exact e_not cx.K (ha.vE cx h)
    · cases h)
  fun {B X W c} cx h => by
    simp only [chkE] at h
    split at h
    · exact t_not (ha.vT cx h)
    · cases h
theorem snd_cmp {o : Cp} (ha : Snd G T P is n a) (hb : Snd G T P is n b) : Snd G T P is n (.cmp o a b) := .of (fun {B X W c} cx h => by
    simp only [chkE] at h
    split at h
    · simp only [Bool.and_eq_true, decide_eq_true_eq] at h
      obtain ⟨⟨rfl, h1⟩, h2⟩ := h
      exact e_cmp o cx.K cx.un (ha.vE cx h1) (hb.vE cx h2)
    · cases h)
  fun {B X W c} cx h => by
    simp only [chkE] at h
    split at h
    · simp only [Bool.and_eq_true, decide_eq_true_eq] at h
      obtain ⟨⟨rfl, h1⟩, h2⟩ := h
      exact t_cmp o cx.K cx.un (ha.vE cx h1) (hb.vE cx h2)
    · cases h
theorem t_isN {X : Cx} {W : WX} {a : Expr} {ra : Lenv → Sto → Out D} {pos : Pos} {no : Bool} {j : Nat} {p : Pos} (ha : PE X a (SE T W ra)) : PT X (.Compare a [if no then .IsNot else .Is] [.Constant .none j p] pos) (ST T W (tst fun e S => (ra e S).bind fun x S => match x with | .non => .ok (.bl (!no)) S | .loc _ => .bad | _ => .ok (.bl no) S)) := by
  have key : ∀ (x : D) (ρ S H We) (v : V) (Q : Bool → Hp → Prop), Rl T ρ S H → Rep T ρ (vis ρ S H) x v → Po T RB ρ S H We Q ((match x with | .non => Out.ok (D.bl (!no)) S | .loc _ => .bad | _ => .ok (.bl no) S).bind fun x S => lift (truD S x) S) → Q (if no then !decide (v = .non) else decide (v = .non)) H := by
    intro x ρ S H We v Q hR hx hp
    cases x <;> simp only at hp <;> first
      | exact False.elim hp
      | (simp only [Rep] at hx
         first
          | (subst hx; have z := hp ρ H _ hR .refl rfl; cases no <;> simpa using z)
          | (obtain ⟨_, hx⟩ := hx
             first
              | (obtain ⟨rfl, _⟩ := hx; have z := hp ρ H _ hR .refl rfl; cases no <;> simpa using z)
              | (obtain ⟨_, rfl, _⟩ := hx; have z := hp ρ H _ hR .refl rfl; cases no <;> simpa using z)))
  cases no with
  | false =>
    refine PTi (pt_cmp (pc_isN ha) rfl) fun σ H Q ⟨ρ, e, S, hR, hE, hp⟩ => ⟨ρ, e, S, hR, hE, ?_⟩
    simp only [tst, Out.bind_assoc] at hp
    exact hp.bind fun x S1 ρ1 H1 v hR1 hS1 hx hp1 => ⟨_, rfl, key x ρ1 S1 H1 _ v Q hR1 hx hp1⟩
  | true =>
    refine PTi (pt_cmp (pc_notN ha) rfl) fun σ H Q ⟨ρ, e, S, hR, hE, hp⟩ => ⟨ρ, e, S, hR, hE, ?_⟩
    simp only [tst, Out.bind_assoc] at hp
    exact hp.bind fun x S1 ρ1 H1 v hR1 hS1 hx hp1 => ⟨_, rfl, key x ρ1 S1 H1 _ v Q hR1 hx hp1⟩
theorem snd_isn {no : Bool} (ha : Snd G T P is n a) : Snd G T P is n (.isn a no) := .of (fun {B X W c} cx h => by
    simp only [chkE] at h
    split at h
    · simp only [Bool.and_eq_true, decide_eq_true_eq] at h
      obtain ⟨rfl, h1⟩ := h
      exact e_isN (ha.vE cx h1)
    · cases h)
  fun {B X W c} cx h => by
    simp only [chkE] at h
    split at h
    · simp only [Bool.and_eq_true, decide_eq_true_eq] at h
      obtain ⟨rfl, h1⟩ := h
      exact t_isN (ha.vE cx h1)
    · cases h
theorem snd_one (ha : Snd G T P is n a) : Snd G T P is n (.one a) :=
  ⟨fun _ h => by simp only [chkE] at h; exact Bool.noConfusion h, fun _ h => by simp only [chkE] at h; exact Bool.noConfusion h, fun _ h => by simp only [chkA] at h; exact Bool.noConfusion h,
    fun k pos cx h => by
      simp only [chkV] at h
      split at h
      · exact pe_one (ha.vE cx h)
      · exact Bool.noConfusion h,
    fun k pos cx h => by
      simp only [chkV] at h
      split at h
      · cases k
        · exact pw_or1 (ha.vT cx h)
        · exact pw_and1 (ha.vT cx h)
      · exact Bool.noConfusion h,
    fun cx h => by
      simp only [chkI] at h
      exact i_seq cx.K (ha.vE cx h),
    fun _ h => by simp only [chkK] at h; exact Bool.noConfusion h⟩
theorem snd_and (ha : Snd G T P is n a) (hb : Snd G T P is n b) : Snd G T P is n (.and a b) :=
  ⟨fun cx h => by
      simp only [chkE] at h
      split at h
      · simp only [Bool.and_eq_true] at h
        exact e_and cx.K (ha.vE cx h.1) (hb.vV true _ cx h.2)
      · exact Bool.noConfusion h,
    fun cx h => by
      simp only [chkE] at h
      split at h
      · simp only [Bool.and_eq_true] at h
        exact (w_and (ha.vT cx h.1) (hb.vU true _ cx h.2)).pt
      · exact Bool.noConfusion h,
    fun _ h => by simp only [chkA] at h; exact Bool.noConfusion h,
    fun k pos cx h => by
      simp only [chkV] at h
      split at h
      · simp only [Bool.and_eq_true] at h
        obtain ⟨⟨rfl, h1⟩, h2⟩ := h
        exact e_and cx.K (ha.vE cx h1) (hb.vV true _ cx h2)
      · exact Bool.noConfusion h,
    fun k pos cx h => by
      simp only [chkV] at h
      split at h
      · simp only [Bool.and_eq_true] at h
        obtain ⟨⟨rfl, h1⟩, h2⟩ := h
        exact w_and (ha.vT cx h1) (hb.vU true _ cx h2)
      · exact Bool.noConfusion h,
    fun _ h => by simp only [chkI] at h; exact Bool.noConfusion h,
    fun _ h => by simp only [chkK] at h; exact Bool.noConfusion h⟩
theorem snd_or (ha : Snd G T P is n a) (hb : Snd G T P is n b) : Snd G T P is n (.or a b) :=
  ⟨fun cx h => by
      simp only [chkE] at h
      split at h
      · simp only [Bool.and_eq_true] at h
        exact e_or cx.K (ha.vE cx h.1) (hb.vV false _ cx h.2)
      · exact Bool.noConfusion h,
    fun cx h => by
      simp only [chkE] at h
      split at h
      · simp only [Bool.and_eq_true] at h
        exact (w_or (ha.vT cx h.1) (hb.vU false _ cx h.2)).pt
      · exact Bool.noConfusion h,
    fun _ h => by simp only [chkA] at h; exact Bool.noConfusion h,
    fun k pos cx h => by
      simp only [chkV] at h
      split at h
      · simp only [Bool.and_eq_true, Bool.not_eq_true'] at h
        obtain ⟨⟨rfl, h1⟩, h2⟩ := h
        exact e_or cx.K (ha.vE cx h1) (hb.vV false _ cx h2)
      · exact Bool.noConfusion h,
    fun k pos cx h => by
      simp only [chkV] at h
      split at h
      · simp only [Bool.and_eq_true, Bool.not_eq_true'] at h
        obtain ⟨⟨rfl, h1⟩, h2⟩ := h
        exact w_or (ha.vT cx h1) (hb.vU false _ cx h2)
      · exact Bool.noConfusion h,
    fun _ h => by simp only [chkI] at h; exact Bool.noConfusion h,
    fun _ h => by simp only [chkK] at h; exact Bool.noConfusion h⟩
theorem snd_ite {c : E} (hc : Snd G T P is n c) (ha : Snd G T P is n a) (hb : Snd G T P is n b) : Snd G T P is n (.ite c a b) := .of (fun {B X W c} cx h => by
    simp only [chkE] at h
    split at h
    · simp only [Bool.and_eq_true, Bool.not_false, true_and] at h
      exact e_ite (hc.vT cx h.1.1) (ha.vE cx h.1.2) (hb.vE cx h.2)
    · cases h)
  fun {B X W c} cx h => by
    simp only [chkE] at h
    split at h <;> simp at h
end
end Ev

set_option Elab.async false
set_option linter.all false
set_option maxRecDepth 100000
set_option maxHeartbeats 4000000
/-! Ev, part M: the checker of expressions is right: calls, sequences, comprehensions. -/
namespace Ev
open PySem PySem.Spec PyProof.Rows L2
section
variable {G : Pg} {T : Tb} {P : List Fn} {is : Nat → Nat → Bool} {n : Nat} {e a b : E}

theorem snd_nil : Snd G T P is n .nil :=
  ⟨fun _ h => by simp only [chkE] at h; exact Bool.noConfusion h, fun _ h => by simp only [chkE] at h; exact Bool.noConfusion h,
    fun cx h => by
      simp only [chkA] at h
      split at h
      · exact ⟨a_nil, fun c m => by simp at m, fun r S ds S' q => by simp only [evA] at q; cases q; rfl⟩
      · exact Bool.noConfusion h,
    fun _ _ _ h => by simp only [chkV] at h; exact Bool.noConfusion h, fun _ _ _ h => by simp only [chkV] at h; exact Bool.noConfusion h, fun _ h => by simp only [chkI] at h; exact Bool.noConfusion h,
    fun cx h => by
      simp only [chkK] at h
      split at h
      · exact ⟨kw_nil, fun r S ds S' q => by simp only [evA] at q; cases q; rfl⟩
      · exact Bool.noConfusion h⟩
theorem evA_cons {C : Cl} {a r : E} {e : Lenv} {S S' : Sto} {ds : List D} (h : evA C (.cons a r) e S = .ok ds S') : ∃ x S1 xs S2, evE C a e S = .ok x S1 ∧ evA C r e S1 = .ok xs S2 ∧ ds = x :: xs := by
  simp only [evA] at h
  cases h1 : evE C a e S with
  | ok x S1 =>
    rw [h1] at h
    simp only [Out.bind] at h
    cases h2 : evA C r e S1 with
    | ok xs S2 =>
      rw [h2] at h
      simp only [Out.bind] at h
      simp only [Out.ok.injEq] at h
      exact ⟨x, S1, xs, S2, rfl, h2, h.1.symm⟩
    | err c S2 => rw [h2] at h; simp only [Out.bind] at h; cases h
    | bad => rw [h2] at h; simp only [Out.bind] at h; cases h
  | err c S1 => rw [h1] at h; simp only [Out.bind] at h; cases h
  | bad => rw [h1] at h; simp only [Out.bind] at h; cases h
theorem snd_cons (ha : Snd G T P is n a) (hr : Snd G T P is n b) : Snd G T P is n (.cons a b) :=
  ⟨fun _ h => by simp only [chkE] at h; exact Bool.noConfusion h, fun _ h => by simp only [chkE] at h; exact Bool.noConfusion h,
    fun cx h => by
      simp only [chkA] at h
      split at h
      · simp only [Bool.and_eq_true] at h
        obtain ⟨⟨h1, h2⟩, h3⟩ := h
        obtain ⟨q1, q2, q3⟩ := hr.vA cx h3
        refine ⟨a_cons (ha.vE cx h2) q1 (star_one h1 _), fun c m => ?_, fun r S ds S' q => ?_⟩
        · rcases List.mem_cons.mp m with rfl | m
          · exact h1
          · exact q2 c m
        · obtain ⟨x, S1, xs, S2, e1, e2, rfl⟩ := evA_cons q
          rw [List.length_cons, List.length_cons, q3 _ _ _ _ e2]
      · exact Bool.noConfusion h,
    fun _ _ _ h => by simp only [chkV] at h; exact Bool.noConfusion h, fun _ _ _ h => by simp only [chkV] at h; exact Bool.noConfusion h, fun _ h => by simp only [chkI] at h; exact Bool.noConfusion h,
    fun cx h => by
      simp only [chkK] at h
      split at h
      · simp only [Bool.and_eq_true] at h
        obtain ⟨q1, q3⟩ := hr.vK cx h.2
        refine ⟨kw_cons (ha.vE cx h.1) q1, fun r S ds S' q => ?_⟩
        obtain ⟨x, S1, xs, S2, e1, e2, rfl⟩ := evA_cons q
        exact congrArg Nat.succ (q3 _ _ _ _ e2)
      · exact Bool.noConfusion h⟩

/-- over the checker's yes, whatever is asked -/
theorem SndT {e : E} (h1 : ∀ t B c, chkE G e t B c = true → chkE G e false B c = true ∧ plainT c = true) : ∀ B c, chkE G e true B c = true → chkE G e false B c = true ∧ plainT c = true := fun B c h => h1 true B c h

theorem snd_call {f : Nat} (ha : Snd G T P is n a) : Snd G T P is n (.call f a) := .ofE (fun {B X W c} cx h => by
    simp only [chkE] at h
    split at h
    · rename_i x p es pos
      simp only [Bool.and_eq_true] at h
      obtain ⟨⟨h1, h2⟩, h3⟩ := h
      obtain ⟨g1, g2, ps, g3, F, _⟩ := cx.fnd h2
      have F := F h1
      obtain ⟨q1, q2, q3⟩ := ha.vA cx h3
      cases es with
      | nil =>
        refine PEi (e_call0 F (cx.calm h1).2 cx.tk g1 g2) fun σ H Q ⟨ρ, e, S, hR, hE, hp⟩ => ⟨ρ, e, S, hR, hE, ?_⟩
        simp only [evE] at hp
        cases hq : evA ⟨callN P is n, is⟩ a e S with
        | ok ds S' =>
          have e0 : ds = [] := List.length_eq_zero_iff.mp (q3 _ _ _ _ hq)
          subst e0
          have e1 : chkA G a B [] = true := h3
          have e2 : S' = S := by
            cases a <;> simp only [chkA] at e1 <;> first | cases e1 | skip
            simp only [evA] at hq
            cases hq
            rfl
          subst e2
          rw [hq] at hp
          exact hp
        | err c S' =>
          exfalso
          have e1 : chkA G a B [] = true := h3
          cases a <;> simp only [chkA] at e1 <;> first | cases e1 | skip
          simp only [evA] at hq
          cases hq
        | bad => rw [hq] at hp; exact False.elim hp
      | cons e0 es =>
        exact e_call F (cx.calm h1).2 cx.tk g1 q1 g2 (star_one (q2 _ List.mem_cons_self) _) (stars_any fun c m => q2 c (List.mem_cons_of_mem _ m))
    · exact Bool.noConfusion h)
  fun B c h => by
    simp only [chkE] at h ⊢
    split at h
    · exact ⟨h, rfl⟩
    · exact Bool.noConfusion h
theorem snd_callv {i : Nat} (ha : Snd G T P is n a) : Snd G T P is n (.callv i a) := .ofE (fun {B X W c} cx h => by
    simp only [chkE] at h
    split at h
    · rename_i x p e0 es pos
      simp only [Bool.and_eq_true] at h
      obtain ⟨⟨h1, h2⟩, h3⟩ := h
      obtain ⟨g1, g2, g3, g4⟩ := cx.var h2
      obtain ⟨q1, q2, q3⟩ := ha.vA cx h3
      exact e_callv (fun g A e => by
        obtain ⟨d, d1, d2⟩ := cx.fs g A e
        exact ⟨_, _, cx.df h1 _ _ d1, d2⟩) (cx.calm h1).2 cx.tk g1 g2 g3 g4 q1 (star_one (q2 _ List.mem_cons_self) _) (stars_any fun c m => q2 c (List.mem_cons_of_mem _ m))
    · exact Bool.noConfusion h)
  fun B c h => by
    simp only [chkE] at h ⊢
    split at h
    · exact ⟨h, rfl⟩
    · exact Bool.noConfusion h
theorem snd_callk {f : Nat} {ix : List Nat} (ha : Snd G T P is n a) (hb : Snd G T P is n b) : Snd G T P is n (.callk f a ix b) := .ofE (fun {B X W c} cx h => by
    simp only [chkE] at h
    split at h
    · rename_i x p es kws pos
      simp only [Bool.and_eq_true] at h
      obtain ⟨⟨⟨⟨h1, h2⟩, h3⟩, h4⟩, h5⟩ := h
      obtain ⟨g1, g2, ps, g3, F, _⟩ := cx.fnd h2
      have F := F h1
      rw [g3] at h5
      simp only at h5
      obtain ⟨q1, q2, q3⟩ := ha.vA cx h3
      obtain ⟨k1, k2⟩ := hb.vK cx h4
      cases es with
      | nil =>
        refine PEi (e_callk0 F (cx.calm h1).2 cx.tk g1 k1 g2 h5 k2) fun σ H Q ⟨ρ, e, S, hR, hE, hp⟩ => ⟨ρ, e, S, hR, hE, ?_⟩
        simp only [evE] at hp
        have e1 : chkA G a B [] = true := h3
        cases a <;> simp only [chkA] at e1 <;> first | cases e1 | skip
        simp only [evA, Out.bind] at hp
        exact hp
      | cons e0 es =>
        exact e_callk F (cx.calm h1).2 cx.tk g1 q1 k1 g2 (star_one (q2 _ List.mem_cons_self) _) (stars_any fun c m => q2 c (List.mem_cons_of_mem _ m)) h5 q3 k2
    · exact Bool.noConfusion h)
  fun B c h => by
    simp only [chkE] at h ⊢
    split at h
    · exact ⟨h, rfl⟩
    · exact Bool.noConfusion h
theorem snd_blt {k : B1} (ha : Snd G T P is n a) : Snd G T P is n (.blt k a) := .ofE (fun {B X W c} cx h => by
    simp only [chkE] at h
    split at h
    · rename_i x p e0 es pos
      simp only [Bool.and_eq_true, decide_eq_true_eq] at h
      obtain ⟨⟨⟨⟨h1, rfl⟩, h3⟩, h4⟩, h5⟩ := h
      obtain ⟨q1, q2, q3⟩ := ha.vA cx h5
      refine e_blt k cx.K (cx.calm h1).1 (cx.gl h3) ?_ q1 (star_one (q2 _ List.mem_cons_self) _) (stars_any fun c m => q2 c (List.mem_cons_of_mem _ m))
      by_cases hk : k = .gcd
      · subst hk
        rw [if_pos rfl]
        exact cx.gcd h4
      · rw [if_neg hk]
        refine cx.free _ (List.contains_iff_mem.mp ?_)
        cases k <;> first | exact h4 | exact absurd rfl hk
    · exact Bool.noConfusion h)
  fun B c h => by
    simp only [chkE] at h ⊢
    split at h
    · exact ⟨h, rfl⟩
    · exact Bool.noConfusion h
theorem tys_get {B : Bk} {X : Cx} {W : WX} (cx : CxOk G T P is n B X W) : ∀ {ts : List Ty} {es : List Expr}, tysB G B ts es = true →
    (∀ t ∈ ts, Gl X (Str.ofString (nmT t)) ∧ X.mg (Str.ofString (nmT t)) = none) ∧ ∃ ps : List Pos, ps.length = ts.length ∧ es = (ts.zip ps).map fun q => Expr.Name (Str.ofString (nmT q.1)) q.2
  | [], [], _ => ⟨fun t m => by simp at m, [], rfl, rfl⟩
  | [], _ :: _, h => by simp [tysB] at h
  | t :: ts, [], h => by simp [tysB] at h
  | t :: ts, e :: es, h => by
    cases e <;> simp only [tysB] at h <;> first | exact Bool.noConfusion h | skip
    simp only [Bool.and_eq_true, decide_eq_true_eq] at h
    obtain ⟨⟨rfl, h2⟩, h3⟩ := h
    obtain ⟨q1, ps, q2, q3⟩ := tys_get cx h3
    refine ⟨fun u m => ?_, _ :: ps, by simp [q2], by rw [q3]; rfl⟩
    rcases List.mem_cons.mp m with rfl | m
    · exact cx.fr h2
    · exact q1 u m
theorem snd_isi {ts : List Ty} (ha : Snd G T P is n a) : Snd G T P is n (.isi a ts) := .ofE (fun {B X W c} cx h => by
    simp only [chkE] at h
    split at h
    · rename_i x p e0 u pos
      simp only [Bool.and_eq_true, decide_eq_true_eq] at h
      obtain ⟨⟨⟨⟨rfl, h2⟩, h3⟩, h4⟩, h5⟩ := h
      obtain ⟨g1, g2⟩ := cx.fr h2
      split at h5
      · simp only [Bool.and_eq_true, decide_eq_true_eq] at h5
        obtain ⟨t1, ps, t2, rfl⟩ := tys_get cx h5.2
        exact e_isiT cx.K g1 g2 t1 t2 h5.1 (ha.vE cx h4) (star_one h3)
      · obtain ⟨t1, ps, t2, t3⟩ := tys_get cx h5
        match ts, ps, t2, t3 with
        | [t], [q], _, t3 =>
          simp only [List.zip_cons_cons, List.zip_nil_right, List.map_cons, List.map_nil, List.cons.injEq, and_true] at t3
          subst t3
          exact e_isi1 cx.K g1 g2 (t1 t List.mem_cons_self).1 (t1 t List.mem_cons_self).2 (ha.vE cx h4) (star_one h3)
        | [], [], _, t3 => simp at t3
        | _ :: _ :: _, _ :: _ :: _, _, t3 => simp at t3
    · exact Bool.noConfusion h)
  fun B c h => by
    simp only [chkE] at h ⊢
    split at h
    · exact ⟨h, rfl⟩
    · exact Bool.noConfusion h
theorem snd_idx (ha : Snd G T P is n a) (hb : Snd G T P is n b) : Snd G T P is n (.idx a b) := .ofE (fun {B X W c} cx h => by
    simp only [chkE] at h
    split at h
    · simp only [Bool.and_eq_true] at h
      exact e_idx cx.K (ha.vE cx h.1.1) (hb.vE cx h.1.2) (ix_plain h.2)
    · exact Bool.noConfusion h)
  fun B c h => by
    simp only [chkE] at h ⊢
    split at h
    · exact ⟨h, rfl⟩
    · exact Bool.noConfusion h
theorem snd_sl {lo hi : E} (ha : Snd G T P is n a) (hl : Snd G T P is n lo) (hh : Snd G T P is n hi) : Snd G T P is n (.sl a lo hi) := .ofE (fun {B X W c} cx h => by
    simp only [chkE] at h
    split at h
    · rename_i l x y p2 pos
      simp only [Bool.and_eq_true] at h
      obtain ⟨⟨h1, h2⟩, h3⟩ := h
      have key : ∀ {e : E} {x : Option Expr}, Snd G T P is n e → (match x with | none => e.isNon | some x => !e.isNon && chkE G e false B x) = true → PO X x (SO T W fun r S => (evE ⟨callN P is n, is⟩ e r S).bind (oD e.isNon)) := by
        intro e x he h
        cases x with
        | none =>
          simp only at h
          cases e <;> simp only [E.isNon] at h <;> first | exact Bool.noConfusion h | skip
          rename_i d
          cases d <;> simp only [E.isNon] at h <;> first | exact Bool.noConfusion h | skip
          exact o_none
        | some x =>
          simp only [Bool.and_eq_true, Bool.not_eq_true'] at h
          rw [h.1]
          have e1 : oD false = fun x S => (match x with | .int i => .ok (.int i) S | _ => .bad) := by
            funext x S
            cases x <;> rfl
          rw [e1]
          exact o_some (he.vE cx h.2)
      exact e_sl cx.K (ha.vE cx h1) (key hl h2) (key hh h3)
    · exact Bool.noConfusion h)
  fun B c h => by
    simp only [chkE] at h ⊢
    split at h
    · exact ⟨h, rfl⟩
    · exact Bool.noConfusion h
theorem snd_tup (ha : Snd G T P is n a) : Snd G T P is n (.tup a) := .ofE (fun {B X W c} cx h => by
    simp only [chkE] at h
    split at h
    · exact e_tup (ha.vA cx h).1
    · exact Bool.noConfusion h)
  fun B c h => by
    simp only [chkE] at h ⊢
    split at h
    · exact ⟨h, rfl⟩
    · exact Bool.noConfusion h
theorem snd_lst (ha : Snd G T P is n a) : Snd G T P is n (.lst a) := .ofE (fun {B X W c} cx h => by
    simp only [chkE] at h
    split at h
    · exact e_lst (ha.vA cx h).1
    · exact Bool.noConfusion h)
  fun B c h => by
    simp only [chkE] at h ⊢
    split at h
    · exact ⟨h, rfl⟩
    · exact Bool.noConfusion h
theorem snd_loc (ha : Snd G T P is n a) : Snd G T P is n (.loc a) := .ofE (fun {B X W c} cx h => by
    simp only [chkE] at h
    split at h
    · exact e_loc (ha.vA cx h).1
    · exact Bool.noConfusion h)
  fun B c h => by
    simp only [chkE] at h ⊢
    split at h
    · exact ⟨h, rfl⟩
    · exact Bool.noConfusion h
theorem snd_locL (ha : Snd G T P is n a) : Snd G T P is n (.locL a) := .ofE (fun {B X W c} cx h => by
    simp only [chkE] at h
    split at h
    · simp only [Bool.and_eq_true, decide_eq_true_eq] at h
      obtain ⟨⟨⟨rfl, h2⟩, h3⟩, h4⟩ := h
      obtain ⟨g1, g2⟩ := cx.fr h2
      exact e_locL cx.K g1 g2 (ha.vE cx h4) (star_one h3 _)
    · exact Bool.noConfusion h)
  fun B c h => by
    simp only [chkE] at h ⊢
    split at h
    · exact ⟨h, rfl⟩
    · exact Bool.noConfusion h
theorem snd_frz (ha : Snd G T P is n a) : Snd G T P is n (.frz a) := .ofE (fun {B X W c} cx h => by
    simp only [chkE, Bool.not_false, Bool.true_and] at h
    exact e_frz (ha.vE cx h))
  fun B c h => by simp only [chkE, Bool.not_true, Bool.false_and] at h; exact Bool.noConfusion h
theorem snd_locC (ha : Snd G T P is n a) (hb : Snd G T P is n b) : Snd G T P is n (.locC a b) := .ofE (fun {B X W c} cx h => by
    simp only [chkE] at h
    split at h
    · simp only [Bool.and_eq_true] at h
      exact e_locC (ha.vE cx h.1) (hb.vE cx h.2)
    · exact Bool.noConfusion h)
  fun B c h => by
    simp only [chkE] at h ⊢
    split at h
    · exact ⟨h, rfl⟩
    · exact Bool.noConfusion h
theorem snd_isx {i k : Nat} : Snd G T P is n (.isx i k) := .ofE (fun {B X W c} cx h => by
    simp only [chkE] at h
    split at h
    · rename_i x p y p2 z p3 pos
      simp only [Bool.and_eq_true, decide_eq_true_eq] at h
      obtain ⟨⟨⟨⟨⟨rfl, h2⟩, h3⟩, h4⟩, h5⟩, h6⟩ := h
      split at h6
      · rename_i s hs
        have hz := of_decide_eq_true h6
        subst hz
        obtain ⟨g1, g2⟩ := cx.fr h2
        obtain ⟨v1, v2, v3, v4⟩ := cx.var h3
        obtain ⟨b1, b2, b3, b4, b5⟩ := cx.bs _ s hs
        have ek : 1000 + (k - 1000) = k := by omega
        rw [ek] at b5
        have pa : PA X [.Name y p2, .Name (Str.ofString s) p3] _ := pa_cons (pe_var v1 v2 v3 v4) (pa_cons (pe_bltn (v := .ty s) (cx.gl h4) b1 b2 rfl b3 b4) pa_nil rfl) rfl
        refine ⟨fun pins st σ H Q I ⟨ρ, e, S, hR, hE, hp⟩ => ?_⟩
        simp only [evE] at hp
        split at hp
        · rename_i c hc
          obtain ⟨v, e1, e2⟩ := hE.get hc
          simp only [Rep] at e2
          obtain ⟨a, rfl, e2⟩ := e2
          refine (pe_callB (cx.xx c a e2) g1 g2 boot_isinstance pa (by decide) (by decide) rfl rfl).run pins st σ H Q I ?_
          refine ⟨.ref a, e1, .ty s, .type s, is c k, rfl, fun u r => r, b5 c ⟨a, e2⟩, hp ρ H _ hR .refl ?_⟩
          simp only [Rep]
        · exact False.elim hp
      · exact Bool.noConfusion h6
    · exact Bool.noConfusion h)
  fun B c h => by
    simp only [chkE] at h ⊢
    split at h
    · exact ⟨h, rfl⟩
    · exact Bool.noConfusion h
theorem snd_app {i : Nat} (ha : Snd G T P is n a) : Snd G T P is n (.app i a) := .ofE (fun {B X W c} cx h => by
    simp only [chkE] at h
    split at h
    · simp only [Bool.and_eq_true, decide_eq_true_eq] at h
      obtain ⟨⟨⟨⟨rfl, h2⟩, h3⟩, h4⟩, h5⟩ := h
      obtain ⟨g1, g2, g3, g4⟩ := cx.var h3
      exact e_app g1 g2 g3 g4 (ha.vE cx h5) (star_one h4 _) h2
    · exact Bool.noConfusion h)
  fun B c h => by
    simp only [chkE] at h ⊢
    split at h
    · exact ⟨h, rfl⟩
    · exact Bool.noConfusion h
theorem snd_pop {i : Nat} (ha : Snd G T P is n a) : Snd G T P is n (.pop i a) := .ofE (fun {B X W c} cx h => by
    simp only [chkE] at h
    split at h
    · simp only [Bool.and_eq_true, decide_eq_true_eq] at h
      obtain ⟨⟨⟨⟨rfl, h2⟩, h3⟩, h4⟩, h5⟩ := h
      obtain ⟨g1, g2, g3, g4⟩ := cx.var h3
      exact e_pop g1 g2 g3 g4 (ha.vE cx h5) (star_one h4 _) h2
    · exact Bool.noConfusion h)
  fun B c h => by
    simp only [chkE] at h ⊢
    split at h
    · exact ⟨h, rfl⟩
    · exact Bool.noConfusion h
/-! ### what is walked -/
theorem snd_rng (ha : Snd G T P is n a) : Snd G T P is n (.rng a) :=
  ⟨fun _ h => by simp only [chkE] at h; exact Bool.noConfusion h, fun _ h => by simp only [chkE] at h; exact Bool.noConfusion h, fun _ h => by simp only [chkA] at h; exact Bool.noConfusion h,
    fun _ _ _ h => by simp only [chkV] at h; exact Bool.noConfusion h, fun _ _ _ h => by simp only [chkV] at h; exact Bool.noConfusion h,
    fun cx h => by
      simp only [chkI] at h
      split at h
      · simp only [Bool.and_eq_true, decide_eq_true_eq] at h
        obtain ⟨⟨⟨rfl, h2⟩, h3⟩, h4⟩ := h
        obtain ⟨g1, g2⟩ := cx.fr h2
        exact i_rng g1 g2 (ha.vE cx h4) (star_one h3)
      · exact Bool.noConfusion h,
    fun _ h => by simp only [chkK] at h; exact Bool.noConfusion h⟩
theorem snd_rng2 (ha : Snd G T P is n a) (hb : Snd G T P is n b) : Snd G T P is n (.rng2 a b) :=
  ⟨fun _ h => by simp only [chkE] at h; exact Bool.noConfusion h, fun _ h => by simp only [chkE] at h; exact Bool.noConfusion h, fun _ h => by simp only [chkA] at h; exact Bool.noConfusion h,
    fun _ _ _ h => by simp only [chkV] at h; exact Bool.noConfusion h, fun _ _ _ h => by simp only [chkV] at h; exact Bool.noConfusion h,
    fun cx h => by
      simp only [chkI] at h
      split at h
      · simp only [Bool.and_eq_true, decide_eq_true_eq] at h
        obtain ⟨⟨⟨⟨⟨rfl, h2⟩, h3⟩, h4⟩, h5⟩, h6⟩ := h
        obtain ⟨g1, g2⟩ := cx.fr h2
        exact i_rng2 g1 g2 (ha.vE cx h5) (hb.vE cx h6) (star_one h3) (star_one h4)
      · exact Bool.noConfusion h,
    fun _ h => by simp only [chkK] at h; exact Bool.noConfusion h⟩
theorem snd_enum (ha : Snd G T P is n a) : Snd G T P is n (.enum a) :=
  ⟨fun _ h => by simp only [chkE] at h; exact Bool.noConfusion h, fun _ h => by simp only [chkE] at h; exact Bool.noConfusion h, fun _ h => by simp only [chkA] at h; exact Bool.noConfusion h,
    fun _ _ _ h => by simp only [chkV] at h; exact Bool.noConfusion h, fun _ _ _ h => by simp only [chkV] at h; exact Bool.noConfusion h,
    fun cx h => by
      simp only [chkI] at h
      split at h
      · simp only [Bool.and_eq_true, decide_eq_true_eq] at h
        obtain ⟨⟨⟨rfl, h2⟩, h3⟩, h4⟩ := h
        obtain ⟨g1, g2⟩ := cx.fr h2
        exact i_enum cx.K g1 g2 (ha.vE cx h4) (star_one h3)
      · exact Bool.noConfusion h,
    fun _ h => by simp only [chkK] at h; exact Bool.noConfusion h⟩
theorem snd_zip (ha : Snd G T P is n a) (hb : Snd G T P is n b) : Snd G T P is n (.zip a b) :=
  ⟨fun _ h => by simp only [chkE] at h; exact Bool.noConfusion h, fun _ h => by simp only [chkE] at h; exact Bool.noConfusion h, fun _ h => by simp only [chkA] at h; exact Bool.noConfusion h,
    fun _ _ _ h => by simp only [chkV] at h; exact Bool.noConfusion h, fun _ _ _ h => by simp only [chkV] at h; exact Bool.noConfusion h,
    fun cx h => by
      simp only [chkI] at h
      split at h
      · simp only [Bool.and_eq_true, decide_eq_true_eq] at h
        obtain ⟨⟨⟨⟨⟨rfl, h2⟩, h3⟩, h4⟩, h5⟩, h6⟩ := h
        obtain ⟨g1, g2⟩ := cx.fr h2
        exact i_zip cx.K g1 g2 (ha.vE cx h5) (hb.vE cx h6) (star_one h3) (star_one h4)
      · exact Bool.noConfusion h,
    fun _ h => by simp only [chkK] at h; exact Bool.noConfusion h⟩
/-! ### comprehensions -/
theorem nms_get {B : Bk} {X : Cx} {W : WX} (cx : CxOk G T P is n B X W) : ∀ {ns : List Nat} {es : List Expr}, nmsB B ns es = true → Nms X es ns
  | [], [], _ => nms_nil
  | [], _ :: _, h => by simp [nmsB] at h
  | t :: ts, [], h => by simp [nmsB] at h
  | t :: ts, e :: es, h => by
    cases e <;> simp only [nmsB] at h <;> first | exact Bool.noConfusion h | skip
    simp only [Bool.and_eq_true] at h
    obtain ⟨g1, g2, g3⟩ := cx.st h.1
    exact nms_cons cx.nd g1 g2 g3 (nms_get cx h.2)
theorem tg_get {B : Bk} {X : Cx} {W : WX} (cx : CxOk G T P is n B X W) {t : Tg} {g : Expr} (h : tgB B t g = true) : PG X g (gOf X.K t) := by
  cases t <;> cases g <;> simp only [tgB] at h <;> first | exact Bool.noConfusion h | skip
  · obtain ⟨g1, g2, g3⟩ := cx.st h
    exact tg_name cx.nd g1 g2 g3
  · simp only [Bool.and_eq_true] at h
    exact tg_tup (cx.calm h.1).1 (nms_get cx h.2)
theorem CxOk.blk {B : Bk} {X : Cx} {W : WX} (cx : CxOk G T P is n B X W) (hB : B.calm = true) (scope : Scope) (s : Shared) (H : Hp) (C : Addr) (cl : List (Str × Addr)) (fp : List Addr) :
    CxOk G T P is n (B.blk scope) (X.blk s H scope (compEnvC scope cl C X.env) fp) W0 where
  N := cx.N
  nd := cx.nd
  sc := by show relS scope X.env.scope = relS scope B.sc; rw [cx.sc]
  fn := fun x h => h
  K := cx.K
  calm := cx.calm
  un := cx.un
  tk := fun u s' ⟨_, _, _, _, _, _, _, _, _, _, _, _, _, _, _, _, w⟩ => w
  free := cx.free
  gcd := cx.gcd
  df := fun hc f d h => ⟨(cx.df hc f d h).ex⟩
  fm := cx.fm
  xn := cx.xn
  xx := fun c a h => absurd h (cx.xn hB c a)
  bs := cx.bs
  fs := cx.fs
theorem own_ix {B : Bk} (own : List Nat) : (ownOf B own).map (·.2) = own := by
  unfold ownOf
  rw [List.map_map]
  exact List.map_id' own
/-- what a comprehension's check holds -/
structure CmpOk (X : Cx) (T : Tb) (W : WX) (C : Cl) (el : E) (own : List Nat) (tg : Tg) (it cd : E) (x iter g : Expr) (ifs : List Expr) (scope : Scope) (ow : List (Str × Nat)) : Prop where
  ix : ow.map (·.2) = own
  calm : X.calm = true
  hi : PI X g iter (SI T W (evI C it))
  ok : BlkOk X.N X.env.scope scope ow
  hg : ∀ (s : Shared) (H : Hp) (C : Addr) (cl : List (Str × Addr)) (fp : List Addr), PG (X.blk s H scope (compEnvC scope cl C X.env) fp) g (gOf X.K tg)
  ht : ∀ (s : Shared) (H : Hp) (D : Addr) (cl : List (Str × Addr)) (fp : List Addr), PTs (X.blk s H scope (compEnvC scope cl D X.env) fp) ifs (ST T W0 (tst (evE C cd)))
  he : ∀ (s : Shared) (H : Hp) (D : Addr) (cl : List (Str × Addr)) (fp : List Addr), PE (X.blk s H scope (compEnvC scope cl D X.env) fp) x (SE T W0 (evE C el))
  hs : ∀ y, foldedSetIterable iter X.env y = pure y
  hix : ∀ i ∈ tg.ix, i ∈ ow.map (·.2)
theorem cmp_get {B : Bk} {X : Cx} {W : WX} {el it cd : E} {own : List Nat} {tg : Tg} {x iter g : Expr} {ifs : List Expr} {scope : Scope} (cx : CxOk G T P is n B X W) (he : Snd G T P is n el) (hi : Snd G T P is n it) (hc : Snd G T P is n cd)
    (h : (B.calm && chkI G it B g iter && noSet iter && blkC B.N B.sc scope (ownOf B own) && tg.ix.all (fun i => decide (i ∈ own)) && tgB (B.blk scope) tg g && chkE G el false (B.blk scope) x &&
        (match ifs with | [] => isTrueC cd | [x] => chkE G cd true (B.blk scope) x | _ => false)) = true) :
    CmpOk X T W ⟨callN P is n, is⟩ el own tg it cd x iter g ifs scope (ownOf B own) := by
  simp only [Bool.and_eq_true, List.all_eq_true, decide_eq_true_eq] at h
  obtain ⟨⟨⟨⟨⟨⟨⟨h1, h2⟩, h3⟩, h4⟩, h5⟩, h6⟩, h7⟩, h8⟩ := h
  refine ⟨own_ix own, (cx.calm h1).1, hi.vI cx h2, ?_, fun s H C cl fp => tg_get (cx.blk h1 scope s H C cl fp) h6, fun s H C cl fp => ?_, fun s H C cl fp => he.vE (cx.blk h1 scope s H C cl fp) h7, set_no h3 _, fun i m => by rw [own_ix]; exact h5 i m⟩
  · rw [cx.N, cx.sc]
    exact blkOk_by h4
  · split at h8
    · unfold isTrueC at h8
      split at h8
      · exact ts_nil
      · exact Bool.noConfusion h8
    · exact pts_one (hc.vT (cx.blk h1 scope s H C cl fp) h8)
    · exact Bool.noConfusion h8
theorem snd_comp {el it cd : E} {own : List Nat} {tg : Tg} (he : Snd G T P is n el) (hi : Snd G T P is n it) (hc : Snd G T P is n cd) : Snd G T P is n (.comp el own tg it cd) := .ofE (fun {B X W c} cx h => by
    simp only [chkE] at h
    split at h
    · have q := cmp_get cx he hi hc h
      rename_i pos
      have z := e_comp (pos := pos) cx.K q.calm cx.nd q.hi q.ok q.hg q.ht q.he q.hs q.hix
      rw [q.ix] at z
      exact z
    · exact Bool.noConfusion h)
  fun B c h => by
    simp only [chkE] at h ⊢
    split at h
    · exact ⟨h, rfl⟩
    · exact Bool.noConfusion h

/-- THE RULE of expressions -/
theorem snd : ∀ e : E, Snd G T P is n e
  | .cst d => snd_cst
  | .var i => snd_var
  | .gfn f => snd_gfn
  | .op o a b => snd_op (snd a) (snd b)
  | .neg a => snd_neg (snd a)
  | .not a => snd_not (snd a)
  | .cmp o a b => snd_cmp (snd a) (snd b)
  | .isn a no => snd_isn (snd a)
  | .and a b => snd_and (snd a) (snd b)
  | .or a b => snd_or (snd a) (snd b)
  | .one a => snd_one (snd a)
  | .ite c a b => snd_ite (snd c) (snd a) (snd b)
  | .call f as => snd_call (snd as)
  | .callk f as ix ks => snd_callk (snd as) (snd ks)
  | .callv i as => snd_callv (snd as)
  | .blt b as => snd_blt (snd as)
  | .isi a ts => snd_isi (snd a)
  | .idx a b => snd_idx (snd a) (snd b)
  | .sl a lo hi => snd_sl (snd a) (snd lo) (snd hi)
  | .tup as => snd_tup (snd as)
  | .lst as => snd_lst (snd as)
  | .loc as => snd_loc (snd as)
  | .locL a => snd_locL (snd a)
  | .frz a => snd_frz (snd a)
  | .locC a b => snd_locC (snd a) (snd b)
  | .isx i k => snd_isx
  | .app i a => snd_app (snd a)
  | .pop i a => snd_pop (snd a)
  | .comp el own t it c => snd_comp (snd el) (snd it) (snd c)
  | .rng a => snd_rng (snd a)
  | .rng2 a b => snd_rng2 (snd a) (snd b)
  | .enum a => snd_enum (snd a)
  | .zip a b => snd_zip (snd a) (snd b)
  | .nil => snd_nil
  | .cons a r => snd_cons (snd a) (snd r)
end
end Ev

set_option Elab.async false
set_option linter.all false
set_option maxRecDepth 100000
set_option maxHeartbeats 4000000
/-! Ev, part N: the checker of statements, and that it is right. -/
namespace Ev
open PySem PySem.Spec PyProof.Rows L2

def noComp : Expr → Bool
  | .ListComp .. => false
  | .SetComp .. => false
  | .DictComp .. => false
  | _ => true
def noTup : Expr → Bool
  | .Tuple .. => false
  | _ => true
def funB (B : Bk) : Bool := match B.sc.kind with | .function => true | _ => false
/-- is a new list stored while it is made -/
def swV (B : Bk) (x : Str) (p p2 : Pos) (s : Scope) : Bool := isL B.sc x && (p.line == p2.line) && !(s.names.any fun (n, k) => n == x && (k == .local || k == .cell))
def isComp : E → Bool
  | .comp .. => true
  | _ => false
def Bk.hot (B : Bk) : Bk := ⟨B.N, B.sc, B.fnb, false⟩
def par2B (B : Bk) (i j : Nat) (x y : Str) (px py : Pos) (a b : Expr) : Bool :=
  decide (B.N[i]? = some x) && decide (B.N[j]? = some y) && decide (i ≠ j) && isL B.sc x && isL B.sc y && (py.line == px.line) && decide (x ≠ y) && noStar a && noStar b && !([a, b].all (foldedForSure 8)) && !([a, b].all (constantsAlone 8))
def par3B (B : Bk) (i j l : Nat) (x y z : Str) (px py pz : Pos) (a b c : Expr) : Bool :=
  decide (B.N[i]? = some x) && decide (B.N[j]? = some y) && decide (B.N[l]? = some z) && decide (i ≠ j) && decide (i ≠ l) && decide (j ≠ l) && isL B.sc x && isL B.sc y && isL B.sc z && (py.line == px.line) && (pz.line == px.line) && decide (x ≠ y) && decide (x ≠ z) && decide (y ≠ z) && noStar a && noStar b && noStar c && !([a, b, c].all (foldedForSure 8)) && !([a, b, c].all (constantsAlone 8))
def asB (o : Op) : Bool := match o with | .add => true | .sub => true | _ => false

mutual
def chkS (G : Pg) : Sm → Bk → Stmt → Bool
  | .ret a, B, s => match s with
    | .Return (some c) _ => chkE G a false B c
    | _ => false
  | .set i a, B, s => match s with
    | .Assign [.Name x p] v pos => stB B i x && (match v with
      | .ListComp e gs scope p2 => funB B && (if swV B x p p2 scope then B.calm && isComp a && chkE G a false B (.ListComp e gs scope p2) else chkE G a false B (.ListComp e gs scope p2))
      | v => noComp v && chkE G a false B v)
    | _ => false
  | .asg ts a, B, s => match s with
    | .Assign [.Tuple es _ _] v _ => B.calm && nmsB B ts es && noTup v && chkE G a false B v
    | _ => false
  | .par i j a b, B, s => match s with
    | .Assign [.Tuple [.Name x px, .Name y py] _ _] (.Tuple [v, w] _ _) _ => B.calm && funB B && par2B B i j x y px py v w && chkE G a false B v && chkE G b false B w
    | _ => false
  | .par3 i j l a b c, B, s => match s with
    | .Assign [.Tuple [.Name x px, .Name y py, .Name z pz] _ _] (.Tuple [u, v, w] _ _) _ => B.calm && funB B && par3B B i j l x y z px py pz u v w && chkE G a false B u && chkE G b false B v && chkE G c false B w
    | _ => false
  | .setI i k a, B, s => match s with
    | .Assign [.Subscript (.Name x _) k' _] v _ => varB B i x && plainIx k' && chkE G k false B k' && chkE G a false B v
    | _ => false
  | .aug i o a, B, s => match s with
    | .AugAssign (.Name x _) p v _ => decide (p = opOf o) && asB o && stB B i x && chkE G a false B v
    | _ => false
  | .ex a, B, s => match s with
    | .Expr c _ => noComp c && chkE G a false B c
    | _ => false
  | .ite c a b, B, s => match s with
    | .If t x y _ => chkE G c true B t && chkSs G a B x && chkSs G b B y
    | _ => false
  | .for_ t it b, B, s => match s with
    | .For g iter body [] _ => B.calm && chkI G it B g iter && tgB B t g && noSet iter && chkSs G b B body
    | _ => false
  | .whl c b, B, s => match s with
    | .While t body [] _ => chkE G c true B t && chkSs G b B body
    | _ => false
  | .brk, _, s => match s with
    | .Break _ => true
    | _ => false
  | .cnt, _, s => match s with
    | .Continue _ => true
    | _ => false
  | .pass, _, s => match s with
    | .Pass _ => true
    | _ => false
  | .raise c, B, s => match s with
    | .Raise (some (.Call (.Name x _) [] [] _)) none _ => B.calm && glB B.sc x && okNm x && decide (G.exc[c]? = some x)
    | _ => false
  | .try_ b hs, B, s => match s with
    | .Try body (h :: hds) [] [] _ => B.calm && chkSs G b B body && chkH G hs B (h :: hds)
    | _ => false
  | _, _, _ => false
def chkSs (G : Pg) : Sm → Bk → List Stmt → Bool
  | .nil, _, l => match l with
    | [] => true
    | _ => false
  | .cons a r, B, l => match l with
    | s :: ss => chkS G a B s && chkSs G r B ss
    | _ => false
  | _, _, _ => false
def chkH (G : Pg) : Sm → Bk → List ExceptHandler → Bool
  | .hnil, _, l => match l with
    | [] => true
    | _ => false
  | .hcons k i b r, B, l => match l with
    | .ExceptHandler (some (.Name x _)) m (b0 :: suite) _ :: hds => B.calm && glB B.sc x && okNm x && decide (G.exc[k]? = some x) && (match i, m with
        | none, none => true
        | some i, some m => decide (B.N[i]? = some m) && isL B.sc m
        | _, _ => false) && chkSs G b B.hot (b0 :: suite) && chkH G r B hds
    | _ => false
  | _, _, _ => false
end

/-- beside CxOk, for statements -/
structure SxOk (G : Pg) (T : Tb) (P : List Fn) (is : Nat → Nat → Bool) (n : Nat) (B : Bk) (X : Cx) (W : WX) : Prop where
  cx : CxOk G T P is n B X W
  po : PassesOwn (model X.prog X.w) X.A X.env X.xe
  stk : B.calm = true → X.stack = X.env :: X.outer ∧ X.env.frame = some X.env.locals
  ex : B.calm = true → ∀ c x, G.exc[c]? = some x → ExcOk X T c x
  em : B.calm = true → ∀ c k x, G.exc[k]? = some x → PySem.W.exmOne X.K (.ref (T.ca c)) (.ref (T.ca k)) = some (is c k)
  xc : B.calm = true → 0 < G.exc.length → ∀ c, ExcC X.K (T.ca c)
  kb : B.calm = true → 0 < G.exc.length → ∀ c k s, G.bas[k]? = some s → PySem.W.kitOne X.K (.ref (T.ca c)) (.type s) = some (is c (1000 + k))

/-! ### swaps -/
theorem noComp_sw {v : Expr} (h : noComp v = true) (t : Option Expr) (l : Nat) (env : Env) : swapsWith v t l env = pure false := by
  cases v <;> first | rfl | cases h
theorem sw_not {v t : Expr} (h : ∀ x p, t ≠ .Name x p) (l : Nat) (env : Env) : swapsWith v (some t) l env = pure false := by
  cases t <;> first | exact absurd rfl (h _ _) | (cases v <;> rfl)
theorem sw_lc {B : Bk} {env : Env} {e : Expr} {gs : List Comprehension} {s : Scope} {p p2 : Pos} {x : Str} {l : Nat} (hs : env.scope = B.sc) (hf : funB B = true) : swapsWith (.ListComp e gs s p2) (some (.Name x p)) l env = pure (swV B x p p2 s) := by
  have hk : env.scope.kind = .function := by
    rw [hs]
    unfold funB at hf
    split at hf
    · assumption
    · cases hf
  have hb : env.blockKind = .function := by unfold Env.blockKind; rw [hk]; rfl
  have e1 : (env.kindOf x == some .local) = isL B.sc x := by
    unfold Env.kindOf isL
    rw [hs]
    cases B.sc.names.lookup x with
    | none => rfl
    | some k => cases k <;> rfl
  unfold swapsWith swV
  simp only [hb, e1, Expr.pos]
  rfl
end Ev

set_option Elab.async false
set_option linter.all false
set_option maxRecDepth 100000
set_option maxHeartbeats 4000000
/-! Ev, part O: the checker of statements is right (1). -/
namespace Ev
open PySem PySem.Spec PyProof.Rows L2

theorem fun_kind {B : Bk} {env : Env} (hs : env.scope = B.sc) (hf : funB B = true) : env.blockKind = .function := by
  have hk : env.scope.kind = .function := by
    rw [hs]
    unfold funB at hf
    split at hf
    · assumption
    · cases hf
  unfold Env.blockKind; rw [hk]; rfl
theorem isL_kind {B : Bk} {env : Env} {x : Str} (hs : env.scope = B.sc) (h : isL B.sc x = true) : env.kindOf x = some .local := by
  unfold Env.kindOf
  unfold isL at h
  rw [hs]
  split at h
  · assumption
  · cases h
theorem sw2 {B : Bk} {env : Env} {i j : Nat} {x y : Str} {px py pt pt2 : Pos} {kt k2 : Nat} {a b : Expr} (hs : env.scope = B.sc) (hf : funB B = true) (h : par2B B i j x y px py a b = true) :
    swappedStores [.Tuple [.Name x px, .Name y py] kt pt] (.Tuple [a, b] k2 pt2) env = pure (some [x, y]) := by
  unfold par2B at h
  simp only [Bool.and_eq_true, decide_eq_true_eq, Bool.not_eq_true', beq_iff_eq] at h
  obtain ⟨⟨⟨⟨⟨⟨⟨⟨⟨⟨h1, h2⟩, h3⟩, h4⟩, h5⟩, h6⟩, h7⟩, h8⟩, h9⟩, h10⟩, h11⟩ := h
  have k1 := isL_kind hs h4
  have k2 := isL_kind hs h5
  have kb := fun_kind hs hf
  have e2 : ([x, y].eraseDups).length = 2 := by
    have : (y == x) = false := by simpa using fun e => h7 e.symm
    simp [List.eraseDups_cons, this]
  unfold swappedStores
  simp only [kb, List.length_cons, List.length_nil, List.head?_cons, Option.map_some, Option.getD_some, List.filterMap_cons, k1, k2, Expr.pos, h6, e2, h10, h11]
  simp [e2, h10, h11]
  intro hh
  rcases hh with hh | hh
  · cases a <;> first | exact Bool.noConfusion h8 | exact Bool.noConfusion hh
  · cases b <;> first | exact Bool.noConfusion h9 | exact Bool.noConfusion hh
theorem sw3 {B : Bk} {env : Env} {i j l : Nat} {x y z : Str} {px py pz pt pt2 : Pos} {kt k2 : Nat} {a b c : Expr} (hs : env.scope = B.sc) (hf : funB B = true) (h : par3B B i j l x y z px py pz a b c = true) :
    swappedStores [.Tuple [.Name x px, .Name y py, .Name z pz] kt pt] (.Tuple [a, b, c] k2 pt2) env = pure (some [x, y, z]) := by
  unfold par3B at h
  simp only [Bool.and_eq_true, decide_eq_true_eq, Bool.not_eq_true', beq_iff_eq] at h
  obtain ⟨⟨⟨⟨⟨⟨⟨⟨⟨⟨⟨⟨⟨⟨⟨⟨⟨⟨h1, h2⟩, h3⟩, h4⟩, h5⟩, h6⟩, h7⟩, h8⟩, h9⟩, hpy⟩, hpz⟩, hxy⟩, hxz⟩, hyz⟩, ha⟩, hb⟩, hc⟩, h10⟩, h11⟩ := h
  have k1 := isL_kind hs h7
  have k2 := isL_kind hs h8
  have k3 := isL_kind hs h9
  have kb := fun_kind hs hf
  have e2 : ([x, y, z].eraseDups).length = 3 := by
    have q1 : (y == x) = false := by simpa using fun e => hxy e.symm
    have q2 : (z == x) = false := by simpa using fun e => hxz e.symm
    have q3 : (z == y) = false := by simpa using fun e => hyz e.symm
    simp [List.eraseDups_cons, q1, q2, q3]
  unfold swappedStores
  simp only [kb, List.length_cons, List.length_nil, List.head?_cons, Option.map_some, Option.getD_some, List.filterMap_cons, k1, k2, k3, Expr.pos, hpy, hpz, e2, h10, h11]
  simp [e2, h10, h11]
  intro hh
  rcases hh with hh | hh | hh
  · cases a <;> first | exact Bool.noConfusion ha | exact Bool.noConfusion hh
  · cases b <;> first | exact Bool.noConfusion hb | exact Bool.noConfusion hh
  · cases c <;> first | exact Bool.noConfusion hc | exact Bool.noConfusion hh
/-- what a list of clauses does with an error of the class c -/
structure SndS (G : Pg) (P : List Fn) (is : Nat → Nat → Bool) (n : Nat) (s : Sm) : Prop where
  vS : ∀ {T : Tb} {B : Bk} {X : Cx} {W : WX} {st : Stmt}, SxOk G T P is n B X W → chkS G s B st = true → PS X st (SS T W (evS ⟨callN P is n, is⟩ s))
  vL : ∀ {T : Tb} {B : Bk} {X : Cx} {W : WX} {st : List Stmt}, SxOk G T P is n B X W → chkSs G s B st = true → PSs X st (SS T W (evS ⟨callN P is n, is⟩ s))
  vH : ∀ {T : Tb} {B : Bk} {X : Cx} {W : WX} {hds : List ExceptHandler}, SxOk G T P is n B X W → B.calm = true → chkH G s B hds = true →
    ∃ l, Hds X hds l ∧ ∀ (F : Ends) (c : Nat) (ρ : Pl) (S : Sto) (H : Hp) (σ : L2.St) (e : Lenv), Rl T ρ S H → EnvR T ρ S H σ e → PoS T W ρ S H F (evH ⟨callN P is n, is⟩ s c e S) → wAll X.K W F l (.ref (T.ca c)) none σ H

section
variable {G : Pg} {P : List Fn} {is : Nat → Nat → Bool} {n : Nat} {a b c : E} {sa sb : Sm}
theorem SndS.of {s : Sm} (hS : ∀ {T : Tb} {B : Bk} {X : Cx} {W : WX} {st : Stmt}, SxOk G T P is n B X W → chkS G s B st = true → PS X st (SS T W (evS ⟨callN P is n, is⟩ s)))
    (hL : ∀ B l, chkSs G s B l = false := by intros; rfl) (hH : ∀ B l, chkH G s B l = false := by intros; rfl) : SndS G P is n s :=
  ⟨hS, fun _ h => by rw [hL] at h; exact Bool.noConfusion h, fun _ _ h => by rw [hH] at h; exact Bool.noConfusion h⟩
theorem sole_not {v t : Expr} (h : ∀ x p, t ≠ .Name x p) (l : Nat) (env : Env) : swapsWithSole [t] v l env = pure false := sw_not h l env
theorem sd_nil : SndS G P is n .nil :=
  ⟨fun _ h => by simp only [chkS] at h; exact Bool.noConfusion h, fun cx h => by
    simp only [chkSs] at h
    split at h
    · exact s_nil
    · exact Bool.noConfusion h, fun _ _ h => by simp only [chkH] at h; exact Bool.noConfusion h⟩
theorem sd_cons (ha : SndS G P is n sa) (hb : SndS G P is n sb) : SndS G P is n (.cons sa sb) :=
  ⟨fun _ h => by simp only [chkS] at h; exact Bool.noConfusion h, fun cx h => by
    simp only [chkSs] at h
    split at h
    · simp only [Bool.and_eq_true] at h
      exact s_cons (ha.vS cx h.1) (hb.vL cx h.2)
    · exact Bool.noConfusion h, fun _ _ h => by simp only [chkH] at h; exact Bool.noConfusion h⟩
theorem sd_ret : SndS G P is n (.ret a) := .of fun cx h => by
  simp only [chkS] at h
  split at h
  · exact s_ret ((snd a).vE cx.cx h)
  · exact Bool.noConfusion h
theorem sd_set {i : Nat} : SndS G P is n (.set i a) := .of fun {T B X W st} cx h => by
  simp only [chkS] at h
  split at h
  · rename_i x p v pos
    simp only [Bool.and_eq_true] at h
    obtain ⟨g1, g2, g3⟩ := cx.cx.st h.1
    have h' := h.2
    clear h
    split at h'
    · rename_i e gs scope p2
      have h := h'
      clear h'
      simp only [Bool.and_eq_true] at h
      obtain ⟨hf, h⟩ := h
      have sw := sw_lc (e := e) (gs := gs) (s := scope) (p := p) (p2 := p2) (x := x) (l := pos.line) cx.cx.sc hf
      by_cases hq : swV B x p p2 scope = true
      · rw [if_pos hq] at h
        rw [hq] at sw
        simp only [Bool.and_eq_true] at h
        obtain ⟨⟨hc, h1⟩, h2⟩ := h
        cases a <;> simp only [isComp] at h1 <;> first | exact Bool.noConfusion h1 | skip
        simp only [chkE] at h2
        split at h2
        · rename_i heq
          cases heq
          have q := cmp_get cx.cx (snd _) (snd _) (snd _) h2
          have hl : isL B.sc x = true := by
            unfold swV at hq
            simp only [Bool.and_eq_true] at hq
            exact hq.1.1
          have z := s_setLc (p := p) (pos := pos) cx.cx.K q.calm cx.cx.nd g1 (cx.cx.isl hl) sw q.hi q.ok q.hg q.ht q.he q.hs q.hix
          rw [q.ix] at z
          exact z
        · exact Bool.noConfusion h2
      · rw [if_neg hq] at h
        rw [Bool.eq_false_iff.mpr hq] at sw
        exact s_set cx.cx.nd g1 g2 g3 ((snd a).vE cx.cx h) sw
    · simp only [Bool.and_eq_true] at h'
      exact s_set cx.cx.nd g1 g2 g3 ((snd a).vE cx.cx h'.2) (noComp_sw h'.1 _ _ _)
  · exact Bool.noConfusion h
theorem sd_asg {ts : List Nat} : SndS G P is n (.asg ts a) := .of fun {T B X W st} cx h => by
  simp only [chkS] at h
  split at h
  · simp only [Bool.and_eq_true] at h
    obtain ⟨⟨⟨h1, h2⟩, h3⟩, h4⟩ := h
    refine s_asg cx.cx.K (cx.cx.calm h1).1 (nms_get cx.cx h2) ((snd a).vE cx.cx h4) (sole_not (fun _ _ => by intro q; injection q) _ _) ?_
    rename_i v _
    cases v <;> first | rfl | exact Bool.noConfusion h3
  · exact Bool.noConfusion h
theorem sd_par {i j : Nat} : SndS G P is n (.par i j a b) := .of fun {T B X W st} cx h => by
  simp only [chkS] at h
  split at h
  · simp only [Bool.and_eq_true] at h
    obtain ⟨⟨⟨⟨h1, h2⟩, h3⟩, h4⟩, h5⟩ := h
    have hw := fun k1 k2 t1 t2 => sw2 (kt := k1) (k2 := k2) (pt := t1) (pt2 := t2) cx.cx.sc h2 h3
    unfold par2B at h3
    simp only [Bool.and_eq_true, decide_eq_true_eq] at h3
    obtain ⟨⟨⟨⟨⟨⟨⟨⟨⟨⟨g1, g2⟩, g3⟩, g4⟩, g5⟩, g6⟩, g7⟩, g8⟩, g9⟩, g10⟩, g11⟩ := h3
    exact s_par (cx.cx.calm h1).1 cx.cx.nd (cx.cx.N ▸ g1) (cx.cx.N ▸ g2) g3 (cx.cx.isl g4) (cx.cx.isl g5) ((snd a).vE cx.cx h4) ((snd b).vE cx.cx h5) (star_one g8) (star_one g9) (hw _ _ _ _)
  · exact Bool.noConfusion h
theorem sd_par3 {i j l : Nat} : SndS G P is n (.par3 i j l a b c) := .of fun {T B X W st} cx h => by
  simp only [chkS] at h
  split at h
  · simp only [Bool.and_eq_true] at h
    obtain ⟨⟨⟨⟨⟨h1, h2⟩, h3⟩, h4⟩, h5⟩, h6⟩ := h
    have hw := fun k1 k2 t1 t2 => sw3 (kt := k1) (k2 := k2) (pt := t1) (pt2 := t2) cx.cx.sc h2 h3
    unfold par3B at h3
    simp only [Bool.and_eq_true, decide_eq_true_eq] at h3
    obtain ⟨⟨⟨⟨⟨⟨⟨⟨⟨⟨⟨⟨⟨⟨⟨⟨⟨⟨g1, g2⟩, g3⟩, g4⟩, g5⟩, g6⟩, g7⟩, g8⟩, g9⟩, _⟩, _⟩, _⟩, _⟩, _⟩, ga⟩, gb⟩, gc⟩, _⟩, _⟩ := h3
    exact s_par3 (cx.cx.calm h1).1 cx.cx.nd (cx.cx.N ▸ g1) (cx.cx.N ▸ g2) (cx.cx.N ▸ g3) g4 g5 g6 (cx.cx.isl g7) (cx.cx.isl g8) (cx.cx.isl g9) ((snd a).vE cx.cx h4) ((snd b).vE cx.cx h5) ((snd c).vE cx.cx h6) (star_one ga) (star_one gb) (star_one gc) (hw _ _ _ _)
  · exact Bool.noConfusion h
theorem sd_setI {i : Nat} : SndS G P is n (.setI i a b) := .of fun {T B X W st} cx h => by
  simp only [chkS] at h
  split at h
  · rename_i x p3 k' p4 v pos
    simp only [Bool.and_eq_true] at h
    obtain ⟨⟨⟨h1, h2⟩, h3⟩, h4⟩ := h
    obtain ⟨g1, g2, g3, g4⟩ := cx.cx.var h1
    refine s_setI g1 g2 g3 g4 ((snd b).vE cx.cx h4) ((snd a).vE cx.cx h3) (sole_not (fun _ _ => by intro q; injection q) _ _) ?_ fun v => ?_
    · cases v <;> rfl
    · cases k' <;> first | rfl | exact Bool.noConfusion h2
  · exact Bool.noConfusion h
theorem sd_aug {i : Nat} {o : Op} : SndS G P is n (.aug i o a) := .of fun {T B X W st} cx h => by
  simp only [chkS] at h
  split at h
  · simp only [Bool.and_eq_true, decide_eq_true_eq] at h
    obtain ⟨⟨⟨rfl, h2⟩, h3⟩, h4⟩ := h
    obtain ⟨g1, g2, g3⟩ := cx.cx.st h3
    refine s_aug o ?_ cx.cx.nd g1 g2 g3 ((snd a).vE cx.cx h4)
    cases o <;> first | exact .inl rfl | exact .inr rfl | exact Bool.noConfusion h2
  · exact Bool.noConfusion h
theorem sd_ex : SndS G P is n (.ex a) := .of fun {T B X W st} cx h => by
  simp only [chkS] at h
  split at h
  · simp only [Bool.and_eq_true] at h
    exact s_ex ((snd a).vE cx.cx h.2) (noComp_sw h.1 _ _ _)
  · exact Bool.noConfusion h
theorem sd_ite (ha : SndS G P is n sa) (hb : SndS G P is n sb) : SndS G P is n (.ite c sa sb) := .of fun {T B X W st} cx h => by
  simp only [chkS] at h
  split at h
  · simp only [Bool.and_eq_true] at h
    exact s_ite ((snd c).vT cx.cx h.1.1) (ha.vL cx h.1.2) (hb.vL cx h.2)
  · exact Bool.noConfusion h
theorem sd_for {t : Tg} (ha : SndS G P is n sa) : SndS G P is n (.for_ t a sa) := .of fun {T B X W st} cx h => by
  simp only [chkS] at h
  split at h
  · simp only [Bool.and_eq_true] at h
    obtain ⟨⟨⟨⟨h1, h2⟩, h3⟩, h4⟩, h5⟩ := h
    exact s_for cx.cx.K cx.po (cx.cx.calm h1).1 ((snd a).vI cx.cx h2) (tg_get cx.cx h3) (ha.vL cx h5) (set_no h4 _)
  · exact Bool.noConfusion h
theorem sd_whl (ha : SndS G P is n sa) : SndS G P is n (.whl c sa) := .of fun {T B X W st} cx h => by
  simp only [chkS] at h
  split at h
  · simp only [Bool.and_eq_true] at h
    exact s_whl cx.po ((snd c).vT cx.cx h.1) (ha.vL cx h.2)
  · exact Bool.noConfusion h
theorem sd_brk : SndS G P is n .brk := .of fun {T B X W st} cx h => by
  simp only [chkS] at h
  split at h
  · exact s_brk
  · exact Bool.noConfusion h
theorem sd_cnt : SndS G P is n .cnt := .of fun {T B X W st} cx h => by
  simp only [chkS] at h
  split at h
  · exact s_cnt
  · exact Bool.noConfusion h
theorem sd_pass : SndS G P is n .pass := .of fun {T B X W st} cx h => by
  simp only [chkS] at h
  split at h
  · exact s_pass
  · exact Bool.noConfusion h
theorem sd_raise {k : Nat} : SndS G P is n (.raise k) := .of fun {T B X W st} cx h => by
  simp only [chkS] at h
  split at h
  · simp only [Bool.and_eq_true, decide_eq_true_eq] at h
    obtain ⟨⟨⟨h1, h2⟩, h3⟩, h4⟩ := h
    exact s_raise (cx.cx.calm h1).1 cx.cx.tk (cx.ex h1 _ _ h4) (cx.cx.gl h2) (okNm_ok h3).1
  · exact Bool.noConfusion h
end
end Ev

set_option Elab.async false
set_option linter.all false
set_option maxRecDepth 100000
set_option maxHeartbeats 4000000
/-! Ev, part P: the checker of statements is right (2): try; THE RULE. -/
namespace Ev
open PySem PySem.Spec PyProof.Rows L2

section
variable {T : Tb} {xa : Nat → Addr → Prop} {ρ ρ' : Pl} {S S' : Sto} {H H' : Hp} {σ : L2.St} {e : Lenv}
abbrev Tb.x (T : Tb) (xa : Nat → Addr → Prop) : Tb := ⟨T.K, T.fa, T.ca, xa⟩
mutual
theorem Rep.x0 (h0 : ∀ c a, ¬ T.xa c a) : ∀ (d : D) (v : V), Rep T ρ H d v → Rep (T.x xa) ρ H d v
  | .non, v, h => by simpa only [Rep] using h
  | .bl b, v, h => by simpa only [Rep] using h
  | .int i, v, h => by simpa only [Rep] using h
  | .str x, v, h => by simpa only [Rep] using h
  | .tup ds, v, h => by
    simp only [Rep] at h ⊢
    obtain ⟨a, vs, h1, h2, h3⟩ := h
    exact ⟨a, vs, h1, h2, Reps.x0 h0 ds vs h3⟩
  | .lst ds, v, h => by
    simp only [Rep] at h ⊢
    obtain ⟨a, vs, h1, h2, h3⟩ := h
    exact ⟨a, vs, h1, h2, Reps.x0 h0 ds vs h3⟩
  | .loc n, v, h => by simpa only [Rep] using h
  | .fn f, v, h => by simpa only [Rep] using h
  | .scr ns, v, h => by simpa only [Rep] using h
  | .exc c, v, h => by
    simp only [Rep] at h
    obtain ⟨a, _, h⟩ := h
    exact absurd h (h0 c a)
theorem Reps.x0 (h0 : ∀ c a, ¬ T.xa c a) : ∀ (ds : List D) (vs : List V), Reps T ρ H ds vs → Reps (T.x xa) ρ H ds vs
  | [], vs, h => by simpa only [Reps] using h
  | d :: ds, vs, h => by
    simp only [Reps] at h ⊢
    obtain ⟨v, r, h1, h2, h3⟩ := h
    exact ⟨v, r, h1, Rep.x0 h0 d v h2, Reps.x0 h0 ds r h3⟩
end
theorem cut_sub {n : Nat} : ∀ (m : Nat) (a : Addr), (ρ.cut n).l[m]? = some a → ρ.l[m]? = some a := fun m a h => by
  have h : (ρ.l.take n)[m]? = some a := h
  rw [List.getElem?_take] at h
  split at h
  · exact h
  · cases h
theorem Rep.nox {T T' : Tb} {n : Nat} {d : D} {v : V} (hK : T.K = T'.K) (hf : T.fa = T'.fa) (f : d.fits n = true) (h : Rep T ρ H d v) : Rep T' ρ H d v :=
  Rep.mono (cut_sub (n := n)) (Same.refl _) d v (Rep.cut hK hf d v f h)
theorem Reps.nox {T T' : Tb} {n : Nat} {d : List D} {v : List V} (hK : T.K = T'.K) (hf : T.fa = T'.fa) (f : D.fitsL n d = true) (h : Reps T ρ H d v) : Reps T' ρ H d v :=
  Reps.mono (cut_sub (n := n)) (Same.refl _) d v (Reps.cut hK hf d v f h)
theorem Rl.nox {T T' : Tb} (hK : T.K = T'.K) (hf : T.fa = T'.fa) (r : Rl T ρ S H) : Rl T' ρ S H :=
  ⟨r.len, r.inj, r.dom, r.nh, r.hd, fun n xs e => by
    obtain ⟨a, vs, h1, h2, h3, h4⟩ := r.at_ n xs e
    exact ⟨a, vs, h1, h2, h3.nox hK hf h4, h4⟩⟩
theorem EnvR.x0 (h0 : ∀ c a, ¬ T.xa c a) (h : EnvR T ρ S H σ e) : EnvR (T.x xa) ρ S H σ e := ⟨h.len, fun i d q => by
  obtain ⟨v, e1, e2⟩ := h.at_ i d q
  exact ⟨v, e1, Rep.x0 h0 d v e2⟩⟩
theorem EnvR.nox {T T' : Tb} {n : Nat} (hK : T.K = T'.K) (hf : T.fa = T'.fa) (f : e.all (fun o => match o with | some d => d.fits n | none => true) = true) (h : EnvR T ρ S H σ e) : EnvR T' ρ S H σ e := ⟨h.len, fun i d q => by
  obtain ⟨v, e1, e2⟩ := h.at_ i d q
  exact ⟨v, e1, e2.nox hK hf (List.all_eq_true.mp f (some d) (List.mem_of_getElem? q))⟩⟩

/-- what a suite leaves, told outside -/
theorem PoS.out {W : WX} {F : Ends} {o : OutS} (xa : Nat → Addr → Prop) (h : PoS T W ρ S H F (outH o)) : PoS (T.x xa) W0 ρ S H F o := by
  cases o with
  | nx e S' =>
    unfold outH at h
    simp only at h
    split at h
    · rename_i hf
      exact fun ρ' H' σ' r s q => h ρ' H' σ' (Rl.nox (T := T.x xa) (T' := T) rfl rfl r) s (EnvR.nox (T := T.x xa) (T' := T) rfl rfl hf q)
    · exact False.elim h
  | rt d S' =>
    unfold outH at h
    simp only at h
    split at h
    · rename_i hf
      exact fun ρ' H' v r s q => h ρ' H' v (Rl.nox (T := T.x xa) (T' := T) rfl rfl r) s (Rep.nox (T := T.x xa) (T' := T) rfl rfl hf q)
    · exact False.elim h
  | bk e S' => exact False.elim h
  | ct e S' => exact False.elim h
  | err c e S' => exact False.elim h
  | bad => exact False.elim h
theorem PoS.gone {T : Tb} {W : WX} {F : Ends} {i : Nat} {o : OutS} (h : PoS T W ρ S H F (outH (unsl i o))) : ∀ xa, PoS (T.x xa) W0 ρ S H (gone i F) o := fun xa => by
  cases o with
  | nx e S' =>
    have h := PoS.out xa h
    exact fun ρ' H' σ' r s q => h ρ' H' (σ'.set i none) r s (q.forget i none)
  | rt d S' =>
    have h2 := PoS.out (F := F) (o := .rt d S') xa h
    exact h2
  | bk e S' => exact False.elim h
  | ct e S' => exact False.elim h
  | err c e S' => exact False.elim h
  | bad => exact False.elim h
end

section
variable {G : Pg} {P : List Fn} {is : Nat → Nat → Bool} {n : Nat} {T : Tb} {B : Bk} {X : Cx} {W : WX} {sa sb : Sm}
theorem SxOk.tr (cx : SxOk G T P is n B X W) {pn : List (Addr × Obj)} {xe : Value → Shared → Prop} {W' : WX} (tk : Takes (X.tr pn xe) W') (po : PassesOwn (model X.prog X.w) X.A X.env xe) (hB : B.calm = true) : SxOk G T P is n B (X.tr pn xe) W' where
  cx := ⟨cx.cx.N, cx.cx.nd, cx.cx.sc, cx.cx.fn, cx.cx.K, cx.cx.calm, cx.cx.un, tk, cx.cx.free, cx.cx.gcd, fun hc f d h => ⟨(cx.cx.df hc f d h).ex⟩, cx.cx.fm, cx.cx.xn, fun c a h => absurd h (cx.cx.xn hB c a), cx.cx.bs, cx.cx.fs⟩
  po := po
  stk := cx.stk
  ex := fun hc c x h => ⟨(cx.ex hc c x h).mg, (cx.ex hc c x h).ex, (cx.ex hc c x h).kp, (cx.ex hc c x h).rs⟩
  em := cx.em
  xc := cx.xc
  kb := cx.kb
theorem SxOk.suite (cx : SxOk G T P is n B X W) (hB : B.calm = true) (h0 : 0 < G.exc.length) {a : Addr} {oe : Obj} {pn : List (Addr × Obj)} {c : Nat} (hz : Zc (.ref (T.ca c)) none oe) (hf : ∃ vs, oe.data = .fields vs) :
    SxOk G (T.x fun c' a' => c' = c ∧ a' = a) P is n B.hot (X.suite a ((a, oe) :: pn)) W0 where
  cx := ⟨cx.cx.N, cx.cx.nd, cx.cx.sc, cx.cx.fn, cx.cx.K, fun h => Bool.noConfusion h, cx.cx.un, fun u s' ⟨_, _, _, _, _, _, _, _, _, _, _, _, _, _, _, _, w⟩ => w, cx.cx.free, cx.cx.gcd, fun h => Bool.noConfusion h, cx.cx.fm, fun h => Bool.noConfusion h,
    fun c' a' h => by
      obtain ⟨rfl, rfl⟩ := h
      exact call_isE (cx.xc hB h0 c') hz hf,
    fun k s h => by
      obtain ⟨b1, b2, b3, b4, _⟩ := cx.cx.bs k s h
      exact ⟨b1, b2, b3, b4, fun c' _ => cx.kb hB h0 c' k s h⟩, cx.cx.fs⟩
  po := PassesOwn.never
  stk := fun h => Bool.noConfusion h
  ex := fun h => Bool.noConfusion h
  em := fun h => Bool.noConfusion h
  xc := fun h => Bool.noConfusion h
  kb := fun h => Bool.noConfusion h
theorem sd_hnil : SndS G P is n .hnil :=
  ⟨fun _ h => by simp only [chkS] at h; exact Bool.noConfusion h, fun _ h => by simp only [chkSs] at h; exact Bool.noConfusion h, fun cx hc h => by
    simp only [chkH] at h
    split at h
    · refine ⟨[], .nil, fun F c ρ S H σ e hR hE hp => ?_⟩
      simp only [evH] at hp
      exact hp ρ H σ hR .refl hE
    · exact Bool.noConfusion h⟩
theorem sd_hcons {k : Nat} {i : Option Nat} (hb : SndS G P is n sa) (hr : SndS G P is n sb) : SndS G P is n (.hcons k i sa sb) :=
  ⟨fun _ h => by simp only [chkS] at h; exact Bool.noConfusion h, fun _ h => by simp only [chkSs] at h; exact Bool.noConfusion h, fun {T B X W hds} cx hc h => by
    simp only [chkH] at h
    split at h
    · rename_i x np m b0 suite pos' hds
      simp only [Bool.and_eq_true, decide_eq_true_eq] at h
      obtain ⟨⟨⟨⟨⟨⟨_, h2⟩, h3⟩, h4⟩, h5⟩, h6⟩, h7⟩ := h
      obtain ⟨l, hl, hw⟩ := hr.vH cx hc h7
      have X1 := cx.ex hc k x h4
      let ts : Addr → Value → Option Addr → TS := fun a cls d F σ H => ∃ c, cls = .ref (T.ca c) ∧ d = none ∧ SS (T.x fun c' a' => c' = c ∧ a' = a) W0 (evS ⟨callN P is n, is⟩ sa) F σ H
      refine ⟨(.ref (T.ca k), i, ts) :: l, .cons ⟨cx.cx.gl h2, (okNm_ok h3).1, .inl X1.mg⟩ ?_ (fun a oe cls d pn hz hf => ?_) hl, fun F c ρ S H σ e hR hE hp => ?_⟩
      · cases i <;> cases m <;> simp only at h5 <;> first | exact Bool.noConfusion h5 | skip
        · exact trivial
        · simp only [Bool.and_eq_true, decide_eq_true_eq] at h5
          exact ⟨cx.cx.nd, cx.cx.N ▸ h5.1, cx.cx.isl h5.2⟩
      · refine ⟨fun pins s σ H F I ht => ?_⟩
        obtain ⟨c, rfl, rfl, ht⟩ := ht
        exact (hb.vL (cx.suite hc (Nat.lt_of_le_of_lt (Nat.zero_le _) (List.getElem?_eq_some_iff.mp h4).1) hz hf) h6).run pins s σ H F I ht
      · simp only [evH] at hp
        refine ⟨is c k, cx.em hc c k x h4, fun hy a ha => ?_, fun hn => ?_⟩
        · rw [if_pos hy] at hp
          have hR' := Rl.nox (T := T) (T' := T.x fun c' a' => c' = c ∧ a' = a) rfl rfl hR
          have hE' := EnvR.x0 (xa := fun c' a' => c' = c ∧ a' = a) (cx.cx.xn hc) hE
          cases i with
          | none => exact ⟨c, rfl, rfl, ρ, e, S, hR', hE', PoS.out _ hp⟩
          | some i =>
            refine ⟨c, rfl, rfl, ρ, _, S, hR', hE'.set (d := .exc c) (v := .ref a) ?_, PoS.gone hp _⟩
            unfold Rep
            exact ⟨a, rfl, rfl, rfl⟩
        · rw [if_neg (by rw [hn]; exact Bool.false_ne_true)] at hp
          exact hw F c ρ S H σ e hR hE hp
    · exact Bool.noConfusion h⟩
theorem sd_try (hb : SndS G P is n sa) (hh : SndS G P is n sb) : SndS G P is n (.try_ sa sb) := .of fun {T B X W st} cx h => by
  simp only [chkS] at h
  split at h
  · simp only [Bool.and_eq_true] at h
    obtain ⟨⟨h1, h2⟩, h3⟩ := h
    obtain ⟨l, hl, hw⟩ := hh.vH cx h1 h3
    obtain ⟨k1, k2⟩ := cx.stk h1
    refine PSi (ps_try_all (tb := fun W' => SS T W' (evS ⟨callN P is n, is⟩ sa)) k1 k2 cx.cx.tk (fun W' pn xe tk po => hb.vL (cx.tr tk po h1) h2) hl) fun F σ H ⟨ρ, e, S, hR, hE, hp⟩ => ⟨ρ, e, S, hR, hE, ?_⟩
    simp only [evS] at hp
    cases ho : evS ⟨callN P is n, is⟩ sa e S with
    | err c e2 S2 =>
      rw [ho] at hp
      exact fun ρ' H' σ' r s q => hw F c ρ' S2 H' σ' e2 r q (PoS.stp s hp)
    | nx e2 S2 => rw [ho] at hp; exact hp
    | rt d S2 => rw [ho] at hp; exact hp
    | bk e2 S2 => rw [ho] at hp; exact hp
    | ct e2 S2 => rw [ho] at hp; exact hp
    | bad => rw [ho] at hp; exact hp
  · exact Bool.noConfusion h

/-- THE RULE of statements -/
theorem sds : ∀ s : Sm, SndS G P is n s
  | .nil => sd_nil
  | .cons a r => sd_cons (sds a) (sds r)
  | .ret a => sd_ret
  | .set i a => sd_set
  | .asg ts a => sd_asg
  | .par i j a b => sd_par
  | .par3 i j l a b c => sd_par3
  | .setI i k a => sd_setI
  | .aug i o a => sd_aug
  | .ex a => sd_ex
  | .ite c a b => sd_ite (sds a) (sds b)
  | .for_ t it b => sd_for (sds b)
  | .whl c b => sd_whl (sds b)
  | .brk => sd_brk
  | .cnt => sd_cnt
  | .pass => sd_pass
  | .raise c => sd_raise
  | .try_ b hs => sd_try (sds b) (sds hs)
  | .hnil => sd_hnil
  | .hcons k i b r => sd_hcons (sds b) (sds r)
end
end Ev

set_option Elab.async false
set_option linter.all false
set_option maxRecDepth 100000
set_option maxHeartbeats 4000000
/-! Ev, part Q: defs by depth. -/
namespace Ev
open PySem PySem.Spec PyProof.Rows L2

mutual
theorem D.fits_mono {n m : Nat} (h : n ≤ m) : ∀ {d : D}, d.fits n = true → d.fits m = true
  | .non, _ => rfl
  | .bl _, _ => rfl
  | .int _, _ => rfl
  | .str _, _ => rfl
  | .tup xs, q => by
    simp only [D.fits] at q ⊢
    exact D.fitsL_mono h q
  | .lst xs, q => by
    simp only [D.fits] at q ⊢
    exact D.fitsL_mono h q
  | .loc k, q => by
    simp only [D.fits, decide_eq_true_eq] at q ⊢
    omega
  | .fn _, _ => rfl
  | .scr _, _ => rfl
  | .exc _, q => by
    simp only [D.fits] at q
    exact Bool.noConfusion q
theorem D.fitsL_mono {n m : Nat} (h : n ≤ m) : ∀ {d : List D}, D.fitsL n d = true → D.fitsL m d = true
  | [], _ => rfl
  | x :: xs, q => by
    simp only [D.fitsL, Bool.and_eq_true] at q ⊢
    exact ⟨D.fits_mono h q.1, D.fitsL_mono h q.2⟩
end
section
variable {T : Tb} {ρ ρ' : Pl} {S S' : Sto} {H H' : Hp} {n : Nat}
theorem alv_cut {b : Addr} (h : Alv (ρ.cut n) (S.take n) b) : Alv ρ S b := by
  rcases h with h | ⟨m, xs, h1, h2⟩
  · exact .inl h
  · refine .inr ⟨m, xs, cut_sub m b h1, ?_⟩
    rw [List.getElem?_take] at h2
    split at h2
    · exact h2
    · cases h2
theorem vis_cut : Same (vis ρ S H) (vis (ρ.cut n) (S.take n) H) := fun b u h => by
  obtain ⟨h1, h2⟩ := of_vis h
  exact vis_of h1 fun k => h2 (alv_cut k)
theorem Rl.cut (r : Rl T ρ S H) : Rl T (ρ.cut n) (S.take n) H := by
  refine ⟨?_, fun m k a h1 h2 => r.inj m k a (cut_sub m a h1) (cut_sub k a h2), fun m a h => r.dom m a (cut_sub m a h), fun m a h => r.nh m a (cut_sub m a h), r.hd, fun m xs h => ?_⟩
  · show (ρ.l.take n).length = (S.take n).length
    rw [List.length_take, List.length_take, r.len]
  · rw [List.getElem?_take] at h
    split at h
    · rename_i hm
      obtain ⟨a, vs, h1, h2, h3, h4⟩ := r.at_ m xs h
      refine ⟨a, vs, ?_, h2, ?_, h4⟩
      · show (ρ.l.take n)[m]? = some a
        rw [List.getElem?_take, if_pos hm]
        exact h1
      · have h5 : Reps T (ρ.cut n) (vis ρ S H) xs vs := by
          have h6 : D.fitsL n xs = true := D.fitsL_mono (Nat.le_of_lt hm) h4
          exact Reps.cut rfl rfl xs vs h6 h3
        exact Reps.mono (fun _ _ z => z) vis_cut xs vs h5
    · cases h
theorem Stp.cut (s : Stp ρ S H ρ' S' H') (r : Rl T ρ S H) : Stp ρ S H (ρ'.cut S.length) (S'.take S.length) H' :=
  ⟨fun m a h => by
    show (ρ'.l.take S.length)[m]? = some a
    rw [List.getElem?_take, if_pos]
    · exact s.ext m a h
    · rw [← r.len]
      exact (List.getElem?_eq_some_iff.mp h).1, s.sm.trans vis_cut, s.dm, s.hh, s.hk⟩
/-- what a def's end tells its caller -/
theorem Po.fin {T : Tb} {ρ : Pl} {S : Sto} {H : Hp} {We : Nat → Hp → Prop} {Q : VK} {o : OutS} (r : Rl T ρ S H) (h : Po T (RD T) ρ S H We Q (endF S.length o)) :
    PoS T (fun cls d _ H' => (∃ c, cls = .ref (T.ca c) ∧ We c H') ) ρ S H { nx := fun _ H' => Q .non H', rt := Q } o := by
  cases o with
  | rt d S' =>
    intro ρ' H' v r' s q
    unfold endF Ev.fin at h
    simp only at h
    split at h
    · rename_i hf
      refine h _ H' v r'.cut (s.cut r) ?_
      exact Rep.mono (fun _ _ z => z) vis_cut d v (Rep.cut rfl rfl d v hf q)
    · exact h ρ' H' v r' s q
  | nx e S' =>
    intro ρ' H' σ' r' s q
    unfold endF Ev.fin at h
    simp only [D.fits] at h
    refine h _ H' .non r'.cut (s.cut r) ?_
    simp only [Rep]
  | err c e S' =>
    intro ρ' H' σ' r' s q
    exact ⟨c, rfl, h _ H' r'.cut (s.cut r)⟩
  | bk e S' => exact False.elim h
  | ct e S' => exact False.elim h
  | bad => exact False.elim h
end

/-- a def by its text -/
structure Df where
  qual : Str
  params : Arguments
  body : List Stmt
  scope : Scope
  N : List Str
def okD (G : Pg) (d : FnD) (F : Fn) (f : Df) : Bool :=
  C8.scC f.N d.ps f.scope && plainP f.params && decide (f.params.args.map (·.arg) = d.ps) && decide d.ps.Nodup && decide (F.np = d.ps.length) && decide (F.nl = f.N.length) && chkSs G F.body ⟨f.N, f.scope, fun _ => true, true⟩ f.body
/-- the top, as it stands -/
structure MdOk (G : Pg) (T : Tb) (Fs : List Fn) (is : Nat → Nat → Bool) (mg : Str → Option Value) : Prop where
  free : ∀ x ∈ G.free, mg x = none
  gcd : G.gcd = true → mg "gcd" = some (.builtin "math.gcd")
  xn : ∀ c a, ¬ T.xa c a
  fs : ∀ (g : Nat) (A : Addr), T.fa g = some A → ∃ d, G.fns[g]? = some d ∧ mg d.name = some (.ref A)
  bs : ∀ (k : Nat) (s : String), G.bas[k]? = some s → mg (Str.ofString s) = none ∧ bootBuiltins (Str.ofString s) = some (.type s) ∧ Str.ofString s ≠ "__name__" ∧ (Str.ofString s == ("__debug__" : Str)) = false
  kb : 0 < G.exc.length → ∀ (c k : Nat) (s : String), G.bas[k]? = some s → PySem.W.kitOne T.K (.ref (T.ca c)) (.type s) = some (is c (1000 + k))
  emg : ∀ (c : Nat) (x : Str), G.exc[c]? = some x → mg x = some (.ref (T.ca c)) ∧ PySem.W.excIn T.K (T.ca c) [.type "ValueError", .type "Exception", .type "BaseException", .type "object"] "ValueError.__new__" = true ∧ PySem.W.keepIn T.K (.ref (T.ca c)) = true
  ers : ∀ (c : Nat) (x : Str), G.exc[c]? = some x → PySem.W.subIn T.K (.ref (T.ca c)) (.type "BaseException") = some true ∧ PySem.W.typeIn T.K (.ref (T.ca c)) = some (.type "type")
  em : ∀ (c k : Nat) (x : Str), G.exc[k]? = some x → PySem.W.exmOne T.K (.ref (T.ca c)) (.ref (T.ca k)) = some (is c k)
  xc : 0 < G.exc.length → ∀ c, ExcC T.K (T.ca c)
  fn : ∀ (f : Nat) (d : FnD), G.fns[f]? = some d → ∃ (A : Addr) (fd : FuncData) (t : Df) (F : Fn), mg d.name = some (.ref A) ∧ T.fa f = some A ∧ FunD T.K d.name t.qual t.params t.body t.scope [] [] A fd ∧ Fs[f]? = some F ∧ okD G d F t = true

/-- the defs stand, n calls deep -/
def FnsAt (G : Pg) (T : Tb) (Fs : List Fn) (is : Nat → Nat → Bool) (mg : Str → Option Value) (P : Program) (w : World) (base : Heap) (n : Nat) : Prop :=
  ∀ f d, G.fns[f]? = some d → ∃ (A : Addr) (fd : FuncData), mg d.name = some (.ref A) ∧ T.fa f = some A ∧ PySem.W.keepIn T.K (.ref A) = true ∧ FnOk P w T.K mg base (L2.CX P w) n A fd d.ps (spF T Fs is n f) ∧
    plainP fd.params = true ∧ fd.params.args.map (·.arg) = d.ps ∧ fd.defaults = .none ∧ d.ps.Nodup ∧ ∃ oc od osl, T.K.lookup A = some ⟨oc, od, .func fd, osl⟩

section
variable {G : Pg} {T : Tb} {Fs : List Fn} {is : Nat → Nat → Bool} {mg : Str → Option Value} {P : Program} {w : World} {base : Heap} {n : Nat}
theorem sx_of (M : MdOk G T Fs is mg) (hF : FnsAt G T Fs is mg P w base n) {N : List Str} {qual : Str} {scope : Scope} {f : Addr} {cdv : Value} {A : Around} {outer : List Env} {s : Shared} {H : Hp} {E : XK} (nd : N.Nodup)
    (hr : Room n (A.deeper (envOfC qual scope s.heap.objs.size f cdv))) : SxOk G T Fs is n ⟨N, scope, fun _ => true, true⟩ (cxOf (L2.CX P w) P w T.K mg base N qual scope f cdv A outer s H E) (fun cls d _ H' => E cls d H') where
  cx := {
    N := rfl
    nd := nd
    sc := rfl
    fn := fun _ h => h
    K := rfl
    calm := fun _ => ⟨rfl, hr⟩
    un := by have := hr.un; show (A.deeper _).units + 64 < _; omega
    tk := takes_of rfl rfl rfl rfl
    free := M.free
    gcd := M.gcd
    df := fun _ g d h => by
      obtain ⟨B, fd, h1, h2, h3, h4, h5, h6, h7, h8, _⟩ := hF g d h
      exact ⟨B, fd, h1, h2, h3, h4, h5, h6, h7, h8⟩
    fm := fun g d h => by
      obtain ⟨B, fd, h1, h2, _⟩ := hF g d h
      exact ⟨B, h1, h2⟩
    xn := fun _ => M.xn
    xx := fun c a h => absurd h (M.xn c a)
    bs := fun k s h => by
      obtain ⟨b1, b2, b3, b4⟩ := M.bs k s h
      exact ⟨b1, b2, b3, b4, fun c ⟨a, h⟩ => absurd h (M.xn c a)⟩
    fs := M.fs }
  po := passes_of rfl
  stk := fun _ => ⟨rfl, rfl⟩
  ex := fun _ c x h => by
    obtain ⟨h1, h2, h3⟩ := M.emg c x h
    exact ⟨h1, h2, h3, raises_own (M.ers c x h).1 (M.ers c x h).2⟩
  em := fun _ => M.em
  xc := fun _ => M.xc
  kb := fun _ => M.kb
theorem spF_len {f : Nat} {d : FnD} {F : Fn} (hF : Fs[f]? = some F) (hn : F.np = d.ps.length) {vs : List V} {H : Hp} {Q : VK} {E : XK} (h : spF T Fs is n f vs H Q E) : vs.length = d.ps.length := by
  obtain ⟨ρ, S, ds, hR, hr, hp⟩ := h
  cases n with
  | zero => exact False.elim hp
  | succ n =>
    unfold callN at hp
    rw [hF] at hp
    simp only at hp
    split at hp
    · rename_i hl
      rw [hr.length, hl, hn]
    · exact False.elim hp
/-- THE RULE of defs -/
theorem fns_ok (M : MdOk G T Fs is mg) : ∀ n, FnsAt G T Fs is mg P w base n := by
  intro n
  induction n with
  | zero =>
    intro f d hd
    obtain ⟨A, fd, t, F, h1, h2, h3, h4, h5⟩ := M.fn f d hd
    unfold okD at h5
    simp only [Bool.and_eq_true, decide_eq_true_eq] at h5
    obtain ⟨⟨⟨⟨⟨⟨c1, c2⟩, c3⟩, c4⟩, c5⟩, c6⟩, c7⟩ := h5
    obtain ⟨oc, od, dV, kV, doc, pm, an, cdv, ct, osl, rfl, lk, hcd, hdv, _⟩ := id h3.ex
    have hdn : dV = .none := by
      rcases hdv with ⟨_, e⟩ | ⟨e, _⟩
      · exact e
      · exact absurd rfl e
    refine ⟨A, PySem.W.fnOf d.name t.qual t.params t.body t.scope dV kV doc pm an cdv ct, h1, h2, h3.kp, ⟨fun vs H Q E h => spF_len h4 c5 h, fun A outer s H args us vs Q E hr he hb hv h => ?_⟩, c2, c3, by exact hdn, c4, _, _, _, lk⟩
    obtain ⟨ρ, S, ds, _, _, hp⟩ := h
    exact False.elim hp
  | succ n ih =>
    intro f d hd
    obtain ⟨A, fd, t, F, h1, h2, h3, h4, h5⟩ := M.fn f d hd
    unfold okD at h5
    simp only [Bool.and_eq_true, decide_eq_true_eq] at h5
    obtain ⟨⟨⟨⟨⟨⟨c1, c2⟩, c3⟩, c4⟩, c5⟩, c6⟩, c7⟩ := h5
    have S0 := C8.fnScope_by c1
    obtain ⟨oc, od, dV, kV, doc, pm, an, cdv, ct, osl, rfl, lk, hcd, hdv, _⟩ := id h3.ex
    have hdn : dV = .none := by
      rcases hdv with ⟨_, e⟩ | ⟨e, _⟩
      · exact e
      · exact absurd rfl e
    refine ⟨A, _, h1, h2, h3.kp, h3.ok S0 (fun vs H Q E h => spF_len h4 c5 h) fun cdv A' outer s H vs Q E hr h => ?_, c2, c3, hdn, c4, _, _, _, lk⟩
    have hlen := spF_len h4 c5 h
    obtain ⟨ρ, S, ds, hR, hrep, hp⟩ := h
    refine ⟨_, (sds F.body).vL (sx_of M ih S0.nd hr) c7, ρ, ds.map some ++ List.replicate (F.nl - F.np) none, S, hR, ⟨?_, ?_⟩, ?_⟩
    · unfold L2.start
      simp only [List.length_append, List.length_map, List.length_replicate, hrep.length, c5, c6]
      rw [← hrep.length, hlen]
    · intro i x hx
      unfold L2.start
      by_cases hi : i < ds.length
      · rw [List.getElem?_append_left (by simpa using hi), List.getElem?_map] at hx
        cases hq : ds[i]? with
        | none => rw [hq] at hx; cases hx
        | some y =>
          rw [hq] at hx
          cases hx
          obtain ⟨v, e1, e2⟩ := hrep.get hq
          refine ⟨v, ?_, e2⟩
          have hv : i < vs.length := by rw [hrep.length]; exact hi
          rw [List.getElem?_append_left (by simpa using hv), List.getElem?_map, e1]
          rfl
      · rw [List.getElem?_append_right (by simpa using hi), List.getElem?_replicate] at hx
        split at hx <;> cases hx
    · unfold callN at hp
      rw [h4] at hp
      simp only at hp
      split at hp
      · have q := Po.fin hR hp
        generalize evS _ F.body _ S = o at q
        cases o with
        | err c e S' =>
          intro ρ' H' σ' r s z
          obtain ⟨c', e1, e2⟩ := q ρ' H' σ' r s z
          rw [e1]
          exact e2
        | nx e S' => exact q
        | rt d S' => exact q
        | bk e S' => exact q
        | ct e S' => exact q
        | bad => exact q
      · exact False.elim hp
end
end Ev

set_option Elab.async false
set_option linter.all false
set_option maxRecDepth 100000
set_option maxHeartbeats 4000000
/-! Ev, part R: the top, by one look. -/
namespace Ev
open PySem PySem.Spec PyProof.Rows L2

/-- classes by number; one beyond them stands for the first -/
def nmX (G : Pg) (c : Nat) : Str := G.exc.getD c (G.exc.headD "")
def nX (G : Pg) (c : Nat) : Nat := if c < G.exc.length then c else 0
def tbOf (G : Pg) (K : PySem.W.Frag) : Tb := ⟨K, fun f => (G.fns[f]?).map fun d => He.ga K d.name, fun c => He.ga K (nmX G c), fun _ _ => False⟩
def isOf (G : Pg) (m : List (List Bool)) (b : List (List Bool)) : Nat → Nat → Bool := fun c k => if k < 1000 then (m.getD (nX G c) []).getD k false else (b.getD (nX G c) []).getD (k - 1000) false
def excC (K : PySem.W.Frag) (D : Addr) : Bool :=
  decide (PySem.W.findIn K (.ref D) "__getattribute__" = some (some (.builtin "BaseException.__getattribute__"))) && decide (PySem.W.findIn K (.ref D) "__getattr__" = some none) && decide (PySem.W.subIn K (.ref D) (.type "BaseException") = some true) && PySem.W.hasDictIn K D &&
  decide (PySem.W.findIn K (.ref D) "__class__" = some (some (.builtin "object.__class__"))) && decide (PySem.W.specialIn K (.builtin "object.__class__") "__get__" = some (some (.builtin "getset_descriptor.__get__"))) && decide (PySem.W.takesIn K (.builtin "object.__class__") = some true) && decide (PySem.W.mroIn K D (.type "object") = some true)
theorem excC_ok {K : PySem.W.Frag} {D : Addr} (h : excC K D = true) : ExcC K D := by
  unfold excC at h
  simp only [Bool.and_eq_true, decide_eq_true_eq] at h
  obtain ⟨⟨⟨⟨⟨⟨⟨h1, h2⟩, h3⟩, h4⟩, h5⟩, h6⟩, h7⟩, h8⟩ := h
  exact ⟨h1, h2, h3, h4, h5, h6, h7, h8⟩
/-- the look at the top -/
def topOk (G : Pg) (m b : List (List Bool)) (K : PySem.W.Frag) : Bool :=
  G.free.all (fun x => decide (PySem.W.nsIn K mainGlobals x = some none)) && G.bas.all (fun s => decide (PySem.W.nsIn K mainGlobals (Str.ofString s) = some none)) &&
  (!G.gcd || decide (PySem.W.nsIn K mainGlobals "gcd" = some (some (.builtin "math.gcd")))) &&
  G.fns.all (fun d => decide (PySem.W.nsIn K mainGlobals d.name = some (some (.ref (He.ga K d.name))))) &&
  (List.range G.exc.length).all fun c => decide (PySem.W.nsIn K mainGlobals (nmX G c) = some (some (.ref (He.ga K (nmX G c))))) &&
    PySem.W.excIn K (He.ga K (nmX G c)) [.type "ValueError", .type "Exception", .type "BaseException", .type "object"] "ValueError.__new__" && PySem.W.keepIn K (.ref (He.ga K (nmX G c))) &&
    decide (PySem.W.subIn K (.ref (He.ga K (nmX G c))) (.type "BaseException") = some true) && decide (PySem.W.typeIn K (.ref (He.ga K (nmX G c))) = some (.type "type")) && excC K (He.ga K (nmX G c)) &&
    (List.range G.exc.length).all (fun k => decide (PySem.W.exmOne K (.ref (He.ga K (nmX G c))) (.ref (He.ga K (nmX G k))) = some (isOf G m b c k))) &&
    (List.range G.bas.length).all (fun k => decide (PySem.W.kitOne K (.ref (He.ga K (nmX G c))) (.type (G.bas.getD k "")) = some (isOf G m b c (1000 + k))))
def hookX (n : Nat) (G : Pg) (m b : List (List Bool)) (fn : List He.DefD) : PySem.W.Hook where
  α := Bool × He.AlD
  obs := fun s => (topOk G m b (He.frG s.heap.get? (He.asD s.heap.get? n)), He.obsDG n [] fn s.heap.get?)
  val := fun _ => (true, He.valD fn)
  says := fun _ h => ∃ K : PySem.W.Frag, K.In h ∧ topOk G m b K = true ∧ He.SaysD [] fn K
  of := fun _ _ e => ⟨_, He.frG_in, (Prod.mk.inj e).1, (Prod.mk.inj e).2⟩
  keeps := fun _ _ _ ⟨K, hK, c⟩ k => ⟨K, PySem.W.Frag.In.keeps hK k, c⟩
def obX (n : Nat) (G : Pg) (m b : List (List Bool)) (fn : List He.DefD) (s : PySem.W.SharedT) : Bool × He.AlD := (topOk G m b (He.frG (HandSHeadRun.getT s) (He.asD (HandSHeadRun.getT s) n)), He.obsDG n [] fn (HandSHeadRun.getT s))
theorem obX_eq (n : Nat) (G : Pg) (m b : List (List Bool)) (fn : List He.DefD) (s : PySem.W.SharedT) : obX n G m b fn s = (hookX n G m b fn).obs s.abs := by
  have e : HandSHeadRun.getT s = s.abs.heap.get? := funext (HandSHeadRun.getT_eq s)
  unfold obX
  rw [e]
  rfl
def ddOf (d : FnD) (t : Df) : He.DefD := ⟨(d.name, none), d.name, t.qual, t.params, t.body, t.scope, [], []⟩
/-- defs, texts, and what one says of them -/
def tabOk (G : Pg) (Fs : List Fn) (Ds : List Df) : Bool := decide (Fs.length = G.fns.length) && decide (Ds.length = G.fns.length) && (List.range G.fns.length).all fun k => match G.fns[k]?, Fs[k]?, Ds[k]? with
  | some d, some F, some t => okD G d F t
  | _, _, _ => false
def fnOf (G : Pg) (Ds : List Df) : List He.DefD := (G.fns.zip Ds).map fun q => ddOf q.1 q.2
theorem nmX_nX (G : Pg) (c : Nat) : nmX G (nX G c) = nmX G c := by
  unfold nX
  split
  · rfl
  · rename_i h
    unfold nmX
    rw [List.getD_eq_getElem?_getD, List.getD_eq_getElem?_getD, List.getElem?_eq_none (Nat.le_of_not_lt h)]
    cases G.exc <;> rfl
theorem isOf_nX (G : Pg) (m b : List (List Bool)) (c k : Nat) : isOf G m b (nX G c) k = isOf G m b c k := by
  have : nX G (nX G c) = nX G c := by
    unfold nX
    split <;> rename_i h
    · rfl
    · split <;> rfl
  unfold isOf
  rw [this]
theorem md_ok {G : Pg} {m b : List (List Bool)} {K : PySem.W.Frag} {h : Heap} {mg : Str → Option Value} {Fs : List Fn} {Ds : List Df} (X : K.In h) (N : h.Ns mainGlobals mg) (c1 : topOk G m b K = true) (c2 : He.SaysD [] (fnOf G Ds) K) (c3 : tabOk G Fs Ds = true)
    (cb : ∀ s ∈ G.bas, bootBuiltins (Str.ofString s) = some (.type s) ∧ Str.ofString s ≠ "__name__" ∧ (Str.ofString s == ("__debug__" : Str)) = false) : MdOk G (tbOf G K) Fs (isOf G m b) mg := by
  unfold topOk at c1
  simp only [Bool.and_eq_true, List.all_eq_true, decide_eq_true_eq, Bool.or_eq_true, Bool.not_eq_true', List.mem_range] at c1
  obtain ⟨⟨⟨⟨k1, k2⟩, k3⟩, k4⟩, k5⟩ := c1
  have nx : ∀ {c : Nat}, 0 < G.exc.length → nX G c < G.exc.length := fun {c} h => by
    unfold nX
    split
    · assumption
    · exact h
  have nm : ∀ {c : Nat} {x : Str}, G.exc[c]? = some x → c < G.exc.length ∧ nmX G c = x := fun {c x} h => ⟨(List.getElem?_eq_some_iff.mp h).1, by
    unfold nmX
    rw [List.getD_eq_getElem?_getD, h]
    rfl⟩
  refine ⟨fun x hx => PySem.W.mg_none_of X N (k1 x hx), fun hg => ?_, fun _ _ h => h, fun g A hA => ?_, fun k s hs => ?_, fun h0 c k s hs => ?_, fun c x hx => ?_, fun c x hx => ?_, fun c k x hx => ?_, fun h0 c => ?_, fun f d hd => ?_⟩
  · rcases k3 with k3 | k3
    · rw [hg] at k3; cases k3
    · exact PySem.W.mg_of X N k3
  · have hA : ((G.fns[g]?).map fun d => He.ga K d.name) = some A := hA
    obtain ⟨d, hd, e⟩ := Option.map_eq_some_iff.mp hA
    exact ⟨d, hd, e ▸ PySem.W.mg_of X N (k4 d (List.mem_of_getElem? hd))⟩
  · obtain ⟨b1, b2, b3⟩ := cb s (List.mem_of_getElem? hs)
    exact ⟨PySem.W.mg_none_of X N (k2 s (List.mem_of_getElem? hs)), b1, b2, b3⟩
  · have q := (k5 _ (nx (c := c) h0)).2 k (List.getElem?_eq_some_iff.mp hs).1
    rw [nmX_nX, isOf_nX, List.getD_eq_getElem?_getD, hs] at q
    exact q
  · obtain ⟨h1, h2⟩ := nm hx
    obtain ⟨⟨⟨⟨⟨⟨⟨q1, q2⟩, q3⟩, _⟩, _⟩, _⟩, _⟩, _⟩ := k5 c h1
    refine ⟨?_, q2, q3⟩
    have z := PySem.W.mg_of X N q1
    rw [h2] at z
    show mg x = some (.ref (He.ga K (nmX G c)))
    rw [h2]
    exact z
  · obtain ⟨h1, h2⟩ := nm hx
    obtain ⟨⟨⟨⟨⟨_, q4⟩, q5⟩, _⟩, _⟩, _⟩ := k5 c h1
    exact ⟨q4, q5⟩
  · obtain ⟨h1, h2⟩ := nm hx
    have q := (k5 _ (nx (c := c) (Nat.lt_of_le_of_lt (Nat.zero_le _) h1))).1.2 k h1
    rw [nmX_nX, isOf_nX] at q
    exact q
  · have q := (k5 _ (nx (c := c) h0)).1.1.2
    rw [nmX_nX] at q
    exact excC_ok q
  · unfold tabOk at c3
    simp only [Bool.and_eq_true, List.all_eq_true, decide_eq_true_eq, List.mem_range] at c3
    obtain ⟨⟨e1, e2⟩, e3⟩ := c3
    have hf := (List.getElem?_eq_some_iff.mp hd).1
    have q := e3 f hf
    rw [hd] at q
    have hF : Fs[f]? = some (Fs[f]'(by omega)) := List.getElem?_eq_getElem _
    have hD : Ds[f]? = some (Ds[f]'(by omega)) := List.getElem?_eq_getElem _
    generalize Fs[f]'(by omega) = F at hF
    generalize Ds[f]'(by omega) = t at hD
    rw [hF, hD] at q
    have hz : (fnOf G Ds)[f]? = some (ddOf d t) := by
      unfold fnOf
      rw [List.getElem?_map, List.getElem?_zip_eq_some (z := (d, t)) |>.mpr ⟨hd, hD⟩]
      rfl
    obtain ⟨fd, FD⟩ := c2.def_ f hz
    exact ⟨_, fd, t, F, PySem.W.mg_of X N (k4 d (List.mem_of_getElem? hd)), by show ((G.fns[f]?).map _) = _; rw [hd]; rfl, FD, hF, q⟩
end Ev

set_option Elab.async false
set_option linter.all false
set_option maxRecDepth 100000
set_option maxHeartbeats 4000000
/-! Ev, part S: a law. -/
namespace Ev
open PySem PySem.Spec PyProof.Rows L2

theorem fn_nox {P : Program} {w : World} {K : PySem.W.Frag} {mg : Str → Option Value} {base : Heap} {k : Nat} {f : Addr} {fd : FuncData} {ps : List Str} {sp : Sp} (F : FnOk P w K mg base (L2.CX P w) k f fd ps sp) :
    FnOk P w K mg base CX0 k f fd ps (fun vs H Q _ => sp vs H Q fun _ _ _ => False) :=
  ⟨fun vs H Q E h => F.len vs H Q _ h, fun A outer s H args us vs Q E hr he hb hv h => codeAny_mono (F.run A outer s H args us vs Q (fun _ _ _ => False) hr he hb hv h) fun r s' hq => by
    cases r with
    | error e =>
      obtain ⟨_, _, _, _, _, _, _, _, _, _, _, _, z⟩ := hq
      exact False.elim z
    | ok fl => cases fl <;> exact hq⟩
theorem law_F {P : Program} {G : Pg} {m b : List (List Bool)} {Fs : List Fn} {Ds : List Df} {f n len : Nat} {x nm : Str} (c3 : tabOk G Fs Ds = true)
    (cb : ∀ s ∈ G.bas, bootBuiltins (Str.ofString s) = some (.type s) ∧ Str.ofString s ≠ "__name__" ∧ (Str.ofString s == ("__debug__" : Str)) = false) (hd : G.fns[f]? = some ⟨nm, [x]⟩)
    (ev : ∀ ns : List Int, ns.length ≤ len → ∃ S, callN Fs (isOf G m b) n f [.scr ns] [] = .ok (.bl true) S) (hlen : len ≤ big)
    {w : World} {mg : Str → Option Value} {fa : Addr} {h : Heap} {K : PySem.W.Frag} (KX : K.In h) (c1 : topOk G m b K = true) (c2 : He.SaysD [] (fnOf G Ds) K) (N : h.Ns mainGlobals mg) (hmg : mg nm = some (.ref fa)) :
    ∃ (K : PySem.W.Frag) (fd : FuncData) (sp : Sp), K.In h ∧ (∀ (s : Shared) (u : Value), BindsTo s fd ⟨[u], []⟩ [(x, u)]) ∧
      (∀ (H : Hp) (a : Addr) (ns : List Int), ns.length ≤ len → Only H → SqL K H a (ns.map V.int) → sp [.ref a] H (fun v _ => v = .bl true) fun _ _ _ => False) ∧
      ∀ base : Heap, K.In base → base.Ns mainGlobals mg → FnOk P w K mg base CX0 n fa fd [x] sp := by
  have M := md_ok KX N c1 c2 c3 cb
  obtain ⟨A, fd, h1, h2, h3, _, p1, p2, p3, p4, oc, od, osl, lk⟩ := fns_ok (P := P) (w := w) (base := h) M n f _ hd
  have eA := hmg.symm.trans h1
  cases eA
  refine ⟨K, fd, fun vs H Q _ => spF (tbOf G K) Fs (isOf G m b) n f vs H Q fun _ _ _ => False, KX, fun s u => .of_eq ?_, fun H a ns hl _ hs => ?_, fun base _ _ => ?_⟩
  · have z := bind_kw (us := [u]) (ws := []) p1 p2 p3 p4 ixOk_nil rfl rfl
    rw [mixG_nil] at z
    exact z
  · obtain ⟨S, e⟩ := ev ns hl
    have na : ∀ b, ¬ Alv ⟨[], fun _ => False⟩ [] b := fun b z => by
      rcases z with z | ⟨k, xs, z, _⟩
      · exact z
      · simp at z
    have ev : vis ⟨[], fun _ => False⟩ [] H = H := by
      funext b
      unfold vis
      rw [if_neg (na b)]
    refine ⟨⟨[], fun _ => False⟩, [], [.scr ns], ⟨rfl, ?_, ?_, ?_, ?_, ?_⟩, ?_, ?_⟩
    · intro k l a z; simp at z
    · intro k a z; simp at z
    · intro k a z; simp at z
    · intro b z; exact False.elim z
    · intro k xs z; simp at z
    · rw [ev]
      refine .cons ?_ .nil
      simp only [Rep]
      exact ⟨a, rfl, hs, Nat.le_trans hl hlen⟩
    · rw [e]
      intro ρ' H' v _ _ r
      simpa only [Rep] using r
  · obtain ⟨A', fd', g1, _, _, F, _, _, _, _, oc', od', osl', lk'⟩ := fns_ok (P := P) (w := w) (base := base) M n f _ hd
    have eA := hmg.symm.trans g1
    cases eA
    have eo := lk.symm.trans lk'
    cases eo
    exact fn_nox F
end Ev

set_option Elab.async false
set_option linter.all false
set_option maxRecDepth 100000
set_option maxHeartbeats 4000000
/-! Ev, part T: evaluation by simp: the rows. -/
namespace Ev
open PySem L2
section
variable {α β : Type} {S : Sto} {x y z : D} {i j k : Int} {b c : Bool} {e : Lenv} {xs ys : List D}
@[simp] theorem bind_ok {a : α} {f : α → Sto → Out β} : (Out.ok a S).bind f = f a S := rfl
@[simp] theorem bind_err {n : Nat} {f : α → Sto → Out β} : (Out.err n S : Out α).bind f = .err n S := rfl
@[simp] theorem lift_some {a : α} : lift (some a) S = .ok a S := rfl
@[simp] theorem toS_ok {d : D} {f : D → Sto → OutS} : (Out.ok d S).toS e f = f d S := rfl
@[simp] theorem toS_err {n : Nat} {f : D → Sto → OutS} : (Out.err n S : Out D).toS e f = .err n e S := rfl
@[simp] theorem op_addi : opD .add (.int i) (.int j) = some (.int (i + j)) := rfl
@[simp] theorem op_subi : opD .sub (.int i) (.int j) = some (.int (i - j)) := rfl
@[simp] theorem op_muli (h : mulOk i j = true) : opD .mul (.int i) (.int j) = some (.int (i * j)) := by show (if _ then _ else _) = _; rw [if_pos h]
@[simp] theorem op_divi (h : divOk j = true) : opD .fdiv (.int i) (.int j) = some (.int (i.fdiv j)) := by show (if _ then _ else _) = _; rw [if_pos h]
@[simp] theorem op_modi (h : j ≠ 0) : opD .mod (.int i) (.int j) = some (.int (i.fmod j)) := by show (if _ then _ else _) = _; rw [if_pos (decide_eq_true h)]
@[simp] theorem op_powi (h : powOk i j = true) : opD .pow (.int i) (.int j) = some (.int (i ^ j.toNat)) := by show (if _ then _ else _) = _; rw [if_pos h]
@[simp] theorem op_cat : opD .add (.lst xs) (.lst ys) = if xs.length + ys.length ≤ big then some (.lst (xs ++ ys)) else none := rfl
@[simp] theorem cp_lti : cpD .lt (.int i) (.int j) = some (decide (i < j)) := rfl
@[simp] theorem cp_lei : cpD .le (.int i) (.int j) = some (decide (i ≤ j)) := rfl
@[simp] theorem cp_gti : cpD .gt (.int i) (.int j) = some (decide (j < i)) := rfl
@[simp] theorem cp_gei : cpD .ge (.int i) (.int j) = some (decide (j ≤ i)) := rfl
@[simp] theorem cp_eq : cpD .eq x y = eqD x y := rfl
@[simp] theorem cp_ne : cpD .ne x y = (eqD x y).map (!·) := rfl
@[simp] theorem eqD_int : eqD (.int i) (.int j) = some (decide (i = j)) := by
  unfold eqD
  simp only [D.py]
  rw [if_pos (by simp [SeqAt.shaped, PyData.canLay0, PyData.depth])]
  rfl
@[simp] theorem eqD_bl : eqD (.bl b) (.bl c) = some (b == c) := by
  cases b <;> cases c <;> rfl
@[simp] theorem tru_bl : truD S (.bl b) = some b := rfl
@[simp] theorem tru_int : truD S (.int i) = some (i != 0) := rfl
@[simp] theorem tru_lst : truD S (.lst xs) = some (!xs.isEmpty) := rfl
@[simp] theorem tru_tup : truD S (.tup xs) = some (!xs.isEmpty) := rfl
@[simp] theorem b_int : b1D .int [.int i] S = some (.int i) := rfl
@[simp] theorem b_intb : b1D .int [.bl b] S = some (.int (if b then 1 else 0)) := rfl
@[simp] theorem b_abs : b1D .abs [.int i] S = some (.int (if i < 0 then -i else i)) := rfl
@[simp] theorem b_gcd : b1D .gcd [.int i, .int j] S = some (.int ((Nat.gcd i.natAbs j.natAbs : Nat) : Int)) := rfl
@[simp] theorem b_len : b1D .len [.lst xs] S = some (.int xs.length) := rfl
@[simp] theorem b_lent : b1D .len [.tup xs] S = some (.int xs.length) := rfl
@[simp] theorem b_lens {ns : List Int} : b1D .len [.scr ns] S = some (.int ns.length) := rfl
@[simp] theorem b_all : b1D .all [.lst xs] S = (blsD xs).map fun bs => .bl (bs.all id) := rfl
@[simp] theorem b_list : b1D .list [.lst xs] S = some (.lst xs) := rfl
@[simp] theorem b_listt : b1D .list [.tup xs] S = some (.lst xs) := rfl
@[simp] theorem b_tup : b1D .tuple [.tup xs] S = some (.tup xs) := rfl
@[simp] theorem b_tupl : b1D .tuple [.lst xs] S = some (.tup xs) := rfl
@[simp] theorem ix_tup : ixD (.tup xs) (.int i) S = atI xs i := rfl
@[simp] theorem ix_lst : ixD (.lst xs) (.int i) S = atI xs i := rfl
@[simp] theorem ix_loc0 : ixD (.loc 0) (.int i) (some xs :: S) = atI xs i := rfl
@[simp] theorem ixn_0 {n : Nat} : ixN (n + 1) 0 = some 0 := by
  unfold ixN
  rw [if_pos (by omega), if_pos (by omega)]; rfl
@[simp] theorem ixn_1 {n : Nat} : ixN (n + 2) 1 = some 1 := by
  unfold ixN
  rw [if_pos (by omega), if_pos (by omega)]; rfl
@[simp] theorem ixn_2 {n : Nat} : ixN (n + 3) 2 = some 2 := by
  unfold ixN
  rw [if_pos (by omega), if_pos (by omega)]; rfl
@[simp] theorem at_0 : atI (x :: xs) 0 = some x := by
  unfold atI
  rw [List.length_cons, ixn_0]; rfl
@[simp] theorem at_1 : atI (x :: y :: xs) 1 = some y := by
  unfold atI
  rw [List.length_cons, List.length_cons, ixn_1]; rfl
@[simp] theorem at_2 : atI (x :: y :: z :: xs) 2 = some z := by
  unfold atI
  rw [List.length_cons, List.length_cons, List.length_cons, ixn_2]; rfl
end
end Ev

set_option Elab.async false
set_option linter.all false
set_option maxRecDepth 100000
set_option maxHeartbeats 0
namespace K01
open PySem Ev
def top (i : Nat) : PySem.Stmt := PySem.Challenge.pw_glidenames_k01_whole_fractions_by_own_re.main.body.getD i (.Pass ⟨0, 0, 0, 0⟩)
/-- is_number -/
def b0 : Sm := (.cons (.ret (.and (.isi (.var 0) [.int]) (.one (.not (.isi (.var 0) [.bool]))))) .nil)
def N0 : List PySem.Str := ["thing"]
def f0 : Fn := ⟨1, 1, b0⟩
def st0 : PySem.Stmt := top 5
def df0 : Df := ⟨"is_number", L2.defArgs st0, L2.defBody st0, L2.defScope st0, N0⟩
/-- is_from -/
def b1 : Sm := (.cons (.ret (.and (.call 0 (.cons (.var 0) .nil)) (.one (.cmp .ge (.var 0) (.var 1))))) .nil)
def N1 : List PySem.Str := ["thing", "low"]
def f1 : Fn := ⟨2, 2, b1⟩
def st1 : PySem.Stmt := top 6
def df1 : Df := ⟨"is_from", L2.defArgs st1, L2.defBody st1, L2.defScope st1, N1⟩
/-- is_tuple_of -/
def b2 : Sm := (.cons (.ret (.and (.isi (.var 0) [.tuple]) (.one (.cmp .eq (.blt .len (.cons (.var 0) .nil)) (.var 1))))) .nil)
def N2 : List PySem.Str := ["thing", "many"]
def f2 : Fn := ⟨2, 2, b2⟩
def st2 : PySem.Stmt := top 7
def df2 : Df := ⟨"is_tuple_of", L2.defArgs st2, L2.defBody st2, L2.defScope st2, N2⟩
/-- is_fraction -/
def b3 : Sm := (.cons (.ite (.not (.call 2 (.cons (.var 0) (.cons (.cst (.int 2)) .nil)))) (.cons (.ret (.cst (.bl false))) .nil) .nil) (.cons (.asg [1, 2] (.var 0)) (.cons (.ret (.and (.call 0 (.cons (.var 1) .nil)) (.and (.call 1 (.cons (.var 2) (.cons (.cst (.int 1)) .nil))) (.one (.cmp .eq (.blt .gcd (.cons (.var 1) (.cons (.var 2) .nil))) (.cst (.int 1))))))) .nil)))
def N3 : List PySem.Str := ["thing", "top", "below"]
def f3 : Fn := ⟨1, 3, b3⟩
def st3 : PySem.Stmt := top 9
def df3 : Df := ⟨"is_fraction", L2.defArgs st3, L2.defBody st3, L2.defScope st3, N3⟩
/-- is_scale -/
def b4 : Sm := (.cons (.ret (.and (.call 3 (.cons (.var 0) .nil)) (.one (.cmp .gt (.idx (.var 0) (.cst (.int 0))) (.cst (.int 0)))))) .nil)
def N4 : List PySem.Str := ["thing"]
def f4 : Fn := ⟨1, 1, b4⟩
def st4 : PySem.Stmt := top 10
def df4 : Df := ⟨"is_scale", L2.defArgs st4, L2.defBody st4, L2.defScope st4, N4⟩
/-- fraction -/
def b5 : Sm := (.cons (.ite (.cmp .eq (.var 1) (.cst (.int 0))) (.cons (.raise 1) .nil) .nil) (.cons (.set 2 (.blt .gcd (.cons (.var 0) (.cons (.var 1) .nil)))) (.cons (.ite (.cmp .lt (.var 1) (.cst (.int 0))) (.cons (.set 2 (.neg (.var 2))) .nil) .nil) (.cons (.ret (.tup (.cons (.op .fdiv (.var 0) (.var 2)) (.cons (.op .fdiv (.var 1) (.var 2)) .nil)))) .nil))))
def N5 : List PySem.Str := ["top", "below", "common"]
def f5 : Fn := ⟨2, 3, b5⟩
def st5 : PySem.Stmt := top 11
def df5 : Df := ⟨"fraction", L2.defArgs st5, L2.defBody st5, L2.defScope st5, N5⟩
/-- plus -/
def b6 : Sm := (.cons (.ret (.call 5 (.cons (.op .add (.op .mul (.idx (.var 0) (.cst (.int 0))) (.idx (.var 1) (.cst (.int 1)))) (.op .mul (.idx (.var 1) (.cst (.int 0))) (.idx (.var 0) (.cst (.int 1))))) (.cons (.op .mul (.idx (.var 0) (.cst (.int 1))) (.idx (.var 1) (.cst (.int 1)))) .nil)))) .nil)
def N6 : List PySem.Str := ["one", "other"]
def f6 : Fn := ⟨2, 2, b6⟩
def st6 : PySem.Stmt := top 12
def df6 : Df := ⟨"plus", L2.defArgs st6, L2.defBody st6, L2.defScope st6, N6⟩
/-- minus -/
def b7 : Sm := (.cons (.ret (.call 5 (.cons (.op .sub (.op .mul (.idx (.var 0) (.cst (.int 0))) (.idx (.var 1) (.cst (.int 1)))) (.op .mul (.idx (.var 1) (.cst (.int 0))) (.idx (.var 0) (.cst (.int 1))))) (.cons (.op .mul (.idx (.var 0) (.cst (.int 1))) (.idx (.var 1) (.cst (.int 1)))) .nil)))) .nil)
def N7 : List PySem.Str := ["one", "other"]
def f7 : Fn := ⟨2, 2, b7⟩
def st7 : PySem.Stmt := top 13
def df7 : Df := ⟨"minus", L2.defArgs st7, L2.defBody st7, L2.defScope st7, N7⟩
/-- times -/
def b8 : Sm := (.cons (.ret (.call 5 (.cons (.op .mul (.idx (.var 0) (.cst (.int 0))) (.idx (.var 1) (.cst (.int 0)))) (.cons (.op .mul (.idx (.var 0) (.cst (.int 1))) (.idx (.var 1) (.cst (.int 1)))) .nil)))) .nil)
def N8 : List PySem.Str := ["one", "other"]
def f8 : Fn := ⟨2, 2, b8⟩
def st8 : PySem.Stmt := top 14
def df8 : Df := ⟨"times", L2.defArgs st8, L2.defBody st8, L2.defScope st8, N8⟩
/-- over -/
def b9 : Sm := (.cons (.ite (.cmp .eq (.idx (.var 1) (.cst (.int 0))) (.cst (.int 0))) (.cons (.raise 0) .nil) .nil) (.cons (.ret (.call 5 (.cons (.op .mul (.idx (.var 0) (.cst (.int 0))) (.idx (.var 1) (.cst (.int 1)))) (.cons (.op .mul (.idx (.var 0) (.cst (.int 1))) (.idx (.var 1) (.cst (.int 0)))) .nil)))) .nil))
def N9 : List PySem.Str := ["one", "other"]
def f9 : Fn := ⟨2, 2, b9⟩
def st9 : PySem.Stmt := top 15
def df9 : Df := ⟨"over", L2.defArgs st9, L2.defBody st9, L2.defScope st9, N9⟩
/-- is_less -/
def b10 : Sm := (.cons (.ret (.cmp .lt (.op .mul (.idx (.var 0) (.cst (.int 0))) (.idx (.var 1) (.cst (.int 1)))) (.op .mul (.idx (.var 1) (.cst (.int 0))) (.idx (.var 0) (.cst (.int 1)))))) .nil)
def N10 : List PySem.Str := ["one", "other"]
def f10 : Fn := ⟨2, 2, b10⟩
def st10 : PySem.Stmt := top 16
def df10 : Df := ⟨"is_less", L2.defArgs st10, L2.defBody st10, L2.defScope st10, N10⟩
/-- greatest -/
def b11 : Sm := (.cons (.ite (.cmp .eq (.blt .len (.cons (.var 0) .nil)) (.cst (.int 0))) (.cons (.raise 0) .nil) .nil) (.cons (.set 1 (.idx (.var 0) (.cst (.int 0)))) (.cons (.for_ (.n 2) (.one (.var 0)) (.cons (.ite (.call 10 (.cons (.var 1) (.cons (.var 2) .nil))) (.cons (.set 1 (.var 2)) .nil) .nil) .nil)) (.cons (.ret (.blt .tuple (.cons (.var 1) .nil))) .nil))))
def N11 : List PySem.Str := ["many", "best", "own"]
def f11 : Fn := ⟨1, 3, b11⟩
def st11 : PySem.Stmt := top 17
def df11 : Df := ⟨"greatest", L2.defArgs st11, L2.defBody st11, L2.defScope st11, N11⟩
/-- least -/
def b12 : Sm := (.cons (.ite (.cmp .eq (.blt .len (.cons (.var 0) .nil)) (.cst (.int 0))) (.cons (.raise 0) .nil) .nil) (.cons (.set 1 (.idx (.var 0) (.cst (.int 0)))) (.cons (.for_ (.n 2) (.one (.var 0)) (.cons (.ite (.call 10 (.cons (.var 2) (.cons (.var 1) .nil))) (.cons (.set 1 (.var 2)) .nil) .nil) .nil)) (.cons (.ret (.blt .tuple (.cons (.var 1) .nil))) .nil))))
def N12 : List PySem.Str := ["many", "best", "own"]
def f12 : Fn := ⟨1, 3, b12⟩
def st12 : PySem.Stmt := top 18
def df12 : Df := ⟨"least", L2.defArgs st12, L2.defBody st12, L2.defScope st12, N12⟩
/-- straight -/
def b13 : Sm := (.cons (.set 5 (.call 9 (.cons (.call 7 (.cons (.var 2) (.cons (.var 0) .nil))) (.cons (.call 7 (.cons (.var 1) (.cons (.var 0) .nil))) .nil)))) (.cons (.ret (.call 6 (.cons (.var 3) (.cons (.call 8 (.cons (.call 7 (.cons (.var 4) (.cons (.var 3) .nil))) (.cons (.var 5) .nil))) .nil)))) .nil))
def N13 : List PySem.Str := ["low", "high", "scale", "first", "second", "share"]
def f13 : Fn := ⟨5, 6, b13⟩
def st13 : PySem.Stmt := top 19
def df13 : Df := ⟨"straight", L2.defArgs st13, L2.defBody st13, L2.defScope st13, N13⟩
/-- _law_box -/
def b14 : Sm := (.cons (.set 2 (.ite (.cmp .lt (.var 1) (.blt .len (.cons (.var 0) .nil))) (.idx (.var 0) (.var 1)) (.cst (.int 0)))) (.cons (.ret (.loc (.cons (.op .mul (.blt .abs (.cons (.var 2) .nil)) (.blt .int (.cons (.cmp .ge (.blt .abs (.cons (.var 2) .nil)) (.op .pow (.cst (.int 10)) (.cst (.int 18)))) .nil))) (.cons (.op .add (.op .add (.op .mod (.blt .int (.cons (.var 2) .nil)) (.cst (.int 2305843009213693951))) (.op .mul (.cst (.int 39373)) (.var 1))) (.cst (.int 3197001))) (.cons (.cst (.int 0)) .nil))))) .nil))
def N14 : List PySem.Str := ["script", "k", "cell"]
def f14 : Fn := ⟨2, 3, b14⟩
def st14 : PySem.Stmt := top 21
def df14 : Df := ⟨"_law_box", L2.defArgs st14, L2.defBody st14, L2.defScope st14, N14⟩
/-- _law_take -/
def b15 : Sm := (.cons (.ite (.cmp .gt (.idx (.var 0) (.cst (.int 0))) (.cst (.int 0))) (.cons (.set 5 (.op .mod (.blt .int (.cons (.idx (.var 0) (.cst (.int 0))) .nil)) (.var 1))) (.cons (.setI 0 (.cst (.int 0)) (.op .fdiv (.idx (.var 0) (.cst (.int 0))) (.var 1))) (.cons (.ret (.var 5)) .nil))) .nil) (.cons (.setI 0 (.cst (.int 2)) (.op .add (.idx (.var 0) (.cst (.int 2))) (.cst (.int 1)))) (.cons (.set 2 (.op .mod (.blt .int (.cons (.op .mul (.op .add (.idx (.var 0) (.cst (.int 1))) (.op .mul (.cst (.int 48271)) (.idx (.var 0) (.cst (.int 2))))) (.op .add (.cst (.int 39373)) (.idx (.var 0) (.cst (.int 2))))) .nil)) (.cst (.int 2147483647)))) (.cons (.set 3 (.op .add (.op .mod (.blt .int (.cons (.var 2) .nil)) (.cst (.int 40009))) (.cst (.int 7)))) (.cons (.set 4 (.op .mod (.blt .int (.cons (.op .mul (.op .add (.op .add (.var 2) (.idx (.var 0) (.cst (.int 2)))) (.op .fdiv (.idx (.var 0) (.cst (.int 1))) (.cst (.int 1000003)))) (.var 3)) .nil)) (.cst (.int 2147483629)))) (.cons (.ret (.op .mod (.blt .int (.cons (.op .fdiv (.op .mod (.blt .int (.cons (.op .add (.op .mul (.var 4) (.cst (.int 48271))) (.var 2)) .nil)) (.cst (.int 2147483587))) (.cst (.int 64))) .nil)) (.var 1))) .nil))))))
def N15 : List PySem.Str := ["tin", "below", "once", "broad", "twice", "drawn"]
def f15 : Fn := ⟨2, 6, b15⟩
def st15 : PySem.Stmt := top 22
def df15 : Df := ⟨"_law_take", L2.defArgs st15, L2.defBody st15, L2.defScope st15, N15⟩
/-- _law_cells -/
def b16 : Sm := (.cons (.set 2 (.or (.locL (.sl (.var 0) (.cst .non) (.var 1))) (.one (.loc (.cons (.cst (.int 0)) .nil))))) (.cons (.for_ (.t [3, 4]) (.enum (.sl (.var 0) (.var 1) (.cst (.int 63)))) (.cons (.set 5 (.op .mod (.blt .int (.cons (.var 3) .nil)) (.var 1))) (.cons (.setI 2 (.var 5) (.op .add (.idx (.var 2) (.var 5)) (.op .mul (.var 4) (.op .add (.var 3) (.cst (.int 2)))))) .nil))) (.cons (.ret (.frz (.var 2))) .nil)))
def N16 : List PySem.Str := ["script", "limit", "numbers_so", "k", "cell", "spot"]
def f16 : Fn := ⟨2, 6, b16⟩
def st16 : PySem.Stmt := top 23
def df16 : Df := ⟨"_law_cells", L2.defArgs st16, L2.defBody st16, L2.defScope st16, N16⟩
/-- _law_same -/
def b17 : Sm := (.cons (.ite (.isi (.var 1) [.list, .tuple]) (.cons (.ite (.or (.cmp .ne (.isi (.var 0) [.list]) (.isi (.var 1) [.list])) (.one (.cmp .ne (.isi (.var 0) [.tuple]) (.isi (.var 1) [.tuple])))) (.cons (.ret (.cst (.bl false))) .nil) .nil) (.cons (.ret (.and (.cmp .eq (.blt .len (.cons (.var 0) .nil)) (.blt .len (.cons (.var 1) .nil))) (.one (.blt .all (.cons (.comp (.call 17 (.cons (.var 2) (.cons (.var 3) .nil))) [2, 3] (.t [2, 3]) (.zip (.var 0) (.var 1)) (.cst (.bl true))) .nil))))) .nil)) .nil) (.cons (.ite (.or (.isn (.var 1) false) (.one (.isi (.var 1) [.bool, .str]))) (.cons (.ret (.and (.cmp .eq (.var 0) (.var 1)) (.and (.cmp .eq (.isi (.var 0) [.bool]) (.isi (.var 1) [.bool])) (.one (.cmp .eq (.isn (.var 0) false) (.isn (.var 1) false)))))) .nil) .nil) (.cons (.ret (.and (.isi (.var 0) [.int]) (.and (.not (.isi (.var 0) [.bool])) (.one (.cmp .eq (.var 0) (.var 1)))))) .nil)))
def N17 : List PySem.Str := ["got", "goal", "mine", "own"]
def f17 : Fn := ⟨2, 4, b17⟩
def st17 : PySem.Stmt := top 24
def df17 : Df := ⟨"_law_same", L2.defArgs st17, L2.defBody st17, L2.defScope st17, N17⟩
/-- _law_lists -/
def b18 : Sm := (.cons (.ret (.ite (.isi (.var 0) [.list, .tuple]) (.comp (.call 18 (.cons (.var 1) .nil)) [1] (.n 1) (.one (.var 0)) (.cst (.bl true))) (.var 0))) .nil)
def N18 : List PySem.Str := ["matter", "own"]
def f18 : Fn := ⟨1, 2, b18⟩
def st18 : PySem.Stmt := top 25
def df18 : Df := ⟨"_law_lists", L2.defArgs st18, L2.defBody st18, L2.defScope st18, N18⟩
/-- _law_low -/
def b19 : Sm := (.cons (.par 3 4 (.blt .abs (.cons (.blt .int (.cons (.var 0) .nil)) .nil)) (.blt .int (.cons (.var 1) .nil))) (.cons (.for_ (.n 2) (.rng (.cst (.int 600))) (.cons (.ite (.cmp .eq (.var 4) (.cst (.int 0))) (.cons .brk .nil) .nil) (.cons (.par 3 4 (.var 4) (.op .mod (.var 3) (.var 4))) .nil))) (.cons (.ret (.tup (.cons (.op .fdiv (.var 0) (.var 3)) (.cons (.op .fdiv (.var 1) (.var 3)) .nil)))) .nil)))
def N19 : List PySem.Str := ["top", "below", "lap", "one", "other"]
def f19 : Fn := ⟨2, 5, b19⟩
def st19 : PySem.Stmt := top 26
def df19 : Df := ⟨"_law_low", L2.defArgs st19, L2.defBody st19, L2.defScope st19, N19⟩
/-- _law_under -/
def b20 : Sm := (.cons (.ret (.cmp .lt (.op .mul (.idx (.var 0) (.cst (.int 0))) (.idx (.var 1) (.cst (.int 1)))) (.op .mul (.idx (.var 1) (.cst (.int 0))) (.idx (.var 0) (.cst (.int 1)))))) .nil)
def N20 : List PySem.Str := ["one", "other"]
def f20 : Fn := ⟨2, 2, b20⟩
def st20 : PySem.Stmt := top 27
def df20 : Df := ⟨"_law_under", L2.defArgs st20, L2.defBody st20, L2.defScope st20, N20⟩
/-- _law_any -/
def b21 : Sm := (.cons (.ite (.cmp .eq (.call 15 (.cons (.var 0) (.cons (.cst (.int 6)) .nil))) (.cst (.int 0))) (.cons (.ret (.call 19 (.cons (.op .sub (.call 15 (.cons (.var 0) (.cons (.op .add (.op .mul (.cst (.int 2)) (.op .pow (.cst (.int 10)) (.cst (.int 12)))) (.cst (.int 1))) .nil))) (.op .pow (.cst (.int 10)) (.cst (.int 12)))) (.cons (.op .add (.cst (.int 1)) (.call 15 (.cons (.var 0) (.cons (.op .pow (.cst (.int 10)) (.cst (.int 12))) .nil)))) .nil)))) .nil) .nil) (.cons (.ret (.call 19 (.cons (.op .sub (.call 15 (.cons (.var 0) (.cons (.cst (.int 61)) .nil))) (.cst (.int 30))) (.cons (.op .add (.cst (.int 1)) (.call 15 (.cons (.var 0) (.cons (.cst (.int 12)) .nil)))) .nil)))) .nil))
def N21 : List PySem.Str := ["tin"]
def f21 : Fn := ⟨1, 1, b21⟩
def st21 : PySem.Stmt := top 28
def df21 : Df := ⟨"_law_any", L2.defArgs st21, L2.defBody st21, L2.defScope st21, N21⟩
/-- _law_turned -/
def b22 : Sm := (.cons (.ret (.ite (.cmp .gt (.var 1) (.cst (.int 0))) (.call 19 (.cons (.var 0) (.cons (.var 1) .nil))) (.call 19 (.cons (.op .sub (.cst (.int 0)) (.var 0)) (.cons (.op .sub (.cst (.int 0)) (.var 1)) .nil))))) .nil)
def N22 : List PySem.Str := ["top", "below"]
def f22 : Fn := ⟨2, 2, b22⟩
def st22 : PySem.Stmt := top 29
def df22 : Df := ⟨"_law_turned", L2.defArgs st22, L2.defBody st22, L2.defScope st22, N22⟩
/-- _law_heard -/
def b23 : Sm := (.cons (.try_ (.cons (.ret (.ite (.cmp .eq (.blt .len (.cons (.var 1) .nil)) (.cst (.int 1))) (.callv 0 (.cons (.idx (.var 1) (.cst (.int 0))) .nil)) (.callv 0 (.cons (.idx (.var 1) (.cst (.int 0))) (.cons (.idx (.var 1) (.cst (.int 1))) .nil))))) .nil) (.hcons 1 (some 2) (.cons (.ret (.lst (.cons (.cst (.str (PySem.Str.ofString "unfit"))) (.cons (.isx 2 1000) .nil)))) .nil) (.hcons 0 (some 2) (.cons (.ret (.lst (.cons (.cst (.str (PySem.Str.ofString "cannot"))) (.cons (.isx 2 1000) .nil)))) .nil) .hnil))) .nil)
def N23 : List PySem.Str := ["way", "given", "error"]
def f23 : Fn := ⟨2, 3, b23⟩
def st23 : PySem.Stmt := top 30
def df23 : Df := ⟨"_law_heard", L2.defArgs st23, L2.defBody st23, L2.defScope st23, N23⟩
/-- _law_straight_heard -/
def b24 : Sm := (.cons (.try_ (.cons (.ret (.call 13 (.cons (.var 0) (.cons (.var 1) (.cons (.tup (.cons (.cst (.int 1)) (.cons (.cst (.int 3)) .nil))) (.cons (.tup (.cons (.cst (.int 0)) (.cons (.cst (.int 1)) .nil))) (.cons (.tup (.cons (.cst (.int 1)) (.cons (.cst (.int 1)) .nil))) .nil))))))) .nil) (.hcons 0 none (.cons (.ret (.lst (.cons (.cst (.str (PySem.Str.ofString "cannot"))) .nil))) .nil) .hnil)) .nil)
def N24 : List PySem.Str := ["low", "high"]
def f24 : Fn := ⟨2, 2, b24⟩
def st24 : PySem.Stmt := top 31
def df24 : Df := ⟨"_law_straight_heard", L2.defArgs st24, L2.defBody st24, L2.defScope st24, N24⟩
/-- _law_hand_right -/
def b25 : Sm := (.cons (.set 0 (.lst (.cons (.tup (.cons (.cst (.int 2)) (.cons (.cst (.int 3)) .nil))) (.cons (.tup (.cons (.cst (.int 0)) (.cons (.cst (.int 1)) .nil))) (.cons (.tup (.cons (.neg (.cst (.int 5))) (.cons (.cst (.int 1)) .nil))) (.cons (.tup (.cons (.op .add (.op .pow (.cst (.int 10)) (.cst (.int 30))) (.cst (.int 1))) (.cons (.op .pow (.cst (.int 10)) (.cst (.int 30))) .nil))) .nil)))))) (.cons (.set 1 (.lst (.cons (.tup (.cons (.cst (.int 4)) (.cons (.cst (.int 6)) .nil))) (.cons (.tup (.cons (.cst (.int 0)) (.cons (.cst (.int 2)) .nil))) (.cons (.tup (.cons (.cst (.int 3)) (.cons (.neg (.cst (.int 2))) .nil))) (.cons (.tup (.cons (.cst (.int 1)) (.cons (.cst (.int 0)) .nil))) (.cons (.lst (.cons (.cst (.int 2)) (.cons (.cst (.int 3)) .nil))) (.cons (.tup (.cons (.cst (.bl true)) (.cons (.cst (.int 2)) .nil))) (.cons (.tup (.cons (.cst (.int 2)) (.cons (.cst (.bl true)) .nil))) (.cons (.tup (.cons (.cst (.int 2)) (.cons (.cst (.int 3)) (.cons (.cst (.int 1)) .nil)))) (.cons (.tup (.cons (.cst (.int 2)) .nil)) (.cons (.tup .nil) (.cons (.cst .non) (.cons (.cst (.int 3)) (.cons (.cst (.str (PySem.Str.ofString "23"))) (.cons (.tup (.cons (.cst (.str (PySem.Str.ofString "2"))) (.cons (.cst (.int 3)) .nil))) (.cons (.tup (.cons (.tup (.cons (.cst (.int 2)) (.cons (.cst (.int 3)) .nil))) (.cons (.cst (.int 1)) .nil))) .nil))))))))))))))))) (.cons (.set 2 (.loc (.cons (.comp (.call 3 (.cons (.var 4) .nil)) [4] (.n 4) (.one (.op .add (.var 0) (.var 1))) (.cst (.bl true))) (.cons (.comp (.call 4 (.cons (.var 4) .nil)) [4] (.n 4) (.one (.op .add (.var 0) (.var 1))) (.cst (.bl true))) .nil)))) (.cons (.set 3 (.lst (.cons (.op .add (.op .mul (.lst (.cons (.cst (.bl true)) .nil)) (.cst (.int 4))) (.op .mul (.lst (.cons (.cst (.bl false)) .nil)) (.cst (.int 15)))) (.cons (.op .add (.lst (.cons (.cst (.bl true)) (.cons (.cst (.bl false)) (.cons (.cst (.bl false)) (.cons (.cst (.bl true)) .nil))))) (.op .mul (.lst (.cons (.cst (.bl false)) .nil)) (.cst (.int 15)))) .nil)))) (.cons (.set 2 (.locC (.frz (.var 2)) (.lst (.cons (.call 5 (.cons (.cst (.int 6)) (.cons (.neg (.cst (.int 4))) .nil))) (.cons (.call 5 (.cons (.cst (.int 0)) (.cons (.neg (.cst (.int 9))) .nil))) (.cons (.callk 5 .nil [0, 1] (.cons (.op .pow (.cst (.int 10)) (.cst (.int 12))) (.cons (.cst (.int 5)) .nil))) (.cons (.call 6 (.cons (.tup (.cons (.cst (.int 1)) (.cons (.cst (.int 2)) .nil))) (.cons (.tup (.cons (.cst (.int 1)) (.cons (.cst (.int 3)) .nil))) .nil))) (.cons (.callk 7 .nil [1, 0] (.cons (.lst (.cons (.cst (.int 1)) (.cons (.cst (.int 3)) .nil))) (.cons (.lst (.cons (.cst (.int 1)) (.cons (.cst (.int 2)) .nil))) .nil))) .nil)))))))) (.cons (.set 3 (.op .add (.var 3) (.lst (.cons (.tup (.cons (.neg (.cst (.int 3))) (.cons (.cst (.int 2)) .nil))) (.cons (.tup (.cons (.cst (.int 0)) (.cons (.cst (.int 1)) .nil))) (.cons (.tup (.cons (.cst (.int 200000000000)) (.cons (.cst (.int 1)) .nil))) (.cons (.tup (.cons (.cst (.int 5)) (.cons (.cst (.int 6)) .nil))) (.cons (.tup (.cons (.cst (.int 1)) (.cons (.cst (.int 6)) .nil))) .nil)))))))) (.cons (.set 2 (.locC (.frz (.var 2)) (.lst (.cons (.call 8 (.cons (.tup (.cons (.cst (.int 2)) (.cons (.cst (.int 3)) .nil))) (.cons (.tup (.cons (.neg (.cst (.int 3))) (.cons (.cst (.int 4)) .nil))) .nil))) (.cons (.call 9 (.cons (.tup (.cons (.cst (.int 2)) (.cons (.cst (.int 3)) .nil))) (.cons (.tup (.cons (.neg (.cst (.int 4))) (.cons (.cst (.int 9)) .nil))) .nil))) (.cons (.call 10 (.cons (.tup (.cons (.cst (.int 2)) (.cons (.cst (.int 3)) .nil))) (.cons (.tup (.cons (.cst (.int 3)) (.cons (.cst (.int 4)) .nil))) .nil))) (.cons (.callk 10 .nil [1, 0] (.cons (.lst (.cons (.neg (.cst (.int 1))) (.cons (.cst (.int 2)) .nil))) (.cons (.lst (.cons (.neg (.cst (.int 1))) (.cons (.cst (.int 2)) .nil))) .nil))) .nil))))))) (.cons (.set 3 (.op .add (.var 3) (.lst (.cons (.tup (.cons (.neg (.cst (.int 1))) (.cons (.cst (.int 2)) .nil))) (.cons (.tup (.cons (.neg (.cst (.int 3))) (.cons (.cst (.int 2)) .nil))) (.cons (.cst (.bl true)) (.cons (.cst (.bl false)) .nil))))))) (.cons (.set 2 (.locC (.frz (.var 2)) (.lst (.cons (.call 11 (.cons (.lst (.cons (.lst (.cons (.cst (.int 1)) (.cons (.cst (.int 2)) .nil))) (.cons (.lst (.cons (.cst (.int 2)) (.cons (.cst (.int 3)) .nil))) (.cons (.lst (.cons (.neg (.cst (.int 5))) (.cons (.cst (.int 1)) .nil))) .nil)))) .nil)) (.cons (.callk 12 .nil [0] (.cons (.tup (.cons (.tup (.cons (.cst (.int 1)) (.cons (.cst (.int 2)) .nil))) (.cons (.tup (.cons (.cst (.int 2)) (.cons (.cst (.int 3)) .nil))) (.cons (.tup (.cons (.neg (.cst (.int 5))) (.cons (.cst (.int 1)) .nil))) .nil)))) .nil)) (.cons (.call 13 (.cons (.tup (.cons (.cst (.int 1)) (.cons (.cst (.int 1)) .nil))) (.cons (.tup (.cons (.cst (.int 2)) (.cons (.cst (.int 1)) .nil))) (.cons (.tup (.cons (.cst (.int 5)) (.cons (.cst (.int 4)) .nil))) (.cons (.tup (.cons (.cst (.int 0)) (.cons (.cst (.int 1)) .nil))) (.cons (.tup (.cons (.cst (.int 8)) (.cons (.cst (.int 1)) .nil))) .nil)))))) .nil)))))) (.cons (.set 3 (.op .add (.var 3) (.lst (.cons (.tup (.cons (.cst (.int 2)) (.cons (.cst (.int 3)) .nil))) (.cons (.tup (.cons (.neg (.cst (.int 5))) (.cons (.cst (.int 1)) .nil))) (.cons (.tup (.cons (.cst (.int 2)) (.cons (.cst (.int 1)) .nil))) .nil)))))) (.cons (.ex (.app 2 (.callk 13 .nil [4, 3, 2, 1, 0] (.cons (.lst (.cons (.cst (.int 8)) (.cons (.cst (.int 1)) .nil))) (.cons (.lst (.cons (.cst (.int 0)) (.cons (.cst (.int 1)) .nil))) (.cons (.lst (.cons (.cst (.int 5)) (.cons (.cst (.int 4)) .nil))) (.cons (.lst (.cons (.cst (.int 1)) (.cons (.cst (.int 1)) .nil))) (.cons (.lst (.cons (.cst (.int 2)) (.cons (.cst (.int 1)) .nil))) .nil)))))))) (.cons (.set 2 (.locC (.frz (.var 2)) (.lst (.cons (.call 23 (.cons (.gfn 5) (.cons (.tup (.cons (.cst (.int 1)) (.cons (.cst (.int 0)) .nil))) .nil))) (.cons (.call 23 (.cons (.gfn 9) (.cons (.tup (.cons (.tup (.cons (.cst (.int 1)) (.cons (.cst (.int 2)) .nil))) (.cons (.tup (.cons (.cst (.int 0)) (.cons (.cst (.int 1)) .nil))) .nil))) .nil))) (.cons (.call 23 (.cons (.gfn 11) (.cons (.tup (.cons (.tup .nil) .nil)) .nil))) (.cons (.call 23 (.cons (.gfn 12) (.cons (.tup (.cons (.lst .nil) .nil)) .nil))) .nil))))))) (.cons (.set 3 (.op .add (.var 3) (.lst (.cons (.tup (.cons (.cst (.int 6)) (.cons (.cst (.int 1)) .nil))) (.cons (.lst (.cons (.cst (.str (PySem.Str.ofString "unfit"))) (.cons (.cst (.bl true)) .nil))) (.cons (.lst (.cons (.cst (.str (PySem.Str.ofString "cannot"))) (.cons (.cst (.bl true)) .nil))) (.cons (.lst (.cons (.cst (.str (PySem.Str.ofString "cannot"))) (.cons (.cst (.bl true)) .nil))) (.cons (.lst (.cons (.cst (.str (PySem.Str.ofString "cannot"))) (.cons (.cst (.bl true)) .nil))) .nil)))))))) (.cons (.set 2 (.locC (.frz (.var 2)) (.lst (.cons (.call 13 (.cons (.tup (.cons (.cst (.int 1)) (.cons (.cst (.int 2)) .nil))) (.cons (.tup (.cons (.cst (.int 1)) (.cons (.cst (.int 1)) .nil))) (.cons (.tup (.cons (.cst (.int 2)) (.cons (.cst (.int 1)) .nil))) (.cons (.tup (.cons (.cst (.int 3)) (.cons (.cst (.int 1)) .nil))) (.cons (.tup (.cons (.cst (.int 1)) (.cons (.cst (.int 1)) .nil))) .nil)))))) (.cons (.call 24 (.cons (.tup (.cons (.cst (.int 1)) (.cons (.cst (.int 2)) .nil))) (.cons (.tup (.cons (.cst (.int 1)) (.cons (.cst (.int 2)) .nil))) .nil))) .nil))))) (.cons (.ret (.call 17 (.cons (.frz (.var 2)) (.cons (.op .add (.var 3) (.lst (.cons (.tup (.cons (.neg (.cst (.int 3))) (.cons (.cst (.int 1)) .nil))) (.cons (.lst (.cons (.cst (.str (PySem.Str.ofString "cannot"))) .nil)) .nil)))) .nil)))) .nil)))))))))))))))
def N25 : List PySem.Str := ["goods", "bads", "got", "goal", "own"]
def f25 : Fn := ⟨0, 5, b25⟩
def st25 : PySem.Stmt := top 32
def df25 : Df := ⟨"_law_hand_right", L2.defArgs st25, L2.defBody st25, L2.defScope st25, N25⟩
/-- _law_right -/
def b26 : Sm := (.cons (.par3 11 12 13 (.call 21 (.cons (.var 0) .nil)) (.call 21 (.cons (.var 0) .nil)) (.call 21 (.cons (.var 0) .nil))) (.cons (.par 14 15 (.op .sub (.call 15 (.cons (.var 0) (.cons (.cst (.int 41)) .nil))) (.cst (.int 20))) (.op .sub (.call 15 (.cons (.var 0) (.cons (.cst (.int 401)) .nil))) (.cst (.int 200)))) (.cons (.set 1 (.call 18 (.cons (.var 11) .nil))) (.cons (.set 2 (.lst (.cons (.call 6 (.cons (.var 1) (.cons (.var 12) .nil))) (.cons (.call 7 (.cons (.var 11) (.cons (.call 18 (.cons (.var 12) .nil)) .nil))) (.cons (.call 8 (.cons (.var 11) (.cons (.var 12) .nil))) (.cons (.call 10 (.cons (.var 1) (.cons (.var 12) .nil))) (.cons (.call 10 (.cons (.var 12) (.cons (.var 11) .nil))) .nil))))))) (.cons (.set 3 (.loc (.cons (.call 19 (.cons (.op .add (.op .mul (.idx (.var 11) (.cst (.int 0))) (.idx (.var 12) (.cst (.int 1)))) (.op .mul (.idx (.var 12) (.cst (.int 0))) (.idx (.var 11) (.cst (.int 1))))) (.cons (.op .mul (.idx (.var 11) (.cst (.int 1))) (.idx (.var 12) (.cst (.int 1)))) .nil))) .nil))) (.cons (.ex (.app 3 (.call 19 (.cons (.op .sub (.op .mul (.idx (.var 11) (.cst (.int 0))) (.idx (.var 12) (.cst (.int 1)))) (.op .mul (.idx (.var 12) (.cst (.int 0))) (.idx (.var 11) (.cst (.int 1))))) (.cons (.op .mul (.idx (.var 11) (.cst (.int 1))) (.idx (.var 12) (.cst (.int 1)))) .nil))))) (.cons (.set 3 (.locC (.frz (.var 3)) (.lst (.cons (.call 19 (.cons (.op .mul (.idx (.var 11) (.cst (.int 0))) (.idx (.var 12) (.cst (.int 0)))) (.cons (.op .mul (.idx (.var 11) (.cst (.int 1))) (.idx (.var 12) (.cst (.int 1)))) .nil))) (.cons (.call 20 (.cons (.var 11) (.cons (.var 12) .nil))) (.cons (.call 20 (.cons (.var 12) (.cons (.var 11) .nil))) .nil)))))) (.cons (.set 2 (.op .add (.var 2) (.lst (.cons (.call 23 (.cons (.gfn 9) (.cons (.tup (.cons (.var 11) (.cons (.var 12) .nil))) .nil))) (.cons (.call 23 (.cons (.gfn 5) (.cons (.tup (.cons (.var 15) (.cons (.var 14) .nil))) .nil))) .nil))))) (.cons (.ex (.app 3 (.ite (.cmp .eq (.idx (.var 12) (.cst (.int 0))) (.cst (.int 0))) (.lst (.cons (.cst (.str (PySem.Str.ofString "cannot"))) (.cons (.cst (.bl true)) .nil))) (.call 22 (.cons (.op .mul (.idx (.var 11) (.cst (.int 0))) (.idx (.var 12) (.cst (.int 1)))) (.cons (.op .mul (.idx (.var 11) (.cst (.int 1))) (.idx (.var 12) (.cst (.int 0)))) .nil)))))) (.cons (.ex (.app 3 (.ite (.cmp .eq (.var 14) (.cst (.int 0))) (.lst (.cons (.cst (.str (PySem.Str.ofString "unfit"))) (.cons (.cst (.bl true)) .nil))) (.call 22 (.cons (.var 15) (.cons (.var 14) .nil)))))) (.cons (.set 4 (.lst (.cons (.var 11) (.cons (.var 12) (.cons (.var 13) .nil))))) (.cons (.for_ (.n 5) (.rng (.cst (.int 2))) (.cons (.for_ (.n 16) (.rng (.cst (.int 2))) (.cons (.ite (.call 20 (.cons (.idx (.var 4) (.op .add (.var 16) (.cst (.int 1)))) (.cons (.idx (.var 4) (.var 16)) .nil))) (.cons (.set 4 (.op .add (.op .add (.sl (.var 4) (.cst .non) (.var 16)) (.lst (.cons (.idx (.var 4) (.op .add (.var 16) (.cst (.int 1)))) (.cons (.idx (.var 4) (.var 16)) .nil)))) (.sl (.var 4) (.op .add (.var 16) (.cst (.int 2))) (.cst .non)))) .nil) .nil) .nil)) .nil)) (.cons (.set 2 (.op .add (.var 2) (.lst (.cons (.call 12 (.cons (.tup (.cons (.var 13) (.cons (.var 11) (.cons (.var 12) .nil)))) .nil)) (.cons (.call 11 (.cons (.lst (.cons (.var 12) (.cons (.var 13) (.cons (.var 11) .nil)))) .nil)) (.cons (.call 3 (.cons (.var 11) .nil)) (.cons (.call 4 (.cons (.var 11) .nil)) .nil))))))) (.cons (.ite (.not (.call 17 (.cons (.var 2) (.cons (.op .add (.frz (.var 3)) (.lst (.cons (.idx (.var 4) (.cst (.int 0))) (.cons (.idx (.var 4) (.cst (.int 2))) (.cons (.cst (.bl true)) (.cons (.cmp .gt (.idx (.var 11) (.cst (.int 0))) (.cst (.int 0))) .nil)))))) .nil)))) (.cons (.ret (.cst (.bl false))) .nil) .nil) (.cons (.set 6 (.lst (.cons (.tup (.cons (.op .mul (.idx (.var 11) (.cst (.int 0))) (.cst (.int 2))) (.cons (.op .mul (.idx (.var 11) (.cst (.int 1))) (.cst (.int 2))) .nil))) (.cons (.tup (.cons (.idx (.var 11) (.cst (.int 0))) (.cons (.op .sub (.cst (.int 0)) (.idx (.var 11) (.cst (.int 1)))) .nil))) (.cons (.tup (.cons (.idx (.var 11) (.cst (.int 0))) (.cons (.cst (.int 0)) .nil))) (.cons (.blt .list (.cons (.var 11) .nil)) .nil)))))) (.cons (.ite (.not (.call 17 (.cons (.comp (.call 3 (.cons (.var 19) .nil)) [19] (.n 19) (.one (.var 6)) (.cst (.bl true))) (.cons (.op .mul (.lst (.cons (.cst (.bl false)) .nil)) (.cst (.int 4))) .nil)))) (.cons (.ret (.cst (.bl false))) .nil) .nil) (.cons (.par 17 18 (.call 21 (.cons (.var 0) .nil)) (.call 21 (.cons (.var 0) .nil))) (.cons (.ite (.call 17 (.cons (.var 11) (.cons (.var 12) .nil))) (.cons (.ret (.call 17 (.cons (.call 24 (.cons (.var 11) (.cons (.var 12) .nil))) (.cons (.lst (.cons (.cst (.str (PySem.Str.ofString "cannot"))) .nil)) .nil)))) .nil) .nil) (.cons (.set 7 (.tup (.cons (.op .sub (.op .mul (.idx (.var 13) (.cst (.int 0))) (.idx (.var 11) (.cst (.int 1)))) (.op .mul (.idx (.var 11) (.cst (.int 0))) (.idx (.var 13) (.cst (.int 1))))) (.cons (.op .mul (.idx (.var 13) (.cst (.int 1))) (.idx (.var 11) (.cst (.int 1)))) .nil)))) (.cons (.set 8 (.tup (.cons (.op .sub (.op .mul (.idx (.var 12) (.cst (.int 0))) (.idx (.var 11) (.cst (.int 1)))) (.op .mul (.idx (.var 11) (.cst (.int 0))) (.idx (.var 12) (.cst (.int 1))))) (.cons (.op .mul (.idx (.var 12) (.cst (.int 1))) (.idx (.var 11) (.cst (.int 1)))) .nil)))) (.cons (.set 9 (.call 22 (.cons (.op .mul (.idx (.var 7) (.cst (.int 0))) (.idx (.var 8) (.cst (.int 1)))) (.cons (.op .mul (.idx (.var 7) (.cst (.int 1))) (.idx (.var 8) (.cst (.int 0)))) .nil)))) (.cons (.set 10 (.tup (.cons (.op .sub (.op .mul (.idx (.var 18) (.cst (.int 0))) (.idx (.var 17) (.cst (.int 1)))) (.op .mul (.idx (.var 17) (.cst (.int 0))) (.idx (.var 18) (.cst (.int 1))))) (.cons (.op .mul (.idx (.var 18) (.cst (.int 1))) (.idx (.var 17) (.cst (.int 1)))) .nil)))) (.cons (.set 3 (.call 19 (.cons (.op .add (.op .mul (.op .mul (.idx (.var 17) (.cst (.int 0))) (.idx (.var 10) (.cst (.int 1)))) (.idx (.var 9) (.cst (.int 1)))) (.op .mul (.op .mul (.idx (.var 10) (.cst (.int 0))) (.idx (.var 9) (.cst (.int 0)))) (.idx (.var 17) (.cst (.int 1))))) (.cons (.op .mul (.op .mul (.idx (.var 17) (.cst (.int 1))) (.idx (.var 10) (.cst (.int 1)))) (.idx (.var 9) (.cst (.int 1)))) .nil)))) (.cons (.ret (.call 17 (.cons (.call 13 (.cons (.var 11) (.cons (.call 18 (.cons (.var 12) .nil)) (.cons (.var 13) (.cons (.var 17) (.cons (.var 18) .nil)))))) (.cons (.var 3) .nil)))) .nil))))))))))))))))))))))))
def N26 : List PySem.Str := ["tin", "soft", "got", "goal", "row", "lap", "things", "part", "whole", "portion", "more", "one", "other", "third", "below", "top", "k", "first", "second", "own"]
def f26 : Fn := ⟨1, 20, b26⟩
def st26 : PySem.Stmt := top 33
def df26 : Df := ⟨"_law_right", L2.defArgs st26, L2.defBody st26, L2.defScope st26, N26⟩
/-- law -/
def b27 : Sm := (.cons (.ret (.and (.call 25 .nil) (.one (.call 26 (.cons (.call 14 (.cons (.call 16 (.cons (.var 0) (.cons (.cst (.int 1)) .nil))) (.cons (.cst (.int 0)) .nil))) .nil))))) .nil)
def N27 : List PySem.Str := ["script"]
def f27 : Fn := ⟨1, 1, b27⟩
def st27 : PySem.Stmt := top 34
def df27 : Df := ⟨"law", L2.defArgs st27, L2.defBody st27, L2.defScope st27, N27⟩
def G : Pg := ⟨[⟨"is_number", ["thing"]⟩, ⟨"is_from", ["thing", "low"]⟩, ⟨"is_tuple_of", ["thing", "many"]⟩, ⟨"is_fraction", ["thing"]⟩, ⟨"is_scale", ["thing"]⟩, ⟨"fraction", ["top", "below"]⟩, ⟨"plus", ["one", "other"]⟩, ⟨"minus", ["one", "other"]⟩, ⟨"times", ["one", "other"]⟩, ⟨"over", ["one", "other"]⟩, ⟨"is_less", ["one", "other"]⟩, ⟨"greatest", ["many"]⟩, ⟨"least", ["many"]⟩, ⟨"straight", ["low", "high", "scale", "first", "second"]⟩, ⟨"_law_box", ["script", "k"]⟩, ⟨"_law_take", ["tin", "below"]⟩, ⟨"_law_cells", ["script", "limit"]⟩, ⟨"_law_same", ["got", "goal"]⟩, ⟨"_law_lists", ["matter"]⟩, ⟨"_law_low", ["top", "below"]⟩, ⟨"_law_under", ["one", "other"]⟩, ⟨"_law_any", ["tin"]⟩, ⟨"_law_turned", ["top", "below"]⟩, ⟨"_law_heard", ["way", "given"]⟩, ⟨"_law_straight_heard", ["low", "high"]⟩, ⟨"_law_hand_right", []⟩, ⟨"_law_right", ["tin"]⟩, ⟨"law", ["script"]⟩], ["CanNot", "Unfit"], ["ValueError"], ["abs", "all", "bool", "enumerate", "int", "isinstance", "len", "list", "range", "str", "tuple", "zip"], true⟩
def Fs : List Fn := [f0, f1, f2, f3, f4, f5, f6, f7, f8, f9, f10, f11, f12, f13, f14, f15, f16, f17, f18, f19, f20, f21, f22, f23, f24, f25, f26, f27]
def Ds : List Df := [df0, df1, df2, df3, df4, df5, df6, df7, df8, df9, df10, df11, df12, df13, df14, df15, df16, df17, df18, df19, df20, df21, df22, df23, df24, df25, df26, df27]
/- law is def 27, at the top's place 34; loc: {'_law_take': ['tin'], '_law_cells': ['numbers_so'], '_law_any': ['tin'], '_law_hand_right': ['got'], '_law_right': ['goal', 'tin']}; retloc: ['_law_box'] -/
def mm : List (List Bool) := [[true, false], [false, true]]
def bb : List (List Bool) := [[true], [true]]
abbrev is : Nat → Nat → Bool := isOf G mm bb
abbrev C (n : Nat) : Cl := ⟨callN Fs is n, is⟩
end K01

set_option Elab.async false
set_option linter.all false
set_option maxRecDepth 100000
set_option maxHeartbeats 4000000
namespace K01
open PySem Ev

theorem call_s {n f : Nat} {F : Fn} (h : Fs[f]? = some F) {vs : List D} {S : Sto} (hl : vs.length = F.np) : callN Fs is (n + 1) f vs S = endF S.length (evS (C n) F.body (vs.map some ++ List.replicate (F.nl - F.np) none) S) := by
  rw [callN, h]
  simp only
  rw [if_pos hl]
theorem hand : callN Fs is 11 25 [] [] = .ok (.bl true) [] := by kernel_rfl

theorem fits_int {n : Nat} {i : Int} : D.fits n (.int i) = true := rfl
theorem mul_r {i j : Int} (h1 : -(2 ^ 64) < j) (h2 : j < 2 ^ 64) : mulOk i j = true := by
  unfold mulOk
  simp only [Bool.or_eq_true, Bool.and_eq_true, decide_eq_true_eq]
  exact .inl (.inr ⟨h1, h2⟩)
theorem mul_l {i j : Int} (h1 : -(2 ^ 64) < i) (h2 : i < 2 ^ 64) : mulOk i j = true := by
  unfold mulOk
  simp only [Bool.or_eq_true, Bool.and_eq_true, decide_eq_true_eq]
  exact .inl (.inl ⟨h1, h2⟩)
theorem div_k {j : Int} (h : j ≠ 0) (h2 : j.natAbs < 2 ^ 64) : divOk j = true := by
  unfold divOk
  simp only [Bool.and_eq_true, decide_eq_true_eq]
  refine ⟨h, ?_⟩
  have := (Nat.log2_lt (n := j.natAbs) (k := 64) (by omega)).mpr h2
  omega

/-- the tin -/
structure Tin (a b z : Int) : Prop where
  a0 : 0 ≤ a
  b0 : 0 ≤ b
  b1 : b < 2 ^ 62
  z0 : 0 ≤ z
  z1 : z < 2 ^ 20
theorem take_a {n : Nat} {a b z w : Int} {S : Sto} (ha : 0 < a) (hw : 0 < w) (hw2 : w < 2 ^ 60) : callN Fs is (n + 1) 15 [.loc 0, .int w] (some [.int a, .int b, .int z] :: S) = .ok (.int (a.fmod w)) (some [.int (a.fdiv w), .int b, .int z] :: S) := by
  rw [call_s (F := f15) rfl rfl]
  have hd : divOk w = true := div_k (by omega) (by omega)
  have hw0 : w ≠ 0 := by omega
  simp [f15, b15, evS, evE, evA, List.replicate, ha, hd, hw0, op_modi, op_divi, endF, Ev.fin, D.fits]
theorem fmod_b {x m : Int} (h : 0 < m) : 0 ≤ x.fmod m ∧ x.fmod m < m := ⟨Int.fmod_nonneg_of_pos x h, Int.fmod_lt_of_pos x h⟩
theorem take_b {n : Nat} {a b z w : Int} {S : Sto} (ha : a ≤ 0) (hz : 0 ≤ z) (hz2 : z < 2 ^ 20) (hw : 0 < w) :
    ∃ r, 0 ≤ r ∧ r < w ∧ callN Fs is (n + 1) 15 [.loc 0, .int w] (some [.int a, .int b, .int z] :: S) = .ok (.int r) (some [.int a, .int b, .int (z + 1)] :: S) := by
  have hw0 : w ≠ 0 := by omega
  have ha' : ¬ 0 < a := by omega
  have h1 : ∀ j, mulOk 48271 j = true := fun j => mul_l (by decide) (by decide)
  have h2 : ∀ i, mulOk i 48271 = true := fun j => mul_r (by decide) (by decide)
  have h3 : ∀ i, mulOk i (39373 + (z + 1)) = true := fun i => mul_r (by omega) (by omega)
  have h4 : ∀ i x, mulOk i (Int.fmod x 40009 + 7) = true := fun i x => by
    have := fmod_b (x := x) (m := 40009) (by decide)
    exact mul_r (by omega) (by omega)
  have h5 : divOk 1000003 = true := div_k (by decide) (by decide)
  have h6 : divOk 64 = true := div_k (by decide) (by decide)
  refine ⟨Int.fmod ?X w, (fmod_b hw).1, (fmod_b hw).2, ?h⟩
  case h =>
    rw [call_s (F := f15) rfl rfl]
    simp [f15, b15, evS, evE, evA, List.replicate, ha', hw0, op_modi, op_divi, op_muli, h1, h2, h3, h4, h5, h6, endF, Ev.fin, D.fits]
    rfl
/-- a take: what it gives, what it leaves -/
theorem take_ok {n : Nat} {a b z w : Int} {S : Sto} (t : Tin a b z) (hw : 0 < w) (hw2 : w < 2 ^ 60) :
    ∃ r a' z', 0 ≤ r ∧ r < w ∧ 0 ≤ a' ∧ 0 ≤ z' ∧ z' ≤ z + 1 ∧ callN Fs is (n + 1) 15 [.loc 0, .int w] (some [.int a, .int b, .int z] :: S) = .ok (.int r) (some [.int a', .int b, .int z'] :: S) := by
  by_cases ha : 0 < a
  · exact ⟨_, _, z, (fmod_b hw).1, (fmod_b hw).2, Int.fdiv_nonneg t.a0 (by omega), t.z0, by omega, take_a ha hw hw2⟩
  · obtain ⟨r, h1, h2, h3⟩ := take_b (n := n) (a := a) (b := b) (S := S) (by omega) t.z0 t.z1 hw
    exact ⟨r, a, z + 1, h1, h2, t.a0, by have := t.z0; omega, by omega, h3⟩
/-! ### _law_low -/
def lowB : Sm := (.cons (.ite (.cmp .eq (.var 4) (.cst (.int 0))) (.cons .brk .nil) .nil) (.cons (.par 3 4 (.var 4) (.op .mod (.var 3) (.var 4))) .nil))
abbrev lowE (t w : Int) (l : Option D) (x y : Nat) : Lenv := [some (.int t), some (.int w), l, some (.int x), some (.int y)]
theorem low_z {n : Nat} {t w : Int} {l : Option D} {x : Nat} {S : Sto} : evS (C n) lowB (lowE t w l x 0) S = .bk (lowE t w l x 0) S := by
  simp [lowB, evS, evE, eqD_int]
theorem low_n {n : Nat} {t w : Int} {l : Option D} {x y : Nat} {S : Sto} (h : y ≠ 0) : evS (C n) lowB (lowE t w l x y) S = .nx (lowE t w l y (x % y)) S := by
  have hy : (y : Int) ≠ 0 := by omega
  have e : Int.fmod (x : Int) (y : Int) = ((x % y : Nat) : Int) := (Int.ofNat_fmod x y).symm
  simp [lowB, evS, evE, hy, h, op_modi, e]
theorem low_end {n : Nat} {t w : Int} {l : Option D} {x : Nat} {S : Sto} : ∀ ds : List D, ∃ l', forL (evS (C n) lowB) (.n 2) ds (lowE t w l x 0) S = .nx (lowE t w l' x 0) S
  | [] => ⟨l, rfl⟩
  | d :: ds => ⟨some d, by
    unfold forL
    have e : Tg.set (.n 2) d (lowE t w l x 0) = some (lowE t w (some d) x 0) := rfl
    rw [e]
    simp only [low_z]⟩
theorem low_for {n : Nat} {t w : Int} {S : Sto} : ∀ (k : Nat) (l : Option D) (x y : Nat) (ds : List D), y < 2 ^ k → 2 * k ≤ ds.length → ∃ l', forL (evS (C n) lowB) (.n 2) ds (lowE t w l x y) S = .nx (lowE t w l' (Nat.gcd x y) 0) S
  | 0, l, x, y, ds, h, _ => by
    have : y = 0 := by simpa using h
    subst this
    rw [Nat.gcd_zero_right]
    exact low_end ds
  | k + 1, l, x, y, ds, h, hl => by
    by_cases hy : y = 0
    · subst hy
      rw [Nat.gcd_zero_right]
      exact low_end ds
    · match ds, hl with
      | d :: d2 :: ds, hl =>
        have e1 : Nat.gcd x y = Nat.gcd y (x % y) := by rw [Nat.gcd_comm x y, Nat.gcd_rec y x, Nat.gcd_comm]
        have st : ∀ (l : Option D) (d : D) (x y : Nat), Tg.set (.n 2) d (lowE t w l x y) = some (lowE t w (some d) x y) := fun _ _ _ _ => rfl
        unfold forL
        rw [st]
        simp only [low_n hy]
        by_cases hr : x % y = 0
        · rw [e1, hr, Nat.gcd_zero_right]
          exact low_end (d2 :: ds)
        · unfold forL
          rw [st]
          simp only [low_n hr]
          have lt : x % y < y := Nat.mod_lt _ (by omega)
          have e2 : Nat.gcd y (x % y) = Nat.gcd (x % y) (y % (x % y)) := by rw [Nat.gcd_comm y, Nat.gcd_rec (x % y) y, Nat.gcd_comm]
          have half : 2 * (y % (x % y)) < y := by
            have a1 : y % (x % y) < x % y := Nat.mod_lt _ (by omega)
            have a2 := Nat.div_add_mod y (x % y)
            have a3 : 1 ≤ y / (x % y) := (Nat.one_le_div_iff (by omega)).mpr (by omega)
            have a4 : (x % y) * 1 ≤ (x % y) * (y / (x % y)) := Nat.mul_le_mul_left _ a3
            omega
          rw [e1, e2]
          refine low_for k _ _ _ ds ?_ ?_
          · rw [Nat.pow_succ] at h
            omega
          · simp only [List.length_cons] at hl
            omega
theorem low_ok {n : Nat} {t w : Int} {S : Sto} (hw : 0 < w) (hw2 : w < 2 ^ 300) : callN Fs is (n + 1) 19 [.int t, .int w] S = .ok (.tup [.int (t.fdiv (Nat.gcd t.natAbs w.natAbs : Nat)), .int (w.fdiv (Nat.gcd t.natAbs w.natAbs : Nat))]) S := by
  obtain ⟨W, rfl⟩ := Int.eq_ofNat_of_zero_le (show 0 ≤ w by omega)
  have ha : (if t < 0 then -t else t) = ((t.natAbs : Nat) : Int) := by
    split <;> omega
  have hg0 : 0 < Nat.gcd t.natAbs W := Nat.gcd_pos_of_pos_right _ (by omega)
  have hgw : Nat.gcd t.natAbs W ≤ W := Nat.gcd_le_right _ (by omega)
  have hd : divOk ((Nat.gcd t.natAbs W : Nat) : Int) = true := by
    unfold divOk
    simp only [Bool.and_eq_true, decide_eq_true_eq]
    refine ⟨by omega, ?_⟩
    have h1 : Nat.gcd t.natAbs W < 2 ^ 300 := by omega
    have h2 : ((Nat.gcd t.natAbs W : Nat) : Int).natAbs = Nat.gcd t.natAbs W := rfl
    rw [h2]
    have := (Nat.log2_lt (n := Nat.gcd t.natAbs W) (k := 300) (by omega)).mpr h1
    omega
  obtain ⟨l', hf⟩ := low_for (n := n) (t := t) (w := (W : Int)) (S := S) 300 none t.natAbs W ((List.range 600).map fun (k : Nat) => .int (0 + (k : Int))) (by omega) (by simp)
  rw [call_s (F := f19) rfl rfl]
  have e0 : evI (C n) (.rng (.cst (.int 600))) (lowE t W none t.natAbs W) S = .ok ((List.range 600).map fun (k : Nat) => .int (0 + (k : Int))) S := rfl
  have hb : f19.body = .cons (.par 3 4 (.blt .abs (.cons (.blt .int (.cons (.var 0) .nil)) .nil)) (.blt .int (.cons (.var 1) .nil))) (.cons (.for_ (.n 2) (.rng (.cst (.int 600))) lowB) (.cons (.ret (.tup (.cons (.op .fdiv (.var 0) (.var 3)) (.cons (.op .fdiv (.var 1) (.var 3)) .nil)))) .nil)) := rfl
  rw [hb]
  have e1 : evS (C n) (.par 3 4 (.blt .abs (.cons (.blt .int (.cons (.var 0) .nil)) .nil)) (.blt .int (.cons (.var 1) .nil))) ([D.int t, D.int W].map some ++ List.replicate (f19.nl - f19.np) none) S = .nx (lowE t W none t.natAbs W) S := by
    simp [f19, evS, evE, evA, List.replicate, ha]
  rw [evS, e1]
  simp only
  rw [evS, evS, e0]
  simp only
  rw [hf]
  have hbig : (2 : Nat) ≤ big := by decide
  simp [evS, evE, evA, op_divi, hd, hbig, endF, Ev.fin, D.fits, D.fitsL]
end K01

set_option Elab.async false
set_option linter.all false
set_option maxRecDepth 100000
set_option maxHeartbeats 4000000
namespace K01
open PySem Ev

/-! ### lowest terms -/
def nf (t w : Int) : D := .tup [.int (t.fdiv (Nat.gcd t.natAbs w.natAbs : Nat)), .int (w.fdiv (Nat.gcd t.natAbs w.natAbs : Nat))]
structure Red (x y : Int) : Prop where
  y0 : 0 < y
  g : Nat.gcd x.natAbs y.natAbs = 1
theorem Red.uniq {x y x' y' : Int} (h : Red x y) (h' : Red x' y') (e : x * y' = x' * y) : x = x' ∧ y = y' := by
  have en : x.natAbs * y'.natAbs = x'.natAbs * y.natAbs := by rw [← Int.natAbs_mul, ← Int.natAbs_mul, e]
  have d1 : y.natAbs ∣ y'.natAbs := Nat.Coprime.dvd_of_dvd_mul_left (m := x.natAbs) (Nat.Coprime.symm h.g) ⟨x'.natAbs, by rw [en, Nat.mul_comm]⟩
  have d2 : y'.natAbs ∣ y.natAbs := Nat.Coprime.dvd_of_dvd_mul_left (m := x'.natAbs) (Nat.Coprime.symm h'.g) ⟨x.natAbs, by rw [← en, Nat.mul_comm]⟩
  have ey : y = y' := by
    have := Nat.dvd_antisymm d1 d2
    have := h.y0
    have := h'.y0
    omega
  subst ey
  exact ⟨Int.eq_of_mul_eq_mul_right (by have := h.y0; omega) e, rfl⟩
theorem nf_red {t w : Int} (hw : 0 < w) : ∃ x y, nf t w = .tup [.int x, .int y] ∧ Red x y ∧ x * w = t * y ∧ x.natAbs ≤ t.natAbs ∧ y ≤ w := by
  have hg : 0 < Nat.gcd t.natAbs w.natAbs := Nat.gcd_pos_of_pos_right _ (by omega)
  have g0 : ((Nat.gcd t.natAbs w.natAbs : Nat) : Int) ≠ 0 := by omega
  have d1 : ((Nat.gcd t.natAbs w.natAbs : Nat) : Int) ∣ t := Int.ofNat_dvd_left.mpr (Nat.gcd_dvd_left _ _)
  have d2 : ((Nat.gcd t.natAbs w.natAbs : Nat) : Int) ∣ w := Int.ofNat_dvd_left.mpr (Nat.gcd_dvd_right _ _)
  have e1 := Int.fdiv_mul_cancel d1
  have e2 := Int.fdiv_mul_cancel d2
  have co := Nat.coprime_div_gcd_div_gcd hg
  refine ⟨_, _, rfl, ⟨?_, ?_⟩, ?_, ?_, ?_⟩
  all_goals generalize hG : Nat.gcd t.natAbs w.natAbs = g at *
  all_goals generalize hx : t.fdiv (g : Int) = x at *
  all_goals generalize hy : w.fdiv (g : Int) = y at *
  · by_cases h : 0 < y
    · exact h
    · exfalso
      have : y * (g : Int) ≤ 0 := Int.mul_nonpos_of_nonpos_of_nonneg (by omega) (by omega)
      omega
  · have a1 : t.natAbs / g = x.natAbs := by rw [← e1, Int.natAbs_mul]; exact Nat.mul_div_cancel _ hg
    have a2 : w.natAbs / g = y.natAbs := by rw [← e2, Int.natAbs_mul]; exact Nat.mul_div_cancel _ hg
    rw [a1, a2] at co
    exact co
  · calc x * w = x * (y * g) := by rw [e2]
      _ = x * g * y := by rw [Int.mul_comm y, Int.mul_assoc]
      _ = t * y := by rw [e1]
  · rw [← e1, Int.natAbs_mul]
    exact Nat.le_mul_of_pos_right _ hg
  · have : y * 1 ≤ y * (g : Int) := by
      refine Int.mul_le_mul_of_nonneg_left (by omega) ?_
      by_cases h : 0 ≤ y
      · exact h
      · exfalso
        have : y * (g : Int) < 0 := Int.mul_neg_of_neg_of_pos (by omega) (by omega)
        omega
    omega
theorem nf_of {t w x y : Int} (hw : 0 < w) (h : Red x y) (e : x * w = t * y) : nf t w = .tup [.int x, .int y] := by
  obtain ⟨x', y', e1, r, e2, _, _⟩ := nf_red (t := t) hw
  have := Red.uniq r h (by
    have hw0 : w ≠ 0 := by omega
    refine Int.eq_of_mul_eq_mul_right hw0 ?_
    calc x' * y * w = x' * w * y := by rw [Int.mul_assoc, Int.mul_comm y, Int.mul_assoc]
      _ = t * y' * y := by rw [e2]
      _ = t * y * y' := by rw [Int.mul_assoc, Int.mul_comm y', Int.mul_assoc]
      _ = x * w * y' := by rw [e]
      _ = x * y' * w := by rw [Int.mul_assoc, Int.mul_comm w, Int.mul_assoc])
  rw [e1, this.1, this.2]
theorem nf_eq {t w t' w' : Int} (hw : 0 < w) (hw' : 0 < w') (e : t * w' = t' * w) : nf t w = nf t' w' := by
  obtain ⟨x, y, e1, r, e2, _, _⟩ := nf_red (t := t') hw'
  rw [e1]
  refine nf_of hw r ?_
  have hw0 : w' ≠ 0 := by omega
  refine Int.eq_of_mul_eq_mul_right hw0 ?_
  calc x * w * w' = x * w' * w := by rw [Int.mul_assoc, Int.mul_comm w, Int.mul_assoc]
    _ = t' * y * w := by rw [e2]
    _ = t' * w * y := by rw [Int.mul_assoc, Int.mul_comm y, Int.mul_assoc]
    _ = t * w' * y := by rw [e]
    _ = t * y * w' := by rw [Int.mul_assoc, Int.mul_comm w', Int.mul_assoc]
/-- with the sign above -/
def nfs (t w : Int) : D := if w < 0 then nf (-t) (-w) else nf t w

abbrev Bd (i : Int) : Prop := i.natAbs < 2 ^ 1000
theorem mul_b {i j : Int} (h1 : Bd i) (h2 : Bd j) : mulOk i j = true := by
  unfold mulOk
  simp only [Bool.or_eq_true, Bool.and_eq_true, decide_eq_true_eq]
  have l : ∀ {n : Nat}, n < 2 ^ 1000 → n.log2 ≤ 1000 := fun {n} h => by
    by_cases h0 : n = 0
    · subst h0; simp
    · have := (Nat.log2_lt (n := n) (k := 1000) h0).mpr h
      omega
  have := l h1
  have := l h2
  exact .inr (by omega)
theorem div_b {j : Int} (h0 : j ≠ 0) (h : Bd j) : divOk j = true := by
  unfold divOk
  simp only [Bool.and_eq_true, decide_eq_true_eq]
  refine ⟨h0, ?_⟩
  have := (Nat.log2_lt (n := j.natAbs) (k := 1000) (by omega)).mpr h
  omega
theorem low_nf {n : Nat} {t w : Int} {S : Sto} (hw : 0 < w) (hw2 : w < 2 ^ 300) : callN Fs is (n + 1) 19 [.int t, .int w] S = .ok (nf t w) S := low_ok hw hw2
theorem fraction_z {n : Nat} {t : Int} {S : Sto} : callN Fs is (n + 1) 5 [.int t, .int 0] S = .err 1 S := by
  rw [call_s (F := f5) rfl rfl]
  simp [f5, b5, evS, evE, evA, List.replicate, endF]
theorem fraction_ok {n : Nat} {t w : Int} {S : Sto} (h0 : w ≠ 0) (hb : Bd w) : callN Fs is (n + 1) 5 [.int t, .int w] S = .ok (nfs t w) S := by
  have hg : 0 < Nat.gcd t.natAbs w.natAbs := Nat.gcd_pos_of_pos_right _ (by omega)
  have hl : Nat.gcd t.natAbs w.natAbs ≤ w.natAbs := Nat.gcd_le_right _ (by omega)
  have hd : divOk ((Nat.gcd t.natAbs w.natAbs : Nat) : Int) = true := div_b (by omega) (by show Int.natAbs _ < _; have : w.natAbs < 2 ^ 1000 := hb; omega)
  have hd2 : divOk (-((Nat.gcd t.natAbs w.natAbs : Nat) : Int)) = true := div_b (by omega) (by show Int.natAbs _ < _; have : w.natAbs < 2 ^ 1000 := hb; omega)
  have hbig : (2 : Nat) ≤ big := by decide
  rw [call_s (F := f5) rfl rfl]
  by_cases h : w < 0
  · have e1 : ∀ a : Int, a.fdiv (-((Nat.gcd t.natAbs w.natAbs : Nat) : Int)) = (-a).fdiv (Nat.gcd t.natAbs w.natAbs : Nat) := fun a => by
      rw [← Int.neg_fdiv_neg (-a), Int.neg_neg]
    have e2 : nfs t w = .tup [.int ((-t).fdiv (Nat.gcd t.natAbs w.natAbs : Nat)), .int ((-w).fdiv (Nat.gcd t.natAbs w.natAbs : Nat))] := by
      unfold nfs nf
      rw [if_pos h, Int.natAbs_neg, Int.natAbs_neg]
    simp [f5, b5, evS, evE, evA, List.replicate, endF, h0, h, op_divi, hd2, hbig, Ev.fin, D.fits, D.fitsL, e1, e2]
  · have e2 : nfs t w = .tup [.int (t.fdiv (Nat.gcd t.natAbs w.natAbs : Nat)), .int (w.fdiv (Nat.gcd t.natAbs w.natAbs : Nat))] := by
      unfold nfs nf
      rw [if_neg h]
    simp [f5, b5, evS, evE, evA, List.replicate, endF, h0, h, op_divi, hd, hbig, Ev.fin, D.fits, D.fitsL, e2]
end K01

set_option Elab.async false
set_option linter.all false
set_option maxRecDepth 100000
set_option maxHeartbeats 4000000
namespace K01
open PySem Ev

structure Pr (d : D) (x y : Int) : Prop where
  i0 : ∀ S, ixD d (.int 0) S = some (.int x)
  i1 : ∀ S, ixD d (.int 1) S = some (.int y)
theorem pr_t {x y : Int} : Pr (.tup [.int x, .int y]) x y := ⟨fun S => by simp, fun S => by simp⟩
theorem pr_l {x y : Int} : Pr (.lst [.int x, .int y]) x y := ⟨fun S => by simp, fun S => by simp⟩
theorem nf_fits {n : Nat} {t w : Int} : D.fits n (nf t w) = true := rfl
theorem nfs_fits {n : Nat} {t w : Int} : D.fits n (nfs t w) = true := by
  unfold nfs
  split <;> rfl
/-- small -/
abbrev Sm3 (i : Int) : Prop := i.natAbs < 2 ^ 300
theorem sm_mul {i j : Int} (h1 : Sm3 i) (h2 : Sm3 j) : (i * j).natAbs < 2 ^ 600 := by
  rw [Int.natAbs_mul]
  have : i.natAbs * j.natAbs < 2 ^ 300 * 2 ^ 300 := Nat.mul_lt_mul'' h1 h2
  have e : (2 : Nat) ^ 300 * 2 ^ 300 = 2 ^ 600 := by rw [← Nat.pow_add]
  omega
theorem bd3 {i : Int} (h : Sm3 i) : Bd i := by
  have : (2 : Nat) ^ 300 ≤ 2 ^ 1000 := Nat.pow_le_pow_right (by omega) (by omega)
  show i.natAbs < _
  have : i.natAbs < 2 ^ 300 := h
  omega
theorem bd6 {i : Int} (h : i.natAbs < 2 ^ 600) : Bd i := by
  have : (2 : Nat) ^ 600 ≤ 2 ^ 1000 := Nat.pow_le_pow_right (by omega) (by omega)
  show i.natAbs < _
  omega
section
variable {n : Nat} {S : Sto} {d d' : D} {x y x' y' : Int}
theorem plus_ok (p : Pr d x y) (p' : Pr d' x' y') (hx : Sm3 x) (hy : Sm3 y) (hx' : Sm3 x') (hy' : Sm3 y') (h0 : y * y' ≠ 0) : callN Fs is (n + 2) 6 [d, d'] S = .ok (nfs (x * y' + x' * y) (y * y')) S := by
  rw [call_s (F := f6) rfl rfl]
  have m1 := mul_b (bd3 hx) (bd3 hy')
  have m2 := mul_b (bd3 hx') (bd3 hy)
  have m3 := mul_b (bd3 hy) (bd3 hy')
  simp [f6, b6, evS, evE, evA, List.replicate, p.i0, p.i1, p'.i0, p'.i1, op_muli, m1, m2, m3, fraction_ok h0 (bd6 (sm_mul hy hy')), endF, Ev.fin, nfs_fits]
theorem minus_ok (p : Pr d x y) (p' : Pr d' x' y') (hx : Sm3 x) (hy : Sm3 y) (hx' : Sm3 x') (hy' : Sm3 y') (h0 : y * y' ≠ 0) : callN Fs is (n + 2) 7 [d, d'] S = .ok (nfs (x * y' - x' * y) (y * y')) S := by
  rw [call_s (F := f7) rfl rfl]
  have m1 := mul_b (bd3 hx) (bd3 hy')
  have m2 := mul_b (bd3 hx') (bd3 hy)
  have m3 := mul_b (bd3 hy) (bd3 hy')
  simp [f7, b7, evS, evE, evA, List.replicate, p.i0, p.i1, p'.i0, p'.i1, op_muli, m1, m2, m3, fraction_ok h0 (bd6 (sm_mul hy hy')), endF, Ev.fin, nfs_fits]
theorem times_ok (p : Pr d x y) (p' : Pr d' x' y') (hx : Sm3 x) (hy : Sm3 y) (hx' : Sm3 x') (hy' : Sm3 y') (h0 : y * y' ≠ 0) : callN Fs is (n + 2) 8 [d, d'] S = .ok (nfs (x * x') (y * y')) S := by
  rw [call_s (F := f8) rfl rfl]
  have m1 := mul_b (bd3 hx) (bd3 hx')
  have m3 := mul_b (bd3 hy) (bd3 hy')
  simp [f8, b8, evS, evE, evA, List.replicate, p.i0, p.i1, p'.i0, p'.i1, op_muli, m1, m3, fraction_ok h0 (bd6 (sm_mul hy hy')), endF, Ev.fin, nfs_fits]
theorem over_z (p' : Pr d' 0 y') : callN Fs is (n + 2) 9 [d, d'] S = .err 0 S := by
  rw [call_s (F := f9) rfl rfl]
  simp [f9, b9, evS, evE, evA, List.replicate, p'.i0, endF]
theorem over_ok (p : Pr d x y) (p' : Pr d' x' y') (hx : Sm3 x) (hy : Sm3 y) (hx' : Sm3 x') (hy' : Sm3 y') (h1 : x' ≠ 0) (h0 : y ≠ 0) : callN Fs is (n + 2) 9 [d, d'] S = .ok (nfs (x * y') (y * x')) S := by
  rw [call_s (F := f9) rfl rfl]
  have m1 := mul_b (bd3 hx) (bd3 hy')
  have m3 := mul_b (bd3 hy) (bd3 hx')
  have h2 : y * x' ≠ 0 := Int.mul_ne_zero h0 h1
  simp [f9, b9, evS, evE, evA, List.replicate, p.i0, p.i1, p'.i0, p'.i1, op_muli, m1, m3, h1, fraction_ok h2 (bd6 (sm_mul hy hx')), endF, Ev.fin, nfs_fits]
theorem less_ok (p : Pr d x y) (p' : Pr d' x' y') (hx : Sm3 x) (hy : Sm3 y) (hx' : Sm3 x') (hy' : Sm3 y') : callN Fs is (n + 1) 10 [d, d'] S = .ok (.bl (decide (x * y' < x' * y))) S := by
  rw [call_s (F := f10) rfl rfl]
  have m1 := mul_b (bd3 hx) (bd3 hy')
  have m2 := mul_b (bd3 hx') (bd3 hy)
  simp [f10, b10, evS, evE, evA, List.replicate, p.i0, p.i1, p'.i0, p'.i1, op_muli, m1, m2, endF, Ev.fin, D.fits]
theorem under_ok (p : Pr d x y) (p' : Pr d' x' y') (hx : Sm3 x) (hy : Sm3 y) (hx' : Sm3 x') (hy' : Sm3 y') : callN Fs is (n + 1) 20 [d, d'] S = .ok (.bl (decide (x * y' < x' * y))) S := by
  rw [call_s (F := f20) rfl rfl]
  have m1 := mul_b (bd3 hx) (bd3 hy')
  have m2 := mul_b (bd3 hx') (bd3 hy)
  simp [f20, b20, evS, evE, evA, List.replicate, p.i0, p.i1, p'.i0, p'.i1, op_muli, m1, m2, endF, Ev.fin, D.fits]
theorem turned_ok {t w : Int} (h0 : w ≠ 0) (hb : w.natAbs < 2 ^ 299) : callN Fs is (n + 2) 22 [.int t, .int w] S = .ok (nfs t w) S := by
  rw [call_s (F := f22) rfl rfl]
  have e3 : (2 : Nat) ^ 300 = 2 * 2 ^ 299 := by rw [← Nat.pow_succ']
  have e4 : (2 : Int) ^ 300 = ((2 ^ 300 : Nat) : Int) := by norm_cast
  by_cases h : w < 0
  · have h1 : ¬ 0 < w := by omega
    have e := low_nf (n := n) (t := -t) (w := -w) (S := S) (by omega) (by omega)
    simp [f22, b22, evS, evE, evA, List.replicate, h1, e, endF, Ev.fin, nf_fits, nfs, h]
  · have h1 : 0 < w := by omega
    have e := low_nf (n := n) (t := t) (w := w) (S := S) (by omega) (by omega)
    simp [f22, b22, evS, evE, evA, List.replicate, h1, e, endF, Ev.fin, nf_fits, nfs, h]
theorem lists_ok : callN Fs is (n + 2) 18 [.tup [.int x, .int y]] S = .ok (.lst [.int x, .int y]) S := by
  rw [call_s (F := f18) rfl rfl]
  have e : ∀ i : Int, callN Fs is (n + 1) 18 [.int i] S = .ok (.int i) S := fun i => by
    rw [call_s (F := f18) rfl rfl]
    simp [f18, b18, evS, evE, evA, List.replicate, endF, Ev.fin, D.fits, isiD, tyD, isTy]
  have hbig : (2 : Nat) ≤ big := by decide
  simp [f18, b18, evS, evE, evA, evI, List.replicate, endF, Ev.fin, D.fits, D.fitsL, isiD, tyD, isTy, itD, hbig, compL, Tg.set, wipeE, e]
end
end K01

set_option Elab.async false
set_option linter.all false
set_option maxRecDepth 100000
set_option maxHeartbeats 4000000
set_option exponentiation.threshold 3000
namespace K01
open PySem Ev

theorem same_int {n : Nat} {S : Sto} {i j : Int} : callN Fs is (n + 1) 17 [.int i, .int j] S = .ok (.bl (decide (i = j))) S := by
  rw [call_s (F := f17) rfl rfl]
  simp [f17, b17, evS, evE, evA, List.replicate, endF, Ev.fin, D.fits, isiD, tyD, isTy]
theorem same_bl {n : Nat} {S : Sto} {i j : Bool} : callN Fs is (n + 1) 17 [.bl i, .bl j] S = .ok (.bl (decide (i = j))) S := by
  rw [call_s (F := f17) rfl rfl]
  cases i <;> cases j <;> simp [f17, b17, evS, evE, evA, List.replicate, endF, Ev.fin, D.fits, isiD, tyD, isTy]
theorem same_str {n : Nat} {S : Sto} {x : Str} (eqD_str : eqD (.str x) (.str x) = some true) : callN Fs is (n + 1) 17 [.str x, .str x] S = .ok (.bl true) S := by
  rw [call_s (F := f17) rfl rfl]
  simp [f17, b17, evS, evE, evA, List.replicate, endF, Ev.fin, D.fits, isiD, tyD, isTy, eqD_str]
/-- the comprehension of _law_same -/
theorem same_for {n : Nat} {S : Sto} {e : Lenv} {xs : List D} (he : e.length = 4) (h : ∀ x ∈ xs, callN Fs is n 17 [x, x] S = .ok (.bl true) S) :
    compL (evE (C n) (.call 17 (.cons (.var 2) (.cons (.var 3) .nil)))) (evE (C n) (.cst (.bl true))) (.t [2, 3]) e ((xs.zip xs).map fun p => .tup [p.1, p.2]) S = .ok (xs.map fun _ => .bl true) S := by
  obtain ⟨a, b, c, d, rfl⟩ : ∃ a b c d, e = [a, b, c, d] := by
    match e, he with
    | [a, b, c, d], _ => exact ⟨a, b, c, d, rfl⟩
  induction xs with
  | nil => rfl
  | cons x xs ih =>
    have h1 := h x List.mem_cons_self
    have h2 := ih fun y hy => h y (List.mem_cons_of_mem _ hy)
    simp only [List.zip_cons_cons, List.map_cons]
    unfold compL
    simp [evE, evA] at h2
    simp [Tg.set, setAll, evE, evA, h1, h2]
theorem bls_true : ∀ xs : List D, blsD (xs.map fun _ => .bl true) = some (xs.map fun _ => true)
  | [] => rfl
  | x :: xs => by simp [blsD, bls_true xs]
theorem all_true {α : Type} (xs : List α) : (xs.map fun _ => true).all id = true := by simp
theorem same_lst {n : Nat} {S : Sto} {xs : List D} (hb : xs.length ≤ big) (h : ∀ x ∈ xs, callN Fs is n 17 [x, x] S = .ok (.bl true) S) : callN Fs is (n + 1) 17 [.lst xs, .lst xs] S = .ok (.bl true) S := by
  rw [call_s (F := f17) rfl rfl]
  have q := same_for (e := [some (.lst xs), some (.lst xs), none, none]) rfl h
  simp [evE, evA] at q
  simp [f17, b17, evS, evE, evA, evI, List.replicate, endF, Ev.fin, D.fits, isiD, tyD, isTy, wipeE, q, bls_true, all_true, hb]
theorem same_tup {n : Nat} {S : Sto} {xs : List D} (hb : xs.length ≤ big) (h : ∀ x ∈ xs, callN Fs is n 17 [x, x] S = .ok (.bl true) S) : callN Fs is (n + 1) 17 [.tup xs, .tup xs] S = .ok (.bl true) S := by
  rw [call_s (F := f17) rfl rfl]
  have q := same_for (e := [some (.tup xs), some (.tup xs), none, none]) rfl h
  simp [evE, evA] at q
  simp [f17, b17, evS, evE, evA, evI, List.replicate, endF, Ev.fin, D.fits, isiD, tyD, isTy, wipeE, q, bls_true, all_true, hb]
theorem same_pr {n : Nat} {S : Sto} {x y x' y' : Int} : callN Fs is (n + 2) 17 [.tup [.int x, .int y], .tup [.int x', .int y']] S = .ok (.bl (decide (x = x') && decide (y = y'))) S := by
  rw [call_s (F := f17) rfl rfl]
  have hbig : (2 : Nat) ≤ big := by decide
  have h1 : callN Fs is (n + 1) 17 [.int x, .int x'] S = _ := same_int
  have h2 : callN Fs is (n + 1) 17 [.int y, .int y'] S = _ := same_int
  simp [f17, b17, evS, evE, evA, evI, List.replicate, endF, Ev.fin, D.fits, isiD, tyD, isTy, wipeE, hbig, compL, Tg.set, setAll, h1, h2, blsD]

theorem eq_cannot : eqD (.str (Str.ofString "cannot")) (.str (Str.ofString "cannot")) = some true := by kernel_rfl
theorem eq_unfit : eqD (.str (Str.ofString "unfit")) (.str (Str.ofString "unfit")) = some true := by kernel_rfl
end K01

set_option Elab.async false
set_option linter.all false
set_option maxRecDepth 100000
set_option maxHeartbeats 1000000
namespace K01
open PySem Ev
theorem sm12 {i : Int} (h : i.natAbs ≤ 10 ^ 12) : Sm3 i := by
  show i.natAbs < 2 ^ 300
  have h1 : (2 : Nat) ^ 40 ≤ 2 ^ 300 := Nat.pow_le_pow_right (by omega) (by omega)
  have h2 : (10 : Nat) ^ 12 < 2 ^ 40 := by decide
  exact Nat.lt_of_le_of_lt h (Nat.lt_of_lt_of_le h2 h1)
/-- _law_any -/
theorem any_ok {n : Nat} {a b z : Int} {S : Sto} (t : Tin a b z) (hz : z + 3 < 2 ^ 20) :
    ∃ x y a' z', Red x y ∧ x.natAbs ≤ 10 ^ 12 ∧ y ≤ 10 ^ 12 ∧ 0 ≤ a' ∧ 0 ≤ z' ∧ z' ≤ z + 3 ∧
      callN Fs is (n + 2) 21 [.loc 0] (some [.int a, .int b, .int z] :: S) = .ok (.tup [.int x, .int y]) (some [.int a', .int b, .int z'] :: S) := by
  obtain ⟨r, a1, z1, p1, p2, p3, p4, p5, e1⟩ := take_ok (n := n) (S := S) (w := 6) t (by decide) (by decide)
  have t1 : Tin a1 b z1 := ⟨p3, t.b0, t.b1, p4, by omega⟩
  have hbig : (2 : Nat) ≤ big := by decide
  have hp : powOk 10 12 = true := by decide
  have key : ∀ (u w : Int), 0 < u → 0 < w → u < 2 ^ 60 → w < 2 ^ 60 → ∃ r1 r2 a3 z3, 0 ≤ r1 ∧ r1 < u ∧ 0 ≤ r2 ∧ r2 < w ∧ 0 ≤ a3 ∧ 0 ≤ z3 ∧ z3 ≤ z + 3 ∧ ∃ a2 z2,
      callN Fs is (n + 1) 15 [.loc 0, .int u] (some [.int a1, .int b, .int z1] :: S) = .ok (.int r1) (some [.int a2, .int b, .int z2] :: S) ∧
      callN Fs is (n + 1) 15 [.loc 0, .int w] (some [.int a2, .int b, .int z2] :: S) = .ok (.int r2) (some [.int a3, .int b, .int z3] :: S) := by
    intro u w hu hw hu2 hw2
    obtain ⟨r1, a2, z2, q1, q2, q3, q4, q5, e2⟩ := take_ok (n := n) (S := S) (w := u) t1 hu hu2
    obtain ⟨r2, a3, z3, k1, k2, k3, k4, k5, e3⟩ := take_ok (n := n) (S := S) (w := w) (⟨q3, t.b0, t.b1, q4, by omega⟩ : Tin a2 b z2) hw hw2
    exact ⟨r1, r2, a3, z3, q1, q2, k1, k2, k3, k4, by omega, a2, z2, e2, e3⟩
  rw [call_s (F := f21) rfl rfl]
  by_cases hr : r = 0
  · obtain ⟨r1, r2, a3, z3, q1, q2, k1, k2, k3, k4, k5, a2, z2, e2, e3⟩ := key 2000000000001 1000000000000 (by decide) (by decide) (by decide) (by decide)
    obtain ⟨x, y, f1, f2, f3, f4, f5⟩ := nf_red (t := r1 - 1000000000000) (w := 1 + r2) (by omega)
    refine ⟨x, y, a3, z3, f2, by omega, by omega, k3, k4, k5, ?_⟩
    have e4 := low_nf (n := n) (t := r1 - 1000000000000) (w := 1 + r2) (S := some [.int a3, .int b, .int z3] :: S) (by omega) (by omega)
    subst hr
    simp [f21, b21, evS, evE, evA, List.replicate, e1, op_powi, hp, op_muli, mul_l, e2, e3, e4, f1, endF, Ev.fin, D.fits, D.fitsL]
  · obtain ⟨r1, r2, a3, z3, q1, q2, k1, k2, k3, k4, k5, a2, z2, e2, e3⟩ := key 61 12 (by decide) (by decide) (by decide) (by decide)
    obtain ⟨x, y, f1, f2, f3, f4, f5⟩ := nf_red (t := r1 - 30) (w := 1 + r2) (by omega)
    refine ⟨x, y, a3, z3, f2, by omega, by omega, k3, k4, k5, ?_⟩
    have e4 := low_nf (n := n) (t := r1 - 30) (w := 1 + r2) (S := some [.int a3, .int b, .int z3] :: S) (by omega) (by omega)
    simp [f21, b21, evS, evE, evA, List.replicate, e1, hr, e2, e3, e4, f1, endF, Ev.fin, D.fits, D.fitsL]
end K01

set_option Elab.async false
set_option linter.all false
set_option maxRecDepth 100000
set_option maxHeartbeats 1000000
namespace K01
open PySem Ev
abbrev P (x y : Int) : D := .tup [.int x, .int y]
abbrev sCan : D := .lst [.str (Str.ofString "cannot"), .bl true]
abbrev sUnf : D := .lst [.str (Str.ofString "unfit"), .bl true]
section
variable {n : Nat} {S : Sto} {x y x' y' x'' y'' : Int}
theorem is_01 : is 0 0 = true ∧ is 1 1 = true ∧ is 0 1 = false ∧ is 1 0 = false ∧ is 0 1000 = true ∧ is 1 1000 = true := by decide
theorem heard_over (hx : Sm3 x) (hy : Sm3 y) (hx' : Sm3 x') (hy' : Sm3 y') (h0 : y ≠ 0) : callN Fs is (n + 3) 23 [.fn 9, .tup [P x y, P x' y']] S = .ok (if x' = 0 then sCan else nfs (x * y') (y * x')) S := by
  rw [call_s (F := f23) rfl rfl]
  obtain ⟨i1, i2, i3, i4, i5, i6⟩ := is_01
  have hbig : (2 : Nat) ≤ big := by decide
  by_cases h : x' = 0
  · subst h
    have e := over_z (n := n) (S := S) (d := P x y) (d' := P 0 y') (y' := y') pr_t
    simp [f23, b23, evS, evE, evA, List.replicate, e, evH, unsl, outH, i1, i2, i3, i4, i5, i6, endF, Ev.fin, D.fits, D.fitsL, hbig]
  · have e := over_ok (n := n) (S := S) (pr_t (x := x) (y := y)) (pr_t (x := x') (y := y')) hx hy hx' hy' h h0
    simp [f23, b23, evS, evE, evA, List.replicate, e, h, endF, Ev.fin, nfs_fits]
theorem heard_frac (hb : Bd y) : callN Fs is (n + 2) 23 [.fn 5, .tup [.int x, .int y]] S = .ok (if y = 0 then sUnf else nfs x y) S := by
  rw [call_s (F := f23) rfl rfl]
  obtain ⟨i1, i2, i3, i4, i5, i6⟩ := is_01
  have hbig : (2 : Nat) ≤ big := by decide
  by_cases h : y = 0
  · subst h
    have e := fraction_z (n := n) (S := S) (t := x)
    simp [f23, b23, evS, evE, evA, List.replicate, e, evH, unsl, outH, i1, i2, i3, i4, i5, i6, endF, Ev.fin, D.fits, D.fitsL, hbig]
  · have e := fraction_ok (n := n) (S := S) (t := x) h hb
    simp [f23, b23, evS, evE, evA, List.replicate, e, h, endF, Ev.fin, nfs_fits]
/-! ### is_fraction, is_scale -/
theorem isn_int : callN Fs is (n + 1) 0 [.int x] S = .ok (.bl true) S := by
  rw [call_s (F := f0) rfl rfl]
  simp [f0, b0, evS, evE, evA, List.replicate, endF, Ev.fin, D.fits, isiD, tyD, isTy]
theorem isfrom_int : callN Fs is (n + 2) 1 [.int x, .int y] S = .ok (.bl (decide (y ≤ x))) S := by
  rw [call_s (F := f1) rfl rfl]
  simp [f1, b1, evS, evE, evA, List.replicate, isn_int, endF, Ev.fin, D.fits]
theorem istup2 : callN Fs is (n + 1) 2 [P x y, .int 2] S = .ok (.bl true) S := by
  rw [call_s (F := f2) rfl rfl]
  simp [f2, b2, evS, evE, evA, List.replicate, endF, Ev.fin, D.fits, isiD, tyD, isTy]
theorem istup2l {xs : List D} : callN Fs is (n + 1) 2 [.lst xs, .int 2] S = .ok (.bl false) S := by
  rw [call_s (F := f2) rfl rfl]
  simp [f2, b2, evS, evE, evA, List.replicate, endF, Ev.fin, D.fits, isiD, tyD, isTy]
theorem isf_ok : callN Fs is (n + 3) 3 [P x y] S = .ok (.bl (decide (1 ≤ y) && decide (Nat.gcd x.natAbs y.natAbs = 1))) S := by
  rw [call_s (F := f3) rfl rfl]
  by_cases h : 1 ≤ y
  · have e : ((Nat.gcd x.natAbs y.natAbs : Nat) : Int) = 1 ↔ Nat.gcd x.natAbs y.natAbs = 1 := by omega
    simp [f3, b3, evS, evE, evA, List.replicate, istup2, isn_int, isfrom_int, setAll, endF, Ev.fin, D.fits, h, e]
  · simp [f3, b3, evS, evE, evA, List.replicate, istup2, isn_int, isfrom_int, setAll, endF, Ev.fin, D.fits, h]
theorem isf_l {xs : List D} : callN Fs is (n + 3) 3 [.lst xs] S = .ok (.bl false) S := by
  rw [call_s (F := f3) rfl rfl]
  simp [f3, b3, evS, evE, evA, List.replicate, istup2l, endF, Ev.fin, D.fits]
theorem iss_ok (h : Red x y) : callN Fs is (n + 4) 4 [P x y] S = .ok (.bl (decide (0 < x))) S := by
  rw [call_s (F := f4) rfl rfl]
  have h1 : 1 ≤ y := h.y0
  simp [f4, b4, evS, evE, evA, List.replicate, isf_ok, h1, h.g, endF, Ev.fin, D.fits]
end
end K01

set_option Elab.async false
set_option linter.all false
set_option maxRecDepth 100000
set_option maxHeartbeats 1000000
namespace K01
open PySem Ev
/-! ### three fractions, by their places on a common scale -/
structure Three (x1 y1 x2 y2 x3 y3 A B C : Int) : Prop where
  r1 : Red x1 y1
  r2 : Red x2 y2
  r3 : Red x3 y3
  s1 : Sm3 x1 ∧ Sm3 y1
  s2 : Sm3 x2 ∧ Sm3 y2
  s3 : Sm3 x3 ∧ Sm3 y3
  a : A = x1 * y2 * y3
  b : B = x2 * y1 * y3
  c : C = x3 * y1 * y2
theorem mul_lt {a b c : Int} (h : 0 < c) : a < b ↔ a * c < b * c := ⟨fun q => Int.mul_lt_mul_of_pos_right q h, fun q => Int.lt_of_mul_lt_mul_right q (Int.le_of_lt h)⟩
section
variable {x1 y1 x2 y2 x3 y3 A B C : Int}
theorem Three.l12 (t : Three x1 y1 x2 y2 x3 y3 A B C) : x1 * y2 < x2 * y1 ↔ A < B := by
  rw [t.a, t.b]; exact mul_lt t.r3.y0
theorem Three.l21 (t : Three x1 y1 x2 y2 x3 y3 A B C) : x2 * y1 < x1 * y2 ↔ B < A := by
  rw [t.a, t.b]; exact mul_lt t.r3.y0
theorem Three.l13 (t : Three x1 y1 x2 y2 x3 y3 A B C) : x1 * y3 < x3 * y1 ↔ A < C := by
  rw [t.a, t.c, Int.mul_assoc, Int.mul_comm y2, ← Int.mul_assoc]; exact mul_lt t.r2.y0
theorem Three.l31 (t : Three x1 y1 x2 y2 x3 y3 A B C) : x3 * y1 < x1 * y3 ↔ C < A := by
  rw [t.a, t.c, Int.mul_assoc x1, Int.mul_comm y2, ← Int.mul_assoc x1]; exact mul_lt t.r2.y0
theorem Three.l23 (t : Three x1 y1 x2 y2 x3 y3 A B C) : x2 * y3 < x3 * y2 ↔ B < C := by
  rw [t.b, t.c, Int.mul_assoc x2, Int.mul_comm y1 y3, ← Int.mul_assoc x2, Int.mul_assoc x3, Int.mul_comm y1 y2, ← Int.mul_assoc x3]; exact mul_lt t.r1.y0
theorem Three.l32 (t : Three x1 y1 x2 y2 x3 y3 A B C) : x3 * y2 < x2 * y3 ↔ C < B := by
  rw [t.b, t.c, Int.mul_assoc x2, Int.mul_comm y1 y3, ← Int.mul_assoc x2, Int.mul_assoc x3, Int.mul_comm y1 y2, ← Int.mul_assoc x3]; exact mul_lt t.r1.y0
theorem Three.e12 (t : Three x1 y1 x2 y2 x3 y3 A B C) (h : A = B) : x1 = x2 ∧ y1 = y2 := t.r1.uniq t.r2 (by
  have := t.l12; have := t.l21; omega)
theorem Three.e13 (t : Three x1 y1 x2 y2 x3 y3 A B C) (h : A = C) : x1 = x3 ∧ y1 = y3 := t.r1.uniq t.r3 (by
  have := t.l13; have := t.l31; omega)
theorem Three.e23 (t : Three x1 y1 x2 y2 x3 y3 A B C) (h : B = C) : x2 = x3 ∧ y2 = y3 := t.r2.uniq t.r3 (by
  have := t.l23; have := t.l32; omega)
/-- least((third, one, other)) -/
theorem least_ok {n : Nat} {S : Sto} (t : Three x1 y1 x2 y2 x3 y3 A B C) :
    callN Fs is (n + 2) 12 [.tup [P x3 y3, P x1 y1, P x2 y2]] S = .ok (if A < C then (if B < A then P x2 y2 else P x1 y1) else (if B < C then P x2 y2 else P x3 y3)) S := by
  rw [call_s (F := f12) rfl rfl]
  have e11 := fun {x y x' y' : Int} (h1 : Sm3 x) (h2 : Sm3 y) (h3 : Sm3 x') (h4 : Sm3 y') => less_ok (n := n) (S := S) (pr_t (x := x) (y := y)) (pr_t (x := x') (y := y')) h1 h2 h3 h4
  have c33 := e11 t.s3.1 t.s3.2 t.s3.1 t.s3.2
  have c13 := e11 t.s1.1 t.s1.2 t.s3.1 t.s3.2
  have c23 := e11 t.s2.1 t.s2.2 t.s3.1 t.s3.2
  have c21 := e11 t.s2.1 t.s2.2 t.s1.1 t.s1.2
  have i13 := t.l13; have i23 := t.l23; have i21 := t.l21
  by_cases h1 : A < C
  · by_cases h2 : B < A
    · simp [f12, b12, evS, evE, evA, evI, itD, forL, Tg.set, List.replicate, c33, c13, c21, i13, i21, h1, h2, endF, Ev.fin, D.fits, D.fitsL]
    · simp [f12, b12, evS, evE, evA, evI, itD, forL, Tg.set, List.replicate, c33, c13, c21, i13, i21, h1, h2, endF, Ev.fin, D.fits, D.fitsL]
  · by_cases h2 : B < C
    · simp [f12, b12, evS, evE, evA, evI, itD, forL, Tg.set, List.replicate, c33, c13, c23, i13, i23, h1, h2, endF, Ev.fin, D.fits, D.fitsL]
    · simp [f12, b12, evS, evE, evA, evI, itD, forL, Tg.set, List.replicate, c33, c13, c23, i13, i23, h1, h2, endF, Ev.fin, D.fits, D.fitsL]
/-- greatest([other, third, one]) -/
theorem great_ok {n : Nat} {S : Sto} (t : Three x1 y1 x2 y2 x3 y3 A B C) :
    callN Fs is (n + 2) 11 [.lst [P x2 y2, P x3 y3, P x1 y1]] S = .ok (if B < C then (if C < A then P x1 y1 else P x3 y3) else (if B < A then P x1 y1 else P x2 y2)) S := by
  rw [call_s (F := f11) rfl rfl]
  have e11 := fun {x y x' y' : Int} (h1 : Sm3 x) (h2 : Sm3 y) (h3 : Sm3 x') (h4 : Sm3 y') => less_ok (n := n) (S := S) (pr_t (x := x) (y := y)) (pr_t (x := x') (y := y')) h1 h2 h3 h4
  have c22 := e11 t.s2.1 t.s2.2 t.s2.1 t.s2.2
  have c23 := e11 t.s2.1 t.s2.2 t.s3.1 t.s3.2
  have c31 := e11 t.s3.1 t.s3.2 t.s1.1 t.s1.2
  have c21 := e11 t.s2.1 t.s2.2 t.s1.1 t.s1.2
  have i31 := t.l31; have i23 := t.l23; have i21 := t.l21
  by_cases h1 : B < C
  · by_cases h2 : C < A
    · simp [f11, b11, evS, evE, evA, evI, itD, forL, Tg.set, List.replicate, c22, c23, c31, i23, i31, h1, h2, endF, Ev.fin, D.fits, D.fitsL]
    · simp [f11, b11, evS, evE, evA, evI, itD, forL, Tg.set, List.replicate, c22, c23, c31, i23, i31, h1, h2, endF, Ev.fin, D.fits, D.fitsL]
  · by_cases h2 : B < A
    · simp [f11, b11, evS, evE, evA, evI, itD, forL, Tg.set, List.replicate, c22, c23, c21, i23, i21, h1, h2, endF, Ev.fin, D.fits, D.fitsL]
    · simp [f11, b11, evS, evE, evA, evI, itD, forL, Tg.set, List.replicate, c22, c23, c21, i23, i21, h1, h2, endF, Ev.fin, D.fits, D.fitsL]
end
end K01

set_option Elab.async false
set_option linter.all false
set_option maxRecDepth 100000
set_option maxHeartbeats 2000000
namespace K01
open PySem Ev
def s11 : Sm := (.for_ (.n 5) (.rng (.cst (.int 2))) (.cons (.for_ (.n 16) (.rng (.cst (.int 2))) (.cons (.ite (.call 20 (.cons (.idx (.var 4) (.op .add (.var 16) (.cst (.int 1)))) (.cons (.idx (.var 4) (.var 16)) .nil))) (.cons (.set 4 (.op .add (.op .add (.sl (.var 4) (.cst .non) (.var 16)) (.lst (.cons (.idx (.var 4) (.op .add (.var 16) (.cst (.int 1)))) (.cons (.idx (.var 4) (.var 16)) .nil)))) (.sl (.var 4) (.op .add (.var 16) (.cst (.int 2))) (.cst .non)))) .nil) .nil) .nil)) .nil))
def leastD (A B C : Int) (p q r : D) : D := if A < C then (if B < A then q else p) else (if B < C then q else r)
def greatD (A B C : Int) (p q r : D) : D := if B < C then (if C < A then p else r) else (if B < A then p else q)
section
variable {x1 y1 x2 y2 x3 y3 A B C : Int} {n : Nat} {S : Sto} {v0 v1 v2 v3 v6 v7 v8 v9 v10 v11 v12 v13 v14 v15 v17 v18 v19 v5 v16 : Option D}
theorem rng2 {e : Lenv} : evI (K01.C n) (.rng (.cst (.int 2))) e S = .ok [.int 0, .int 1] S := by kernel_rfl
theorem sort_ok (t : Three x1 y1 x2 y2 x3 y3 A B C) : ∃ d0 d1 d2, d0 = leastD A B C (P x1 y1) (P x2 y2) (P x3 y3) ∧ d2 = greatD A B C (P x1 y1) (P x2 y2) (P x3 y3) ∧
    evS (K01.C (n + 1)) s11 [v0, v1, v2, v3, (some (.lst [P x1 y1, P x2 y2, P x3 y3])), v5, v6, v7, v8, v9, v10, v11, v12, v13, v14, v15, v16, v17, v18, v19] S = .nx [v0, v1, v2, v3, (some (.lst [d0, d1, d2])), (some (.int 1)), v6, v7, v8, v9, v10, v11, v12, v13, v14, v15, (some (.int 1)), v17, v18, v19] S := by
  have u := fun {x y x' y' : Int} (h1 : Sm3 x) (h2 : Sm3 y) (h3 : Sm3 x') (h4 : Sm3 y') => under_ok (n := n) (S := S) (pr_t (x := x) (y := y)) (pr_t (x := x') (y := y')) h1 h2 h3 h4
  have c12 := u t.s1.1 t.s1.2 t.s2.1 t.s2.2
  have c21 := u t.s2.1 t.s2.2 t.s1.1 t.s1.2
  have c13 := u t.s1.1 t.s1.2 t.s3.1 t.s3.2
  have c31 := u t.s3.1 t.s3.2 t.s1.1 t.s1.2
  have c23 := u t.s2.1 t.s2.2 t.s3.1 t.s3.2
  have c32 := u t.s3.1 t.s3.2 t.s2.1 t.s2.2
  simp only [t.l12, t.l21, t.l13, t.l31, t.l23, t.l32] at c12 c21 c13 c31 c23 c32
  have b3 : (1 + 2 : Nat) ≤ big := by decide
  have b1 : (1 : Nat) ≤ big := by decide
  have b2 : (2 : Nat) ≤ big := by decide
  have b0 : (0 : Nat) ≤ big := by decide
  have b33 : (3 : Nat) ≤ big := by decide
  have cut0 : ∀ a b c : D, cutD [a, b, c] none (some 0) = [] := fun _ _ _ => rfl
  have cut1 : ∀ a b c : D, cutD [a, b, c] none (some 1) = [a] := fun _ _ _ => rfl
  have cut2 : ∀ a b c : D, cutD [a, b, c] (some 2) none = [c] := fun _ _ _ => rfl
  have cut3 : ∀ a b c : D, cutD [a, b, c] (some 3) none = [] := fun _ _ _ => rfl
  have go : ∀ d0 d1 d2, d0 = leastD A B C (P x1 y1) (P x2 y2) (P x3 y3) → d2 = greatD A B C (P x1 y1) (P x2 y2) (P x3 y3) →
      evS (K01.C (n + 1)) s11 [v0, v1, v2, v3, (some (.lst [P x1 y1, P x2 y2, P x3 y3])), v5, v6, v7, v8, v9, v10, v11, v12, v13, v14, v15, v16, v17, v18, v19] S = .nx [v0, v1, v2, v3, (some (.lst [d0, d1, d2])), (some (.int 1)), v6, v7, v8, v9, v10, v11, v12, v13, v14, v15, (some (.int 1)), v17, v18, v19] S → _ := fun d0 d1 d2 h1 h2 h3 => (⟨d0, d1, d2, h1, h2, h3⟩ : ∃ d0 d1 d2, d0 = leastD A B C (P x1 y1) (P x2 y2) (P x3 y3) ∧ d2 = greatD A B C (P x1 y1) (P x2 y2) (P x3 y3) ∧
    evS (K01.C (n + 1)) s11 [v0, v1, v2, v3, (some (.lst [P x1 y1, P x2 y2, P x3 y3])), v5, v6, v7, v8, v9, v10, v11, v12, v13, v14, v15, v16, v17, v18, v19] S = .nx [v0, v1, v2, v3, (some (.lst [d0, d1, d2])), (some (.int 1)), v6, v7, v8, v9, v10, v11, v12, v13, v14, v15, (some (.int 1)), v17, v18, v19] S)
  by_cases hBA : B < A
  · have nAB : ¬A < B := by omega
    by_cases hCA : C < A
    · have nAC : ¬A < C := by omega
      by_cases hCB : C < B
      · have nBC : ¬B < C := by omega
        refine go (P x3 y3) (P x2 y2) (P x1 y1) ?_ ?_ ?_
        · unfold leastD; split <;> (try split) <;> first | rfl | omega | (have z := t.e12 (by omega); rw [z.1, z.2]; done) | (have z := t.e13 (by omega); rw [z.1, z.2]; done) | (have z := t.e23 (by omega); rw [z.1, z.2]; done)
        · unfold greatD; split <;> (try split) <;> first | rfl | omega | (have z := t.e12 (by omega); rw [z.1, z.2]; done) | (have z := t.e13 (by omega); rw [z.1, z.2]; done) | (have z := t.e23 (by omega); rw [z.1, z.2]; done)
        · simp [s11, rng2, evS, evE, evA, forL, Tg.set, oD, E.isNon, sArg, slD, cut0, cut1, cut2, cut3, c12, c21, c13, c31, c23, c32, hBA, nAB, hCA, nAC, hCB, nBC, b0, b1, b2, b3, b33]
      · refine go (P x2 y2) (P x3 y3) (P x1 y1) ?_ ?_ ?_
        · unfold leastD; split <;> (try split) <;> first | rfl | omega | (have z := t.e12 (by omega); rw [z.1, z.2]; done) | (have z := t.e13 (by omega); rw [z.1, z.2]; done) | (have z := t.e23 (by omega); rw [z.1, z.2]; done)
        · unfold greatD; split <;> (try split) <;> first | rfl | omega | (have z := t.e12 (by omega); rw [z.1, z.2]; done) | (have z := t.e13 (by omega); rw [z.1, z.2]; done) | (have z := t.e23 (by omega); rw [z.1, z.2]; done)
        · simp [s11, rng2, evS, evE, evA, forL, Tg.set, oD, E.isNon, sArg, slD, cut0, cut1, cut2, cut3, c12, c21, c13, c31, c23, c32, hBA, nAB, hCA, nAC, hCB, b0, b1, b2, b3, b33]
    · refine go (P x2 y2) (P x1 y1) (P x3 y3) ?_ ?_ ?_
      · unfold leastD; split <;> (try split) <;> first | rfl | omega | (have z := t.e12 (by omega); rw [z.1, z.2]; done) | (have z := t.e13 (by omega); rw [z.1, z.2]; done) | (have z := t.e23 (by omega); rw [z.1, z.2]; done)
      · unfold greatD; split <;> (try split) <;> first | rfl | omega | (have z := t.e12 (by omega); rw [z.1, z.2]; done) | (have z := t.e13 (by omega); rw [z.1, z.2]; done) | (have z := t.e23 (by omega); rw [z.1, z.2]; done)
      · simp [s11, rng2, evS, evE, evA, forL, Tg.set, oD, E.isNon, sArg, slD, cut0, cut1, cut2, cut3, c12, c21, c13, c31, c23, c32, hBA, nAB, hCA, b0, b1, b2, b3, b33]
  · by_cases hCB : C < B
    · have nBC : ¬B < C := by omega
      by_cases hCA : C < A
      · have nAC : ¬A < C := by omega
        refine go (P x3 y3) (P x1 y1) (P x2 y2) ?_ ?_ ?_
        · unfold leastD; split <;> (try split) <;> first | rfl | omega | (have z := t.e12 (by omega); rw [z.1, z.2]; done) | (have z := t.e13 (by omega); rw [z.1, z.2]; done) | (have z := t.e23 (by omega); rw [z.1, z.2]; done)
        · unfold greatD; split <;> (try split) <;> first | rfl | omega | (have z := t.e12 (by omega); rw [z.1, z.2]; done) | (have z := t.e13 (by omega); rw [z.1, z.2]; done) | (have z := t.e23 (by omega); rw [z.1, z.2]; done)
        · simp [s11, rng2, evS, evE, evA, forL, Tg.set, oD, E.isNon, sArg, slD, cut0, cut1, cut2, cut3, c12, c21, c13, c31, c23, c32, hBA, hCA, nAC, hCB, nBC, b0, b1, b2, b3, b33]
      · refine go (P x1 y1) (P x3 y3) (P x2 y2) ?_ ?_ ?_
        · unfold leastD; split <;> (try split) <;> first | rfl | omega | (have z := t.e12 (by omega); rw [z.1, z.2]; done) | (have z := t.e13 (by omega); rw [z.1, z.2]; done) | (have z := t.e23 (by omega); rw [z.1, z.2]; done)
        · unfold greatD; split <;> (try split) <;> first | rfl | omega | (have z := t.e12 (by omega); rw [z.1, z.2]; done) | (have z := t.e13 (by omega); rw [z.1, z.2]; done) | (have z := t.e23 (by omega); rw [z.1, z.2]; done)
        · simp [s11, rng2, evS, evE, evA, forL, Tg.set, oD, E.isNon, sArg, slD, cut0, cut1, cut2, cut3, c12, c21, c13, c31, c23, c32, hBA, hCA, hCB, nBC, b0, b1, b2, b3, b33]
    · refine go (P x1 y1) (P x2 y2) (P x3 y3) ?_ ?_ ?_
      · unfold leastD; split <;> (try split) <;> first | rfl | omega | (have z := t.e12 (by omega); rw [z.1, z.2]; done) | (have z := t.e13 (by omega); rw [z.1, z.2]; done) | (have z := t.e23 (by omega); rw [z.1, z.2]; done)
      · unfold greatD; split <;> (try split) <;> first | rfl | omega | (have z := t.e12 (by omega); rw [z.1, z.2]; done) | (have z := t.e13 (by omega); rw [z.1, z.2]; done) | (have z := t.e23 (by omega); rw [z.1, z.2]; done)
      · simp [s11, rng2, evS, evE, evA, forL, Tg.set, oD, E.isNon, sArg, slD, cut0, cut1, cut2, cut3, c12, c21, c13, c31, c23, c32, hBA, hCB, b0, b1, b2, b3, b33]
end
end K01

set_option Elab.async false
set_option linter.all false
set_option maxRecDepth 100000
set_option maxHeartbeats 2000000
namespace K01
open PySem Ev
/-! ### sizes -/
abbrev Le (k : Nat) (i : Int) : Prop := i.natAbs < 2 ^ k
theorem le_mul {a b : Nat} {i j : Int} (h1 : Le a i) (h2 : Le b j) : Le (a + b) (i * j) := by
  show (i * j).natAbs < 2 ^ (a + b)
  rw [Int.natAbs_mul, Nat.pow_add]
  exact Nat.mul_lt_mul'' h1 h2
theorem le_sub {k : Nat} {i j : Int} (h1 : Le k i) (h2 : Le k j) : Le (k + 1) (i - j) := by
  have h1 : i.natAbs < 2 ^ k := h1
  have h2 : j.natAbs < 2 ^ k := h2
  show (i - j).natAbs < 2 ^ (k + 1)
  rw [Nat.pow_succ]
  omega
theorem le_add {k : Nat} {i j : Int} (h1 : Le k i) (h2 : Le k j) : Le (k + 1) (i + j) := by
  have h1 : i.natAbs < 2 ^ k := h1
  have h2 : j.natAbs < 2 ^ k := h2
  show (i + j).natAbs < 2 ^ (k + 1)
  rw [Nat.pow_succ]
  omega
theorem le_mono {a b : Nat} {i : Int} (h : a ≤ b) (h1 : Le a i) : Le b i := Nat.lt_of_lt_of_le h1 (Nat.pow_le_pow_right (by omega) h)
theorem le_abs {k : Nat} {i j : Int} (h : i.natAbs ≤ j.natAbs) (h1 : Le k j) : Le k i := Nat.lt_of_le_of_lt h h1
theorem le_12 {i : Int} (h : i.natAbs ≤ 10 ^ 12) : Le 40 i := Nat.lt_of_le_of_lt h (by decide)

theorem nfs_pos {t w : Int} (h : 0 < w) : nfs t w = nf t w := by
  unfold nfs
  rw [if_neg (by omega)]
theorem nfs_red {k : Nat} {t w : Int} (h : w ≠ 0) (ht : Le k t) (hw : Le k w) : ∃ x y, nfs t w = P x y ∧ Red x y ∧ x * w = t * y ∧ Le k x ∧ Le k y := by
  unfold nfs
  split
  · obtain ⟨x, y, e1, r, e2, e3, e4⟩ := nf_red (t := -t) (w := -w) (by omega)
    refine ⟨x, y, e1, r, by grind, le_abs (by omega) ht, ?_⟩
    have := r.y0
    exact le_abs (j := w) (by omega) hw
  · obtain ⟨x, y, e1, r, e2, e3, e4⟩ := nf_red (t := t) (w := w) (by omega)
    refine ⟨x, y, e1, r, e2, le_abs e3 ht, ?_⟩
    have := r.y0
    exact le_abs (j := w) (by omega) hw
theorem nfs_eq {t w t' w' : Int} (hw : w ≠ 0) (hw' : w' ≠ 0) (e : t * w' = t' * w) : nfs t w = nfs t' w' := by
  unfold nfs
  split <;> split
  · exact nf_eq (by omega) (by omega) (by grind)
  · exact nf_eq (by omega) (by omega) (by grind)
  · exact nf_eq (by omega) (by omega) (by grind)
  · exact nf_eq (by omega) (by omega) e

section
variable {n : Nat} {S : Sto} {x1 y1 x2 y2 x3 y3 xf yf xs ys : Int} {da db dc df ds : D}
theorem minus_v {k : Nat} {d d' : D} {x y x' y' : Int} (p : Pr d x y) (p' : Pr d' x' y') (r : Red x y) (r' : Red x' y') (hx : Le k x) (hy : Le k y) (hx' : Le k x') (hy' : Le k y') (hk : k ≤ 100) :
    ∃ u v, callN Fs is (n + 2) 7 [d, d'] S = .ok (P u v) S ∧ Red u v ∧ u * (y * y') = (x * y' - x' * y) * v ∧ Le (k + k + 1) u ∧ Le (k + k + 1) v := by
  have h0 : 0 < y * y' := Int.mul_pos r.y0 r'.y0
  have e := minus_ok (n := n) (S := S) p p' (le_mono (by omega) hx) (le_mono (by omega) hy) (le_mono (by omega) hx') (le_mono (by omega) hy') (by omega)
  obtain ⟨u, v, e1, e2, e3, e4, e5⟩ := nfs_red (k := k + k + 1) (t := x * y' - x' * y) (w := y * y') (by omega) (le_sub (le_mul hx hy') (le_mul hx' hy)) (le_mono (by omega) (le_mul hy hy'))
  exact ⟨u, v, by rw [e, e1], e2, e3, e4, e5⟩
/-- straight: where one is the other it can't; else by the law's own formula -/
theorem straight_ok (pa : Pr da x1 y1) (pb : Pr db x2 y2) (pc : Pr dc x3 y3) (pf : Pr df xf yf) (ps : Pr ds xs ys) (ra : Red x1 y1) (rb : Red x2 y2) (rc : Red x3 y3) (rf : Red xf yf) (rs : Red xs ys)
    (a1 : Le 40 x1) (a2 : Le 40 y1) (b1 : Le 40 x2) (b2 : Le 40 y2) (c1 : Le 40 x3) (c2 : Le 40 y3) (f1 : Le 40 xf) (f2 : Le 40 yf) (s1 : Le 40 xs) (s2 : Le 40 ys) :
    (x1 = x2 ∧ y1 = y2 → callN Fs is (n + 4) 13 [da, db, dc, df, ds] S = .err 0 S) ∧
    (¬ (x1 = x2 ∧ y1 = y2) → ∃ us vs, nfs ((x3 * y1 - x1 * y3) * (y2 * y1)) ((y3 * y1) * (x2 * y1 - x1 * y2)) = P us vs ∧ Le 163 us ∧ Le 163 vs ∧ 0 < vs ∧ (y3 * y1) * (x2 * y1 - x1 * y2) ≠ 0 ∧
      callN Fs is (n + 4) 13 [da, db, dc, df, ds] S = .ok (nf (xf * (ys * yf) * vs + (xs * yf - xf * ys) * us * yf) (yf * (ys * yf) * vs)) S) := by
  obtain ⟨u1, v1, e1, q1, i1, j1, k1⟩ := minus_v (n := n + 1) (S := S) pc pa rc ra c1 c2 a1 a2 (by omega)
  obtain ⟨u2, v2, e2, q2, i2, j2, k2⟩ := minus_v (n := n + 1) (S := S) pb pa rb ra b1 b2 a1 a2 (by omega)
  obtain ⟨u3, v3, e3, q3, i3, j3, k3⟩ := minus_v (n := n + 1) (S := S) ps pf rs rf s1 s2 f1 f2 (by omega)
  have z1 := q1.y0
  have z2 := q2.y0
  have z3 := q3.y0
  have g1 : 0 < y3 * y1 := Int.mul_pos rc.y0 ra.y0
  have g2 : 0 < y2 * y1 := Int.mul_pos rb.y0 ra.y0
  have g3 : 0 < ys * yf := Int.mul_pos rs.y0 rf.y0
  constructor
  · intro ⟨h1, h2⟩
    subst h1
    subst h2
    have hu : u2 = 0 := by
      have : u2 * (y1 * y1) = 0 := by rw [i2]; grind
      rcases Int.mul_eq_zero.mp this with h | h
      · exact h
      · omega
    subst hu
    have e := over_z (n := n + 1) (S := S) (d := P u1 v1) (d' := P 0 v2) (y' := v2) pr_t
    rw [call_s (F := f13) rfl rfl]
    simp [f13, b13, evS, evE, evA, List.replicate, e1, e2, e, endF]
  · intro hne
    have hu : u2 ≠ 0 := by
      intro h
      subst h
      have : (x2 * y1 - x1 * y2) * v2 = 0 := by rw [← i2]; grind
      rcases Int.mul_eq_zero.mp this with h | h
      · have := ra.uniq rb (by omega)
        exact hne this
      · omega
    have hw0 : x2 * y1 - x1 * y2 ≠ 0 := by
      intro h
      rw [h] at i2
      have : u2 * (y2 * y1) = 0 := by rw [i2]; grind
      rcases Int.mul_eq_zero.mp this with h | h
      · exact hu h
      · omega
    have hW : (y3 * y1) * (x2 * y1 - x1 * y2) ≠ 0 := Int.mul_ne_zero (by omega) hw0
    have hV : v1 * u2 ≠ 0 := Int.mul_ne_zero (by omega) hu
    have m81 : ∀ {i : Int}, Le (40 + 40 + 1) i → Sm3 i := fun h => le_mono (by omega) h
    have eo := over_ok (n := n + 1) (S := S) (pr_t (x := u1) (y := v1)) (pr_t (x := u2) (y := v2)) (m81 j1) (m81 k1) (m81 j2) (m81 k2) hu (by omega)
    have en : nfs ((x3 * y1 - x1 * y3) * (y2 * y1)) ((y3 * y1) * (x2 * y1 - x1 * y2)) = nfs (u1 * v2) (v1 * u2) := nfs_eq hW hV (by grind)
    obtain ⟨us, vs, n1, n2, n3, n4, n5⟩ := nfs_red (k := 163) (t := u1 * v2) (w := v1 * u2) hV (le_mono (by omega) (le_mul j1 k2)) (le_mono (by omega) (le_mul k1 j2))
    have z4 := n2.y0
    have m163 : ∀ {i : Int}, Le 163 i → Sm3 i := fun h => le_mono (by omega) h
    have hp : 0 < v3 * vs := Int.mul_pos z3 z4
    have et := times_ok (n := n + 1) (S := S) (pr_t (x := u3) (y := v3)) (pr_t (x := us) (y := vs)) (m81 j3) (m81 k3) (m163 n4) (m163 n5) (by omega)
    obtain ⟨u4, v4, t1, t2, t3, t4, t5⟩ := nfs_red (k := 244) (t := u3 * us) (w := v3 * vs) (by omega) (le_mono (by omega) (le_mul j3 n4)) (le_mono (by omega) (le_mul k3 n5))
    have z5 := t2.y0
    have hq : 0 < yf * v4 := Int.mul_pos rf.y0 z5
    have ep := plus_ok (n := n + 1) (S := S) pf (pr_t (x := u4) (y := v4)) (le_mono (by omega) f1) (le_mono (by omega) f2) (le_mono (by omega) t4) (le_mono (by omega) t5) (by omega)
    refine ⟨us, vs, by rw [en, n1], n4, n5, z4, hW, ?_⟩
    have hfin : nfs (xf * v4 + u4 * yf) (yf * v4) = nf (xf * (ys * yf) * vs + (xs * yf - xf * ys) * us * yf) (yf * (ys * yf) * vs) := by
      rw [nfs_pos hq]
      refine nf_eq hq (Int.mul_pos (Int.mul_pos rf.y0 g3) z4) ?_
      have h3 : u4 * (ys * yf) * vs = (xs * yf - xf * ys) * us * v4 := by
        have h4 : (u4 * (ys * yf) * vs) * v3 = ((xs * yf - xf * ys) * us * v4) * v3 := by grind
        exact Int.eq_of_mul_eq_mul_right (by omega) h4
      grind
    rw [n1] at eo
    rw [t1] at et
    rw [hfin] at ep
    rw [call_s (F := f13) rfl rfl]
    simp [f13, b13, evS, evE, evA, List.replicate, e1, e2, e3, eo, et, ep, endF, Ev.fin, nf_fits]
end
end K01

set_option Elab.async false
set_option linter.all false
set_option maxRecDepth 100000
set_option maxHeartbeats 2000000
namespace K01
open PySem Ev
theorem sh_ok {n : Nat} {S : Sto} {x y : Int} (r : Red x y) (h1 : Le 40 x) (h2 : Le 40 y) : callN Fs is (n + 5) 24 [P x y, P x y] S = .ok (.lst [.str (Str.ofString "cannot")]) S := by
  have r13 : Red 1 3 := ⟨by decide, by decide⟩
  have r01 : Red 0 1 := ⟨by decide, by decide⟩
  have r11 : Red 1 1 := ⟨by decide, by decide⟩
  have e := (straight_ok (n := n) (S := S) (pr_t (x := x) (y := y)) (pr_t (x := x) (y := y)) (pr_t (x := 1) (y := 3)) (pr_t (x := 0) (y := 1)) (pr_t (x := 1) (y := 1)) r r r13 r01 r11 h1 h2 h1 h2 (by decide) (by decide) (by decide) (by decide) (by decide) (by decide)).1 ⟨rfl, rfl⟩
  obtain ⟨i1, i2, i3, i4, i5, i6⟩ := is_01
  have hbig : (2 : Nat) ≤ big := by decide
  have hbig1 : (1 : Nat) ≤ big := by decide
  rw [call_s (F := f24) rfl rfl]
  simp [f24, b24, evS, evE, evA, List.replicate, hbig, hbig1, e, evH, outH, i1, i2, i3, i4, i5, i6, endF, Ev.fin, D.fits, D.fitsL]
/-! ### _law_cells, _law_box -/
def cellB : Sm := (.cons (.set 5 (.op .mod (.blt .int (.cons (.var 3) .nil)) (.var 1))) (.cons (.setI 2 (.var 5) (.op .add (.idx (.var 2) (.var 5)) (.op .mul (.var 4) (.op .add (.var 3) (.cst (.int 2)))))) .nil))
theorem cell_for {n : Nat} {sc : Option D} : ∀ (ds : List D) (m : Int) (a b c : Option D), (∀ d ∈ ds, ∃ (k : Nat) (v : Int), d = .tup [.int k, .int v] ∧ k < 2 ^ 20) →
    ∃ m' a' b' c', forL (evS (C n) cellB) (.t [3, 4]) ds [sc, some (.int 1), some (.loc 0), a, b, c] [some [.int m]] = .nx [sc, some (.int 1), some (.loc 0), a', b', c'] [some [.int m']]
  | [], m, a, b, c, _ => ⟨m, a, b, c, rfl⟩
  | d :: ds, m, a, b, c, h => by
    obtain ⟨k, v, rfl, hk⟩ := h d List.mem_cons_self
    obtain ⟨m', a', b', c', e⟩ := cell_for (n := n) (sc := sc) ds (m + v * (k + 2)) (some (.int k)) (some (.int v)) (some (.int 0)) fun x hx => h x (List.mem_cons_of_mem _ hx)
    refine ⟨m', a', b', c', ?_⟩
    have hm : mulOk v ((k : Int) + 2) = true := mul_r (by omega) (by omega)
    have hz : Int.fmod (k : Int) 1 = 0 := by
      have := fmod_b (x := (k : Int)) (m := 1) (by decide)
      omega
    have e1 : evS (C n) cellB [sc, some (.int 1), some (.loc 0), some (.int k), some (.int v), c] [some [.int m]] = .nx [sc, some (.int 1), some (.loc 0), some (.int k), some (.int v), some (.int 0)] [some [.int (m + v * (k + 2))]] := by
      simp [cellB, evS, evE, evA, op_modi, hz, op_muli, hm, D.fits]
    unfold forL
    have et : Tg.set (.t [3, 4]) (.tup [.int k, .int v]) [sc, some (.int 1), some (.loc 0), a, b, c] = some [sc, some (.int 1), some (.loc 0), some (.int k), some (.int v), c] := rfl
    rw [et]
    simp only [e1, e]
theorem cells_ok {n : Nat} (ns : List Int) (hl : ns.length ≤ 63) : ∃ c, callN Fs is (n + 1) 16 [.scr ns, .int 1] [] = .ok (.lst [.int c]) [] := by
  have hb : f16.body = .cons (.set 2 (.or (.locL (.sl (.var 0) (.cst .non) (.var 1))) (.one (.loc (.cons (.cst (.int 0)) .nil))))) (.cons (.for_ (.t [3, 4]) (.enum (.sl (.var 0) (.var 1) (.cst (.int 63)))) cellB) (.cons (.ret (.frz (.var 2))) .nil)) := rfl
  have hbig : (1 : Nat) ≤ big := by decide
  rw [call_s (F := f16) rfl rfl, hb]
  match ns, hl with
  | [], _ =>
    have c1 : cutD ([] : List Int) none (some 1) = [] := rfl
    have c2 : cutD ([] : List Int) (some 1) (some 63) = [] := rfl
    refine ⟨0, ?_⟩
    simp [f16, evS, evE, evA, evI, List.replicate, oD, E.isNon, sArg, slD, c1, c2, D.fitsL, D.fits, hbig, forL, endF, Ev.fin, truD]
  | x :: r, hl =>
    have c1 : cutD (x :: r) none (some 1) = [x] := by
      unfold cutD HT.sIx
      simp
    obtain ⟨zs, hz, c2⟩ : ∃ zs : List Int, zs.length ≤ 63 ∧ cutD (x :: r) (some 1) (some 63) = zs := ⟨_, Nat.le_trans (cutD_len _ _ _) hl, rfl⟩
    obtain ⟨m', a', b', c', e⟩ := cell_for (n := n) (sc := some (.scr (x :: r))) ((List.range (zs.map D.int).length).map fun (k : Nat) => .tup [.int k, (zs.map D.int).getD k .non]) x none none none (fun d hd => by
      obtain ⟨k, hk, rfl⟩ := List.mem_map.mp hd
      have hk : k < zs.length := by simpa using hk
      refine ⟨k, zs[k], ?_, by omega⟩
      rw [List.getD_eq_getElem?_getD, List.getElem?_map, List.getElem?_eq_getElem hk]
      rfl)
    refine ⟨m', ?_⟩
    have e1 : evS (C n) (.set 2 (.or (.locL (.sl (.var 0) (.cst .non) (.var 1))) (.one (.loc (.cons (.cst (.int 0)) .nil))))) ([D.scr (x :: r), .int 1].map some ++ List.replicate (f16.nl - f16.np) none) [] = .nx [some (.scr (x :: r)), some (.int 1), some (.loc 0), none, none, none] [some [.int x]] := by
      simp [f16, evS, evE, evA, List.replicate, oD, E.isNon, sArg, slD, c1, D.fitsL, D.fits, hbig, truD]
    have e2 : evI (C n) (.enum (.sl (.var 0) (.var 1) (.cst (.int 63)))) [some (.scr (x :: r)), some (.int 1), some (.loc 0), none, none, none] [some [.int x]] = .ok ((List.range (zs.map D.int).length).map fun (k : Nat) => .tup [.int k, (zs.map D.int).getD k .non]) [some [.int x]] := by
      simp [evI, evE, oD, E.isNon, sArg, slD, c2]
    rw [evS, e1]
    simp only
    rw [evS, evS, e2]
    simp only
    rw [e]
    simp [evS, evE, endF, Ev.fin, D.fits, D.fitsL]
theorem box_ok {n : Nat} (c : Int) : ∃ a b, Tin a b 0 ∧ callN Fs is (n + 1) 14 [.lst [.int c], .int 0] [] = .ok (.loc 0) [some [.int a, .int b, .int 0]] := by
  have hbig : (3 : Nat) ≤ big := by decide
  have hp : powOk 10 18 = true := by decide
  have q := fmod_b (x := c) (m := 2305843009213693951) (by decide)
  have hm : mulOk 39373 0 = true := mul_l (by decide) (by decide)
  have hk : ∀ i (p : Prop) [Decidable p], mulOk i (if p then 1 else 0) = true := fun i p _ => by
    split <;> exact mul_r (by decide) (by decide)
  refine ⟨(if c < 0 then -c else c) * (if 1000000000000000000 ≤ (if c < 0 then -c else c) then 1 else 0), c.fmod 2305843009213693951 + 3197001, ⟨?_, by omega, by omega, by decide, by decide⟩, ?_⟩
  · refine Int.mul_nonneg ?_ ?_
    · split <;> omega
    · split <;> omega
  · rw [call_s (F := f14) rfl rfl]
    simp [f14, b14, evS, evE, evA, List.replicate, op_powi, hp, op_muli, hk, hm, op_modi, hbig, D.fitsL, D.fits, endF, Ev.fin]
end K01

set_option Elab.async false
set_option linter.all false
set_option maxRecDepth 100000
set_option maxHeartbeats 4000000
namespace K01
open PySem Ev
/-! ### the elements that are compared -/
abbrev Good (d : D) : Prop := ∀ S, callN Fs is 9 17 [d, d] S = .ok (.bl true) S
theorem good_bl {b : Bool} : Good (.bl b) := fun S => by
  have e := same_bl (n := 8) (S := S) (i := b) (j := b)
  simpa using e
theorem good_P {x y : Int} : Good (P x y) := fun S => by
  have e := same_pr (n := 7) (S := S) (x := x) (y := y) (x' := x) (y' := y)
  simpa using e
theorem good_nf {t w : Int} : Good (nf t w) := good_P
theorem good_nfs {t w : Int} : Good (nfs t w) := by
  unfold nfs
  split <;> exact good_nf
theorem good_ite {c : Prop} [Decidable c] {d e : D} (h1 : Good d) (h2 : Good e) : Good (if c then d else e) := by
  split
  · exact h1
  · exact h2
theorem good_s {x : Str} (h : eqD (.str x) (.str x) = some true) : Good (.lst [.str x, .bl true]) := fun S => same_lst (n := 8) (by show (2 : Nat) ≤ big; decide) fun d hd => by
  rcases List.mem_cons.mp hd with rfl | hd
  · exact same_str (n := 7) h
  · rcases List.mem_cons.mp hd with rfl | hd
    · have e := same_bl (n := 7) (S := S) (i := true) (j := true)
      simpa using e
    · simp at hd
theorem good_can : Good sCan := good_s eq_cannot
theorem good_unf : Good sUnf := good_s eq_unfit
theorem fits_ite {c : Prop} [Decidable c] {d e : D} {n : Nat} (h1 : D.fits n d = true) (h2 : D.fits n e = true) : D.fits n (if c then d else e) = true := by
  split
  · exact h1
  · exact h2

def s0 : Sm := (.par3 11 12 13 (.call 21 (.cons (.var 0) .nil)) (.call 21 (.cons (.var 0) .nil)) (.call 21 (.cons (.var 0) .nil)))
def s1 : Sm := (.par 14 15 (.op .sub (.call 15 (.cons (.var 0) (.cons (.cst (.int 41)) .nil))) (.cst (.int 20))) (.op .sub (.call 15 (.cons (.var 0) (.cons (.cst (.int 401)) .nil))) (.cst (.int 200))))
def s2 : Sm := (.set 1 (.call 18 (.cons (.var 11) .nil)))
def s3 : Sm := (.set 2 (.lst (.cons (.call 6 (.cons (.var 1) (.cons (.var 12) .nil))) (.cons (.call 7 (.cons (.var 11) (.cons (.call 18 (.cons (.var 12) .nil)) .nil))) (.cons (.call 8 (.cons (.var 11) (.cons (.var 12) .nil))) (.cons (.call 10 (.cons (.var 1) (.cons (.var 12) .nil))) (.cons (.call 10 (.cons (.var 12) (.cons (.var 11) .nil))) .nil)))))))
def s4 : Sm := (.set 3 (.loc (.cons (.call 19 (.cons (.op .add (.op .mul (.idx (.var 11) (.cst (.int 0))) (.idx (.var 12) (.cst (.int 1)))) (.op .mul (.idx (.var 12) (.cst (.int 0))) (.idx (.var 11) (.cst (.int 1))))) (.cons (.op .mul (.idx (.var 11) (.cst (.int 1))) (.idx (.var 12) (.cst (.int 1)))) .nil))) .nil)))
def s5 : Sm := (.ex (.app 3 (.call 19 (.cons (.op .sub (.op .mul (.idx (.var 11) (.cst (.int 0))) (.idx (.var 12) (.cst (.int 1)))) (.op .mul (.idx (.var 12) (.cst (.int 0))) (.idx (.var 11) (.cst (.int 1))))) (.cons (.op .mul (.idx (.var 11) (.cst (.int 1))) (.idx (.var 12) (.cst (.int 1)))) .nil)))))
def s6 : Sm := (.set 3 (.locC (.frz (.var 3)) (.lst (.cons (.call 19 (.cons (.op .mul (.idx (.var 11) (.cst (.int 0))) (.idx (.var 12) (.cst (.int 0)))) (.cons (.op .mul (.idx (.var 11) (.cst (.int 1))) (.idx (.var 12) (.cst (.int 1)))) .nil))) (.cons (.call 20 (.cons (.var 11) (.cons (.var 12) .nil))) (.cons (.call 20 (.cons (.var 12) (.cons (.var 11) .nil))) .nil))))))
def s7 : Sm := (.set 2 (.op .add (.var 2) (.lst (.cons (.call 23 (.cons (.gfn 9) (.cons (.tup (.cons (.var 11) (.cons (.var 12) .nil))) .nil))) (.cons (.call 23 (.cons (.gfn 5) (.cons (.tup (.cons (.var 15) (.cons (.var 14) .nil))) .nil))) .nil)))))
def s8 : Sm := (.ex (.app 3 (.ite (.cmp .eq (.idx (.var 12) (.cst (.int 0))) (.cst (.int 0))) (.lst (.cons (.cst (.str (PySem.Str.ofString "cannot"))) (.cons (.cst (.bl true)) .nil))) (.call 22 (.cons (.op .mul (.idx (.var 11) (.cst (.int 0))) (.idx (.var 12) (.cst (.int 1)))) (.cons (.op .mul (.idx (.var 11) (.cst (.int 1))) (.idx (.var 12) (.cst (.int 0)))) .nil))))))
def s9 : Sm := (.ex (.app 3 (.ite (.cmp .eq (.var 14) (.cst (.int 0))) (.lst (.cons (.cst (.str (PySem.Str.ofString "unfit"))) (.cons (.cst (.bl true)) .nil))) (.call 22 (.cons (.var 15) (.cons (.var 14) .nil))))))
def s10 : Sm := (.set 4 (.lst (.cons (.var 11) (.cons (.var 12) (.cons (.var 13) .nil)))))
def s12 : Sm := (.set 2 (.op .add (.var 2) (.lst (.cons (.call 12 (.cons (.tup (.cons (.var 13) (.cons (.var 11) (.cons (.var 12) .nil)))) .nil)) (.cons (.call 11 (.cons (.lst (.cons (.var 12) (.cons (.var 13) (.cons (.var 11) .nil)))) .nil)) (.cons (.call 3 (.cons (.var 11) .nil)) (.cons (.call 4 (.cons (.var 11) .nil)) .nil)))))))
def s13 : Sm := (.ite (.not (.call 17 (.cons (.var 2) (.cons (.op .add (.frz (.var 3)) (.lst (.cons (.idx (.var 4) (.cst (.int 0))) (.cons (.idx (.var 4) (.cst (.int 2))) (.cons (.cst (.bl true)) (.cons (.cmp .gt (.idx (.var 11) (.cst (.int 0))) (.cst (.int 0))) .nil)))))) .nil)))) (.cons (.ret (.cst (.bl false))) .nil) .nil)
def s14 : Sm := (.set 6 (.lst (.cons (.tup (.cons (.op .mul (.idx (.var 11) (.cst (.int 0))) (.cst (.int 2))) (.cons (.op .mul (.idx (.var 11) (.cst (.int 1))) (.cst (.int 2))) .nil))) (.cons (.tup (.cons (.idx (.var 11) (.cst (.int 0))) (.cons (.op .sub (.cst (.int 0)) (.idx (.var 11) (.cst (.int 1)))) .nil))) (.cons (.tup (.cons (.idx (.var 11) (.cst (.int 0))) (.cons (.cst (.int 0)) .nil))) (.cons (.blt .list (.cons (.var 11) .nil)) .nil))))))
def s15 : Sm := (.ite (.not (.call 17 (.cons (.comp (.call 3 (.cons (.var 19) .nil)) [19] (.n 19) (.one (.var 6)) (.cst (.bl true))) (.cons (.op .mul (.lst (.cons (.cst (.bl false)) .nil)) (.cst (.int 4))) .nil)))) (.cons (.ret (.cst (.bl false))) .nil) .nil)
def s16 : Sm := (.par 17 18 (.call 21 (.cons (.var 0) .nil)) (.call 21 (.cons (.var 0) .nil)))
def s17 : Sm := (.ite (.call 17 (.cons (.var 11) (.cons (.var 12) .nil))) (.cons (.ret (.call 17 (.cons (.call 24 (.cons (.var 11) (.cons (.var 12) .nil))) (.cons (.lst (.cons (.cst (.str (PySem.Str.ofString "cannot"))) .nil)) .nil)))) .nil) .nil)
def s18 : Sm := (.set 7 (.tup (.cons (.op .sub (.op .mul (.idx (.var 13) (.cst (.int 0))) (.idx (.var 11) (.cst (.int 1)))) (.op .mul (.idx (.var 11) (.cst (.int 0))) (.idx (.var 13) (.cst (.int 1))))) (.cons (.op .mul (.idx (.var 13) (.cst (.int 1))) (.idx (.var 11) (.cst (.int 1)))) .nil))))
def s19 : Sm := (.set 8 (.tup (.cons (.op .sub (.op .mul (.idx (.var 12) (.cst (.int 0))) (.idx (.var 11) (.cst (.int 1)))) (.op .mul (.idx (.var 11) (.cst (.int 0))) (.idx (.var 12) (.cst (.int 1))))) (.cons (.op .mul (.idx (.var 12) (.cst (.int 1))) (.idx (.var 11) (.cst (.int 1)))) .nil))))
def s20 : Sm := (.set 9 (.call 22 (.cons (.op .mul (.idx (.var 7) (.cst (.int 0))) (.idx (.var 8) (.cst (.int 1)))) (.cons (.op .mul (.idx (.var 7) (.cst (.int 1))) (.idx (.var 8) (.cst (.int 0)))) .nil))))
def s21 : Sm := (.set 10 (.tup (.cons (.op .sub (.op .mul (.idx (.var 18) (.cst (.int 0))) (.idx (.var 17) (.cst (.int 1)))) (.op .mul (.idx (.var 17) (.cst (.int 0))) (.idx (.var 18) (.cst (.int 1))))) (.cons (.op .mul (.idx (.var 18) (.cst (.int 1))) (.idx (.var 17) (.cst (.int 1)))) .nil))))
def s22 : Sm := (.set 3 (.call 19 (.cons (.op .add (.op .mul (.op .mul (.idx (.var 17) (.cst (.int 0))) (.idx (.var 10) (.cst (.int 1)))) (.idx (.var 9) (.cst (.int 1)))) (.op .mul (.op .mul (.idx (.var 10) (.cst (.int 0))) (.idx (.var 9) (.cst (.int 0)))) (.idx (.var 17) (.cst (.int 1))))) (.cons (.op .mul (.op .mul (.idx (.var 17) (.cst (.int 1))) (.idx (.var 10) (.cst (.int 1)))) (.idx (.var 9) (.cst (.int 1)))) .nil))))
def s23 : Sm := (.ret (.call 17 (.cons (.call 13 (.cons (.var 11) (.cons (.call 18 (.cons (.var 12) .nil)) (.cons (.var 13) (.cons (.var 17) (.cons (.var 18) .nil)))))) (.cons (.var 3) .nil))))
theorem body26 : f26.body = (.cons s0 (.cons s1 (.cons s2 (.cons s3 (.cons s4 (.cons s5 (.cons s6 (.cons s7 (.cons s8 (.cons s9 (.cons s10 (.cons s11 (.cons s12 (.cons s13 (.cons s14 (.cons s15 (.cons s16 (.cons s17 (.cons s18 (.cons s19 (.cons s20 (.cons s21 (.cons s22 (.cons s23 .nil)))))))))))))))))))))))) := rfl
section
variable {x1 y1 x2 y2 x3 y3 bl tp : Int} {S : Sto}
structure Hy (x1 y1 x2 y2 x3 y3 : Int) : Prop where
  r1 : Red x1 y1
  r2 : Red x2 y2
  r3 : Red x3 y3
  a1 : Le 40 x1
  a2 : Le 40 y1
  b1 : Le 40 x2
  b2 : Le 40 y2
  c1 : Le 40 x3
  c2 : Le 40 y3
theorem sm40 {i : Int} (h : Le 40 i) : Sm3 i := le_mono (by omega) h
theorem bd40 {i : Int} (h : Le 40 i) : Bd i := le_mono (by omega) h
theorem stp2 : evS (C 10) s2 [some (.loc 0), none, none, none, none, none, none, none, none, none, none, some (P x1 y1), some (P x2 y2), some (P x3 y3), some (.int bl), some (.int tp), none, none, none, none] S = .nx [some (.loc 0), some (.lst [.int x1, .int y1]), none, none, none, none, none, none, none, none, none, some (P x1 y1), some (P x2 y2), some (P x3 y3), some (.int bl), some (.int tp), none, none, none, none] S := by
  have e := lists_ok (n := 8) (S := S) (x := x1) (y := y1)
  simp [s2, evS, evE, evA, List.replicate, e]
theorem stp3 (h : Hy x1 y1 x2 y2 x3 y3) : evS (C 10) s3 [some (.loc 0), some (.lst [.int x1, .int y1]), none, none, none, none, none, none, none, none, none, some (P x1 y1), some (P x2 y2), some (P x3 y3), some (.int bl), some (.int tp), none, none, none, none] S = .nx [some (.loc 0), some (.lst [.int x1, .int y1]), some (.lst [nf (x1 * y2 + x2 * y1) (y1 * y2), nf (x1 * y2 - x2 * y1) (y1 * y2), nf (x1 * x2) (y1 * y2), .bl (decide (x1 * y2 < x2 * y1)), .bl (decide (x2 * y1 < x1 * y2))]), none, none, none, none, none, none, none, none, some (P x1 y1), some (P x2 y2), some (P x3 y3), some (.int bl), some (.int tp), none, none, none, none] S := by
  have hp : 0 < y1 * y2 := Int.mul_pos h.r1.y0 h.r2.y0
  have b5 : (5 : Nat) ≤ big := by decide
  have k1 := plus_ok (n := 8) (S := S) (pr_l (x := x1) (y := y1)) (pr_t (x := x2) (y := y2)) (sm40 h.a1) (sm40 h.a2) (sm40 h.b1) (sm40 h.b2) (by omega)
  have k2 := minus_ok (n := 8) (S := S) (pr_t (x := x1) (y := y1)) (pr_l (x := x2) (y := y2)) (sm40 h.a1) (sm40 h.a2) (sm40 h.b1) (sm40 h.b2) (by omega)
  have k3 := times_ok (n := 8) (S := S) (pr_t (x := x1) (y := y1)) (pr_t (x := x2) (y := y2)) (sm40 h.a1) (sm40 h.a2) (sm40 h.b1) (sm40 h.b2) (by omega)
  have k4 := less_ok (n := 9) (S := S) (pr_l (x := x1) (y := y1)) (pr_t (x := x2) (y := y2)) (sm40 h.a1) (sm40 h.a2) (sm40 h.b1) (sm40 h.b2)
  have k5 := less_ok (n := 9) (S := S) (pr_t (x := x2) (y := y2)) (pr_t (x := x1) (y := y1)) (sm40 h.b1) (sm40 h.b2) (sm40 h.a1) (sm40 h.a2)
  have k6 := lists_ok (n := 8) (S := S) (x := x2) (y := y2)
  rw [nfs_pos hp] at k1 k2 k3
  simp [s3, evS, evE, evA, List.replicate, k1, k2, k3, k4, k5, k6, b5]
theorem low2 {t w : Int} (hw : 0 < w) (h : Le 81 w) : callN Fs is 10 19 [.int t, .int w] S = .ok (nf t w) S := by
  refine low_nf (n := 9) hw ?_
  have h1 : w.natAbs < 2 ^ 300 := le_mono (by omega) h
  have e : ((2 : Int) ^ 300) = ((2 ^ 300 : Nat) : Int) := by norm_cast
  omega
theorem stp4 {t0 : Option (List D)} (h : Hy x1 y1 x2 y2 x3 y3) : evS (C 10) s4 [some (.loc 0), some (.lst [.int x1, .int y1]), some (.lst [nf (x1 * y2 + x2 * y1) (y1 * y2), nf (x1 * y2 - x2 * y1) (y1 * y2), nf (x1 * x2) (y1 * y2), .bl (decide (x1 * y2 < x2 * y1)), .bl (decide (x2 * y1 < x1 * y2))]), none, none, none, none, none, none, none, none, some (P x1 y1), some (P x2 y2), some (P x3 y3), some (.int bl), some (.int tp), none, none, none, none] [t0] = .nx [some (.loc 0), some (.lst [.int x1, .int y1]), some (.lst [nf (x1 * y2 + x2 * y1) (y1 * y2), nf (x1 * y2 - x2 * y1) (y1 * y2), nf (x1 * x2) (y1 * y2), .bl (decide (x1 * y2 < x2 * y1)), .bl (decide (x2 * y1 < x1 * y2))]), some (.loc 1), none, none, none, none, none, none, none, some (P x1 y1), some (P x2 y2), some (P x3 y3), some (.int bl), some (.int tp), none, none, none, none] [t0, some [nf (x1 * y2 + x2 * y1) (y1 * y2)]] := by
  have m1 := mul_b (bd40 h.a1) (bd40 h.b2)
  have m2 := mul_b (bd40 h.b1) (bd40 h.a2)
  have m3 := mul_b (bd40 h.a2) (bd40 h.b2)
  have m4 := mul_b (bd40 h.a1) (bd40 h.b1)
  have hp : 0 < y1 * y2 := Int.mul_pos h.r1.y0 h.r2.y0
  have hq : Le 81 (y1 * y2) := le_mono (by omega) (le_mul h.a2 h.b2)
  have b1 : (1 : Nat) ≤ big := by decide
  simp [s4, evS, evE, evA, List.replicate, op_muli, m1, m2, m3, low2 hp hq, b1, D.fitsL, nf_fits]
theorem stp5 {t0 : Option (List D)} (h : Hy x1 y1 x2 y2 x3 y3) : evS (C 10) s5 [some (.loc 0), some (.lst [.int x1, .int y1]), some (.lst [nf (x1 * y2 + x2 * y1) (y1 * y2), nf (x1 * y2 - x2 * y1) (y1 * y2), nf (x1 * x2) (y1 * y2), .bl (decide (x1 * y2 < x2 * y1)), .bl (decide (x2 * y1 < x1 * y2))]), some (.loc 1), none, none, none, none, none, none, none, some (P x1 y1), some (P x2 y2), some (P x3 y3), some (.int bl), some (.int tp), none, none, none, none] [t0, some [nf (x1 * y2 + x2 * y1) (y1 * y2)]] = .nx [some (.loc 0), some (.lst [.int x1, .int y1]), some (.lst [nf (x1 * y2 + x2 * y1) (y1 * y2), nf (x1 * y2 - x2 * y1) (y1 * y2), nf (x1 * x2) (y1 * y2), .bl (decide (x1 * y2 < x2 * y1)), .bl (decide (x2 * y1 < x1 * y2))]), some (.loc 1), none, none, none, none, none, none, none, some (P x1 y1), some (P x2 y2), some (P x3 y3), some (.int bl), some (.int tp), none, none, none, none] [t0, some [nf (x1 * y2 + x2 * y1) (y1 * y2), nf (x1 * y2 - x2 * y1) (y1 * y2)]] := by
  have m1 := mul_b (bd40 h.a1) (bd40 h.b2)
  have m2 := mul_b (bd40 h.b1) (bd40 h.a2)
  have m3 := mul_b (bd40 h.a2) (bd40 h.b2)
  have m4 := mul_b (bd40 h.a1) (bd40 h.b1)
  have hp : 0 < y1 * y2 := Int.mul_pos h.r1.y0 h.r2.y0
  have hq : Le 81 (y1 * y2) := le_mono (by omega) (le_mul h.a2 h.b2)
  have b1 : (1 : Nat) < big := by decide
  simp [s5, evS, evE, evA, List.replicate, op_muli, m1, m2, m3, low2 hp hq, b1, D.fitsL, nf_fits]
theorem stp6 {t0 : Option (List D)} (h : Hy x1 y1 x2 y2 x3 y3) : evS (C 10) s6 [some (.loc 0), some (.lst [.int x1, .int y1]), some (.lst [nf (x1 * y2 + x2 * y1) (y1 * y2), nf (x1 * y2 - x2 * y1) (y1 * y2), nf (x1 * x2) (y1 * y2), .bl (decide (x1 * y2 < x2 * y1)), .bl (decide (x2 * y1 < x1 * y2))]), some (.loc 1), none, none, none, none, none, none, none, some (P x1 y1), some (P x2 y2), some (P x3 y3), some (.int bl), some (.int tp), none, none, none, none] [t0, some [nf (x1 * y2 + x2 * y1) (y1 * y2), nf (x1 * y2 - x2 * y1) (y1 * y2)]] = .nx [some (.loc 0), some (.lst [.int x1, .int y1]), some (.lst [nf (x1 * y2 + x2 * y1) (y1 * y2), nf (x1 * y2 - x2 * y1) (y1 * y2), nf (x1 * x2) (y1 * y2), .bl (decide (x1 * y2 < x2 * y1)), .bl (decide (x2 * y1 < x1 * y2))]), some (.loc 2), none, none, none, none, none, none, none, some (P x1 y1), some (P x2 y2), some (P x3 y3), some (.int bl), some (.int tp), none, none, none, none] [t0, none, some [nf (x1 * y2 + x2 * y1) (y1 * y2), nf (x1 * y2 - x2 * y1) (y1 * y2), nf (x1 * x2) (y1 * y2), .bl (decide (x1 * y2 < x2 * y1)), .bl (decide (x2 * y1 < x1 * y2))]] := by
  have m1 := mul_b (bd40 h.a1) (bd40 h.b2)
  have m2 := mul_b (bd40 h.b1) (bd40 h.a2)
  have m3 := mul_b (bd40 h.a2) (bd40 h.b2)
  have m4 := mul_b (bd40 h.a1) (bd40 h.b1)
  have hp : 0 < y1 * y2 := Int.mul_pos h.r1.y0 h.r2.y0
  have hq : Le 81 (y1 * y2) := le_mono (by omega) (le_mul h.a2 h.b2)
  have b3 : (3 : Nat) ≤ big := by decide
  have b5 : (2 + 3 : Nat) ≤ big := by decide
  have k4 := fun S => under_ok (n := 9) (S := S) (pr_t (x := x1) (y := y1)) (pr_t (x := x2) (y := y2)) (sm40 h.a1) (sm40 h.a2) (sm40 h.b1) (sm40 h.b2)
  have k5 := fun S => under_ok (n := 9) (S := S) (pr_t (x := x2) (y := y2)) (pr_t (x := x1) (y := y1)) (sm40 h.b1) (sm40 h.b2) (sm40 h.a1) (sm40 h.a2)
  simp [s6, evS, evE, evA, List.replicate, op_muli, m3, m4, low2 hp hq, k4, k5, b3, b5, D.fitsL, D.fits, nf_fits]
theorem stp7 (h : Hy x1 y1 x2 y2 x3 y3) (hb : Le 40 bl) : evS (C 10) s7 [some (.loc 0), some (.lst [.int x1, .int y1]), some (.lst [nf (x1 * y2 + x2 * y1) (y1 * y2), nf (x1 * y2 - x2 * y1) (y1 * y2), nf (x1 * x2) (y1 * y2), .bl (decide (x1 * y2 < x2 * y1)), .bl (decide (x2 * y1 < x1 * y2))]), some (.loc 2), none, none, none, none, none, none, none, some (P x1 y1), some (P x2 y2), some (P x3 y3), some (.int bl), some (.int tp), none, none, none, none] S = .nx [some (.loc 0), some (.lst [.int x1, .int y1]), some (.lst [nf (x1 * y2 + x2 * y1) (y1 * y2), nf (x1 * y2 - x2 * y1) (y1 * y2), nf (x1 * x2) (y1 * y2), .bl (decide (x1 * y2 < x2 * y1)), .bl (decide (x2 * y1 < x1 * y2)), (if x2 = 0 then sCan else nfs (x1 * y2) (y1 * x2)), (if bl = 0 then sUnf else nfs tp bl)]), some (.loc 2), none, none, none, none, none, none, none, some (P x1 y1), some (P x2 y2), some (P x3 y3), some (.int bl), some (.int tp), none, none, none, none] S := by
  have b3 : (2 : Nat) ≤ big := by decide
  have b5 : (5 + 2 : Nat) ≤ big := by decide
  have k4 := heard_over (n := 7) (S := S) (sm40 h.a1) (sm40 h.a2) (sm40 h.b1) (sm40 h.b2) (by have := h.r1.y0; omega)
  have k5 := heard_frac (n := 8) (S := S) (x := tp) (bd40 hb)
  simp [s7, evS, evE, evA, List.replicate, k4, k5, b3, b5]
theorem turn2 {t w : Int} (hw : w ≠ 0) (h : Le 81 w) : callN Fs is 10 22 [.int t, .int w] S = .ok (nfs t w) S := turned_ok (n := 8) hw (le_mono (b := 299) (by omega) h)
theorem stp8 {t0 t1 : Option (List D)} (h : Hy x1 y1 x2 y2 x3 y3) : evS (C 10) s8 [some (.loc 0), some (.lst [.int x1, .int y1]), some (.lst [nf (x1 * y2 + x2 * y1) (y1 * y2), nf (x1 * y2 - x2 * y1) (y1 * y2), nf (x1 * x2) (y1 * y2), .bl (decide (x1 * y2 < x2 * y1)), .bl (decide (x2 * y1 < x1 * y2)), (if x2 = 0 then sCan else nfs (x1 * y2) (y1 * x2)), (if bl = 0 then sUnf else nfs tp bl)]), some (.loc 2), none, none, none, none, none, none, none, some (P x1 y1), some (P x2 y2), some (P x3 y3), some (.int bl), some (.int tp), none, none, none, none] [t0, t1, some [nf (x1 * y2 + x2 * y1) (y1 * y2), nf (x1 * y2 - x2 * y1) (y1 * y2), nf (x1 * x2) (y1 * y2), .bl (decide (x1 * y2 < x2 * y1)), .bl (decide (x2 * y1 < x1 * y2))]] = .nx [some (.loc 0), some (.lst [.int x1, .int y1]), some (.lst [nf (x1 * y2 + x2 * y1) (y1 * y2), nf (x1 * y2 - x2 * y1) (y1 * y2), nf (x1 * x2) (y1 * y2), .bl (decide (x1 * y2 < x2 * y1)), .bl (decide (x2 * y1 < x1 * y2)), (if x2 = 0 then sCan else nfs (x1 * y2) (y1 * x2)), (if bl = 0 then sUnf else nfs tp bl)]), some (.loc 2), none, none, none, none, none, none, none, some (P x1 y1), some (P x2 y2), some (P x3 y3), some (.int bl), some (.int tp), none, none, none, none] [t0, t1, some [nf (x1 * y2 + x2 * y1) (y1 * y2), nf (x1 * y2 - x2 * y1) (y1 * y2), nf (x1 * x2) (y1 * y2), .bl (decide (x1 * y2 < x2 * y1)), .bl (decide (x2 * y1 < x1 * y2)), (if x2 = 0 then sCan else nfs (x1 * y2) (y1 * x2))]] := by
  have m1 := mul_b (bd40 h.a1) (bd40 h.b2)
  have m2 := mul_b (bd40 h.a2) (bd40 h.b1)
  have b5 : (5 : Nat) < big := by decide
  have b2 : (2 : Nat) ≤ big := by decide
  by_cases hz : x2 = 0
  · simp [s8, evS, evE, evA, List.replicate, hz, b5, b2, D.fitsL, D.fits]
  · have hq : Le 81 (y1 * x2) := le_mono (by omega) (le_mul h.a2 h.b1)
    have h0 : y1 * x2 ≠ 0 := Int.mul_ne_zero (by have := h.r1.y0; omega) hz
    simp [s8, evS, evE, evA, List.replicate, hz, op_muli, m1, m2, turn2 h0 hq, b5, nfs_fits]
theorem stp9 {t0 t1 : Option (List D)} (hb : Le 40 bl) : evS (C 10) s9 [some (.loc 0), some (.lst [.int x1, .int y1]), some (.lst [nf (x1 * y2 + x2 * y1) (y1 * y2), nf (x1 * y2 - x2 * y1) (y1 * y2), nf (x1 * x2) (y1 * y2), .bl (decide (x1 * y2 < x2 * y1)), .bl (decide (x2 * y1 < x1 * y2)), (if x2 = 0 then sCan else nfs (x1 * y2) (y1 * x2)), (if bl = 0 then sUnf else nfs tp bl)]), some (.loc 2), none, none, none, none, none, none, none, some (P x1 y1), some (P x2 y2), some (P x3 y3), some (.int bl), some (.int tp), none, none, none, none] [t0, t1, some [nf (x1 * y2 + x2 * y1) (y1 * y2), nf (x1 * y2 - x2 * y1) (y1 * y2), nf (x1 * x2) (y1 * y2), .bl (decide (x1 * y2 < x2 * y1)), .bl (decide (x2 * y1 < x1 * y2)), (if x2 = 0 then sCan else nfs (x1 * y2) (y1 * x2))]] = .nx [some (.loc 0), some (.lst [.int x1, .int y1]), some (.lst [nf (x1 * y2 + x2 * y1) (y1 * y2), nf (x1 * y2 - x2 * y1) (y1 * y2), nf (x1 * x2) (y1 * y2), .bl (decide (x1 * y2 < x2 * y1)), .bl (decide (x2 * y1 < x1 * y2)), (if x2 = 0 then sCan else nfs (x1 * y2) (y1 * x2)), (if bl = 0 then sUnf else nfs tp bl)]), some (.loc 2), none, none, none, none, none, none, none, some (P x1 y1), some (P x2 y2), some (P x3 y3), some (.int bl), some (.int tp), none, none, none, none] [t0, t1, some [nf (x1 * y2 + x2 * y1) (y1 * y2), nf (x1 * y2 - x2 * y1) (y1 * y2), nf (x1 * x2) (y1 * y2), .bl (decide (x1 * y2 < x2 * y1)), .bl (decide (x2 * y1 < x1 * y2)), (if x2 = 0 then sCan else nfs (x1 * y2) (y1 * x2)), (if bl = 0 then sUnf else nfs tp bl)]] := by
  have b5 : (6 : Nat) < big := by decide
  have b2 : (2 : Nat) ≤ big := by decide
  by_cases hz : bl = 0
  · simp [s9, evS, evE, evA, List.replicate, hz, b5, b2, D.fitsL, D.fits]
  · simp [s9, evS, evE, evA, List.replicate, hz, turn2 hz (le_mono (by omega) hb), b5, nfs_fits]
theorem stp10 : evS (C 10) s10 [some (.loc 0), some (.lst [.int x1, .int y1]), some (.lst [nf (x1 * y2 + x2 * y1) (y1 * y2), nf (x1 * y2 - x2 * y1) (y1 * y2), nf (x1 * x2) (y1 * y2), .bl (decide (x1 * y2 < x2 * y1)), .bl (decide (x2 * y1 < x1 * y2)), (if x2 = 0 then sCan else nfs (x1 * y2) (y1 * x2)), (if bl = 0 then sUnf else nfs tp bl)]), some (.loc 2), none, none, none, none, none, none, none, some (P x1 y1), some (P x2 y2), some (P x3 y3), some (.int bl), some (.int tp), none, none, none, none] S = .nx [some (.loc 0), some (.lst [.int x1, .int y1]), some (.lst [nf (x1 * y2 + x2 * y1) (y1 * y2), nf (x1 * y2 - x2 * y1) (y1 * y2), nf (x1 * x2) (y1 * y2), .bl (decide (x1 * y2 < x2 * y1)), .bl (decide (x2 * y1 < x1 * y2)), (if x2 = 0 then sCan else nfs (x1 * y2) (y1 * x2)), (if bl = 0 then sUnf else nfs tp bl)]), some (.loc 2), some (.lst [P x1 y1, P x2 y2, P x3 y3]), none, none, none, none, none, none, some (P x1 y1), some (P x2 y2), some (P x3 y3), some (.int bl), some (.int tp), none, none, none, none] S := by
  have b3 : (3 : Nat) ≤ big := by decide
  simp [s10, evS, evE, evA, List.replicate, b3]
end
end K01

set_option Elab.async false
set_option linter.all false
set_option maxRecDepth 100000
set_option maxHeartbeats 4000000
namespace K01
open PySem Ev
section
variable {x1 y1 x2 y2 x3 y3 bl tp : Int} {S : Sto}
theorem Hy.three (h : Hy x1 y1 x2 y2 x3 y3) : Three x1 y1 x2 y2 x3 y3 (x1 * y2 * y3) (x2 * y1 * y3) (x3 * y1 * y2) :=
  ⟨h.r1, h.r2, h.r3, ⟨sm40 h.a1, sm40 h.a2⟩, ⟨sm40 h.b1, sm40 h.b2⟩, ⟨sm40 h.c1, sm40 h.c2⟩, rfl, rfl, rfl⟩
abbrev lD (x1 y1 x2 y2 x3 y3 : Int) : D := leastD (x1 * y2 * y3) (x2 * y1 * y3) (x3 * y1 * y2) (P x1 y1) (P x2 y2) (P x3 y3)
abbrev gD (x1 y1 x2 y2 x3 y3 : Int) : D := greatD (x1 * y2 * y3) (x2 * y1 * y3) (x3 * y1 * y2) (P x1 y1) (P x2 y2) (P x3 y3)
theorem good_lD : Good (lD x1 y1 x2 y2 x3 y3) := by
  unfold lD leastD
  exact good_ite (good_ite good_P good_P) (good_ite good_P good_P)
theorem good_gD : Good (gD x1 y1 x2 y2 x3 y3) := by
  unfold gD greatD
  exact good_ite (good_ite good_P good_P) (good_ite good_P good_P)

theorem stp11 (h : Hy x1 y1 x2 y2 x3 y3) : ∃ d0 d1 d2, d0 = lD x1 y1 x2 y2 x3 y3 ∧ d2 = gD x1 y1 x2 y2 x3 y3 ∧ evS (C 10) s11 [some (.loc 0), some (.lst [.int x1, .int y1]), some (.lst [nf (x1 * y2 + x2 * y1) (y1 * y2), nf (x1 * y2 - x2 * y1) (y1 * y2), nf (x1 * x2) (y1 * y2), .bl (decide (x1 * y2 < x2 * y1)), .bl (decide (x2 * y1 < x1 * y2)), (if x2 = 0 then sCan else nfs (x1 * y2) (y1 * x2)), (if bl = 0 then sUnf else nfs tp bl)]), some (.loc 2), some (.lst [P x1 y1, P x2 y2, P x3 y3]), none, none, none, none, none, none, some (P x1 y1), some (P x2 y2), some (P x3 y3), some (.int bl), some (.int tp), none, none, none, none] S = .nx [some (.loc 0), some (.lst [.int x1, .int y1]), some (.lst [nf (x1 * y2 + x2 * y1) (y1 * y2), nf (x1 * y2 - x2 * y1) (y1 * y2), nf (x1 * x2) (y1 * y2), .bl (decide (x1 * y2 < x2 * y1)), .bl (decide (x2 * y1 < x1 * y2)), (if x2 = 0 then sCan else nfs (x1 * y2) (y1 * x2)), (if bl = 0 then sUnf else nfs tp bl)]), some (.loc 2), some (.lst [d0, d1, d2]), some (.int 1), none, none, none, none, none, some (P x1 y1), some (P x2 y2), some (P x3 y3), some (.int bl), some (.int tp), some (.int 1), none, none, none] S :=
  sort_ok (n := 9) h.three
theorem stp12 {d0 d1 d2 : D} (h : Hy x1 y1 x2 y2 x3 y3) : evS (C 10) s12 [some (.loc 0), some (.lst [.int x1, .int y1]), some (.lst [nf (x1 * y2 + x2 * y1) (y1 * y2), nf (x1 * y2 - x2 * y1) (y1 * y2), nf (x1 * x2) (y1 * y2), .bl (decide (x1 * y2 < x2 * y1)), .bl (decide (x2 * y1 < x1 * y2)), (if x2 = 0 then sCan else nfs (x1 * y2) (y1 * x2)), (if bl = 0 then sUnf else nfs tp bl)]), some (.loc 2), some (.lst [d0, d1, d2]), some (.int 1), none, none, none, none, none, some (P x1 y1), some (P x2 y2), some (P x3 y3), some (.int bl), some (.int tp), some (.int 1), none, none, none] S = .nx [some (.loc 0), some (.lst [.int x1, .int y1]), some (.lst [nf (x1 * y2 + x2 * y1) (y1 * y2), nf (x1 * y2 - x2 * y1) (y1 * y2), nf (x1 * x2) (y1 * y2), .bl (decide (x1 * y2 < x2 * y1)), .bl (decide (x2 * y1 < x1 * y2)), (if x2 = 0 then sCan else nfs (x1 * y2) (y1 * x2)), (if bl = 0 then sUnf else nfs tp bl), lD x1 y1 x2 y2 x3 y3, gD x1 y1 x2 y2 x3 y3, .bl true, .bl (decide (0 < x1))]), some (.loc 2), some (.lst [d0, d1, d2]), some (.int 1), none, none, none, none, none, some (P x1 y1), some (P x2 y2), some (P x3 y3), some (.int bl), some (.int tp), some (.int 1), none, none, none] S := by
  have k1 := least_ok (n := 8) (S := S) h.three
  have k2 := great_ok (n := 8) (S := S) h.three
  have k3 := isf_ok (n := 7) (S := S) (x := x1) (y := y1)
  have k4 := iss_ok (n := 6) (S := S) h.r1
  have h1 : 1 ≤ y1 := h.r1.y0
  simp only [h1, h.r1.g, decide_true, Bool.and_self] at k3
  have b3 : (3 : Nat) ≤ big := by decide
  have b4 : (4 : Nat) ≤ big := by decide
  have b11 : (7 + 4 : Nat) ≤ big := by decide
  simp [s12, evS, evE, evA, List.replicate, k1, k2, k3, k4, b3, b4, b11, lD, gD, leastD, greatD]
theorem stp13 {t0 t1 : Option (List D)} {d0 d1 d2 : D} (e0 : d0 = lD x1 y1 x2 y2 x3 y3) (e2 : d2 = gD x1 y1 x2 y2 x3 y3) : evS (C 10) s13 [some (.loc 0), some (.lst [.int x1, .int y1]), some (.lst [nf (x1 * y2 + x2 * y1) (y1 * y2), nf (x1 * y2 - x2 * y1) (y1 * y2), nf (x1 * x2) (y1 * y2), .bl (decide (x1 * y2 < x2 * y1)), .bl (decide (x2 * y1 < x1 * y2)), (if x2 = 0 then sCan else nfs (x1 * y2) (y1 * x2)), (if bl = 0 then sUnf else nfs tp bl), lD x1 y1 x2 y2 x3 y3, gD x1 y1 x2 y2 x3 y3, .bl true, .bl (decide (0 < x1))]), some (.loc 2), some (.lst [d0, d1, d2]), some (.int 1), none, none, none, none, none, some (P x1 y1), some (P x2 y2), some (P x3 y3), some (.int bl), some (.int tp), some (.int 1), none, none, none] [t0, t1, some [nf (x1 * y2 + x2 * y1) (y1 * y2), nf (x1 * y2 - x2 * y1) (y1 * y2), nf (x1 * x2) (y1 * y2), .bl (decide (x1 * y2 < x2 * y1)), .bl (decide (x2 * y1 < x1 * y2)), (if x2 = 0 then sCan else nfs (x1 * y2) (y1 * x2)), (if bl = 0 then sUnf else nfs tp bl)]] = .nx [some (.loc 0), some (.lst [.int x1, .int y1]), some (.lst [nf (x1 * y2 + x2 * y1) (y1 * y2), nf (x1 * y2 - x2 * y1) (y1 * y2), nf (x1 * x2) (y1 * y2), .bl (decide (x1 * y2 < x2 * y1)), .bl (decide (x2 * y1 < x1 * y2)), (if x2 = 0 then sCan else nfs (x1 * y2) (y1 * x2)), (if bl = 0 then sUnf else nfs tp bl), lD x1 y1 x2 y2 x3 y3, gD x1 y1 x2 y2 x3 y3, .bl true, .bl (decide (0 < x1))]), some (.loc 2), some (.lst [d0, d1, d2]), some (.int 1), none, none, none, none, none, some (P x1 y1), some (P x2 y2), some (P x3 y3), some (.int bl), some (.int tp), some (.int 1), none, none, none] [t0, t1, none] := by
  subst e0
  subst e2
  have k := fun S => same_lst (n := 9) (S := S) (xs := [nf (x1 * y2 + x2 * y1) (y1 * y2), nf (x1 * y2 - x2 * y1) (y1 * y2), nf (x1 * x2) (y1 * y2), .bl (decide (x1 * y2 < x2 * y1)), .bl (decide (x2 * y1 < x1 * y2)), (if x2 = 0 then sCan else nfs (x1 * y2) (y1 * x2)), (if bl = 0 then sUnf else nfs tp bl), lD x1 y1 x2 y2 x3 y3, gD x1 y1 x2 y2 x3 y3, .bl true, .bl (decide (0 < x1))]) (by show (11 : Nat) ≤ big; decide) fun d hd => by
    simp only [List.mem_cons, List.not_mem_nil, or_false] at hd
    rcases hd with rfl | rfl | rfl | rfl | rfl | rfl | rfl | rfl | rfl | rfl | rfl
    · exact good_nf S
    · exact good_nf S
    · exact good_nf S
    · exact good_bl S
    · exact good_bl S
    · exact good_ite good_can good_nfs S
    · exact good_ite good_unf good_nfs S
    · exact good_lD S
    · exact good_gD S
    · exact good_bl S
    · exact good_bl S
  have b4 : (4 : Nat) ≤ big := by decide
  have b11 : (7 + 4 : Nat) ≤ big := by decide
  simp [s13, evS, evE, evA, List.replicate, b4, b11, k]
theorem stp14 {d0 d1 d2 : D} : evS (C 10) s14 [some (.loc 0), some (.lst [.int x1, .int y1]), some (.lst [nf (x1 * y2 + x2 * y1) (y1 * y2), nf (x1 * y2 - x2 * y1) (y1 * y2), nf (x1 * x2) (y1 * y2), .bl (decide (x1 * y2 < x2 * y1)), .bl (decide (x2 * y1 < x1 * y2)), (if x2 = 0 then sCan else nfs (x1 * y2) (y1 * x2)), (if bl = 0 then sUnf else nfs tp bl), lD x1 y1 x2 y2 x3 y3, gD x1 y1 x2 y2 x3 y3, .bl true, .bl (decide (0 < x1))]), some (.loc 2), some (.lst [d0, d1, d2]), some (.int 1), none, none, none, none, none, some (P x1 y1), some (P x2 y2), some (P x3 y3), some (.int bl), some (.int tp), some (.int 1), none, none, none] S = .nx [some (.loc 0), some (.lst [.int x1, .int y1]), some (.lst [nf (x1 * y2 + x2 * y1) (y1 * y2), nf (x1 * y2 - x2 * y1) (y1 * y2), nf (x1 * x2) (y1 * y2), .bl (decide (x1 * y2 < x2 * y1)), .bl (decide (x2 * y1 < x1 * y2)), (if x2 = 0 then sCan else nfs (x1 * y2) (y1 * x2)), (if bl = 0 then sUnf else nfs tp bl), lD x1 y1 x2 y2 x3 y3, gD x1 y1 x2 y2 x3 y3, .bl true, .bl (decide (0 < x1))]), some (.loc 2), some (.lst [d0, d1, d2]), some (.int 1), some (.lst [P (x1 * 2) (y1 * 2), P x1 (0 - y1), P x1 0, .lst [.int x1, .int y1]]), none, none, none, none, some (P x1 y1), some (P x2 y2), some (P x3 y3), some (.int bl), some (.int tp), some (.int 1), none, none, none] S := by
  have b2 : (2 : Nat) ≤ big := by decide
  have b4 : (4 : Nat) ≤ big := by decide
  have m2 : ∀ i, mulOk i 2 = true := fun i => mul_r (by decide) (by decide)
  simp [s14, evS, evE, evA, List.replicate, op_muli, m2, b2, b4]
theorem stp15 {d0 d1 d2 : D} (h : Hy x1 y1 x2 y2 x3 y3) : evS (C 10) s15 [some (.loc 0), some (.lst [.int x1, .int y1]), some (.lst [nf (x1 * y2 + x2 * y1) (y1 * y2), nf (x1 * y2 - x2 * y1) (y1 * y2), nf (x1 * x2) (y1 * y2), .bl (decide (x1 * y2 < x2 * y1)), .bl (decide (x2 * y1 < x1 * y2)), (if x2 = 0 then sCan else nfs (x1 * y2) (y1 * x2)), (if bl = 0 then sUnf else nfs tp bl), lD x1 y1 x2 y2 x3 y3, gD x1 y1 x2 y2 x3 y3, .bl true, .bl (decide (0 < x1))]), some (.loc 2), some (.lst [d0, d1, d2]), some (.int 1), some (.lst [P (x1 * 2) (y1 * 2), P x1 (0 - y1), P x1 0, .lst [.int x1, .int y1]]), none, none, none, none, some (P x1 y1), some (P x2 y2), some (P x3 y3), some (.int bl), some (.int tp), some (.int 1), none, none, none] S = .nx [some (.loc 0), some (.lst [.int x1, .int y1]), some (.lst [nf (x1 * y2 + x2 * y1) (y1 * y2), nf (x1 * y2 - x2 * y1) (y1 * y2), nf (x1 * x2) (y1 * y2), .bl (decide (x1 * y2 < x2 * y1)), .bl (decide (x2 * y1 < x1 * y2)), (if x2 = 0 then sCan else nfs (x1 * y2) (y1 * x2)), (if bl = 0 then sUnf else nfs tp bl), lD x1 y1 x2 y2 x3 y3, gD x1 y1 x2 y2 x3 y3, .bl true, .bl (decide (0 < x1))]), some (.loc 2), some (.lst [d0, d1, d2]), some (.int 1), some (.lst [P (x1 * 2) (y1 * 2), P x1 (0 - y1), P x1 0, .lst [.int x1, .int y1]]), none, none, none, none, some (P x1 y1), some (P x2 y2), some (P x3 y3), some (.int bl), some (.int tp), some (.int 1), none, none, none] S := by
  have b4 : (4 : Nat) ≤ big := by decide
  have b1 : (1 : Nat) ≤ big := by decide
  have y0 := h.r1.y0
  have k1 := isf_ok (n := 7) (S := S) (x := x1 * 2) (y := y1 * 2)
  have k2 := isf_ok (n := 7) (S := S) (x := x1) (y := -y1)
  have k3 := isf_ok (n := 7) (S := S) (x := x1) (y := 0)
  have k4 := isf_l (n := 7) (S := S) (xs := [.int x1, .int y1])
  have g2 : Nat.gcd (x1 * 2).natAbs (y1 * 2).natAbs ≠ 1 := by
    rw [Int.natAbs_mul, Int.natAbs_mul, Nat.gcd_mul_right, h.r1.g]
    decide
  have n2 : ¬ 1 ≤ -y1 := by omega
  have n3 : ¬ (1 : Int) ≤ 0 := by decide
  simp only [g2, n2, n3, decide_false, Bool.and_false, Bool.false_and] at k1 k2 k3
  have k := same_lst (n := 9) (S := S) (xs := [.bl false, .bl false, .bl false, .bl false]) (by show (4 : Nat) ≤ big; decide) fun d hd => by
    simp only [List.mem_cons, List.not_mem_nil, or_false] at hd
    rcases hd with rfl | rfl | rfl | rfl <;> exact good_bl S
  have hrep : opD .mul (.lst [.bl false]) (.int 4) = some (.lst [.bl false, .bl false, .bl false, .bl false]) := by kernel_rfl
  simp [s15, evS, evE, evA, List.replicate, evI, itD, compL, Tg.set, wipeE, k1, k2, k3, k4, k, hrep, b4, b1]
end
end K01

set_option Elab.async false
set_option linter.all false
set_option maxRecDepth 100000
set_option maxHeartbeats 4000000
namespace K01
open PySem Ev
section
variable {x1 y1 x2 y2 x3 y3 bl tp xf yf xs ys us vs : Int} {S : Sto} {v1 v2 v3 v4 v5 v6 v14 v15 v16 v19 : Option D}
theorem good10 {x y : Int} : callN Fs is 10 17 [P x y, P x y] S = .ok (.bl true) S := by
  have e := same_pr (n := 8) (S := S) (x := x) (y := y) (x' := x) (y' := y)
  simpa using e

theorem stp17e (h : Hy x1 y1 x2 y2 x3 y3) (q : x1 = x2 ∧ y1 = y2) : evS (C 10) s17 [some (.loc 0), v1, v2, v3, v4, v5, v6, none, none, none, none, some (P x1 y1), some (P x2 y2), some (P x3 y3), v14, v15, v16, some (P xf yf), some (P xs ys), v19] S = .rt (.bl true) S := by
  obtain ⟨rfl, rfl⟩ := q
  have k1 := same_pr (n := 8) (S := S) (x := x1) (y := y1) (x' := x1) (y' := y1)
  have k2 := sh_ok (n := 5) (S := S) h.r1 h.a1 h.a2
  have b1 : (1 : Nat) ≤ big := by decide
  have k3 := same_lst (n := 9) (S := S) (xs := [.str (Str.ofString "cannot")]) (by show (1 : Nat) ≤ big; decide) fun d hd => by
    simp only [List.mem_cons, List.not_mem_nil, or_false] at hd
    subst hd
    exact same_str (n := 8) eq_cannot
  simp [s17, evS, evE, evA, List.replicate, k1, k2, k3, b1]
theorem stp17n (q : ¬ (x1 = x2 ∧ y1 = y2)) : evS (C 10) s17 [some (.loc 0), v1, v2, v3, v4, v5, v6, none, none, none, none, some (P x1 y1), some (P x2 y2), some (P x3 y3), v14, v15, v16, some (P xf yf), some (P xs ys), v19] S = .nx [some (.loc 0), v1, v2, v3, v4, v5, v6, none, none, none, none, some (P x1 y1), some (P x2 y2), some (P x3 y3), v14, v15, v16, some (P xf yf), some (P xs ys), v19] S := by
  have k1 := same_pr (n := 8) (S := S) (x := x1) (y := y1) (x' := x2) (y' := y2)
  have q2 : (decide (x1 = x2) && decide (y1 = y2)) = false := by
    rw [← Bool.decide_and]
    exact decide_eq_false q
  rw [q2] at k1
  simp [s17, evS, evE, evA, List.replicate, k1]
theorem stp18 (h : Hy x1 y1 x2 y2 x3 y3) : evS (C 10) s18 [some (.loc 0), v1, v2, v3, v4, v5, v6, none, none, none, none, some (P x1 y1), some (P x2 y2), some (P x3 y3), v14, v15, v16, some (P xf yf), some (P xs ys), v19] S = .nx [some (.loc 0), v1, v2, v3, v4, v5, v6, some (P (x3 * y1 - x1 * y3) (y3 * y1)), none, none, none, some (P x1 y1), some (P x2 y2), some (P x3 y3), v14, v15, v16, some (P xf yf), some (P xs ys), v19] S := by
  have b2 : (2 : Nat) ≤ big := by decide
  have m1 := mul_b (bd40 h.c1) (bd40 h.a2)
  have m2 := mul_b (bd40 h.a1) (bd40 h.c2)
  have m3 := mul_b (bd40 h.c2) (bd40 h.a2)
  simp [s18, evS, evE, evA, List.replicate, op_muli, m1, m2, m3, b2]
theorem stp19 (h : Hy x1 y1 x2 y2 x3 y3) : evS (C 10) s19 [some (.loc 0), v1, v2, v3, v4, v5, v6, some (P (x3 * y1 - x1 * y3) (y3 * y1)), none, none, none, some (P x1 y1), some (P x2 y2), some (P x3 y3), v14, v15, v16, some (P xf yf), some (P xs ys), v19] S = .nx [some (.loc 0), v1, v2, v3, v4, v5, v6, some (P (x3 * y1 - x1 * y3) (y3 * y1)), some (P (x2 * y1 - x1 * y2) (y2 * y1)), none, none, some (P x1 y1), some (P x2 y2), some (P x3 y3), v14, v15, v16, some (P xf yf), some (P xs ys), v19] S := by
  have b2 : (2 : Nat) ≤ big := by decide
  have m1 := mul_b (bd40 h.b1) (bd40 h.a2)
  have m2 := mul_b (bd40 h.a1) (bd40 h.b2)
  have m3 := mul_b (bd40 h.b2) (bd40 h.a2)
  simp [s19, evS, evE, evA, List.replicate, op_muli, m1, m2, m3, b2]
theorem le1k {k : Nat} {i : Int} (hk : k ≤ 1000) (h : Le k i) : Bd i := le_mono hk h
theorem stp20 (h : Hy x1 y1 x2 y2 x3 y3) (hw : (y3 * y1) * (x2 * y1 - x1 * y2) ≠ 0) (e : nfs ((x3 * y1 - x1 * y3) * (y2 * y1)) ((y3 * y1) * (x2 * y1 - x1 * y2)) = P us vs) : evS (C 10) s20 [some (.loc 0), v1, v2, v3, v4, v5, v6, some (P (x3 * y1 - x1 * y3) (y3 * y1)), some (P (x2 * y1 - x1 * y2) (y2 * y1)), none, none, some (P x1 y1), some (P x2 y2), some (P x3 y3), v14, v15, v16, some (P xf yf), some (P xs ys), v19] S = .nx [some (.loc 0), v1, v2, v3, v4, v5, v6, some (P (x3 * y1 - x1 * y3) (y3 * y1)), some (P (x2 * y1 - x1 * y2) (y2 * y1)), some (P us vs), none, some (P x1 y1), some (P x2 y2), some (P x3 y3), v14, v15, v16, some (P xf yf), some (P xs ys), v19] S := by
  have p0 : Le 81 (x3 * y1 - x1 * y3) := le_sub (le_mul h.c1 h.a2) (le_mul h.a1 h.c2)
  have p1 : Le 80 (y3 * y1) := le_mul h.c2 h.a2
  have w0 : Le 81 (x2 * y1 - x1 * y2) := le_sub (le_mul h.b1 h.a2) (le_mul h.a1 h.b2)
  have w1 : Le 80 (y2 * y1) := le_mul h.b2 h.a2
  have m1 := mul_b (le1k (by omega) p0) (le1k (by omega) w1)
  have m2 := mul_b (le1k (by omega) p1) (le1k (by omega) w0)
  have k := turned_ok (n := 8) (S := S) (t := (x3 * y1 - x1 * y3) * (y2 * y1)) hw (le_mono (b := 299) (by omega) (le_mul p1 w0))
  rw [e] at k
  simp [s20, evS, evE, evA, List.replicate, op_muli, m1, m2, k]
theorem stp21 (f1 : Le 40 xf) (f2 : Le 40 yf) (s1' : Le 40 xs) (s2' : Le 40 ys) : evS (C 10) s21 [some (.loc 0), v1, v2, v3, v4, v5, v6, some (P (x3 * y1 - x1 * y3) (y3 * y1)), some (P (x2 * y1 - x1 * y2) (y2 * y1)), some (P us vs), none, some (P x1 y1), some (P x2 y2), some (P x3 y3), v14, v15, v16, some (P xf yf), some (P xs ys), v19] S = .nx [some (.loc 0), v1, v2, v3, v4, v5, v6, some (P (x3 * y1 - x1 * y3) (y3 * y1)), some (P (x2 * y1 - x1 * y2) (y2 * y1)), some (P us vs), some (P (xs * yf - xf * ys) (ys * yf)), some (P x1 y1), some (P x2 y2), some (P x3 y3), v14, v15, v16, some (P xf yf), some (P xs ys), v19] S := by
  have b2 : (2 : Nat) ≤ big := by decide
  have m1 := mul_b (bd40 s1') (bd40 f2)
  have m2 := mul_b (bd40 f1) (bd40 s2')
  have m3 := mul_b (bd40 s2') (bd40 f2)
  simp [s21, evS, evE, evA, List.replicate, op_muli, m1, m2, m3, b2]
theorem stp22 (f1 : Le 40 xf) (f2 : Le 40 yf) (s1' : Le 40 xs) (s2' : Le 40 ys) (hu : Le 163 us) (hv : Le 163 vs) (f0 : 0 < yf) (s0 : 0 < ys) (v0 : 0 < vs) : evS (C 10) s22 [some (.loc 0), v1, v2, v3, v4, v5, v6, some (P (x3 * y1 - x1 * y3) (y3 * y1)), some (P (x2 * y1 - x1 * y2) (y2 * y1)), some (P us vs), some (P (xs * yf - xf * ys) (ys * yf)), some (P x1 y1), some (P x2 y2), some (P x3 y3), v14, v15, v16, some (P xf yf), some (P xs ys), v19] S = .nx [some (.loc 0), v1, v2, some (nf (xf * (ys * yf) * vs + (xs * yf - xf * ys) * us * yf) (yf * (ys * yf) * vs)), v4, v5, v6, some (P (x3 * y1 - x1 * y3) (y3 * y1)), some (P (x2 * y1 - x1 * y2) (y2 * y1)), some (P us vs), some (P (xs * yf - xf * ys) (ys * yf)), some (P x1 y1), some (P x2 y2), some (P x3 y3), v14, v15, v16, some (P xf yf), some (P xs ys), v19] S := by
  have a0 : Le 81 (xs * yf - xf * ys) := le_sub (le_mul s1' f2) (le_mul f1 s2')
  have a1 : Le 80 (ys * yf) := le_mul s2' f2
  have m1 := mul_b (bd40 f1) (le1k (by omega) a1)
  have m2 := mul_b (le1k (by omega) (le_mul f1 a1)) (le1k (by omega) hv)
  have m3 := mul_b (le1k (by omega) a0) (le1k (by omega) hu)
  have m4 := mul_b (le1k (by omega) (le_mul a0 hu)) (bd40 f2)
  have m5 := mul_b (bd40 f2) (le1k (by omega) a1)
  have m6 := mul_b (le1k (by omega) (le_mul f2 a1)) (le1k (by omega) hv)
  have hp : 0 < yf * (ys * yf) * vs := Int.mul_pos (Int.mul_pos f0 (Int.mul_pos s0 f0)) v0
  have hl : Le 300 (yf * (ys * yf) * vs) := le_mono (by omega) (le_mul (le_mul f2 a1) hv)
  have k := low_nf (n := 9) (S := S) (t := xf * (ys * yf) * vs + (xs * yf - xf * ys) * us * yf) hp (by
    have h1 : (yf * (ys * yf) * vs).natAbs < 2 ^ 300 := hl
    have e : ((2 : Int) ^ 300) = ((2 ^ 300 : Nat) : Int) := by norm_cast
    omega)
  simp [s22, evS, evE, evA, List.replicate, op_muli, m1, m2, m3, m4, m5, m6, k]
theorem stp23 (e : callN Fs is 10 13 [P x1 y1, .lst [.int x2, .int y2], P x3 y3, P xf yf, P xs ys] S = .ok (nf (xf * (ys * yf) * vs + (xs * yf - xf * ys) * us * yf) (yf * (ys * yf) * vs)) S) : evS (C 10) s23 [some (.loc 0), v1, v2, some (nf (xf * (ys * yf) * vs + (xs * yf - xf * ys) * us * yf) (yf * (ys * yf) * vs)), v4, v5, v6, some (P (x3 * y1 - x1 * y3) (y3 * y1)), some (P (x2 * y1 - x1 * y2) (y2 * y1)), some (P us vs), some (P (xs * yf - xf * ys) (ys * yf)), some (P x1 y1), some (P x2 y2), some (P x3 y3), v14, v15, v16, some (P xf yf), some (P xs ys), v19] S = .rt (.bl true) S := by
  have k := lists_ok (n := 8) (S := S) (x := x2) (y := y2)
  have gd : callN Fs is 10 17 [nf (xf * (ys * yf) * vs + (xs * yf - xf * ys) * us * yf) (yf * (ys * yf) * vs), nf (xf * (ys * yf) * vs + (xs * yf - xf * ys) * us * yf) (yf * (ys * yf) * vs)] S = .ok (.bl true) S := good10
  simp [s23, evS, evE, evA, List.replicate, k, e, gd]
/-- behind the first row of checks -/
theorem tail_ok (h : Hy x1 y1 x2 y2 x3 y3) (rf : Red xf yf) (rs : Red xs ys) (f1 : Le 40 xf) (f2 : Le 40 yf) (s1' : Le 40 xs) (s2' : Le 40 ys) :
    evS (C 10) (.cons s17 (.cons s18 (.cons s19 (.cons s20 (.cons s21 (.cons s22 (.cons s23 .nil))))))) [some (.loc 0), v1, v2, v3, v4, v5, v6, none, none, none, none, some (P x1 y1), some (P x2 y2), some (P x3 y3), v14, v15, v16, some (P xf yf), some (P xs ys), v19] S = .rt (.bl true) S := by
  by_cases q : x1 = x2 ∧ y1 = y2
  · rw [evS, stp17e h q]
  · obtain ⟨us, vs, e1, l1, l2, v0, hw, e2⟩ := (straight_ok (n := 6) (S := S) (pr_t (x := x1) (y := y1)) (pr_l (x := x2) (y := y2)) (pr_t (x := x3) (y := y3)) (pr_t (x := xf) (y := yf)) (pr_t (x := xs) (y := ys)) h.r1 h.r2 h.r3 rf rs h.a1 h.a2 h.b1 h.b2 h.c1 h.c2 f1 f2 s1' s2').2 q
    rw [evS, stp17n q]; simp only []
    rw [evS, stp18 h]; simp only []
    rw [evS, stp19 h]; simp only []
    rw [evS, stp20 h hw e1]; simp only []
    rw [evS, stp21 f1 f2 s1' s2']; simp only []
    rw [evS, stp22 f1 f2 s1' s2' l1 l2 rf.y0 rs.y0 v0]; simp only []
    rw [evS, stp23 e2]
end
theorem any10 {a b z : Int} {S : Sto} (t : Tin a b z) (hz : z + 3 < 2 ^ 20) : ∃ x y a' z', Red x y ∧ Le 40 x ∧ Le 40 y ∧ Tin a' b z' ∧ z' ≤ z + 3 ∧
    callN Fs is 10 21 [.loc 0] (some [.int a, .int b, .int z] :: S) = .ok (P x y) (some [.int a', .int b, .int z'] :: S) := by
  obtain ⟨x, y, a', z', r, h1, h2, h3, h4, h5, e⟩ := any_ok (n := 8) (S := S) t hz
  have y0 := r.y0
  exact ⟨x, y, a', z', r, le_12 h1, le_12 (by omega), ⟨h3, t.b0, t.b1, h4, by omega⟩, h5, e⟩
theorem right_ok {a b : Int} (t : Tin a b 0) : ∃ S', callN Fs is 11 26 [.loc 0] [some [.int a, .int b, .int 0]] = .ok (.bl true) S' := by
  obtain ⟨x1, y1, a1, z1, r1, l1, l1', t1, h1, e1⟩ := any10 (S := []) t (by omega)
  obtain ⟨x2, y2, a2, z2, r2, l2, l2', t2, h2, e2⟩ := any10 (S := []) t1 (by omega)
  obtain ⟨x3, y3, a3, z3, r3, l3, l3', t3, h3, e3⟩ := any10 (S := []) t2 (by omega)
  obtain ⟨q1, a4, z4, k1, k2, k3, k4, k5, e4⟩ := take_ok (n := 9) (S := []) (w := 41) t3 (by decide) (by decide)
  obtain ⟨q2, a5, z5, m1, m2, m3, m4, m5, e5⟩ := take_ok (n := 9) (S := []) (w := 401) (⟨k3, t3.b0, t3.b1, k4, by omega⟩ : Tin a4 b z4) (by decide) (by decide)
  have t5 : Tin a5 b z5 := ⟨m3, t3.b0, t3.b1, m4, by omega⟩
  have hy : Hy x1 y1 x2 y2 x3 y3 := ⟨r1, r2, r3, l1, l1', l2, l2', l3, l3'⟩
  obtain ⟨xf, yf, a6, z6, rf, lf, lf', t6, h6, e6⟩ := any10 (S := [none, none]) t5 (by omega)
  obtain ⟨xs, ys, a7, z7, rs, ls, ls', t7, h7, e7⟩ := any10 (S := [none, none]) t6 (by omega)
  have hb : Le 40 (q1 - 20) := by
    show (q1 - 20).natAbs < 2 ^ 40
    omega
  have c0 : evS (C 10) s0 [some (.loc 0), none, none, none, none, none, none, none, none, none, none, none, none, none, none, none, none, none, none, none] [some [.int a, .int b, .int 0]] = .nx [some (.loc 0), none, none, none, none, none, none, none, none, none, none, some (P x1 y1), some (P x2 y2), some (P x3 y3), none, none, none, none, none, none] [some [.int a3, .int b, .int z3]] := by
    simp [s0, evS, evE, evA, List.replicate, e1, e2, e3]
  have c1 : evS (C 10) s1 [some (.loc 0), none, none, none, none, none, none, none, none, none, none, some (P x1 y1), some (P x2 y2), some (P x3 y3), none, none, none, none, none, none] [some [.int a3, .int b, .int z3]] = .nx [some (.loc 0), none, none, none, none, none, none, none, none, none, none, some (P x1 y1), some (P x2 y2), some (P x3 y3), some (.int (q1 - 20)), some (.int (q2 - 200)), none, none, none, none] [some [.int a5, .int b, .int z5]] := by
    simp [s1, evS, evE, evA, List.replicate, e4, e5]
  refine ⟨[some [.int a7, .int b, .int z7]], ?_⟩
  rw [call_s (F := f26) rfl rfl, body26]
  show endF 1 (evS (C 10) _ [some (.loc 0), none, none, none, none, none, none, none, none, none, none, none, none, none, none, none, none, none, none, none] _) = _
  rw [evS, c0]; simp only []
  rw [evS, c1]; simp only []
  rw [evS, stp2]; simp only []
  rw [evS, stp3 hy]; simp only []
  rw [evS, stp4 hy]; simp only []
  rw [evS, stp5 hy]; simp only []
  rw [evS, stp6 hy]; simp only []
  rw [evS, stp7 hy hb]; simp only []
  rw [evS, stp8 hy]; simp only []
  rw [evS, stp9 hb]; simp only []
  rw [evS, stp10]; simp only []
  obtain ⟨d0, d1, d2, w0, w2, c11⟩ := stp11 (S := _) hy
  rw [evS, c11]; simp only []
  rw [evS, stp12 hy]; simp only []
  rw [evS, stp13 w0 w2]; simp only []
  rw [evS, stp14]; simp only []
  rw [evS, stp15 hy]; simp only []
  have c16 : ∀ v1 v2 v3 v4 v5 v6 v14 v15 v16 v19 : Option D, evS (C 10) s16 [some (.loc 0), v1, v2, v3, v4, v5, v6, none, none, none, none, some (P x1 y1), some (P x2 y2), some (P x3 y3), v14, v15, v16, none, none, v19] [some [.int a5, .int b, .int z5], none, none] = .nx [some (.loc 0), v1, v2, v3, v4, v5, v6, none, none, none, none, some (P x1 y1), some (P x2 y2), some (P x3 y3), v14, v15, v16, some (P xf yf), some (P xs ys), v19] [some [.int a7, .int b, .int z7], none, none] := fun _ _ _ _ _ _ _ _ _ _ => by
    simp [s16, evS, evE, evA, List.replicate, e6, e7]
  rw [evS, c16]; simp only []
  rw [tail_ok hy rf rs lf lf' ls ls']
  rfl
theorem law_ok (ns : List Int) (hl : ns.length ≤ 63) : ∃ S, callN Fs is 12 27 [.scr ns] [] = .ok (.bl true) S := by
  obtain ⟨c, e1⟩ := cells_ok (n := 10) ns hl
  obtain ⟨a, b, t, e2⟩ := box_ok (n := 10) c
  obtain ⟨S', e3⟩ := right_ok t
  refine ⟨[], ?_⟩
  rw [call_s (F := f27) rfl rfl]
  simp [f27, b27, evS, evE, evA, List.replicate, hand, e1, e2, e3, endF, Ev.fin, D.fits]
end K01

set_option Elab.async false
set_option linter.all false
set_option maxRecDepth 100000
set_option maxHeartbeats 0
namespace K01
open PySem Ev
theorem tab : tabOk G Fs Ds = true := by decide +kernel
theorem bas : ∀ s ∈ G.bas, bootBuiltins (Str.ofString s) = some (.type s) ∧ Str.ofString s ≠ "__name__" ∧ (Str.ofString s == ("__debug__" : Str)) = false := by
  intro s hs
  cases hs with
  | head => exact ⟨by decide +kernel, by decide +kernel, by decide +kernel⟩
  | tail _ h => cases h
end K01
open PySem PySem.W PySem.Calls PyProof.Rows
theorem PySem.Challenge.cw_glidenames_k01_whole_fractions_by_own_re_holds : PySem.Challenge.rw_glidenames_k01_whole_fractions_by_own_re.Holds := by
  w_on; o_law; k_head; (case hw => w_witness2)
  refine L2.walk_ofE (l := PySem.Challenge.rw_glidenames_k01_whole_fractions_by_own_re) (n := 63) (k := 12) (x := "script") (CX := L2.CX0) rfl (by decide) (by kernel_rfl) ⟨rfl, by decide, by decide⟩ ?F (fun _ _ _ _ z => z)
  intro w mg fa h Y N hmg
  have KX := PySem.W.kIn_of Y
  exact Ev.law_F (f := 27) (G := K01.G) (m := K01.mm) (b := K01.bb) (Fs := K01.Fs) (Ds := K01.Ds) K01.tab K01.bas (by kernel_rfl) K01.law_ok (by decide) KX (by kernel_rfl) (show He.obsD [] _ _ = He.valD _ from by kernel_rfl) N hmg

