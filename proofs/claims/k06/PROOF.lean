import PyProof.Rows.All
import Wide.All
import OpenK.AllK
import Wide.FinOn
import HandS.ForMost
import HandS.ForExc
import HandS.StrMore
import HandS.Flow
import KE.KEqNest
import HandS.TupAny
import HandS.Wide
import PyProof.EqKinds
import PyProof.FactsAll.dict
import PyProof.NeKinds
import HandS.IsInst
import HandS.ExcIs
import HandS.More
import HandS.Text
import KE.KExcIs
import PyProof.CallStr
import HandS.Style
import HandS.ExcField
import HandS.ExcOwn
import HandS.Iter
import HandS.Rev
import HandS.Zip
import HandS.ExcInit
import HandS.Comp
import HandS.WordsExc
import PyProof.FactsAll.str_0
import PyProof.FactsAll.str_4
import PyProof.FactsAll.str_5
import PyProof.FactsAll.list_0
import PyProof.FactsAll.list_3
import HandS.Dict
import PyProof.Rows.RuleB_pow
import HandS.ExcCtx
import PyProof.Rows.RuleIs
import HandS.Defaults
import HandS.Ends
import KE.GoesEnum
import KE.GoesMore
import HandS.TupMul
import PyProof.DictUpdate
import HandS.TryMany
import HandS.CallSlots
import HandS.ExcValue
import HandS.MakeKw
import PyProof.ReprRoads
import PySem.Challenge.RW_cursorscripts_k06_errors_and_their_field
set_option Elab.async false
set_option linter.all false
/-! MI1: a small evaluator over plain data: values, store, expressions, statements. -/
namespace MI
open PySem

abbrev Key := L2.Key

/-- plain data: what is never written stands by value; what is written stands in the store -/
inductive D where
  | non
  | bl (b : Bool)
  | int (i : Int)
  | str (x : Str)
  | tup (xs : List D)
  | lst (xs : List D)
  | fls (xs : List D)
  | dic (ks : List Key) (vs : List D)
  | ref (n : Nat)
  | exc (c : Str) (v : D)
  | exc0 (c : Str)
  | fn (f : Str)
  deriving Inhabited

inductive Cell where
  | lst (xs : List D)
  | dic (ks : List Key) (vs : List D)
  deriving Inhabited

abbrev Store := List Cell
abbrev Env := List (Option D)

inductive R (α : Type) where
  | ok (a : α) (S : Store)
  | err (x : D) (S : Store)
  | bad
namespace R
def bind {α β : Type} (r : R α) (f : α → Store → R β) : R β :=
  match r with
  | .ok a S => f a S
  | .err x S => .err x S
  | .bad => .bad
@[simp] theorem bind_ok {α β : Type} (a : α) (S : Store) (f : α → Store → R β) : (R.ok a S).bind f = f a S := rfl
@[simp] theorem bind_err {α β : Type} (x : D) (S : Store) (f : α → Store → R β) : (R.err x S : R α).bind f = .err x S := rfl
@[simp] theorem bind_bad {α β : Type} (f : α → Store → R β) : (R.bad : R α).bind f = .bad := rfl
end R

/-- what stands behind a statement -/
inductive O where
  | nx (σ : Env) (S : Store)
  | ret (d : D) (S : Store)
  | brk (σ : Env) (S : Store)
  | ct (σ : Env) (S : Store)
  | err (x : D) (σ : Env) (S : Store)
  | bad
namespace O
def bind (o : O) (f : Env → Store → O) : O :=
  match o with
  | .nx σ S => f σ S
  | .ret d S => .ret d S
  | .brk σ S => .brk σ S
  | .ct σ S => .ct σ S
  | .err x σ S => .err x σ S
  | .bad => .bad
@[simp] theorem bind_nx (σ : Env) (S : Store) (f : Env → Store → O) : (O.nx σ S).bind f = f σ S := rfl
@[simp] theorem bind_ret (d : D) (S : Store) (f : Env → Store → O) : (O.ret d S).bind f = .ret d S := rfl
@[simp] theorem bind_brk (σ : Env) (S : Store) (f : Env → Store → O) : (O.brk σ S).bind f = .brk σ S := rfl
@[simp] theorem bind_ct (σ : Env) (S : Store) (f : Env → Store → O) : (O.ct σ S).bind f = .ct σ S := rfl
@[simp] theorem bind_err (x : D) (σ : Env) (S : Store) (f : Env → Store → O) : (O.err x σ S).bind f = .err x σ S := rfl
@[simp] theorem bind_bad (f : Env → Store → O) : O.bad.bind f = .bad := rfl
end O
/-- a value into a statement -/
def R.thn {α : Type} (r : R α) (σ : Env) (f : α → Store → O) : O :=
  match r with
  | .ok a S => f a S
  | .err x S => .err x σ S
  | .bad => .bad
@[simp] theorem R.thn_ok {α : Type} (a : α) (S : Store) (σ : Env) (f : α → Store → O) : (R.ok a S).thn σ f = f a S := rfl
@[simp] theorem R.thn_err {α : Type} (x : D) (S : Store) (σ : Env) (f : α → Store → O) : (R.err x S : R α).thn σ f = .err x σ S := rfl
@[simp] theorem R.thn_bad {α : Type} (σ : Env) (f : α → Store → O) : (R.bad : R α).thn σ f = .bad := rfl

/-! ### what data are -/
/-- what a handle stands for, as a value (its top alone) -/
def top (S : Store) : D → D
  | .ref n => match S[n]? with
    | some (.lst xs) => .lst xs
    | some (.dic ks vs) => .dic ks vs
    | none => .ref n
  | d => d
def lstOf (S : Store) (d : D) : Option (List D) :=
  match top S d with
  | .lst xs => some xs
  | _ => none
def seqOf (S : Store) (d : D) : Option (List D) :=
  match top S d with
  | .lst xs => some xs
  | .fls xs => some xs
  | .tup xs => some xs
  | _ => none

/-- a list, new: by value or into the store -/
def mkL (m : Bool) (xs : List D) (S : Store) : R D :=
  match m with
  | true => .ok (.ref S.length) (S ++ [.lst xs])
  | false => .ok (.lst xs) S
@[simp] theorem mkL_f (xs : List D) (S : Store) : mkL false xs S = .ok (.lst xs) S := rfl
@[simp] theorem mkL_t (xs : List D) (S : Store) : mkL true xs S = .ok (.ref S.length) (S ++ [.lst xs]) := rfl

def truD (S : Store) (d : D) : Option Bool :=
  match top S d with
  | .non => some false
  | .bl b => some b
  | .int i => some (i != 0)
  | .str x => if x.length ≤ sizeLine then some ((x.length : Int) != 0) else none
  | .tup xs => some (!xs.isEmpty)
  | .lst xs => some (!xs.isEmpty)
  | .fls xs => some (!xs.isEmpty)
  | _ => none

/-! ### == -/
def eqL (f : D → D → Option Bool) : List D → List D → Option Bool
  | [], [] => some true
  | x :: xs, y :: ys => match f x y, eqL f xs ys with
    | some a, some b => some (a && b)
    | _, _ => none
  | [], _ :: _ => some false
  | _ :: _, [] => some false
def dicE (f : D → D → Option Bool) : List Key → List D → List Key → List D → Option Bool
  | [], [], [], [] => some true
  | [], [], [_], [_] => some false
  | [_], [_], [], [] => some false
  | [k], [v], [l], [w] => if k = l then f v w else some false
  | _, _, _, _ => none
theorem dicE_one (f : D → D → Option Bool) (k l : Key) (v w : D) : dicE f [k] [v] [l] [w] = if k = l then f v w else some false := rfl
def dicN : List Key → List D → List Key → List D → Option Bool
  | [], [], [], [] => some true
  | _, _, _, _ => none
/-- == as deep as n -/
def eqF (S : Store) (nd : Bool) : Nat → D → D → Option Bool
  | 0, _, _ => none
  | n + 1, d, e =>
    match top S d, top S e with
    | .non, .non => some true
    | .non, .bl _ => some false
    | .non, .int _ => some false
    | .non, .str _ => some false
    | .non, .tup _ => some false
    | .non, .lst _ => some false
    | .non, .dic _ _ => some false
    | .bl _, .non => some false
    | .bl a, .bl b => some (a == b)
    | .bl a, .int j => some ((if a then 1 else 0) == j)
    | .bl _, .str _ => some false
    | .bl _, .tup _ => some false
    | .bl _, .lst _ => some false
    | .bl _, .dic _ _ => some false
    | .int _, .non => some false
    | .int i, .bl b => some (i == (if b then 1 else 0))
    | .int i, .int j => some (i == j)
    | .int _, .str _ => some false
    | .int _, .tup _ => some false
    | .int _, .lst _ => some false
    | .int _, .dic _ _ => some false
    | .str _, .non => some false
    | .str _, .bl _ => some false
    | .str _, .int _ => some false
    | .str x, .str y => some (x == y)
    | .str _, .tup _ => some false
    | .str _, .lst _ => some false
    | .str _, .dic _ _ => some false
    | .tup _, .non => some false
    | .tup _, .bl _ => some false
    | .tup _, .int _ => some false
    | .tup _, .str _ => some false
    | .tup xs, .tup ys => eqL (eqF S nd n) xs ys
    | .tup _, .lst _ => some false
    | .tup _, .dic _ _ => some false
    | .lst _, .non => some false
    | .lst _, .bl _ => some false
    | .lst _, .int _ => some false
    | .lst _, .str _ => some false
    | .lst _, .tup _ => some false
    | .lst xs, .lst ys => if xs.length = ys.length then eqL (eqF S nd n) xs ys else some false
    | .lst _, .dic _ _ => some false
    | .dic _ _, .non => some false
    | .dic _ _, .bl _ => some false
    | .dic _ _, .int _ => some false
    | .dic _ _, .str _ => some false
    | .dic _ _, .tup _ => some false
    | .dic _ _, .lst _ => some false
    | .dic ks vs, .dic ls ws => if nd then dicN ks vs ls ws else dicE (eqF S nd n) ks vs ls ws
    | _, _ => none
def eqO (S : Store) (d e : D) : Option Bool := eqF S false 60 d e
def D.isDic : D → Bool
  | .dic _ _ => true
  | _ => false
def dicTup : D → D → Bool
  | .dic _ _, .tup _ => true
  | _, _ => false
/-- != (dicts only beside a tuple) -/
def neO (S : Store) (d e : D) : Option Bool :=
  if dicTup (top S d) (top S e) then some true
  else if (top S d).isDic || (top S e).isDic then none
  else (eqF S true 60 d e).map (!·)

def D.isNon : D → Bool
  | .non => true
  | _ => false
/-- is: None, True, False on the right -/
def isO (S : Store) (d e : D) : Option Bool :=
  match e with
  | .non => some d.isNon
  | .bl b => match d with
    | .bl c => some (b == c)
    | .exc _ _ => none
    | .exc0 _ => none
    | .fn _ => none
    | _ => some false
  | _ => none
def anyO : List (Option Bool) → Option Bool
  | [] => some false
  | a :: r => match a, anyO r with
    | some x, some y => some (x || y)
    | _, _ => none
def inO (S : Store) (d e : D) : Option Bool :=
  match e with
  | .str z => match d with
    | .str x => some (!(Builtin.Str.occurrences z x 0 z.length 1).isEmpty)
    | _ => none
  | e => match seqOf S e with
    | some xs => anyO (xs.map fun y => eqF S true 60 y d)
    | none => none

def bl? (S : Store) (o : Option Bool) : R D :=
  match o with
  | some b => .ok (.bl b) S
  | none => .bad
@[simp] theorem bl?_some (S : Store) (b : Bool) : bl? S (some b) = .ok (.bl b) S := rfl
@[simp] theorem bl?_none (S : Store) : bl? S none = .bad := rfl

/-! ### operators -/
inductive O2 where
  | add | sub | mul | mod | fdiv | pow
  | eq | ne | lt | le | gt | ge | is_ | isnot | in_ | notin
  deriving DecidableEq

def mulOk (i j : Int) : Bool := (decide (-(2 ^ 64) < i) && decide (i < 2 ^ 64)) || (decide (-(2 ^ 64) < j) && decide (j < 2 ^ 64))
def fitL (n : Nat) : Bool := decide (n ≤ sizeLine)

def addD (m : Bool) (d e : D) (S : Store) : R D :=
  match d, e with
  | .int i, .int j => .ok (.int (i + j)) S
  | .str x, .str y => if fitL (x.length + y.length) then .ok (.str (x ++ y)) S else .bad
  | .tup xs, .tup ys => if fitL (xs.length + ys.length) then .ok (.tup (xs ++ ys)) S else .bad
  | d, e => match lstOf S d, lstOf S e with
    | some xs, some ys => if fitL (xs.length + ys.length) then mkL m (xs ++ ys) S else .bad
    | _, _ => .bad
def mulD (m : Bool) (d e : D) (S : Store) : R D :=
  match d, e with
  | .int i, .int j => if mulOk i j then .ok (.int (i * j)) S else .bad
  | d, .int k => match lstOf S d with
    | some xs => if decide (0 ≤ k) && fitL (xs.length * k.toNat) && fitL k.toNat then mkL m (List.replicate k.toNat xs).flatten S else .bad
    | none => .bad
  | _, _ => .bad
def op2 (o : O2) (m : Bool) (d e : D) (S : Store) : R D :=
  match o with
  | .add => addD m d e S
  | .sub => match d, e with
    | .int i, .int j => .ok (.int (i - j)) S
    | _, _ => .bad
  | .mul => mulD m d e S
  | .mod => match d, e with
    | .int i, .int j => if decide (0 < j) then .ok (.int (i % j)) S else .bad
    | _, _ => .bad
  | .fdiv => match d, e with
    | .int i, .int j => if decide (0 < j) && decide (j < 1073741824) then .ok (.int (i / j)) S else .bad
    | _, _ => .bad
  | .pow => match d, e with
    | .int i, .int j => if decide (0 ≤ j) && decide (j ≤ 1000) && decide (i.natAbs < 2 ^ 64) then .ok (.int (i ^ j.toNat)) S else .bad
    | _, _ => .bad
  | .eq => bl? S (eqO S d e)
  | .ne => bl? S (neO S d e)
  | .lt => match d, e with
    | .int i, .int j => .ok (.bl (decide (i < j))) S
    | _, _ => .bad
  | .le => match d, e with
    | .int i, .int j => .ok (.bl (decide (i ≤ j))) S
    | _, _ => .bad
  | .gt => match d, e with
    | .int i, .int j => .ok (.bl (decide (j < i))) S
    | _, _ => .bad
  | .ge => match d, e with
    | .int i, .int j => .ok (.bl (decide (j ≤ i))) S
    | _, _ => .bad
  | .is_ => bl? S (isO S d e)
  | .isnot => bl? S ((isO S d e).map (!·))
  | .in_ => bl? S (inO S d e)
  | .notin => bl? S ((inO S d e).map (!·))

/-! ### places -/
def subD (d i : D) (S : Store) : R D :=
  match d with
  | .str x => match i with
    | .int k => match L2.atI x.cps.toList k with
      | some c => if fitL x.length then .ok (.str ⟨#[c]⟩) S else .bad
      | none => .bad
    | _ => .bad
  | d => match i with
    | .int k => match seqOf S d with
      | some xs => match L2.atI xs k with
        | some x => .ok x S
        | none => .bad
      | none => .bad
    | _ => .bad
def cutL (xs : List D) (lo hi : Option Int) : List D := (xs.drop (HT.sIx xs.length 0 lo)).take (HT.sIx xs.length xs.length hi - HT.sIx xs.length 0 lo)
def slcD (m : Bool) (d : D) (lo hi : Option Int) (S : Store) : R D :=
  match d with
  | .tup xs => .ok (.tup (cutL xs lo hi)) S
  | .str x => if fitL x.length then .ok (.str (L2.cutS x lo hi)) S else .bad
  | .fls xs => mkL m (cutL xs lo hi) S
  | d => match lstOf S d with
    | some xs => mkL m (cutL xs lo hi) S
    | none => .bad
def revD (m : Bool) (d : D) (S : Store) : R D :=
  match lstOf S d with
  | some xs => mkL m xs.reverse S
  | none => .bad

/-! ### built-ins by name -/
inductive BI where
  | len | int | str | max2 | min2 | tuple | list | sum | isTy (ts : List Str)
  deriving DecidableEq

/-- the type of a value by name -/
def tyName (S : Store) (d : D) : Option Str :=
  match top S d with
  | .non => some "NoneType"
  | .bl _ => some "bool"
  | .int _ => some "int"
  | .str _ => some "str"
  | .tup _ => some "tuple"
  | .lst _ => some "list"
  | .fls _ => some "list"
  | .dic _ _ => some "dict"
  | .exc c _ => some c
  | .exc0 c => some c
  | _ => none
/-- what of the text the evaluator asks: is the first class the second one or below it -/
structure Gs where
  sub : Str → Str → Option Bool

def intsL : List D → Option (List Int)
  | [] => some []
  | .int i :: r => match intsL r with
    | some is => some (i :: is)
    | none => none
  | _ :: _ => none
def isTyO (G : Gs) (S : Store) (d : D) (ts : List Str) : Option Bool :=
  match tyName S d with
  | some t => anyO (ts.map fun u => G.sub t u)
  | none => none
def biD (G : Gs) (b : BI) (m : Bool) (ds : List D) (S : Store) : R D :=
  match b, ds with
  | .len, [d] => match d with
    | .str x => if fitL x.length then .ok (.int x.length) S else .bad
    | d => match seqOf S d with
      | some xs => .ok (.int xs.length) S
      | none => .bad
  | .int, [.int i] => .ok (.int i) S
  | .int, [.bl b] => .ok (.int (if b then 1 else 0)) S
  | .str, [.bl b] => .ok (.str (if b then "True" else "False")) S
  | .max2, [.int i, .int j] => .ok (.int (if j > i then j else i)) S
  | .min2, [.int i, .int j] => .ok (.int (if j < i then j else i)) S
  | .tuple, [d] => match seqOf S d with
    | some xs => .ok (.tup xs) S
    | none => .bad
  | .list, [d] => match seqOf S d with
    | some xs => mkL m xs S
    | none => .bad
  | .sum, [d] => match lstOf S d with
    | some xs => match intsL xs with
      | some is => .ok (.int is.sum) S
      | none => .bad
    | none => .bad
  | .isTy ts, [d] => bl? S (isTyO G S d ts)
  | _, _ => .bad

/-! ### methods of built-in values -/
inductive MT where
  | append | pop | isascii | isalpha | islower
  deriving DecidableEq
def mtD (b : MT) (d : D) (ds : List D) (S : Store) : R D :=
  match b, d, ds with
  | .append, .ref n, [x] => match S[n]? with
    | some (.lst xs) => if decide (xs.length < sizeLine) then .ok .non (S.set n (.lst (xs ++ [x]))) else .bad
    | _ => .bad
  | .pop, .ref n, [] => match S[n]? with
    | some (.lst xs) => match xs.getLast? with
      | some x => .ok x (S.set n (.lst xs.dropLast))
      | none => .bad
    | _ => .bad
  | .isascii, .str x, [] => .ok (.bl (Txt.isascii x)) S
  | .isalpha, .str x, [] => .ok (.bl (Txt.isalpha x)) S
  | .islower, .str x, [] => .ok (.bl (Txt.islower x)) S
  | _, _, _ => .bad
def setSubD (d i v : D) (S : Store) : R Unit :=
  match d, i with
  | .ref n, .int k => match S[n]? with
    | some (.lst xs) => match L2.ixN xs.length k with
      | some j => .ok () (S.set n (.lst (xs.set j v)))
      | none => .bad
    | _ => .bad
  | _, _ => .bad
def attD (d : D) (f : Str) (fld : Str → Option Str) (S : Store) : R D :=
  match d with
  | .exc c v => if fld c = some f then .ok v S else .bad
  | _ => .bad

end MI

set_option Elab.async false
set_option linter.all false
set_option maxRecDepth 100000
set_option maxHeartbeats 2000000
/-! MI2: what stands for what: the store and plain data over the abstract heap. -/
namespace MI
open PySem PySem.Spec L2
open PyProof.Rows hiding St

/-- the addresses of the store's cells, the store, the abstract heap -/
structure Wd where
  ι : Nat → Addr
  S : Store
  H : Hp
  hs : Addr → Prop
/-- no cell stands there, and nothing hidden -/
def Wd.clear (ω : Wd) (a : Addr) : Prop := (∀ n, n < ω.S.length → ω.ι n ≠ a) ∧ ¬ ω.hs a
def Wd.add (ω : Wd) (p : Addr) (o : HO) : Wd := ⟨ω.ι, ω.S, L2.upd ω.H p o, ω.hs⟩

/-- an exception object that is kept as a value -/
def excHO (C : Addr) (dx : Option Addr) (a : Addr) : HO := .ext fun h => ∃ (oe : Obj) (vs : Array Value), h.get? a = some oe ∧ Zc (.ref C) dx oe ∧ oe.data = .fields vs

section
variable (K : PySem.W.Frag) (mg : Str → Option Value) (fld : Str → Option Str)
mutual
inductive Rep (ω : Wd) : V → D → Prop
  | non : Rep ω .non .non
  | bl (b : Bool) : Rep ω (.bl b) (.bl b)
  | int (i : Int) : Rep ω (.int i) (.int i)
  | str (x : Str) : Rep ω (.str x) (.str x)
  | tup {a : Addr} {vs : List V} {ds : List D} : SqT K ω.H a vs → RepL ω vs ds → Rep ω (.ref a) (.tup ds)
  | lst {a : Addr} {vs : List V} {ds : List D} : ω.H a = some (.lst vs) → ω.clear a → RepL ω vs ds → Rep ω (.ref a) (.lst ds)
  | fls {a : Addr} {vs : List V} {ds : List D} : ((∃ o, ω.H a = some (.frz o (.lst vs))) ∨ ∃ (o : Obj) (its : Array Value) (n : Nat), K.lookup a = some o ∧ o.cls = .type "list" ∧ o.dict = none ∧ o.data = .seq its n ∧ its.size ≤ sizeLine ∧ Vals vs its.toList) → RepL ω vs ds → Rep ω (.ref a) (.fls ds)
  | dic {a : Addr} {ks : List Key} {vs : List V} {ds : List D} : ω.H a = some (.dK (ks.zip vs)) → ks.length = vs.length → ω.clear a → RepL ω vs ds → Rep ω (.ref a) (.dic ks ds)
  | ref {n : Nat} : n < ω.S.length → Rep ω (.ref (ω.ι n)) (.ref n)
  | exc {a C dx : Addr} {c f : Str} {v : V} {d : D} : mg c = some (.ref C) → fld c = some f → ω.H a = some (excHO C (some dx) a) → ω.H dx = some (.xd [(f, v)]) → Rep ω v d → Rep ω (.ref a) (.exc c d)
  | exc0 {a C : Addr} {c : Str} : mg c = some (.ref C) → ω.H a = some (excHO C none a) → Rep ω (.ref a) (.exc0 c)
  | fn {a : Addr} {f : Str} : mg f = some (.ref a) → Rep ω (.ref a) (.fn f)
inductive RepL (ω : Wd) : List V → List D → Prop
  | nil : RepL ω [] []
  | cons {v : V} {vs : List V} {d : D} {ds : List D} : Rep ω v d → RepL ω vs ds → RepL ω (v :: vs) (d :: ds)
end
def CellOk (ω : Wd) (n : Nat) : Cell → Prop
  | .lst xs => ∃ vs, ω.H (ω.ι n) = some (.lst vs) ∧ RepL K mg fld ω vs xs
  | .dic ks ds => ∃ vs, ω.H (ω.ι n) = some (.dK (ks.zip vs)) ∧ ks.length = vs.length ∧ RepL K mg fld ω vs ds
structure Ok (ω : Wd) : Prop where
  cell : ∀ n c, ω.S[n]? = some c → CellOk K mg fld ω n c
  inj : ∀ i j, i < ω.S.length → j < ω.S.length → ω.ι i = ω.ι j → i = j
  hid : ∀ a, ω.hs a → ω.H a ≠ none ∧ ∀ n, n < ω.S.length → ω.ι n ≠ a
end

/-- what a step of the program leaves -/
structure Ext (ω ω' : Wd) : Prop where
  len : ω.S.length ≤ ω'.S.length
  idx : ∀ n, n < ω.S.length → ω'.ι n = ω.ι n
  keep : ∀ b o, ω.H b = some o → (∀ n, n < ω.S.length → ω.ι n ≠ b) → ω'.H b = some o
  new : ∀ n, ω.S.length ≤ n → n < ω'.S.length → ω.H (ω'.ι n) = none
  hid1 : ∀ a, ω.hs a → ω'.hs a
  hid2 : ∀ a, ω'.hs a → ω.hs a ∨ ω.H a = none

/-- what is in a cell -/
def isCellHO : HO → Prop
  | .lst _ => True
  | .dK _ => True
  | _ => False

section
variable {K : PySem.W.Frag} {mg : Str → Option Value} {fld : Str → Option Str} {ω ω1 ω2 ω3 : Wd}
theorem Ok.ho (ok : Ok K mg fld ω) {n : Nat} (h : n < ω.S.length) : ∃ o, ω.H (ω.ι n) = some o ∧ isCellHO o := by
  have e : ω.S[n]? = some ω.S[n] := List.getElem?_eq_getElem h
  have q := ok.cell n _ e
  cases hc : ω.S[n] with
  | lst xs => rw [hc] at q; obtain ⟨vs, e1, _⟩ := q; exact ⟨_, e1, trivial⟩
  | dic ks ds => rw [hc] at q; obtain ⟨vs, e1, _⟩ := q; exact ⟨_, e1, trivial⟩
/-- what is no cell's content stands at no cell -/
theorem Ok.ne (ok : Ok K mg fld ω) {a : Addr} {o : HO} (h : ω.H a = some o) (no : ¬ isCellHO o) : ∀ n, n < ω.S.length → ω.ι n ≠ a := fun n hn z => by
  obtain ⟨u, e, c⟩ := ok.ho hn
  rw [z, h] at e
  cases e
  exact no c
theorem Ext.refl (ω : Wd) : Ext ω ω := ⟨Nat.le_refl _, fun _ _ => rfl, fun _ _ h _ => h, fun n h1 h2 => absurd h2 (Nat.not_lt.mpr h1), fun _ h => h, fun _ h => .inl h⟩
theorem Ext.trans (ok : Ok K mg fld ω1) (ok2 : Ok K mg fld ω2) (a : Ext ω1 ω2) (b : Ext ω2 ω3) : Ext ω1 ω3 := by
  have key : ∀ c o, ω1.H c = some o → (∀ n, n < ω1.S.length → ω1.ι n ≠ c) → ∀ n, n < ω2.S.length → ω2.ι n ≠ c := fun c o h1 h2 n hn z => by
    by_cases hl : n < ω1.S.length
    · rw [a.idx n hl] at z; exact h2 n hl z
    · have q := a.new n (Nat.le_of_not_lt hl) hn
      rw [z, h1] at q; cases q
  refine ⟨Nat.le_trans a.len b.len, fun n h => ?_, fun c o h1 h2 => ?_, fun n h1 h2 => ?_, fun c h => b.hid1 c (a.hid1 c h), fun c h => ?_⟩
  rotate_left 3
  · rcases b.hid2 c h with h | h
    · exact a.hid2 c h
    · refine .inr ?_
      cases q : ω1.H c with
      | none => rfl
      | some o =>
        exfalso
        by_cases hx : ∀ k, k < ω1.S.length → ω1.ι k ≠ c
        · rw [a.keep c o q hx] at h; cases h
        · have : ∃ k, k < ω1.S.length ∧ ω1.ι k = c := by
            refine Classical.byContradiction fun hh => hx fun k hk e => hh ⟨k, hk, e⟩
          obtain ⟨k, hk, e⟩ := this
          obtain ⟨o2, e2, _⟩ := ok2.ho (Nat.lt_of_lt_of_le hk a.len)
          rw [a.idx k hk, e, h] at e2; cases e2
  · rw [b.idx n (Nat.lt_of_lt_of_le h a.len), a.idx n h]
  · exact b.keep c o (a.keep c o h1 h2) (key c o h1 h2)
  · cases q : ω1.H (ω3.ι n) with
    | none => rfl
    | some o =>
      exfalso
      by_cases hl : n < ω2.S.length
      · have e := b.idx n hl
        rw [e] at q
        have z := a.new n h1 hl
        rw [z] at q; cases q
      · have z := b.new n (Nat.le_of_not_lt hl) h2
        by_cases hx : ∀ k, k < ω1.S.length → ω1.ι k ≠ ω3.ι n
        · rw [a.keep _ o q hx] at z; cases z
        · have : ∃ k, k < ω1.S.length ∧ ω1.ι k = ω3.ι n := by
            refine Classical.byContradiction fun hh => hx fun k hk e => hh ⟨k, hk, e⟩
          obtain ⟨k, hk, e⟩ := this
          obtain ⟨o2, e2, _⟩ := ok2.ho (Nat.lt_of_lt_of_le hk a.len)
          rw [a.idx k hk, e, z] at e2; cases e2
theorem Ext.seqT (e : Ext ω ω1) (ok : Ok K mg fld ω) {a : Addr} {vs : List V} (h : SqT K ω.H a vs) : SqT K ω1.H a vs := by
  rcases h with (h | ⟨o, h⟩) | h
  · exact .inl (.inl (e.keep _ _ h (ok.ne h fun z => z)))
  · exact .inl (.inr ⟨o, e.keep _ _ h (ok.ne h fun z => z)⟩)
  · exact .inr h
theorem excHO_no {C : Addr} {dx : Option Addr} {a : Addr} : ¬ isCellHO (excHO C dx a) := fun z => z
mutual
theorem Rep.mono (ok : Ok K mg fld ω) (e : Ext ω ω1) : ∀ {v : V} {d : D}, Rep K mg fld ω v d → Rep K mg fld ω1 v d
  | _, _, .non => .non
  | _, _, .bl b => .bl b
  | _, _, .int i => .int i
  | _, _, .str x => .str x
  | _, _, .tup h r => .tup (e.seqT ok h) (RepL.mono ok e r)
  | _, _, .lst (a := a) h n r => by
    refine .lst (e.keep _ _ h n.1) ⟨fun m hm z => ?_, fun z => (e.hid2 _ z).elim n.2 fun q => by rw [h] at q; cases q⟩ (RepL.mono ok e r)
    by_cases hl : m < ω.S.length
    · rw [e.idx m hl] at z; exact n.1 m hl z
    · have q := e.new m (Nat.le_of_not_lt hl) hm
      rw [z, h] at q; cases q
  | _, _, .fls h r => by
    refine .fls ?_ (RepL.mono ok e r)
    rcases h with ⟨o, h⟩ | h
    · exact .inl ⟨o, e.keep _ _ h (ok.ne h fun z => z)⟩
    · exact .inr h
  | _, _, .dic (a := a) h hl n r => by
    refine .dic (e.keep _ _ h n.1) hl ⟨fun m hm z => ?_, fun z => (e.hid2 _ z).elim n.2 fun q => by rw [h] at q; cases q⟩ (RepL.mono ok e r)
    by_cases hl : m < ω.S.length
    · rw [e.idx m hl] at z; exact n.1 m hl z
    · have q := e.new m (Nat.le_of_not_lt hl) hm
      rw [z, h] at q; cases q
  | _, _, .ref (n := n) h => by
    rw [← e.idx n h]
    exact .ref (Nat.lt_of_lt_of_le h e.len)
  | _, _, .exc h1 h2 h3 h4 r => .exc h1 h2 (e.keep _ _ h3 (ok.ne h3 excHO_no)) (e.keep _ _ h4 (ok.ne h4 fun z => z)) (Rep.mono ok e r)
  | _, _, .exc0 h1 h3 => .exc0 h1 (e.keep _ _ h3 (ok.ne h3 excHO_no))
  | _, _, .fn h => .fn h
theorem RepL.mono (ok : Ok K mg fld ω) (e : Ext ω ω1) : ∀ {vs : List V} {ds : List D}, RepL K mg fld ω vs ds → RepL K mg fld ω1 vs ds
  | _, _, .nil => .nil
  | _, _, .cons r t => .cons (Rep.mono ok e r) (RepL.mono ok e t)
end
end

section
variable {K : PySem.W.Frag} {mg : Str → Option Value} {fld : Str → Option Str} {ω ω1 : Wd}
theorem CellOk.mono (ok : Ok K mg fld ω) {n m : Nat} {c : Cell} (h : CellOk K mg fld ω n c) (hH : ∀ o, ω.H (ω.ι n) = some o → ω1.H (ω1.ι m) = some o) (e : Ext ω ω1) : CellOk K mg fld ω1 m c := by
  cases c with
  | lst xs => obtain ⟨vs, h1, h2⟩ := h; exact ⟨vs, hH _ h1, h2.mono ok e⟩
  | dic ks ds => obtain ⟨vs, h1, h2, h3⟩ := h; exact ⟨vs, hH _ h1, h2, h3.mono ok e⟩
theorem Ext.upd (ω : Wd) {p : Addr} {o : HO} (hp : ω.H p = none) : Ext ω (ω.add p o) :=
  ⟨Nat.le_refl _, fun _ _ => rfl, fun b u h _ => by
    show L2.upd ω.H p o b = some u
    rw [upd_ne (ne_of_none h hp)]; exact h, fun n h1 h2 => absurd h2 (Nat.not_lt.mpr h1), fun _ h => h, fun _ h => .inl h⟩
theorem hid_upd {p a : Addr} {o : HO} {H : Hp} (h : H a ≠ none) : L2.upd H p o a ≠ none := fun z => by
  by_cases hb : a = p
  · rw [hb, upd_same] at z; cases z
  · rw [upd_ne hb] at z; exact h z
/-- something new that is never written -/
theorem Ok.alloc (ok : Ok K mg fld ω) {p : Addr} {o : HO} (hp : ω.H p = none) : Ok K mg fld (ω.add p o) := by
  refine ⟨fun n c h => (ok.cell n c h).mono ok (fun u q => ?_) (Ext.upd ω hp), ok.inj, fun a h => ⟨hid_upd (ok.hid a h).1, (ok.hid a h).2⟩⟩
  show L2.upd ω.H p o (ω.ι n) = some u
  rw [upd_ne (ne_of_none q hp)]; exact q
theorem Ok.freshC (ok : Ok K mg fld ω) {p : Addr} (hp : ω.H p = none) : ∀ n, n < ω.S.length → ω.ι n ≠ p := fun n hn z => by
  obtain ⟨u, q, _⟩ := ok.ho hn
  rw [z, hp] at q; cases q
theorem Ok.fresh (ok : Ok K mg fld ω) {p : Addr} (hp : ω.H p = none) : ω.clear p := ⟨ok.freshC hp, fun z => (ok.hid p z).1 hp⟩
/-- a new cell -/
def Wd.push (ω : Wd) (p : Addr) (c : Cell) (o : HO) : Wd := ⟨fun n => if n = ω.S.length then p else ω.ι n, ω.S ++ [c], L2.upd ω.H p o, ω.hs⟩
theorem Ext.push (ω : Wd) {p : Addr} {c : Cell} {o : HO} (hp : ω.H p = none) : Ext ω (ω.push p c o) := by
  refine ⟨by show _ ≤ (ω.S ++ [c]).length; rw [List.length_append]; omega, fun n hn => if_neg (Nat.ne_of_lt hn), fun b u h _ => ?_, fun n h1 h2 => ?_, fun _ h => h, fun _ h => .inl h⟩
  · show L2.upd ω.H p o b = some u
    rw [upd_ne (ne_of_none h hp)]; exact h
  · have h2' : n < (ω.S ++ [c]).length := h2
    rw [List.length_append, List.length_singleton] at h2'
    have e : n = ω.S.length := by omega
    show ω.H (if n = ω.S.length then p else ω.ι n) = none
    rw [if_pos e]; exact hp
theorem Ok.push (ok : Ok K mg fld ω) {p : Addr} {c : Cell} {o : HO} (hp : ω.H p = none) (hc : CellOk K mg fld (ω.push p c o) ω.S.length c) : Ok K mg fld (ω.push p c o) := by
  have ext := Ext.push ω (c := c) (o := o) hp
  refine ⟨fun n d h => ?_, fun i j hi hj e => ?_, fun a h => ⟨hid_upd (ok.hid a h).1, fun n hn z => ?_⟩⟩
  rotate_left 2
  · have hn' : n < (ω.S ++ [c]).length := hn
    have z' : (if n = ω.S.length then p else ω.ι n) = a := z
    rw [List.length_append, List.length_singleton] at hn'
    by_cases h1 : n = ω.S.length
    · rw [if_pos h1] at z'
      exact (ok.hid a h).1 (by rw [← z']; exact hp)
    · rw [if_neg h1] at z'
      exact (ok.hid a h).2 n (by omega) z'
  · have h' : (ω.S ++ [c])[n]? = some d := h
    by_cases hn : n < ω.S.length
    · rw [List.getElem?_append_left hn] at h'
      refine (ok.cell n d h').mono ok (fun u q => ?_) ext
      rw [ext.idx n hn]
      show L2.upd ω.H p o (ω.ι n) = some u
      rw [upd_ne (ne_of_none q hp)]; exact q
    · rw [List.getElem?_append_right (Nat.le_of_not_lt hn)] at h'
      by_cases hz : n = ω.S.length
      · subst hz
        rw [Nat.sub_self] at h'
        have e : c = d := by simpa using h'
        subst e
        exact hc
      · have : ([c] : List Cell)[n - ω.S.length]? = none := by
          rw [List.getElem?_eq_none_iff, List.length_singleton]; omega
        rw [this] at h'; cases h'
  · have hi' : i < (ω.S ++ [c]).length := hi
    have hj' : j < (ω.S ++ [c]).length := hj
    rw [List.length_append, List.length_singleton] at hi' hj'
    have e' : (if i = ω.S.length then p else ω.ι i) = (if j = ω.S.length then p else ω.ι j) := e
    by_cases h1 : i = ω.S.length
    · by_cases h2 : j = ω.S.length
      · omega
      · rw [if_pos h1, if_neg h2] at e'
        exact absurd e'.symm (ok.freshC hp j (by omega))
    · by_cases h2 : j = ω.S.length
      · rw [if_neg h1, if_pos h2] at e'
        exact absurd e' (ok.freshC hp i (by omega))
      · rw [if_neg h1, if_neg h2] at e'
        exact ok.inj i j (by omega) (by omega) e'
/-- a cell written -/
def Wd.put (ω : Wd) (n : Nat) (c : Cell) (o : HO) : Wd := ⟨ω.ι, ω.S.set n c, L2.upd ω.H (ω.ι n) o, ω.hs⟩
theorem Ext.put (ω : Wd) {n : Nat} {c : Cell} {o : HO} (hn : n < ω.S.length) : Ext ω (ω.put n c o) :=
  ⟨Nat.le_of_eq (List.length_set ..).symm, fun _ _ => rfl, fun b u h k => by
    show L2.upd ω.H (ω.ι n) o b = some u
    rw [upd_ne fun z => k n hn z.symm]; exact h, fun m h1 h2 => by
    have h2' : m < (ω.S.set n c).length := h2
    rw [List.length_set] at h2'
    exact absurd h2' (Nat.not_lt.mpr h1), fun _ h => h, fun _ h => .inl h⟩
theorem Ok.put (ok : Ok K mg fld ω) {n : Nat} {c : Cell} {o : HO} (hn : n < ω.S.length) (hc : CellOk K mg fld (ω.put n c o) n c) : Ok K mg fld (ω.put n c o) := by
  have ext := Ext.put ω (c := c) (o := o) hn
  refine ⟨fun m d h => ?_, fun i j hi hj e => ?_, fun a h => ⟨hid_upd (ok.hid a h).1, fun k hk z => (ok.hid a h).2 k (by
    have hk' : k < (ω.S.set n c).length := hk
    rw [List.length_set] at hk'; exact hk') z⟩⟩
  · have h' : (ω.S.set n c)[m]? = some d := h
    by_cases hm : m = n
    · subst hm
      rw [List.getElem?_set_self hn] at h'
      cases h'
      exact hc
    · rw [List.getElem?_set_ne (Ne.symm hm)] at h'
      have hml : m < ω.S.length := (List.getElem?_eq_some_iff.mp h').1
      refine (ok.cell m d h').mono ok (fun u q => ?_) ext
      show L2.upd ω.H (ω.ι n) o (ω.ι m) = some u
      rw [upd_ne fun z => hm (ok.inj m n hml hn z)]; exact q
  · have hi' : i < (ω.S.set n c).length := hi
    have hj' : j < (ω.S.set n c).length := hj
    rw [List.length_set] at hi' hj'
    exact ok.inj i j hi' hj' e

theorem RepL.length {vs : List V} {ds : List D} (h : RepL K mg fld ω vs ds) : vs.length = ds.length := by
  induction ds generalizing vs with
  | nil => cases h; rfl
  | cons d ds ih => cases h with
    | cons _ t => rw [List.length_cons, List.length_cons, ih t]
theorem RepL.append {vs ws : List V} {ds es : List D} (h : RepL K mg fld ω vs ds) (g : RepL K mg fld ω ws es) : RepL K mg fld ω (vs ++ ws) (ds ++ es) := by
  induction ds generalizing vs with
  | nil => cases h; exact g
  | cons d ds ih => cases h with
    | cons r t => exact .cons r (ih t)
theorem RepL.get {vs : List V} {ds : List D} (h : RepL K mg fld ω vs ds) {i : Nat} {d : D} (e : ds[i]? = some d) : ∃ v, vs[i]? = some v ∧ Rep K mg fld ω v d := by
  induction ds generalizing vs i with
  | nil => simp at e
  | cons x ds ih => cases h with
    | cons r t =>
      cases i with
      | zero => simp at e; subst e; exact ⟨_, rfl, r⟩
      | succ i => simp at e; obtain ⟨v, a, b⟩ := ih t e; exact ⟨v, by simpa using a, b⟩
theorem RepL.take {vs : List V} {ds : List D} (h : RepL K mg fld ω vs ds) (n : Nat) : RepL K mg fld ω (vs.take n) (ds.take n) := by
  induction ds generalizing vs n with
  | nil => cases h; simp; exact .nil
  | cons x ds ih => cases h with
    | cons r t => cases n with
      | zero => exact .nil
      | succ n => exact .cons r (ih t n)
theorem RepL.drop {vs : List V} {ds : List D} (h : RepL K mg fld ω vs ds) (n : Nat) : RepL K mg fld ω (vs.drop n) (ds.drop n) := by
  induction ds generalizing vs n with
  | nil => cases h; simp; exact .nil
  | cons x ds ih => cases h with
    | cons r t => cases n with
      | zero => exact .cons r t
      | succ n => simpa using ih t n
theorem RepL.set {vs : List V} {ds : List D} (h : RepL K mg fld ω vs ds) (n : Nat) {v : V} {d : D} (r : Rep K mg fld ω v d) : RepL K mg fld ω (vs.set n v) (ds.set n d) := by
  induction ds generalizing vs n with
  | nil => cases h; exact .nil
  | cons x ds ih => cases h with
    | cons q t => cases n with
      | zero => exact .cons r t
      | succ n => exact .cons q (ih t n)
theorem RepL.dropLast {vs : List V} {ds : List D} (h : RepL K mg fld ω vs ds) : RepL K mg fld ω vs.dropLast ds.dropLast := by
  rw [List.dropLast_eq_take, List.dropLast_eq_take, h.length]
  exact h.take _
theorem RepL.reverse {vs : List V} {ds : List D} (h : RepL K mg fld ω vs ds) : RepL K mg fld ω vs.reverse ds.reverse := by
  induction ds generalizing vs with
  | nil => cases h; exact .nil
  | cons x ds ih => cases h with
    | cons q t =>
      rw [List.reverse_cons, List.reverse_cons]
      exact (ih t).append (.cons q .nil)
theorem RepL.replicate {vs : List V} {ds : List D} (h : RepL K mg fld ω vs ds) (k : Nat) : RepL K mg fld ω (List.replicate k vs).flatten (List.replicate k ds).flatten := by
  induction k with
  | zero => exact .nil
  | succ k ih => rw [List.replicate_succ, List.replicate_succ, List.flatten_cons, List.flatten_cons]; exact h.append ih
end
end MI

set_option Elab.async false
set_option linter.all false
set_option maxRecDepth 100000
set_option maxHeartbeats 2000000
/-! MI3: readings by plain data; expressions. -/
namespace MI
open PySem PySem.Spec L2
open PyProof.Rows hiding St

section
variable (K : PySem.W.Frag) (mg : Str → Option Value) (fld : Str → Option Str)
def ERel (ω : Wd) (σ : St) (σd : Env) : Prop := σ.length = σd.length ∧ ∀ (i : Nat) (d : D), σd[i]? = some (some d) → ∃ v : V, σ[i]? = some (some v) ∧ Rep K mg fld ω v d
def XRel (ω : Wd) (cls : Value) (dd : Option Addr) : D → Prop
  | .exc c d => ∃ (C dx : Addr) (f : Str) (v : V), mg c = some (.ref C) ∧ fld c = some f ∧ cls = .ref C ∧ dd = some dx ∧ ω.H dx = some (.xd [(f, v)]) ∧ Rep K mg fld ω v d
  | .exc0 c => ∃ C : Addr, mg c = some (.ref C) ∧ cls = .ref C ∧ dd = none
  | _ => False
def Post {α β : Type} (rel : Wd → β → α → Prop) (W : WX) (σ : St) (ω : Wd) (r : R α) (Q : β → Hp → Prop) : Prop :=
  match r with
  | .ok a S' => ∀ ω', ω'.S = S' → Ext ω ω' → Ok K mg fld ω' → ∀ b, rel ω' b a → Q b ω'.H
  | .err x S' => ∀ ω', ω'.S = S' → Ext ω ω' → Ok K mg fld ω' → ∀ cls dd, XRel K mg fld ω' cls dd x → W cls dd σ ω'.H
  | .bad => False
def tG {α β : Type} (rel : Wd → β → α → Prop) (W : WX) (F : Env → Store → R α) : St → Hp → (β → Hp → Prop) → Prop :=
  fun σ H Q => ∃ ω σd, ω.H = H ∧ Ok K mg fld ω ∧ ERel K mg fld ω σ σd ∧ Post K mg fld rel W σ ω (F σd ω.S) Q
def relB : Wd → Bool → Bool → Prop := fun _ b a => b = a
def relI : Wd → Option Int → Option Int → Prop := fun _ b a => b = a
end

section
variable {K : PySem.W.Frag} {mg : Str → Option Value} {fld : Str → Option Str} {ω ω1 ω2 ω3 : Wd} {W : WX} {σ : St} {σd : Env} {H : Hp}
theorem ERel.mono (ok : Ok K mg fld ω) (e : Ext ω ω1) (h : ERel K mg fld ω σ σd) : ERel K mg fld ω1 σ σd :=
  ⟨h.1, fun i d q => let ⟨v, a, r⟩ := h.2 i d q; ⟨v, a, r.mono ok e⟩⟩
theorem Post.mono {α β : Type} {rel : Wd → β → α → Prop} {r : R α} {Q Q' : β → Hp → Prop} (h : Post K mg fld rel W σ ω r Q) (hq : ∀ b H, Q b H → Q' b H) : Post K mg fld rel W σ ω r Q' := by
  cases r with
  | ok a S' => exact fun ω' e1 e2 e3 b rb => hq _ _ (h ω' e1 e2 e3 b rb)
  | err x S' => exact h
  | bad => exact h
theorem Post.ext {α β : Type} {rel : Wd → β → α → Prop} {r : R α} {Q : β → Hp → Prop} (ok : Ok K mg fld ω) (ok1 : Ok K mg fld ω1) (e : Ext ω ω1) (h : Post K mg fld rel W σ ω r Q) : Post K mg fld rel W σ ω1 r Q := by
  cases r with
  | ok a S' => exact fun ω' e1 e2 e3 b rb => h ω' e1 (e.trans ok ok1 e2) e3 b rb
  | err x S' => exact fun ω' e1 e2 e3 b rb => h ω' e1 (e.trans ok ok1 e2) e3 b rb
  | bad => exact h
theorem Post.bind {α α' β β' : Type} {rel : Wd → β → α → Prop} {rel' : Wd → β' → α' → Prop} {r : R α} {f : α → Store → R α'} {Q : β' → Hp → Prop} (ok : Ok K mg fld ω) (h : Post K mg fld rel' W σ ω (r.bind f) Q) :
    Post K mg fld rel W σ ω r (fun b H1 => ∃ ω1 a, ω1.H = H1 ∧ Ext ω ω1 ∧ Ok K mg fld ω1 ∧ rel ω1 b a ∧ Post K mg fld rel' W σ ω1 (f a ω1.S) Q) := by
  cases r with
  | ok a S' =>
    intro ω' e1 e2 e3 b rb
    refine ⟨ω', a, rfl, e2, e3, rb, ?_⟩
    rw [e1]
    exact Post.ext ok e3 e2 h
  | err x S' => exact h
  | bad => exact h
theorem tG_bind {α α' β β' : Type} {rel : Wd → β → α → Prop} {rel' : Wd → β' → α' → Prop} {F : Env → Store → R α} {G : Env → α → Store → R α'} {Q : β' → Hp → Prop}
    (h : tG K mg fld rel' W (fun σ S => (F σ S).bind (G σ)) σ H Q) :
    tG K mg fld rel W F σ H (fun b H1 => ∃ ω1 σd a, ω1.H = H1 ∧ Ok K mg fld ω1 ∧ ERel K mg fld ω1 σ σd ∧ rel ω1 b a ∧ Post K mg fld rel' W σ ω1 (G σd a ω1.S) Q) := by
  obtain ⟨ω, σd, e, ok, er, p⟩ := h
  refine ⟨ω, σd, e, ok, er, (Post.bind (rel := rel) ok p).mono ?_⟩
  rintro b H1 ⟨ω1, a, h1, h2, h3, h4, h5⟩
  exact ⟨ω1, σd, a, h1, h3, er.mono ok h2, h4, h5⟩

end
end MI

set_option Elab.async false
set_option linter.all false
set_option maxRecDepth 100000
set_option maxHeartbeats 2000000
/-! MI4: operators. -/
namespace MI
open PySem PySem.Spec L2
open PyProof.Rows hiding St

section
variable (K : PySem.W.Frag) (mg : Str → Option Value) (fld : Str → Option Str)
/-- a result without an error -/
def PostN (ω : Wd) (r : R D) (Q : VK) : Prop :=
  match r with
  | .ok d S' => ∀ ω', ω'.S = S' → Ext ω ω' → Ok K mg fld ω' → ∀ v, Rep K mg fld ω' v d → Q v ω'.H
  | _ => False
end
section
variable {K : PySem.W.Frag} {mg : Str → Option Value} {fld : Str → Option Str} {ω : Wd} {Q : VK} {m : Bool} {p : Addr} {vs : List V} {ds : List D} {v : V} {d : D}
theorem PostN.same (ok : Ok K mg fld ω) (r : Rep K mg fld ω v d) (h : PostN K mg fld ω (.ok d ω.S) Q) : Q v ω.H := h ω rfl (.refl ω) ok v r
theorem PostN.newL (ok : Ok K mg fld ω) (hp : ω.H p = none) (r : RepL K mg fld ω vs ds) (h : PostN K mg fld ω (mkL m ds ω.S) Q) : Q (.ref p) (upd ω.H p (.lst vs)) := by
  cases m with
  | false =>
    exact h (ω.add p (.lst vs)) rfl (Ext.upd ω hp) (ok.alloc hp) (.ref p) (.lst upd_same (ok.fresh hp) (r.mono ok (Ext.upd ω hp)))
  | true =>
    have e := Ext.push ω (c := .lst ds) (o := .lst vs) hp
    have hi : (ω.push p (.lst ds) (.lst vs)).ι ω.S.length = p := if_pos rfl
    have hc : CellOk K mg fld (ω.push p (.lst ds) (.lst vs)) ω.S.length (.lst ds) := ⟨vs, by rw [hi]; exact upd_same, r.mono ok e⟩
    have q := h (ω.push p (.lst ds) (.lst vs)) rfl e (ok.push hp hc) (.ref p)
    refine q ?_
    have z : Rep K mg fld (ω.push p (.lst ds) (.lst vs)) (.ref ((ω.push p (.lst ds) (.lst vs)).ι ω.S.length)) (.ref ω.S.length) := .ref (by show ω.S.length < (ω.S ++ [_]).length; rw [List.length_append]; simp)
    rw [hi] at z
    exact z
theorem PostN.newT (ok : Ok K mg fld ω) (hp : ω.H p = none) (r : RepL K mg fld ω vs ds) (h : PostN K mg fld ω (.ok (.tup ds) ω.S) Q) : Q (.ref p) (upd ω.H p (.tup vs)) :=
  h (ω.add p (.tup vs)) rfl (Ext.upd ω hp) (ok.alloc hp) (.ref p) (.tup (SqT.of upd_same) (r.mono ok (Ext.upd ω hp)))

/-! ### what a value is, by its data -/
theorem Rep.int_of {i : Int} (h : Rep K mg fld ω v (.int i)) : v = .int i := by cases h; rfl
theorem Rep.str_of {x : Str} (h : Rep K mg fld ω v (.str x)) : v = .str x := by cases h; rfl
theorem Rep.bl_of {b : Bool} (h : Rep K mg fld ω v (.bl b)) : v = .bl b := by cases h; rfl
theorem Rep.non_of (h : Rep K mg fld ω v .non) : v = .non := by cases h; rfl
theorem Rep.tup_of (h : Rep K mg fld ω v (.tup ds)) : ∃ a vs, v = .ref a ∧ SqT K ω.H a vs ∧ RepL K mg fld ω vs ds := by
  cases h with
  | tup h r => exact ⟨_, _, rfl, h, r⟩
/-- a list, by value or in the store -/
theorem lst_of (ok : Ok K mg fld ω) (h : Rep K mg fld ω v d) (e : lstOf ω.S d = some ds) : ∃ a vs, v = .ref a ∧ ω.H a = some (.lst vs) ∧ RepL K mg fld ω vs ds := by
  cases h with
  | lst h1 h2 r => cases e; exact ⟨_, _, rfl, h1, r⟩
  | ref hn =>
    rename_i n
    have e1 : ω.S[n]? = some ω.S[n] := List.getElem?_eq_getElem hn
    have q := ok.cell n _ e1
    have e2 : lstOf ω.S (.ref n) = some ds := e
    unfold lstOf top at e2
    simp only [e1] at e2
    cases hc : ω.S[n] with
    | lst xs =>
      rw [hc] at q e2
      simp only [Option.some.injEq] at e2
      subst e2
      obtain ⟨vs, h1, h2⟩ := q
      exact ⟨_, vs, rfl, h1, h2⟩
    | dic ks xs =>
      rw [hc] at e2
      cases e2
  | _ => cases e
/-- a list or a tuple -/
theorem seq_of (ok : Ok K mg fld ω) (h : Rep K mg fld ω v d) (e : seqOf ω.S d = some ds) : ∃ a vs, v = .ref a ∧ (SqL K ω.H a vs ∨ SqT K ω.H a vs) ∧ RepL K mg fld ω vs ds := by
  cases h with
  | lst h1 h2 r => cases e; exact ⟨_, _, rfl, .inl (SqL.of h1), r⟩
  | fls h1 r =>
    cases e
    refine ⟨_, _, rfl, .inl ?_, r⟩
    rcases h1 with ⟨o, h1⟩ | h1
    · exact .inl (.inr ⟨o, h1⟩)
    · exact .inr h1
  | tup h1 r => cases e; exact ⟨_, _, rfl, .inr h1, r⟩
  | ref hn =>
    rename_i n
    have e1 : ω.S[n]? = some ω.S[n] := List.getElem?_eq_getElem hn
    have e2 : seqOf ω.S (.ref n) = some ds := e
    unfold seqOf top at e2
    simp only [e1] at e2
    have q := ok.cell n _ e1
    cases hc : ω.S[n] with
    | lst xs =>
      rw [hc] at q e2
      simp only [Option.some.injEq] at e2
      subst e2
      obtain ⟨vs, h1, h2⟩ := q
      exact ⟨_, vs, rfl, .inl (SqL.of h1), h2⟩
    | dic ks xs =>
      rw [hc] at e2
      cases e2
  | _ => cases e
end

/-- a two-place operation on data -/
def OpD (X : Cx) (fld : Str → Option Str) (f : Value → Value → Sem Value) (g : D → D → Store → R D) : Prop :=
  ∀ (pins : List (Addr × Obj)) (s : Shared) (σ : St) (ω : Wd) (x y : V) (v u : Value) (Q : VK) (d e : D), Inv X pins σ ω.H s → RelV x v → RelV y u → Ok X.K X.mg fld ω → Rep X.K X.mg fld ω x d → Rep X.K X.mg fld ω y e → PostN X.K X.mg fld ω (g d e ω.S) Q →
    wpAny (model X.prog X.w) X.A (f v u) (EP X pins σ Q) X.xe s

section
variable {X : Cx} {fld : Str → Option Str} {m : Bool}
/-- list + list -/
theorem opD_add : OpD X fld (binaryOp .Add) (addD m) := by
  intro pins s σ ω x y v u Q d e I rx ry ok rd re h
  have lists : ∀ xs ys, lstOf ω.S d = some xs → lstOf ω.S e = some ys → PostN X.K X.mg fld ω (if fitL (xs.length + ys.length) then mkL m (xs ++ ys) ω.S else .bad) Q →
      wpAny (model X.prog X.w) X.A (binaryOp .Add v u) (EP X pins σ Q) X.xe s := fun xs ys h1 h2 q => by
    obtain ⟨a, vs, rfl, ha, ra⟩ := lst_of ok rd h1
    obtain ⟨b, ws, rfl, hb, rb⟩ := lst_of ok re h2
    by_cases hz : fitL (xs.length + ys.length) = true
    · rw [if_pos hz] at q
      refine op_cat pins s σ ω.H _ _ v u Q I rx ry ⟨a, b, vs, ws, rfl, rfl, ha, hb, ?_, fun p hp => q.newL ok hp (ra.append rb)⟩
      rw [ra.length, rb.length]
      exact of_decide_eq_true hz
    · rw [if_neg hz] at q; exact q.elim
  have other : PostN X.K X.mg fld ω (match lstOf ω.S d, lstOf ω.S e with
    | some xs, some ys => if fitL (xs.length + ys.length) then mkL m (xs ++ ys) ω.S else .bad
    | _, _ => .bad) Q → wpAny (model X.prog X.w) X.A (binaryOp .Add v u) (EP X pins σ Q) X.xe s := fun q => by
    cases h1 : lstOf ω.S d with
    | none => rw [h1] at q; exact q.elim
    | some xs =>
      cases h2 : lstOf ω.S e with
      | none => rw [h1, h2] at q; exact q.elim
      | some ys => rw [h1, h2] at q; exact lists xs ys h1 h2 q
  unfold addD at h
  split at h
  · cases rd; cases re
    exact op_add pins s σ ω.H _ _ v u Q I rx ry ⟨_, _, rfl, rfl, h.same ok (.int _)⟩
  · cases rd; cases re
    split at h
    · rename_i hz
      exact op_add_str pins s σ ω.H _ _ v u Q I rx ry ⟨_, _, rfl, rfl, of_decide_eq_true hz, h.same ok (.str _)⟩
    · exact h.elim
  · obtain ⟨a, vs, rfl, ha, ra⟩ := rd.tup_of
    obtain ⟨b, ws, rfl, hb, rb⟩ := re.tup_of
    split at h
    · rename_i xs ys _ hz
      refine op_catA pins s σ ω.H _ _ v u Q I rx ry ⟨a, b, vs, ws, rfl, rfl, ha, hb, by rw [ra.length, rb.length]; exact of_decide_eq_true hz, fun e0 => ?_, fun _ e1 => ?_, fun _ _ p hp => h.newT ok hp (ra.append rb)⟩
      · subst e0
        cases ra
        exact h.same ok (.tup hb rb)
      · subst e1
        cases rb
        rw [List.append_nil] at h
        exact h.same ok (.tup ha ra)
    · exact h.elim
  · exact other h
theorem opD_mul : OpD X fld (binaryOp .Mult) (mulD m) := by
  intro pins s σ ω x y v u Q d e I rx ry ok rd re h
  unfold mulD at h
  split at h
  · cases rd; cases re
    split at h
    · rename_i hz
      refine op_mul pins s σ ω.H _ _ v u Q I rx ry ⟨_, _, rfl, rfl, ?_, h.same ok (.int _)⟩
      unfold mulOk at hz
      simp only [Bool.or_eq_true, Bool.and_eq_true, decide_eq_true_eq] at hz
      exact hz
    · exact h.elim
  · split at h
    · rename_i xs hx
      cases re
      obtain ⟨a, vs, rfl, ha, ra⟩ := lst_of ok rd hx
      split at h
      · rename_i hz
        unfold fitL at hz
        simp only [Bool.and_eq_true, decide_eq_true_eq] at hz
        have hs := sizeLine_eq
        refine op_rep pins s σ ω.H _ _ v u Q I rx ry ⟨a, _, vs, rfl, rfl, ha, by omega, by omega, by rw [ra.length]; exact hz.1.2, fun p hp => h.newL ok hp (ra.replicate _)⟩
      · exact h.elim
    · exact h.elim
  · exact h.elim
theorem opD_sub : OpD X fld (binaryOp .Sub) (op2 .sub m) := by
  intro pins s σ ω x y v u Q d e I rx ry ok rd re h
  unfold op2 at h
  simp only at h
  split at h
  · cases rd; cases re
    exact op_sub pins s σ ω.H _ _ v u Q I rx ry ⟨_, _, rfl, rfl, h.same ok (.int _)⟩
  · exact h.elim
theorem opD_mod : OpD X fld (binaryOp .Mod) (op2 .mod m) := by
  intro pins s σ ω x y v u Q d e I rx ry ok rd re h
  unfold op2 at h
  simp only at h
  split at h
  · cases rd; cases re
    split at h
    · rename_i hz
      exact op_mod pins s σ ω.H _ _ v u Q I rx ry ⟨_, _, rfl, rfl, of_decide_eq_true hz, h.same ok (.int _)⟩
    · exact h.elim
  · exact h.elim
theorem opD_fdiv : OpD X fld (binaryOp .FloorDiv) (op2 .fdiv m) := by
  intro pins s σ ω x y v u Q d e I rx ry ok rd re h
  unfold op2 at h
  simp only at h
  split at h
  · cases rd; cases re
    split at h
    · rename_i hz
      simp only [Bool.and_eq_true, decide_eq_true_eq] at hz
      exact op_fdiv pins s σ ω.H _ _ v u Q I rx ry ⟨_, _, rfl, rfl, hz, h.same ok (.int _)⟩
    · exact h.elim
  · exact h.elim
theorem opD_pow : OpD X fld (binaryOp .Pow) (op2 .pow m) := by
  intro pins s σ ω x y v u Q d e I rx ry ok rd re h
  unfold op2 at h
  simp only at h
  split at h
  · cases rd; cases re
    split at h
    · rename_i hz
      simp only [Bool.and_eq_true, decide_eq_true_eq] at hz
      exact op_pow pins s σ ω.H _ _ v u Q I rx ry ⟨_, _, rfl, rfl, ⟨hz.1.1, by omega, hz.2⟩, h.same ok (.int _)⟩
    · exact h.elim
  · exact h.elim
theorem opD_lt : OpD X fld (compareOp .Lt) (op2 .lt m) := by
  intro pins s σ ω x y v u Q d e I rx ry ok rd re h
  unfold op2 at h
  simp only at h
  split at h
  · cases rd; cases re
    exact op_lt pins s σ ω.H _ _ v u Q I rx ry ⟨_, _, rfl, rfl, h.same ok (.bl _)⟩
  · exact h.elim
theorem opD_le : OpD X fld (compareOp .LtE) (op2 .le m) := by
  intro pins s σ ω x y v u Q d e I rx ry ok rd re h
  unfold op2 at h
  simp only at h
  split at h
  · cases rd; cases re
    exact op_le pins s σ ω.H _ _ v u Q I rx ry ⟨_, _, rfl, rfl, h.same ok (.bl _)⟩
  · exact h.elim
theorem opD_gt : OpD X fld (compareOp .Gt) (op2 .gt m) := by
  intro pins s σ ω x y v u Q d e I rx ry ok rd re h
  unfold op2 at h
  simp only at h
  split at h
  · cases rd; cases re
    exact op_gt pins s σ ω.H _ _ v u Q I rx ry ⟨_, _, rfl, rfl, h.same ok (.bl _)⟩
  · exact h.elim
theorem opD_ge : OpD X fld (compareOp .GtE) (op2 .ge m) := by
  intro pins s σ ω x y v u Q d e I rx ry ok rd re h
  unfold op2 at h
  simp only at h
  split at h
  · cases rd; cases re
    exact op_ge pins s σ ω.H _ _ v u Q I rx ry ⟨_, _, rfl, rfl, h.same ok (.bl _)⟩
  · exact h.elim
theorem isNon {ω : Wd} {x : V} {d : D} (r : Rep X.K X.mg fld ω x d) : decide (x = .non) = d.isNon := by
  cases r <;> simp [D.isNon]
theorem opD_isN : OpD X fld (compareOp .Is) (fun d e S => match e with | .non => op2 .is_ m d e S | _ => .bad) := by
  intro pins s σ ω x y v u Q d e I rx ry ok rd re h
  cases re with
  | non =>
    simp only [op2, isO, bl?_some] at h
    refine op_isN pins s σ ω.H _ _ v u Q I rx ry ⟨rfl, ?_⟩
    rw [isNon rd]
    exact h.same ok (.bl _)
  | _ => exact h.elim
theorem opD_isnotN : OpD X fld (compareOp .IsNot) (fun d e S => match e with | .non => op2 .isnot m d e S | _ => .bad) := by
  intro pins s σ ω x y v u Q d e I rx ry ok rd re h
  cases re with
  | non =>
    simp only [op2, isO, Option.map_some, bl?_some] at h
    refine op_notN pins s σ ω.H _ _ v u Q I rx ry ⟨rfl, ?_⟩
    rw [isNon rd]
    exact h.same ok (.bl _)
  | _ => exact h.elim
end
end MI

set_option Elab.async false
set_option linter.all false
set_option maxRecDepth 100000
set_option maxHeartbeats 4000000
/-! MI5: == of data at any depth. First: a dict beside what is no dict. -/
namespace MI.DEq
open PySem PySem.SeqAt PySem.MeetsSeq
open PySem.AutoSeq1 (wpAny_loadPart')

abbrev dObj (es : Array DictEntry) (n : Nat) (dd : Option Addr) (sl : Array (Option Value)) : Obj := { cls := .type "dict", dict := dd, data := .dict es n, slots := sl }
/-- a dict object at l -/
def IsD (h : Heap) (l : Addr) : Prop := ∃ es n dd sl, h.get? l = some (dObj es n dd sl)
variable {l b : Addr} {es : Array DictEntry} {n n2 : Nat} {dd dd2 : Option Addr} {sl sl2 : Array (Option Value)} {its : Array Value}

theorem d_none : Meets (Builtin.«dict.__eq__» ⟨[.ref l, .none], []⟩) (fun _ R s => s.heap.get? l = some (dObj es n dd sl) ∧ R (.ok (.ret .notImplemented)) s) :=
  .of_wp fun prog w A R s h => by
    obtain ⟨hp, g, d, tk, os⟩ := s
    obtain ⟨h1, h2⟩ := h
    have sub := F.sub_NoneType_dict
    wp_walk using wpAny_loadPart' h1
    exact ⟨_, rfl, h2⟩
theorem d_bool (x : Bool) : Meets (Builtin.«dict.__eq__» ⟨[.ref l, .bool x], []⟩) (fun _ R s => s.heap.get? l = some (dObj es n dd sl) ∧ R (.ok (.ret .notImplemented)) s) :=
  .of_wp fun prog w A R s h => by
    obtain ⟨hp, g, d, tk, os⟩ := s
    obtain ⟨h1, h2⟩ := h
    have sub := F.sub_bool_dict
    wp_walk using wpAny_loadPart' h1
    exact ⟨_, rfl, h2⟩
theorem d_int (x : Int) (t : Tok) : Meets (Builtin.«dict.__eq__» ⟨[.ref l, .int x t], []⟩) (fun _ R s => s.heap.get? l = some (dObj es n dd sl) ∧ R (.ok (.ret .notImplemented)) s) :=
  .of_wp fun prog w A R s h => by
    obtain ⟨hp, g, d, tk, os⟩ := s
    obtain ⟨h1, h2⟩ := h
    have sub := F.sub_int_dict
    wp_walk using wpAny_loadPart' h1
    exact ⟨_, rfl, h2⟩
theorem d_str (x : Str) (t : Tok) : Meets (Builtin.«dict.__eq__» ⟨[.ref l, .str x t], []⟩) (fun _ R s => s.heap.get? l = some (dObj es n dd sl) ∧ R (.ok (.ret .notImplemented)) s) :=
  .of_wp fun prog w A R s h => by
    obtain ⟨hp, g, d, tk, os⟩ := s
    obtain ⟨h1, h2⟩ := h
    have sub := F.sub_str_dict
    wp_walk using wpAny_loadPart' h1
    exact ⟨_, rfl, h2⟩
theorem d_seq {T : String} (hT : isSubtype (.type T) (.type "dict") = pure false) : Meets (Builtin.«dict.__eq__» ⟨[.ref l, .ref b], []⟩)
    (fun _ R s => s.heap.get? l = some (dObj es n dd sl) ∧ s.heap.get? b = some { cls := .type T, dict := dd2, data := .seq its n2, slots := sl2 } ∧ R (.ok (.ret .notImplemented)) s) :=
  .of_wp fun prog w A R s h => by
    obtain ⟨hp, g, d, tk, os⟩ := s
    obtain ⟨h1, h2, h3⟩ := h
    wp_walk using wpAny_loadPart' h1, wpAny_loadPart' h2
    exact ⟨_, rfl, h3⟩
theorem tuple_d : Meets (Builtin.«tuple.__eq__» ⟨[.ref b, .ref l], []⟩)
    (fun _ R s => s.heap.get? l = some (dObj es n dd sl) ∧ s.heap.get? b = some { cls := .type "tuple", dict := dd2, data := .seq its n2, slots := sl2 } ∧ R (.ok (.ret .notImplemented)) s) :=
  .of_wp fun prog w A R s h => by
    obtain ⟨hp, g, d, tk, os⟩ := s
    obtain ⟨h1, h2, h3⟩ := h
    have sub := F.sub_dict_tuple
    wp_walk using wpAny_loadPart' h1, wpAny_loadPart' h2
    exact ⟨_, rfl, h3⟩
theorem list_d : Meets (Builtin.«list.__eq__» ⟨[.ref b, .ref l], []⟩)
    (fun _ R s => s.heap.get? l = some (dObj es n dd sl) ∧ s.heap.get? b = some { cls := .type "list", dict := dd2, data := .seq its n2, slots := sl2 } ∧ R (.ok (.ret .notImplemented)) s) :=
  .of_wp fun prog w A R s h => by
    obtain ⟨hp, g, d, tk, os⟩ := s
    obtain ⟨h1, h2, h3⟩ := h
    have sub := F.sub_dict_list
    wp_walk using wpAny_loadPart' h1, wpAny_loadPart' h2
    exact ⟨_, rfl, h3⟩
theorem int_d (x : Int) (t : Tok) : Meets (Builtin.«int.__eq__» ⟨[.int x t, .ref l], []⟩) (fun _ R s => s.heap.get? l = some (dObj es n dd sl) ∧ R (.ok (.ret .notImplemented)) s) :=
  .of_wp fun prog w A R s h => by
    obtain ⟨hp, g, d, tk, os⟩ := s
    obtain ⟨h1, h2⟩ := h
    wp_walk using wpAny_loadPart' h1, wpAny_load h1
    exact ⟨_, rfl, h2⟩
theorem bool_d (x : Bool) : Meets (Builtin.«int.__eq__» ⟨[.bool x, .ref l], []⟩) (fun _ R s => s.heap.get? l = some (dObj es n dd sl) ∧ R (.ok (.ret .notImplemented)) s) :=
  .of_wp fun prog w A R s h => by
    obtain ⟨hp, g, d, tk, os⟩ := s
    obtain ⟨h1, h2⟩ := h
    wp_walk using wpAny_loadPart' h1, wpAny_load h1
    exact ⟨_, rfl, h2⟩
theorem str_d (x : Str) (t : Tok) : Meets (Builtin.«str.__eq__» ⟨[.str x t, .ref l], []⟩) (fun _ R s => s.heap.get? l = some (dObj es n dd sl) ∧ R (.ok (.ret .notImplemented)) s) :=
  .of_wp fun prog w A R s h => by
    obtain ⟨hp, g, d, tk, os⟩ := s
    obtain ⟨h1, h2⟩ := h
    wp_walk using wpAny_loadPart' h1, wpAny_load h1
    exact ⟨_, rfl, h2⟩

section
variable {A : Around} {s : Shared}
/-- == of two things is rich comparison where they are not the same -/
theorem in_of {prog : Program} {w : World} {x y : Value} {k : Bool} (hs : (x == y) = true → k = true) (hf : ∀ u t, x ≠ .float u t)
    (h : ∀ (E : Value → Shared → Prop) (Q : Value → Shared → Prop), Q (.bool k) s → wpAny (model prog w) A (richCompare .Eq x y) Q E s) : EqIn prog w A s x y k := fun E Q q => by
  unfold eqBool
  refine wpAny_holding (wpAny_ite_split (fun z => ?_) fun _ => ?_)
  · rw [hs z] at q
    exact wpAny_pure (M := model prog w) (E := E) q
  · cases x <;> first
      | exact wpAny_bind (h E _ (wpAny_truthy_bool q))
      | (exfalso; exact hf _ _ rfl)
theorem rc_d_none (h : IsD s.heap l) (hu : A.units < cLine) : RcAt A s (.ref l) .none false := by
  obtain ⟨es, n, dd, sl, ho⟩ := h
  exact fun prog w E Q q => rc_eq_decline_or (k := false) ⟨_, ho, rfl⟩ rfl (by decide) F.sub_NoneType_dict F.slot_dict_eq F.slot_NoneType_eq_refl
    (fun _ r => call_meets F.slot_dict_eq ⟨_, ho, rfl⟩ F.entry_dict_eq (F.args_dict_eq_2 _ _) d_none ⟨ho, r⟩)
    (fun _ r => call_gives F.slot_NoneType_eq_refl rfl F.entry_NoneType_eq (F.args_NoneType_eq_2 _ _) (NoneType___eq___none_ref_0 l) r)
    (fun _ r => wpAny_of_eq (rfl : isSame (.ref l) .none = pure false) r) (.inr hu) q
theorem rc_none_d (h : IsD s.heap l) (hu : A.units < cLine) : RcAt A s .none (.ref l) false := by
  obtain ⟨es, n, dd, sl, ho⟩ := h
  exact fun prog w E Q q => rc_eq_decline_or (k := false) rfl ⟨_, ho, rfl⟩ (by decide) F.sub_dict_NoneType F.slot_NoneType_eq F.slot_dict_eq_refl
    (fun _ r => call_gives F.slot_NoneType_eq rfl F.entry_NoneType_eq (F.args_NoneType_eq_2 _ _) (NoneType___eq___none_ref_0 l) r)
    (fun _ r => call_meets F.slot_dict_eq_refl ⟨_, ho, rfl⟩ F.entry_dict_eq (F.args_dict_eq_2 _ _) d_none ⟨ho, r⟩)
    (fun _ r => wpAny_of_eq (rfl : isSame .none (.ref l) = pure false) r) (.inr hu) q
theorem rc_d_bool (x : Bool) (h : IsD s.heap l) (hu : A.units < cLine) : RcAt A s (.ref l) (.bool x) false := by
  obtain ⟨es, n, dd, sl, ho⟩ := h
  exact fun prog w E Q q => rc_eq_decline_or (k := false) ⟨_, ho, rfl⟩ rfl (by decide) F.sub_bool_dict F.slot_dict_eq F.slot_bool_eq_refl
    (fun _ r => call_meets F.slot_dict_eq ⟨_, ho, rfl⟩ F.entry_dict_eq (F.args_dict_eq_2 _ _) (d_bool x) ⟨ho, r⟩)
    (fun _ r => call_meets F.slot_bool_eq_refl rfl F.entry_int_eq (F.args_int_eq_2 _ _) (bool_d x) ⟨ho, r⟩)
    (fun _ r => wpAny_of_eq (rfl : isSame (.ref l) (.bool x) = pure false) r) (.inr hu) q
theorem rc_bool_d (x : Bool) (h : IsD s.heap l) (hu : A.units < cLine) : RcAt A s (.bool x) (.ref l) false := by
  obtain ⟨es, n, dd, sl, ho⟩ := h
  exact fun prog w E Q q => rc_eq_decline_or (k := false) rfl ⟨_, ho, rfl⟩ (by decide) F.sub_dict_bool F.slot_bool_eq F.slot_dict_eq_refl
    (fun _ r => call_meets F.slot_bool_eq rfl F.entry_int_eq (F.args_int_eq_2 _ _) (bool_d x) ⟨ho, r⟩)
    (fun _ r => call_meets F.slot_dict_eq_refl ⟨_, ho, rfl⟩ F.entry_dict_eq (F.args_dict_eq_2 _ _) (d_bool x) ⟨ho, r⟩)
    (fun _ r => wpAny_of_eq (rfl : isSame (.bool x) (.ref l) = pure false) r) (.inr hu) q
theorem rc_d_int (x : Int) (t : Tok) (h : IsD s.heap l) (hu : A.units < cLine) : RcAt A s (.ref l) (.int x t) false := by
  obtain ⟨es, n, dd, sl, ho⟩ := h
  exact fun prog w E Q q => rc_eq_decline_or (k := false) ⟨_, ho, rfl⟩ (typeIs_int s x t) (by decide) F.sub_int_dict F.slot_dict_eq F.slot_int_eq_refl
    (fun _ r => call_meets F.slot_dict_eq ⟨_, ho, rfl⟩ F.entry_dict_eq (F.args_dict_eq_2 _ _) (d_int x t) ⟨ho, r⟩)
    (fun _ r => call_meets F.slot_int_eq_refl (typeIs_int s x t) F.entry_int_eq (F.args_int_eq_2 _ _) (int_d x t) ⟨ho, r⟩)
    (fun _ r => wpAny_of_eq (rfl : isSame (.ref l) (.int x t) = pure false) r) (.inr hu) q
theorem rc_int_d (x : Int) (t : Tok) (h : IsD s.heap l) (hu : A.units < cLine) : RcAt A s (.int x t) (.ref l) false := by
  obtain ⟨es, n, dd, sl, ho⟩ := h
  exact fun prog w E Q q => rc_eq_decline_or (k := false) (typeIs_int s x t) ⟨_, ho, rfl⟩ (by decide) F.sub_dict_int F.slot_int_eq F.slot_dict_eq_refl
    (fun _ r => call_meets F.slot_int_eq (typeIs_int s x t) F.entry_int_eq (F.args_int_eq_2 _ _) (int_d x t) ⟨ho, r⟩)
    (fun _ r => call_meets F.slot_dict_eq_refl ⟨_, ho, rfl⟩ F.entry_dict_eq (F.args_dict_eq_2 _ _) (d_int x t) ⟨ho, r⟩)
    (fun _ r => wpAny_of_eq (rfl : isSame (.int x t) (.ref l) = pure false) r) (.inr hu) q
theorem rc_d_str (x : Str) (t : Tok) (h : IsD s.heap l) (hu : A.units < cLine) : RcAt A s (.ref l) (.str x t) false := by
  obtain ⟨es, n, dd, sl, ho⟩ := h
  exact fun prog w E Q q => rc_eq_decline_or (k := false) ⟨_, ho, rfl⟩ (typeIs_str s x t) (by decide) F.sub_str_dict F.slot_dict_eq F.slot_str_eq_refl
    (fun _ r => call_meets F.slot_dict_eq ⟨_, ho, rfl⟩ F.entry_dict_eq (F.args_dict_eq_2 _ _) (d_str x t) ⟨ho, r⟩)
    (fun _ r => call_meets F.slot_str_eq_refl (typeIs_str s x t) F.entry_str_eq (F.args_str_eq_2 _ _) (str_d x t) ⟨ho, r⟩)
    (fun _ r => wpAny_of_eq (rfl : isSame (.ref l) (.str x t) = pure false) r) (.inr hu) q
theorem rc_str_d (x : Str) (t : Tok) (h : IsD s.heap l) (hu : A.units < cLine) : RcAt A s (.str x t) (.ref l) false := by
  obtain ⟨es, n, dd, sl, ho⟩ := h
  exact fun prog w E Q q => rc_eq_decline_or (k := false) (typeIs_str s x t) ⟨_, ho, rfl⟩ (by decide) F.sub_dict_str F.slot_str_eq F.slot_dict_eq_refl
    (fun _ r => call_meets F.slot_str_eq (typeIs_str s x t) F.entry_str_eq (F.args_str_eq_2 _ _) (str_d x t) ⟨ho, r⟩)
    (fun _ r => call_meets F.slot_dict_eq_refl ⟨_, ho, rfl⟩ F.entry_dict_eq (F.args_dict_eq_2 _ _) (d_str x t) ⟨ho, r⟩)
    (fun _ r => wpAny_of_eq (rfl : isSame (.str x t) (.ref l) = pure false) r) (.inr hu) q
theorem apart {T : String} (hT : T ≠ "dict") {its : Array Value} (h : IsD s.heap l) (hb : ∃ o, s.heap.get? b = some o ∧ o.cls = .type T ∧ ∃ n, o.data = .seq its n) : l ≠ b := fun e => by
  obtain ⟨es, n, dd, sl, ho⟩ := h
  obtain ⟨o, ho2, hc, _⟩ := hb
  rw [← e, ho] at ho2
  cases ho2
  injection hc with z
  exact hT z.symm
theorem rc_d_tuple {its : Array Value} (h : IsD s.heap l) (hb : s.heap.IsTuple b its) (hu : A.units < cLine) : RcAt A s (.ref l) (.ref b) false := by
  have ne := apart (by decide) h hb
  obtain ⟨es, n, dd, sl, ho⟩ := h
  obtain ⟨⟨c2, dd2, data2, sl2⟩, ho2, hc2, n2, hd2⟩ := hb
  cases hc2
  cases hd2
  exact fun prog w E Q q => rc_eq_decline_or (k := false) ⟨_, ho, rfl⟩ ⟨_, ho2, rfl⟩ (by decide) F.sub_tuple_dict F.slot_dict_eq F.slot_tuple_eq_refl
    (fun _ r => call_meets F.slot_dict_eq ⟨_, ho, rfl⟩ F.entry_dict_eq (F.args_dict_eq_2 _ _) (d_seq F.sub_tuple_dict) ⟨ho, ho2, r⟩)
    (fun _ r => call_meets F.slot_tuple_eq_refl ⟨_, ho2, rfl⟩ F.entry_tuple_eq (F.args_tuple_eq_2 _ _) tuple_d ⟨ho, ho2, r⟩)
    (fun _ r => wpAny_isSame_ref_other ne ho ho2 (by simp) r) (.inr hu) q
theorem rc_tuple_d {its : Array Value} (h : IsD s.heap l) (hb : s.heap.IsTuple b its) (hu : A.units < cLine) : RcAt A s (.ref b) (.ref l) false := by
  have ne := (apart (by decide) h hb).symm
  obtain ⟨es, n, dd, sl, ho⟩ := h
  obtain ⟨⟨c2, dd2, data2, sl2⟩, ho2, hc2, n2, hd2⟩ := hb
  cases hc2
  cases hd2
  exact fun prog w E Q q => rc_eq_decline_or (k := false) ⟨_, ho2, rfl⟩ ⟨_, ho, rfl⟩ (by decide) F.sub_dict_tuple F.slot_tuple_eq F.slot_dict_eq_refl
    (fun _ r => call_meets F.slot_tuple_eq ⟨_, ho2, rfl⟩ F.entry_tuple_eq (F.args_tuple_eq_2 _ _) tuple_d ⟨ho, ho2, r⟩)
    (fun _ r => call_meets F.slot_dict_eq_refl ⟨_, ho, rfl⟩ F.entry_dict_eq (F.args_dict_eq_2 _ _) (d_seq F.sub_tuple_dict) ⟨ho, ho2, r⟩)
    (fun _ r => wpAny_isSame_ref_other' ne ho2 ho (by simp) r) (.inr hu) q
theorem rc_d_list {its : Array Value} (h : IsD s.heap l) (hb : s.heap.IsList b its) (hu : A.units < cLine) : RcAt A s (.ref l) (.ref b) false := by
  have ne := apart (by decide) h hb
  obtain ⟨es, n, dd, sl, ho⟩ := h
  obtain ⟨⟨c2, dd2, data2, sl2⟩, ho2, hc2, n2, hd2⟩ := hb
  cases hc2
  cases hd2
  exact fun prog w E Q q => rc_eq_decline_or (k := false) ⟨_, ho, rfl⟩ ⟨_, ho2, rfl⟩ (by decide) F.sub_list_dict F.slot_dict_eq F.slot_list_eq_refl
    (fun _ r => call_meets F.slot_dict_eq ⟨_, ho, rfl⟩ F.entry_dict_eq (F.args_dict_eq_2 _ _) (d_seq F.sub_list_dict) ⟨ho, ho2, r⟩)
    (fun _ r => call_meets F.slot_list_eq_refl ⟨_, ho2, rfl⟩ F.entry_list_eq (F.args_list_eq_2 _ _) list_d ⟨ho, ho2, r⟩)
    (fun _ r => wpAny_isSame_ref_other ne ho ho2 (by simp) r) (.inr hu) q
theorem rc_list_d {its : Array Value} (h : IsD s.heap l) (hb : s.heap.IsList b its) (hu : A.units < cLine) : RcAt A s (.ref b) (.ref l) false := by
  have ne := (apart (by decide) h hb).symm
  obtain ⟨es, n, dd, sl, ho⟩ := h
  obtain ⟨⟨c2, dd2, data2, sl2⟩, ho2, hc2, n2, hd2⟩ := hb
  cases hc2
  cases hd2
  exact fun prog w E Q q => rc_eq_decline_or (k := false) ⟨_, ho2, rfl⟩ ⟨_, ho, rfl⟩ (by decide) F.sub_dict_list F.slot_list_eq F.slot_dict_eq_refl
    (fun _ r => call_meets F.slot_list_eq ⟨_, ho2, rfl⟩ F.entry_list_eq (F.args_list_eq_2 _ _) list_d ⟨ho, ho2, r⟩)
    (fun _ r => call_meets F.slot_dict_eq_refl ⟨_, ho, rfl⟩ F.entry_dict_eq (F.args_dict_eq_2 _ _) (d_seq F.sub_list_dict) ⟨ho, ho2, r⟩)
    (fun _ r => wpAny_isSame_ref_other ne ho2 ho (by simp) r) (.inr hu) q
end
end MI.DEq

set_option Elab.async false
set_option linter.all false
set_option maxRecDepth 100000
set_option maxHeartbeats 4000000
/-! MI6: == of data at any depth is eqF. -/
namespace MI
open PySem PySem.Spec L2
open PyProof.Rows hiding St
open PySem.SeqAt (EqIn EqAt RcAt rcIn_lists rcIn_tuples)

section
variable {K : PySem.W.Frag} {mg : Str → Option Value} {fld : Str → Option Str} {ω : Wd} {v : V} {d : D}
/-- what a value is by the top of its data -/
def RepT (K : PySem.W.Frag) (mg : Str → Option Value) (fld : Str → Option Str) (ω : Wd) (v : V) : D → Prop
  | .non => v = .non
  | .bl b => v = .bl b
  | .int i => v = .int i
  | .str x => v = .str x
  | .tup ds => ∃ a vs, v = .ref a ∧ SqT K ω.H a vs ∧ RepL K mg fld ω vs ds
  | .lst ds => ∃ a vs, v = .ref a ∧ ω.H a = some (.lst vs) ∧ RepL K mg fld ω vs ds
  | .dic ks ds => ∃ a vs, v = .ref a ∧ ω.H a = some (.dK (ks.zip vs)) ∧ ks.length = vs.length ∧ RepL K mg fld ω vs ds
  | _ => True
theorem Rep.top (ok : Ok K mg fld ω) (h : Rep K mg fld ω v d) : RepT K mg fld ω v (top ω.S d) := by
  cases h with
  | non => rfl
  | bl b => rfl
  | int i => rfl
  | str x => rfl
  | tup h r => exact ⟨_, _, rfl, h, r⟩
  | lst h n r => exact ⟨_, _, rfl, h, r⟩
  | dic h l n r => exact ⟨_, _, rfl, h, l, r⟩
  | ref hn =>
    rename_i n
    have e1 : ω.S[n]? = some ω.S[n] := List.getElem?_eq_getElem hn
    have q := ok.cell n _ e1
    show RepT K mg fld ω (V.ref (ω.ι n)) (match ω.S[n]? with
      | some (Cell.lst xs) => D.lst xs
      | some (Cell.dic ks vs) => D.dic ks vs
      | none => D.ref n)
    rw [e1]
    cases hc : ω.S[n] with
    | lst xs => rw [hc] at q; obtain ⟨vs, h1, h2⟩ := q; exact ⟨_, vs, rfl, h1, h2⟩
    | dic ks xs => rw [hc] at q; obtain ⟨vs, h1, h2, h3⟩ := q; exact ⟨_, vs, rfl, h1, h2, h3⟩
  | fls h r => trivial
  | exc h1 h2 h3 h4 r => trivial
  | exc0 h1 h2 => trivial
  | fn h => trivial
end

def pairE (f : D → D → Option Bool) (xs ys : List D) (j : Nat) : Bool :=
  match xs[j]?, ys[j]? with
  | some x, some y => (f x y).getD false
  | _, _ => false
theorem eqL_spec (f : D → D → Option Bool) : ∀ (xs ys : List D) (b : Bool), eqL f xs ys = some b →
    b = ((List.range (min xs.length ys.length)).all (pairE f xs ys) && xs.length == ys.length) ∧ ∀ j x y, xs[j]? = some x → ys[j]? = some y → f x y = some (pairE f xs ys j)
  | [], [], b, h => by cases h; exact ⟨by simp, fun j x y h => by simp at h⟩
  | [], _ :: _, b, h => by cases h; exact ⟨by simp, fun j x y h => by simp at h⟩
  | _ :: _, [], b, h => by cases h; exact ⟨by simp, fun j x y _ h => by simp at h⟩
  | x :: xs, y :: ys, b, h => by
    unfold eqL at h
    cases h1 : f x y with
    | none => rw [h1] at h; cases h
    | some a =>
      cases h2 : eqL f xs ys with
      | none => rw [h1, h2] at h; cases h
      | some c =>
        rw [h1, h2] at h
        cases h
        obtain ⟨i1, i2⟩ := eqL_spec f xs ys c h2
        have sh : ∀ j, pairE f (x :: xs) (y :: ys) (j + 1) = pairE f xs ys j := fun j => by simp [pairE]
        have z : pairE f (x :: xs) (y :: ys) 0 = a := by simp [pairE, h1]
        refine ⟨?_, fun j p q e1 e2 => ?_⟩
        · have e1 : min (x :: xs).length (y :: ys).length = min xs.length ys.length + 1 := by simp only [List.length_cons]; omega
          have e3 : (List.range (min xs.length ys.length + 1)).all (pairE f (x :: xs) (y :: ys)) = (a && (List.range (min xs.length ys.length)).all (pairE f xs ys)) := by
            rw [List.range_succ_eq_map, List.all_cons, List.all_map, z]
            congr 1
          rw [e1, e3, i1]
          simp [Bool.and_assoc]
        · cases j with
          | zero => simp at e1 e2; subst e1; subst e2; rw [z]; exact h1
          | succ j => rw [sh]; exact i2 j p q (by simpa using e1) (by simpa using e2)

section
variable {X : Cx} {fld : Str → Option Str} {pins : List (Addr × Obj)} {σ : St} {s : Shared} {ω : Wd}
theorem zip_inj {α β : Type} : ∀ {ks : List α} {vs ws : List β}, ks.length = vs.length → ks.length = ws.length → ks.zip vs = ks.zip ws → vs = ws
  | [], [], [], _, _, _ => rfl
  | k :: ks, v :: vs, w :: ws, h1, h2, h => by
    simp only [List.zip_cons_cons, List.cons.injEq, Prod.mk.injEq, true_and] at h
    rw [h.1, zip_inj (by simpa using h1) (by simpa using h2) h.2]
  | [], _ :: _, _, h1, _, _ => by simp at h1
  | [], [], _ :: _, _, h2, _ => by simp at h2
  | _ :: _, [], _, h1, _, _ => by simp at h1
  | _ :: _, _ :: _, [], _, h2, _ => by simp at h2
theorem all_true {f : D → D → Option Bool} {xs ys : List D} {vs : List V} (ih : ∀ d e b, f d e = some b → ∀ x, Rep X.K X.mg fld ω x d → Rep X.K X.mg fld ω x e → b = true) (h1 : RepL X.K X.mg fld ω vs xs) (h2 : RepL X.K X.mg fld ω vs ys) {b : Bool} (h : eqL f xs ys = some b) : b = true := by
  obtain ⟨e, g⟩ := eqL_spec f xs ys b h
  rw [e, Bool.and_eq_true, List.all_eq_true]
  refine ⟨fun j hj => ?_, by rw [beq_iff_eq, ← h1.length, h2.length]⟩
  have hj' := List.mem_range.mp hj
  have l1 : j < xs.length := by omega
  have l2 : j < ys.length := by omega
  obtain ⟨v, a1, a2⟩ := h1.get (List.getElem?_eq_getElem l1)
  obtain ⟨w, b1, b2⟩ := h2.get (List.getElem?_eq_getElem l2)
  rw [a1] at b1
  cases b1
  exact ih _ _ _ (g j _ _ (List.getElem?_eq_getElem l1) (List.getElem?_eq_getElem l2)) v a2 b2

theorem sqT_no (I : Inv X pins σ ω.H s) {a : Addr} {vs : List V} {o : HO} (h : SqT X.K ω.H a vs) (e : ω.H a = some o) (c : isCellHO o) : False := by
  rcases h with (h | ⟨o', h⟩) | ⟨o', its, n, h, _⟩
  · rw [h] at e; cases e; exact c
  · rw [h] at e; cases e; exact c
  · have q := (I.bs a o' (I.mod.kin a o' h)).2
    rw [q] at e; cases e
/-- two data of one thing: of one kind -/
def sameKind : D → D → Bool
  | .non, .non => true
  | .bl _, .bl _ => true
  | .int _, .int _ => true
  | .str _, .str _ => true
  | .tup _, .tup _ => true
  | .lst _, .lst _ => true
  | .dic _ _, .dic _ _ => true
  | _, _ => false
def known : D → Bool
  | .non => true
  | .bl _ => true
  | .int _ => true
  | .str _ => true
  | .tup _ => true
  | .lst _ => true
  | .dic _ _ => true
  | _ => false
theorem kind_same (I : Inv X pins σ ω.H s) {x : V} {d e : D} (hd : RepT X.K X.mg fld ω x d) (he : RepT X.K X.mg fld ω x e) (kd : known d = true) (ke : known e = true) : sameKind d e = true := by
  cases d <;> cases e <;> first
    | rfl
    | exact absurd kd Bool.false_ne_true
    | exact absurd ke Bool.false_ne_true
    | (exfalso; simp only [RepT] at hd he; rw [hd] at he; cases he; done)
    | (exfalso; simp only [RepT] at hd he; obtain ⟨_, _, z, _⟩ := he; rw [hd] at z; cases z; done)
    | (exfalso; simp only [RepT] at hd he; obtain ⟨_, _, z, _⟩ := hd; rw [z] at he; cases he; done)
    | (exfalso; simp only [RepT] at hd he; obtain ⟨_, _, z, h1, _⟩ := hd; obtain ⟨_, _, z2, h2, _⟩ := he; rw [z] at z2; cases z2; exact sqT_no I h1 h2 trivial)
    | (exfalso; simp only [RepT] at hd he; obtain ⟨_, _, z, h1, _⟩ := hd; obtain ⟨_, _, z2, h2, _⟩ := he; rw [z] at z2; cases z2; exact sqT_no I h2 h1 trivial)
    | (exfalso; simp only [RepT] at hd he; obtain ⟨_, _, z, h1, _⟩ := hd; obtain ⟨_, _, z2, h2, _⟩ := he; rw [z] at z2; cases z2; rw [h1] at h2; cases h2; done)
theorem dics_same {f : D → D → Option Bool} {ks ls : List Key} {xs ys : List D} {vs ws : List V} {b : Bool} (ih : ∀ d e b, f d e = some b → ∀ x, Rep X.K X.mg fld ω x d → Rep X.K X.mg fld ω x e → b = true) (r1 : RepL X.K X.mg fld ω vs xs) (r2 : RepL X.K X.mg fld ω ws ys)
    (l1 : ks.length = vs.length) (l2 : ls.length = ws.length) (h2 : ks.zip vs = ls.zip ws) (h : dicE f ks xs ls ys = some b) : b = true := by
  rcases ks with _ | ⟨k, _ | ⟨k2, ks⟩⟩ <;> rcases xs with _ | ⟨x1, _ | ⟨x2, xs⟩⟩ <;> rcases ls with _ | ⟨l, _ | ⟨l3, ls⟩⟩ <;> rcases ys with _ | ⟨y1, _ | ⟨y2, ys⟩⟩ <;> first
    | (cases h; done)
    | (cases h; rfl)
    | skip
  · cases r2 with
    | cons q t => cases t; simp at h2
  · cases r1 with
    | cons q t => cases t; simp at h2
  · cases r1 with
    | cons q1 t1 =>
      cases t1
      cases r2 with
      | cons q2 t2 =>
        cases t2
        simp only [List.zip_cons_cons, List.zip_nil_right, List.cons.injEq, Prod.mk.injEq, and_true] at h2
        obtain ⟨e1, e2⟩ := h2
        subst e1; subst e2
        rw [dicE_one, if_pos rfl] at h
        exact ih _ _ _ h _ q1 q2
/-- one thing is equal to itself -/
theorem eqF_same {nd : Bool} (I : Inv X pins σ ω.H s) (ok : Ok X.K X.mg fld ω) : ∀ n d e b, eqF ω.S nd n d e = some b → ∀ x, Rep X.K X.mg fld ω x d → Rep X.K X.mg fld ω x e → b = true := by
  intro n
  induction n with
  | zero => intro d e b h; cases h
  | succ n ih =>
    intro d e b h x rd re
    have td := rd.top ok
    have te := re.top ok
    unfold eqF at h
    generalize hp : top ω.S d = p at h td
    generalize hq : top ω.S e = q at h te
    have kp : known p = true := by cases p <;> first | rfl | (exfalso; cases h; done) | (exfalso; cases q <;> cases h; done)
    have kq : known q = true := by cases q <;> first | rfl | (exfalso; cases p <;> cases h; done)
    have kk := kind_same I td te kp kq
    cases p <;> cases q <;> first | exact absurd kk Bool.false_ne_true | skip
    · cases h; rfl
    · simp only [RepT] at td te; rw [td] at te; cases te; cases h; simp
    · simp only [RepT] at td te; rw [td] at te; cases te; cases h; simp
    · simp only [RepT] at td te; rw [td] at te; cases te; cases h; simp
    · obtain ⟨a, vs, z, h1, r1⟩ := td
      obtain ⟨a2, ws, z2, h2, r2⟩ := te
      rw [z] at z2; cases z2
      have ev := I.tuple_inj h1 h2
      subst ev
      exact all_true ih r1 r2 h
    · obtain ⟨a, vs, z, h1, r1⟩ := td
      obtain ⟨a2, ws, z2, h2, r2⟩ := te
      rw [z] at z2; cases z2
      rw [h1] at h2; cases h2
      simp only at h
      rw [if_pos (by rw [← r1.length, ← r2.length])] at h
      exact all_true ih r1 r2 h
    · rename_i ks xs ls ys
      obtain ⟨a, vs, z, h1, l1, r1⟩ := td
      obtain ⟨a2, ws, z2, h2, l2, r2⟩ := te
      rw [z] at z2; cases z2
      rw [h1] at h2
      injection h2 with h2
      injection h2 with h2
      cases nd with
      | true =>
        replace h : dicN ks xs ls ys = some b := h
        unfold dicN at h
        split at h
        · cases h; rfl
        · cases h
      | false => exact dics_same ih r1 r2 l1 l2 h2 h

theorem isD_of {h : Heap} {l : Addr} {kvs : List (Key × Value)} {P : Program} {w : World} (d : h.DictOf (mixKind P w) l kvs) : DEq.IsD h l := by
  obtain ⟨⟨c, dd, dt, sl⟩, es, ep, h1, h2, h3, _⟩ := d
  obtain ⟨h2, _⟩ := h2
  simp only at h2 h3
  subst h2 h3
  exact ⟨es, ep, dd, sl, h1⟩
theorem not_float {x : V} {d : D} {v : Value} (r : Rep X.K X.mg fld ω x d) (rv : RelV x v) : ∀ u t, v ≠ .float u t := fun u t z => by
  subst z
  cases r <;> (try (cases rv; done)) <;> (try (obtain ⟨_, z⟩ := rv; cases z; done))
theorem at_of {P : Program} {w : World} {f : D → D → Option Bool} {xs ys : List D} {vs ws : List V} {us zs : List Value} {A : Around} (h1 : RepL X.K X.mg fld ω vs xs) (h2 : RepL X.K X.mg fld ω ws ys) (r1 : Vals vs us) (r2 : Vals ws zs)
    (g : ∀ j x y, xs[j]? = some x → ys[j]? = some y → f x y = some (pairE f xs ys j))
    (ih : ∀ d e b, f d e = some b → ∀ x y v u, Rep X.K X.mg fld ω x d → Rep X.K X.mg fld ω y e → RelV x v → RelV y u → EqIn P w A s v u b) :
    ∀ j (j1 : j < us.toArray.size) (j2 : j < zs.toArray.size), EqIn P w A s us.toArray[j] zs.toArray[j] (pairE f xs ys j) := fun j j1 j2 => by
  have l1 : j < us.length := by simpa using j1
  have l2 : j < zs.length := by simpa using j2
  have k1 : j < xs.length := by rw [← h1.length, r1.length]; exact l1
  have k2 : j < ys.length := by rw [← h2.length, r2.length]; exact l2
  obtain ⟨v, a1, a2⟩ := h1.get (List.getElem?_eq_getElem k1)
  obtain ⟨w', b1, b2⟩ := h2.get (List.getElem?_eq_getElem k2)
  obtain ⟨u, c1, c2⟩ := r1.get a1
  obtain ⟨z, d1, d2⟩ := r2.get b1
  have e1 : us.toArray[j] = u := by
    rw [List.getElem?_eq_getElem l1] at c1
    simpa using Option.some.inj c1
  have e2 : zs.toArray[j] = z := by
    rw [List.getElem?_eq_getElem l2] at d1
    simpa using Option.some.inj d1
  rw [e1, e2]
  exact ih _ _ _ (g j _ _ (List.getElem?_eq_getElem k1) (List.getElem?_eq_getElem k2)) v w' u z a2 b2 c2 d2
theorem keyed {kvs : List (Key × V)} {us : List (Key × Value)} (h : KV kvs us) : kvs.length = us.length := Paired.length h
theorem rc_dics {f : D → D → Option Bool} {n : Nat} {A : Around} {a1 a2 : Addr} {ks1 ks2 : List Key} {vs1 vs2 : List V} {ds1 ds2 : List D} {us1 us2 : List (Key × Value)} {b : Bool} {E Q : Value → Shared → Prop} (I : Inv X pins σ ω.H s)
    (ihe : ∀ d e b, f d e = some b → ∀ x y v u, Rep X.K X.mg fld ω x d → Rep X.K X.mg fld ω y e → RelV x v → RelV y u → EqIn X.prog X.w A.in1 s v u b) (hA : A.units + (n + 1) < cLine)
    (ln1 : ks1.length = vs1.length) (ln2 : ks2.length = vs2.length) (rl1 : RepL X.K X.mg fld ω vs1 ds1) (rl2 : RepL X.K X.mg fld ω vs2 ds2) (rV1 : KV (ks1.zip vs1) us1) (rV2 : KV (ks2.zip vs2) us2)
    (sm1 : (a1 == sysModules) = false) (sm2 : (a2 == sysModules) = false) (dk1 : s.heap.DictOf (mixKind X.prog X.w) a1 us1) (dk2 : s.heap.DictOf (mixKind X.prog X.w) a2 us2)
    (h : dicE f ks1 ds1 ks2 ds2 = some b) (q : Q (.bool b) s) : wpAny (model X.prog X.w) A (richCompare .Eq (.ref a1) (.ref a2)) Q E s := by
  have hu : A.units < cLine := by omega
  rcases ks1 with _ | ⟨k, _ | ⟨k2, ks⟩⟩ <;> rcases ds1 with _ | ⟨x1, _ | ⟨x2, xs⟩⟩ <;> rcases ks2 with _ | ⟨l, _ | ⟨l3, ls⟩⟩ <;> rcases ds2 with _ | ⟨y1, _ | ⟨y2, ys⟩⟩ <;> first
    | (cases h; done)
    | skip
  · cases h
    cases rl1; cases rl2; cases rV1; cases rV2
    exact PySem.W.keq_eqIn (r := true) sm1 sm2 dk1 dk2 hu (fun _ => .nil) q
  · cases h
    cases rl1
    cases rl2 with
    | cons r t =>
      cases t; cases rV1
      cases rV2 with
      | cons r2 t2 =>
        cases t2
        exact PySem.W.keq_eqIn (r := true) sm1 sm2 dk1 dk2 hu (fun z => by cases z) q
  · cases h
    cases rl2
    cases rl1 with
    | cons r t =>
      cases t; cases rV2
      cases rV1 with
      | cons r2 t2 =>
        cases t2
        exact PySem.W.keq_eqIn (r := true) sm1 sm2 dk1 dk2 hu (fun z => by cases z) q
  · cases rl1 with
    | cons r1 t1 =>
      cases t1
      cases rl2 with
      | cons r2 t2 =>
        cases t2
        cases rV1 with
        | cons g1 t3 =>
          cases t3
          cases rV2 with
          | cons g2 t4 =>
            cases t4
            rename_i p1 p2
            obtain ⟨e1, f1⟩ := g1
            obtain ⟨e2, f2⟩ := g2
            obtain ⟨k1', u1⟩ := p1
            obtain ⟨k2', u2⟩ := p2
            cases e1
            cases e2
            rw [dicE_one] at h
            by_cases hk : k = l
            · subst hk
              rw [if_pos rfl] at h
              refine PySem.W.keq_eqIn (r := b && true) sm1 sm2 dk1 dk2 hu (fun _ => .hit (y := u2) (by simp [valueAt]) (ihe _ _ _ h _ _ _ _ r1 r2 f1 f2) .nil) ?_
              simpa using q
            · rw [if_neg hk] at h
              cases h
              refine PySem.W.keq_eqIn (r := false) sm1 sm2 dk1 dk2 hu (fun _ => .miss (by simp [valueAt, Ne.symm hk])) ?_
              simpa using q
theorem dictOf_nil {P P' : Program} {w w' : World} {h : Heap} {a : Addr} (d : h.DictOf (mixKind P w) a []) : h.DictOf (mixKind P' w') a [] := by
  obtain ⟨o, es, ep, h1, h2, h3, hk, hp, hn⟩ := d
  have e : es.toList = [] := by
    have := hp.length
    exact List.eq_nil_of_length_eq_zero (by simpa using this)
  obtain rfl : es = #[] := Array.ext' (by simpa using e)
  refine ⟨o, #[], ep, h1, h2, h3, ?_, .nil, hn⟩
  unfold PySem.KeysOf
  simp
theorem rcF {nd : Bool} {P : Program} {w : World} (hP : nd = false → P = X.prog ∧ w = X.w) (I : Inv X pins σ ω.H s) (ok : Ok X.K X.mg fld ω) : ∀ n d e b, eqF ω.S nd n d e = some b → ∀ x y v u, Rep X.K X.mg fld ω x d → Rep X.K X.mg fld ω y e → RelV x v → RelV y u → ∀ A : Around, A.units + n < cLine →
    ∀ (E : Value → Shared → Prop) (Q : Value → Shared → Prop), Q (.bool b) s → wpAny (model P w) A (richCompare .Eq v u) Q E s := by
  intro n
  induction n with
  | zero => intro d e b h; cases h
  | succ n ih =>
    have ihe : ∀ (A : Around), A.units + 1 + n < cLine → ∀ d e b, eqF ω.S nd n d e = some b → ∀ x y v u, Rep X.K X.mg fld ω x d → Rep X.K X.mg fld ω y e → RelV x v → RelV y u → EqIn P w A.in1 s v u b := fun A hA d e b h x y v u rd re rv ru =>
      DEq.in_of (fun z => by
        have z' := eq_of_beq z
        subst z'
        have xy := rv.inj ru
        subst xy
        exact eqF_same I ok n d e b h x rd re) (not_float rd rv) fun E Q q => ih d e b h x y v u rd re rv ru A.in1 (by show A.units + 1 + n < cLine; omega) E Q q
    intro d e b h x y v u rd re rv ru A hA E Q q
    have hu : A.units < cLine := by omega
    have td := rd.top ok
    have te := re.top ok
    unfold eqF at h
    generalize hp : top ω.S d = p at h td
    generalize hq : top ω.S e = p' at h te
    cases p with
    | non =>
      have z1 : x = .non := td
      subst z1
      cases rv
      cases p' with
      | non =>
        have z2 : y = .non := te
        subst z2
        cases ru
        cases h
        exact RcAt.none_none P w E Q q
      | bl =>
        rename_i b2
        have z2 : y = .bl b2 := te
        subst z2
        cases ru
        cases h
        exact RcAt.none_bool b2 P w E Q q
      | int =>
        rename_i b2
        have z2 : y = .int b2 := te
        subst z2
        obtain ⟨t2, z2⟩ := ru
        subst z2
        cases h
        exact RcAt.none_int b2 t2 P w E Q q
      | str =>
        rename_i b2
        have z2 : y = .str b2 := te
        subst z2
        obtain ⟨t2, z2⟩ := ru
        subst z2
        cases h
        exact RcAt.none_str b2 t2 P w E Q q
      | tup =>
        rename_i ds2
        obtain ⟨a2, vs2, z2, hs2, rl2⟩ := te
        subst z2
        cases ru
        obtain ⟨its2, rV2, it2, _⟩ := I.tuple hs2
        have hl2 : s.heap.IsTuple a2 its2.toArray := it2
        cases h
        exact RcAt.none_tuple hl2 hu P w E Q q
      | lst =>
        rename_i ds2
        obtain ⟨a2, vs2, z2, hs2, rl2⟩ := te
        subst z2
        cases ru
        obtain ⟨its2, rV2, it2, _⟩ := I.list (SqL.of hs2)
        have hl2 : s.heap.IsList a2 its2.toArray := it2.isList
        cases h
        exact RcAt.none_list hl2 hu P w E Q q
      | dic =>
        rename_i ks2 ds2
        obtain ⟨a2, vs2, z2, hs2, ln2, rl2⟩ := te
        subst z2
        cases ru
        obtain ⟨_, sm2, its2, rV2, dk2⟩ : (ks2.zip vs2).length ≤ sizeLine ∧ (a2 == sysModules) = false ∧ ∃ vs, KV (ks2.zip vs2) vs ∧ s.heap.DictOf (mixKind X.prog X.w) a2 vs := I.hok a2 _ hs2
        have hl2 := isD_of dk2
        cases h
        exact DEq.rc_none_d hl2 hu P w E Q q
      | _ => cases h
    | bl =>
      rename_i b1
      have z1 : x = .bl b1 := td
      subst z1
      cases rv
      cases p' with
      | non =>
        have z2 : y = .non := te
        subst z2
        cases ru
        cases h
        exact RcAt.bool_none b1 P w E Q q
      | bl =>
        rename_i b2
        have z2 : y = .bl b2 := te
        subst z2
        cases ru
        cases h
        exact RcAt.bool_bool b1 b2 P w E Q q
      | int =>
        rename_i b2
        have z2 : y = .int b2 := te
        subst z2
        obtain ⟨t2, z2⟩ := ru
        subst z2
        cases h
        exact RcAt.bool_int b1 b2 t2 P w E Q q
      | str =>
        rename_i b2
        have z2 : y = .str b2 := te
        subst z2
        obtain ⟨t2, z2⟩ := ru
        subst z2
        cases h
        exact RcAt.bool_str b1 b2 t2 P w E Q q
      | tup =>
        rename_i ds2
        obtain ⟨a2, vs2, z2, hs2, rl2⟩ := te
        subst z2
        cases ru
        obtain ⟨its2, rV2, it2, _⟩ := I.tuple hs2
        have hl2 : s.heap.IsTuple a2 its2.toArray := it2
        cases h
        exact RcAt.bool_tuple b1 hl2 hu P w E Q q
      | lst =>
        rename_i ds2
        obtain ⟨a2, vs2, z2, hs2, rl2⟩ := te
        subst z2
        cases ru
        obtain ⟨its2, rV2, it2, _⟩ := I.list (SqL.of hs2)
        have hl2 : s.heap.IsList a2 its2.toArray := it2.isList
        cases h
        exact RcAt.bool_list b1 hl2 hu P w E Q q
      | dic =>
        rename_i ks2 ds2
        obtain ⟨a2, vs2, z2, hs2, ln2, rl2⟩ := te
        subst z2
        cases ru
        obtain ⟨_, sm2, its2, rV2, dk2⟩ : (ks2.zip vs2).length ≤ sizeLine ∧ (a2 == sysModules) = false ∧ ∃ vs, KV (ks2.zip vs2) vs ∧ s.heap.DictOf (mixKind X.prog X.w) a2 vs := I.hok a2 _ hs2
        have hl2 := isD_of dk2
        cases h
        exact DEq.rc_bool_d b1 hl2 hu P w E Q q
      | _ => cases h
    | int =>
      rename_i b1
      have z1 : x = .int b1 := td
      subst z1
      obtain ⟨t1, z1⟩ := rv
      subst z1
      cases p' with
      | non =>
        have z2 : y = .non := te
        subst z2
        cases ru
        cases h
        exact RcAt.int_none b1 t1 P w E Q q
      | bl =>
        rename_i b2
        have z2 : y = .bl b2 := te
        subst z2
        cases ru
        cases h
        exact RcAt.int_bool b1 t1 b2 P w E Q q
      | int =>
        rename_i b2
        have z2 : y = .int b2 := te
        subst z2
        obtain ⟨t2, z2⟩ := ru
        subst z2
        cases h
        exact RcAt.int_int b1 t1 b2 t2 P w E Q q
      | str =>
        rename_i b2
        have z2 : y = .str b2 := te
        subst z2
        obtain ⟨t2, z2⟩ := ru
        subst z2
        cases h
        exact RcAt.int_str b1 t1 b2 t2 P w E Q q
      | tup =>
        rename_i ds2
        obtain ⟨a2, vs2, z2, hs2, rl2⟩ := te
        subst z2
        cases ru
        obtain ⟨its2, rV2, it2, _⟩ := I.tuple hs2
        have hl2 : s.heap.IsTuple a2 its2.toArray := it2
        cases h
        exact RcAt.int_tuple b1 t1 hl2 hu P w E Q q
      | lst =>
        rename_i ds2
        obtain ⟨a2, vs2, z2, hs2, rl2⟩ := te
        subst z2
        cases ru
        obtain ⟨its2, rV2, it2, _⟩ := I.list (SqL.of hs2)
        have hl2 : s.heap.IsList a2 its2.toArray := it2.isList
        cases h
        exact RcAt.int_list b1 t1 hl2 hu P w E Q q
      | dic =>
        rename_i ks2 ds2
        obtain ⟨a2, vs2, z2, hs2, ln2, rl2⟩ := te
        subst z2
        cases ru
        obtain ⟨_, sm2, its2, rV2, dk2⟩ : (ks2.zip vs2).length ≤ sizeLine ∧ (a2 == sysModules) = false ∧ ∃ vs, KV (ks2.zip vs2) vs ∧ s.heap.DictOf (mixKind X.prog X.w) a2 vs := I.hok a2 _ hs2
        have hl2 := isD_of dk2
        cases h
        exact DEq.rc_int_d b1 t1 hl2 hu P w E Q q
      | _ => cases h
    | str =>
      rename_i b1
      have z1 : x = .str b1 := td
      subst z1
      obtain ⟨t1, z1⟩ := rv
      subst z1
      cases p' with
      | non =>
        have z2 : y = .non := te
        subst z2
        cases ru
        cases h
        exact RcAt.str_none b1 t1 P w E Q q
      | bl =>
        rename_i b2
        have z2 : y = .bl b2 := te
        subst z2
        cases ru
        cases h
        exact RcAt.str_bool b1 t1 b2 P w E Q q
      | int =>
        rename_i b2
        have z2 : y = .int b2 := te
        subst z2
        obtain ⟨t2, z2⟩ := ru
        subst z2
        cases h
        exact RcAt.str_int b1 t1 b2 t2 P w E Q q
      | str =>
        rename_i b2
        have z2 : y = .str b2 := te
        subst z2
        obtain ⟨t2, z2⟩ := ru
        subst z2
        cases h
        exact RcAt.str_str b1 t1 b2 t2 P w E Q q
      | tup =>
        rename_i ds2
        obtain ⟨a2, vs2, z2, hs2, rl2⟩ := te
        subst z2
        cases ru
        obtain ⟨its2, rV2, it2, _⟩ := I.tuple hs2
        have hl2 : s.heap.IsTuple a2 its2.toArray := it2
        cases h
        exact RcAt.str_tuple b1 t1 hl2 hu P w E Q q
      | lst =>
        rename_i ds2
        obtain ⟨a2, vs2, z2, hs2, rl2⟩ := te
        subst z2
        cases ru
        obtain ⟨its2, rV2, it2, _⟩ := I.list (SqL.of hs2)
        have hl2 : s.heap.IsList a2 its2.toArray := it2.isList
        cases h
        exact RcAt.str_list b1 t1 hl2 hu P w E Q q
      | dic =>
        rename_i ks2 ds2
        obtain ⟨a2, vs2, z2, hs2, ln2, rl2⟩ := te
        subst z2
        cases ru
        obtain ⟨_, sm2, its2, rV2, dk2⟩ : (ks2.zip vs2).length ≤ sizeLine ∧ (a2 == sysModules) = false ∧ ∃ vs, KV (ks2.zip vs2) vs ∧ s.heap.DictOf (mixKind X.prog X.w) a2 vs := I.hok a2 _ hs2
        have hl2 := isD_of dk2
        cases h
        exact DEq.rc_str_d b1 t1 hl2 hu P w E Q q
      | _ => cases h
    | tup =>
      rename_i ds1
      obtain ⟨a1, vs1, z1, hs1, rl1⟩ := td
      subst z1
      cases rv
      obtain ⟨its1, rV1, it1, _⟩ := I.tuple hs1
      have hl1 : s.heap.IsTuple a1 its1.toArray := it1
      cases p' with
      | non =>
        have z2 : y = .non := te
        subst z2
        cases ru
        cases h
        exact RcAt.tuple_none hl1 hu P w E Q q
      | bl =>
        rename_i b2
        have z2 : y = .bl b2 := te
        subst z2
        cases ru
        cases h
        exact RcAt.tuple_bool b2 hl1 hu P w E Q q
      | int =>
        rename_i b2
        have z2 : y = .int b2 := te
        subst z2
        obtain ⟨t2, z2⟩ := ru
        subst z2
        cases h
        exact RcAt.tuple_int b2 t2 hl1 hu P w E Q q
      | str =>
        rename_i b2
        have z2 : y = .str b2 := te
        subst z2
        obtain ⟨t2, z2⟩ := ru
        subst z2
        cases h
        exact RcAt.tuple_str b2 t2 hl1 hu P w E Q q
      | tup =>
        rename_i ds2
        obtain ⟨a2, vs2, z2, hs2, rl2⟩ := te
        subst z2
        cases ru
        obtain ⟨its2, rV2, it2, _⟩ := I.tuple hs2
        have hl2 : s.heap.IsTuple a2 its2.toArray := it2
        obtain ⟨eb, g⟩ := eqL_spec _ _ _ _ h
        refine rcIn_tuples (e := pairE (eqF ω.S nd n) ds1 ds2) hl1 hl2 hu (at_of rl1 rl2 rV1 rV2 g (ihe A (by omega))) ?_
        rw [List.size_toArray, List.size_toArray, ← rV1.length, ← rV2.length, rl1.length, rl2.length, ← eb]
        exact q
      | lst =>
        rename_i ds2
        obtain ⟨a2, vs2, z2, hs2, rl2⟩ := te
        subst z2
        cases ru
        obtain ⟨its2, rV2, it2, _⟩ := I.list (SqL.of hs2)
        have hl2 : s.heap.IsList a2 its2.toArray := it2.isList
        cases h
        exact RcAt.tuple_list hl1 hl2 hu P w E Q q
      | dic =>
        rename_i ks2 ds2
        obtain ⟨a2, vs2, z2, hs2, ln2, rl2⟩ := te
        subst z2
        cases ru
        obtain ⟨_, sm2, its2, rV2, dk2⟩ : (ks2.zip vs2).length ≤ sizeLine ∧ (a2 == sysModules) = false ∧ ∃ vs, KV (ks2.zip vs2) vs ∧ s.heap.DictOf (mixKind X.prog X.w) a2 vs := I.hok a2 _ hs2
        have hl2 := isD_of dk2
        cases h
        exact DEq.rc_tuple_d hl2 hl1 hu P w E Q q
      | _ => cases h
    | lst =>
      rename_i ds1
      obtain ⟨a1, vs1, z1, hs1, rl1⟩ := td
      subst z1
      cases rv
      obtain ⟨its1, rV1, it1, _⟩ := I.list (SqL.of hs1)
      have hl1 : s.heap.IsList a1 its1.toArray := it1.isList
      cases p' with
      | non =>
        have z2 : y = .non := te
        subst z2
        cases ru
        cases h
        exact RcAt.list_none hl1 hu P w E Q q
      | bl =>
        rename_i b2
        have z2 : y = .bl b2 := te
        subst z2
        cases ru
        cases h
        exact RcAt.list_bool b2 hl1 hu P w E Q q
      | int =>
        rename_i b2
        have z2 : y = .int b2 := te
        subst z2
        obtain ⟨t2, z2⟩ := ru
        subst z2
        cases h
        exact RcAt.list_int b2 t2 hl1 hu P w E Q q
      | str =>
        rename_i b2
        have z2 : y = .str b2 := te
        subst z2
        obtain ⟨t2, z2⟩ := ru
        subst z2
        cases h
        exact RcAt.list_str b2 t2 hl1 hu P w E Q q
      | tup =>
        rename_i ds2
        obtain ⟨a2, vs2, z2, hs2, rl2⟩ := te
        subst z2
        cases ru
        obtain ⟨its2, rV2, it2, _⟩ := I.tuple hs2
        have hl2 : s.heap.IsTuple a2 its2.toArray := it2
        cases h
        exact RcAt.list_tuple hl1 hl2 hu P w E Q q
      | lst =>
        rename_i ds2
        obtain ⟨a2, vs2, z2, hs2, rl2⟩ := te
        subst z2
        cases ru
        obtain ⟨its2, rV2, it2, _⟩ := I.list (SqL.of hs2)
        have hl2 : s.heap.IsList a2 its2.toArray := it2.isList
        by_cases hz : ds1.length = ds2.length
        · simp only at h
          rw [if_pos hz] at h
          obtain ⟨eb, g⟩ := eqL_spec _ _ _ _ h
          have sz : its1.toArray.size = its2.toArray.size := by rw [List.size_toArray, List.size_toArray, ← rV1.length, ← rV2.length, rl1.length, rl2.length]; exact hz
          refine rcIn_lists (e := pairE (eqF ω.S nd n) ds1 ds2) hl1 hl2 sz hu (at_of rl1 rl2 rV1 rV2 g (ihe A (by omega))) ?_
          rw [← hz, Nat.min_self, beq_self_eq_true, Bool.and_true] at eb
          rw [List.size_toArray, ← rV1.length, rl1.length, ← eb]
          exact q
        · simp only at h
          rw [if_neg hz] at h
          cases h
          exact RcAt.lists_lengths hl1 hl2 (by rw [List.size_toArray, List.size_toArray, ← rV1.length, ← rV2.length, rl1.length, rl2.length]; simpa using hz) hu P w E Q q
      | dic =>
        rename_i ks2 ds2
        obtain ⟨a2, vs2, z2, hs2, ln2, rl2⟩ := te
        subst z2
        cases ru
        obtain ⟨_, sm2, its2, rV2, dk2⟩ : (ks2.zip vs2).length ≤ sizeLine ∧ (a2 == sysModules) = false ∧ ∃ vs, KV (ks2.zip vs2) vs ∧ s.heap.DictOf (mixKind X.prog X.w) a2 vs := I.hok a2 _ hs2
        have hl2 := isD_of dk2
        cases h
        exact DEq.rc_list_d hl2 hl1 hu P w E Q q
      | _ => cases h
    | dic =>
      rename_i ks1 ds1
      obtain ⟨a1, vs1, z1, hs1, ln1, rl1⟩ := td
      subst z1
      cases rv
      obtain ⟨_, sm1, its1, rV1, dk1⟩ : (ks1.zip vs1).length ≤ sizeLine ∧ (a1 == sysModules) = false ∧ ∃ vs, KV (ks1.zip vs1) vs ∧ s.heap.DictOf (mixKind X.prog X.w) a1 vs := I.hok a1 _ hs1
      have hl1 := isD_of dk1
      cases p' with
      | non =>
        have z2 : y = .non := te
        subst z2
        cases ru
        cases h
        exact DEq.rc_d_none hl1 hu P w E Q q
      | bl =>
        rename_i b2
        have z2 : y = .bl b2 := te
        subst z2
        cases ru
        cases h
        exact DEq.rc_d_bool b2 hl1 hu P w E Q q
      | int =>
        rename_i b2
        have z2 : y = .int b2 := te
        subst z2
        obtain ⟨t2, z2⟩ := ru
        subst z2
        cases h
        exact DEq.rc_d_int b2 t2 hl1 hu P w E Q q
      | str =>
        rename_i b2
        have z2 : y = .str b2 := te
        subst z2
        obtain ⟨t2, z2⟩ := ru
        subst z2
        cases h
        exact DEq.rc_d_str b2 t2 hl1 hu P w E Q q
      | tup =>
        rename_i ds2
        obtain ⟨a2, vs2, z2, hs2, rl2⟩ := te
        subst z2
        cases ru
        obtain ⟨its2, rV2, it2, _⟩ := I.tuple hs2
        have hl2 : s.heap.IsTuple a2 its2.toArray := it2
        cases h
        exact DEq.rc_d_tuple hl1 hl2 hu P w E Q q
      | lst =>
        rename_i ds2
        obtain ⟨a2, vs2, z2, hs2, rl2⟩ := te
        subst z2
        cases ru
        obtain ⟨its2, rV2, it2, _⟩ := I.list (SqL.of hs2)
        have hl2 : s.heap.IsList a2 its2.toArray := it2.isList
        cases h
        exact DEq.rc_d_list hl1 hl2 hu P w E Q q
      | dic =>
        rename_i ks2 ds2
        obtain ⟨a2, vs2, z2, hs2, ln2, rl2⟩ := te
        subst z2
        cases ru
        obtain ⟨_, sm2, its2, rV2, dk2⟩ : (ks2.zip vs2).length ≤ sizeLine ∧ (a2 == sysModules) = false ∧ ∃ vs, KV (ks2.zip vs2) vs ∧ s.heap.DictOf (mixKind X.prog X.w) a2 vs := I.hok a2 _ hs2
        have hl2 := isD_of dk2
        cases nd with
        | true =>
          replace h : dicN ks1 ds1 ks2 ds2 = some b := h
          unfold dicN at h
          split at h
          · cases h
            cases rl1; cases rl2
            cases rV1; cases rV2
            exact PySem.W.keq_eqIn (prog := P) (w := w) (knd := mixKind P w) (r := true) sm1 sm2 (dictOf_nil dk1) (dictOf_nil dk2) hu (fun _ => .nil) q
          · cases h
        | false =>
          obtain ⟨rfl, rfl⟩ := hP rfl
          exact rc_dics I (ihe A (by omega)) hA ln1 ln2 rl1 rl2 rV1 rV2 sm1 sm2 dk1 dk2 h q
      | _ => cases h
    | _ => cases p' <;> cases h
end
end MI

set_option Elab.async false
set_option linter.all false
set_option maxRecDepth 100000
set_option maxHeartbeats 4000000
/-! MI7: ==, !=, in as rules over data. -/
namespace MI.DEq
open PySem PySem.SeqAt PySem.MeetsSeq
open PySem.AutoSeq1 (wpAny_loadPart')
variable {l b : Addr} {es : Array DictEntry} {n n2 : Nat} {dd dd2 : Option Addr} {sl sl2 : Array (Option Value)} {its : Array Value}
theorem d_ne_seq {T : String} (hT : isSubtype (.type T) (.type "dict") = pure false) : Meets (Builtin.«dict.__ne__» ⟨[.ref l, .ref b], []⟩)
    (fun _ R s => s.heap.get? l = some (dObj es n dd sl) ∧ s.heap.get? b = some { cls := .type T, dict := dd2, data := .seq its n2, slots := sl2 } ∧ R (.ok (.ret .notImplemented)) s) :=
  .of_wp fun prog w A R s h => by
    obtain ⟨hp, g, d, tk, os⟩ := s
    obtain ⟨h1, h2, h3⟩ := h
    wp_walk using wpAny_loadPart' h1, wpAny_loadPart' h2
    exact ⟨_, rfl, h3⟩
theorem tuple_ne_d : Meets (Builtin.«tuple.__ne__» ⟨[.ref b, .ref l], []⟩)
    (fun _ R s => s.heap.get? l = some (dObj es n dd sl) ∧ s.heap.get? b = some { cls := .type "tuple", dict := dd2, data := .seq its n2, slots := sl2 } ∧ R (.ok (.ret .notImplemented)) s) :=
  .of_wp fun prog w A R s h => by
    obtain ⟨hp, g, d, tk, os⟩ := s
    obtain ⟨h1, h2, h3⟩ := h
    have sub := F.sub_dict_tuple
    wp_walk using wpAny_loadPart' h1, wpAny_loadPart' h2
    exact ⟨_, rfl, h3⟩
theorem ne_d_tuple {A : Around} {s : Shared} {its : Array Value} (h : IsD s.heap l) (hb : s.heap.IsTuple b its) (hu : A.units < cLine) : RcNeAt A s (.ref l) (.ref b) true := by
  have ne := apart (by decide) h hb
  obtain ⟨es, n, dd, sl, ho⟩ := h
  obtain ⟨⟨c2, dd2, data2, sl2⟩, ho2, hc2, n2, hd2⟩ := hb
  cases hc2
  cases hd2
  exact fun prog w E Q q => rc_ne_decline_or (k := false) ⟨_, ho, rfl⟩ ⟨_, ho2, rfl⟩ (by decide) F.sub_tuple_dict F.slot_dict_ne F.slot_tuple_ne_refl
    (fun _ r => call_meets F.slot_dict_ne ⟨_, ho, rfl⟩ F.entry_dict_ne (F.args_dict_ne_2 _ _) (d_ne_seq F.sub_tuple_dict) ⟨ho, ho2, r⟩)
    (fun _ r => call_meets F.slot_tuple_ne_refl ⟨_, ho2, rfl⟩ F.entry_tuple_ne (F.args_tuple_ne_2 _ _) tuple_ne_d ⟨ho, ho2, r⟩)
    (fun _ r => wpAny_isSame_ref_other ne ho ho2 (by simp) r) (.inr hu) q
end MI.DEq

namespace MI
open PySem PySem.Spec L2
open PyProof.Rows hiding St
open PySem.SeqAt (EqIn EqAt RcAt RcNeAt)

section
variable {X : Cx} {fld : Str → Option Str} {m : Bool}
theorem opD_eq (hu : X.A.units + 64 < cLine) : OpD X fld (compareOp .Eq) (op2 .eq m) := by
  intro pins s σ ω x y v u Q d e I rx ry ok rd re h
  unfold op2 at h
  simp only at h
  cases hb : eqO ω.S d e with
  | none => rw [hb] at h; exact h.elim
  | some b =>
    rw [hb, bl?_some] at h
    exact rcF (fun _ => ⟨rfl, rfl⟩) I ok 60 d e b hb x y v u rd re rx ry X.A (by omega) _ _ ⟨.bl b, ω.H, I, rfl, h.same ok (.bl b)⟩
theorem elem_of {pins : List (Addr × Obj)} {σ : St} {s : Shared} {ω : Wd} (I : Inv X pins σ ω.H s) (ok : Ok X.K X.mg fld ω) {n : Nat} {A : Around} (hA : A.units + n < cLine) (P : Program) (w : World) :
    ∀ d e b, eqF ω.S true n d e = some b → ∀ x y v u, Rep X.K X.mg fld ω x d → Rep X.K X.mg fld ω y e → RelV x v → RelV y u → EqIn P w A s v u b := fun d e b h x y v u rd re rv ru =>
  DEq.in_of (fun z => by
    have z' := eq_of_beq z
    subst z'
    have xy := rv.inj ru
    subst xy
    exact eqF_same I ok n d e b h x rd re) (not_float rd rv) fun E Q q => rcF (P := P) (w := w) (fun z => absurd z (by decide)) I ok n d e b h x y v u rd re rv ru A hA E Q q
theorem rcNe (hu : X.A.units + 64 < cLine) {pins : List (Addr × Obj)} {σ : St} {s : Shared} {ω : Wd} {d e : D} {b : Bool} {x y : V} {v u : Value} (I : Inv X pins σ ω.H s) (ok : Ok X.K X.mg fld ω)
    (nd1 : ∀ ks vs, top ω.S d ≠ .dic ks vs) (nd2 : ∀ ks vs, top ω.S e ≠ .dic ks vs) (h : eqF ω.S true 60 d e = some b) (rd : Rep X.K X.mg fld ω x d) (re : Rep X.K X.mg fld ω y e) (rv : RelV x v) (ru : RelV y u)
    {E Q : Value → Shared → Prop} (q : Q (.bool (!b)) s) : wpAny (model X.prog X.w) X.A (compareOp .NotEq v u) Q E s := by
  have hA := hu
  have hu : X.A.units < cLine := by omega
  have elem := elem_of (n := 59) (A := X.A.in1) I ok (by show X.A.units + 1 + 59 < cLine; omega)
  have td := rd.top ok
  have te := re.top ok
  unfold eqF at h
  generalize hp : top ω.S d = p at h td nd1
  generalize hq : top ω.S e = p' at h te nd2
  cases p with
  | non =>
    have z1 : x = .non := td
    subst z1
    cases rv
    cases p' with
    | non =>
      have z2 : y = .non := te
      subst z2
      cases ru
      cases h
      exact RcNeAt.none_none X.prog X.w E Q q
    | bl =>
      rename_i b2
      have z2 : y = .bl b2 := te
      subst z2
      cases ru
      cases h
      exact RcNeAt.none_bool b2 X.prog X.w E Q q
    | int =>
      rename_i b2
      have z2 : y = .int b2 := te
      subst z2
      obtain ⟨t2, z2⟩ := ru
      subst z2
      cases h
      exact RcNeAt.none_int b2 t2 X.prog X.w E Q q
    | str =>
      rename_i b2
      have z2 : y = .str b2 := te
      subst z2
      obtain ⟨t2, z2⟩ := ru
      subst z2
      cases h
      exact RcNeAt.none_str b2 t2 X.prog X.w E Q q
    | tup =>
      rename_i ds2
      obtain ⟨a2, vs2, z2, hs2, rl2⟩ := te
      subst z2
      cases ru
      obtain ⟨its2, rV2, it2, _⟩ := I.tuple hs2
      have hl2 : s.heap.IsTuple a2 its2.toArray := it2
      cases h
      exact RcNeAt.none_tuple hl2 hu X.prog X.w E Q q
    | lst =>
      rename_i ds2
      obtain ⟨a2, vs2, z2, hs2, rl2⟩ := te
      subst z2
      cases ru
      obtain ⟨its2, rV2, it2, _⟩ := I.list (SqL.of hs2)
      have hl2 : s.heap.IsList a2 its2.toArray := it2.isList
      cases h
      exact RcNeAt.none_list hl2 hu X.prog X.w E Q q
    | dic => exact absurd rfl (nd2 _ _)
    | _ => cases h
  | bl =>
    rename_i b1
    have z1 : x = .bl b1 := td
    subst z1
    cases rv
    cases p' with
    | non =>
      have z2 : y = .non := te
      subst z2
      cases ru
      cases h
      exact RcNeAt.bool_none b1 X.prog X.w E Q q
    | bl =>
      rename_i b2
      have z2 : y = .bl b2 := te
      subst z2
      cases ru
      cases h
      exact RcNeAt.bool_bool b1 b2 X.prog X.w E Q q
    | int =>
      rename_i b2
      have z2 : y = .int b2 := te
      subst z2
      obtain ⟨t2, z2⟩ := ru
      subst z2
      cases h
      exact RcNeAt.bool_int b1 b2 t2 X.prog X.w E Q q
    | str =>
      rename_i b2
      have z2 : y = .str b2 := te
      subst z2
      obtain ⟨t2, z2⟩ := ru
      subst z2
      cases h
      exact RcNeAt.bool_str b1 b2 t2 X.prog X.w E Q q
    | tup =>
      rename_i ds2
      obtain ⟨a2, vs2, z2, hs2, rl2⟩ := te
      subst z2
      cases ru
      obtain ⟨its2, rV2, it2, _⟩ := I.tuple hs2
      have hl2 : s.heap.IsTuple a2 its2.toArray := it2
      cases h
      exact RcNeAt.bool_tuple b1 hl2 hu X.prog X.w E Q q
    | lst =>
      rename_i ds2
      obtain ⟨a2, vs2, z2, hs2, rl2⟩ := te
      subst z2
      cases ru
      obtain ⟨its2, rV2, it2, _⟩ := I.list (SqL.of hs2)
      have hl2 : s.heap.IsList a2 its2.toArray := it2.isList
      cases h
      exact RcNeAt.bool_list b1 hl2 hu X.prog X.w E Q q
    | dic => exact absurd rfl (nd2 _ _)
    | _ => cases h
  | int =>
    rename_i b1
    have z1 : x = .int b1 := td
    subst z1
    obtain ⟨t1, z1⟩ := rv
    subst z1
    cases p' with
    | non =>
      have z2 : y = .non := te
      subst z2
      cases ru
      cases h
      exact RcNeAt.int_none b1 t1 X.prog X.w E Q q
    | bl =>
      rename_i b2
      have z2 : y = .bl b2 := te
      subst z2
      cases ru
      cases h
      exact RcNeAt.int_bool b1 t1 b2 X.prog X.w E Q q
    | int =>
      rename_i b2
      have z2 : y = .int b2 := te
      subst z2
      obtain ⟨t2, z2⟩ := ru
      subst z2
      cases h
      exact RcNeAt.int_int b1 t1 b2 t2 X.prog X.w E Q q
    | str =>
      rename_i b2
      have z2 : y = .str b2 := te
      subst z2
      obtain ⟨t2, z2⟩ := ru
      subst z2
      cases h
      exact RcNeAt.int_str b1 t1 b2 t2 X.prog X.w E Q q
    | tup =>
      rename_i ds2
      obtain ⟨a2, vs2, z2, hs2, rl2⟩ := te
      subst z2
      cases ru
      obtain ⟨its2, rV2, it2, _⟩ := I.tuple hs2
      have hl2 : s.heap.IsTuple a2 its2.toArray := it2
      cases h
      exact RcNeAt.int_tuple b1 t1 hl2 hu X.prog X.w E Q q
    | lst =>
      rename_i ds2
      obtain ⟨a2, vs2, z2, hs2, rl2⟩ := te
      subst z2
      cases ru
      obtain ⟨its2, rV2, it2, _⟩ := I.list (SqL.of hs2)
      have hl2 : s.heap.IsList a2 its2.toArray := it2.isList
      cases h
      exact RcNeAt.int_list b1 t1 hl2 hu X.prog X.w E Q q
    | dic => exact absurd rfl (nd2 _ _)
    | _ => cases h
  | str =>
    rename_i b1
    have z1 : x = .str b1 := td
    subst z1
    obtain ⟨t1, z1⟩ := rv
    subst z1
    cases p' with
    | non =>
      have z2 : y = .non := te
      subst z2
      cases ru
      cases h
      exact RcNeAt.str_none b1 t1 X.prog X.w E Q q
    | bl =>
      rename_i b2
      have z2 : y = .bl b2 := te
      subst z2
      cases ru
      cases h
      exact RcNeAt.str_bool b1 t1 b2 X.prog X.w E Q q
    | int =>
      rename_i b2
      have z2 : y = .int b2 := te
      subst z2
      obtain ⟨t2, z2⟩ := ru
      subst z2
      cases h
      exact RcNeAt.str_int b1 t1 b2 t2 X.prog X.w E Q q
    | str =>
      rename_i b2
      have z2 : y = .str b2 := te
      subst z2
      obtain ⟨t2, z2⟩ := ru
      subst z2
      cases h
      exact RcNeAt.str_str b1 t1 b2 t2 X.prog X.w E Q q
    | tup =>
      rename_i ds2
      obtain ⟨a2, vs2, z2, hs2, rl2⟩ := te
      subst z2
      cases ru
      obtain ⟨its2, rV2, it2, _⟩ := I.tuple hs2
      have hl2 : s.heap.IsTuple a2 its2.toArray := it2
      cases h
      exact RcNeAt.str_tuple b1 t1 hl2 hu X.prog X.w E Q q
    | lst =>
      rename_i ds2
      obtain ⟨a2, vs2, z2, hs2, rl2⟩ := te
      subst z2
      cases ru
      obtain ⟨its2, rV2, it2, _⟩ := I.list (SqL.of hs2)
      have hl2 : s.heap.IsList a2 its2.toArray := it2.isList
      cases h
      exact RcNeAt.str_list b1 t1 hl2 hu X.prog X.w E Q q
    | dic => exact absurd rfl (nd2 _ _)
    | _ => cases h
  | tup =>
    rename_i ds1
    obtain ⟨a1, vs1, z1, hs1, rl1⟩ := td
    subst z1
    cases rv
    obtain ⟨its1, rV1, it1, _⟩ := I.tuple hs1
    have hl1 : s.heap.IsTuple a1 its1.toArray := it1
    cases p' with
    | non =>
      have z2 : y = .non := te
      subst z2
      cases ru
      cases h
      exact RcNeAt.tuple_none hl1 hu X.prog X.w E Q q
    | bl =>
      rename_i b2
      have z2 : y = .bl b2 := te
      subst z2
      cases ru
      cases h
      exact RcNeAt.tuple_bool b2 hl1 hu X.prog X.w E Q q
    | int =>
      rename_i b2
      have z2 : y = .int b2 := te
      subst z2
      obtain ⟨t2, z2⟩ := ru
      subst z2
      cases h
      exact RcNeAt.tuple_int b2 t2 hl1 hu X.prog X.w E Q q
    | str =>
      rename_i b2
      have z2 : y = .str b2 := te
      subst z2
      obtain ⟨t2, z2⟩ := ru
      subst z2
      cases h
      exact RcNeAt.tuple_str b2 t2 hl1 hu X.prog X.w E Q q
    | tup =>
      rename_i ds2
      obtain ⟨a2, vs2, z2, hs2, rl2⟩ := te
      subst z2
      cases ru
      obtain ⟨its2, rV2, it2, _⟩ := I.tuple hs2
      have hl2 : s.heap.IsTuple a2 its2.toArray := it2
      obtain ⟨eb, g⟩ := eqL_spec _ _ _ _ h
      refine RcNeAt.tuples (e := pairE (eqF ω.S true 59) ds1 ds2) hl1 hl2 hu (fun j h1 h2 P w E Q => at_of (P := P) (w := w) rl1 rl2 rV1 rV2 g (elem P w) j h1 h2 E Q) X.prog X.w E Q ?_
      rw [List.size_toArray, List.size_toArray, ← rV1.length, ← rV2.length, rl1.length, rl2.length, ← eb]
      exact q
    | lst =>
      rename_i ds2
      obtain ⟨a2, vs2, z2, hs2, rl2⟩ := te
      subst z2
      cases ru
      obtain ⟨its2, rV2, it2, _⟩ := I.list (SqL.of hs2)
      have hl2 : s.heap.IsList a2 its2.toArray := it2.isList
      cases h
      exact RcNeAt.tuple_list hl1 hl2 hu X.prog X.w E Q q
    | dic => exact absurd rfl (nd2 _ _)
    | _ => cases h
  | lst =>
    rename_i ds1
    obtain ⟨a1, vs1, z1, hs1, rl1⟩ := td
    subst z1
    cases rv
    obtain ⟨its1, rV1, it1, _⟩ := I.list (SqL.of hs1)
    have hl1 : s.heap.IsList a1 its1.toArray := it1.isList
    cases p' with
    | non =>
      have z2 : y = .non := te
      subst z2
      cases ru
      cases h
      exact RcNeAt.list_none hl1 hu X.prog X.w E Q q
    | bl =>
      rename_i b2
      have z2 : y = .bl b2 := te
      subst z2
      cases ru
      cases h
      exact RcNeAt.list_bool b2 hl1 hu X.prog X.w E Q q
    | int =>
      rename_i b2
      have z2 : y = .int b2 := te
      subst z2
      obtain ⟨t2, z2⟩ := ru
      subst z2
      cases h
      exact RcNeAt.list_int b2 t2 hl1 hu X.prog X.w E Q q
    | str =>
      rename_i b2
      have z2 : y = .str b2 := te
      subst z2
      obtain ⟨t2, z2⟩ := ru
      subst z2
      cases h
      exact RcNeAt.list_str b2 t2 hl1 hu X.prog X.w E Q q
    | tup =>
      rename_i ds2
      obtain ⟨a2, vs2, z2, hs2, rl2⟩ := te
      subst z2
      cases ru
      obtain ⟨its2, rV2, it2, _⟩ := I.tuple hs2
      have hl2 : s.heap.IsTuple a2 its2.toArray := it2
      cases h
      exact RcNeAt.list_tuple hl1 hl2 hu X.prog X.w E Q q
    | lst =>
      rename_i ds2
      obtain ⟨a2, vs2, z2, hs2, rl2⟩ := te
      subst z2
      cases ru
      obtain ⟨its2, rV2, it2, _⟩ := I.list (SqL.of hs2)
      have hl2 : s.heap.IsList a2 its2.toArray := it2.isList
      by_cases hz : ds1.length = ds2.length
      · simp only at h
        rw [if_pos hz] at h
        obtain ⟨eb, g⟩ := eqL_spec _ _ _ _ h
        have sz : its1.toArray.size = its2.toArray.size := by rw [List.size_toArray, List.size_toArray, ← rV1.length, ← rV2.length, rl1.length, rl2.length]; exact hz
        refine RcNeAt.lists (e := pairE (eqF ω.S true 59) ds1 ds2) hl1 hl2 sz hu (fun j h1 h2 P w E Q => at_of (P := P) (w := w) rl1 rl2 rV1 rV2 g (elem P w) j h1 h2 E Q) X.prog X.w E Q ?_
        rw [← hz, Nat.min_self, beq_self_eq_true, Bool.and_true] at eb
        rw [List.size_toArray, ← rV1.length, rl1.length, ← eb]
        exact q
      · simp only at h
        rw [if_neg hz] at h
        cases h
        exact RcNeAt.lists_lengths hl1 hl2 (by rw [List.size_toArray, List.size_toArray, ← rV1.length, ← rV2.length, rl1.length, rl2.length]; simpa using hz) hu X.prog X.w E Q q
    | dic => exact absurd rfl (nd2 _ _)
    | _ => cases h
  | dic => exact absurd rfl (nd1 _ _)
  | _ => cases p' <;> cases h
theorem opD_ne (hu : X.A.units + 64 < cLine) : OpD X fld (compareOp .NotEq) (op2 .ne m) := by
  intro pins s σ ω x y v u Q d e I rx ry ok rd re h
  have gen : (∀ ks vs, top ω.S d ≠ .dic ks vs) → (∀ ks vs, top ω.S e ≠ .dic ks vs) → PostN X.K X.mg fld ω (bl? ω.S ((eqF ω.S true 60 d e).map (!·))) Q → wpAny (model X.prog X.w) X.A (compareOp .NotEq v u) (EP X pins σ Q) X.xe s := fun n1 n2 h => by
    cases hb : eqF ω.S true 60 d e with
    | none => rw [hb] at h; exact h.elim
    | some b =>
      rw [hb, Option.map_some, bl?_some] at h
      exact rcNe hu I ok n1 n2 hb rd re rx ry ⟨.bl (!b), ω.H, I, rfl, h.same ok (.bl _)⟩
  have h : PostN X.K X.mg fld ω (bl? ω.S (neO ω.S d e)) Q := h
  unfold neO at h
  split at h
  · rename_i hdt
    have td := rd.top ok
    have te := re.top ok
    generalize top ω.S d = p at td hdt
    generalize top ω.S e = p' at te hdt
    cases p with
    | dic ks ds =>
      cases p' with
      | tup xs =>
        obtain ⟨a1, vs1, z1, hs1, ln1, rl1⟩ := td
        subst z1
        cases rx
        obtain ⟨_, sm1, its1, rV1, dk1⟩ : (ks.zip vs1).length ≤ sizeLine ∧ (a1 == sysModules) = false ∧ ∃ vs, KV (ks.zip vs1) vs ∧ s.heap.DictOf (mixKind X.prog X.w) a1 vs := I.hok a1 _ hs1
        obtain ⟨a2, vs2, z2, hs2, rl2⟩ := te
        subst z2
        cases ry
        obtain ⟨its2, rV2, it2, _⟩ := I.tuple hs2
        rw [bl?_some] at h
        exact DEq.ne_d_tuple (isD_of dk1) it2 (by omega) X.prog X.w _ _ ⟨.bl true, ω.H, I, rfl, h.same ok (.bl _)⟩
      | _ => cases hdt
    | _ => cases hdt
  · split at h
    · exact h.elim
    · rename_i hnd
      rw [Bool.or_eq_true, not_or] at hnd
      exact gen (fun ks vs z => hnd.1 (by rw [z]; rfl)) (fun ks vs z => hnd.2 (by rw [z]; rfl)) h

/-! ### in -/
theorem anyO_spec : ∀ (os : List (Option Bool)) (b : Bool), anyO os = some b → (∀ o ∈ os, ∃ c, o = some c) ∧ (b = true ↔ some true ∈ os)
  | [], b, h => by cases h; exact ⟨fun o h => (by cases h), by simp⟩
  | a :: r, b, h => by
    unfold anyO at h
    cases a with
    | none => cases h
    | some c =>
      cases hr : anyO r with
      | none => rw [hr] at h; cases h
      | some e =>
        rw [hr] at h
        cases h
        obtain ⟨i1, i2⟩ := anyO_spec r e hr
        refine ⟨fun o ho => ?_, ?_⟩
        · rcases List.mem_cons.mp ho with z | z
          · exact ⟨c, z⟩
          · exact i1 o z
        · rw [Bool.or_eq_true, List.mem_cons, i2]
          constructor
          · rintro (z | z)
            · exact .inl (by rw [z])
            · exact .inr z
          · rintro (z | z)
            · exact .inl (Option.some.inj z).symm
            · exact .inr z
/-- in a list or a tuple: which item is equal, by its value -/
theorem in_tab {pins : List (Addr × Obj)} {σ : St} {s : Shared} {ω : Wd} (I : Inv X pins σ ω.H s) (ok : Ok X.K X.mg fld ω) (hA : X.A.units + 64 < cLine) {d : D} {xs : List D} {vs : List V} {us : List Value} {x : V} {v : Value} {b : Bool}
    (h : anyO (xs.map fun y => eqF ω.S true 60 y d) = some b) (rl : RepL X.K X.mg fld ω vs xs) (rV : Vals vs us) (rd : Rep X.K X.mg fld ω x d) (rv : RelV x v) :
    ∃ e : Value → Bool, (∀ y, y ∈ us.toArray → EqAt X.A.in1 s y v (e y)) ∧ us.toArray.any e = b := by
  obtain ⟨i1, i2⟩ := anyO_spec _ _ h
  have at_ : ∀ j (hj : j < us.length), ∃ c, eqF ω.S true 60 (xs[j]'(by rw [← rl.length, rV.length]; exact hj)) d = some c ∧ EqAt X.A.in1 s us[j] v c := fun j hj => by
    have hx : j < xs.length := by rw [← rl.length, rV.length]; exact hj
    obtain ⟨c, hc⟩ := i1 (eqF ω.S true 60 xs[j] d) (List.mem_map.mpr ⟨xs[j], List.getElem_mem hx, rfl⟩)
    obtain ⟨w1, a1, a2⟩ := rl.get (List.getElem?_eq_getElem hx)
    obtain ⟨u1, b1, b2⟩ := rV.get a1
    have e1 : us[j] = u1 := by
      rw [List.getElem?_eq_getElem hj] at b1
      exact Option.some.inj b1
    refine ⟨c, hc, fun P w E Q q => ?_⟩
    rw [e1]
    exact elem_of (n := 60) (A := X.A.in1) I ok (by show X.A.units + 1 + 60 < cLine; omega) P w _ _ c hc _ _ _ _ a2 rd b2 rv E Q q
  classical
  refine ⟨fun u => decide (∃ j, ∃ hj : j < us.length, us[j] = u ∧ eqF ω.S true 60 (xs[j]'(by rw [← rl.length, rV.length]; exact hj)) d = some true), fun y hy => ?_, ?_⟩
  · have hy' : y ∈ us := by simpa using hy
    obtain ⟨j, hj, e⟩ := List.getElem_of_mem hy'
    by_cases c : ∃ j, ∃ hj : j < us.length, us[j] = y ∧ eqF ω.S true 60 (xs[j]'(by rw [← rl.length, rV.length]; exact hj)) d = some true
    · refine (congrArg (fun t => EqAt X.A.in1 s y v t) (decide_eq_true c)).mpr ?_
      obtain ⟨k, hk, e2, e3⟩ := c
      obtain ⟨c2, g1, g2⟩ := at_ k hk
      rw [g1] at e3
      cases e3
      rw [← e2]
      exact g2
    · refine (congrArg (fun t => EqAt X.A.in1 s y v t) (decide_eq_false c)).mpr ?_
      obtain ⟨c2, g1, g2⟩ := at_ j hj
      cases c2 with
      | true => exact absurd ⟨j, hj, e, g1⟩ c
      | false => rw [← e]; exact g2
  · rw [List.any_toArray, Bool.eq_iff_iff, i2, List.any_eq_true]
    constructor
    · rintro ⟨u, hu1, hu2⟩
      obtain ⟨j, hj, e1, e2⟩ := of_decide_eq_true hu2
      exact List.mem_map.mpr ⟨_, List.getElem_mem _, e2⟩
    · intro hm
      obtain ⟨a, ha, e⟩ := List.mem_map.mp hm
      obtain ⟨j, hj, rfl⟩ := List.getElem_of_mem ha
      have hj' : j < us.length := by rw [← rV.length, rl.length]; exact hj
      exact ⟨us[j], List.getElem_mem _, decide_eq_true ⟨j, hj', rfl, e⟩⟩
theorem opD_in (hu : X.A.units + 64 < cLine) : OpD X fld (compareOp .In) (op2 .in_ m) := by
  intro pins s σ ω x y v u Q d e I rx ry ok rd re h
  unfold op2 inO at h
  simp only at h
  split at h
  · cases re
    split at h
    · cases rd
      rw [bl?_some] at h
      exact op_in_str pins s σ ω.H _ _ v u Q I rx ry ⟨_, _, rfl, rfl, h.same ok (.bl _)⟩
    · exact h.elim
  · cases hq : seqOf ω.S e with
    | none => rw [hq] at h; exact h.elim
    | some xs =>
      rw [hq] at h
      simp only at h
      cases hb : anyO (xs.map fun y => eqF ω.S true 60 y d) with
      | none => rw [hb] at h; exact h.elim
      | some b =>
        rw [hb, bl?_some] at h
        obtain ⟨a, vs, rfl, hs, rl⟩ := seq_of ok re hq
        cases ry
        rcases hs with hs | hs
        · obtain ⟨its, rV, pl, _⟩ := I.list hs
          obtain ⟨f, g1, g2⟩ := in_tab I ok hu hb rl rV rd rx
          refine SeqAt.in_listAt f pl.isList g1 ?_
          rw [g2]
          exact ⟨.bl b, ω.H, I, rfl, h.same ok (.bl b)⟩
        · obtain ⟨its, rV, pl, _⟩ := I.tuple hs
          obtain ⟨f, g1, g2⟩ := in_tab I ok hu hb rl rV rd rx
          refine SeqAt.in_tupleAt f pl g1 ?_
          rw [g2]
          exact ⟨.bl b, ω.H, I, rfl, h.same ok (.bl b)⟩
theorem opD_notin (hu : X.A.units + 64 < cLine) : OpD X fld (compareOp .NotIn) (op2 .notin m) := by
  intro pins s σ ω x y v u Q d e I rx ry ok rd re h
  unfold op2 inO at h
  simp only at h
  split at h
  · cases re
    split at h
    · cases rd
      rw [Option.map_some, bl?_some] at h
      exact op_notin_str pins s σ ω.H _ _ v u Q I rx ry ⟨_, _, rfl, rfl, h.same ok (.bl _)⟩
    · exact h.elim
  · cases hq : seqOf ω.S e with
    | none => rw [hq] at h; exact h.elim
    | some xs =>
      rw [hq] at h
      simp only at h
      cases hb : anyO (xs.map fun y => eqF ω.S true 60 y d) with
      | none => rw [hb] at h; exact h.elim
      | some b =>
        rw [hb, Option.map_some, bl?_some] at h
        obtain ⟨a, vs, rfl, hs, rl⟩ := seq_of ok re hq
        cases ry
        rcases hs with hs | hs
        · obtain ⟨its, rV, pl, _⟩ := I.list hs
          obtain ⟨f, g1, g2⟩ := in_tab I ok hu hb rl rV rd rx
          refine SeqAt.notIn_listAt f pl.isList g1 ?_
          rw [g2]
          exact ⟨.bl (!b), ω.H, I, rfl, h.same ok (.bl _)⟩
        · obtain ⟨its, rV, pl, _⟩ := I.tuple hs
          obtain ⟨f, g1, g2⟩ := in_tab I ok hu hb rl rV rd rx
          refine SeqAt.notIn_tupleAt f pl g1 ?_
          rw [g2]
          exact ⟨.bl (!b), ω.H, I, rfl, h.same ok (.bl _)⟩
end
end MI

set_option Elab.async false
set_option linter.all false
set_option maxRecDepth 100000
set_option maxHeartbeats 4000000
/-! MI8: truth, places, slices, built-ins, methods; rules without an error, by values. -/
namespace MI
open PySem PySem.Spec L2
open PyProof.Rows hiding St

def NoErr {α : Type} (r : R α) : Prop := ∀ x S, r ≠ .err x S
section
variable (K : PySem.W.Frag) (mg : Str → Option Value) (fld : Str → Option Str)
def rG (g : D → D → Store → R D) : R2 := fun x y H Q => ∃ ω d e, ω.H = H ∧ Ok K mg fld ω ∧ Rep K mg fld ω x d ∧ Rep K mg fld ω y e ∧ PostN K mg fld ω (g d e ω.S) Q
def rLs (g : List D → Store → R D) : List V → Hp → VK → Prop := fun xs H Q => ∃ ω ds, ω.H = H ∧ Ok K mg fld ω ∧ RepL K mg fld ω xs ds ∧ PostN K mg fld ω (g ds ω.S) Q
def rMt (g : D → List D → Store → R D) : V → List V → Hp → VK → Prop := fun x xs H Q => ∃ ω d ds, ω.H = H ∧ Ok K mg fld ω ∧ Rep K mg fld ω x d ∧ RepL K mg fld ω xs ds ∧ PostN K mg fld ω (g d ds ω.S) Q
end
section
variable {K : PySem.W.Frag} {mg : Str → Option Value} {fld : Str → Option Str} {ω : Wd} {Q : VK} {W : WX} {σ : St} {H : Hp} {r : R D}
theorem Post.n (h : Post K mg fld (Rep K mg fld) W σ ω r Q) (no : NoErr r) : PostN K mg fld ω r Q := by
  cases r with
  | ok d S => exact h
  | err x S => exact (no x S rfl).elim
  | bad => exact h
/-- two operands, then the operation -/
theorem tOp_of {Fa Fb : Env → Store → R D} {g : D → D → Store → R D} (no : ∀ d e S, NoErr (g d e S)) (h : tG K mg fld (Rep K mg fld) W (fun σ S => (Fa σ S).bind fun d S => (Fb σ S).bind fun e S => g d e S) σ H Q) :
    tOp (rG K mg fld g) (tG K mg fld (Rep K mg fld) W Fa) (tG K mg fld (Rep K mg fld) W Fb) σ H Q := by
  obtain ⟨ω, σd, e0, ok, er, p⟩ := tG_bind (rel := Rep K mg fld) (G := fun σ d S => (Fb σ S).bind fun e S => g d e S) h
  refine ⟨ω, σd, e0, ok, er, p.mono ?_⟩
  rintro x H1 ⟨ω1, σd1, d, h1, ok1, er1, rd, p1⟩
  refine ⟨ω1, σd1, h1, ok1, er1, (Post.bind (rel := Rep K mg fld) ok1 p1).mono ?_⟩
  rintro y H2 ⟨ω2, e, h2, ext, ok2, re, p2⟩
  exact ⟨ω2, d, e, h2, ok2, rd.mono ok1 ext, re, p2.n (no d e ω2.S)⟩
theorem PE.imp {X : Cx} {e : Expr} {t t' : TE} (h : PE X e t) (i : ∀ σ H Q, t' σ H Q → t σ H Q) : PE X e t' := ⟨fun pins s σ H Q I q => h.run pins s σ H Q I (i σ H Q q)⟩
theorem PT.imp {X : Cx} {e : Expr} {t t' : TT} (h : PT X e t) (i : ∀ σ H Q, t' σ H Q → t σ H Q) : PT X e t' := ⟨fun pins s σ H Q I q => h.run pins s σ H Q I (i σ H Q q)⟩
theorem PA.imp {X : Cx} {e : List Expr} {t t' : TA} (h : PA X e t) (i : ∀ σ H Q, t' σ H Q → t σ H Q) : PA X e t' := ⟨fun p pins s σ H Q I q => h.run p pins s σ H Q I (i σ H Q q)⟩
theorem PS.imp {X : Cx} {e : Stmt} {t t' : TS} (h : PS X e t) (i : ∀ D σ H, t' D σ H → t D σ H) : PS X e t' := ⟨fun pins s σ H D I q => h.run pins s σ H D I (i D σ H q)⟩
theorem PSs.imp {X : Cx} {e : List Stmt} {t t' : TS} (h : PSs X e t) (i : ∀ D σ H, t' D σ H → t D σ H) : PSs X e t' := ⟨fun pins s σ H D I q => h.run pins s σ H D I (i D σ H q)⟩
theorem opR_of {X : Cx} {f : Value → Value → Sem Value} {g : D → D → Store → R D} (h : OpD X fld f g) : OpR X f (rG X.K X.mg fld g) := by
  intro pins s σ H x y v u Q I rx ry ⟨ω, d, e, e0, ok, rd, re, p⟩
  subst e0
  exact h pins s σ ω x y v u Q d e I rx ry ok rd re p
end

/-! ### no errors -/
theorem noErr_ok {α : Type} (a : α) (S : Store) : NoErr (R.ok a S) := fun _ _ z => by cases z
theorem noErr_bad {α : Type} : NoErr (R.bad : R α) := fun _ _ z => by cases z
theorem noErr_bl (S : Store) (o : Option Bool) : NoErr (bl? S o) := by cases o; exact noErr_bad; exact noErr_ok _ _
theorem noErr_mkL (m : Bool) (xs : List D) (S : Store) : NoErr (mkL m xs S) := by cases m; exact noErr_ok _ _; exact noErr_ok _ _
theorem noErr_op2 (o : O2) (m : Bool) (d e : D) (S : Store) : NoErr (op2 o m d e S) := by
  cases o <;> simp only [op2] <;> first
    | exact noErr_bl _ _
    | (unfold addD; split <;> (try split) <;> (try split) <;> (try split) <;> first | exact noErr_ok _ _ | exact noErr_bad | exact noErr_mkL _ _ _)
    | (unfold mulD; split <;> (try split) <;> (try split) <;> (try split) <;> first | exact noErr_ok _ _ | exact noErr_bad | exact noErr_mkL _ _ _)
    | (split <;> (try split) <;> first | exact noErr_ok _ _ | exact noErr_bad)
theorem noErr_sub (d i : D) (S : Store) : NoErr (subD d i S) := by
  unfold subD
  split <;> (try split) <;> (try split) <;> (try split) <;> first | exact noErr_ok _ _ | exact noErr_bad
theorem noErr_slc (m : Bool) (d : D) (lo hi : Option Int) (S : Store) : NoErr (slcD m d lo hi S) := by
  unfold slcD
  split <;> (try split) <;> first | exact noErr_ok _ _ | exact noErr_bad | exact noErr_mkL _ _ _
theorem noErr_rev (m : Bool) (d : D) (S : Store) : NoErr (revD m d S) := by
  unfold revD
  split <;> first | exact noErr_mkL _ _ _ | exact noErr_bad
theorem noErr_bi (G : Gs) (b : BI) (m : Bool) (ds : List D) (S : Store) : NoErr (biD G b m ds S) := by
  unfold biD
  split <;> (try split) <;> (try split) <;> (try split) <;> first | exact noErr_ok _ _ | exact noErr_bad | exact noErr_mkL _ _ _ | exact noErr_bl _ _
theorem noErr_mt (b : MT) (d : D) (ds : List D) (S : Store) : NoErr (mtD b d ds S) := by
  unfold mtD
  split <;> (try split) <;> (try split) <;> (try split) <;> first | exact noErr_ok _ _ | exact noErr_bad

section
variable {X : Cx} {fld : Str → Option Str} {m : Bool}
/-! ### truth -/
theorem truth_of {K : PySem.W.Frag} {mg : Str → Option Value} {ω : Wd} {v : V} {d : D} {k : Bool} (ok : Ok K mg fld ω) (r : Rep K mg fld ω v d) (h : truD ω.S d = some k) : TruV K v ω.H k := by
  have t := r.top ok
  unfold truD at h
  cases hr : top ω.S d with
  | non => rw [hr] at h t; cases h; rw [show v = .non from t]; rfl
  | bl b => rw [hr] at h t; cases h; rw [show v = .bl _ from t]; rfl
  | int i => rw [hr] at h t; cases h; rw [show v = .int _ from t]; rfl
  | str x =>
    rw [hr] at h t
    rw [show v = .str _ from t]
    simp only at h
    split at h
    · rename_i hz
      cases h
      exact ⟨hz, rfl⟩
    · cases h
  | tup xs =>
    rw [hr] at h t
    cases h
    obtain ⟨a, vs, rfl, h1, h2⟩ := t
    refine .inr (.inl ⟨vs, h1, ?_⟩)
    cases h2 <;> rfl
  | lst xs =>
    rw [hr] at h t
    cases h
    obtain ⟨a, vs, rfl, h1, h2⟩ := t
    refine .inl ⟨vs, SqL.of h1, ?_⟩
    cases h2 <;> rfl
  | fls xs =>
    have q : seqOf ω.S d = some xs := by unfold seqOf; rw [hr]
    obtain ⟨a, vs, rfl, h1, h2⟩ := seq_of ok r q
    rw [hr] at h
    cases h
    rcases h1 with h1 | h1
    · refine .inl ⟨vs, h1, ?_⟩
      cases h2 <;> rfl
    · refine .inr (.inl ⟨vs, h1, ?_⟩)
      cases h2 <;> rfl
  | _ => rw [hr] at h; cases h

/-! ### places -/
theorem atI_rep {K : PySem.W.Frag} {mg : Str → Option Value} {ω : Wd} {vs : List V} {ds : List D} (r : RepL K mg fld ω vs ds) {i : Int} {d : D} (h : atI ds i = some d) : ∃ v, atI vs i = some v ∧ Rep K mg fld ω v d := by
  unfold atI at h ⊢
  rw [r.length]
  cases e : ixN ds.length i with
  | none => rw [e] at h; cases h
  | some j =>
    rw [e] at h
    exact r.get h
theorem ixR_sub : IxR X (rG X.K X.mg fld subD) := by
  intro value slice pins s σ H x y v u Q I rx ry ⟨ω, d, e, e0, ok, rd, re, p⟩ hs
  subst e0
  have seqs : ∀ k, e = .int k → PostN X.K X.mg fld ω (match seqOf ω.S d with
      | some xs => (match atI xs k with
        | some x => R.ok x ω.S
        | none => .bad)
      | none => .bad) Q → wpAny (model X.prog X.w) X.A (subscriptTail value slice v u) (EP X pins σ Q) X.xe s := fun k he p2 => by
    clear p
    subst he
    cases re
    cases hq : seqOf ω.S d with
    | none => rw [hq] at p2; exact p2.elim
    | some xs =>
      rw [hq] at p2
      simp only at p2
      cases ha : atI xs k with
      | none => rw [ha] at p2; exact p2.elim
      | some z =>
        rw [ha] at p2
        obtain ⟨a, vs, rfl, h1, h2⟩ := seq_of ok rd hq
        obtain ⟨w, g1, g2⟩ := atI_rep h2 ha
        refine ix_seq value slice pins s σ ω.H _ _ v u Q I rx ry ?_ hs
        rcases h1 with h1 | h1
        · exact .inl ⟨a, vs, k, w, rfl, rfl, h1, g1, p2.same ok g2⟩
        · exact .inr (.inl ⟨a, vs, k, w, rfl, rfl, h1, g1, p2.same ok g2⟩)
  unfold subD at p
  split at p
  · split at p
    · cases rd; cases re
      split at p
      · rename_i hc
        split at p
        · rename_i hz
          exact ix_seq value slice pins s σ ω.H _ _ v u Q I rx ry (.inr (.inr ⟨_, _, _, rfl, rfl, of_decide_eq_true hz, hc, p.same ok (.str _)⟩)) hs
        · exact p.elim
      · exact p.elim
    · exact p.elim
  · split at p
    · exact seqs _ rfl p
    · exact p.elim

/-! ### slices -/
theorem cut_rep {K : PySem.W.Frag} {mg : Str → Option Value} {ω : Wd} {vs : List V} {ds : List D} (r : RepL K mg fld ω vs ds) (lo hi : Option Int) : RepL K mg fld ω (cutV vs lo hi) (cutL ds lo hi) := by
  unfold cutV cutL
  rw [r.length]
  exact (r.drop _).take _
def rSl (K : PySem.W.Frag) (mg : Str → Option Value) (fld : Str → Option Str) (m : Bool) : V → Option Int → Option Int → Hp → VK → Prop := fun x lo hi H Q => ∃ ω d, ω.H = H ∧ Ok K mg fld ω ∧ Rep K mg fld ω x d ∧ PostN K mg fld ω (slcD m d lo hi ω.S) Q
theorem cutL_whole {xs : List D} {lo hi : Option Int} (h : HT.sIx xs.length 0 lo = 0 ∧ HT.sIx xs.length xs.length hi = xs.length) : cutL xs lo hi = xs := by
  unfold cutL
  rw [h.1, h.2, List.drop_zero, Nat.sub_zero, List.take_length]
theorem slR : SlR X (rSl X.K X.mg fld m) := by
  intro pins s σ H x v vl vu lo hi sl Q I rx hs pl pu ⟨ω, d, e0, ok, rd, p⟩
  subst e0
  have lists : ∀ a vs xs, x = .ref a → SqL X.K ω.H a vs → RepL X.K X.mg fld ω vs xs → PostN X.K X.mg fld ω (mkL m (cutL xs lo hi) ω.S) Q →
      ∃ T id, typeLookup (.type T) "__getitem__" = pure (some (.builtin id)) ∧ s.TypeIs v T ∧ wpAny (model X.prog X.w) X.A (getItem v (.ref sl)) (EP X pins σ Q) X.xe s := fun a vs xs e h1 h2 p =>
    sl_list pins s σ ω.H x v vl vu lo hi sl Q I rx hs pl pu ⟨a, vs, e, h1, fun q hq => p.newL ok hq (cut_rep h2 lo hi)⟩
  unfold slcD at p
  split at p
  · obtain ⟨a, vs, rfl, h1, h2⟩ := rd.tup_of
    refine sl_tupA pins s σ ω.H _ v vl vu lo hi sl Q I rx hs pl pu ⟨a, vs, rfl, h1, fun hw => ?_, fun _ q hq => p.newT ok hq (cut_rep h2 lo hi)⟩
    rw [h2.length] at hw
    rw [cutL_whole hw] at p
    exact p.same ok (.tup h1 h2)
  · cases rd
    split at p
    · rename_i hz
      exact sl_str pins s σ ω.H _ v vl vu lo hi sl Q I rx hs pl pu ⟨_, rfl, of_decide_eq_true hz, p.same ok (.str _)⟩
    · exact p.elim
  · rename_i xs
    have q : seqOf ω.S (.fls xs) = some xs := rfl
    cases rd with
    | fls h1 h2 =>
      refine lists _ _ _ rfl ?_ h2 p
      rcases h1 with ⟨o, h1⟩ | h1
      · exact .inl (.inr ⟨o, h1⟩)
      · exact .inr h1
  · split at p
    · rename_i xs hx
      obtain ⟨a, vs, e, h1, h2⟩ := lst_of ok rd hx
      exact lists a vs xs e (SqL.of h1) h2 p
    · exact p.elim
end
end MI

set_option Elab.async false
set_option linter.all false
set_option maxRecDepth 100000
set_option maxHeartbeats 4000000
/-! MI9: built-in functions and methods as rules. -/
namespace MI
open PySem PySem.Spec L2
open PyProof.Rows hiding St

section
variable {K : PySem.W.Frag} {mg : Str → Option Value} {fld : Str → Option Str} {ω : Wd} {v : V} {vs : List V} {d e : D} {ds : List D}
theorem RepL.nil_of (h : RepL K mg fld ω vs []) : vs = [] := by cases h; rfl
theorem RepL.one_of (h : RepL K mg fld ω vs [d]) : ∃ v, vs = [v] ∧ Rep K mg fld ω v d := by
  cases h with
  | cons r t => cases t; exact ⟨_, rfl, r⟩
theorem RepL.two_of (h : RepL K mg fld ω vs [d, e]) : ∃ v w, vs = [v, w] ∧ Rep K mg fld ω v d ∧ Rep K mg fld ω w e := by
  cases h with
  | cons r t => obtain ⟨w, rfl, q⟩ := t.one_of; exact ⟨_, w, rfl, r, q⟩
end

/-- a call by data -/
def CallD (X : Cx) (fld : Str → Option Str) (f : Value) (g : List D → Store → R D) : Prop :=
  ∀ (pins : List (Addr × Obj)) (s : Shared) (σ : St) (ω : Wd) (xs : List V) (us : List Value) (Q : VK) (ds : List D), Inv X pins σ ω.H s → Vals xs us → Ok X.K X.mg fld ω → RepL X.K X.mg fld ω xs ds → PostN X.K X.mg fld ω (g ds ω.S) Q →
    wpAny (model X.prog X.w) X.A (call f us) (EP X pins σ Q) X.xe s
/-- a method by data -/
def MtD (X : Cx) (fld : Str → Option Str) (id : String) (g : D → List D → Store → R D) : Prop :=
  ∀ (pins : List (Addr × Obj)) (s : Shared) (σ : St) (ω : Wd) (x : V) (xs : List V) (v : Value) (us : List Value) (Q : VK) (d : D) (ds : List D), Inv X pins σ ω.H s → RelV x v → Vals xs us → Ok X.K X.mg fld ω → Rep X.K X.mg fld ω x d → RepL X.K X.mg fld ω xs ds → PostN X.K X.mg fld ω (g d ds ω.S) Q →
    wpAny (model X.prog X.w) X.A (call (.builtin id) (v :: us)) (EP X pins σ Q) X.xe s

section
variable {X : Cx} {fld : Str → Option Str} {m : Bool} {G : Gs}
theorem callR_of {f : Value} {g : List D → Store → R D} (h : CallD X fld f g) : CallR X f (rLs X.K X.mg fld g) := by
  intro pins s σ H xs us Q I r ⟨ω, ds, e0, ok, rd, p⟩
  subst e0
  exact h pins s σ ω xs us Q ds I r ok rd p
theorem mtR_of {id : String} {g : D → List D → Store → R D} (h : MtD X fld id g) : MtR X id (rMt X.K X.mg fld g) := by
  intro pins s σ H x xs v us Q I rx r ⟨ω, d, ds, e0, ok, rd, rs, p⟩
  subst e0
  exact h pins s σ ω x xs v us Q d ds I rx r ok rd rs p

/-! ### functions -/
theorem callD_len : CallD X fld (.builtin "len") (biD G .len m) := by
  intro pins s σ ω xs us Q ds I r ok rd p
  rcases ds with _ | ⟨d, _ | ⟨_, _⟩⟩
  · exact p.elim
  · obtain ⟨x, rfl, rx⟩ := rd.one_of
    have seqs : PostN X.K X.mg fld ω (match seqOf ω.S d with
        | some xs => .ok (.int xs.length) ω.S
        | none => .bad) Q → wpAny (model X.prog X.w) X.A (call (.builtin "len") us) (EP X pins σ Q) X.xe s := fun p => by
      cases hq : seqOf ω.S d with
      | none => rw [hq] at p; exact p.elim
      | some ys =>
        rw [hq] at p
        obtain ⟨a, vs, rfl, h1, h2⟩ := seq_of ok rx hq
        refine call_len_seq pins s σ ω.H _ us Q I r ⟨a, vs, rfl, h1, ?_⟩
        rw [h2.length]
        exact p.same ok (.int _)
    cases d with
    | str z =>
      have p2 : PostN X.K X.mg fld ω (if fitL z.length then .ok (.int z.length) ω.S else .bad) Q := p
      cases rx
      by_cases hz : fitL z.length = true
      · rw [if_pos hz] at p2
        exact call_len_str pins s σ ω.H _ us Q I r ⟨z, rfl, of_decide_eq_true hz, p2.same ok (.int _)⟩
      · rw [if_neg hz] at p2; exact p2.elim
    | _ => exact seqs p
  · exact p.elim
theorem callD_int : CallD X fld (.type "int") (biD G .int m) := by
  intro pins s σ ω xs us Q ds I r ok rd p
  unfold biD at p
  split at p <;> rename_i hb <;> first | cases hb | skip
  all_goals try exact p.elim
  · obtain ⟨x, rfl, rx⟩ := rd.one_of
    cases rx
    exact call_int1 pins s σ ω.H _ us Q I r (.inl ⟨_, rfl, p.same ok (.int _)⟩)
  · obtain ⟨x, rfl, rx⟩ := rd.one_of
    cases rx
    exact call_int1 pins s σ ω.H _ us Q I r (.inr ⟨_, rfl, p.same ok (.int _)⟩)
theorem callD_str : CallD X fld (.type "str") (biD G .str m) := by
  intro pins s σ ω xs us Q ds I r ok rd p
  unfold biD at p
  split at p <;> rename_i hb <;> first | cases hb | skip
  all_goals try exact p.elim
  obtain ⟨x, rfl, rx⟩ := rd.one_of
  cases rx
  obtain ⟨u, rfl, ru⟩ := vals1 r
  cases ru
  exact P.str_of_bool ⟨.str _, ω.H, I.tok _, ⟨_, rfl⟩, p.same ok (.str _)⟩
theorem callD_max2 (hc : X.calm = true) : CallD X fld (.builtin "max") (biD G .max2 m) := by
  intro pins s σ ω xs us Q ds I r ok rd p
  unfold biD at p
  split at p <;> rename_i hb <;> first | cases hb | skip
  all_goals try exact p.elim
  obtain ⟨x, y, rfl, rx, ry⟩ := rd.two_of
  cases rx; cases ry
  exact call_max2 hc pins s σ ω.H _ us Q I r ⟨_, _, rfl, p.same ok (.int _)⟩
theorem callD_min2 (hc : X.calm = true) : CallD X fld (.builtin "min") (biD G .min2 m) := by
  intro pins s σ ω xs us Q ds I r ok rd p
  unfold biD at p
  split at p <;> rename_i hb <;> first | cases hb | skip
  all_goals try exact p.elim
  obtain ⟨x, y, rfl, rx, ry⟩ := rd.two_of
  cases rx; cases ry
  exact call_min2 hc pins s σ ω.H _ us Q I r ⟨_, _, rfl, p.same ok (.int _)⟩
theorem callD_list : CallD X fld (.type "list") (biD G .list m) := by
  intro pins s σ ω xs us Q ds I r ok rd p
  rcases ds with _ | ⟨d, _ | ⟨_, _⟩⟩
  · exact p.elim
  · obtain ⟨x, rfl, rx⟩ := rd.one_of
    have p2 : PostN X.K X.mg fld ω (match seqOf ω.S d with
        | some xs => mkL m xs ω.S
        | none => .bad) Q := p
    cases hq : seqOf ω.S d with
    | none => rw [hq] at p2; exact p2.elim
    | some ys =>
      rw [hq] at p2
      obtain ⟨a, vs, rfl, h1, h2⟩ := seq_of ok rx hq
      exact call_list_of pins s σ ω.H _ us Q I r ⟨a, vs, rfl, h1, fun l hl => p2.newL ok hl h2⟩
  · exact p.elim
theorem callD_tuple : CallD X fld (.type "tuple") (biD G .tuple m) := by
  intro pins s σ ω xs us Q ds I r ok rd p
  rcases ds with _ | ⟨d, _ | ⟨_, _⟩⟩
  · exact p.elim
  · obtain ⟨x, rfl, rx⟩ := rd.one_of
    have p2 : PostN X.K X.mg fld ω (match seqOf ω.S d with
        | some xs => .ok (.tup xs) ω.S
        | none => .bad) Q := p
    cases hq : seqOf ω.S d with
    | none => rw [hq] at p2; exact p2.elim
    | some ys =>
      rw [hq] at p2
      obtain ⟨a, vs, rfl, h1, h2⟩ := seq_of ok rx hq
      refine call_tuple_of pins s σ ω.H _ us Q I r ⟨a, vs, rfl, ?_⟩
      rcases h1 with h1 | h1
      · exact .inl ⟨h1, fun l hl => p2.newT ok hl h2⟩
      · exact .inr ⟨h1, p2.same ok (.tup h1 h2)⟩
  · exact p.elim
theorem intsL_rep {ω : Wd} : ∀ {ds : List D} {is : List Int} {vs : List V}, RepL X.K X.mg fld ω vs ds → intsL ds = some is → vs = is.map V.int
  | [], is, vs, r, h => by cases r; cases h; rfl
  | d :: ds, is, vs, r, h => by
    cases r with
    | cons r t =>
      cases r with
      | int i =>
        unfold intsL at h
        split at h
        · rename_i js hj
          cases h
          rw [intsL_rep t hj]; rfl
        · cases h
      | _ => cases h
theorem callD_sum (hc : X.calm = true) : CallD X fld (.builtin "sum") (biD G .sum m) := by
  intro pins s σ ω xs us Q ds I r ok rd p
  rcases ds with _ | ⟨d, _ | ⟨_, _⟩⟩
  · exact p.elim
  · obtain ⟨x, rfl, rx⟩ := rd.one_of
    have p2 : PostN X.K X.mg fld ω (match lstOf ω.S d with
        | some xs => (match intsL xs with
          | some is => .ok (.int is.sum) ω.S
          | none => .bad)
        | none => .bad) Q := p
    cases hq : lstOf ω.S d with
    | none => rw [hq] at p2; exact p2.elim
    | some ys =>
      rw [hq] at p2
      simp only at p2
      cases hi : intsL ys with
      | none => rw [hi] at p2; exact p2.elim
      | some is =>
        rw [hi] at p2
        obtain ⟨a, vs, rfl, h1, h2⟩ := lst_of ok rx hq
        have e := intsL_rep h2 hi
        subst e
        exact cr_sum hc pins s σ ω.H _ us Q I r ⟨a, is, rfl, SqL.of h1, p2.same ok (.int _)⟩
  · exact p.elim

/-! ### methods -/
theorem mtD_isascii : MtD X fld "str.isascii" (mtD .isascii) := by
  intro pins s σ ω x xs v us Q d ds I rx r ok rd rs p
  unfold mtD at p
  split at p <;> rename_i hb <;> first | cases hb | skip
  all_goals try exact p.elim
  cases rd
  exact mt_isascii pins s σ ω.H _ _ v us Q I rx r ⟨_, rfl, rs.nil_of, trivial, p.same ok (.bl _)⟩
theorem mtD_isalpha : MtD X fld "str.isalpha" (mtD .isalpha) := by
  intro pins s σ ω x xs v us Q d ds I rx r ok rd rs p
  unfold mtD at p
  split at p <;> rename_i hb <;> first | cases hb | skip
  all_goals try exact p.elim
  cases rd
  exact mt_isalpha pins s σ ω.H _ _ v us Q I rx r ⟨_, rfl, rs.nil_of, trivial, p.same ok (.bl _)⟩
theorem mtD_islower : MtD X fld "str.islower" (mtD .islower) := by
  intro pins s σ ω x xs v us Q d ds I rx r ok rd rs p
  unfold mtD at p
  split at p <;> rename_i hb <;> first | cases hb | skip
  all_goals try exact p.elim
  cases rd
  exact mt_islower pins s σ ω.H _ _ v us Q I rx r ⟨_, rfl, rs.nil_of, trivial, p.same ok (.bl _)⟩
/-- a cell that is a list -/
theorem ref_of {K : PySem.W.Frag} {mg : Str → Option Value} {ω : Wd} {x : V} {n : Nat} {xs : List D} (ok : Ok K mg fld ω) (r : Rep K mg fld ω x (.ref n)) (h : ω.S[n]? = some (.lst xs)) :
    x = .ref (ω.ι n) ∧ n < ω.S.length ∧ ∃ vs, ω.H (ω.ι n) = some (.lst vs) ∧ RepL K mg fld ω vs xs := by
  cases r with
  | ref hn =>
    obtain ⟨vs, h1, h2⟩ := ok.cell n _ h
    exact ⟨rfl, hn, vs, h1, h2⟩
/-- a list in the store, written -/
theorem put_ok {K : PySem.W.Frag} {mg : Str → Option Value} {ω : Wd} {n : Nat} {xs : List D} {vs : List V} (ok : Ok K mg fld ω) (hn : n < ω.S.length) (r : RepL K mg fld ω vs xs) :
    Ext ω (ω.put n (.lst xs) (.lst vs)) ∧ Ok K mg fld (ω.put n (.lst xs) (.lst vs)) := by
  have e := Ext.put ω (c := .lst xs) (o := .lst vs) hn
  exact ⟨e, ok.put hn ⟨vs, upd_same, r.mono ok e⟩⟩
theorem mtD_append : MtD X fld "list.append" (mtD .append) := by
  intro pins s σ ω x xs v us Q d ds I rx r ok rd rs p
  unfold mtD at p
  split at p <;> rename_i hb <;> first | cases hb | skip
  all_goals try exact p.elim
  rename_i n y
  cases hc : ω.S[n]? with
  | none => rw [hc] at p; exact p.elim
  | some c =>
    rw [hc] at p
    cases c with
    | dic ks zs => exact p.elim
    | lst ys =>
      simp only at p
      by_cases hz : ys.length < sizeLine
      · rw [if_pos (decide_eq_true hz)] at p
        obtain ⟨rfl, hn, ws, h1, h2⟩ := ref_of ok rd hc
        obtain ⟨y', rfl, ry⟩ := rs.one_of
        obtain ⟨e, ok'⟩ := put_ok ok hn (h2.append (.cons ry .nil))
        exact mt_append pins s σ ω.H _ _ v us Q I rx r ⟨_, ws, y', rfl, rfl, h1, by rw [h2.length]; exact hz, p _ rfl e ok' _ .non⟩
      · rw [if_neg (fun z => hz (of_decide_eq_true z))] at p; exact p.elim
theorem mtD_pop : MtD X fld "list.pop" (mtD .pop) := by
  intro pins s σ ω x xs v us Q d ds I rx r ok rd rs p
  unfold mtD at p
  split at p <;> rename_i hb <;> first | cases hb | skip
  all_goals try exact p.elim
  rename_i n
  cases hc : ω.S[n]? with
  | none => rw [hc] at p; exact p.elim
  | some c =>
    rw [hc] at p
    cases c with
    | dic ks zs => exact p.elim
    | lst ys =>
      simp only at p
      cases hl : ys.getLast? with
      | none => rw [hl] at p; exact p.elim
      | some y =>
        rw [hl] at p
        obtain ⟨rfl, hn, ws, h1, h2⟩ := ref_of ok rd hc
        have hg : ys[ws.length - 1]? = some y := by rw [h2.length, ← List.getLast?_eq_getElem?]; exact hl
        obtain ⟨w, g1, g2⟩ := h2.get hg
        obtain ⟨e, ok'⟩ := put_ok ok hn h2.dropLast
        exact mt_pop pins s σ ω.H _ _ v us Q I rx r ⟨_, ws, w, rfl, rs.nil_of, h1, g1, p _ rfl e ok' _ (g2.mono ok e)⟩

/-! ### a list written at a place -/
theorem set_of {pins : List (Addr × Obj)} {s : Shared} {σ : St} {ω : Wd} {o i v : V} {ov iv u : Value} {Q : Hp → Prop} {d j e : D} (I : Inv X pins σ ω.H s) (ro : RelV o ov) (ri : RelV i iv) (rv : RelV v u) (ok : Ok X.K X.mg fld ω)
    (rd : Rep X.K X.mg fld ω o d) (rj : Rep X.K X.mg fld ω i j) (re : Rep X.K X.mg fld ω v e) {S' : Store} (h : setSubD d j e ω.S = .ok () S') (q : ∀ ω', ω'.S = S' → Ext ω ω' → Ok X.K X.mg fld ω' → Q ω'.H) :
    wpAny (model X.prog X.w) X.A (setItem ov iv u) (fun _ s' => ∃ H', Inv X pins σ H' s' ∧ Q H') X.xe s := by
  unfold setSubD at h
  split at h
  · rename_i n k
    cases hc : ω.S[n]? with
    | none => rw [hc] at h; cases h
    | some c =>
      rw [hc] at h
      cases c with
      | dic ks zs => cases h
      | lst ys =>
        simp only at h
        cases hj : ixN ys.length k with
        | none => rw [hj] at h; cases h
        | some l =>
          rw [hj] at h
          cases h
          obtain ⟨rfl, hn, ws, h1, h2⟩ := ref_of ok rd hc
          cases rj
          obtain ⟨e, ok'⟩ := put_ok ok hn (h2.set l re)
          exact set_list pins s σ ω.H _ _ v ov iv u Q I ro ri rv ⟨_, ws, k, l, rfl, rfl, h1, by rw [h2.length]; exact hj, q _ rfl e ok'⟩
  · cases h
end

/-! ### isinstance -/
def bTy (c : Str) : String :=
  if c = "NoneType" then "NoneType" else if c = "bool" then "bool" else if c = "int" then "int" else if c = "str" then "str" else if c = "tuple" then "tuple" else if c = "list" then "list" else if c = "dict" then "dict"
  else if c = "ValueError" then "ValueError" else if c = "TypeError" then "TypeError" else if c = "KeyError" then "KeyError" else if c = "IndexError" then "IndexError" else if c = "Exception" then "Exception" else "object"
def clsVal (mg : Str → Option Value) (c : Str) : Value := (mg c).getD (.type (bTy c))
/-- what the answers of G stand for -/
structure GsOk (K : PySem.W.Frag) (mg : Str → Option Value) (G : Gs) : Prop where
  sub : ∀ c u b, G.sub c u = some b → PySem.W.kitOne K (clsVal mg c) (clsVal mg u) = some b
  exc : ∀ c u b C, G.sub c u = some b → mg c = some (.ref C) → ExcC K C
  base : ∀ t ∈ (["NoneType", "bool", "int", "str", "tuple", "list", "dict"] : List Str), mg t = none
section
variable {X : Cx} {fld : Str → Option Str} {G : Gs}
theorem excHO_at {pins : List (Addr × Obj)} {σ : St} {H : Hp} {s : Shared} {C a : Addr} {dx : Option Addr} (I : Inv X pins σ H s) (h : H a = some (excHO C dx a)) : ∃ (oe : Obj) (vs : Array Value), s.heap.get? a = some oe ∧ Zc (.ref C) dx oe ∧ oe.data = .fields vs :=
  (show ObjOk X.prog X.w H s.heap a (excHO C dx a) from I.hok a _ h).1
theorem kit_exc {u : Value} {pins : List (Addr × Obj)} {σ : St} {H : Hp} {s : Shared} {C a : Addr} {dx : Option Addr} (hu : u = .ref a) (E : ExcC X.K C) (I : Inv X pins σ H s) (h : H a = some (excHO C dx a))
    (hd : ∀ d, dx = some d → ∃ fs, H d = some (.xd fs)) : ∃ P : Heap → Prop, PySem.W.KitX X.K u (.ref C) P ∧ P s.heap ∧ u ≠ .builtin "__main__.__loader__#opaque" := by
  subst hu
  obtain ⟨oe, vs, h1, ⟨h2, h3⟩, h4⟩ := excHO_at I h
  have od : ∃ od : Option Obj, PySem.W.InstAt s.heap a oe C od := by
    have hn : PySem.W.notCls oe = true := by unfold PySem.W.notCls; rw [h4]
    cases dx with
    | none => exact ⟨none, h1, h2, hn, by rw [h3]; trivial⟩
    | some d =>
      obtain ⟨fs, q⟩ := hd d rfl
      obtain ⟨_, ⟨_, _, _, e, _⟩, _⟩ := (show ObjOk X.prog X.w H s.heap d (.xd fs) from I.hok d _ q)
      exact ⟨some _, h1, h2, hn, by rw [h3]; exact e⟩
  obtain ⟨od, J⟩ := od
  have hcl : (PySem.W.clsIn X.K C).isSome = true := by
    obtain ⟨cd, hc, _⟩ := PySem.W.any_some E.hd
    rw [hc]; rfl
  exact ⟨_, PySem.W.kitx_exc (ox := oe) (od := od) hcl E.hg E.hk E.hs E.ha E.hn E.ht E.hm, J, fun z => nomatch z⟩
/-- what stands at the top is itself, but for a handle -/
theorem top_self {S : Store} {d e : D} (h : top S d = e) (n1 : ∀ xs, e ≠ .lst xs) (n2 : ∀ ks vs, e ≠ .dic ks vs) : d = e := by
  cases d with
  | ref n =>
    unfold top at h
    simp only at h
    split at h
    · exact absurd h.symm (n1 _)
    · exact absurd h.symm (n2 _ _)
    · exact h
  | _ => exact h
/-- the type of a value by its data -/
theorem kit_d {u : Value} {x : V} {d : D} {n u2 : Str} {b : Bool} {pins : List (Addr × Obj)} {σ : St} {ω : Wd} {s : Shared} (GO : GsOk X.K X.mg G) (I : Inv X pins σ ω.H s) (ok : Ok X.K X.mg fld ω) (ru : RelV x u) (r : Rep X.K X.mg fld ω x d)
    (h : tyName ω.S d = some n) (hb : G.sub n u2 = some b) : ∃ P : Heap → Prop, PySem.W.KitX X.K u (clsVal X.mg n) P ∧ P s.heap ∧ u ≠ .builtin "__main__.__loader__#opaque" := by
  have base : ∀ t : Value, TyX X.K ω.H x t → clsVal X.mg n = t → ∃ P : Heap → Prop, PySem.W.KitX X.K u (clsVal X.mg n) P ∧ P s.heap ∧ u ≠ .builtin "__main__.__loader__#opaque" := fun t ty e => by
    rw [e]; exact kit_of I ru ty
  have nm : ∀ t : Str, t ∈ (["NoneType", "bool", "int", "str", "tuple", "list", "dict"] : List Str) → clsVal X.mg t = .type (bTy t) := fun t ht => by
    unfold clsVal; rw [GO.base t ht]; rfl
  have tp := r.top ok
  unfold tyName at h
  cases ht : top ω.S d with
  | non => rw [ht] at h tp; cases h; rw [show x = .non from tp] at base; exact base _ (.base .non) (by rw [nm _ (by simp)]; rfl)
  | bl b => rw [ht] at h tp; cases h; rw [show x = .bl b from tp] at base; exact base _ (.base (.bl b)) (by rw [nm _ (by simp)]; rfl)
  | int i => rw [ht] at h tp; cases h; rw [show x = .int i from tp] at base; exact base _ (.base (.int i)) (by rw [nm _ (by simp)]; rfl)
  | str z => rw [ht] at h tp; cases h; rw [show x = .str z from tp] at base; exact base _ (.base (.str z)) (by rw [nm _ (by simp)]; rfl)
  | tup xs =>
    rw [ht] at h tp
    cases h
    obtain ⟨a, vs, rfl, h1, h2⟩ := tp
    refine base (.type "tuple") ?_ (by rw [nm _ (by simp)]; rfl)
    rcases h1 with (h1 | ⟨o, h1⟩) | ⟨o, _, _, h1, h3, _⟩
    · exact .base (.tup h1)
    · exact .fTuple h1
    · exact .kTuple h1 h3
  | lst xs =>
    rw [ht] at h tp
    cases h
    obtain ⟨a, vs, rfl, h1, h2⟩ := tp
    exact base (.type "list") (.base (.lst h1)) (by rw [nm _ (by simp)]; rfl)
  | fls xs =>
    rw [ht] at h tp
    cases h
    have e := top_self ht (fun _ z => nomatch z) (fun _ _ z => nomatch z)
    subst e
    cases r with
    | fls h1 r =>
      refine base (.type "list") ?_ (by rw [nm _ (by simp)]; rfl)
      rcases h1 with ⟨o, h1⟩ | ⟨o, _, _, h1, h3, _⟩
      · exact .base (.frz h1)
      · exact .kList h1 h3
  | dic ks xs =>
    rw [ht] at h tp
    cases h
    obtain ⟨a, vs, rfl, h1, h2⟩ := tp
    exact base (.type "dict") (.base (.dK h1)) (by rw [nm _ (by simp)]; rfl)
  | exc c w =>
    have e := top_self ht (fun _ z => nomatch z) (fun _ _ z => nomatch z)
    subst e
    rw [ht] at h
    cases h
    cases r with
    | exc h1 h2 h3 h4 _ =>
      have q := kit_exc (show u = Value.ref _ from ru) (GO.exc _ _ _ _ hb h1) I h3 (fun d e => by cases e; exact ⟨_, h4⟩)
      rw [show clsVal X.mg n = .ref _ from by unfold clsVal; rw [h1]; rfl]
      exact q
  | exc0 c =>
    have e := top_self ht (fun _ z => nomatch z) (fun _ _ z => nomatch z)
    subst e
    rw [ht] at h
    cases h
    cases r with
    | exc0 h1 h3 =>
      have q := kit_exc (show u = Value.ref _ from ru) (GO.exc _ _ _ _ hb h1) I h3 (fun d e => nomatch e)
      rw [show clsVal X.mg n = .ref _ from by unfold clsVal; rw [h1]; rfl]
      exact q
  | ref k => rw [ht] at h; cases h
  | fn f => rw [ht] at h; cases h
/-- isinstance(x, T) -/
theorem call_isD {pins : List (Addr × Obj)} {s : Shared} {σ : St} {ω : Wd} {x : V} {d : D} {u cv : Value} {c : Str} {m : Bool} {Q : VK} (GO : GsOk X.K X.mg G) (I : Inv X pins σ ω.H s) (ru : RelV x u) (ok : Ok X.K X.mg fld ω) (r : Rep X.K X.mg fld ω x d) (hc : cv = clsVal X.mg c)
    (p : PostN X.K X.mg fld ω (biD G (.isTy [c]) m [d] ω.S) Q) : wpAny (model X.prog X.w) X.A (call (.builtin "isinstance") [u, cv]) (EP X pins σ Q) X.xe s := by
  have p2 : PostN X.K X.mg fld ω (bl? ω.S (isTyO G ω.S d [c])) Q := p
  unfold isTyO at p2
  cases hn : tyName ω.S d with
  | none => rw [hn] at p2; exact p2.elim
  | some n =>
    rw [hn] at p2
    simp only [List.map_cons, List.map_nil, anyO] at p2
    cases hb : G.sub n c with
    | none => rw [hb] at p2; exact p2.elim
    | some b =>
      rw [hb] at p2
      simp only [Bool.or_false, bl?_some] at p2
      obtain ⟨P, Z, q, hx⟩ := kit_d GO I ok ru r hn hb
      subst hc
      exact PySem.W.kia_one Z I.kIn q (GO.sub _ _ _ hb) hx fun tk => ⟨.bl b, ω.H, I.tok tk, rfl, p2.same ok (.bl _)⟩
end
end MI

set_option Elab.async false
set_option linter.all false
set_option maxRecDepth 100000
set_option maxHeartbeats 4000000
/-! MI10: expressions. -/
namespace MI
open PySem PySem.Spec L2
open PyProof.Rows hiding St

abbrev FE := Env → Store → R D
abbrev FT := Env → Store → R Bool
abbrev FA := Env → Store → R (List D)

def DE (X : Cx) (fld : Str → Option Str) (W : WX) (e : Expr) (F : FE) : Prop := PE X e (tG X.K X.mg fld (Rep X.K X.mg fld) W F)
def DT (X : Cx) (fld : Str → Option Str) (W : WX) (e : Expr) (F : FT) : Prop := PT X e (tG X.K X.mg fld relB W F)
def DA (X : Cx) (fld : Str → Option Str) (W : WX) (es : List Expr) (F : FA) : Prop := PA X es (tG X.K X.mg fld (RepL X.K X.mg fld) W F)
/-- an expression that is no starred one and no call of super() -/
structure Plain (e : Expr) : Prop where
  star : ∀ (es : List Expr) (env : PySem.Env), starEach (e :: es) env = (false, eval e env) :: starEach es env
  base : ∀ (a : Str) (env : PySem.Env), attributeBase e a env (eval e env) = eval e env

section
variable {X : Cx} {fld : Str → Option Str} {W : WX} {e a b c : Expr} {es : List Expr} {pos : Pos} {F Fa Fb : FE} {m : Bool}

/-! ### pieces -/
def varD (i : Nat) : FE := fun σ S => match σ[i]? with
  | some (some d) => .ok d S
  | _ => .bad
theorem de_var {i : Nat} (h : PE X e (tVar i)) : DE X fld W e (varD i) := PE.imp h fun σ H Q ⟨ω, σd, e0, ok, er, p⟩ => by
  unfold varD at p
  split at p
  · rename_i d hd
    obtain ⟨v, h1, h2⟩ := er.2 i d hd
    subst e0
    exact ⟨v, h1, p ω rfl (.refl ω) ok v h2⟩
  · exact p.elim
theorem de_c {v : V} {d : D} (h : PE X e (tC v)) (hr : ∀ ω, Ok X.K X.mg fld ω → Rep X.K X.mg fld ω v d) : DE X fld W e (fun _ S => .ok d S) := PE.imp h fun σ H Q ⟨ω, σd, e0, ok, er, p⟩ => by
  subst e0
  exact p ω rfl (.refl ω) ok v (hr ω ok)
theorem da_nil : DA X fld W [] (fun _ S => .ok [] S) := PA.imp pa_nil fun σ H Q ⟨ω, σd, e0, ok, er, p⟩ => by
  subst e0
  exact p ω rfl (.refl ω) ok [] .nil
theorem da_cons {Fs : FA} (pl : Plain e) (ha : DE X fld W e F) (hs : DA X fld W es Fs) : DA X fld W (e :: es) (fun σ S => (F σ S).bind fun d S => (Fs σ S).bind fun ds S => .ok (d :: ds) S) :=
  PA.imp (pa_cons ha hs (pl.star es X.env)) fun σ H Q h => by
    obtain ⟨ω, σd, e0, ok, er, p⟩ := tG_bind (rel := Rep X.K X.mg fld) (G := fun σ d S => (Fs σ S).bind fun ds S => .ok (d :: ds) S) h
    refine ⟨ω, σd, e0, ok, er, p.mono ?_⟩
    rintro x H1 ⟨ω1, σd1, d, h1, ok1, er1, rd, p1⟩
    refine ⟨ω1, σd1, h1, ok1, er1, (Post.bind (rel := RepL X.K X.mg fld) ok1 p1).mono ?_⟩
    rintro y H2 ⟨ω2, ds, h2, ext, ok2, re, p2⟩
    subst h2
    exact p2 ω2 rfl (.refl ω2) ok2 _ (.cons (rd.mono ok1 ext) re)
/-- a tuple, a list of written items -/
theorem de_tup {Fs : FA} {k : Nat} (h : DA X fld W es Fs) : DE X fld W (.Tuple es k pos) (fun σ S => (Fs σ S).bind fun ds S => if fitL ds.length then .ok (.tup ds) S else .bad) :=
  PE.imp (pe_tup h) fun σ H Q h => by
    obtain ⟨ω, σd, e0, ok, er, p⟩ := tG_bind (rel := RepL X.K X.mg fld) (G := fun σ ds S => if fitL ds.length then R.ok (D.tup ds) S else .bad) h
    refine ⟨ω, σd, e0, ok, er, p.mono ?_⟩
    rintro xs H1 ⟨ω1, σd1, ds, h1, ok1, er1, rd, p1⟩
    subst h1
    by_cases hz : fitL ds.length = true
    · rw [if_pos hz] at p1
      have hz' : ds.length ≤ sizeLine := of_decide_eq_true hz
      refine ⟨by rw [rd.length]; exact hz', fun q hq => ?_⟩
      exact (show PostN X.K X.mg fld ω1 (.ok (.tup ds) ω1.S) Q from p1).newT ok1 hq rd
    · rw [if_neg hz] at p1; exact p1.elim
theorem de_lst {Fs : FA} (h : DA X fld W es Fs) : DE X fld W (.List es pos) (fun σ S => (Fs σ S).bind fun ds S => if fitL ds.length then mkL m ds S else .bad) :=
  PE.imp (pe_lst h) fun σ H Q h => by
    obtain ⟨ω, σd, e0, ok, er, p⟩ := tG_bind (rel := RepL X.K X.mg fld) (G := fun σ ds S => if fitL ds.length then mkL m ds S else .bad) h
    refine ⟨ω, σd, e0, ok, er, p.mono ?_⟩
    rintro xs H1 ⟨ω1, σd1, ds, h1, ok1, er1, rd, p1⟩
    subst h1
    by_cases hz : fitL ds.length = true
    · rw [if_pos hz] at p1
      have hz' : ds.length ≤ sizeLine := of_decide_eq_true hz
      refine ⟨by rw [rd.length]; exact hz', fun q hq => ?_⟩
      exact (Post.n p1 (noErr_mkL _ _ _)).newL ok1 hq rd
    · rw [if_neg hz] at p1; exact p1.elim

/-! ### operators -/
def binD (g : D → D → Store → R D) (Fa Fb : FE) : FE := fun σ S => (Fa σ S).bind fun d S => (Fb σ S).bind fun e S => g d e S
theorem de_bin {op : Operator} {g : D → D → Store → R D} (no : ∀ d e S, NoErr (g d e S)) (ho : OpD X fld (binaryOp op) g) (ha : DE X fld W a Fa) (hb : DE X fld W b Fb) : DE X fld W (.BinOp a op b pos) (binD g Fa Fb) :=
  PE.imp (pe_op (opR_of ho) ha hb) fun σ H Q h => tOp_of no h
theorem de_cmp {op : CmpOp} {g : D → D → Store → R D} (no : ∀ d e S, NoErr (g d e S)) (ho : OpD X fld (compareOp op) g) (ha : DE X fld W a Fa) (hb : DE X fld W b Fb) (hm : behindInMarks op b = false) : DE X fld W (.Compare a [op] [b] pos) (binD g Fa Fb) :=
  PE.imp (pe_cmpR (opR_of ho) ha hb hm) fun σ H Q h => tOp_of no h
def truF (r : R D) : R Bool := r.bind fun d S => match truD S d with
  | some b => .ok b S
  | none => .bad
/-- a value as a test -/
theorem dt_truth (ha : DE X fld W a Fa) (he : ∀ whole, isTrue a X.env whole = (do let v ← whole; standAt a.pos; holding [v] (truthy v))) : DT X fld W a (fun σ S => truF (Fa σ S)) :=
  PT.imp (pt_truth ha he) fun σ H Q h => by
    obtain ⟨ω, σd, e0, ok, er, p⟩ := tG_bind (rel := Rep X.K X.mg fld) (G := fun σ d S => match truD S d with
      | some b => R.ok b S
      | none => .bad) h
    refine ⟨ω, σd, e0, ok, er, p.mono ?_⟩
    rintro x H1 ⟨ω1, σd1, d, h1, ok1, er1, rd, p1⟩
    subst h1
    cases ht : truD ω1.S d with
    | none => simp only [ht] at p1; exact p1.elim
    | some k =>
      simp only [ht] at p1
      exact ⟨k, truth_of ok1 rd ht, p1 ω1 rfl (.refl ω1) ok1 k rfl⟩
theorem dt_cmp {op : CmpOp} {g : D → D → Store → R D} (no : ∀ d e S, NoErr (g d e S)) (ho : OpD X fld (compareOp op) g) (ha : DE X fld W a Fa) (hb : DE X fld W b Fb) (hm : behindInMarks op b = false) :
    DT X fld W (.Compare a [op] [b] pos) (fun σ S => (binD g Fa Fb σ S).bind fun d S => match d with
      | .bl b => .ok b S
      | _ => .bad) :=
  PT.imp (pt_cmpR (opR_of ho) ha hb hm) fun σ H Q h => by
    obtain ⟨ω, σd, e0, ok, er, p⟩ := tG_bind (F := binD g Fa Fb) (rel := Rep X.K X.mg fld) (G := fun σ d S => match d with
      | .bl b => R.ok b S
      | _ => .bad) h
    refine tOp_of no ⟨ω, σd, e0, ok, er, p.mono ?_⟩
    rintro x H1 ⟨ω1, σd1, d, h1, ok1, er1, rd, p1⟩
    subst h1
    split at p1
    · cases rd
      exact ⟨_, rfl, p1 ω1 rfl (.refl ω1) ok1 _ rfl⟩
    · exact p1.elim

/-! ### and, or, not, .. if .. else .. -/
def notT (r : R Bool) : R Bool := r.bind fun b S => .ok (!b) S
def andT (r : R Bool) (f : Store → R Bool) : R Bool := r.bind fun b S => if b = true then f S else .ok false S
def orT (r : R Bool) (f : Store → R Bool) : R Bool := r.bind fun b S => if b = true then .ok true S else f S
theorem dt_not {F : FT} (h : DT X fld W a F) : DT X fld W (.UnaryOp .Not a pos) (fun σ S => notT (F σ S)) :=
  PT.imp (pt_not h) fun σ H Q h => by
    obtain ⟨ω, σd, e0, ok, er, p⟩ := tG_bind (rel := relB) (G := fun σ b S => R.ok (!b) S) h
    refine ⟨ω, σd, e0, ok, er, p.mono ?_⟩
    rintro x H1 ⟨ω1, σd1, d, h1, ok1, er1, rd, p1⟩
    subst h1
    cases rd
    exact p1 ω1 rfl (.refl ω1) ok1 _ rfl
def DW (X : Cx) (fld : Str → Option Str) (W : WX) (e : Expr) (F : FT) : Prop := PW X e (tG X.K X.mg fld relB W F)
theorem PW.imp {X : Cx} {e : Expr} {t t' : TT} (h : PW X e t) (i : ∀ σ H Q, t' σ H Q → t σ H Q) : PW X e t' := ⟨fun w pins s σ H Q I q => h.run w pins s σ H Q I (i σ H Q q)⟩
theorem dw_pt {F : FT} (h : DW X fld W e F) : DT X fld W e F := h.pt
theorem dw_and1 {F : FT} (h : DT X fld W a F) : DW X fld W (.BoolOp .And [a] pos) F := pw_and1 h
theorem dw_or1 {F : FT} (h : DT X fld W a F) : DW X fld W (.BoolOp .Or [a] pos) F := pw_or1 h
theorem dw_and {rest : List Expr} {F G : FT} (ha : DT X fld W a F) (hb : DW X fld W (.BoolOp .And (b :: rest) pos) G) : DW X fld W (.BoolOp .And (a :: b :: rest) pos) (fun σ S => andT (F σ S) fun S => G σ S) :=
  PW.imp (pw_and ha hb) fun σ H Q h => by
    obtain ⟨ω, σd, e0, ok, er, p⟩ := tG_bind (rel := relB) (G := fun σ b S => if b = true then G σ S else R.ok false S) h
    refine ⟨ω, σd, e0, ok, er, p.mono ?_⟩
    rintro x H1 ⟨ω1, σd1, d, h1, ok1, er1, rd, p1⟩
    cases rd
    cases x with
    | true => exact ⟨ω1, σd1, h1, ok1, er1, p1⟩
    | false =>
      subst h1
      exact p1 ω1 rfl (.refl ω1) ok1 _ rfl
theorem dw_or {rest : List Expr} {F G : FT} (ha : DT X fld W a F) (hb : DW X fld W (.BoolOp .Or (b :: rest) pos) G) : DW X fld W (.BoolOp .Or (a :: b :: rest) pos) (fun σ S => orT (F σ S) fun S => G σ S) :=
  PW.imp (pw_or ha hb) fun σ H Q h => by
    obtain ⟨ω, σd, e0, ok, er, p⟩ := tG_bind (rel := relB) (G := fun σ b S => if b = true then R.ok true S else G σ S) h
    refine ⟨ω, σd, e0, ok, er, p.mono ?_⟩
    rintro x H1 ⟨ω1, σd1, d, h1, ok1, er1, rd, p1⟩
    cases rd
    cases x with
    | false => exact ⟨ω1, σd1, h1, ok1, er1, p1⟩
    | true =>
      subst h1
      exact p1 ω1 rfl (.refl ω1) ok1 _ rfl
theorem de_one {op : BoolOp} (h : DE X fld W a F) : DE X fld W (.BoolOp op [a] pos) F := pe_one h
/-- as values: the left one is a bool -/
def andE (r : R D) (f : Store → R D) : R D := r.bind fun d S => match d with
  | .bl b => if b = true then f S else .ok (.bl false) S
  | _ => .bad
def orE (r : R D) (f : Store → R D) : R D := r.bind fun d S => match d with
  | .bl b => if b = true then .ok (.bl true) S else f S
  | _ => .bad
def notE (r : R D) : R D := r.bind fun d S => match d with
  | .bl b => .ok (.bl (!b)) S
  | _ => .bad
theorem de_and {rest : List Expr} (ha : DE X fld W a Fa) (hb : DE X fld W (.BoolOp .And (b :: rest) pos) Fb) : DE X fld W (.BoolOp .And (a :: b :: rest) pos) (fun σ S => andE (Fa σ S) fun S => Fb σ S) :=
  PE.imp (pe_and ha hb) fun σ H Q h => by
    obtain ⟨ω, σd, e0, ok, er, p⟩ := tG_bind (rel := Rep X.K X.mg fld) (G := fun σ d S => match d with
      | .bl b => if b = true then Fb σ S else R.ok (.bl false) S
      | _ => .bad) h
    refine ⟨ω, σd, e0, ok, er, p.mono ?_⟩
    rintro x H1 ⟨ω1, σd1, d, h1, ok1, er1, rd, p1⟩
    split at p1
    · rename_i k
      cases rd
      refine ⟨k, rfl, ?_⟩
      cases k with
      | true => exact ⟨ω1, σd1, h1, ok1, er1, p1⟩
      | false =>
        subst h1
        exact p1 ω1 rfl (.refl ω1) ok1 _ (.bl _)
    · exact p1.elim
theorem de_or {rest : List Expr} (ha : DE X fld W a Fa) (hb : DE X fld W (.BoolOp .Or (b :: rest) pos) Fb) : DE X fld W (.BoolOp .Or (a :: b :: rest) pos) (fun σ S => orE (Fa σ S) fun S => Fb σ S) :=
  PE.imp (pe_or ha hb) fun σ H Q h => by
    obtain ⟨ω, σd, e0, ok, er, p⟩ := tG_bind (rel := Rep X.K X.mg fld) (G := fun σ d S => match d with
      | .bl b => if b = true then R.ok (.bl true) S else Fb σ S
      | _ => .bad) h
    refine ⟨ω, σd, e0, ok, er, p.mono ?_⟩
    rintro x H1 ⟨ω1, σd1, d, h1, ok1, er1, rd, p1⟩
    split at p1
    · rename_i k
      cases rd
      refine ⟨k, rfl, ?_⟩
      cases k with
      | false => exact ⟨ω1, σd1, h1, ok1, er1, p1⟩
      | true =>
        subst h1
        exact p1 ω1 rfl (.refl ω1) ok1 _ (.bl _)
    · exact p1.elim
theorem de_not (ha : DE X fld W a Fa) : DE X fld W (.UnaryOp .Not a pos) (fun σ S => notE (Fa σ S)) :=
  PE.imp (pe_not ha) fun σ H Q h => by
    obtain ⟨ω, σd, e0, ok, er, p⟩ := tG_bind (rel := Rep X.K X.mg fld) (G := fun σ d S => match d with
      | D.bl b => R.ok (D.bl (!b)) S
      | _ => .bad) h
    refine ⟨ω, σd, e0, ok, er, p.mono ?_⟩
    rintro x H1 ⟨ω1, σd1, d, h1, ok1, er1, rd, p1⟩
    split at p1
    · rename_i k
      cases rd
      subst h1
      exact ⟨k, rfl, p1 ω1 rfl (.refl ω1) ok1 _ (.bl _)⟩
    · exact p1.elim
def iteE (r : R Bool) (f g : Store → R D) : R D := r.bind fun b S => if b = true then f S else g S
theorem de_ite {F : FT} (hc : DT X fld W c F) (ha : DE X fld W a Fa) (hb : DE X fld W b Fb) : DE X fld W (.IfExp c a b pos) (fun σ S => iteE (F σ S) (fun S => Fa σ S) fun S => Fb σ S) :=
  PE.imp (pe_ifExp hc ha hb) fun σ H Q h => by
    obtain ⟨ω, σd, e0, ok, er, p⟩ := tG_bind (rel := relB) (G := fun σ b S => if b = true then Fa σ S else Fb σ S) h
    refine ⟨ω, σd, e0, ok, er, p.mono ?_⟩
    rintro x H1 ⟨ω1, σd1, d, h1, ok1, er1, rd, p1⟩
    cases rd
    cases x with
    | true => exact ⟨ω1, σd1, h1, ok1, er1, p1⟩
    | false => exact ⟨ω1, σd1, h1, ok1, er1, p1⟩

/-! ### places -/
theorem de_ix (hs : PlainIx b) (ha : DE X fld W a Fa) (hb : DE X fld W b Fb) : DE X fld W (.Subscript a b pos) (binD subD Fa Fb) :=
  PE.imp (pe_ix ixR_sub ha hb hs) fun σ H Q h => tOp_of noErr_sub h
abbrev FO := Env → Store → R (Option Int)
def DO (X : Cx) (fld : Str → Option Str) (W : WX) (e : Option Expr) (F : FO) : Prop := PO X e (tG X.K X.mg fld relI W F)
theorem PO.imp {X : Cx} {e : Option Expr} {t t' : TO} (h : PO X e t) (i : ∀ σ H Q, t' σ H Q → t σ H Q) : PO X e t' := ⟨fun pins s σ H Q I q => h.run pins s σ H Q I (i σ H Q q)⟩
theorem do_none : DO X fld W none (fun _ S => .ok none S) := PO.imp po_none fun σ H Q ⟨ω, σd, e0, ok, er, p⟩ => by
  subst e0
  exact p ω rfl (.refl ω) ok none rfl
theorem do_some (h : DE X fld W e F) : DO X fld W (some e) (fun σ S => (F σ S).bind fun d S => match d with
    | .int i => .ok (some i) S
    | _ => .bad) := PO.imp (po_some h) fun σ H Q h => by
  obtain ⟨ω, σd, e0, ok, er, p⟩ := tG_bind (rel := Rep X.K X.mg fld) (G := fun σ d S => match d with
    | .int i => R.ok (some i) S
    | _ => .bad) h
  refine ⟨ω, σd, e0, ok, er, p.mono ?_⟩
  rintro x H1 ⟨ω1, σd1, d, h1, ok1, er1, rd, p1⟩
  split at p1
  · cases rd
    subst h1
    exact ⟨_, rfl, p1 ω1 rfl (.refl ω1) ok1 _ rfl⟩
  · exact p1.elim
theorem de_slc {lo hi : Option Expr} {Fl Fh : FO} {p2 : Pos} (ha : DE X fld W a Fa) (hl : DO X fld W lo Fl) (hh : DO X fld W hi Fh) :
    DE X fld W (.Subscript a (.Slice lo hi none p2) pos) (fun σ S => (Fa σ S).bind fun d S => (Fl σ S).bind fun l S => (Fh σ S).bind fun h S => slcD m d l h S) :=
  PE.imp (pe_slice (slR (m := m)) ha hl hh) fun σ H Q h => by
    obtain ⟨ω, σd, e0, ok, er, p⟩ := tG_bind (rel := Rep X.K X.mg fld) (G := fun σ d S => (Fl σ S).bind fun l S => (Fh σ S).bind fun h S => slcD m d l h S) h
    refine ⟨ω, σd, e0, ok, er, p.mono ?_⟩
    rintro x H1 ⟨ω1, σd1, d, h1, ok1, er1, rd, p1⟩
    refine ⟨ω1, σd1, h1, ok1, er1, (Post.bind (rel := relI) ok1 p1).mono ?_⟩
    rintro l H2 ⟨ω2, l', h2, ext, ok2, re, p2⟩
    cases re
    refine ⟨ω2, σd1, h2, ok2, er1.mono ok1 ext, (Post.bind (rel := relI) ok2 p2).mono ?_⟩
    rintro u H3 ⟨ω3, u', h3, ext3, ok3, re3, p3⟩
    cases re3
    exact ⟨ω3, d, h3, ok3, (rd.mono ok1 ext).mono ok2 ext3, p3.n (noErr_slc _ _ _ _ _)⟩
theorem de_rev {k : Nat} {p1 p2 p3 : Pos} (ha : DE X fld W a Fa) : DE X fld W (.Subscript a (.Slice none none (some (.UnaryOp .USub (.Constant (.int 1) k p1) p2)) p3) pos) (fun σ S => (Fa σ S).bind fun d S => revD m d S) :=
  PE.imp (pe_revL ha) fun σ H Q h => by
    obtain ⟨ω, σd, e0, ok, er, p⟩ := tG_bind (rel := Rep X.K X.mg fld) (G := fun σ d S => revD m d S) h
    refine ⟨ω, σd, e0, ok, er, p.mono ?_⟩
    rintro x H1 ⟨ω1, σd1, d, h1, ok1, er1, rd, p1⟩
    subst h1
    unfold revD at p1
    cases hl : lstOf ω1.S d with
    | none => rw [hl] at p1; exact p1.elim
    | some xs =>
      rw [hl] at p1
      obtain ⟨a, vs, rfl, g1, g2⟩ := lst_of ok1 rd hl
      exact ⟨a, vs, rfl, SqL.of g1, fun q hq => (Post.n p1 (noErr_mkL _ _ _)).newL ok1 hq g2.reverse⟩

/-! ### calls of built-in functions and methods -/
theorem backTo_any (pos : Pos) : ∀ (es : List Expr) (env : PySem.Env), (∀ e ∈ es, Plain e) → (backTo pos (starEach es env)).any (·.1) = false
  | [], _, _ => rfl
  | e :: es, env, h => by
    rw [(h e List.mem_cons_self).star es env]
    show (false || (backTo pos (starEach es env)).any (·.1)) = false
    rw [Bool.false_or]
    exact backTo_any pos es env fun x hx => h x (List.mem_cons_of_mem _ hx)
theorem tCB_of {Fs : FA} {g : List D → Store → R D} (no : ∀ ds S, NoErr (g ds S)) {σ : St} {H : Hp} {Q : VK} (h : tG X.K X.mg fld (Rep X.K X.mg fld) W (fun σ S => (Fs σ S).bind fun ds S => g ds S) σ H Q) :
    tCB (rLs X.K X.mg fld g) (tG X.K X.mg fld (RepL X.K X.mg fld) W Fs) σ H Q := by
  obtain ⟨ω, σd, e0, ok, er, p⟩ := tG_bind (rel := RepL X.K X.mg fld) (G := fun σ ds S => g ds S) h
  refine ⟨ω, σd, e0, ok, er, p.mono ?_⟩
  rintro x H1 ⟨ω1, σd1, d, h1, ok1, er1, rd, p1⟩
  exact ⟨ω1, d, h1, ok1, rd, p1.n (no _ _)⟩
theorem de_fn {x : Str} {id : String} {p : Pos} {Fs : FA} {g : List D → Store → R D} (no : ∀ ds S, NoErr (g ds S)) (hc : CallD X fld (.builtin id) g) (hg : Gl X x) (hm : X.mg x = none) (hv : bootBuiltins x = some (.builtin id)) (hn : x ≠ "__name__") (hdb : (x == ("__debug__" : Str)) = false)
    (hp : ∀ y ∈ e :: es, Plain y) (ha : DA X fld W (e :: es) Fs) : DE X fld W (.Call (.Name x p) (e :: es) [] pos) (fun σ S => (Fs σ S).bind fun ds S => g ds S) :=
  PE.imp (pe_callB (callR_of hc) hg hm hv ha hn hdb ((hp e List.mem_cons_self).star es X.env) (backTo_any pos es X.env fun y hy => hp y (List.mem_cons_of_mem _ hy))) fun σ H Q h => tCB_of no h
theorem de_ty {x : Str} {T : String} {p : Pos} {Fs : FA} {g : List D → Store → R D} (no : ∀ ds S, NoErr (g ds S)) (hc : CallD X fld (.type T) g) (hg : Gl X x) (hm : X.mg x = none) (hv : bootBuiltins x = some (.type T)) (hn : x ≠ "__name__") (hdb : (x == ("__debug__" : Str)) = false)
    (hp : ∀ y ∈ e :: es, Plain y) (ha : DA X fld W (e :: es) Fs) : DE X fld W (.Call (.Name x p) (e :: es) [] pos) (fun σ S => (Fs σ S).bind fun ds S => g ds S) :=
  PE.imp (pe_callTy (callR_of hc) hg hm hv ha hn hdb ((hp e List.mem_cons_self).star es X.env) (backTo_any pos es X.env fun y hy => hp y (List.mem_cons_of_mem _ hy))) fun σ H Q h => tCB_of no h
/-- isinstance(a, T) -/
theorem de_is {G : Gs} {u : Str} {cv : V} {p : Pos} (GO : GsOk X.K X.mg G) (hg : Gl X "isinstance") (hm : X.mg "isinstance" = none) (pa : Plain a) (pb : Plain b) (ha : DE X fld W a Fa) (hb : PE X b (tC cv)) (hcv : ∀ w, RelV cv w → w = clsVal X.mg u) :
    DE X fld W (.Call (.Name "isinstance" p) [a, b] [] pos) (fun σ S => (Fa σ S).bind fun d S => biD G (.isTy [u]) false [d] S) := by
  have hr : CallR X (.builtin "isinstance") (fun xs H Q => ∃ ω x d, xs = [x, cv] ∧ ω.H = H ∧ Ok X.K X.mg fld ω ∧ Rep X.K X.mg fld ω x d ∧ PostN X.K X.mg fld ω (biD G (.isTy [u]) false [d] ω.S) Q) := by
    intro pins s σ H xs us Q I r ⟨ω, x, d, e1, e0, ok, rd, p⟩
    subst e1 e0
    obtain ⟨w1, w2, rfl, r1, r2⟩ := vals2 r
    exact call_isD GO I r1 ok rd (hcv _ r2) p
  have hA : PA X [a, b] (tCons (tG X.K X.mg fld (Rep X.K X.mg fld) W Fa) (tCons (tC cv) tNil)) := pa_cons ha (pa_cons hb pa_nil (pb.star [] X.env)) (pa.star [b] X.env)
  refine PE.imp (pe_callB hr hg hm (by kernel_rfl) hA (by decide) (by decide) (pa.star [b] X.env) (backTo_any pos [b] X.env fun y hy => by
    have e : y = b := by simpa using hy
    rw [e]; exact pb)) fun σ H Q h => ?_
  obtain ⟨ω, σd, e0, ok, er, p⟩ := tG_bind (rel := Rep X.K X.mg fld) (G := fun σ d S => biD G (.isTy [u]) false [d] S) h
  refine ⟨ω, σd, e0, ok, er, p.mono ?_⟩
  rintro x H1 ⟨ω1, σd1, d, h1, ok1, er1, rd, p1⟩
  exact ⟨ω1, x, d, rfl, h1, ok1, rd, p1.n (noErr_bi _ _ _ _ _)⟩
end
end MI

set_option Elab.async false
set_option linter.all false
set_option maxRecDepth 100000
set_option maxHeartbeats 4000000
/-! MI11: methods, calls of the program's functions, statements. -/
namespace MI
open PySem PySem.Spec L2
open PyProof.Rows hiding St

section
variable {X : Cx} {fld : Str → Option Str} {W : WX} {e a b c o : Expr} {es : List Expr} {pos : Pos} {F Fa Fb Fo : FE} {m : Bool}

/-! ### methods -/
/-- the receiver is of that type -/
def tyD (T : String) (d : D) (S : Store) : Bool := match d with
  | .str _ => T == "str"
  | .ref n => match S[n]? with
    | some (.lst _) => T == "list"
    | _ => false
  | _ => false
theorem tyV_of {K : PySem.W.Frag} {mg : Str → Option Value} {ω : Wd} {x : V} {d : D} {T : String} (ok : Ok K mg fld ω) (r : Rep K mg fld ω x d) (h : tyD T d ω.S = true) : tyV K T x ω.H := by
  unfold tyD at h
  split at h
  · cases r
    exact beq_iff_eq.mp h
  · split at h
    · rename_i n _ ys hc
      obtain ⟨rfl, hn, ws, h1, h2⟩ := ref_of ok r hc
      exact .inl ⟨beq_iff_eq.mp h, ws, SqL.of h1⟩
    · cases h
  · cases h
def mt0 (T : String) (g : D → List D → Store → R D) (Fo : FE) : FE := fun σ S => (Fo σ S).bind fun d S => if tyD T d S then g d [] S else .bad
def mt1 (T : String) (g : D → List D → Store → R D) (Fo : FE) (Fs : FA) : FE := fun σ S => (Fo σ S).bind fun d S => if tyD T d S then (Fs σ S).bind fun ds S => g d ds S else .bad
theorem de_mt0 {T id : String} {name : Str} {apos cpos : Pos} {g : D → List D → Store → R D} (no : ∀ d ds S, NoErr (g d ds S)) (pa : PlainAttrs T) (slot : Slot T name id) (hty : typeOf (.builtin id) = pure (.type "method_descriptor")) (hm : MtD X fld id g) (po : Plain o) (ho : DE X fld W o Fo)
    (hline : (apos.endLine == cpos.line) = true) : DE X fld W (.Call (.Attribute o name apos) [] [] cpos) (mt0 T g Fo) :=
  PE.imp (pe_bm0 pa slot hty (mtR_of hm) ho (po.base name X.env) hline) fun σ H Q h => by
    obtain ⟨ω, σd, e0, ok, er, p⟩ := tG_bind (rel := Rep X.K X.mg fld) (G := fun σ d S => if tyD T d S then g d [] S else .bad) h
    refine ⟨ω, σd, e0, ok, er, p.mono ?_⟩
    rintro x H1 ⟨ω1, σd1, d, h1, ok1, er1, rd, p1⟩
    subst h1
    by_cases hz : tyD T d ω1.S = true
    · rw [if_pos hz] at p1
      exact ⟨tyV_of ok1 rd hz, ω1, d, [], rfl, ok1, rd, .nil, p1.n (no _ _ _)⟩
    · rw [if_neg hz] at p1; exact p1.elim
theorem few_of (cpos : Pos) (env : PySem.Env) (hp : ∀ y ∈ e :: es, Plain y) (hn : (e :: es).length < 20) : ((backTo cpos (starEach (e :: es) env)).all (fun x => !x.1) && (backToKw cpos (keywordEach [] env)).all (fun x => x.1.isSome)
      && decide ((e :: es).length + ([] : List Keyword).length + (if ([] : List Keyword).isEmpty then 0 else 1) < 30)) = true := by
  have h1 : ∀ es : List Expr, (∀ y ∈ es, Plain y) → (backTo cpos (starEach es env)).all (fun x => !x.1) = true := fun es => by
    induction es with
    | nil => intro _; rfl
    | cons e es ih =>
      intro h
      rw [(h e List.mem_cons_self).star es env]
      show (true && (backTo cpos (starEach es env)).all (fun x => !x.1)) = true
      rw [Bool.true_and]
      exact ih fun x hx => h x (List.mem_cons_of_mem _ hx)
  rw [h1 _ hp]
  have h2 : (backToKw cpos (keywordEach [] env)).all (fun x => x.1.isSome) = true := rfl
  rw [h2]
  have h3 : (e :: es).length + ([] : List Keyword).length + (if ([] : List Keyword).isEmpty then 0 else 1) < 30 := by
    show (e :: es).length + 0 + 0 < 30
    omega
  rw [decide_eq_true h3]
  rfl
theorem de_mt1 {T id : String} {name : Str} {apos cpos : Pos} {g : D → List D → Store → R D} {Fs : FA} (no : ∀ d ds S, NoErr (g d ds S)) (pa : PlainAttrs T) (slot : Slot T name id) (hty : typeOf (.builtin id) = pure (.type "method_descriptor")) (hm : MtD X fld id g) (po : Plain o) (ho : DE X fld W o Fo)
    (hp : ∀ y ∈ e :: es, Plain y) (hn : (e :: es).length < 20) (ha : DA X fld W (e :: es) Fs)
    (hline : (apos.endLine == cpos.line) = true) : DE X fld W (.Call (.Attribute o name apos) (e :: es) [] cpos) (mt1 T g Fo Fs) :=
  PE.imp (pe_bm pa slot hty (mtR_of hm) ho ha (po.base name X.env) (few_of cpos X.env hp hn) hline ((hp e List.mem_cons_self).star es X.env) (backTo_any cpos es X.env fun y hy => hp y (List.mem_cons_of_mem _ hy))) fun σ H Q h => by
    obtain ⟨ω, σd, e0, ok, er, p⟩ := tG_bind (rel := Rep X.K X.mg fld) (G := fun σ d S => if tyD T d S then (Fs σ S).bind fun ds S => g d ds S else .bad) h
    refine ⟨ω, σd, e0, ok, er, p.mono ?_⟩
    rintro x H1 ⟨ω1, σd1, d, h1, ok1, er1, rd, p1⟩
    subst h1
    by_cases hz : tyD T d ω1.S = true
    · rw [if_pos hz] at p1
      refine ⟨tyV_of ok1 rd hz, ω1, σd1, rfl, ok1, er1, (Post.bind (rel := RepL X.K X.mg fld) ok1 p1).mono ?_⟩
      rintro y H2 ⟨ω2, ds, h2, ext, ok2, re, p2⟩
      exact ⟨ω2, d, ds, h2, ok2, rd.mono ok1 ext, re, p2.n (no _ _ _)⟩
    · rw [if_neg hz] at p1; exact p1.elim

/-! ### calls of the program's functions -/
/-- a function's promise by data -/
def spD (K : PySem.W.Frag) (mg : Str → Option Value) (fld : Str → Option Str) (n : Nat) (g : List D → Store → R D) : Sp := fun vs H Q E => vs.length = n ∧ ∃ ω ds, ω.H = H ∧ Ok K mg fld ω ∧ RepL K mg fld ω vs ds ∧ Post K mg fld (Rep K mg fld) (fun cls dd _ H => E cls dd H) [] ω (g ds ω.S) Q
theorem de_call {x : Str} {p : Pos} {k : Nat} {f : Addr} {fd : FuncData} {ps : List Str} {Fs : FA} {g : List D → Store → R D} (tk : Takes X W) (hlen : (e :: es).length = ps.length) (Fn : FnOk X.prog X.w X.K X.mg X.base (L2.CX X.prog X.w) k f fd ps (spD X.K X.mg fld ps.length g)) (hr : Room k X.A)
    (hg : Gl X x) (hm : X.mg x = some (.ref f)) (hk : PySem.W.keepIn X.K (.ref f) = true) (hb : Binds X.K fd ps []) (hdb : (x == ("__debug__" : Str)) = false) (hp : ∀ y ∈ e :: es, Plain y) (ha : DA X fld W (e :: es) Fs)
    (hfl : ∀ σ S ds S', Fs σ S = .ok ds S' → ds.length = ps.length) :
    DE X fld W (.Call (.Name x p) (e :: es) [] pos) (fun σ S => (Fs σ S).bind fun ds S => g ds S) :=
  PE.imp (pe_callS Fn hr hg hm hk hb (fun σ => passAt tk σ) ha hdb ((hp e List.mem_cons_self).star es X.env) (backTo_any pos es X.env fun y hy => hp y (List.mem_cons_of_mem _ hy))) fun σ H Q h => by
    obtain ⟨ω, σd, e0, ok, er, p⟩ := h
    refine ⟨ω, σd, e0, ok, er, ?_⟩
    have p' : Post X.K X.mg fld (Rep X.K X.mg fld) W σ ω ((Fs σd ω.S).bind fun ds S => g ds S) Q := p
    cases hF : Fs σd ω.S with
    | ok ds S' =>
      rw [hF] at p'
      intro ω1 e1 e2 e3 vs rb
      have p2 : Post X.K X.mg fld (Rep X.K X.mg fld) W σ ω1 (g ds ω1.S) Q := by
        rw [e1]; exact Post.ext ok e3 e2 p'
      refine ⟨by rw [rb.length]; exact hfl _ _ _ _ hF, ω1, ds, rfl, e3, rb, ?_⟩
      cases hG : g ds ω1.S with
      | ok d S2 => rw [hG] at p2; exact p2
      | err y S2 => rw [hG] at p2; exact p2
      | bad => rw [hG] at p2; exact p2.elim
    | err y S' => rw [hF] at p'; exact p'
    | bad => rw [hF] at p'; exact p'.elim
end

/-! ### statements -/
abbrev FS := Env → Store → O
section
variable (K : PySem.W.Frag) (mg : Str → Option Value) (fld : Str → Option Str)
def PostO (W : WX) (ω : Wd) (o : O) (D : Ends) : Prop :=
  match o with
  | .nx σd S' => ∀ ω' σ, ω'.S = S' → Ext ω ω' → Ok K mg fld ω' → ERel K mg fld ω' σ σd → D.nx σ ω'.H
  | .ret d S' => ∀ ω' v, ω'.S = S' → Ext ω ω' → Ok K mg fld ω' → Rep K mg fld ω' v d → D.rt v ω'.H
  | .brk σd S' => ∀ ω' σ, ω'.S = S' → Ext ω ω' → Ok K mg fld ω' → ERel K mg fld ω' σ σd → D.bk σ ω'.H
  | .ct σd S' => ∀ ω' σ, ω'.S = S' → Ext ω ω' → Ok K mg fld ω' → ERel K mg fld ω' σ σd → D.ct σ ω'.H
  | .err x σd S' => ∀ ω' σ, ω'.S = S' → Ext ω ω' → Ok K mg fld ω' → ERel K mg fld ω' σ σd → ∀ cls dd, XRel K mg fld ω' cls dd x → W cls dd σ ω'.H
  | .bad => False
def sG (W : WX) (F : FS) : TS := fun D σ H => ∃ ω σd, ω.H = H ∧ Ok K mg fld ω ∧ ERel K mg fld ω σ σd ∧ PostO K mg fld W ω (F σd ω.S) D
end
def DS (X : Cx) (fld : Str → Option Str) (W : WX) (st : Stmt) (F : FS) : Prop := PS X st (sG X.K X.mg fld W F)
def DB (X : Cx) (fld : Str → Option Str) (W : WX) (st : List Stmt) (F : FS) : Prop := PSs X st (sG X.K X.mg fld W F)
section
variable {K : PySem.W.Frag} {mg : Str → Option Value} {fld : Str → Option Str} {ω ω1 : Wd} {W : WX} {D D' : Ends}
theorem PostO.ext {o : O} (ok : Ok K mg fld ω) (ok1 : Ok K mg fld ω1) (e : Ext ω ω1) (h : PostO K mg fld W ω o D) : PostO K mg fld W ω1 o D := by
  cases o with
  | nx σd S' => exact fun ω' σ e1 e2 e3 er => h ω' σ e1 (e.trans ok ok1 e2) e3 er
  | ret d S' => exact fun ω' v e1 e2 e3 er => h ω' v e1 (e.trans ok ok1 e2) e3 er
  | brk σd S' => exact fun ω' σ e1 e2 e3 er => h ω' σ e1 (e.trans ok ok1 e2) e3 er
  | ct σd S' => exact fun ω' σ e1 e2 e3 er => h ω' σ e1 (e.trans ok ok1 e2) e3 er
  | err x σd S' => exact fun ω' σ e1 e2 e3 er => h ω' σ e1 (e.trans ok ok1 e2) e3 er
  | bad => exact h
theorem PostO.seq {o : O} {f : Env → Store → O} (ok : Ok K mg fld ω) (h : PostO K mg fld W ω (o.bind f) D) :
    PostO K mg fld W ω o { D with nx := fun σ H => ∃ ω1 σd, ω1.H = H ∧ Ok K mg fld ω1 ∧ ERel K mg fld ω1 σ σd ∧ PostO K mg fld W ω1 (f σd ω1.S) D } := by
  cases o with
  | nx σd S' =>
    intro ω' σ e1 e2 e3 er
    refine ⟨ω', σd, rfl, e3, er, ?_⟩
    rw [e1]
    exact PostO.ext ok e3 e2 h
  | ret d S' => exact h
  | brk σd S' => exact h
  | ct σd S' => exact h
  | err x σd S' => exact h
  | bad => exact h
/-- an expression, then the rest of the statement -/
theorem sG_thn {α β : Type} {rel : Wd → β → α → Prop} {r : Env → Store → R α} {f : Env → α → Store → O} {σ : St} {H : Hp} (h : sG K mg fld W (fun σ S => (r σ S).thn σ (f σ)) D σ H) :
    tG K mg fld rel W r σ H (fun b H1 => ∃ ω1 σd a, ω1.H = H1 ∧ Ok K mg fld ω1 ∧ ERel K mg fld ω1 σ σd ∧ rel ω1 b a ∧ PostO K mg fld W ω1 (f σd a ω1.S) D) := by
  obtain ⟨ω, σd, e0, ok, er, p⟩ := h
  refine ⟨ω, σd, e0, ok, er, ?_⟩
  replace p : PostO K mg fld W ω ((r σd ω.S).thn σd (f σd)) D := p
  cases hr : r σd ω.S with
  | ok a S' =>
    rw [hr] at p
    intro ω' e1 e2 e3 b rb
    refine ⟨ω', σd, a, rfl, e3, er.mono ok e2, rb, ?_⟩
    rw [e1]
    exact PostO.ext ok e3 e2 p
  | err x S' =>
    rw [hr] at p
    exact fun ω' e1 e2 e3 cls dd hx => p ω' σ e1 e2 e3 (er.mono ok e2) cls dd hx
  | bad => rw [hr] at p; exact p.elim
end
section
variable {X : Cx} {fld : Str → Option Str} {W : WX} {e a b c o : Expr} {es : List Expr} {pos : Pos} {F Fa Fb Fo : FE} {st : Stmt} {rest : List Stmt} {G G1 G2 : FS}
theorem db_nil : DB X fld W [] (fun σ S => .nx σ S) := PSs.imp pss_nil fun D σ H ⟨ω, σd, e0, ok, er, p⟩ => by
  subst e0
  exact p ω σ rfl (.refl ω) ok er
theorem db_cons (h1 : DS X fld W st G1) (h2 : DB X fld W rest G2) : DB X fld W (st :: rest) (fun σ S => (G1 σ S).bind G2) :=
  PSs.imp (pss_cons h1 h2) fun D σ H ⟨ω, σd, e0, ok, er, p⟩ => ⟨ω, σd, e0, ok, er, PostO.seq ok p⟩
theorem ds_pass : DS X fld W (.Pass pos) (fun σ S => .nx σ S) := PS.imp ps_pass fun D σ H ⟨ω, σd, e0, ok, er, p⟩ => by
  subst e0
  exact p ω σ rfl (.refl ω) ok er
theorem ds_break : DS X fld W (.Break pos) (fun σ S => .brk σ S) := PS.imp ps_break fun D σ H ⟨ω, σd, e0, ok, er, p⟩ => by
  subst e0
  exact p ω σ rfl (.refl ω) ok er
theorem ds_continue : DS X fld W (.Continue pos) (fun σ S => .ct σ S) := PS.imp ps_continue fun D σ H ⟨ω, σd, e0, ok, er, p⟩ => by
  subst e0
  exact p ω σ rfl (.refl ω) ok er
theorem ds_ret (he : DE X fld W e F) : DS X fld W (.Return (some e) pos) (fun σ S => (F σ S).thn σ fun d S => .ret d S) := PS.imp (ps_ret he) fun D σ H h => by
  obtain ⟨ω, σd, e0, ok, er, p⟩ := sG_thn (rel := Rep X.K X.mg fld) (r := F) (f := fun _ d S => .ret d S) h
  refine ⟨ω, σd, e0, ok, er, p.mono ?_⟩
  rintro x H1 ⟨ω1, σd1, d, h1, ok1, er1, rd, p1⟩
  subst h1
  exact p1 ω1 x rfl (.refl ω1) ok1 rd
theorem ds_retN : DS X fld W (.Return none pos) (fun _ S => .ret .non S) := PS.imp ps_retN fun D σ H ⟨ω, σd, e0, ok, er, p⟩ => by
  subst e0
  exact p ω .non rfl (.refl ω) ok .non
theorem ds_expr (he : DE X fld W e F) (hs : swapsWith e none pos.line X.env = pure false) : DS X fld W (.Expr e pos) (fun σ S => (F σ S).thn σ fun _ S => .nx σ S) := PS.imp (ps_expr he hs) fun D σ H h => by
  obtain ⟨ω, σd, e0, ok, er, p⟩ := sG_thn (rel := Rep X.K X.mg fld) (r := F) (f := fun σ _ S => .nx σ S) h
  refine ⟨ω, σd, e0, ok, er, p.mono ?_⟩
  rintro x H1 ⟨ω1, σd1, d, h1, ok1, er1, rd, p1⟩
  subst h1
  exact p1 ω1 σ rfl (.refl ω1) ok1 er1
theorem ds_if {Fc : FT} {p q : List Stmt} (hc : DT X fld W c Fc) (h1 : DB X fld W p G1) (h2 : DB X fld W q G2) : DS X fld W (.If c p q pos) (fun σ S => (Fc σ S).thn σ fun b S => if b = true then G1 σ S else G2 σ S) :=
  PS.imp (ps_if hc h1 h2) fun D σ H h => by
    obtain ⟨ω, σd, e0, ok, er, p⟩ := sG_thn (rel := relB) (r := Fc) (f := fun σ b S => if b = true then G1 σ S else G2 σ S) h
    refine ⟨ω, σd, e0, ok, er, p.mono ?_⟩
    rintro x H1 ⟨ω1, σd1, d, h1, ok1, er1, rd, p1⟩
    cases rd
    cases x with
    | true => exact ⟨ω1, σd1, h1, ok1, er1, p1⟩
    | false => exact ⟨ω1, σd1, h1, ok1, er1, p1⟩
/-- name = value -/
theorem ERel.set {K : PySem.W.Frag} {mg : Str → Option Value} {ω : Wd} {σ : St} {σd : Env} {v : V} {d : D} (er : ERel K mg fld ω σ σd) (i : Nat) (r : Rep K mg fld ω v d) : ERel K mg fld ω (σ.set i (some v)) (σd.set i (some d)) := by
  refine ⟨by rw [List.length_set, List.length_set]; exact er.1, fun j e h => ?_⟩
  by_cases hj : i = j
  · subst hj
    have hlt : i < σd.length := by
      have := (List.getElem?_eq_some_iff.mp h).1
      rw [List.length_set] at this; exact this
    rw [List.getElem?_set_self hlt] at h
    cases h
    exact ⟨v, List.getElem?_set_self (by rw [er.1]; exact hlt), r⟩
  · rw [List.getElem?_set_ne hj] at h
    obtain ⟨w, h1, h2⟩ := er.2 j e h
    exact ⟨w, by rw [List.getElem?_set_ne hj]; exact h1, h2⟩
theorem ds_set {i : Nat} {x : Str} {pos' : Pos} (hN : X.N.Nodup) (hi : X.N[i]? = some x) (hx : Loc X.env.scope x) (he : DE X fld W e F) (hs : swapsWith e (some (.Name x pos')) pos.line X.env = pure false) (hf : X.fn x = true ∨ X.env.scope.names.lookup x = some .local) :
    DS X fld W (.Assign [.Name x pos'] e pos) (fun σ S => (F σ S).thn σ fun d S => .nx (σ.set i (some d)) S) :=
  PS.imp (ps_set hN hi hx he hs hf) fun D σ H h => by
    obtain ⟨ω, σd, e0, ok, er, p⟩ := sG_thn (rel := Rep X.K X.mg fld) (r := F) (f := fun σ d S => .nx (σ.set i (some d)) S) h
    refine ⟨ω, σd, e0, ok, er, p.mono ?_⟩
    rintro v H1 ⟨ω1, σd1, d, h1, ok1, er1, rd, p1⟩
    subst h1
    exact p1 ω1 _ rfl (.refl ω1) ok1 (er1.set i rd)
end
end MI

set_option Elab.async false
set_option linter.all false
set_option maxRecDepth 100000
set_option maxHeartbeats 4000000
/-! MI12: loops. -/
namespace MI
open PySem PySem.Spec L2
open PyProof.Rows hiding St

/-- a loop's turn, then f -/
def O.loop (o : O) (f : Env → Store → O) : O :=
  match o with
  | .nx σ S => f σ S
  | .ct σ S => f σ S
  | .brk σ S => .nx σ S
  | .ret d S => .ret d S
  | .err x σ S => .err x σ S
  | .bad => .bad
@[simp] theorem O.loop_nx (σ : Env) (S : Store) (f : Env → Store → O) : (O.nx σ S).loop f = f σ S := rfl
@[simp] theorem O.loop_ct (σ : Env) (S : Store) (f : Env → Store → O) : (O.ct σ S).loop f = f σ S := rfl
@[simp] theorem O.loop_brk (σ : Env) (S : Store) (f : Env → Store → O) : (O.brk σ S).loop f = .nx σ S := rfl
@[simp] theorem O.loop_ret (d : D) (S : Store) (f : Env → Store → O) : (O.ret d S).loop f = .ret d S := rfl
@[simp] theorem O.loop_err (x : D) (σ : Env) (S : Store) (f : Env → Store → O) : (O.err x σ S).loop f = .err x σ S := rfl
@[simp] theorem O.loop_bad (f : Env → Store → O) : O.bad.loop f = .bad := rfl

def whileD (Fc : FT) (Fb : FS) : Nat → FS
  | 0 => fun _ _ => .bad
  | n + 1 => fun σ S => (Fc σ S).thn σ fun b S => if b = true then (Fb σ S).loop (whileD Fc Fb n) else .nx σ S

/-- what a loop walks: the item at a turn, in a store; the end; nothing good -/
inductive It1 where
  | item (d : D)
  | stop
  | bad
abbrev Itf := Nat → Store → It1
abbrev FI := Env → Store → R Itf
abbrev Tg := D → Option (List (Nat × D))
abbrev Tgs := List D → Option (List (Nat × D))
def putD : List (Nat × D) → Env → Env
  | [], σ => σ
  | (i, d) :: l, σ => putD l (σ.set i (some d))
def putV : List (Nat × V) → St → St
  | [], σ => σ
  | (i, v) :: l, σ => putV l (σ.set i (some v))
def forD (itf : Itf) (Ft : Tg) (Fb : FS) : Nat → Nat → FS
  | 0, _ => fun _ _ => .bad
  | n + 1, i => fun σ S => match itf i S with
    | .item d => (match Ft d with
      | some l => (Fb (putD l σ) S).loop (forD itf Ft Fb n (i + 1))
      | none => .bad)
    | .stop => .nx σ S
    | .bad => .bad

section
variable (K : PySem.W.Frag) (mg : Str → Option Value) (fld : Str → Option Str)
def ItD (ω0 : Wd) (J : It) (itf : Itf) : Prop := ∀ ω, Ext ω0 ω → Ok K mg fld ω → ∀ i,
  (itf i ω.S = .stop → J.stop i ω.H) ∧
  ∀ d, itf i ω.S = .item d → J.go i ω.H ∧ ∀ x H', J.yld i ω.H x H' → ∃ ω', ω'.S = ω.S ∧ ω'.H = H' ∧ Ext ω ω' ∧ Ok K mg fld ω' ∧ Rep K mg fld ω' x d
inductive RepA (ω : Wd) : List (Nat × V) → List (Nat × D) → Prop
  | nil : RepA ω [] []
  | cons {i : Nat} {v : V} {d : D} {lv : List (Nat × V)} {l : List (Nat × D)} : Rep K mg fld ω v d → RepA ω lv l → RepA ω ((i, v) :: lv) ((i, d) :: l)
def gG (Ft : Tg) : TG := fun v σ H Q => ∃ ω d, ω.H = H ∧ Ok K mg fld ω ∧ Rep K mg fld ω v d ∧ ∃ l, Ft d = some l ∧ ∀ lv, RepA K mg fld ω lv l → Q (putV lv σ) H
def gGs (Ft : Tgs) : TGs := fun vs σ H Q => ∃ ω ds, ω.H = H ∧ Ok K mg fld ω ∧ RepL K mg fld ω vs ds ∧ ∃ l, Ft ds = some l ∧ ∀ lv, RepA K mg fld ω lv l → Q (putV lv σ) H
end
def DI (X : Cx) (fld : Str → Option Str) (W : WX) (tg e : Expr) (F : FI) : Prop := PI X tg e (tG X.K X.mg fld (ItD X.K X.mg fld) W F)
def DG (X : Cx) (fld : Str → Option Str) (tg : Expr) (Ft : Tg) : Prop := PG X tg (gG X.K X.mg fld Ft)
def DGs (X : Cx) (fld : Str → Option Str) (tgs : List Expr) (Ft : Tgs) : Prop := PGs X tgs (gGs X.K X.mg fld Ft)

section
variable {K : PySem.W.Frag} {mg : Str → Option Value} {fld : Str → Option Str} {ω ω1 : Wd} {W : WX} {D : Ends}
theorem ERel.putV {lv : List (Nat × V)} {l : List (Nat × MI.D)} {σ : St} {σd : Env} (h : RepA K mg fld ω lv l) (er : ERel K mg fld ω σ σd) : ERel K mg fld ω (putV lv σ) (putD l σd) := by
  induction h generalizing σ σd with
  | nil => exact er
  | cons r _ ih => exact ih (er.set _ r)
theorem RepA.append {lv lw : List (Nat × V)} {l m : List (Nat × MI.D)} (h : RepA K mg fld ω lv l) (g : RepA K mg fld ω lw m) : RepA K mg fld ω (lv ++ lw) (l ++ m) := by
  induction h with
  | nil => exact g
  | cons r _ ih => exact .cons r ih
theorem putV_append : ∀ (lv lw : List (Nat × V)) (σ : St), putV (lv ++ lw) σ = MI.putV lw (MI.putV lv σ)
  | [], _, _ => rfl
  | (i, v) :: lv, lw, σ => putV_append lv lw (σ.set i (some v))
theorem RepA.split : ∀ {l m : List (Nat × MI.D)} {lv : List (Nat × V)}, RepA K mg fld ω lv (l ++ m) → ∃ a b, lv = a ++ b ∧ RepA K mg fld ω a l ∧ RepA K mg fld ω b m
  | [], _, _, h => ⟨[], _, rfl, .nil, h⟩
  | (i, d) :: l, m, _, h => by
    cases h with
    | cons r t =>
      obtain ⟨a, b, e, h1, h2⟩ := RepA.split t
      exact ⟨_ :: a, b, by rw [e]; rfl, .cons r h1, h2⟩
theorem PostO.loop {o : O} {f : Env → Store → O} (ok : Ok K mg fld ω) (h : PostO K mg fld W ω (o.loop f) D) {N : St → Hp → Prop}
    (hN : ∀ ω1 σ σd, Ext ω ω1 → Ok K mg fld ω1 → ERel K mg fld ω1 σ σd → PostO K mg fld W ω1 (f σd ω1.S) D → N σ ω1.H) : PostO K mg fld W ω o { D with nx := N, ct := N, bk := D.nx } := by
  cases o with
  | nx σd S' =>
    intro ω' σ e1 e2 e3 er
    refine hN ω' σ σd e2 e3 er ?_
    rw [e1]
    exact PostO.ext ok e3 e2 h
  | ct σd S' =>
    intro ω' σ e1 e2 e3 er
    refine hN ω' σ σd e2 e3 er ?_
    rw [e1]
    exact PostO.ext ok e3 e2 h
  | brk σd S' => exact h
  | ret d S' => exact h
  | err x σd S' => exact h
  | bad => exact h
theorem PostO.thn {α β : Type} {rel : Wd → β → α → Prop} {r : R α} {f : α → Store → O} {σ : St} {σd : Env} (ok : Ok K mg fld ω) (er : ERel K mg fld ω σ σd) (p : PostO K mg fld W ω (r.thn σd f) D) :
    Post K mg fld rel W σ ω r (fun b H1 => ∃ ω1 a, ω1.H = H1 ∧ Ext ω ω1 ∧ Ok K mg fld ω1 ∧ ERel K mg fld ω1 σ σd ∧ rel ω1 b a ∧ PostO K mg fld W ω1 (f a ω1.S) D) := by
  cases r with
  | ok a S' =>
    intro ω' e1 e2 e3 b rb
    refine ⟨ω', a, rfl, e2, e3, er.mono ok e2, rb, ?_⟩
    rw [e1]
    exact PostO.ext ok e3 e2 p
  | err x S' => exact fun ω' e1 e2 e3 cls dd hx => p ω' σ e1 e2 e3 (er.mono ok e2) cls dd hx
  | bad => exact p.elim
end
section
variable {X : Cx} {fld : Str → Option Str} {W : WX} {e a b c : Expr} {pos : Pos} {Fb : FS} {body : List Stmt} {tg : Expr}
theorem ds_while {Fc : FT} (hp : PassesOwn (model X.prog X.w) X.A X.env X.xe) (hc : DT X fld W c Fc) (hb : DB X fld W body Fb) (n : Nat) : DS X fld W (.While c body [] pos) (whileD Fc Fb n) :=
  PS.imp (ps_while hp hc hb) fun D σ H ⟨ω, σd, e0, ok, er, p⟩ => by
    refine ⟨fun m σ H => ∃ ω σd, ω.H = H ∧ Ok X.K X.mg fld ω ∧ ERel X.K X.mg fld ω σ σd ∧ PostO X.K X.mg fld W ω (whileD Fc Fb m σd ω.S) D, ⟨n, ω, σd, e0, ok, er, p⟩, ?_⟩
    rintro m σ H ⟨ω, σd, e0, ok, er, p⟩
    cases m with
    | zero => exact p.elim
    | succ m =>
      refine ⟨ω, σd, e0, ok, er, (PostO.thn (rel := relB) ok er p).mono ?_⟩
      rintro x H1 ⟨ω1, d, h1, e1, ok1, er1, rd, p1⟩
      cases rd
      cases x with
      | true =>
        rw [if_pos rfl] at p1 ⊢
        refine ⟨fun σ' H' => ∃ ω σd, ω.H = H' ∧ Ok X.K X.mg fld ω ∧ ERel X.K X.mg fld ω σ' σd ∧ PostO X.K X.mg fld W ω (whileD Fc Fb m σd ω.S) D, fun σ' H' q => ⟨m, Nat.lt_succ_self m, q⟩, ω1, σd, h1, ok1, er1, ?_⟩
        exact PostO.loop ok1 p1 fun ω2 σ2 σd2 _ ok2 er2 p2 => ⟨ω2, σd2, rfl, ok2, er2, p2⟩
      | false =>
        rw [if_neg Bool.false_ne_true] at p1 ⊢
        subst h1
        exact p1 ω1 σ rfl (.refl ω1) ok1 er1
theorem ds_for {Fi : FI} {Ft : Tg} (hp : PassesOwn (model X.prog X.w) X.A X.env X.xe) (hc : X.calm = true) (hi : DI X fld W tg e Fi) (hg : DG X fld tg Ft) (hb : DB X fld W body Fb)
    (hs : ∀ x, foldedSetIterable e X.env x = pure x) (n : Nat) : DS X fld W (.For tg e body [] pos) (fun σ S => (Fi σ S).thn σ fun itf S => forD itf Ft Fb n 0 σ S) :=
  PS.imp (ps_for hp hc hi hg hb hs) fun D σ H h => by
    obtain ⟨ω, σd, e0, ok, er, p⟩ := sG_thn (rel := ItD X.K X.mg fld) (r := Fi) (f := fun σ itf S => forD itf Ft Fb n 0 σ S) h
    refine ⟨ω, σd, e0, ok, er, p.mono ?_⟩
    rintro J H1 ⟨ω1, σd1, itf, h1, ok1, er1, it, p1⟩
    refine ⟨fun i m σ H => ∃ ω σd, ω.H = H ∧ Ok X.K X.mg fld ω ∧ Ext ω1 ω ∧ ERel X.K X.mg fld ω σ σd ∧ PostO X.K X.mg fld W ω (forD itf Ft Fb m i σd ω.S) D, ⟨n, ω1, σd1, h1, ok1, .refl ω1, er1, p1⟩, ?_⟩
    rintro i m σ H ⟨ω2, σd2, h2, ok2, x2, er2, p2⟩
    cases m with
    | zero => exact p2.elim
    | succ m =>
      replace p2 : PostO X.K X.mg fld W ω2 (match itf i ω2.S with
        | .item d => (match Ft d with
          | some l => (Fb (putD l σd2) ω2.S).loop (forD itf Ft Fb m (i + 1))
          | none => .bad)
        | .stop => .nx σd2 ω2.S
        | .bad => .bad) D := p2
      obtain ⟨it1, it2⟩ := it ω2 x2 ok2 i
      cases hi : itf i ω2.S with
      | bad => rw [hi] at p2; exact p2.elim
      | stop =>
        rw [hi] at p2
        subst h2
        exact .inl ⟨it1 hi, p2 ω2 σ rfl (.refl ω2) ok2 er2⟩
      | item d =>
        rw [hi] at p2
        obtain ⟨go, yl⟩ := it2 d hi
        subst h2
        refine .inr ⟨go, fun σ' H' => ∃ ω σd, ω.H = H' ∧ Ok X.K X.mg fld ω ∧ Ext ω1 ω ∧ ERel X.K X.mg fld ω σ' σd ∧ PostO X.K X.mg fld W ω (forD itf Ft Fb m (i + 1) σd ω.S) D, fun σ' H' q => ⟨m, Nat.lt_succ_self m, q⟩, fun x H' y => ?_⟩
        obtain ⟨ω3, s3, h3, e3, ok3, r3⟩ := yl x H' y
        cases ht : Ft d with
        | none => simp only [ht] at p2; exact p2.elim
        | some l =>
          simp only [ht] at p2
          refine ⟨ω3, d, h3, ok3, r3, l, ht, fun lv rl => ⟨ω3, putD l σd2, h3, ok3, (er2.mono ok2 e3).putV rl, ?_⟩⟩
          have p3 : PostO X.K X.mg fld W ω3 ((Fb (putD l σd2) ω3.S).loop (forD itf Ft Fb m (i + 1))) D := by
            rw [s3]; exact PostO.ext ok2 ok3 e3 p2
          refine PostO.loop ok3 p3 fun ω4 σ4 σd4 e4 ok4 er4 p4 => ⟨ω4, σd4, rfl, ok4, ?_, er4, p4⟩
          exact x2.trans ok1 ok2 (e3.trans ok2 ok3 e4)

/-! ### targets -/
def setN (i : Nat) : Tg := fun d => some [(i, d)]
theorem dg_name {i : Nat} {x : Str} (hN : X.N.Nodup) (hi : X.N[i]? = some x) (hx : Loc X.env.scope x) (hf : X.fn x = true ∨ X.env.scope.names.lookup x = some .local) : DG X fld (.Name x pos) (setN i) :=
  ⟨fun pins s σ H v u Q I r ⟨ω, d, e0, ok, rd, l, es, q⟩ => by
    cases es
    exact (pg_name hN hi hx hf).run pins s σ H v u Q I r (q [(i, v)] (.cons rd .nil))⟩
def setNil : Tgs := fun ds => match ds with
  | [] => some []
  | _ :: _ => none
def setCons (f : Tg) (g : Tgs) : Tgs := fun ds => match ds with
  | [] => none
  | d :: ds => match f d, g ds with
    | some a, some b => some (a ++ b)
    | _, _ => none
theorem dgs_nil : DGs X fld [] setNil := ⟨fun pins s σ H vs us Q I r ⟨ω, ds, e0, ok, rd, l, es, q⟩ => by
  cases ds with
  | cons d ds => cases es
  | nil =>
    cases es
    exact pgs_nil.run pins s σ H vs us Q I r ⟨rd.nil_of, q [] .nil⟩⟩
theorem dgs_cons {es : List Expr} {f : Tg} {g : Tgs} (h1 : DG X fld e f) (h2 : DGs X fld es g) (hs : (assignEach (e :: es) X.env).map (·.2) = assign e X.env :: (assignEach es X.env).map (·.2)) : DGs X fld (e :: es) (setCons f g) :=
  ⟨fun pins s σ H vs us Q I r ⟨ω, ds, e0, ok, rd, l, es', q⟩ => by
    cases ds with
    | nil => cases es'
    | cons d ds =>
      cases rd with
      | @cons v vs _ _ r1 r2 =>
        replace es' : (match f d, g ds with
          | some a, some b => some (a ++ b)
          | _, _ => none) = some l := es'
        cases hf : f d with
        | none => rw [hf] at es'; cases es'
        | some a =>
          cases hg : g ds with
          | none => rw [hf, hg] at es'; cases es'
          | some b =>
            rw [hf, hg] at es'
            cases es'
            refine (pgs_cons h1 h2 hs).run pins s σ H _ us Q I r ⟨v, vs, rfl, ω, d, e0, ok, r1, a, hf, fun lv rl => ?_⟩
            refine ⟨ω, ds, e0, ok, r2, b, hg, fun lw rw' => ?_⟩
            rw [← putV_append]
            exact q _ (rl.append rw')⟩
def setTup (n : Nat) (g : Tgs) : Tg := fun d => match d with
  | .tup xs => if xs.length = n then g xs else none
  | _ => none
theorem dg_tup {es : List Expr} {k : Nat} {n : Nat} {g : Tgs} (hc : X.calm = true) (h : DGs X fld es g) (hn : (assignEach es X.env).length = n) (hst : (assignEach es X.env).findIdx? (·.1) = none) : DG X fld (.Tuple es k pos) (setTup n g) :=
  ⟨fun pins s σ H v u Q I r ⟨ω, d, e0, ok, rd, l, es', q⟩ => by
    unfold setTup at es'
    split at es'
    · split at es'
      · rename_i xs hl
        obtain ⟨a, vs, rfl, h1, h2⟩ := rd.tup_of
        exact (pg_tup hc h hn hst).run pins s σ H _ u Q I r ⟨a, vs, rfl, by rw [← e0]; exact h1, by rw [h2.length]; exact hl, ω, xs, e0, ok, h2, l, es', q⟩
      · cases es'
    · cases es'⟩
/-- target = value -/
theorem ds_asg {F : FE} {Ft : Tg} (he : DE X fld W e F) (hg : DG X fld tg Ft) (hs : swapsWithSole [tg] e pos.line X.env = pure false) (hw : swappedStores [tg] e X.env = pure none) (h1 : (assignEach [tg] X.env).map (·.2) = [assign tg X.env]) :
    DS X fld W (.Assign [tg] e pos) (fun σ S => (F σ S).thn σ fun d S => match Ft d with
      | some l => .nx (putD l σ) S
      | none => .bad) :=
  PS.imp (ps_asg he hg hs hw h1) fun D σ H h => by
    obtain ⟨ω, σd, e0, ok, er, p⟩ := sG_thn (rel := Rep X.K X.mg fld) (r := F) (f := fun σ d S => match Ft d with
      | some l => O.nx (putD l σ) S
      | none => .bad) h
    refine ⟨ω, σd, e0, ok, er, p.mono ?_⟩
    rintro v H1 ⟨ω1, σd1, d, h1, ok1, er1, rd, p1⟩
    subst h1
    cases ht : Ft d with
    | none => simp only [ht] at p1; exact p1.elim
    | some l =>
      simp only [ht] at p1
      exact ⟨ω1, d, rfl, ok1, rd, l, ht, fun lv rl => p1 ω1 _ rfl (.refl ω1) ok1 (er1.putV rl)⟩
/-- o[i] = value: the value, then o, then i -/
theorem ds_setSub {Fo Fi F : FE} {o i : Expr} {p2 : Pos} (ho : DE X fld W o Fo) (hi : DE X fld W i Fi) (he : DE X fld W e F) (hs : swapsWithSole [.Subscript o i p2] e pos.line X.env = pure false) (hw : swappedStores [.Subscript o i p2] e X.env = pure none)
    (ha : ∀ v, assign (.Subscript o i p2) X.env v = (do
      let ov ← holding [v] (eval o X.env)
      let iv ← holding [v, ov] (eval i X.env)
      standAt p2
      holding [v, ov, iv] (setItem ov iv v)
      release [v, ov, iv] [])) :
    DS X fld W (.Assign [.Subscript o i p2] e pos) (fun σ S => (F σ S).thn σ fun v S => (Fo σ S).thn σ fun d S => (Fi σ S).thn σ fun j S => (setSubD d j v S).thn σ fun _ S => .nx σ S) := by
  have hS : PSet X (fun o i v H Q => ∃ ω d j e, ω.H = H ∧ Ok X.K X.mg fld ω ∧ Rep X.K X.mg fld ω o d ∧ Rep X.K X.mg fld ω i j ∧ Rep X.K X.mg fld ω v e ∧ ∃ S', setSubD d j e ω.S = .ok () S' ∧ ∀ ω', ω'.S = S' → Ext ω ω' → Ok X.K X.mg fld ω' → Q ω'.H) := by
    intro pins s σ H o i v ov iv u Q I ro ri rv ⟨ω, d, j, e, e0, ok, rd, rj, re, S', hset, q⟩
    subst e0
    exact set_of I ro ri rv ok rd rj re hset q
  refine PS.imp (ps_asg he (pg_sub ho hi hS ha) hs hw rfl) fun D σ H h => ?_
  obtain ⟨ω, σd, e0, ok, er, p⟩ := sG_thn (rel := Rep X.K X.mg fld) (r := F) (f := fun σ v S => (Fo σ S).thn σ fun d S => (Fi σ S).thn σ fun j S => (setSubD d j v S).thn σ fun _ S => .nx σ S) h
  refine ⟨ω, σd, e0, ok, er, p.mono ?_⟩
  rintro v H1 ⟨ω1, σd1, dv, h1, ok1, er1, rv, p1⟩
  refine ⟨ω1, σd1, h1, ok1, er1, (PostO.thn (rel := Rep X.K X.mg fld) ok1 er1 p1).mono ?_⟩
  rintro xo H2 ⟨ω2, d, h2, e2, ok2, er2, rd, p2⟩
  refine ⟨ω2, σd1, h2, ok2, er2, (PostO.thn (rel := Rep X.K X.mg fld) ok2 er2 p2).mono ?_⟩
  rintro xi H3 ⟨ω3, j, h3, e3, ok3, er3, rj, p3⟩
  refine ⟨ω3, d, j, dv, h3, ok3, rd.mono ok2 e3, rj, (rv.mono ok1 e2).mono ok2 e3, ?_⟩
  cases hset : setSubD d j dv ω3.S with
  | err x S => 
    exfalso
    unfold setSubD at hset
    split at hset <;> (try split at hset) <;> (try split at hset) <;> cases hset
  | bad => rw [hset] at p3; exact p3.elim
  | ok u S' =>
    rw [hset] at p3
    exact ⟨S', rfl, fun ω' s1 x1 ok' => p3 ω' σ s1 x1 ok' (er3.mono ok3 x1)⟩
end
end MI

set_option Elab.async false
set_option linter.all false
set_option maxRecDepth 100000
set_option maxHeartbeats 4000000
/-! MI13: iterators, op=, raise. -/
namespace MI
open PySem PySem.Spec L2
open PyProof.Rows hiding St

def strItf (x : Str) : Itf := fun i _ => match x.cps.toList[i]? with
  | some c => .item (.str ⟨#[c]⟩)
  | none => .stop
def seqItf (d : D) : Itf := fun i S => match seqOf S d with
  | some xs => (match xs[i]? with
    | some x => .item x
    | none => .stop)
  | none => .bad
def itfOf (d : D) : Itf := match d with
  | .str x => strItf x
  | d => seqItf d
def D.isTup : D → Bool
  | .tup _ => true
  | _ => false
def D.isStr : D → Bool
  | .str _ => true
  | _ => false
def seqF (F : FE) : FI := fun σ S => (F σ S).bind fun d S => if d.isStr || (seqOf S d).isSome then .ok (itfOf d) S else .bad
def rngItf (lo : Int) (n : Nat) : Itf := fun i _ => if i < n then .item (.int (lo + i)) else .stop
def small (i : Int) : Bool := decide (-(2 ^ 62) ≤ i) && decide (i < 2 ^ 62)
def rng1F (Fs : FA) : FI := fun σ S => (Fs σ S).bind fun ds S => match ds with
  | [.int j] => if small j then .ok (rngItf 0 j.toNat) S else .bad
  | _ => .bad
def rng2F (Fs : FA) : FI := fun σ S => (Fs σ S).bind fun ds S => match ds with
  | [.int i, .int j] => if small i && small j then .ok (rngItf i (j - i).toNat) S else .bad
  | _ => .bad
def revItf (d : D) (n : Nat) : Itf := fun i S => if i < n then (match seqOf S d with
  | some xs => (match xs[n - 1 - i]? with
    | some x => .item x
    | none => .bad)
  | none => .bad) else .stop
def revF (F : FE) : FI := fun σ S => (F σ S).bind fun d S => match seqOf S d with
  | some xs => .ok (revItf d xs.length) S
  | none => .bad
def enItf (d : D) : Itf := fun i S => match seqOf S d with
  | some xs => (match xs[i]? with
    | some x => .item (.tup [.int (i : Nat), x])
    | none => .stop)
  | none => .bad
def enF (Fs : FA) : FI := fun σ S => (Fs σ S).bind fun ds S => match ds with
  | [d] => if !d.isTup && (seqOf S d).isSome then .ok (enItf d) S else .bad
  | _ => .bad
def zipItf (d e : D) : Itf := fun i S => match seqOf S d, seqOf S e with
  | some xs, some ys => (match xs[i]?, ys[i]? with
    | some x, some y => .item (.tup [x, y])
    | _, _ => .stop)
  | _, _ => .bad
def zipF (Fs : FA) : FI := fun σ S => (Fs σ S).bind fun ds S => match ds with
  | [d, e] => if (d.isTup == e.isTup) && (seqOf S d).isSome && (seqOf S e).isSome then .ok (zipItf d e) S else .bad
  | _ => .bad

section
variable {K : PySem.W.Frag} {mg : Str → Option Value} {fld : Str → Option Str} {ω ω1 : Wd} {d : D} {xs : List D} {x : V} {a : Addr}
/-- a list (no tuple) -/
theorem seqL_of (ok : Ok K mg fld ω) (h : Rep K mg fld ω x d) (e : seqOf ω.S d = some xs) (nt : d.isTup = false) : ∃ a vs, x = .ref a ∧ SqL K ω.H a vs ∧ RepL K mg fld ω vs xs := by
  cases d with
  | tup ys => cases nt
  | fls ys =>
    cases e
    cases h with
    | fls g r =>
      refine ⟨_, _, rfl, ?_, r⟩
      rcases g with ⟨o, g⟩ | g
      · exact .inl (.inr ⟨o, g⟩)
      · exact .inr g
  | lst ys =>
    obtain ⟨a, vs, rfl, g1, g2⟩ := lst_of ok h (show lstOf ω.S (.lst ys) = some xs from e)
    exact ⟨a, vs, rfl, SqL.of g1, g2⟩
  | ref n =>
    have e2 : lstOf ω.S (.ref n) = some xs := by
      unfold seqOf at e
      unfold lstOf
      unfold top at e ⊢
      simp only at e ⊢
      split at e <;> first | exact e | cases e | skip
      all_goals first
        | (rename_i hx; split at hx <;> first | (cases hx; assumption) | cases hx | skip)
        | skip
      all_goals simp_all
    obtain ⟨a, vs, rfl, g1, g2⟩ := lst_of ok h e2
    exact ⟨a, vs, rfl, SqL.of g1, g2⟩
  | _ => cases e
theorem seqT_of (h : Rep K mg fld ω x d) (e : seqOf ω.S d = some xs) (nt : d.isTup = true) : ∃ a vs, x = .ref a ∧ SqT K ω.H a vs ∧ RepL K mg fld ω vs xs := by
  cases d with
  | tup ys =>
    cases e
    exact h.tup_of
  | _ => cases nt
/-- the same items, later -/
theorem itd_list (ok1 : Ok K mg fld ω1) (h : Rep K mg fld ω1 (.ref a) d) (nt : d.isTup = false) : ItD K mg fld ω1 (Itl K a) (seqItf d) := by
  intro ω x ok i
  have r := h.mono ok1 x
  unfold seqItf
  cases hs : seqOf ω.S d with
  | none => exact ⟨fun z => (by cases z), fun d' z => (by cases z)⟩
  | some xs =>
    obtain ⟨b, vs, eb, g1, g2⟩ := seqL_of ok r hs nt
    cases eb
    simp only
    cases hi : xs[i]? with
    | none => exact ⟨fun _ => ⟨vs, g1, by rw [g2.length]; exact List.getElem?_eq_none_iff.mp hi⟩, fun d' z => (by cases z)⟩
    | some y =>
      refine ⟨fun z => (by cases z), fun d' z => ?_⟩
      cases z
      obtain ⟨v, k1, k2⟩ := g2.get hi
      refine ⟨⟨vs, v, g1, k1⟩, fun x H' yl => ?_⟩
      obtain ⟨rfl, yl⟩ := yl
      have e := yl vs g1
      rw [k1] at e
      cases e
      exact ⟨ω, rfl, rfl, .refl ω, ok, k2⟩
theorem itd_tup (ok1 : Ok K mg fld ω1) (h : Rep K mg fld ω1 (.ref a) d) (nt : d.isTup = true) : ItD K mg fld ω1 (Itt K a) (seqItf d) := by
  intro ω x ok i
  have r := h.mono ok1 x
  unfold seqItf
  cases hs : seqOf ω.S d with
  | none => exact ⟨fun z => (by cases z), fun d' z => (by cases z)⟩
  | some xs =>
    obtain ⟨b, vs, eb, g1, g2⟩ := seqT_of r hs nt
    cases eb
    simp only
    cases hi : xs[i]? with
    | none => exact ⟨fun _ => ⟨vs, g1, by rw [g2.length]; exact List.getElem?_eq_none_iff.mp hi⟩, fun d' z => (by cases z)⟩
    | some y =>
      refine ⟨fun z => (by cases z), fun d' z => ?_⟩
      cases z
      obtain ⟨v, k1, k2⟩ := g2.get hi
      refine ⟨⟨vs, v, g1, k1⟩, fun x H' yl => ?_⟩
      obtain ⟨rfl, yl⟩ := yl
      have e := yl vs g1
      rw [k1] at e
      cases e
      exact ⟨ω, rfl, rfl, .refl ω, ok, k2⟩
theorem itd_str {z : Str} : ItD K mg fld ω1 (Its z) (strItf z) := by
  intro ω x ok i
  unfold strItf
  cases hi : z.cps.toList[i]? with
  | none =>
    refine ⟨fun _ => ?_, fun d' z => (by cases z)⟩
    have q := List.getElem?_eq_none_iff.mp hi
    show z.cps.size ≤ i
    simpa using q
  | some c =>
    refine ⟨fun z => (by cases z), fun d' z => ?_⟩
    cases z
    have hlt : i < z.cps.size := by
      have := (List.getElem?_eq_some_iff.mp hi).1
      simpa using this
    refine ⟨hlt, fun x H' yl => ?_⟩
    obtain ⟨rfl, c', hc, rfl⟩ := yl
    have e : c' = c := by
      rw [Array.getElem?_toList] at hi
      rw [hc] at hi
      exact Option.some.inj hi
    subst e
    exact ⟨ω, rfl, rfl, .refl ω, ok, .str _⟩
theorem itd_rng {lo : Int} {n : Nat} : ItD K mg fld ω1 (Itr lo n) (rngItf lo n) := by
  intro ω x ok i
  unfold rngItf
  by_cases h : i < n
  · rw [if_pos h]
    refine ⟨fun z => (by cases z), fun d' z => ?_⟩
    cases z
    refine ⟨h, fun x H' yl => ?_⟩
    obtain ⟨rfl, rfl⟩ := yl
    exact ⟨ω, rfl, rfl, .refl ω, ok, .int _⟩
  · rw [if_neg h]
    exact ⟨fun _ => Nat.le_of_not_lt h, fun d' z => (by cases z)⟩
theorem itd_rev (ok1 : Ok K mg fld ω1) (h : Rep K mg fld ω1 (.ref a) d) (nt : d.isTup = false) (n : Nat) : ItD K mg fld ω1 (Itv K a n) (revItf d n) := by
  intro ω x ok i
  have r := h.mono ok1 x
  unfold revItf
  by_cases hn : i < n
  · rw [if_pos hn]
    cases hs : seqOf ω.S d with
    | none => exact ⟨fun z => (by cases z), fun d' z => (by cases z)⟩
    | some xs =>
      obtain ⟨b, vs, eb, g1, g2⟩ := seqL_of ok r hs nt
      cases eb
      simp only
      cases hi : xs[n - 1 - i]? with
      | none => exact ⟨fun z => (by cases z), fun d' z => (by cases z)⟩
      | some y =>
        refine ⟨fun z => (by cases z), fun d' z => ?_⟩
        cases z
        obtain ⟨v, k1, k2⟩ := g2.get hi
        refine ⟨⟨hn, vs, v, g1, k1⟩, fun x H' yl => ?_⟩
        obtain ⟨rfl, yl⟩ := yl
        have e := yl vs g1
        rw [k1] at e
        cases e
        exact ⟨ω, rfl, rfl, .refl ω, ok, k2⟩
  · rw [if_neg hn]
    exact ⟨fun _ => Nat.le_of_not_lt hn, fun d' z => (by cases z)⟩
theorem itd_revT (ok1 : Ok K mg fld ω1) (h : Rep K mg fld ω1 (.ref a) d) (nt : d.isTup = true) (n : Nat) : ItD K mg fld ω1 (RT.ItvT K a n) (revItf d n) := by
  intro ω x ok i
  have r := h.mono ok1 x
  unfold revItf
  by_cases hn : i < n
  · rw [if_pos hn]
    cases hs : seqOf ω.S d with
    | none => exact ⟨fun z => (by cases z), fun d' z => (by cases z)⟩
    | some xs =>
      obtain ⟨b, vs, eb, g1, g2⟩ := seqT_of r hs nt
      cases eb
      simp only
      cases hi : xs[n - 1 - i]? with
      | none => exact ⟨fun z => (by cases z), fun d' z => (by cases z)⟩
      | some y =>
        refine ⟨fun z => (by cases z), fun d' z => ?_⟩
        cases z
        obtain ⟨v, k1, k2⟩ := g2.get hi
        refine ⟨⟨hn, vs, v, g1, k1⟩, fun x H' yl => ?_⟩
        obtain ⟨rfl, yl⟩ := yl
        have e := yl vs g1
        rw [k1] at e
        cases e
        exact ⟨ω, rfl, rfl, .refl ω, ok, k2⟩
  · rw [if_neg hn]
    exact ⟨fun _ => Nat.le_of_not_lt hn, fun d' z => (by cases z)⟩
/-- a new pair -/
theorem pair_new {T : Addr} {v w : V} {dv dw : D} (ok : Ok K mg fld ω) (hT : ω.H T = none) (r1 : Rep K mg fld ω v dv) (r2 : Rep K mg fld ω w dw) :
    ∃ ω', ω'.S = ω.S ∧ ω'.H = upd ω.H T (.tup [v, w]) ∧ Ext ω ω' ∧ Ok K mg fld ω' ∧ Rep K mg fld ω' (.ref T) (.tup [dv, dw]) := by
  have e := Ext.upd ω (o := .tup [v, w]) hT
  exact ⟨ω.add T (.tup [v, w]), rfl, rfl, e, ok.alloc hT, .tup (SqT.of upd_same) (.cons (r1.mono ok e) (.cons (r2.mono ok e) .nil))⟩
theorem itd_enum (ok1 : Ok K mg fld ω1) (h : Rep K mg fld ω1 (.ref a) d) (nt : d.isTup = false) : ItD K mg fld ω1 (Ite K a) (enItf d) := by
  intro ω x ok i
  have r := h.mono ok1 x
  unfold enItf
  cases hs : seqOf ω.S d with
  | none => exact ⟨fun z => (by cases z), fun d' z => (by cases z)⟩
  | some xs =>
    obtain ⟨b, vs, eb, g1, g2⟩ := seqL_of ok r hs nt
    cases eb
    simp only
    cases hi : xs[i]? with
    | none => exact ⟨fun _ => ⟨vs, g1, by rw [g2.length]; exact List.getElem?_eq_none_iff.mp hi⟩, fun d' z => (by cases z)⟩
    | some y =>
      refine ⟨fun z => (by cases z), fun d' z => ?_⟩
      cases z
      obtain ⟨v, k1, k2⟩ := g2.get hi
      refine ⟨⟨vs, v, g1, k1⟩, fun x H' yl => ?_⟩
      obtain ⟨T, w, rfl, hT, rfl, yl⟩ := yl
      have e := yl vs g1
      rw [k1] at e
      cases e
      exact pair_new ok hT (.int _) k2
theorem itd_zip {e : D} {b : Addr} (ok1 : Ok K mg fld ω1) (h : Rep K mg fld ω1 (.ref a) d) (h2 : Rep K mg fld ω1 (.ref b) e) (nt : d.isTup = false) (nt2 : e.isTup = false) : ItD K mg fld ω1 (Itz K a b) (zipItf d e) := by
  intro ω x ok i
  have r := h.mono ok1 x
  have r2 := h2.mono ok1 x
  unfold zipItf
  cases hs : seqOf ω.S d with
  | none => exact ⟨fun z => (by cases z), fun d' z => (by cases z)⟩
  | some xs =>
    cases hs2 : seqOf ω.S e with
    | none => exact ⟨fun z => (by cases z), fun d' z => (by cases z)⟩
    | some ys =>
      obtain ⟨a', vs, ea, g1, g2⟩ := seqL_of ok r hs nt
      cases ea
      obtain ⟨b', ws, eb, k1, k2⟩ := seqL_of ok r2 hs2 nt2
      cases eb
      simp only
      cases hi : xs[i]? with
      | none => exact ⟨fun _ => ⟨vs, ws, g1, k1, .inl (by rw [g2.length]; exact List.getElem?_eq_none_iff.mp hi)⟩, fun d' z => (by cases z)⟩
      | some p =>
        cases hj : ys[i]? with
        | none => exact ⟨fun _ => ⟨vs, ws, g1, k1, .inr (by rw [k2.length]; exact List.getElem?_eq_none_iff.mp hj)⟩, fun d' z => (by cases z)⟩
        | some q =>
          refine ⟨fun z => (by cases z), fun d' z => ?_⟩
          cases z
          obtain ⟨v, l1, l2⟩ := g2.get hi
          obtain ⟨w, m1, m2⟩ := k2.get hj
          refine ⟨⟨vs, ws, v, w, g1, k1, l1, m1⟩, fun x H' yl => ?_⟩
          obtain ⟨T, v', w', rfl, hT, rfl, y1, y2⟩ := yl
          have e1 := y1 vs g1
          have e2 := y2 ws k1
          rw [l1] at e1
          rw [m1] at e2
          cases e1; cases e2
          exact pair_new ok hT l2 m2
end
section
variable {X : Cx} {fld : Str → Option Str} {W : WX} {e a b c : Expr} {es : List Expr} {pos : Pos} {tg : Expr} {F : FE} {Fs : FA}
theorem PI.imp {tg e : Expr} {t t' : TI} (h : PI X tg e t) (i : ∀ σ H R, t' σ H R → t σ H R) : PI X tg e t' := ⟨fun pins s σ H R I q => h.run pins s σ H R I (i σ H R q)⟩
theorem di_seq (he : DE X fld W e F) : DI X fld W tg e (seqF F) := by
  have hor : PI X tg e (fun σ H R => iList X.K (tG X.K X.mg fld (Rep X.K X.mg fld) W F) σ H R ∨ iTup X.K (tG X.K X.mg fld (Rep X.K X.mg fld) W F) σ H R ∨ iStr (tG X.K X.mg fld (Rep X.K X.mg fld) W F) σ H R) :=
    ⟨fun pins s σ H R I q => q.elim ((pi_list he).run pins s σ H R I) fun q => q.elim ((pi_tup he).run pins s σ H R I) ((pi_str he).run pins s σ H R I)⟩
  refine PI.imp hor fun σ H Rq ⟨ω, σd, e0, ok, er, p⟩ => ?_
  replace p : Post X.K X.mg fld (ItD X.K X.mg fld) W σ ω ((F σd ω.S).bind fun d S => if d.isStr || (seqOf S d).isSome then .ok (itfOf d) S else .bad) Rq := p
  cases hF : F σd ω.S with
  | bad => rw [hF] at p; exact p.elim
  | err x S' =>
    rw [hF] at p
    refine .inl ⟨ω, σd, e0, ok, er, ?_⟩
    rw [hF]
    exact p
  | ok d S' =>
    rw [hF] at p
    simp only [R.bind_ok] at p
    by_cases hz : (d.isStr || (seqOf S' d).isSome) = true
    · rw [if_pos hz] at p
      cases hstr : d.isStr with
      | true =>
        cases d with
        | str z =>
          refine .inr (.inr ⟨ω, σd, e0, ok, er, ?_⟩)
          rw [hF]
          intro ω' s1 x1 ok' v rv
          cases rv
          exact ⟨z, rfl, p ω' s1 x1 ok' _ itd_str⟩
        | _ => cases hstr
      | false =>
        rw [hstr, Bool.false_or] at hz
        obtain ⟨xs, hs⟩ := Option.isSome_iff_exists.mp hz
        have ei : itfOf d = seqItf d := by
          cases d with
          | str z => cases hstr
          | _ => rfl
        rw [ei] at p
        cases ht : d.isTup with
        | true =>
          refine .inr (.inl ⟨ω, σd, e0, ok, er, ?_⟩)
          rw [hF]
          intro ω' s1 x1 ok' v rv
          rw [← s1] at hs
          obtain ⟨a, vs, rfl, g1, g2⟩ := seqT_of rv hs ht
          exact ⟨a, rfl, ⟨vs, g1⟩, p ω' s1 x1 ok' _ (itd_tup ok' rv ht)⟩
        | false =>
          refine .inl ⟨ω, σd, e0, ok, er, ?_⟩
          rw [hF]
          intro ω' s1 x1 ok' v rv
          rw [← s1] at hs
          obtain ⟨a, vs, rfl, g1, g2⟩ := seqL_of ok' rv hs ht
          exact ⟨a, rfl, ⟨vs, g1⟩, p ω' s1 x1 ok' _ (itd_list ok' rv ht)⟩
    · rw [if_neg hz] at p; exact p.elim
theorem di_rng1 {p : Pos} (hg : Gl X "range") (hm : X.mg "range" = none) (pa : Plain a) (ha : DA X fld W [a] Fs) : DI X fld W tg (.Call (.Name "range" p) [a] [] pos) (rng1F Fs) :=
  PI.imp (pi_range1 hg hm ha (pa.star [] X.env)) fun σ H Rq h => by
    obtain ⟨ω, σd, e0, ok, er, p⟩ := tG_bind (rel := RepL X.K X.mg fld) (G := fun σ ds S => match ds with
      | [.int j] => if small j then R.ok (rngItf 0 j.toNat) S else .bad
      | _ => .bad) h
    refine ⟨ω, σd, e0, ok, er, p.mono ?_⟩
    rintro xs H1 ⟨ω1, σd1, ds, h1, ok1, er1, rd, p1⟩
    split at p1
    · obtain ⟨x, rfl, rx⟩ := rd.one_of
      cases rx
      split at p1
      · rename_i hz
        simp only [small, Bool.and_eq_true, decide_eq_true_eq] at hz
        subst h1
        exact ⟨_, rfl, hz.1, hz.2, p1 ω1 rfl (.refl ω1) ok1 _ itd_rng⟩
      · exact p1.elim
    · exact p1.elim
theorem di_rng2 {p : Pos} (hg : Gl X "range") (hm : X.mg "range" = none) (pa : Plain a) (pb : Plain b) (ha : DA X fld W [a, b] Fs) : DI X fld W tg (.Call (.Name "range" p) [a, b] [] pos) (rng2F Fs) :=
  PI.imp (pi_range2 hg hm ha (by rw [pa.star [b] X.env, pb.star [] X.env]; rfl) (pb.star [] X.env)) fun σ H Rq h => by
    obtain ⟨ω, σd, e0, ok, er, p⟩ := tG_bind (rel := RepL X.K X.mg fld) (G := fun σ ds S => match ds with
      | [.int i, .int j] => if small i && small j then R.ok (rngItf i (j - i).toNat) S else .bad
      | _ => .bad) h
    refine ⟨ω, σd, e0, ok, er, p.mono ?_⟩
    rintro xs H1 ⟨ω1, σd1, ds, h1, ok1, er1, rd, p1⟩
    split at p1
    · obtain ⟨x, y, rfl, rx, ry⟩ := rd.two_of
      cases rx; cases ry
      split at p1
      · rename_i hz
        simp only [small, Bool.and_eq_true, decide_eq_true_eq] at hz
        subst h1
        exact ⟨_, _, rfl, ⟨hz.1.1, hz.1.2, hz.2.1, hz.2.2⟩, p1 ω1 rfl (.refl ω1) ok1 _ itd_rng⟩
      · exact p1.elim
    · exact p1.elim
theorem di_rev {p : Pos} (hg : Gl X "reversed") (hm : X.mg "reversed" = none) (pe : Plain e) (he : DE X fld W e F) : DI X fld W tg (.Call (.Name "reversed" p) [e] [] pos) (revF F) :=
  PI.imp (RT.pi_revA hg hm he (pe.star [] X.env)) fun σ H Rq h => by
    obtain ⟨ω, σd, e0, ok, er, p⟩ := tG_bind (rel := Rep X.K X.mg fld) (G := fun σ d S => match seqOf S d with
      | some xs => R.ok (revItf d xs.length) S
      | none => .bad) h
    refine ⟨ω, σd, e0, ok, er, p.mono ?_⟩
    rintro v H1 ⟨ω1, σd1, d, h1, ok1, er1, rd, p1⟩
    subst h1
    cases hs : seqOf ω1.S d with
    | none => simp only [hs] at p1; exact p1.elim
    | some xs =>
      simp only [hs] at p1
      cases ht : d.isTup with
      | false =>
        obtain ⟨a, vs, rfl, g1, g2⟩ := seqL_of ok1 rd hs ht
        refine ⟨a, vs, rfl, .inl ⟨g1, ?_⟩⟩
        rw [g2.length]
        exact p1 ω1 rfl (.refl ω1) ok1 _ (itd_rev ok1 rd ht _)
      | true =>
        obtain ⟨a, vs, rfl, g1, g2⟩ := seqT_of rd hs ht
        refine ⟨a, vs, rfl, .inr ⟨g1, ?_⟩⟩
        rw [g2.length]
        exact p1 ω1 rfl (.refl ω1) ok1 _ (itd_revT ok1 rd ht _)
theorem di_enum {p tpos : Pos} {elts : List Expr} {kk : Nat} (hg : Gl X "enumerate") (hm : X.mg "enumerate" = none) (pa : Plain a) (ha : DA X fld W [a] Fs) : DI X fld W (.Tuple elts kk tpos) (.Call (.Name "enumerate" p) [a] [] pos) (enF Fs) :=
  PI.imp (pi_enum hg hm ha (pa.star [] X.env)) fun σ H Rq h => by
    obtain ⟨ω, σd, e0, ok, er, p⟩ := tG_bind (rel := RepL X.K X.mg fld) (G := fun σ ds S => match ds with
      | [d] => if !d.isTup && (seqOf S d).isSome then R.ok (enItf d) S else .bad
      | _ => .bad) h
    refine ⟨ω, σd, e0, ok, er, p.mono ?_⟩
    rintro xs H1 ⟨ω1, σd1, ds, h1, ok1, er1, rd, p1⟩
    subst h1
    split at p1
    · obtain ⟨x, rfl, rx⟩ := rd.one_of
      split at p1
      · rename_i hz
        simp only [Bool.and_eq_true, Bool.not_eq_true'] at hz
        obtain ⟨ys, hs⟩ := Option.isSome_iff_exists.mp hz.2
        obtain ⟨a, vs, rfl, g1, g2⟩ := seqL_of ok1 rx hs hz.1
        exact ⟨a, vs, rfl, g1, p1 ω1 rfl (.refl ω1) ok1 _ (itd_enum ok1 rx hz.1)⟩
      · exact p1.elim
    · exact p1.elim
theorem di_zip {p tpos : Pos} {elts : List Expr} {kk : Nat} (hg : Gl X "zip") (hm : X.mg "zip" = none) (pa : Plain a) (pb : Plain b) (ha : DA X fld W [a, b] Fs)  (hl : ∀ σ S ds S', Fs σ S = .ok ds S' → ∀ d ∈ ds, d.isTup = false) : DI X fld W (.Tuple elts kk tpos) (.Call (.Name "zip" p) [a, b] [] pos) (zipF Fs) :=
  PI.imp (pi_zip hg hm ha (pa.star [b] X.env) (backTo_any pos [b] X.env fun y hy => by
    have e : y = b := by simpa using hy
    rw [e]; exact pb)) fun σ H Rq ⟨ω, σd, e0, ok, er, p⟩ => by
    refine ⟨ω, σd, e0, ok, er, ?_⟩
    replace p : Post X.K X.mg fld (ItD X.K X.mg fld) W σ ω ((Fs σd ω.S).bind fun ds S => match ds with
      | [d, e] => if (d.isTup == e.isTup) && (seqOf S d).isSome && (seqOf S e).isSome then R.ok (zipItf d e) S else .bad
      | _ => .bad) Rq := p
    cases hF : Fs σd ω.S with
    | bad => rw [hF] at p; exact p.elim
    | err x S' => rw [hF] at p; exact p
    | ok ds S' =>
      rw [hF] at p
      simp only [R.bind_ok] at p
      intro ω1 s1 x1 ok1 vs rd
      have tt := hl _ _ _ _ hF
      split at p
      · obtain ⟨x, y, rfl, rx, ry⟩ := rd.two_of
        split at p
        · rename_i hz
          simp only [Bool.and_eq_true] at hz
          obtain ⟨xs, hs⟩ := Option.isSome_iff_exists.mp hz.1.2
          obtain ⟨ys, hs2⟩ := Option.isSome_iff_exists.mp hz.2
          rw [← s1] at hs hs2
          obtain ⟨a, vs, rfl, g1, g2⟩ := seqL_of ok1 rx hs (tt _ (by simp))
          obtain ⟨b, ws, rfl, k1, k2⟩ := seqL_of ok1 ry hs2 (tt _ (by simp))
          exact ⟨a, b, vs, ws, rfl, g1, k1, p ω1 s1 x1 ok1 _ (itd_zip ok1 rx ry (tt _ (by simp)) (tt _ (by simp)))⟩
        · exact p.elim
      · exact p.elim

/-! ### name op= value (ints) -/
inductive A2 where
  | add | sub
def augD (o : A2) (d e : D) (S : Store) : R D := match d, e with
  | .int i, .int j => (match o with
    | .add => .ok (.int (i + j)) S
    | .sub => .ok (.int (i - j)) S)
  | _, _ => .bad
def augS (o : A2) (i : Nat) (F : FE) : FS := fun σ S => match σ[i]? with
  | some (some d) => (F σ S).thn σ fun e S => (augD o d e S).thn σ fun z S => .nx (σ.set i (some z)) S
  | _ => .bad
theorem ds_aug {o : A2} {i : Nat} {x : Str} {op : Operator} {pos' : Pos} {f : Int → Int → Int} (hN : X.N.Nodup) (hi : X.N[i]? = some x) (hx : Loc X.env.scope x) (he : DE X fld W e F) (ho : PIp X op (ipI f)) (hf : X.fn x = true ∨ X.env.scope.names.lookup x = some .local)
    (ha : ∀ i j S, augD o (.int i) (.int j) S = .ok (.int (f i j)) S) : DS X fld W (.AugAssign (.Name x pos') op e pos) (augS o i F) :=
  PS.imp (ps_aug hN hi hx he ho hf) fun D σ H ⟨ω, σd, e0, ok, er, p⟩ => by
    unfold augS at p
    split at p
    · rename_i d hd
      obtain ⟨v, h1, h2⟩ := er.2 i d hd
      refine ⟨v, h1, ω, σd, e0, ok, er, (PostO.thn (rel := Rep X.K X.mg fld) ok er p).mono ?_⟩
      rintro y H1 ⟨ω1, e', h3, x1, ok1, er1, re, p1⟩
      subst h3
      have r1 := h2.mono ok x1
      cases d with
      | int i' =>
        cases e' with
        | int j' =>
          rw [ha] at p1
          cases r1; cases re
          exact ⟨_, _, rfl, rfl, p1 ω1 _ rfl (.refl ω1) ok1 (er1.set i (.int _))⟩
        | _ => exact p1.elim
      | _ => exact p1.elim
    · exact p.elim

/-! ### raise C(e) -/
def spInit (C : Addr) (f : Str) : Sp := fun vs H Q E => ∃ a y, vs = [.ref a, y] ∧ H a = some (exo a C none) ∧ ∀ d, H d = none → d ≠ a → Q .non (upd (upd H d (exd d [(f, y)])) a (exo a C (some d)))
theorem heap_back {H : Hp} {a d : Addr} {u v w : HO} (ha : H a = none) (hd : H d = none) (hda : d ≠ a) : upd (del (upd (upd (upd H a u) d v) a w) a) d w' = upd H d w' := by
  funext b
  by_cases h1 : b = d
  · subst h1; rw [upd_same, upd_same]
  · rw [upd_ne h1, upd_ne h1]
    by_cases h2 : b = a
    · subst h2; rw [del_same, ha]
    · rw [del_ne h2, upd_ne h2, upd_ne h1, upd_ne h2]
theorem ds_raise {x f : Str} {C fI : Addr} {k : Nat} {fd : FuncData} {ps : List Str} {p : Pos} (hc : X.calm = true) (tk : Takes X W) (T : OexC X.K C) (iC : PySem.W.findIn X.K (.ref C) "__init__" = some (some (.ref fI))) (tI : PySem.W.typeIn X.K (.ref fI) = some (.type "function"))
    (F1 : FnOk X.prog X.w X.K X.mg X.base (L2.CX X.prog X.w) k fI fd ps (spInit C f)) (hr : Room (k + 1) X.A) (hb : Binds X.K fd ps []) (hg : Gl X x) (hm : X.mg x = some (.ref C)) (hf : fld x = some f) (pe : Plain e) (he : DE X fld W e F) (hdb : (x == ("__debug__" : Str)) = false)
    (hx : Passes (L2.CX X.prog X.w) X (fun _ _ _ => False)) : DS X fld W (.Raise (some (.Call (.Name x p) [e] [] pos)) none pos') (fun σ S => (F σ S).thn σ fun d S => .err (.exc x d) σ S) :=
  PS.imp (L2.ps_raise hc tk (pmk_oex T iC tI F1 hr hb .nil hx hg hm (pa_cons he pa_nil (pe.star [] X.env)) hdb (pe.star [] X.env) rfl)) fun D σ H h => by
    obtain ⟨ω, σd, e0, ok, er, p⟩ := sG_thn (rel := Rep X.K X.mg fld) (r := F) (f := fun σ d S => .err (.exc x d) σ S) h
    refine ⟨ω, σd, e0, ok, er, p.mono ?_⟩
    rintro v H1 ⟨ω1, σd1, d, h1, ok1, er1, rd, p1⟩
    subst h1
    refine ⟨by simp, fun a ha => ⟨a, v, rfl, upd_same, fun d' hd' hda => ⟨rfl, d', [(f, v)], upd_same, ?_, ?_, ?_⟩⟩⟩
    · rw [upd_ne hda, upd_same]
    · rw [upd_ne hda] at hd'; exact hd'
    · have hd1 : ω1.H d' = none := by rw [upd_ne hda] at hd'; exact hd'
      rw [heap_back ha hd1 hda]
      have e := Ext.upd ω1 (o := .xd [(f, v)]) hd1
      exact p1 (ω1.add d' (.xd [(f, v)])) σ rfl e (ok1.alloc hd1) (er1.mono ok1 e) _ _ ⟨C, d', f, v, hm, hf, rfl, rfl, upd_same, rd.mono ok1 e⟩
end
end MI

set_option Elab.async false
set_option linter.all false
set_option maxRecDepth 100000
set_option maxHeartbeats 4000000
/-! MI14: list comprehensions. -/
namespace MI
open PySem PySem.Spec L2
open PyProof.Rows hiding St

def noE {α : Type} (r : R α) : R α := match r with
  | .err _ _ => .bad
  | r => r
@[simp] theorem noE_ok {α : Type} (a : α) (S : Store) : noE (R.ok a S) = .ok a S := rfl
@[simp] theorem noE_bad {α : Type} : noE (R.bad : R α) = .bad := rfl
@[simp] theorem noE_err {α : Type} (x : D) (S : Store) : noE (R.err x S : R α) = .bad := rfl
def wipeE (σ : Env) : List Nat → Env
  | [] => σ
  | v :: vs => (wipeE σ vs).set v none
def lcD (itf : Itf) (Ft : Tg) (Fc : FT) (Fe : FE) : Nat → Nat → Env → List D → Store → R (List D)
  | 0, _, _, _, _ => .bad
  | n + 1, i, σ, acc, S => match itf i S with
    | .item d => (match Ft d with
      | some l => (noE (Fc (putD l σ) S)).bind fun b S => if b = true then (noE (Fe (putD l σ) S)).bind fun y S => (if fitL (acc.length + 1) then lcD itf Ft Fc Fe n (i + 1) σ (acc ++ [y]) S else .bad) else lcD itf Ft Fc Fe n (i + 1) σ acc S
      | none => .bad)
    | .stop => .ok acc S
    | .bad => .bad
def lcF (m : Bool) (Fi : FI) (Ft : Tg) (Fc : FT) (Fe : FE) (vs : List Nat) (n : Nat) : FE := fun σ S => (Fi σ S).bind fun itf S => (noE (lcD itf Ft Fc Fe n 0 (wipeE σ vs) [] S)).bind fun xs S => mkL m xs S

/-! ### slots forgotten -/
theorem wipe_get (σ : St) (i : Nat) : ∀ vs : List Nat, (wipe σ vs)[i]? = if i ∈ vs then (if i < σ.length then some none else none) else σ[i]?
  | [] => by simp [wipe]
  | v :: vs => by
    unfold wipe
    rw [List.getElem?_set, wipe_length, wipe_get σ i vs]
    by_cases h : v = i
    · subst h; simp
    · rw [if_neg h]
      have h' : ¬ i = v := fun z => h z.symm
      simp [h']
theorem wipe_put {vs : List Nat} : ∀ {lv : List (Nat × V)} {σ : St}, (∀ p ∈ lv, p.1 ∈ vs) → wipe (putV lv σ) vs = wipe σ vs
  | [], _, _ => rfl
  | (j, v) :: lv, σ, h => by
    have ih := wipe_put (lv := lv) (σ := σ.set j (some v)) fun p hp => h p (List.mem_cons_of_mem _ hp)
    show wipe (putV lv (σ.set j (some v))) vs = _
    rw [ih]
    refine List.ext_getElem? fun i => ?_
    rw [wipe_get, wipe_get, List.length_set]
    by_cases hi : i ∈ vs
    · rw [if_pos hi, if_pos hi]
    · rw [if_neg hi, if_neg hi]
      have : j ≠ i := fun z => hi (z ▸ h (j, v) List.mem_cons_self)
      rw [List.getElem?_set_ne this]
theorem wipe_wipe (σ : St) (vs : List Nat) : wipe (wipe σ vs) vs = wipe σ vs := by
  refine List.ext_getElem? fun i => ?_
  rw [wipe_get, wipe_length, wipe_get]
  by_cases hi : i ∈ vs
  · rw [if_pos hi, if_pos hi]
  · rw [if_neg hi]
section
variable {K : PySem.W.Frag} {mg : Str → Option Value} {fld : Str → Option Str} {ω ω1 ω2 : Wd} {a p : Addr}
theorem ERel.unset {σ : St} {σd : Env} (er : ERel K mg fld ω σ σd) (v : Nat) : ERel K mg fld ω (σ.set v none) (σd.set v none) := by
  refine ⟨by rw [List.length_set, List.length_set]; exact er.1, fun j e h => ?_⟩
  by_cases hj : v = j
  · subst hj
    by_cases hlt : v < σd.length
    · rw [List.getElem?_set_self hlt] at h; cases h
    · rw [List.getElem?_eq_none (by simpa using hlt)] at h; cases h
  · rw [List.getElem?_set_ne hj] at h
    obtain ⟨w, h1, h2⟩ := er.2 j e h
    exact ⟨w, by rw [List.getElem?_set_ne hj]; exact h1, h2⟩
theorem ERel.wipe {σ : St} {σd : Env} (er : ERel K mg fld ω σ σd) : ∀ vs : List Nat, ERel K mg fld ω (wipe σ vs) (wipeE σd vs)
  | [] => er
  | v :: vs => (ERel.wipe er vs).unset v
theorem RepA.slots : ∀ {lv : List (Nat × V)} {l : List (Nat × D)} {vs : List Nat}, RepA K mg fld ω lv l → (∀ p ∈ l, p.1 ∈ vs) → ∀ p ∈ lv, p.1 ∈ vs
  | _, _, _, .nil, _ => fun p hp => by cases hp
  | _, _, _, .cons (i := i) (d := d) _ t, h => fun p hp => by
    rcases List.mem_cons.mp hp with e | hp
    · rw [e]; exact h (i, d) List.mem_cons_self
    · exact RepA.slots t (fun q hq => h q (List.mem_cons_of_mem _ hq)) p hp

/-! ### a place that is hidden -/
theorem excHO_lst {C a : Addr} {dx : Option Addr} {vs : List V} : excHO C dx a ≠ .lst vs := fun z => by unfold excHO at z; cases z
def Wd.hide (ω : Wd) (p : Addr) : Wd := ⟨ω.ι, ω.S, ω.H, fun a => ω.hs a ∨ a = p⟩
def Wd.show_ (ω : Wd) (p : Addr) : Wd := ⟨ω.ι, ω.S, ω.H, fun a => ω.hs a ∧ a ≠ p⟩
def Wd.poke (ω : Wd) (p : Addr) (o : HO) : Wd := ⟨ω.ι, ω.S, upd ω.H p o, ω.hs⟩
theorem ext_hide (ok : Ok K mg fld ω) {o : HO} (hp : ω.H p = none) : Ext ω ((ω.add p o).hide p) := by
  have e := Ext.upd ω (o := o) hp
  exact ⟨e.len, e.idx, e.keep, e.new, fun a h => .inl h, fun a h => h.elim .inl fun z => .inr (z ▸ hp)⟩
theorem ok_hide (ok : Ok K mg fld ω) {o : HO} (hp : ω.H p = none) : Ok K mg fld ((ω.add p o).hide p) := by
  have k := ok.alloc (o := o) hp
  refine ⟨fun n c h => (ok.cell n c h).mono ok (fun u q => ?_) (ext_hide ok hp), k.inj, fun a h => ?_⟩
  · show upd ω.H p o (ω.ι n) = some u
    rw [upd_ne (ne_of_none q hp)]; exact q
  · rcases h with h | h
    · exact k.hid a h
    · subst h
      refine ⟨fun z => ?_, fun n hn => ok.freshC hp n hn⟩
      have z' : upd ω.H a o a = none := z
      rw [upd_same] at z'; cases z'
mutual
theorem Rep.poke {vs ws : List V} (hh : ω.hs p) (hp : ω.H p = some (.lst vs)) : ∀ {v : V} {d : D}, Rep K mg fld ω v d → Rep K mg fld (ω.poke p (.lst ws)) v d
  | _, _, .non => .non
  | _, _, .bl b => .bl b
  | _, _, .int i => .int i
  | _, _, .str x => .str x
  | _, _, .tup (a := a) h r => by
    refine .tup ?_ (RepL.poke hh hp r)
    rcases h with (h | ⟨o, h⟩) | h
    · exact .inl (.inl (by show upd ω.H p _ a = _; rw [upd_ne (fun z => by rw [z, hp] at h; cases h)]; exact h))
    · exact .inl (.inr ⟨o, by show upd ω.H p _ a = _; rw [upd_ne (fun z => by rw [z, hp] at h; cases h)]; exact h⟩)
    · exact .inr h
  | _, _, .lst (a := a) h n r => by
    refine .lst ?_ n (RepL.poke hh hp r)
    show upd ω.H p _ a = _
    rw [upd_ne (fun z : a = p => n.2 (by rw [z]; exact hh))]; exact h
  | _, _, .fls (a := a) h r => by
    refine .fls ?_ (RepL.poke hh hp r)
    rcases h with ⟨o, h⟩ | h
    · exact .inl ⟨o, by show upd ω.H p _ a = _; rw [upd_ne (fun z => by rw [z, hp] at h; cases h)]; exact h⟩
    · exact .inr h
  | _, _, .dic (a := a) h hl n r => by
    refine .dic ?_ hl n (RepL.poke hh hp r)
    show upd ω.H p _ a = _
    rw [upd_ne (fun z : a = p => n.2 (by rw [z]; exact hh))]; exact h
  | _, _, .ref h => .ref h
  | _, _, .exc (a := a) (dx := dx) h1 h2 h3 h4 r => by
    refine .exc (dx := dx) h1 h2 ?_ ?_ (Rep.poke hh hp r)
    · show upd ω.H p _ a = _
      rw [upd_ne (fun z => by rw [z, hp] at h3; exact excHO_lst (Option.some.inj h3).symm)]; exact h3
    · show upd ω.H p _ dx = _
      rw [upd_ne (fun z => by rw [z, hp] at h4; cases h4)]; exact h4
  | _, _, .exc0 (a := a) h1 h3 => by
    refine .exc0 h1 ?_
    show upd ω.H p _ a = _
    rw [upd_ne (fun z => by rw [z, hp] at h3; exact excHO_lst (Option.some.inj h3).symm)]; exact h3
  | _, _, .fn h => .fn h
theorem RepL.poke {vs ws : List V} (hh : ω.hs p) (hp : ω.H p = some (.lst vs)) : ∀ {xs : List V} {ds : List D}, RepL K mg fld ω xs ds → RepL K mg fld (ω.poke p (.lst ws)) xs ds
  | _, _, .nil => .nil
  | _, _, .cons r t => .cons (Rep.poke hh hp r) (RepL.poke hh hp t)
end
theorem ok_poke {vs ws : List V} (ok : Ok K mg fld ω) (hh : ω.hs p) (hp : ω.H p = some (.lst vs)) : Ok K mg fld (ω.poke p (.lst ws)) := by
  have ne : ∀ n, n < ω.S.length → ω.ι n ≠ p := (ok.hid p hh).2
  refine ⟨fun n c h => ?_, ok.inj, fun a h => ⟨hid_upd (ok.hid a h).1, (ok.hid a h).2⟩⟩
  have hn : n < ω.S.length := (List.getElem?_eq_some_iff.mp h).1
  have q := ok.cell n c h
  cases c with
  | lst xs =>
    obtain ⟨us, h1, h2⟩ := q
    exact ⟨us, by show upd ω.H p _ (ω.ι n) = _; rw [upd_ne (ne n hn)]; exact h1, h2.poke hh hp⟩
  | dic ks xs =>
    obtain ⟨us, h1, h2, h3⟩ := q
    exact ⟨us, by show upd ω.H p _ (ω.ι n) = _; rw [upd_ne (ne n hn)]; exact h1, h2, h3.poke hh hp⟩
theorem ext_poke {o : HO} (e : Ext ω1 ω) (hp : ω1.H p = none) : Ext ω1 (ω.poke p o) :=
  ⟨e.len, e.idx, fun b u h k => by
    show upd ω.H p o b = some u
    rw [upd_ne (ne_of_none h hp)]; exact e.keep b u h k, e.new, e.hid1, e.hid2⟩
mutual
theorem Rep.show_ : ∀ {v : V} {d : D}, Rep K mg fld ω v d → Rep K mg fld (ω.show_ p) v d
  | _, _, .non => .non
  | _, _, .bl b => .bl b
  | _, _, .int i => .int i
  | _, _, .str x => .str x
  | _, _, .tup h r => .tup h (RepL.show_ r)
  | _, _, .lst h n r => .lst h ⟨n.1, fun z => n.2 z.1⟩ (RepL.show_ r)
  | _, _, .fls h r => .fls h (RepL.show_ r)
  | _, _, .dic h hl n r => .dic h hl ⟨n.1, fun z => n.2 z.1⟩ (RepL.show_ r)
  | _, _, .ref (n := n) h => Rep.ref (ω := ω.show_ p) (n := n) h
  | _, _, .exc h1 h2 h3 h4 r => .exc h1 h2 h3 h4 (Rep.show_ r)
  | _, _, .exc0 h1 h3 => .exc0 h1 h3
  | _, _, .fn h => .fn h
theorem RepL.show_ : ∀ {xs : List V} {ds : List D}, RepL K mg fld ω xs ds → RepL K mg fld (ω.show_ p) xs ds
  | _, _, .nil => .nil
  | _, _, .cons r t => .cons (Rep.show_ r) (RepL.show_ t)
end
theorem ok_show (ok : Ok K mg fld ω) : Ok K mg fld (ω.show_ p) := by
  refine ⟨fun n c h => ?_, ok.inj, fun a h => ok.hid a h.1⟩
  have q := ok.cell n c h
  cases c with
  | lst xs => obtain ⟨us, h1, h2⟩ := q; exact ⟨us, h1, h2.show_⟩
  | dic ks xs => obtain ⟨us, h1, h2, h3⟩ := q; exact ⟨us, h1, h2, h3.show_⟩
theorem ext_show (ok1 : Ok K mg fld ω1) (e : Ext ω1 ω) (hp : ω1.H p = none) : Ext ω1 (ω.show_ p) :=
  ⟨e.len, e.idx, e.keep, e.new, fun a h => ⟨e.hid1 a h, fun z => (ok1.hid a h).1 (z ▸ hp)⟩, fun a h => e.hid2 a h.1⟩
/-- a hidden list becomes a cell -/
def Wd.cellAt (ω : Wd) (p : Addr) (c : Cell) : Wd := ⟨fun n => if n = ω.S.length then p else ω.ι n, ω.S ++ [c], ω.H, fun a => ω.hs a ∧ a ≠ p⟩
theorem idx_cellAt {c : Cell} {n : Nat} (h : n < ω.S.length) : (ω.cellAt p c).ι n = ω.ι n := if_neg (Nat.ne_of_lt h)
theorem len_cellAt {c : Cell} : (ω.cellAt p c).S.length = ω.S.length + 1 := by
  show (ω.S ++ [c]).length = _
  rw [List.length_append]; rfl
theorem clear_cellAt {c : Cell} (hh : ω.hs p) (h : ω.clear a) : (ω.cellAt p c).clear a := by
  refine ⟨fun n hn z => ?_, fun z => h.2 z.1⟩
  rw [len_cellAt] at hn
  by_cases h1 : n = ω.S.length
  · subst h1
    have z' : (if ω.S.length = ω.S.length then p else ω.ι ω.S.length) = a := z
    rw [if_pos rfl] at z'
    exact h.2 (z' ▸ hh)
  · rw [idx_cellAt (by omega)] at z
    exact h.1 n (by omega) z
mutual
theorem Rep.cellAt {c : Cell} (hh : ω.hs p) : ∀ {v : V} {d : D}, Rep K mg fld ω v d → Rep K mg fld (ω.cellAt p c) v d
  | _, _, .non => .non
  | _, _, .bl b => .bl b
  | _, _, .int i => .int i
  | _, _, .str x => .str x
  | _, _, .tup h r => .tup h (RepL.cellAt hh r)
  | _, _, .lst h n r => .lst h (clear_cellAt hh n) (RepL.cellAt hh r)
  | _, _, .fls h r => .fls h (RepL.cellAt hh r)
  | _, _, .dic h hl n r => .dic h hl (clear_cellAt hh n) (RepL.cellAt hh r)
  | _, _, .ref (n := n) h => by
    rw [← idx_cellAt (p := p) (c := c) h]
    exact .ref (by rw [len_cellAt]; omega)
  | _, _, .exc h1 h2 h3 h4 r => .exc h1 h2 h3 h4 (Rep.cellAt hh r)
  | _, _, .exc0 h1 h3 => .exc0 h1 h3
  | _, _, .fn h => .fn h
theorem RepL.cellAt {c : Cell} (hh : ω.hs p) : ∀ {xs : List V} {ds : List D}, RepL K mg fld ω xs ds → RepL K mg fld (ω.cellAt p c) xs ds
  | _, _, .nil => .nil
  | _, _, .cons r t => .cons (Rep.cellAt hh r) (RepL.cellAt hh t)
end
theorem ok_cellAt {vs : List V} {xs : List D} (ok : Ok K mg fld ω) (hh : ω.hs p) (hp : ω.H p = some (.lst vs)) (r : RepL K mg fld ω vs xs) : Ok K mg fld (ω.cellAt p (.lst xs)) := by
  refine ⟨fun n c h => ?_, fun i j hi hj e => ?_, fun a h => ⟨(ok.hid a h.1).1, fun n hn z => ?_⟩⟩
  · have h' : (ω.S ++ [.lst xs])[n]? = some c := h
    by_cases hn : n < ω.S.length
    · rw [List.getElem?_append_left hn] at h'
      have q := ok.cell n c h'
      cases c with
      | lst ys =>
        obtain ⟨us, h1, h2⟩ := q
        exact ⟨us, by rw [idx_cellAt hn]; exact h1, h2.cellAt hh⟩
      | dic ks ys =>
        obtain ⟨us, h1, h2, h3⟩ := q
        exact ⟨us, by rw [idx_cellAt hn]; exact h1, h2, h3.cellAt hh⟩
    · have hl := (List.getElem?_eq_some_iff.mp h').1
      rw [List.length_append, List.length_singleton] at hl
      have hz : n = ω.S.length := by omega
      subst hz
      rw [List.getElem?_append_right (Nat.le_refl _), Nat.sub_self] at h'
      have e : Cell.lst xs = c := by simpa using h'
      subst e
      refine ⟨vs, ?_, r.cellAt hh⟩
      show ω.H (if ω.S.length = ω.S.length then p else ω.ι ω.S.length) = _
      rw [if_pos rfl]; exact hp
  · rw [len_cellAt] at hi hj
    have ne := (ok.hid p hh).2
    have e' : (if i = ω.S.length then p else ω.ι i) = (if j = ω.S.length then p else ω.ι j) := e
    by_cases h1 : i = ω.S.length
    · by_cases h2 : j = ω.S.length
      · omega
      · rw [if_pos h1, if_neg h2] at e'
        exact absurd e'.symm (ne j (by omega))
    · by_cases h2 : j = ω.S.length
      · rw [if_neg h1, if_pos h2] at e'
        exact absurd e' (ne i (by omega))
      · rw [if_neg h1, if_neg h2] at e'
        exact ok.inj i j (by omega) (by omega) e'
  · rw [len_cellAt] at hn
    by_cases h1 : n = ω.S.length
    · subst h1
      have z' : (if ω.S.length = ω.S.length then p else ω.ι ω.S.length) = a := z
      rw [if_pos rfl] at z'
      exact h.2 z'.symm
    · rw [idx_cellAt (by omega)] at z
      exact (ok.hid a h.1).2 n (by omega) z
theorem ext_cellAt {c : Cell} (ok1 : Ok K mg fld ω1) (e : Ext ω1 ω) (hp : ω1.H p = none) : Ext ω1 (ω.cellAt p c) := by
  refine ⟨by rw [len_cellAt]; exact Nat.le_succ_of_le e.len, fun n hn => by rw [idx_cellAt (Nat.lt_of_lt_of_le hn e.len)]; exact e.idx n hn, e.keep, fun n h1 h2 => ?_, fun a h => ⟨e.hid1 a h, fun z => (ok1.hid a h).1 (z ▸ hp)⟩, fun a h => e.hid2 a h.1⟩
  rw [len_cellAt] at h2
  by_cases hz : n = ω.S.length
  · show ω1.H (if n = ω.S.length then p else ω.ι n) = none
    rw [if_pos hz]; exact hp
  · rw [idx_cellAt (by omega)]
    exact e.new n h1 (by omega)
end

/-! ### the comprehension -/
abbrev W0 : WX := fun _ _ _ _ => False
theorem takes0 (X : Cx) : Takes X W0 := fun _ _ ⟨_, _, _, _, _, _, _, _, _, _, _, _, _, _, _, _, w⟩ => w.elim
section
variable {K : PySem.W.Frag} {mg : Str → Option Value} {fld : Str → Option Str} {ω ω1 : Wd}
def LcP (K : PySem.W.Frag) (mg : Str → Option Value) (fld : Str → Option Str) (ω1 : Wd) (p : Addr) (Q : VK) (r : R (List D)) : Prop :=
  match r with
  | .ok xs S' => ∀ ω' vs, ω'.S = S' → Ext ω1 ω' → Ok K mg fld ω' → ω'.hs p → ω'.H p = some (.lst vs) → RepL K mg fld ω' vs xs → Q (.ref p) ω'.H
  | _ => False
theorem lc_bind {α β : Type} {rel : Wd → β → α → Prop} {r : R α} {f : α → Store → R (List D)} {p : Addr} {Q : VK} {σ : St} (ok : Ok K mg fld ω) (h : LcP K mg fld ω1 p Q ((noE r).bind f)) :
    Post K mg fld rel W0 σ ω r (fun b H1 => ∃ ω' a, ω'.H = H1 ∧ Ext ω ω' ∧ Ok K mg fld ω' ∧ rel ω' b a ∧ LcP K mg fld ω1 p Q (f a ω'.S)) := by
  cases r with
  | ok a S' =>
    intro ω' e1 e2 e3 b rb
    refine ⟨ω', a, rfl, e2, e3, rb, ?_⟩
    rw [e1]
    exact h
  | err x S' => exact h.elim
  | bad => exact h.elim
end
def DTs (X : Cx) (fld : Str → Option Str) (W : WX) (ifs : List Expr) (F : FT) : Prop := PTs X ifs (tG X.K X.mg fld relB W F)
section
variable {X : Cx} {fld : Str → Option Str} {W : WX} {e a b c : Expr} {pos : Pos}
theorem PTs.imp {X : Cx} {ifs : List Expr} {t t' : TT} (h : PTs X ifs t) (i : ∀ σ H Q, t' σ H Q → t σ H Q) : PTs X ifs t' := ⟨fun pins s σ H Q I q => h.run pins s σ H Q I (i σ H Q q)⟩
theorem dts_nil : DTs X fld W [] (fun _ S => .ok true S) := PTs.imp pts_nil fun σ H Q ⟨ω, σd, e0, ok, er, p⟩ => by
  subst e0
  exact p ω rfl (.refl ω) ok true rfl
theorem dts_one {F : FT} (h : DT X fld W c F) : DTs X fld W [c] F := pts_one h
theorem tLc_of {Fi : FI} {Ft : Tg} {Fc : FT} {Fe : FE} {m : Bool} {vs : List Nat} {n : Nat} (hsl : ∀ d l, Ft d = some l → ∀ p ∈ l, p.1 ∈ vs) {σ : St} {H : Hp} {Q : VK} (h : tG X.K X.mg fld (Rep X.K X.mg fld) W (lcF m Fi Ft Fc Fe vs n) σ H Q) :
    tLc (tG X.K X.mg fld (ItD X.K X.mg fld) W Fi) (gG X.K X.mg fld Ft) (tG X.K X.mg fld relB W0 Fc) (tG X.K X.mg fld (Rep X.K X.mg fld) W0 Fe) vs σ H Q := by
  obtain ⟨ω, σd, e0, ok, er, p⟩ := tG_bind (rel := ItD X.K X.mg fld) (G := fun σ itf S => (noE (lcD itf Ft Fc Fe n 0 (wipeE σ vs) [] S)).bind fun xs S => mkL m xs S) h
  refine ⟨ω, σd, e0, ok, er, p.mono ?_⟩
  rintro J H1 ⟨ω1, σd1, itf, h1, ok1, er1, it, p1⟩
  intro D hD
  subst h1
  have x0 : Ext ω1 ((ω1.add D (.lst [])).hide D) := ext_hide ok1 hD
  have ok0 : Ok X.K X.mg fld ((ω1.add D (.lst [])).hide D) := ok_hide ok1 hD
  have start : LcP X.K X.mg fld ω1 D Q (lcD itf Ft Fc Fe n 0 (wipeE σd1 vs) [] ω1.S) := by
    cases hr : lcD itf Ft Fc Fe n 0 (wipeE σd1 vs) [] ω1.S with
    | err x S' => simp only [hr] at p1; exact p1.elim
    | bad => simp only [hr] at p1; exact p1.elim
    | ok xs S' =>
      simp only [hr, noE_ok, R.bind_ok] at p1
      intro ω' us s1 x1 ok' hh hp r
      cases m with
      | false =>
        refine p1 (ω'.show_ D) s1 (ext_show ok1 x1 hD) (ok_show ok') _ (.lst hp ⟨(ok'.hid D hh).2, fun z => z.2 rfl⟩ r.show_)
      | true =>
        have z : Rep X.K X.mg fld (ω'.cellAt D (.lst xs)) (.ref ((ω'.cellAt D (.lst xs)).ι ω'.S.length)) (.ref ω'.S.length) := .ref (by rw [len_cellAt]; omega)
        have e : (ω'.cellAt D (.lst xs)).ι ω'.S.length = D := if_pos rfl
        rw [e] at z
        refine p1 (ω'.cellAt D (.lst xs)) (by show ω'.S ++ _ = _; rw [s1]) (ext_cellAt ok1 x1 hD) (ok_cellAt ok' hh hp r) _ ?_
        rw [← s1]
        exact z
  refine ⟨fun i m H => ∃ ω acc us, ω.H = H ∧ Ok X.K X.mg fld ω ∧ Ext ω1 ω ∧ ω.hs D ∧ ω.H D = some (.lst us) ∧ RepL X.K X.mg fld ω us acc ∧ LcP X.K X.mg fld ω1 D Q (lcD itf Ft Fc Fe m i (wipeE σd1 vs) acc ω.S),
    ⟨n, (ω1.add D (.lst [])).hide D, [], [], rfl, ok0, x0, .inr rfl, upd_same, .nil, start⟩, ?_⟩
  rintro i k H ⟨ω, acc, us, h2, ok2, x2, hh, hD2, rl, p2⟩
  cases k with
  | zero => exact p2.elim
  | succ k =>
    replace p2 : LcP X.K X.mg fld ω1 D Q (match itf i ω.S with
      | .item d => (match Ft d with
        | some l => (noE (Fc (putD l (wipeE σd1 vs)) ω.S)).bind fun b S => if b = true then (noE (Fe (putD l (wipeE σd1 vs)) S)).bind fun y S => (if fitL (acc.length + 1) then lcD itf Ft Fc Fe k (i + 1) (wipeE σd1 vs) (acc ++ [y]) S else .bad) else lcD itf Ft Fc Fe k (i + 1) (wipeE σd1 vs) acc S
        | none => .bad)
      | .stop => .ok acc ω.S
      | .bad => .bad) := p2
    obtain ⟨it1, it2⟩ := it ω x2 ok2 i
    subst h2
    cases hi : itf i ω.S with
    | bad => rw [hi] at p2; exact p2.elim
    | stop =>
      rw [hi] at p2
      exact .inl ⟨it1 hi, p2 ω us rfl x2 ok2 hh hD2 rl⟩
    | item d =>
      rw [hi] at p2
      obtain ⟨go, yl⟩ := it2 d hi
      refine .inr ⟨go, fun H' => ∃ ω acc us, ω.H = H' ∧ Ok X.K X.mg fld ω ∧ Ext ω1 ω ∧ ω.hs D ∧ ω.H D = some (.lst us) ∧ RepL X.K X.mg fld ω us acc ∧ LcP X.K X.mg fld ω1 D Q (lcD itf Ft Fc Fe k (i + 1) (wipeE σd1 vs) acc ω.S), fun H' q => ⟨k, Nat.lt_succ_self k, q⟩, fun x H' y => ?_⟩
      obtain ⟨ω3, s3, h3, e3, ok3, r3⟩ := yl x H' y
      cases ht : Ft d with
      | none => simp only [ht] at p2; exact p2.elim
      | some l =>
        simp only [ht] at p2
        rw [← s3] at p2
        refine ⟨ω3, d, h3, ok3, r3, l, ht, fun lv rlv => ⟨?_, ?_⟩⟩
        · rw [wipe_put (rlv.slots (hsl d l ht)), wipe_wipe]
        · have x3 : Ext ω1 ω3 := x2.trans ok1 ok2 e3
          have er3 : ERel X.K X.mg fld ω3 (putV lv (wipe σ vs)) (putD l (wipeE σd1 vs)) := ((er1.mono ok1 x3).wipe vs).putV rlv
          have hh3 := e3.hid1 D hh
          have hD3 : ω3.H D = some (.lst us) := e3.keep D _ hD2 (ok2.hid D hh).2
          have rl3 := rl.mono ok2 e3
          refine ⟨ω3, _, h3, ok3, er3, (lc_bind (rel := relB) ok3 p2).mono ?_⟩
          rintro t H4 ⟨ω4, t', h4, e4, ok4, rt, p4⟩
          cases rt
          have x4 := x3.trans ok1 ok3 e4
          have er4 := er3.mono ok3 e4
          have hh4 := e4.hid1 D hh3
          have hD4 : ω4.H D = some (.lst us) := e4.keep D _ hD3 (ok3.hid D hh3).2
          have rl4 := rl3.mono ok3 e4
          cases t with
          | false =>
            rw [if_neg Bool.false_ne_true] at p4 ⊢
            exact ⟨ω4, acc, us, h4, ok4, x4, hh4, hD4, rl4, p4⟩
          | true =>
            rw [if_pos rfl] at p4 ⊢
            refine ⟨ω4, _, h4, ok4, er4, (lc_bind (rel := Rep X.K X.mg fld) ok4 p4).mono ?_⟩
            rintro y H5 ⟨ω5, y', h5, e5, ok5, ry, p5⟩
            have x5 := x4.trans ok1 ok4 e5
            have hh5 := e5.hid1 D hh4
            have hD5 : ω5.H D = some (.lst us) := e5.keep D _ hD4 (ok4.hid D hh4).2
            have rl5 := rl4.mono ok4 e5
            subst h5
            by_cases hz : fitL (acc.length + 1) = true
            · rw [if_pos hz] at p5
              have hz' : acc.length + 1 ≤ sizeLine := of_decide_eq_true hz
              refine ⟨us, hD5, by rw [rl5.length]; omega, ω5.poke D (.lst (us ++ [y])), acc ++ [y'], us ++ [y], rfl, ok_poke ok5 hh5 hD5, ext_poke x5 hD, hh5, upd_same, ?_, p5⟩
              exact (rl5.poke hh5 hD5).append (.cons (ry.poke hh5 hD5) .nil)
            · rw [if_neg hz] at p5; exact p5.elim
theorem de_lc {elt tg iter : Expr} {ifs : List Expr} {scope : Scope} {own : List (Str × Nat)} {Fi : FI} {Ft : Tg} {Fc : FT} {Fe : FE} {m : Bool} {n : Nat} (hc : X.calm = true) (hN : X.N.Nodup) (hi : DI X fld W tg iter Fi) (ok : BlkOk X.N X.env.scope scope own)
    (hg : ∀ (s : Shared) (H : Hp) (C : Addr) (cl : List (Str × Addr)) (fp : List Addr), DG (X.blk s H scope (compEnvC scope cl C X.env) fp) fld tg Ft) (ht : ∀ (s : Shared) (H : Hp) (C : Addr) (cl : List (Str × Addr)) (fp : List Addr), DTs (X.blk s H scope (compEnvC scope cl C X.env) fp) fld W0 ifs Fc)
    (he : ∀ (s : Shared) (H : Hp) (C : Addr) (cl : List (Str × Addr)) (fp : List Addr), DE (X.blk s H scope (compEnvC scope cl C X.env) fp) fld W0 elt Fe) (hs : ∀ x, foldedSetIterable iter X.env x = pure x) (hsl : ∀ d l, Ft d = some l → ∀ p ∈ l, p.1 ∈ own.map (·.2)) :
    DE X fld W (.ListComp elt [⟨tg, iter, ifs, 0⟩] scope pos) (lcF m Fi Ft Fc Fe (own.map (·.2)) n) :=
  PE.imp (pe_lc (g := gG X.K X.mg fld Ft) (tt := tG X.K X.mg fld relB W0 Fc) (te := tG X.K X.mg fld (Rep X.K X.mg fld) W0 Fe) hc hN hi ok hg ht he hs) fun σ H Q h => tLc_of hsl h
theorem ds_setLc {i : Nat} {y : Str} {py spos : Pos} {elt tg iter : Expr} {ifs : List Expr} {scope : Scope} {own : List (Str × Nat)} {Fi : FI} {Ft : Tg} {Fc : FT} {Fe : FE} {m : Bool} {n : Nat} (hc : X.calm = true) (hN : X.N.Nodup) (hy : X.N[i]? = some y) (hyl : X.env.scope.names.lookup y = some .local)
    (hsw : swapsWith (.ListComp elt [⟨tg, iter, ifs, 0⟩] scope pos) (some (.Name y py)) spos.line X.env = pure true) (hi : DI X fld W tg iter Fi) (ok : BlkOk X.N X.env.scope scope own)
    (hg : ∀ (s : Shared) (H : Hp) (C : Addr) (cl : List (Str × Addr)) (fp : List Addr), DG (X.blk s H scope (compEnvC scope cl C X.env) fp) fld tg Ft) (ht : ∀ (s : Shared) (H : Hp) (C : Addr) (cl : List (Str × Addr)) (fp : List Addr), DTs (X.blk s H scope (compEnvC scope cl C X.env) fp) fld W0 ifs Fc)
    (he : ∀ (s : Shared) (H : Hp) (C : Addr) (cl : List (Str × Addr)) (fp : List Addr), DE (X.blk s H scope (compEnvC scope cl C X.env) fp) fld W0 elt Fe) (hs : ∀ x, foldedSetIterable iter X.env x = pure x) (hsl : ∀ d l, Ft d = some l → ∀ p ∈ l, p.1 ∈ own.map (·.2)) :
    DS X fld W (.Assign [.Name y py] (.ListComp elt [⟨tg, iter, ifs, 0⟩] scope pos) spos) (fun σ S => (lcF m Fi Ft Fc Fe (own.map (·.2)) n σ S).thn σ fun d S => .nx (σ.set i (some d)) S) :=
  PS.imp (ps_setLc (g := gG X.K X.mg fld Ft) (tt := tG X.K X.mg fld relB W0 Fc) (te := tG X.K X.mg fld (Rep X.K X.mg fld) W0 Fe) hc hN hy hyl hsw hi ok hg ht he hs) fun D σ H h => by
    obtain ⟨ω, σd, e0, ok, er, p⟩ := sG_thn (rel := Rep X.K X.mg fld) (r := lcF m Fi Ft Fc Fe (own.map (·.2)) n) (f := fun σ d S => .nx (σ.set i (some d)) S) h
    refine tLc_of (m := m) (n := n) hsl ⟨ω, σd, e0, ok, er, p.mono ?_⟩
    rintro v H1 ⟨ω1, σd1, d, h1, ok1, er1, rd, p1⟩
    subst h1
    exact p1 ω1 _ rfl (.refl ω1) ok1 (er1.set i rd)
end
end MI

set_option Elab.async false
set_option linter.all false
set_option maxRecDepth 100000
set_option maxHeartbeats 4000000
/-! MI15: a def by its body. -/
namespace MI
open PySem PySem.Spec L2
open PyProof.Rows hiding St

def finish (o : O) : R D := match o with
  | .ret d S => .ok d S
  | .nx _ S => .ok .non S
  | .err x _ S => .err x S
  | _ => .bad
@[simp] theorem finish_ret (d : D) (S : Store) : finish (.ret d S) = .ok d S := rfl
@[simp] theorem finish_nx (σ : Env) (S : Store) : finish (.nx σ S) = .ok .non S := rfl
@[simp] theorem finish_err (x : D) (σ : Env) (S : Store) : finish (.err x σ S) = .err x S := rfl
@[simp] theorem finish_bad : finish .bad = .bad := rfl
def startD (n : Nat) (ds : List D) : Env := ds.map some ++ List.replicate (n - ds.length) none
section
variable {K : PySem.W.Frag} {mg : Str → Option Value} {fld : Str → Option Str} {ω : Wd}
theorem ERel.start {N : List Str} {vs : List V} {ds : List D} (r : RepL K mg fld ω vs ds) : ERel K mg fld ω (start N vs) (startD N.length ds) := by
  have hl := r.length
  refine ⟨by unfold L2.start startD; simp [hl], fun i d h => ?_⟩
  unfold startD at h
  by_cases hi : i < ds.length
  · rw [List.getElem?_append_left (by simpa using hi)] at h
    rw [List.getElem?_map] at h
    cases e : ds[i]? with
    | none => rw [e] at h; cases h
    | some d' =>
      rw [e] at h
      cases h
      obtain ⟨v, h1, h2⟩ := r.get e
      refine ⟨v, ?_, h2⟩
      unfold L2.start
      rw [List.getElem?_append_left (by rw [List.length_map, hl]; exact hi), List.getElem?_map, h1]
      rfl
  · rw [List.getElem?_append_right (by simpa using hi)] at h
    rw [List.getElem?_replicate] at h
    split at h <;> cases h
end
section
variable {P : Program} {w : World} {K : PySem.W.Frag} {mg : Str → Option Value} {base : Heap} {fld : Str → Option Str}
theorem fn_D {x qual : Str} {st : Stmt} {f : Addr} {fd : FuncData} {N ps : List Str} {k : Nat} {G : FS} (Fn : Fun K x qual st f fd) (Sc : FnScope N ps (defScope st))
    (hbody : ∀ (cdv : Value) (A : Around) (outer : List PySem.Env) (s : Shared) (H : Hp) (E : XK), Room k (A.deeper (envOfC qual (defScope st) s.heap.objs.size f cdv)) →
      DB (cxOf (L2.CX P w) P w K mg base N qual (defScope st) f cdv A outer s H E) fld (fun cls d _ H => E cls d H) (defBody st) G) :
    FnOk P w K mg base (L2.CX P w) (k + 1) f fd ps (spD K mg fld ps.length fun ds S => finish (G (startD N.length ds) S)) := by
  refine Fn.okX Sc (fun vs H Q E h => h.1) (fun cdv A outer s H vs Q E hr h => ⟨_, hbody cdv A outer s H E hr, ?_⟩)
  obtain ⟨hlen, ω, ds, e0, ok, rl, p⟩ := h
  refine ⟨ω, startD N.length ds, e0, ok, .start rl, ?_⟩
  cases hG : G (startD N.length ds) ω.S with
  | nx σd S' =>
    simp only [hG, finish_nx] at p
    exact fun ω' σ e1 e2 e3 er => p ω' e1 e2 e3 _ .non
  | ret d S' =>
    simp only [hG, finish_ret] at p
    exact fun ω' v e1 e2 e3 r => p ω' e1 e2 e3 v r
  | err y σd S' =>
    simp only [hG, finish_err] at p
    exact fun ω' σ e1 e2 e3 er cls dd hx => p ω' e1 e2 e3 cls dd hx
  | brk σd S' => simp only [hG] at p; exact p.elim
  | ct σd S' => simp only [hG] at p; exact p.elim
  | bad => simp only [hG] at p; exact p.elim
theorem takesX {N : List Str} {qual : Str} {scope : Scope} {f : Addr} {cdv : Value} {A : Around} {outer : List PySem.Env} {s : Shared} {H : Hp} {E : XK} : Takes (cxOf (L2.CX P w) P w K mg base N qual scope f cdv A outer s H E) (fun cls d _ H => E cls d H) := takes_of rfl rfl rfl rfl
theorem ownX {N : List Str} {qual : Str} {scope : Scope} {f : Addr} {cdv : Value} {A : Around} {outer : List PySem.Env} {s : Shared} {H : Hp} {E : XK} : PassesOwn (model P w) (cxOf (L2.CX P w) P w K mg base N qual scope f cdv A outer s H E).A (cxOf (L2.CX P w) P w K mg base N qual scope f cdv A outer s H E).env (cxOf (L2.CX P w) P w K mg base N qual scope f cdv A outer s H E).xe := passes_of rfl
end
/-! ### plain expressions -/
theorem plain_name {x : Str} {p : Pos} : Plain (.Name x p) := ⟨fun _ _ => rfl, fun _ _ => rfl⟩
theorem plain_const {c : Const} {j : Nat} {p : Pos} : Plain (.Constant c j p) := ⟨fun _ _ => rfl, fun _ _ => rfl⟩
theorem plain_tup {es : List Expr} {j : Nat} {p : Pos} : Plain (.Tuple es j p) := ⟨fun _ _ => rfl, fun _ _ => rfl⟩
theorem plain_lst {es : List Expr} {p : Pos} : Plain (.List es p) := ⟨fun _ _ => rfl, fun _ _ => rfl⟩
theorem plain_bin {a b : Expr} {o : Operator} {p : Pos} : Plain (.BinOp a o b p) := ⟨fun _ _ => rfl, fun _ _ => rfl⟩
theorem plain_cmp {a : Expr} {os : List CmpOp} {bs : List Expr} {p : Pos} : Plain (.Compare a os bs p) := ⟨fun _ _ => rfl, fun _ _ => rfl⟩
theorem plain_sub {a b : Expr} {p : Pos} : Plain (.Subscript a b p) := ⟨fun _ _ => rfl, fun _ _ => rfl⟩
theorem plain_att {a : Expr} {x : Str} {p : Pos} : Plain (.Attribute a x p) := ⟨fun _ _ => rfl, fun _ _ => rfl⟩
theorem plain_lc {a : Expr} {gs : List Comprehension} {sc : Scope} {p : Pos} : Plain (.ListComp a gs sc p) := ⟨fun _ _ => rfl, fun _ _ => rfl⟩
theorem plain_bool {o : BoolOp} {es : List Expr} {p : Pos} : Plain (.BoolOp o es p) := ⟨fun _ _ => rfl, fun _ _ => rfl⟩
theorem plain_un {o : UnaryOp} {e : Expr} {p : Pos} : Plain (.UnaryOp o e p) := ⟨fun _ _ => rfl, fun _ _ => rfl⟩
theorem plain_if {a b c : Expr} {p : Pos} : Plain (.IfExp a b c p) := ⟨fun _ _ => rfl, fun _ _ => rfl⟩
theorem plain_dic {ks : List (Option Expr)} {vs : List Expr} {p : Pos} : Plain (.Dict ks vs p) := ⟨fun _ _ => rfl, fun _ _ => rfl⟩
theorem plain_call1 {f e : Expr} {es : List Expr} {ks : List Keyword} {p : Pos} : Plain (.Call f (e :: es) ks p) := ⟨fun _ _ => rfl, fun _ _ => by cases f <;> rfl⟩
theorem plain_callA {o : Expr} {x : Str} {p1 : Pos} {es : List Expr} {ks : List Keyword} {p : Pos} : Plain (.Call (.Attribute o x p1) es ks p) := ⟨fun _ _ => rfl, fun _ _ => rfl⟩
theorem plain_all1 {e : Expr} (h : Plain e) : ∀ y ∈ [e], Plain y := fun y hy => by
  have : y = e := by simpa using hy
  rw [this]; exact h
theorem plain_allC {e : Expr} {es : List Expr} (h : Plain e) (hs : ∀ y ∈ es, Plain y) : ∀ y ∈ e :: es, Plain y := fun y hy => (List.mem_cons.mp hy).elim (fun z => z ▸ h) (hs y)
theorem plain_allN : ∀ y ∈ ([] : List Expr), Plain y := fun y hy => by cases hy
end MI

set_option Elab.async false
set_option linter.all false
set_option maxRecDepth 100000
set_option maxHeartbeats 4000000
/-! MI16: short words for the bodies. -/
namespace MI
open PySem PySem.Spec L2
open PyProof.Rows hiding St

section
variable {X : Cx} {fld : Str → Option Str} {W : WX} {e a b c o : Expr} {es : List Expr} {pos p apos : Pos} {F Fa Fb Fo : FE} {Fs : FA}
theorem kv (i : Nat) {x : Str} (hN : X.N[i]? = some x := by rfl) (hv : Vis X.env.scope x := by first | exact Or.inl rfl | exact Or.inr (Or.inl rfl) | exact Or.inr (Or.inr rfl)) (hd : (x == ("__debug__" : Str)) = false := by decide)
    (hcd : (x == ("__classdict__" : Str)) = false := by decide) : DE X fld W (.Name x pos) (varD i) := de_var (pv i hN hv hd hcd)
def cstD (d : D) : FE := fun _ S => .ok d S
theorem k_non {j : Nat} : DE X fld W (.Constant .none j pos) (cstD .non) := de_c pe_non fun _ _ => .non
theorem k_bl {x : Bool} {j : Nat} : DE X fld W (.Constant (.bool x) j pos) (cstD (.bl x)) := de_c pe_bl fun _ _ => .bl x
theorem k_int {i : Int} {j : Nat} : DE X fld W (.Constant (.int i) j pos) (cstD (.int i)) := de_c pe_int fun _ _ => .int i
theorem k_str {x : Str} {j : Nat} : DE X fld W (.Constant (.str x) j pos) (cstD (.str x)) := de_c pe_str fun _ _ => .str x
/-- isinstance(a, T) -/
def isF (G : Gs) (u : Str) (Fa : FE) : FE := fun σ S => (Fa σ S).bind fun d S => biD G (.isTy [u]) false [d] S
theorem k_isB {G : Gs} {T : String} {u : Str} (GO : GsOk X.K X.mg G) (hm : X.mg "isinstance" = none) (hu : X.mg u = none) (hv : bootBuiltins u = some (.type T)) (pa : Plain a) (ha : DE X fld W a Fa) (hT : bTy u = T := by decide) (hn : u ≠ "__name__" := by decide) (hd : (u == ("__debug__" : Str)) = false := by decide)
    (hg : Gl X "isinstance" := by rfl) (hg2 : Gl X u := by rfl) :
    DE X fld W (.Call (.Name "isinstance" p) [a, .Name u apos] [] pos) (isF G u Fa) :=
  de_is GO hg hm pa plain_name ha (pe_bltn hg2 hu hv (show RelV (.ty T) (.type T) from rfl) hn hd) fun w' r => by
    rw [show w' = .type T from r]
    unfold clsVal
    rw [hu, ← hT]; rfl
theorem k_isC {G : Gs} {C : Addr} {u : Str} (GO : GsOk X.K X.mg G) (hm : X.mg "isinstance" = none) (hu : X.mg u = some (.ref C)) (pa : Plain a) (ha : DE X fld W a Fa) (hd : (u == ("__debug__" : Str)) = false := by decide)
    (hg : Gl X "isinstance" := by rfl) (hg2 : Gl X u := by rfl) :
    DE X fld W (.Call (.Name "isinstance" p) [a, .Name u apos] [] pos) (isF G u Fa) :=
  de_is GO hg hm pa plain_name ha (pe_glob hg2 hu (show RelV (.ref C) (.ref C) from rfl) hd) fun w' r => by
    rw [show w' = .ref C from r]
    unfold clsVal
    rw [hu]; rfl
theorem k_isascii (po : Plain o) (ho : DE X fld W o Fo) (hl : (apos.endLine == pos.line) = true := by rfl) : DE X fld W (.Call (.Attribute o "isascii" apos) [] [] pos) (mt0 "str" (mtD .isascii) Fo) :=
  de_mt0 (noErr_mt _) PySem.F.plainAttrs_str PySem.F.slot_str_isascii (by kernel_rfl) mtD_isascii po ho hl
theorem k_isalpha (po : Plain o) (ho : DE X fld W o Fo) (hl : (apos.endLine == pos.line) = true := by rfl) : DE X fld W (.Call (.Attribute o "isalpha" apos) [] [] pos) (mt0 "str" (mtD .isalpha) Fo) :=
  de_mt0 (noErr_mt _) PySem.F.plainAttrs_str PySem.F.slot_str_isalpha (by kernel_rfl) mtD_isalpha po ho hl
theorem k_islower (po : Plain o) (ho : DE X fld W o Fo) (hl : (apos.endLine == pos.line) = true := by rfl) : DE X fld W (.Call (.Attribute o "islower" apos) [] [] pos) (mt0 "str" (mtD .islower) Fo) :=
  de_mt0 (noErr_mt _) PySem.F.plainAttrs_str PySem.F.slot_str_islower (by kernel_rfl) mtD_islower po ho hl
theorem k_pop (po : Plain o) (ho : DE X fld W o Fo) (hl : (apos.endLine == pos.line) = true := by rfl) : DE X fld W (.Call (.Attribute o "pop" apos) [] [] pos) (mt0 "list" (mtD .pop) Fo) :=
  de_mt0 (noErr_mt _) PySem.F.plainAttrs_list PySem.F.slot_list_pop (by kernel_rfl) mtD_pop po ho hl
theorem k_append (po : Plain o) (ho : DE X fld W o Fo) (pa : Plain a) (ha : DA X fld W [a] Fs) (hl : (apos.endLine == pos.line) = true := by rfl) : DE X fld W (.Call (.Attribute o "append" apos) [a] [] pos) (mt1 "list" (mtD .append) Fo Fs) :=
  de_mt1 (noErr_mt _) PySem.F.plainAttrs_list PySem.F.slot_list_append (by kernel_rfl) mtD_append po ho (plain_all1 pa) (by simp) ha hl
def fnF (g : List D → Store → R D) (Fs : FA) : FE := fun σ S => (Fs σ S).bind fun ds S => g ds S
theorem k_len {G : Gs} (hm : X.mg "len" = none) (pa : Plain a) (ha : DA X fld W [a] Fs) (hg : Gl X "len" := by rfl) : DE X fld W (.Call (.Name "len" p) [a] [] pos) (fnF (biD G .len false) Fs) :=
  de_fn (noErr_bi _ _ _) callD_len hg hm PySem.boot_len (by decide) (by decide) (plain_all1 pa) ha
def nilA : FA := fun _ S => .ok [] S
def consA (F : FE) (Fs : FA) : FA := fun σ S => (F σ S).bind fun d S => (Fs σ S).bind fun ds S => .ok (d :: ds) S
theorem k_nilA : DA X fld W [] nilA := da_nil
theorem k_consA (pl : Plain e) (ha : DE X fld W e F) (hs : DA X fld W es Fs) : DA X fld W (e :: es) (consA F Fs) := da_cons pl ha hs
theorem k_oneA (pl : Plain e) (ha : DE X fld W e F) : DA X fld W [e] (consA F nilA) := da_cons pl ha da_nil
def tupF (Fs : FA) : FE := fun σ S => (Fs σ S).bind fun ds S => if fitL ds.length then .ok (.tup ds) S else .bad
def lstF (m : Bool) (Fs : FA) : FE := fun σ S => (Fs σ S).bind fun ds S => if fitL ds.length then mkL m ds S else .bad
theorem k_tup {k : Nat} (h : DA X fld W es Fs) : DE X fld W (.Tuple es k pos) (tupF Fs) := de_tup h
theorem k_lst (m : Bool) (h : DA X fld W es Fs) : DE X fld W (.List es pos) (lstF m Fs) := de_lst h
/-! comparisons -/
theorem k_eq (hu : X.A.units + 64 < cLine) (ha : DE X fld W a Fa) (hb : DE X fld W b Fb) : DE X fld W (.Compare a [.Eq] [b] pos) (binD (op2 .eq false) Fa Fb) := de_cmp (noErr_op2 _ _) (opD_eq hu) ha hb (nomark _)
theorem k_ne (hu : X.A.units + 64 < cLine) (ha : DE X fld W a Fa) (hb : DE X fld W b Fb) : DE X fld W (.Compare a [.NotEq] [b] pos) (binD (op2 .ne false) Fa Fb) := de_cmp (noErr_op2 _ _) (opD_ne hu) ha hb (nomark _)
def tstF (F : FE) : FT := fun σ S => (F σ S).bind fun d S => match d with
  | .bl b => .ok b S
  | _ => .bad
theorem t_eq (hu : X.A.units + 64 < cLine) (ha : DE X fld W a Fa) (hb : DE X fld W b Fb) : DT X fld W (.Compare a [.Eq] [b] pos) (tstF (binD (op2 .eq false) Fa Fb)) := dt_cmp (noErr_op2 _ _) (opD_eq hu) ha hb (nomark _)
theorem t_ne (hu : X.A.units + 64 < cLine) (ha : DE X fld W a Fa) (hb : DE X fld W b Fb) : DT X fld W (.Compare a [.NotEq] [b] pos) (tstF (binD (op2 .ne false) Fa Fb)) := dt_cmp (noErr_op2 _ _) (opD_ne hu) ha hb (nomark _)
def truT (F : FE) : FT := fun σ S => truF (F σ S)
theorem t_val (ha : DE X fld W a Fa) (he : ∀ whole, isTrue a X.env whole = (do let v ← whole; standAt a.pos; holding [v] (truthy v)) := by intro _; rfl) : DT X fld W a (truT Fa) := dt_truth ha he
def notF (F : FT) : FT := fun σ S => notT (F σ S)
theorem t_not {F : FT} (h : DT X fld W a F) : DT X fld W (.UnaryOp .Not a pos) (notF F) := dt_not h
def andF (F G : FT) : FT := fun σ S => andT (F σ S) fun S => G σ S
def orF (F G : FT) : FT := fun σ S => orT (F σ S) fun S => G σ S
theorem w_and1 {F : FT} (h : DT X fld W a F) : DW X fld W (.BoolOp .And [a] pos) F := dw_and1 h
theorem w_or1 {F : FT} (h : DT X fld W a F) : DW X fld W (.BoolOp .Or [a] pos) F := dw_or1 h
theorem w_and {rest : List Expr} {F G : FT} (ha : DT X fld W a F) (hb : DW X fld W (.BoolOp .And (b :: rest) pos) G) : DW X fld W (.BoolOp .And (a :: b :: rest) pos) (andF F G) := dw_and ha hb
theorem w_or {rest : List Expr} {F G : FT} (ha : DT X fld W a F) (hb : DW X fld W (.BoolOp .Or (b :: rest) pos) G) : DW X fld W (.BoolOp .Or (a :: b :: rest) pos) (orF F G) := dw_or ha hb
def andV (F G : FE) : FE := fun σ S => andE (F σ S) fun S => G σ S
def orV (F G : FE) : FE := fun σ S => orE (F σ S) fun S => G σ S
theorem k_and {rest : List Expr} (ha : DE X fld W a Fa) (hb : DE X fld W (.BoolOp .And (b :: rest) pos) Fb) : DE X fld W (.BoolOp .And (a :: b :: rest) pos) (andV Fa Fb) := de_and ha hb
theorem k_or {rest : List Expr} (ha : DE X fld W a Fa) (hb : DE X fld W (.BoolOp .Or (b :: rest) pos) Fb) : DE X fld W (.BoolOp .Or (a :: b :: rest) pos) (orV Fa Fb) := de_or ha hb
theorem k_one {op : BoolOp} (h : DE X fld W a F) : DE X fld W (.BoolOp op [a] pos) F := pe_one h
/-! places -/
theorem k_ix (ha : DE X fld W a Fa) (hb : DE X fld W b Fb) (hs : PlainIx b := by intro _ _; rfl) : DE X fld W (.Subscript a b pos) (binD subD Fa Fb) := de_ix hs ha hb
/-! statements -/
def seqS (f g : FS) : FS := fun σ S => (f σ S).bind g
def nxS : FS := fun σ S => .nx σ S
def retS (F : FE) : FS := fun σ S => (F σ S).thn σ fun d S => .ret d S
def setS (i : Nat) (F : FE) : FS := fun σ S => (F σ S).thn σ fun d S => .nx (σ.set i (some d)) S
def exprS (F : FE) : FS := fun σ S => (F σ S).thn σ fun _ S => .nx σ S
def ifS (c : FT) (f g : FS) : FS := fun σ S => (c σ S).thn σ fun b S => if b = true then f σ S else g σ S
def asgS (F : FE) (Ft : Tg) : FS := fun σ S => (F σ S).thn σ fun d S => match Ft d with
  | some l => .nx (putD l σ) S
  | none => .bad
def ctS : FS := fun σ S => .ct σ S
def brS : FS := fun σ S => .brk σ S
def rtN : FS := fun _ S => .ret .non S
def forS (Fi : FI) (Ft : Tg) (Fb : FS) (n : Nat) : FS := fun σ S => (Fi σ S).thn σ fun itf S => forD itf Ft Fb n 0 σ S
variable {st : Stmt} {rest : List Stmt} {G1 G2 Fbd : FS} {tg : Expr} {body : List Stmt}
theorem b_nil : DB X fld W [] nxS := db_nil
theorem b_cons (h1 : DS X fld W st G1) (h2 : DB X fld W rest G2) : DB X fld W (st :: rest) (seqS G1 G2) := db_cons h1 h2
theorem b_one (h1 : DS X fld W st G1) : DB X fld W [st] (seqS G1 nxS) := db_cons h1 db_nil
theorem s_ret (he : DE X fld W e F) : DS X fld W (.Return (some e) pos) (retS F) := ds_ret he
theorem s_expr (he : DE X fld W e F) (hs : swapsWith e none pos.line X.env = pure false := by rfl) : DS X fld W (.Expr e pos) (exprS F) := ds_expr he hs
theorem s_if {Fc : FT} {p q : List Stmt} (hc : DT X fld W c Fc) (h1 : DB X fld W p G1) (h2 : DB X fld W q G2) : DS X fld W (.If c p q pos) (ifS Fc G1 G2) := ds_if hc h1 h2
theorem s_set (i : Nat) {x : Str} {pos' : Pos} (hN : X.N.Nodup) (he : DE X fld W e F) (hi : X.N[i]? = some x := by rfl) (hx : Loc X.env.scope x := by first | exact .inl rfl | exact .inr rfl) (hs : swapsWith e (some (.Name x pos')) pos.line X.env = pure false := by rfl) (hf : X.fn x = true ∨ X.env.scope.names.lookup x = some .local := by first | exact .inl rfl | exact .inr rfl) :
    DS X fld W (.Assign [.Name x pos'] e pos) (setS i F) := ds_set hN hi hx he hs hf
theorem s_asg {Ft : Tg} (he : DE X fld W e F) (hg : DG X fld tg Ft) (hs : swapsWithSole [tg] e pos.line X.env = pure false := by rfl) (hw : swappedStores [tg] e X.env = pure none := by rfl) (h1 : (assignEach [tg] X.env).map (·.2) = [assign tg X.env] := by rfl) : DS X fld W (.Assign [tg] e pos) (asgS F Ft) := ds_asg he hg hs hw h1
theorem s_while {Fc : FT} (hp : PassesOwn (model X.prog X.w) X.A X.env X.xe) (n : Nat) (hc : DT X fld W c Fc) (hb : DB X fld W body Fbd) : DS X fld W (.While c body [] pos) (whileD Fc Fbd n) := ds_while hp hc hb n
theorem s_for {Fi : FI} {Ft : Tg} (hp : PassesOwn (model X.prog X.w) X.A X.env X.xe) (n : Nat) (hi : DI X fld W tg e Fi) (hg : DG X fld tg Ft) (hb : DB X fld W body Fbd) (hc : X.calm = true := by rfl) (hs : ∀ x, foldedSetIterable e X.env x = pure x := by intro _; rfl) : DS X fld W (.For tg e body [] pos) (forS Fi Ft Fbd n) := ds_for hp hc hi hg hb hs n
theorem g_name (i : Nat) {x : Str} (hN : X.N.Nodup) (hi : X.N[i]? = some x := by rfl) (hx : Loc X.env.scope x := by first | exact .inl rfl | exact .inr rfl) (hf : X.fn x = true ∨ X.env.scope.names.lookup x = some .local := by first | exact .inl rfl | exact .inr rfl) : DG X fld (.Name x pos) (setN i) := dg_name hN hi hx hf
theorem g_cons {es : List Expr} {f : Tg} {g : Tgs} (h1 : DG X fld e f) (h2 : DGs X fld es g) (hs : (assignEach (e :: es) X.env).map (·.2) = assign e X.env :: (assignEach es X.env).map (·.2) := by rfl) : DGs X fld (e :: es) (setCons f g) := dgs_cons h1 h2 hs
theorem g_tup {k : Nat} (n : Nat) {g : Tgs} (h : DGs X fld es g) (hn : (assignEach es X.env).length = n := by rfl) (hst : (assignEach es X.env).findIdx? (·.1) = none := by rfl) (hc : X.calm = true := by rfl) : DG X fld (.Tuple es k pos) (setTup n g) := dg_tup hc h hn hst
/-- a call of the program's own function with every argument in place -/
theorem k_call {x : Str} {k : Nat} {f : Addr} {fd : FuncData} {ps : List Str} {g : List D → Store → R D} (tk : Takes X W) (Fn : FnOk X.prog X.w X.K X.mg X.base (L2.CX X.prog X.w) k f fd ps (spD X.K X.mg fld ps.length g)) (hr : Room k X.A)
    (hm : X.mg x = some (.ref f)) (hk : PySem.W.keepIn X.K (.ref f) = true) (hb : Binds X.K fd ps []) (hp : ∀ y ∈ e :: es, Plain y) (ha : DA X fld W (e :: es) Fs)
    (hfl : ∀ σ S ds S', Fs σ S = .ok ds S' → ds.length = ps.length) (hlen : (e :: es).length = ps.length := by rfl) (hdb : (x == ("__debug__" : Str)) = false := by decide) (hg : Gl X x := by rfl) :
    DE X fld W (.Call (.Name x p) (e :: es) [] pos) (fnF g Fs) := de_call tk hlen Fn hr hg hm hk hb hdb hp ha hfl
theorem len_nilA : ∀ σ S ds S', nilA σ S = .ok ds S' → ds.length = 0 := fun σ S ds S' h => by cases h; rfl
theorem len_consA {n : Nat} (h : ∀ σ S ds S', Fs σ S = .ok ds S' → ds.length = n) : ∀ σ S ds S', consA F Fs σ S = .ok ds S' → ds.length = n + 1 := fun σ S ds S' q => by
  unfold consA at q
  cases h1 : F σ S with
  | ok d S1 =>
    rw [h1] at q
    simp only [R.bind_ok] at q
    cases h2 : Fs σ S1 with
    | ok es S2 =>
      rw [h2] at q
      cases q
      rw [List.length_cons, h _ _ _ _ h2]
    | err y S2 => rw [h2] at q; cases q
    | bad => rw [h2] at q; cases q
  | err y S1 => rw [h1] at q; cases q
  | bad => rw [h1] at q; cases q
end
end MI

set_option Elab.async false
set_option linter.all false
set_option maxRecDepth 100000
set_option maxHeartbeats 4000000
/-! MI17: more short words. -/
namespace MI
open PySem PySem.Spec L2
open PyProof.Rows hiding St

/-- a constant of the module -/
def GConst (K : PySem.W.Frag) (mg : Str → Option Value) (fld : Str → Option Str) (x : Str) (d : D) : Prop := ∃ v u, mg x = some u ∧ RelV v u ∧ ∀ ω, Rep K mg fld ω v d
section
variable {X : Cx} {fld : Str → Option Str} {W : WX} {e a b c o : Expr} {es : List Expr} {pos p apos : Pos} {F Fa Fb Fo : FE} {Fs : FA} {G : Gs}
theorem k_glob {x : Str} {d : D} (h : GConst X.K X.mg fld x d) (hg : Gl X x := by rfl) (hd : (x == ("__debug__" : Str)) = false := by decide) : DE X fld W (.Name x pos) (cstD d) := by
  obtain ⟨v, u, hm, r, q⟩ := h
  exact de_c (pe_glob hg hm r hd) fun ω _ => q ω
theorem k_int1 (pa : Plain a) (ha : DA X fld W [a] Fs) (hm : X.mg "int" = none) (hg : Gl X "int" := by rfl) : DE X fld W (.Call (.Name "int" p) [a] [] pos) (fnF (biD G .int false) Fs) :=
  de_ty (noErr_bi _ _ _) callD_int hg hm (by decide +kernel) (by decide) (by decide) (plain_all1 pa) ha
theorem k_str1 (pa : Plain a) (ha : DA X fld W [a] Fs) (hm : X.mg "str" = none) (hg : Gl X "str" := by rfl) : DE X fld W (.Call (.Name "str" p) [a] [] pos) (fnF (biD G .str false) Fs) :=
  de_ty (noErr_bi _ _ _) callD_str hg hm (by decide +kernel) (by decide) (by decide) (plain_all1 pa) ha
theorem k_tuple1 (pa : Plain a) (ha : DA X fld W [a] Fs) (hm : X.mg "tuple" = none) (hg : Gl X "tuple" := by rfl) : DE X fld W (.Call (.Name "tuple" p) [a] [] pos) (fnF (biD G .tuple false) Fs) :=
  de_ty (noErr_bi _ _ _) callD_tuple hg hm (by decide +kernel) (by decide) (by decide) (plain_all1 pa) ha
theorem k_list1 (m : Bool) (pa : Plain a) (ha : DA X fld W [a] Fs) (hm : X.mg "list" = none) (hg : Gl X "list" := by rfl) : DE X fld W (.Call (.Name "list" p) [a] [] pos) (fnF (biD G .list m) Fs) :=
  de_ty (noErr_bi _ _ _) callD_list hg hm (by decide +kernel) (by decide) (by decide) (plain_all1 pa) ha
theorem k_sum1 (pa : Plain a) (ha : DA X fld W [a] Fs) (hm : X.mg "sum" = none) (hg : Gl X "sum" := by rfl) (hc : X.calm = true := by rfl) : DE X fld W (.Call (.Name "sum" p) [a] [] pos) (fnF (biD G .sum false) Fs) :=
  de_fn (noErr_bi _ _ _) (callD_sum hc) hg hm (by decide +kernel) (by decide) (by decide) (plain_all1 pa) ha
theorem k_max2 (pa : Plain a) (pb : Plain b) (ha : DA X fld W [a, b] Fs) (hm : X.mg "max" = none) (hg : Gl X "max" := by rfl) (hc : X.calm = true := by rfl) : DE X fld W (.Call (.Name "max" p) [a, b] [] pos) (fnF (biD G .max2 false) Fs) :=
  de_fn (noErr_bi _ _ _) (callD_max2 hc) hg hm (by decide +kernel) (by decide) (by decide) (plain_allC pa (plain_all1 pb)) ha
theorem k_min2 (pa : Plain a) (pb : Plain b) (ha : DA X fld W [a, b] Fs) (hm : X.mg "min" = none) (hg : Gl X "min" := by rfl) (hc : X.calm = true := by rfl) : DE X fld W (.Call (.Name "min" p) [a, b] [] pos) (fnF (biD G .min2 false) Fs) :=
  de_fn (noErr_bi _ _ _) (callD_min2 hc) hg hm (by decide +kernel) (by decide) (by decide) (plain_allC pa (plain_all1 pb)) ha
/-! operators -/
theorem noErr_add (m : Bool) (d e : D) (S : Store) : NoErr (addD m d e S) := noErr_op2 .add m d e S
theorem noErr_mul (m : Bool) (d e : D) (S : Store) : NoErr (mulD m d e S) := noErr_op2 .mul m d e S
theorem k_add (m : Bool) (ha : DE X fld W a Fa) (hb : DE X fld W b Fb) : DE X fld W (.BinOp a .Add b pos) (binD (addD m) Fa Fb) := de_bin (noErr_add m) opD_add ha hb
theorem k_mul (m : Bool) (ha : DE X fld W a Fa) (hb : DE X fld W b Fb) : DE X fld W (.BinOp a .Mult b pos) (binD (mulD m) Fa Fb) := de_bin (noErr_mul m) opD_mul ha hb
theorem k_sub (ha : DE X fld W a Fa) (hb : DE X fld W b Fb) : DE X fld W (.BinOp a .Sub b pos) (binD (op2 .sub false) Fa Fb) := de_bin (noErr_op2 _ _) opD_sub ha hb
theorem k_mod (ha : DE X fld W a Fa) (hb : DE X fld W b Fb) : DE X fld W (.BinOp a .Mod b pos) (binD (op2 .mod false) Fa Fb) := de_bin (noErr_op2 _ _) opD_mod ha hb
theorem k_fdiv (ha : DE X fld W a Fa) (hb : DE X fld W b Fb) : DE X fld W (.BinOp a .FloorDiv b pos) (binD (op2 .fdiv false) Fa Fb) := de_bin (noErr_op2 _ _) opD_fdiv ha hb
theorem k_pow (ha : DE X fld W a Fa) (hb : DE X fld W b Fb) : DE X fld W (.BinOp a .Pow b pos) (binD (op2 .pow false) Fa Fb) := de_bin (noErr_op2 _ _) opD_pow ha hb
theorem k_lt (ha : DE X fld W a Fa) (hb : DE X fld W b Fb) : DE X fld W (.Compare a [.Lt] [b] pos) (binD (op2 .lt false) Fa Fb) := de_cmp (noErr_op2 _ _) opD_lt ha hb (nomark _)
theorem k_le (ha : DE X fld W a Fa) (hb : DE X fld W b Fb) : DE X fld W (.Compare a [.LtE] [b] pos) (binD (op2 .le false) Fa Fb) := de_cmp (noErr_op2 _ _) opD_le ha hb (nomark _)
theorem k_gt (ha : DE X fld W a Fa) (hb : DE X fld W b Fb) : DE X fld W (.Compare a [.Gt] [b] pos) (binD (op2 .gt false) Fa Fb) := de_cmp (noErr_op2 _ _) opD_gt ha hb (nomark _)
theorem k_ge (ha : DE X fld W a Fa) (hb : DE X fld W b Fb) : DE X fld W (.Compare a [.GtE] [b] pos) (binD (op2 .ge false) Fa Fb) := de_cmp (noErr_op2 _ _) opD_ge ha hb (nomark _)
theorem t_lt (ha : DE X fld W a Fa) (hb : DE X fld W b Fb) : DT X fld W (.Compare a [.Lt] [b] pos) (tstF (binD (op2 .lt false) Fa Fb)) := dt_cmp (noErr_op2 _ _) opD_lt ha hb (nomark _)
theorem t_le (ha : DE X fld W a Fa) (hb : DE X fld W b Fb) : DT X fld W (.Compare a [.LtE] [b] pos) (tstF (binD (op2 .le false) Fa Fb)) := dt_cmp (noErr_op2 _ _) opD_le ha hb (nomark _)
theorem t_gt (ha : DE X fld W a Fa) (hb : DE X fld W b Fb) : DT X fld W (.Compare a [.Gt] [b] pos) (tstF (binD (op2 .gt false) Fa Fb)) := dt_cmp (noErr_op2 _ _) opD_gt ha hb (nomark _)
theorem t_ge (ha : DE X fld W a Fa) (hb : DE X fld W b Fb) : DT X fld W (.Compare a [.GtE] [b] pos) (tstF (binD (op2 .ge false) Fa Fb)) := dt_cmp (noErr_op2 _ _) opD_ge ha hb (nomark _)
theorem k_in (hu : X.A.units + 64 < cLine) (ha : DE X fld W a Fa) (hb : DE X fld W b Fb) (hm : behindInMarks .In b = false := by rfl) : DE X fld W (.Compare a [.In] [b] pos) (binD (op2 .in_ false) Fa Fb) := de_cmp (noErr_op2 _ _) (opD_in hu) ha hb hm
theorem k_notin (hu : X.A.units + 64 < cLine) (ha : DE X fld W a Fa) (hb : DE X fld W b Fb) (hm : behindInMarks .NotIn b = false := by rfl) : DE X fld W (.Compare a [.NotIn] [b] pos) (binD (op2 .notin false) Fa Fb) := de_cmp (noErr_op2 _ _) (opD_notin hu) ha hb hm
theorem t_in (hu : X.A.units + 64 < cLine) (ha : DE X fld W a Fa) (hb : DE X fld W b Fb) (hm : behindInMarks .In b = false := by rfl) : DT X fld W (.Compare a [.In] [b] pos) (tstF (binD (op2 .in_ false) Fa Fb)) := dt_cmp (noErr_op2 _ _) (opD_in hu) ha hb hm
theorem t_notin (hu : X.A.units + 64 < cLine) (ha : DE X fld W a Fa) (hb : DE X fld W b Fb) (hm : behindInMarks .NotIn b = false := by rfl) : DT X fld W (.Compare a [.NotIn] [b] pos) (tstF (binD (op2 .notin false) Fa Fb)) := dt_cmp (noErr_op2 _ _) (opD_notin hu) ha hb hm
def isN (d e : D) (S : Store) : R D := match e with
  | .non => op2 .is_ false d e S
  | _ => .bad
def notN (d e : D) (S : Store) : R D := match e with
  | .non => op2 .isnot false d e S
  | _ => .bad
theorem noErr_isN (d e : D) (S : Store) : NoErr (isN d e S) := by
  unfold isN; split; exact noErr_op2 _ _ _ _ _; exact noErr_bad
theorem noErr_notN (d e : D) (S : Store) : NoErr (notN d e S) := by
  unfold notN; split; exact noErr_op2 _ _ _ _ _; exact noErr_bad
theorem k_is (ha : DE X fld W a Fa) (hb : DE X fld W b Fb) : DE X fld W (.Compare a [.Is] [b] pos) (binD isN Fa Fb) := de_cmp noErr_isN opD_isN ha hb (nomark _)
theorem k_isnot (ha : DE X fld W a Fa) (hb : DE X fld W b Fb) : DE X fld W (.Compare a [.IsNot] [b] pos) (binD notN Fa Fb) := de_cmp noErr_notN opD_isnotN ha hb (nomark _)
theorem t_is (ha : DE X fld W a Fa) (hb : DE X fld W b Fb) : DT X fld W (.Compare a [.Is] [b] pos) (tstF (binD isN Fa Fb)) := dt_cmp noErr_isN opD_isN ha hb (nomark _)
theorem t_isnot (ha : DE X fld W a Fa) (hb : DE X fld W b Fb) : DT X fld W (.Compare a [.IsNot] [b] pos) (tstF (binD notN Fa Fb)) := dt_cmp noErr_notN opD_isnotN ha hb (nomark _)
def notV (F : FE) : FE := fun σ S => notE (F σ S)
theorem k_not (ha : DE X fld W a Fa) : DE X fld W (.UnaryOp .Not a pos) (notV Fa) := de_not ha
def iteV (c : FT) (f g : FE) : FE := fun σ S => iteE (c σ S) (fun S => f σ S) fun S => g σ S
theorem k_ite {Fc : FT} (hc : DT X fld W c Fc) (ha : DE X fld W a Fa) (hb : DE X fld W b Fb) : DE X fld W (.IfExp c a b pos) (iteV Fc Fa Fb) := de_ite hc ha hb
/-! places -/
def noO : FO := fun _ S => .ok none S
def soO (F : FE) : FO := fun σ S => (F σ S).bind fun d S => match d with
  | .int i => .ok (some i) S
  | _ => .bad
theorem o_none : DO X fld W none noO := do_none
theorem o_some (h : DE X fld W e F) : DO X fld W (some e) (soO F) := do_some h
def slF (m : Bool) (Fa : FE) (Fl Fh : FO) : FE := fun σ S => (Fa σ S).bind fun d S => (Fl σ S).bind fun l S => (Fh σ S).bind fun h S => slcD m d l h S
theorem k_slc (m : Bool) {lo hi : Option Expr} {Fl Fh : FO} {p2 : Pos} (ha : DE X fld W a Fa) (hl : DO X fld W lo Fl) (hh : DO X fld W hi Fh) : DE X fld W (.Subscript a (.Slice lo hi none p2) pos) (slF m Fa Fl Fh) := de_slc ha hl hh
def rvF (m : Bool) (Fa : FE) : FE := fun σ S => (Fa σ S).bind fun d S => revD m d S
theorem k_rev (m : Bool) {k : Nat} {p1 p2 p3 : Pos} (ha : DE X fld W a Fa) : DE X fld W (.Subscript a (.Slice none none (some (.UnaryOp .USub (.Constant (.int 1) k p1) p2)) p3) pos) (rvF m Fa) := de_rev ha
/-! comprehensions -/
def yesT : FT := fun _ S => .ok true S
theorem c_nil : DTs X fld W [] yesT := dts_nil
theorem c_one {Fc : FT} (h : DT X fld W c Fc) : DTs X fld W [c] Fc := dts_one h
theorem k_lc (m : Bool) (n : Nat) {elt tg iter : Expr} {ifs : List Expr} {scope : Scope} (own : List (Str × Nat)) {Fi : FI} {Ft : Tg} {Fc : FT} {Fe : FE} (hN : X.N.Nodup) (hi : DI X fld W tg iter Fi)
    (hg : ∀ (s : Shared) (H : Hp) (C : Addr) (cl : List (Str × Addr)) (fp : List Addr), DG (X.blk s H scope (compEnvC scope cl C X.env) fp) fld tg Ft) (ht : ∀ (s : Shared) (H : Hp) (C : Addr) (cl : List (Str × Addr)) (fp : List Addr), DTs (X.blk s H scope (compEnvC scope cl C X.env) fp) fld W0 ifs Fc)
    (he : ∀ (s : Shared) (H : Hp) (C : Addr) (cl : List (Str × Addr)) (fp : List Addr), DE (X.blk s H scope (compEnvC scope cl C X.env) fp) fld W0 elt Fe) (hsl : ∀ d l, Ft d = some l → ∀ p ∈ l, p.1 ∈ own.map (·.2))
    (ok : blkC X.N X.env.scope scope own = true := by kernel_rfl) (hc : X.calm = true := by rfl) (hs : ∀ x, foldedSetIterable iter X.env x = pure x := by intro _; rfl) :
    DE X fld W (.ListComp elt [⟨tg, iter, ifs, 0⟩] scope pos) (lcF m Fi Ft Fc Fe (own.map (·.2)) n) := de_lc hc hN hi (blkOk_by ok) hg ht he hs hsl
theorem s_setLc (m : Bool) (n : Nat) (i : Nat) {y : Str} {py spos : Pos} {elt tg iter : Expr} {ifs : List Expr} {scope : Scope} (own : List (Str × Nat)) {Fi : FI} {Ft : Tg} {Fc : FT} {Fe : FE} (hN : X.N.Nodup) (hi : DI X fld W tg iter Fi)
    (hg : ∀ (s : Shared) (H : Hp) (C : Addr) (cl : List (Str × Addr)) (fp : List Addr), DG (X.blk s H scope (compEnvC scope cl C X.env) fp) fld tg Ft) (ht : ∀ (s : Shared) (H : Hp) (C : Addr) (cl : List (Str × Addr)) (fp : List Addr), DTs (X.blk s H scope (compEnvC scope cl C X.env) fp) fld W0 ifs Fc)
    (he : ∀ (s : Shared) (H : Hp) (C : Addr) (cl : List (Str × Addr)) (fp : List Addr), DE (X.blk s H scope (compEnvC scope cl C X.env) fp) fld W0 elt Fe) (hsl : ∀ d l, Ft d = some l → ∀ p ∈ l, p.1 ∈ own.map (·.2))
    (hy : X.N[i]? = some y := by rfl) (hyl : X.env.scope.names.lookup y = some .local := by rfl) (hk : X.env.scope.kind = .function := by rfl) (hl : (py.line == pos.line) = true := by rfl) (hq : (scope.names.any fun (n, k) => n == y && (k == .local || k == .cell)) = false := by kernel_rfl)
    (ok : blkC X.N X.env.scope scope own = true := by kernel_rfl) (hc : X.calm = true := by rfl) (hs : ∀ x, foldedSetIterable iter X.env x = pure x := by intro _; rfl) :
    DS X fld W (.Assign [.Name y py] (.ListComp elt [⟨tg, iter, ifs, 0⟩] scope pos) spos) (setS i (lcF m Fi Ft Fc Fe (own.map (·.2)) n)) := ds_setLc hc hN hy hyl (sw_true hk hyl hl hq) hi (blkOk_by ok) hg ht he hs hsl
theorem sl_name {i : Nat} {vs : List Nat} (h : i ∈ vs := by decide) : ∀ d l, setN i d = some l → ∀ p ∈ l, p.1 ∈ vs := fun d l e p hp => by
  cases e
  have z : p = (i, d) := by simpa using hp
  rw [z]; exact h
theorem sls_nil {vs : List Nat} : ∀ d l, setNil d = some l → ∀ p ∈ l, p.1 ∈ vs := fun d l e p hp => by
  cases d with
  | nil => cases e; cases hp
  | cons _ _ => cases e
theorem sls_cons {f : Tg} {g : Tgs} {vs : List Nat} (h1 : ∀ d l, f d = some l → ∀ p ∈ l, p.1 ∈ vs) (h2 : ∀ d l, g d = some l → ∀ p ∈ l, p.1 ∈ vs) : ∀ d l, setCons f g d = some l → ∀ p ∈ l, p.1 ∈ vs := fun d l e p hp => by
  cases d with
  | nil => cases e
  | cons x xs =>
    unfold setCons at e
    simp only at e
    split at e
    · rename_i q1 q2
      cases e
      rcases List.mem_append.mp hp with hp | hp
      · exact h1 _ _ q1 p hp
      · exact h2 _ _ q2 p hp
    · cases e
theorem sl_tup {n : Nat} {g : Tgs} {vs : List Nat} (h : ∀ d l, g d = some l → ∀ p ∈ l, p.1 ∈ vs) : ∀ d l, setTup n g d = some l → ∀ p ∈ l, p.1 ∈ vs := fun d l e p hp => by
  unfold setTup at e
  split at e
  · split at e
    · exact h _ _ e p hp
    · cases e
  · cases e
/-! iterators -/
theorem i_seq {tg : Expr} (he : DE X fld W e F) : DI X fld W tg e (seqF F) := di_seq he
theorem i_rng1 {tg : Expr} (hm : X.mg "range" = none) (pa : Plain a) (ha : DA X fld W [a] Fs) (hg : Gl X "range" := by rfl) : DI X fld W tg (.Call (.Name "range" p) [a] [] pos) (rng1F Fs) := di_rng1 hg hm pa ha
theorem i_rng2 {tg : Expr} (hm : X.mg "range" = none) (pa : Plain a) (pb : Plain b) (ha : DA X fld W [a, b] Fs) (hg : Gl X "range" := by rfl) : DI X fld W tg (.Call (.Name "range" p) [a, b] [] pos) (rng2F Fs) := di_rng2 hg hm pa pb ha
theorem i_rev {tg : Expr} (hm : X.mg "reversed" = none) (pe : Plain e) (he : DE X fld W e F) (hg : Gl X "reversed" := by rfl) : DI X fld W tg (.Call (.Name "reversed" p) [e] [] pos) (revF F) := di_rev hg hm pe he
theorem i_enum {tpos : Pos} {elts : List Expr} {kk : Nat} (hm : X.mg "enumerate" = none) (pa : Plain a) (ha : DA X fld W [a] Fs) (hg : Gl X "enumerate" := by rfl) : DI X fld W (.Tuple elts kk tpos) (.Call (.Name "enumerate" p) [a] [] pos) (enF Fs) := di_enum hg hm pa ha
/-! statements -/
theorem s_add (i : Nat) {x : Str} {pos' : Pos} (hN : X.N.Nodup) (he : DE X fld W e F) (hi : X.N[i]? = some x := by rfl) (hx : Loc X.env.scope x := by first | exact .inl rfl | exact .inr rfl) (hf : X.fn x = true ∨ X.env.scope.names.lookup x = some .local := by first | exact .inl rfl | exact .inr rfl) :
    DS X fld W (.AugAssign (.Name x pos') .Add e pos) (augS .add i F) := ds_aug hN hi hx he ip_add hf fun _ _ _ => rfl
theorem s_subA (i : Nat) {x : Str} {pos' : Pos} (hN : X.N.Nodup) (he : DE X fld W e F) (hi : X.N[i]? = some x := by rfl) (hx : Loc X.env.scope x := by first | exact .inl rfl | exact .inr rfl) (hf : X.fn x = true ∨ X.env.scope.names.lookup x = some .local := by first | exact .inl rfl | exact .inr rfl) :
    DS X fld W (.AugAssign (.Name x pos') .Sub e pos) (augS .sub i F) := ds_aug hN hi hx he ip_sub hf fun _ _ _ => rfl
def setSubS (Fo Fi F : FE) : FS := fun σ S => (F σ S).thn σ fun v S => (Fo σ S).thn σ fun d S => (Fi σ S).thn σ fun j S => (setSubD d j v S).thn σ fun _ S => .nx σ S
theorem s_setSub {Fi : FE} {i : Expr} {p2 : Pos} (ho : DE X fld W o Fo) (hi : DE X fld W i Fi) (he : DE X fld W e F) (hs : swapsWithSole [.Subscript o i p2] e pos.line X.env = pure false := by rfl) (hw : swappedStores [.Subscript o i p2] e X.env = pure none := by rfl)
    (ha : ∀ v, assign (.Subscript o i p2) X.env v = (do
      let ov ← holding [v] (eval o X.env)
      let iv ← holding [v, ov] (eval i X.env)
      standAt p2
      holding [v, ov, iv] (setItem ov iv v)
      release [v, ov, iv] []) := by intro _; rfl) : DS X fld W (.Assign [.Subscript o i p2] e pos) (setSubS Fo Fi F) := ds_setSub ho hi he hs hw ha
theorem s_for1 {tg : Expr} {body : List Stmt} {Fbd : FS} {Fi : FI} {Ft : Tg} (hp : PassesOwn (model X.prog X.w) X.A X.env X.xe) (n : Nat) (hi : DI X fld W tg e Fi) (hg : DG X fld tg Ft) (hb : DB X fld W body Fbd) (hc : X.calm = true := by rfl) (hs : ∀ x, foldedSetIterable e X.env x = pure x := by intro _; rfl) : DS X fld W (.For tg e body [] pos) (forS Fi Ft Fbd n) := ds_for hp hc hi hg hb hs n
def raiseS (x : Str) (F : FE) : FS := fun σ S => (F σ S).thn σ fun d S => .err (.exc x d) σ S
/-- what the written part says of an own error class with one field -/
structure ErrC (P : Program) (w : World) (K : PySem.W.Frag) (mg : Str → Option Value) (base : Heap) (fld : Str → Option Str) (k : Nat) (x f : Str) : Prop where
  ex : ∃ (C fI : Addr) (fd : FuncData) (ps : List Str), OexC K C ∧ PySem.W.findIn K (.ref C) "__init__" = some (some (.ref fI)) ∧ PySem.W.typeIn K (.ref fI) = some (.type "function") ∧ FnOk P w K mg base (L2.CX P w) k fI fd ps (spInit C f) ∧ Binds K fd ps [] ∧ mg x = some (.ref C)
  fl : fld x = some f
theorem s_raise {x f : Str} {k : Nat} (Ec : ErrC X.prog X.w X.K X.mg X.base fld k x f) (tk : Takes X W) (hr : Room (k + 1) X.A) (pe : Plain e) (he : DE X fld W e F) (hc : X.calm = true := by rfl) (hg : Gl X x := by rfl) (hdb : (x == ("__debug__" : Str)) = false := by decide) :
    DS X fld W (.Raise (some (.Call (.Name x p) [e] [] pos)) none apos) (raiseS x F) := by
  obtain ⟨⟨C, fI, fd, ps, T, iC, tI, F1, hb, hm⟩, hf⟩ := Ec
  exact ds_raise hc tk T iC tI F1 hr hb hg hm hf pe he hdb fun pins σ H s u s' I cx => by
    exact tk u s' (XE.of_call I (fun _ _ _ h => False.elim h) cx)
end
/-- the room's units -/
theorem room_units {k : Nat} {A : Around} (h : Room k A) : A.units + 64 < cLine := by
  have := h.un
  omega
end MI

set_option Elab.async false
set_option linter.all false
set_option maxRecDepth 100000
set_option maxHeartbeats 4000000
/-! MI18: calls by keywords, insert, {}, great powers. -/
namespace MI
open PySem PySem.Spec L2
open PyProof.Rows hiding St

section
variable {X : Cx} {fld : Str → Option Str} {W : WX} {e a b c o : Expr} {es : List Expr} {pos p apos kpos : Pos} {F Fa Fb Fo : FE} {Fs : FA} {G : Gs} {kws : List Keyword}
/-! ### keywords -/
theorem PK.imp {X : Cx} {kws : List Keyword} {t t' : TA} (h : PK X kws t) (i : ∀ σ H Q, t' σ H Q → t σ H Q) : PK X kws t' := ⟨fun pos pins s σ H Q I q => h.run pos pins s σ H Q I (i σ H Q q)⟩
def DKw (X : Cx) (fld : Str → Option Str) (W : WX) (kws : List Keyword) (F : FA) : Prop := PK X kws (tG X.K X.mg fld (RepL X.K X.mg fld) W F)
theorem kw_nil : DKw X fld W [] nilA := PK.imp pk_nil fun σ H Q ⟨ω, σd, e0, ok, er, p⟩ => by
  subst e0
  exact p ω rfl (.refl ω) ok [] .nil
theorem kw_cons {nm : Option Str} (ha : DE X fld W e F) (hs : DKw X fld W kws Fs) : DKw X fld W (⟨nm, e, kpos⟩ :: kws) (consA F Fs) :=
  PK.imp (pk_cons ha hs) fun σ H Q h => by
    obtain ⟨ω, σd, e0, ok, er, p⟩ := tG_bind (rel := Rep X.K X.mg fld) (G := fun σ d S => (Fs σ S).bind fun ds S => .ok (d :: ds) S) h
    refine ⟨ω, σd, e0, ok, er, p.mono ?_⟩
    rintro x H1 ⟨ω1, σd1, d, h1, ok1, er1, rd, p1⟩
    refine ⟨ω1, σd1, h1, ok1, er1, (Post.bind (rel := RepL X.K X.mg fld) ok1 p1).mono ?_⟩
    rintro y H2 ⟨ω2, ds, h2, ext, ok2, re, p2⟩
    subst h2
    exact p2 ω2 rfl (.refl ω2) ok2 _ (.cons (rd.mono ok1 ext) re)
/-- every parameter by keyword, in their order -/
def KwAll (K : PySem.W.Frag) (fd : FuncData) (ps : List Str) : Prop := ∀ (s : Shared) (us : List Value), K.In s.heap → us.length = ps.length → BindsTo s fd ⟨[], ps.zip us⟩ (ps.zip us)
theorem kw_call {x : Str} {k : Nat} {f : Addr} {fd : FuncData} {ps : List Str} {g : List D → Store → R D} (tk : Takes X W) (Fn : FnOk X.prog X.w X.K X.mg X.base (L2.CX X.prog X.w) k f fd ps (spD X.K X.mg fld ps.length g)) (hr : Room k X.A)
    (hm : X.mg x = some (.ref f)) (hk : PySem.W.keepIn X.K (.ref f) = true) (hb : KwAll X.K fd ps) (hkw : DKw X fld W kws Fs) (hfl : ∀ σ S ds S', Fs σ S = .ok ds S' → ds.length = ps.length)
    (hks : (backToKw pos (keywordEach kws X.env)).filterMap (·.1) = ps) (hall : (backToKw pos (keywordEach kws X.env)).all (·.1.isSome) = true)
    (hpl : ((backTo pos (starEach [] X.env)).any (·.1) || (backToKw pos (keywordEach kws X.env)).any (·.1.isNone)) = false) (hdb : (x == ("__debug__" : Str)) = false) (hg : Gl X x) :
    DE X fld W (.Call (.Name x p) [] kws pos) (fnF g Fs) := by
  refine ⟨fun pins s σ H Q I ⟨ω, σd, e0, ok, er, post⟩ => ?_⟩
  have want : tG X.K X.mg fld (RepL X.K X.mg fld) W Fs σ H (fun vs H1 => spD X.K X.mg fld ps.length g vs H1 Q (WE W σ)) := by
    refine ⟨ω, σd, e0, ok, er, ?_⟩
    replace post : Post X.K X.mg fld (Rep X.K X.mg fld) W σ ω ((Fs σd ω.S).bind fun ds S => g ds S) Q := post
    cases hF : Fs σd ω.S with
    | bad => rw [hF] at post; exact post.elim
    | err y S' => rw [hF] at post; exact post
    | ok ds S' =>
      rw [hF] at post
      intro ω1 e1 e2 e3 vs rb
      have p2 : Post X.K X.mg fld (Rep X.K X.mg fld) W σ ω1 (g ds ω1.S) Q := by
        rw [e1]; exact Post.ext ok e3 e2 post
      refine ⟨by rw [rb.length]; exact hfl _ _ _ _ hF, ω1, ds, rfl, e3, rb, ?_⟩
      cases hG : g ds ω1.S with
      | ok d S2 => rw [hG] at p2; exact p2
      | err y S2 => rw [hG] at p2; exact p2
      | bad => rw [hG] at p2; exact p2.elim
  refine wpAny_Call_Name_kw (ld_glob I hg hm (PySem.W.callWith_KW0 (h₀ := X.base) I.ok.mod.kin hk hall (thn (hkw.run pos pins s σ H _ I want) ?_) hpl) hdb)
  rintro ws s2 ⟨zs, H2, I2, rz, q2⟩
  refine ⟨I2.kIn, ?_⟩
  have len : ws.length = ps.length := rz.length.symm.trans q2.1
  rw [hks]
  refine wpAny_call (codeAny_mono (Fn.run X.A X.stack s2 H2 _ ws zs Q (WE W σ) hr I2.env0 (hb s2 ws I2.kIn len) rz q2) ?_)
  intro r s' hq
  match r, hq with
  | .error e, hq => exact passAt tk σ pins H2 s2 e s' I2 hq
  | .ok (.ret u), hq => exact I2.after hq
  | .ok .next, hq => cases hq
  | .ok .brk, hq => cases hq
  | .ok .cont, hq => cases hq
/-! ### insert, {} , ** -/
def insD (d : D) (ds : List D) (S : Store) : R D := match d, ds with
  | .ref n, [.int i, x] => (match S[n]? with
    | some (.lst xs) => if decide (xs.length < sizeLine) && (decide (0 ≤ i) && decide (i < 2 ^ 63)) then .ok .non (S.set n (.lst (xs.take i.toNat ++ [x] ++ xs.drop i.toNat))) else .bad
    | _ => .bad)
  | _, _ => .bad
theorem noErr_ins (d : D) (ds : List D) (S : Store) : NoErr (insD d ds S) := by
  unfold insD
  split <;> (try split) <;> (try split) <;> first | exact noErr_ok _ _ | exact noErr_bad
theorem mtD_insert : MtD X fld "list.insert" insD := by
  intro pins s σ ω x xs v us Q d ds I rx r ok rd rs p
  unfold insD at p
  split at p
  · rename_i n i y
    cases hc : ω.S[n]? with
    | none => rw [hc] at p; exact p.elim
    | some c =>
      rw [hc] at p
      cases c with
      | dic ks zs => exact p.elim
      | lst ys =>
        simp only at p
        split at p
        · rename_i hz
          simp only [Bool.and_eq_true, decide_eq_true_eq] at hz
          obtain ⟨rfl, hn, ws, h1, h2⟩ := ref_of ok rd hc
          obtain ⟨vi, vy, rfl, ri, ry⟩ := rs.two_of
          cases ri
          obtain ⟨e, ok'⟩ := put_ok ok hn (((h2.take i.toNat).append (.cons ry .nil)).append (h2.drop i.toNat))
          exact mt_insert pins s σ ω.H _ _ v us Q I rx r ⟨_, ws, i, vy, rfl, rfl, h1, by rw [h2.length]; exact hz.1, hz.2.1, hz.2.2, p _ rfl e ok' _ .non⟩
        · exact p.elim
  · exact p.elim
theorem k_insert (po : Plain o) (ho : DE X fld W o Fo) (pa : Plain a) (pb : Plain b) (ha : DA X fld W [a, b] Fs) (hl : (apos.endLine == pos.line) = true := by rfl) : DE X fld W (.Call (.Attribute o "insert" apos) [a, b] [] pos) (mt1 "list" insD Fo Fs) :=
  de_mt1 noErr_ins PySem.F.plainAttrs_list PySem.F.slot_list_insert (by kernel_rfl) mtD_insert po ho (plain_allC pa (plain_all1 pb)) (by simp) ha hl
theorem k_dict0 : DE X fld W (.Dict [] [] pos) (cstD (.dic [] [])) := PE.imp pe_dnewK fun σ H Q ⟨ω, σd, e0, ok, er, p⟩ => by
  subst e0
  intro q hq
  exact p (ω.add q (.dK [])) rfl (Ext.upd ω hq) (ok.alloc hq) _ (.dic (ks := []) (vs := []) upd_same rfl (ok.fresh hq) .nil)
def powW (d e : D) (S : Store) : R D := match d, e with
  | .int i, .int j => if decide (0 ≤ j) && decide ((i.natAbs.log2 + 1) * j.toNat ≤ 2 ^ 27) then .ok (.int (i ^ j.toNat)) S else .bad
  | _, _ => .bad
theorem noErr_powW (d e : D) (S : Store) : NoErr (powW d e S) := by
  unfold powW
  split <;> (try split) <;> first | exact noErr_ok _ _ | exact noErr_bad
theorem opD_powW : OpD X fld (binaryOp .Pow) powW := by
  intro pins s σ ω x y v u Q d e I rx ry ok rd re h
  unfold powW at h
  split at h
  · rename_i i j
    cases rd; cases re
    split at h
    · rename_i hz
      simp only [Bool.and_eq_true, decide_eq_true_eq] at hz
      obtain ⟨t, rfl⟩ := rx
      obtain ⟨t', rfl⟩ := ry
      have b : Builtin.Int.intBits i ≤ i.natAbs.log2 + 1 := by
        unfold Builtin.Int.intBits
        split <;> omega
      have hb : (Builtin.Int.intBits i : Int) * j ≤ 2 ^ 27 := by
        have h1 : Builtin.Int.intBits i * j.toNat ≤ 2 ^ 27 := Nat.le_trans (Nat.mul_le_mul_right _ b) hz.2
        have h2 : ((Builtin.Int.intBits i * j.toNat : Nat) : Int) = (Builtin.Int.intBits i : Int) * j := by
          rw [Int.natCast_mul, Int.toNat_of_nonneg hz.1]
        rw [← h2]
        exact_mod_cast h1
      exact pow_int hz.1 hb ⟨.int _, ω.H, I.tok _, ⟨_, rfl⟩, h.same ok (.int _)⟩
    · exact h.elim
  · exact h.elim
theorem k_powW (ha : DE X fld W a Fa) (hb : DE X fld W b Fb) : DE X fld W (.BinOp a .Pow b pos) (binD powW Fa Fb) := de_bin noErr_powW opD_powW ha hb
end
end MI

set_option Elab.async false
set_option linter.all false
set_option maxRecDepth 100000
set_option maxHeartbeats 4000000
/-! MI19: try: body / except C as n: y = n. The caught exception is tracked behind the clause. -/
namespace MI
open PySem PySem.Spec L2
open PyProof.Rows hiding St

section
variable {X : Cx} {pins : List (Addr × Obj)} {σ : St} {H : Hp} {s : Shared} {a : Addr}
/-- an exception object that stood beside is tracked from here on -/
theorem adopt {oe : Obj} {vs : Array Value} {C : Addr} {d : Option Addr} (I : Inv X pins σ H s) (e : s.heap.get? a = some oe) (z : Zc (.ref C) d oe) (dt : oe.data = .fields vs) (na : H a = none) (n0 : X.s_0.heap.get? a = none)
    (nL : a ≠ X.env.locals) (np : ∀ p ∈ X.pn ++ pins, p.1 ≠ a) : Inv X pins σ (upd H a (excHO C d a)) s := by
  have old : ∀ {b : Addr} {o : HO}, H b = some o → upd H a (excHO C d a) b = some o := fun {b o} q => by rw [upd_ne (ne_of_none q na)]; exact q
  have non : ∀ {b : Addr}, b ≠ a → H b = none → upd H a (excHO C d a) b = none := fun {b} hb q => by rw [upd_ne hb]; exact q
  refine ⟨I.ok, I.os, I.bare, ⟨I.base.keep, I.base.slot, fun b o q n x => non (fun w => ?_) (I.base.free b o q n x), I.base.there, fun b xs q => old (I.base.tups b xs q), fun b o u q => old (I.base.frzs b o u q), fun b ps q => ?_⟩, I.loc, I.cell, non nL.symm I.free, fun x c q => non (fun w => ?_) (I.freeC x c q), fun p hp => ?_, fun b o q => ?_, I.len⟩
  · rw [w, n0] at q; cases q
  · obtain ⟨more, q'⟩ := I.base.tbls b ps q
    exact ⟨more, old q'⟩
  · obtain ⟨v, hc⟩ := I.cell x c q
    obtain ⟨o, h1, h2⟩ : ∃ o : Obj, s.heap.get? c = some o ∧ o.data = .cell v := by
      obtain ⟨o, h1, h2⟩ := hc
      exact ⟨o, h1, by first | exact h2 | exact h2.1 | exact h2.2⟩
    rw [w, e] at h1
    cases h1
    rw [dt] at h2; cases h2
  · obtain ⟨h1, h2, h3, h4, h5⟩ := I.pin p hp
    exact ⟨h1, non (np p hp) h2, h3, h4, h5⟩
  · by_cases hb : b = a
    · subst hb
      rw [upd_same] at q
      cases q
      exact ⟨⟨oe, vs, e, z, dt⟩, ⟨oe, e⟩, fun h1 h2 ⟨o', vs', k1, k2⟩ kk => ⟨o', vs', kk _ k1, k2⟩⟩
    · rw [upd_ne hb] at q
      exact (I.hok b o q).stay (fun _ _ _ r => r) (fun _ r => old r) fun _ _ r => old r
end
end MI
namespace MI
open PySem PySem.Spec L2
open PyProof.Rows hiding St
/-- what the clause 'except x as n: y = n' wishes of an exception of the body: i is n's slot, j is y's -/
def wKeep (K : PySem.W.Frag) (c : Value) (i j : Nat) (Wout : WX) (D : Ends) : WX := fun cls d σ H =>
  ∃ b, PySem.W.exmOne K cls c = some b ∧ (b = true → ∃ C, cls = .ref C ∧ ∀ a, H a = none → D.nx (((σ.set i (some (.ref a))).set j (some (.ref a))).set i none) (upd H a (excHO C d a))) ∧ (b = false → Wout cls d σ H)
section
variable {X : Cx} {x n y : Str} {c : Value} {i j : Nat} {body : List Stmt} {np pn' py sp pos pos' : Pos} {tb : WX → TS} {Wout : WX}
theorem ps_keep (hs : X.stack = X.env :: X.outer) (hf : X.env.frame = some X.env.locals) (hex : X.ex = []) (hN : X.N.Nodup) (hi : X.N[i]? = some n) (hln : X.env.kindOf n = some .local) (hj : X.N[j]? = some y) (hly : X.env.scope.names.lookup y = some .local) (hc : Names X x c) (tk : Takes X Wout)
    (hdn : (n == ("__debug__" : Str)) = false) (hcn : (n == ("__classdict__" : Str)) = false)
    (hb : ∀ (W : WX) (pn : List (Addr × Obj)) (xe : Value → Shared → Prop), Takes (X.tr pn xe) W → PassesOwn (model X.prog X.w) X.A X.env xe → PSs (X.tr pn xe) body (tb W)) :
    PS X (.Try body [.ExceptHandler (some (.Name x np)) (some n) [.Assign [.Name y py] (.Name n pn') sp] pos'] [] [] pos) (fun D σ H => tb (wKeep X.K c i j Wout D) D σ H) := by
  refine ⟨fun pins s σ H D I want => ?_⟩
  have frames : X.A.frames = some (X.env :: X.outer) := I.ok.frames.trans (congrArg some hs)
  refine wpAny_Try_except (wpAny_mono ((hb _ (X.pn ++ pins) _ ?takes PassesOwn.looking).run [] s σ H D (I.toTry _) want) ?done fun e s1 q => q)
  case done =>
    intro fl s1 q
    match fl, q with
    | .next, ⟨σ', H', J, q⟩ => exact wpAny_execs_nil ⟨σ', H', J.ofTry I.ok, q⟩
    | .brk, ⟨σ', H', J, q⟩ => exact ⟨σ', H', J.ofTry I.ok, q⟩
    | .cont, ⟨σ', H', J, q⟩ => exact ⟨σ', H', J.ofTry I.ok, q⟩
    | .ret u, ⟨v, σ', H', J, r, q⟩ => exact ⟨v, σ', H', J.ofTry I.ok, r, q⟩
  case takes =>
    rintro u s' ⟨a, B, sI, pins', σ', H', cls, d, rfl, J', ground, slots, sky, na, os, bare, b, hb1, yes, no⟩
    have J : Inv X pins σ' H' sI := J'.ofTry I.ok
    rw [show (X.tr (X.pn ++ pins) _).stack = X.env :: X.outer from hs] at sky
    refine Sky.land Zc.steady frames hf sky fun h3 fly up3 => ?_
    have J3 := J.landed (s' := { s' with heap := h3 }) ground fly.1 (slots.trans up3) os bare
    obtain ⟨oe3, vs3, at3, z3, dt3⟩ := fly.there
    have noFrame : a ∉ frs (X.env :: X.outer) := fun hm => by
      obtain ⟨_, o, e, nf⟩ := Heap.FunFrames.mem fly.2.2.1 hm
      rw [at3] at e
      cases e
      exact nf _ dt3
    have nL : a ≠ X.env.locals := fun w => noFrame (List.mem_filterMap.mpr ⟨X.env, List.mem_cons_self, by rw [hf, w]⟩)
    have nF : a ∉ X.fs := fun hm => by
      obtain ⟨e, he, w⟩ := List.mem_filterMap.mp hm
      exact noFrame (List.mem_filterMap.mpr ⟨e, List.mem_cons_of_mem _ he, w⟩)
    have fresh : sI.heap.get? a = none := by
      cases w : sI.heap.get? a with
      | none => rfl
      | some o =>
        have w2 := ground a o w (by rw [show (X.tr (X.pn ++ pins) _).stack = X.env :: X.outer from hs]; exact noFrame)
        rw [fly.2.1] at w2; cases w2
    have fresh0 : X.s_0.heap.get? a = none := by
      cases w : X.s_0.heap.get? a with
      | none => rfl
      | some o =>
        obtain ⟨o', w2⟩ := J.base.there a o w (by rw [hex]; exact fun z => nomatch z)
        rw [fresh] at w2; cases w2
    have noPin : ∀ p ∈ X.pn ++ pins, p.1 ≠ a := fun p hp w => by
      have w2 := (J.pin p hp).1
      rw [w, fresh] at w2; cases w2
    have S3 := J3.suite at3 dt3 na nL nF
    refine wpAny_handleBy_cons (codeAny_handlers_test ?_) fun z => nomatch z
    have kind : PySem.W.Looks (model X.prog X.w) h3 (typeOf (.ref a)) cls := fun A Q E s k q => wpAny_typeOf_ref (k _ _ at3) (by rw [z3.1]; exact q)
    have test : ∀ {Q E : Value → Shared → Prop}, Q c { s' with heap := h3 } → wpAny (model X.prog X.w) (X.A.mark (some (.ref a))) (eval (.Name x np) X.env) Q E { s' with heap := h3 } := fun q => by
      rcases hc with ⟨hg, hd, hm | ⟨hm, hv, hnn⟩⟩
      · exact ld_glob (X := X.suite a ((a, oe3) :: (X.pn ++ pins))) S3 hg hm q hd
      · exact ld_blt (X := X.suite a ((a, oe3) :: (X.pn ++ pins))) S3 hg hm hv q hnn hd
    refine test ((PySem.W.exm_one (M := model X.prog X.w) J3.kIn kind hb1).here ?_)
    cases b with
    | true =>
      obtain ⟨C, rfl, go⟩ := yes rfl
      refine codeAny_handlers_suite_as (HandSPX.lands_againZ fly fun h4 fly4 up4 => ?_)
      have J4 := J.landed (s' := { s' with heap := h4 }) ground fly4.1 ((slots.trans up3).trans up4) os bare
      obtain ⟨oe4, vs4, at4, z4, dt4⟩ := fly4.there
      have S4 := J4.suite at4 dt4 na nL nF
      refine store_ok (X := X.suite a ((a, oe4) :: (X.pn ++ pins))) (v := .ref a) S4 hN hi (.inl hln) rfl (fun s5 S5 => ?_) (.inr hln)
      have suite : PSs (X.suite a ((a, oe4) :: (X.pn ++ pins))) [.Assign [.Name y py] (.Name n pn') sp] (tAsg (tVar i) (gName j)) := pss_one (ps_set hN hj (.inl hly) (pe_var hi (.inl hln) hdn hcn) rfl (.inr hly))
      have iN : i < σ'.length := by
        rw [J4.len]; exact (List.getElem?_eq_some_iff.mp hi).1
      refine wpAny_mono (suite.run [] s5 _ H' { nx := fun τ G => τ = (σ'.set i (some (.ref a))).set j (some (.ref a)) ∧ G = H', rt := fun _ _ => False, bk := fun _ _ => False, ct := fun _ _ => False } S5
        ⟨.ref a, List.getElem?_set_self iN, rfl, rfl⟩) ?_ fun _ _ z => z.elim
      intro fl s6 q
      match fl, q with
      | .brk, ⟨_, _, _, q⟩ => exact q.elim
      | .cont, ⟨_, _, _, q⟩ => exact q.elim
      | .ret _, ⟨_, _, _, _, _, q⟩ => exact q.elim
      | .next, ⟨_, _, S6, rfl, rfl⟩ =>
        obtain ⟨at6, _⟩ := S6.pin (a, oe4) (List.mem_append_left _ List.mem_cons_self)
        have K6 := adopt (S6.unsuite I.ok) at6 z4 dt4 na fresh0 nL noPin
        exact gone_ok K6 hN hi hln fun s7 J7 => ⟨_, _, J7, go a na⟩
    | false =>
      refine wpAny_handleBy_nil ?_
      obtain ⟨_, _, _, oe, vs, T, oT, ts', he, hz, hd, h1, hr⟩ := id fly
      unfold PySem.passOn
      refine wpAny_bind (wpAny_field he hd h1 ?_)
      rw [if_neg (by simp)]
      have out : wpAny (model X.prog X.w) X.A (setFlight (.ref a) X.env.frame) (fun _ s4 => wpAny (model X.prog X.w) X.A (throw (.ref a) : Sem Flow) (SP X pins D) X.xe s4) X.xe { s' with heap := h3 } := by
        rw [hf]
        exact HandSPX.setFlight_upZ fly fun h4 held up4 => wpAny_throw (tk _ _ ⟨a, B, sI, pins, σ', H', cls, d, rfl, J, ground, (slots.trans up3).trans up4, .inr (.inr (by rw [hs]; exact held)), na, os, bare, no rfl⟩)
      first
        | exact wpAny_bind (wpAny_pure (wpAny_bind out))
        | exact wpAny_bind out
end
end MI
namespace MI
open PySem PySem.Spec L2
open PyProof.Rows hiding St
/-- try: body / except .. as n (slot i): y (slot j) = n -/
def tryF (exm : Str → Option Bool) (i j : Nat) (Fb : FS) : FS := fun σ S => match Fb σ S with
  | .err (.exc c d) σ' S' => (match exm c with
    | some true => .nx ((σ'.set j (some (.exc c d))).set i none) S'
    | some false => .err (.exc c d) σ' S'
    | none => .bad)
  | .err (.exc0 c) σ' S' => (match exm c with
    | some true => .nx ((σ'.set j (some (.exc0 c))).set i none) S'
    | some false => .err (.exc0 c) σ' S'
    | none => .bad)
  | .err _ _ _ => .bad
  | o => o
section
variable {X : Cx} {fld : Str → Option Str} {W : WX} {e a b c o : Expr} {es : List Expr} {pos pos' np pn' py sp : Pos} {F Fa Fb Fo : FE} {body : List Stmt} {Gb : FS} {x n y : Str} {i j : Nat}
theorem ERel.kept {K : PySem.W.Frag} {mg : Str → Option Value} {ω : Wd} {σ : St} {σd : Env} {r : V} {d : D} (er : ERel K mg fld ω σ σd) (rep : Rep K mg fld ω r d) (i j : Nat) :
    ERel K mg fld ω (((σ.set i (some r)).set j (some r)).set i none) ((σd.set j (some d)).set i none) := by
  refine ⟨by simp [er.1], fun k e h => ?_⟩
  by_cases hk : i = k
  · subst hk
    by_cases hlt : i < (σd.set j (some d)).length
    · rw [List.getElem?_set_self hlt] at h; cases h
    · rw [List.getElem?_eq_none (by simpa using hlt)] at h; cases h
  · rw [List.getElem?_set_ne hk] at h
    rw [List.getElem?_set_ne hk]
    by_cases hj : j = k
    · subst hj
      have hlt : j < σd.length := by
        have := (List.getElem?_eq_some_iff.mp h).1
        simpa using this
      rw [List.getElem?_set_self hlt] at h
      cases h
      exact ⟨r, List.getElem?_set_self (by rw [List.length_set, er.1]; exact hlt), rep⟩
    · rw [List.getElem?_set_ne hj] at h
      obtain ⟨w, h1, h2⟩ := er.2 k e h
      exact ⟨w, by rw [List.getElem?_set_ne hj, List.getElem?_set_ne hk]; exact h1, h2⟩
theorem ds_try {hcv : Value} {exm : Str → Option Bool} (hex : ∀ c C b, exm c = some b → X.mg c = some (.ref C) → PySem.W.exmOne X.K (.ref C) hcv = some b) (hs : X.stack = X.env :: X.outer) (hf : X.env.frame = some X.env.locals) (hxx : X.ex = []) (hN : X.N.Nodup)
    (hi : X.N[i]? = some n) (hln : X.env.kindOf n = some .local) (hj : X.N[j]? = some y) (hly : X.env.scope.names.lookup y = some .local) (hc : Names X x hcv) (tk : Takes X W)
    (hdn : (n == ("__debug__" : Str)) = false) (hcn : (n == ("__classdict__" : Str)) = false)
    (hb : ∀ (W' : WX) (pn : List (Addr × Obj)) (xe : Value → Shared → Prop), Takes (X.tr pn xe) W' → PassesOwn (model X.prog X.w) X.A X.env xe → DB (X.tr pn xe) fld W' body Gb) :
    DS X fld W (.Try body [.ExceptHandler (some (.Name x np)) (some n) [.Assign [.Name y py] (.Name n pn') sp] pos'] [] [] pos) (tryF exm i j Gb) :=
  PS.imp (ps_keep (tb := fun W' => sG X.K X.mg fld W' Gb) hs hf hxx hN hi hln hj hly hc tk hdn hcn hb) fun D σ H ⟨ω, σd, e0, ok, er, p⟩ => by
    refine ⟨ω, σd, e0, ok, er, ?_⟩
    unfold tryF at p
    cases hG : Gb σd ω.S with
    | nx σ' S' => rw [hG] at p; exact p
    | ret d S' => rw [hG] at p; exact p
    | brk σ' S' => rw [hG] at p; exact p
    | ct σ' S' => rw [hG] at p; exact p
    | bad => rw [hG] at p; exact p
    | err z σ' S' =>
      rw [hG] at p
      intro ω' τ e1 e2 e3 er' cls dd hx
      cases z with
      | exc c d =>
        obtain ⟨C, dx, f, v, h1, h2, rfl, rfl, h3, h4⟩ := hx
        simp only at p
        cases hm : exm c with
        | none => rw [hm] at p; exact p.elim
        | some b =>
          rw [hm] at p
          refine ⟨b, hex c C b hm h1, fun hb => ⟨C, rfl, fun a na => ?_⟩, fun hb => ?_⟩
          · subst hb
            have x1 := Ext.upd ω' (o := excHO C (some dx) a) na
            exact p (ω'.add a (excHO C (some dx) a)) _ e1 (e2.trans ok e3 x1) (e3.alloc na) ((er'.mono e3 x1).kept (.exc h1 h2 upd_same (by show upd ω'.H a _ dx = _; rw [upd_ne (ne_of_none h3 na)]; exact h3) (h4.mono e3 x1)) i j)
          · subst hb
            exact p ω' τ e1 e2 e3 er' _ _ ⟨C, dx, f, v, h1, h2, rfl, rfl, h3, h4⟩
      | exc0 c =>
        obtain ⟨C, h1, rfl, rfl⟩ := hx
        simp only at p
        cases hm : exm c with
        | none => rw [hm] at p; exact p.elim
        | some b =>
          rw [hm] at p
          refine ⟨b, hex c C b hm h1, fun hb => ⟨C, rfl, fun a na => ?_⟩, fun hb => ?_⟩
          · subst hb
            have x1 := Ext.upd ω' (o := excHO C none a) na
            exact p (ω'.add a (excHO C none a)) _ e1 (e2.trans ok e3 x1) (e3.alloc na) ((er'.mono e3 x1).kept (.exc0 h1 upd_same) i j)
          · subst hb
            exact p ω' τ e1 e2 e3 er' _ _ ⟨C, h1, rfl, rfl⟩
      | _ => exact p.elim
/-- e.f, e a caught exception -/
def attF (fld : Str → Option Str) (f : Str) (F : FE) : FE := fun σ S => (F σ S).bind fun d S => match d with
  | .exc c v => if fld c = some f then .ok v S else .bad
  | _ => .bad
theorem de_att {f : Str} (hx : ∀ c C, fld c = some f → X.mg c = some (.ref C) → XfC X.K C ∧ PySem.W.findIn X.K (.ref C) f = some none) (pe : Plain e) (he : DE X fld W e F) : DE X fld W (.Attribute e f pos) (attF fld f F) := by
  refine ⟨fun pins s σ H Q I h => ?_⟩
  obtain ⟨ω, σd, e0, ok, er, p⟩ := tG_bind (rel := Rep X.K X.mg fld) (G := fun σ d S => match d with
    | .exc c v => if fld c = some f then R.ok v S else .bad
    | _ => .bad) h
  refine attr_of (pe.base f X.env) (thn (he.run pins s σ H _ I ⟨ω, σd, e0, ok, er, p⟩) ?_)
  rintro u s1 ⟨vx, H1, I1, rx, ω1, σd1, d, h1, ok1, er1, rd, p1⟩
  subst h1
  split at p1
  · rename_i c vd
    split at p1
    · rename_i hf
      cases rd with
      | @exc a C dx _ f' v' _ g1 g2 g3 g4 g5 =>
        rw [hf] at g2
        cases g2
        obtain ⟨T, hno⟩ := hx c C hf g1
        obtain rfl : u = Value.ref a := rx
        obtain ⟨oe, vs, k1, k2, k3⟩ := excHO_at I1 g3
        obtain ⟨mA, hns, hr⟩ := (show ObjOk X.prog X.w ω1.H s1.heap dx (.xd [(f, v')]) from I1.hok dx _ g4)
        obtain ⟨od, ho, hl⟩ := lookIn_ns hns
        have l : List.lookup f [(f, v')] = some v' := by simp [List.lookup]
        obtain ⟨w', hu, ru⟩ := RelO.some_of (v := v') (o := mA f) (by rw [← l]; exact hr f)
        have J : PySem.W.InstAt s1.heap a oe C (some od) := ⟨k1, k2.1, by unfold PySem.W.notCls; rw [k3], by rw [k2.2]; exact ho⟩
        exact HandSPX.exc_get I1.kIn J T.ga T.gg T.exC (PySem.W.findObj_own T.hdC hno rfl (by rw [hl, hu])) (handed_of ru) ⟨v', ω1.H, I1.tok _, ru, p1 ω1 rfl (.refl ω1) ok1 v' g5⟩
    · exact p1.elim
  · exact p1.elim
end
end MI

set_option Elab.async false
set_option linter.all false
set_option maxRecDepth 100000
set_option maxHeartbeats 4000000
/-! MI20: is True, words for try and fields. -/
namespace MI
open PySem PySem.Spec L2
open PyProof.Rows hiding St
def isG (d e : D) (S : Store) : R D := match d, e with
  | .bl a, .bl b => .ok (.bl (a == b)) S
  | d, e => isN d e S
def notG (d e : D) (S : Store) : R D := match d, e with
  | .bl a, .bl b => .ok (.bl (a != b)) S
  | d, e => notN d e S
theorem noErr_isG (d e : D) (S : Store) : NoErr (isG d e S) := by
  unfold isG; split; exact noErr_ok _ _; exact noErr_isN _ _ _
theorem noErr_notG (d e : D) (S : Store) : NoErr (notG d e S) := by
  unfold notG; split; exact noErr_ok _ _; exact noErr_notN _ _ _
theorem plain_callK {f : Expr} {k : Keyword} {ks : List Keyword} {p : Pos} : Plain (.Call f [] (k :: ks) p) := ⟨fun _ _ => rfl, fun _ _ => by cases f <;> rfl⟩
section
variable {X : Cx} {fld : Str → Option Str} {W : WX} {e a b c o : Expr} {es : List Expr} {pos p apos : Pos} {F Fa Fb Fo : FE} {Fs : FA} {G : Gs} {kws : List Keyword}
theorem opD_isG : OpD X fld (compareOp .Is) isG := by
  intro pins s σ ω x y v u Q d e I rx ry ok rd re h
  unfold isG at h
  split at h
  · cases rd; cases re
    cases (show v = Value.bool _ from rx)
    cases (show u = Value.bool _ from ry)
    exact is_bool ⟨.bl _, ω.H, I, rfl, h.same ok (.bl _)⟩
  · exact opD_isN pins s σ ω x y v u Q d e I rx ry ok rd re h
theorem opD_notG : OpD X fld (compareOp .IsNot) notG := by
  intro pins s σ ω x y v u Q d e I rx ry ok rd re h
  unfold notG at h
  split at h
  · cases rd; cases re
    cases (show v = Value.bool _ from rx)
    cases (show u = Value.bool _ from ry)
    exact isnot_bool ⟨.bl _, ω.H, I, rfl, h.same ok (.bl _)⟩
  · exact opD_isnotN pins s σ ω x y v u Q d e I rx ry ok rd re h
theorem k_isg (ha : DE X fld W a Fa) (hb : DE X fld W b Fb) : DE X fld W (.Compare a [.Is] [b] pos) (binD isG Fa Fb) := de_cmp noErr_isG opD_isG ha hb (nomark _)
theorem k_isnotg (ha : DE X fld W a Fa) (hb : DE X fld W b Fb) : DE X fld W (.Compare a [.IsNot] [b] pos) (binD notG Fa Fb) := de_cmp noErr_notG opD_notG ha hb (nomark _)
theorem t_isg (ha : DE X fld W a Fa) (hb : DE X fld W b Fb) : DT X fld W (.Compare a [.Is] [b] pos) (tstF (binD isG Fa Fb)) := dt_cmp noErr_isG opD_isG ha hb (nomark _)
theorem t_isnotg (ha : DE X fld W a Fa) (hb : DE X fld W b Fb) : DT X fld W (.Compare a [.IsNot] [b] pos) (tstF (binD notG Fa Fb)) := dt_cmp noErr_notG opD_notG ha hb (nomark _)
/-- a function of the program, callable with k further levels -/
def Cal (P : Program) (w : World) (K : PySem.W.Frag) (mg : Str → Option Value) (base : Heap) (fld : Str → Option Str) (k : Nat) (x : Str) (ps : List Str) (g : List D → Store → R D) : Prop :=
  ∃ (f : Addr) (fd : FuncData), mg x = some (.ref f) ∧ PySem.W.keepIn K (.ref f) = true ∧ Binds K fd ps [] ∧ KwAll K fd ps ∧ FnOk P w K mg base (L2.CX P w) k f fd ps (spD K mg fld ps.length g)
theorem k_cal {x : Str} {k : Nat} {ps : List Str} {g : List D → Store → R D} (tk : Takes X W) (cl : Cal X.prog X.w X.K X.mg X.base fld k x ps g) (hr : Room k X.A)
    (hp : ∀ y ∈ e :: es, Plain y) (ha : DA X fld W (e :: es) Fs) (hfl : ∀ σ S ds S', Fs σ S = .ok ds S' → ds.length = ps.length) (hlen : (e :: es).length = ps.length := by rfl) (hdb : (x == ("__debug__" : Str)) = false := by decide) (hg : Gl X x := by rfl) :
    DE X fld W (.Call (.Name x p) (e :: es) [] pos) (fnF g Fs) := by
  obtain ⟨f, fd, hm, hk, hb, _, Fn⟩ := cl
  exact k_call tk Fn hr hm hk hb hp ha hfl hlen hdb hg
theorem k_calW {x : Str} {k : Nat} {ps : List Str} {g : List D → Store → R D} (tk : Takes X W) (cl : Cal X.prog X.w X.K X.mg X.base fld k x ps g) (hr : Room k X.A)
    (ha : DKw X fld W kws Fs) (hfl : ∀ σ S ds S', Fs σ S = .ok ds S' → ds.length = ps.length) (hks : (backToKw pos (keywordEach kws X.env)).filterMap (·.1) = ps := by rfl) (hall : (backToKw pos (keywordEach kws X.env)).all (·.1.isSome) = true := by rfl)
    (hpl : ((backTo pos (starEach [] X.env)).any (·.1) || (backToKw pos (keywordEach kws X.env)).any (·.1.isNone)) = false := by rfl) (hdb : (x == ("__debug__" : Str)) = false := by decide) (hg : Gl X x := by rfl) :
    DE X fld W (.Call (.Name x p) [] kws pos) (fnF g Fs) := by
  obtain ⟨f, fd, hm, hk, _, hw, Fn⟩ := cl
  exact kw_call tk Fn hr hm hk hw ha hfl hks hall hpl hdb hg
/-- what the text says of errors that are caught by the name x, and of the field f -/
structure CatC (K : PySem.W.Frag) (mg : Str → Option Value) (x : Str) (exm : Str → Option Bool) : Prop where
  ex : ∃ C, mg x = some (.ref C) ∧ ∀ c C' b, exm c = some b → mg c = some (.ref C') → PySem.W.exmOne K (.ref C') (.ref C) = some b
theorem s_try {x n y : Str} {np pn' py sp pos' : Pos} {body : List Stmt} {Gb : FS} {exm : Str → Option Bool} (i j : Nat) (cc : CatC X.K X.mg x exm) (tk : Takes X W) (hN : X.N.Nodup)
    (hb : ∀ (W' : WX) (pn : List (Addr × Obj)) (xe : Value → Shared → Prop), Takes (X.tr pn xe) W' → PassesOwn (model X.prog X.w) X.A X.env xe → DB (X.tr pn xe) fld W' body Gb)
    (hi : X.N[i]? = some n := by rfl) (hln : X.env.kindOf n = some .local := by rfl) (hj : X.N[j]? = some y := by rfl) (hly : X.env.scope.names.lookup y = some .local := by rfl)
    (hs : X.stack = X.env :: X.outer := by rfl) (hf : X.env.frame = some X.env.locals := by rfl) (hxx : X.ex = [] := by rfl) (hg : Gl X x := by rfl) (hd : (x == ("__debug__" : Str)) = false := by decide)
    (hdn : (n == ("__debug__" : Str)) = false := by decide) (hcn : (n == ("__classdict__" : Str)) = false := by decide) :
    DS X fld W (.Try body [.ExceptHandler (some (.Name x np)) (some n) [.Assign [.Name y py] (.Name n pn') sp] pos'] [] [] pos) (tryF exm i j Gb) := by
  obtain ⟨C, hm, hx⟩ := cc
  exact ds_try (hcv := .ref C) hx hs hf hxx hN hi hln hj hly ⟨hg, hd, .inl hm⟩ tk hdn hcn hb
/-- what the text says of a field of errors -/
def AttC (K : PySem.W.Frag) (mg : Str → Option Value) (fld : Str → Option Str) (f : Str) : Prop := ∀ c C, fld c = some f → mg c = some (.ref C) → XfC K C ∧ PySem.W.findIn K (.ref C) f = some none
theorem k_att {f : Str} (h : AttC X.K X.mg fld f) (pe : Plain e) (he : DE X fld W e F) : DE X fld W (.Attribute e f pos) (attF fld f F) := de_att h pe he
end
end MI

set_option Elab.async false
set_option linter.all false
set_option maxRecDepth 100000
set_option maxHeartbeats 4000000
/-! MI21: from the facts of the text; the law's end. -/
namespace MI
open PySem PySem.Spec L2
open PyProof.Rows hiding St
def Def1 (K : PySem.W.Frag) (mg : Str → Option Value) (x : Str) (st : Stmt) (ps : List Str) : Prop := ∃ f fd, Fun K x x st f fd ∧ mg x = some (.ref f) ∧ Binds K fd ps [] ∧ KwAll K fd ps
section
variable {P : Program} {w : World} {K : PySem.W.Frag} {mg : Str → Option Value} {base : Heap} {fld : Str → Option Str}
theorem def_mk {x : Str} {st : Stmt} {ps : List Str} {f : Addr} {oc kV doc pm cdv ct : Value} {od an : Option Addr} {osl : Array (Option Value)} {h : Heap} (X : K.In h) (G : h.Ns mainGlobals mg)
    (a : PySem.W.nsIn K mainGlobals x = some (some (.ref f))) (l : K.lookup f = some ⟨oc, od, .func (PySem.W.fnOf x x (defArgs st) (defBody st) (defScope st) .none kV doc pm an cdv ct), osl⟩)
    (c : PySem.W.codeIn K cdv x = true) (k : PySem.W.keepIn K (.ref f) = true)
    (hb : ∀ (kV doc pm : Value) (an : Option Addr) (cdv ct : Value) (us : List Value), us.length = ps.length → bindArgs (PySem.W.fnOf x x (defArgs st) (defBody st) (defScope st) .none kV doc pm an cdv ct) ⟨us, []⟩ = pure (ps.zip us))
    (hw : ∀ (kV doc pm : Value) (an : Option Addr) (cdv ct : Value) (us : List Value), us.length = ps.length → bindArgs (PySem.W.fnOf x x (defArgs st) (defBody st) (defScope st) .none kV doc pm an cdv ct) ⟨[], ps.zip us⟩ = pure (ps.zip us)) : Def1 K mg x st ps :=
  ⟨f, _, fun_mk l c k, PySem.W.mg_of X G a, (fun_mk l c k).binds hb, fun s us _ hl => .of_eq (hw _ _ _ _ _ _ us hl)⟩
/-- a tuple of texts of the module -/
theorem tup2_mk {x : Str} {a : Addr} {p q : Str} {t u : Tok} {dd : Option Addr} {n : Nat} {sl : Array (Option Value)} {h : Heap} (X : K.In h) (G : h.Ns mainGlobals mg) (ha : PySem.W.nsIn K mainGlobals x = some (some (.ref a)))
    (l : K.lookup a = some ⟨.type "tuple", dd, .seq #[.str p t, .str q u] n, sl⟩) : GConst K mg fld x (.tup [.str p, .str q]) :=
  ⟨.ref a, .ref a, PySem.W.mg_of X G ha, rfl, fun ω => .tup (.inr ⟨_, _, n, l, rfl, rfl, by show 2 ≤ sizeLine; decide, .cons (show RelV (.str p) (.str p t) from ⟨t, rfl⟩) (.cons (show RelV (.str q) (.str q u) from ⟨u, rfl⟩) .nil)⟩) (.cons (.str p) (.cons (.str q) .nil))⟩
/-- self.f = f -/
theorem init_mk {C fI : Addr} {x y f : Str} {params : Arguments} {q1 q2 q3 q4 : Pos} {sc : Scope} {fd : FuncData} (F : FunD K x y params [.Assign [.Attribute (.Name "self" q1) f q2] (.Name f q3) q4] sc [.non] [] fI fd) (S : FnScope ["self", f] ["self", f] sc)
    (T : OexC K C) (hno : PySem.W.findIn K (.ref C) f = some none) (l1 : sc.names.lookup ("self" : Str) = some .local) (l2 : sc.names.lookup f = some .local) (hd : (f == ("__debug__" : Str)) = false) (hcd : (f == ("__classdict__" : Str)) = false) :
    FnOk P w K mg base (L2.CX P w) 1 fI fd ["self", f] (spInit C f) := by
  refine F.ok S (fun vs H Q E h => ?_) (fun cdv A outer s H vs Q E hr h => ⟨_, pss_one (ps_ost (pe_var (i := 0) rfl (.inl l1)) (pe_var (i := 1) rfl (.inl l2) hd hcd)), ?_⟩)
  · obtain ⟨a, v, rfl, _⟩ := h
    rfl
  · obtain ⟨a, v, rfl, e, q⟩ := h
    exact ⟨v, rfl, .ref a, rfl, a, C, rfl, T, hno, .inl ⟨e, fun dx h1 h2 => q dx h1 h2⟩⟩
/-- what a law's function promises -/
def spLaw (K : PySem.W.Frag) : Sp := fun vs H Q _ => ∃ (a : Addr) (ns : List Int), vs = [.ref a] ∧ SqL K H a (ns.map V.int) ∧ ns.length ≤ 63 ∧ ∀ H', Q (.bl true) H'
theorem repInts {ω : Wd} : ∀ ns : List Int, RepL K mg fld ω (ns.map V.int) (ns.map D.int)
  | [] => .nil
  | n :: ns => .cons (.int n) (repInts ns)
/-- the law, from its reading by data -/
theorem law_by {k : Nat} {x : Str} {fa : Addr} {fd : FuncData} {g : List D → Store → R D} (F : FnOk P w K mg base (L2.CX P w) k fa fd [x] (spD K mg fld 1 g))
    (h : ∀ ns : List Int, ns.length ≤ 63 → ∀ d, (d = .lst (ns.map D.int) ∨ d = .fls (ns.map D.int)) → ∃ S, g [d] [] = .ok (.bl true) S) : FnOk P w K mg base (L2.CX P w) k fa fd [x] (spLaw K) := by
  refine F.imp fun vs H Q E ⟨a, ns, e, hS, hl, q⟩ => ?_
  subst e
  have ok : Ok K mg fld ⟨fun _ => 0, [], H, fun _ => False⟩ := ⟨fun n c z => (by cases n <;> cases z), fun i j z => (by cases z), fun a z => False.elim z⟩
  have cl : Wd.clear ⟨fun _ => 0, [], H, fun _ => False⟩ a := ⟨fun n z => (by cases z), fun z => z⟩
  obtain ⟨d, hd, r⟩ : ∃ d, (d = .lst (ns.map D.int) ∨ d = .fls (ns.map D.int)) ∧ Rep K mg fld ⟨fun _ => 0, [], H, fun _ => False⟩ (.ref a) d := by
    rcases hS with (hS | ⟨o, hS⟩) | hS
    · exact ⟨_, .inl rfl, .lst hS cl (repInts ns)⟩
    · exact ⟨_, .inr rfl, .fls (.inl ⟨o, hS⟩) (repInts ns)⟩
    · exact ⟨_, .inr rfl, .fls (.inr hS) (repInts ns)⟩
  obtain ⟨S, hg⟩ := h ns hl d hd
  refine ⟨rfl, _, [d], rfl, ok, .cons r .nil, ?_⟩
  show Post K mg fld (Rep K mg fld) _ [] _ (g [d] []) Q
  rw [hg]
  intro ω' _ _ _ v rv
  cases rv
  exact q _
end
theorem law_walk {l : PySem.W.OpenLaw} {q : Program} {loose : List Str} {XP : (Str → Option Value) → Heap → Prop} {YP : World → Heap → Prop} {d : DefRec} {K : Params → PySem.W.Frag} {k : Nat} {x : Str} (hk : Room k callerA) (hn : l.most = some 63) (hdf : d.params.defaults = [])
    (hY : ∀ (w : World) (h : Heap), YP w h → (K w.params).In h)
    (F : ∀ (w : World) (mg : Str → Option Value) (fa : Addr) (h : Heap), (K w.params).In h → h.Ns mainGlobals mg → mg d.name = some (.ref fa) →
      ∃ fd : FuncData, (∀ (s : Shared) (u : Value), BindsTo s fd ⟨[u], []⟩ [(x, u)]) ∧ ∀ base : Heap, (K w.params).In base → base.Ns mainGlobals mg → FnOk l.prog w (K w.params) mg base (L2.CX l.prog w) k fa fd [x] (spLaw (K w.params))) :
    PySem.W.WalkO q loose XP YP l.row.toRowW d [] (fun f vs => PySem.call f vs) :=
  L2.walk_of (n := 63) (k := k) (x := x) (CX := fun w => L2.CX l.prog w) (sp := fun w => spLaw (K w.params)) hn (by decide) hdf hk hY F (fun _ _ a ns hl _ hS => ⟨a, ns, rfl, hS, hl, fun _ => rfl⟩) fun w H s e s' ⟨a, B, H', cls, dd, _, _, _, _, _, _, _, z⟩ => z
end MI

set_option Elab.async false
set_option linter.all false
set_option maxRecDepth 100000
/-! MI22: enumerate over a tuple -/
namespace MI
open PySem PySem.Spec L2
open PyProof.Rows hiding St
open AutoSeq1 (wpAny_loadPart')

set_option maxHeartbeats 1000000 in
theorem enT_new {v : Value} {o : Obj} {HP : Heap → Prop} (B : Begins v o HP) :
    Meets (Builtin.«enumerate.__new__» ⟨[.type "enumerate", v], []⟩) (fun _ R s => HP s.heap ∧ R (.ok (.ret (.ref (s.heap.push o).objs.size))) { s with heap := (s.heap.push o).push { cls := .type "enumerate", data := .fields #[.none, .bool false, .ref s.heap.objs.size, rawInt 0, .none, .none] } }) :=
  .of_wp fun prog w A R s hs => by
    obtain ⟨h0, g0, d0, t0, s0⟩ := s
    obtain ⟨hB, hs⟩ := hs
    have q0 := sub_enumerate
    have qi : ∀ {A' : Around} {E' : Value → Shared → Prop} {Q' : Value → Shared → Prop}, Q' (.ref h0.objs.size) ⟨h0.push o, g0, d0, t0, s0⟩ → wpAny (model prog w) A' (pyIter v) Q' E' ⟨h0, g0, d0, t0, s0⟩ := fun q => B.iter prog w _ _ ⟨h0, g0, d0, t0, s0⟩ _ hB q
    wp_walk using qi
    refine wpAny_stack_any fun _ => wpAny_pure ?_
    split
    · rename_i c' _ _ _ _ _
      cases (c' == Value.type "enumerate") <;>
      · wp_walk using qi
        exact ⟨_, rfl, hs⟩
    · wp_walk using qi
      exact ⟨_, rfl, hs⟩
theorem enT_call {P : Program} {w : World} {A : Around} {E : Value → Shared → Prop} {s : Shared} {v : Value} {o : Obj} {HP : Heap → Prop} {Q : Value → Shared → Prop} (B : Begins v o HP) (hB : HP s.heap)
    (k : ∀ h', IsEnum h' (s.heap.objs.size + 1) s.heap.objs.size 0 .none → h'.get? s.heap.objs.size = some o → (∀ b x, s.heap.get? b = some x → h'.get? b = some x) → Q (.ref (s.heap.objs.size + 1)) { s with heap := h' }) :
    wpAny (model P w) A (call (.type "enumerate") [v]) Q E s := by
  refine callType_new F.called_enumerate (by decide) (F.typeCall_enumerate_1 _) (F.newCall_enumerate_1 _) (fun z => F.args_object_init_2 z _) F.entry_enumerate_new (enT_new B) ⟨hB, ?_⟩
  have sz : (s.heap.push o).objs.size = s.heap.objs.size + 1 := Heap.size_push ..
  show _ ∧ _
  rw [sz]
  have en : IsEnum ((s.heap.push o).push { cls := .type "enumerate", data := .fields #[.none, .bool false, .ref s.heap.objs.size, rawInt 0, .none, .none] }) (s.heap.objs.size + 1) s.heap.objs.size 0 .none := by
    have z := Heap.get?_push_size (s.heap.push o) (o := { cls := .type "enumerate", data := .fields #[.none, .bool false, .ref s.heap.objs.size, rawInt 0, .none, .none] }) rfl
    rw [sz] at z
    exact z
  exact ⟨⟨_, en, rfl⟩, k _ en (Heap.get?_push_of_some _ (Heap.get?_push_size _ B.free)) fun b x q => Heap.get?_push_of_some _ (Heap.get?_push_of_some _ q)⟩
theorem enT_end {P : Program} {w : World} {A : Around} {E : Value → Shared → Prop} {s : Shared} {e it a : Addr} {i : Nat} {its : Array Value} {old : Value} {Q : Option Value → Shared → Prop} (hn : A.handled = none)
    (he : IsEnum s.heap e it i old) (hi : s.heap.IsTupleIter it a i) (hT : s.heap.IsTuple a its) (hx : its[i]? = none) (k : ∀ h', Heap.ExtBut it s.heap h' → Q none { s with heap := h' }) : wpAny (model P w) A (pyNext (.ref e)) Q E s := by
  have ty : s.TypeIs (.ref e) "enumerate" := ⟨_, he, rfl⟩
  unfold pyNext
  refine wpAny_bind (wpAny_attempt (wpAny_callSpecial?_slot (name := Str.ofString "__next__") ty F.slot_enumerate_next (wpAny_call_entry F.slot_enumerate_next ty F.entry_enumerate_next ?_ (F.args_enumerate_next_1 _))))
  show wpAny _ _ (field (.ref e) 2 >>= fun _ => _) _ _ _
  refine wpAny_bind (wpAny_field he rfl (x := .ref it) rfl ?_)
  refine wpAny_bind (wpAny_nextOf_tuple_end hn hi hT hx fun h' y ext ⟨o, ho, hc⟩ => ?_)
  exact wpAny_bind (wpAny_isInstance (T := "StopIteration") (b := true) ⟨o, ho, hc⟩ isSubtype_stop (wpAny_pure (k _ ext)))
/-- the tuple at a as it stands at each turn, each item in a new pair -/
def IteT (K : PySem.W.Frag) (a : Addr) : It where
  go := fun i H => ∃ (xs : List V) (x : V), SqT K H a xs ∧ xs[i]? = some x
  yld := fun i H v H' => ∃ T x, v = .ref T ∧ H T = none ∧ H' = upd H T (.tup [.int (i : Nat), x]) ∧ ∀ xs, SqT K H a xs → xs[i]? = some x
  stop := fun i H => ∃ xs : List V, SqT K H a xs ∧ xs.length ≤ i
theorem turn_enT {P : Program} {w : World} {K : PySem.W.Frag} {elts : List Expr} {kk : Nat} {tpos : Pos} (a e it : Addr) :
    Turn P w K (.Tuple elts kk tpos) (IteT K a) [e, it] e (fun i h => (∃ old, IsEnum h e it ((i : Nat) : Int) old) ∧ h.IsTupleIter it a i ∧ e ≠ it ∧ a ≠ it ∧ a ≠ e) where
  mem := by simp
  obj := fun i h st b hb => by
    obtain ⟨⟨old, he⟩, ⟨o, ho, hc, hd⟩, _⟩ := st
    have z : b = e ∨ b = it := by simpa using hb
    rcases z with z | z
    · rw [z]
      exact ⟨_, he, fun v q => nomatch q⟩
    · rw [z]
      exact ⟨o, ho, fun v q => by rw [hd] at q; cases q⟩
  keep := fun i h h' st k => let ⟨⟨old, he⟩, hi, n⟩ := st; ⟨⟨old, k e (by simp) _ he⟩, hi.at fun o q => k it (by simp) o q, n⟩
  item := by
    intro X hP hw hK hc i pins s σ H E I hf st hg
    subst hP hw hK
    obtain ⟨⟨old, he⟩, hit, n1, n2, n3⟩ := st
    obtain ⟨xs, x, hq, hx⟩ := hg
    obtain ⟨its, rv, p, hz⟩ := I.tuple hq
    obtain ⟨u, hu, ru⟩ := rv.get hx
    have le : e < s.heap.objs.size := Heap.lt_size he
    have li : it < s.heap.objs.size := by obtain ⟨_, q, _⟩ := hit; exact Heap.lt_size q
    have hT : s.heap.IsTuple a its.toArray := p
    have hi : i < its.toArray.size := by
      have := List.getElem?_eq_some_iff.mp hu
      simpa using this.1
    refine wpAny_pyNext_enum_itemC (Draws.tuple (A := X.A.in1) (by exact I.ok.hd hc) it a n2 its.toArray) he ⟨hit, hT⟩ hi n1 (by simp [n1, Ne.symm n3]) fun y h' tk hy ho st' hN hsz hk => ?_
    have ey : y = u := by
      have : its[i]? = some y := by simpa using hy
      rw [hu] at this
      exact (Option.some.inj this).symm
    subst ey
    refine ⟨_, rfl, wpAny_letOwnedTupleGo_enum (s := { s with heap := h', toks := tk + 1 }) ho fun h'' he' sb => ?_⟩
    have hN2 : h''.get? s.heap.objs.size = some { cls := .type "tuple", data := .seq #[.int i tk, y] } := (sb.2 _ (Nat.ne_of_gt le)).trans hN
    have new : ObjOk X.prog X.w (upd H s.heap.objs.size (.tup [.int (i : Nat), x])) h'' s.heap.objs.size (.tup [.int (i : Nat), x]) :=
      ⟨(by show 2 ≤ sizeLine; decide), [.int i tk, y], .cons ⟨_, rfl⟩ (.cons ru .nil), ⟨_, hN2, rfl, _, rfl⟩⟩
    have I1 : Inv X pins σ (upd H s.heap.objs.size (.tup [.int (i : Nat), x])) { s with heap := h'', toks := tk + 1 } :=
      I.turnedNew (ch := [e, it]) (fun b ob hb q => (sb.2 b (fun z => hb (by simp [z]))).trans (hk b ob (fun z => hb (by simp [z])) (fun z => hb (by simp [z])) q)) hf (Nat.le_refl _) new
    refine ⟨.ref s.heap.objs.size, _, I1, rfl, ⟨_, x, rfl, I.hok.fresh (Nat.le_refl _), rfl, fun ys hy' => by rw [I.tuple_inj hy' hq]; exact hx⟩, ⟨⟨y, ?_⟩, st'.1.at fun o q => (sb.2 it (Ne.symm n1)).trans q, n1, n2, n3⟩, fun b hb => ?_⟩
    · have e1 : ((i + 1 : Nat) : Int) = (i : Int) + 1 := by omega
      rw [e1]
      exact he'
    · have lb : b < s.heap.objs.size := by
        have z : b = e ∨ b = it := by simpa using hb
        rcases z with z | z
        · rw [z]; exact le
        · rw [z]; exact li
      rw [upd_ne (Nat.ne_of_lt lb)]
      exact (hf b hb).1
  done := by
    intro X hP hw hK hc i pins s σ H E I hf st hg
    subst hP hw hK
    obtain ⟨⟨old, he⟩, hit, n1, n2, n3⟩ := st
    obtain ⟨xs, hq, hx⟩ := hg
    obtain ⟨its, rv, p, hz⟩ := I.tuple hq
    obtain ⟨f0, f1, f2, f3, f4, f5⟩ := hf it (by simp)
    have hl := rv.length
    have hT : s.heap.IsTuple a its.toArray := p
    exact enT_end (I.ok.hd hc) he hit hT (by simp; omega) fun h' eb => ⟨rfl, I.turned (t' := s.toks) (fun b o hb q => eb b o hb q) f0 f1 f3 f4 f5⟩
  self := fun A i s Q E st h => let ⟨⟨_, he⟩, _⟩ := st; wpAny_pyIter_enum he h
theorem pi_enT {X : Cx} {e : Expr} {ta : TA} {p pos tpos : Pos} {elts : List Expr} {kk : Nat} (hg : Gl X "enumerate") (hm : X.mg "enumerate" = none) (ha : PA X [e] ta) (hs : starEach [e] X.env = [(false, eval e X.env)]) :
    PI X (.Tuple elts kk tpos) (.Call (.Name "enumerate" p) [e] [] pos) (fun σ H R => ta σ H fun vs H1 => ∃ a xs, vs = [.ref a] ∧ ((SqL X.K H1 a xs ∧ R (Ite X.K a) H1) ∨ (SqT X.K H1 a xs ∧ R (IteT X.K a) H1))) := by
  refine ⟨fun pins s σ H R I h => ?_⟩
  refine Call_ (ld_blt I hg hm boot_enumerate (PyProof.Rows.callWith_type1 (thn (ha.run pos pins s σ H _ I h) fun us s1 ⟨vs, H1, I1, r1, q1⟩ => ?_) hs rfl))
  obtain ⟨a, xs, rfl, q1⟩ := q1
  cases r1 with
  | cons r rr =>
    cases rr
    cases r
    have hle : ∀ b, b = s1.heap.objs.size + 1 ∨ b = s1.heap.objs.size → s1.heap.objs.size ≤ b := fun b z => by
      rcases z with z | z
      · rw [z]; exact Nat.le_add_right _ _
      · rw [z]; exact Nat.le_refl _
    rcases q1 with ⟨hq, q⟩ | ⟨hq, q⟩
    · obtain ⟨its, rv, p', hz⟩ := I1.list hq
      refine call_enumerate_list p'.isList fun h' he hit _ hk => wpAny_pyIter_enum he ?_
      refine ⟨s1.heap.objs.size + 1, [s1.heap.objs.size + 1, s1.heap.objs.size], _, _, H1, rfl, I1.kept (t' := s1.toks) hk, turn_enum a (s1.heap.objs.size + 1) s1.heap.objs.size, ⟨⟨.none, he⟩, hit, Nat.succ_ne_self _⟩, fun b hb => ?_, q⟩
      have z := hle b (by simpa using hb)
      exact I1.fpOk z (I1.hok.fresh z)
    · obtain ⟨its, rv, p', hz⟩ := I1.tuple hq
      have hT : s1.heap.IsTuple a its.toArray := p'
      have la : a < s1.heap.objs.size := by obtain ⟨o, ho, _⟩ := id hT; exact Heap.lt_size ho
      refine enT_call (begins_tuple a its.toArray) hT fun h' he ho hk => wpAny_pyIter_enum he ?_
      refine ⟨s1.heap.objs.size + 1, [s1.heap.objs.size + 1, s1.heap.objs.size], _, _, H1, rfl, I1.kept (t' := s1.toks) hk, turn_enT a (s1.heap.objs.size + 1) s1.heap.objs.size, ⟨⟨.none, he⟩, ⟨_, ho, rfl, rfl⟩, Nat.succ_ne_self _, Nat.ne_of_lt la, Nat.ne_of_lt (Nat.lt_succ_of_lt la)⟩, fun b hb => ?_, q⟩
      have z := hle b (by simpa using hb)
      exact I1.fpOk z (I1.hok.fresh z)
section
variable {K : PySem.W.Frag} {mg : Str → Option Value} {fld : Str → Option Str} {ω1 : Wd} {d : D} {a : Addr}
theorem itd_enT (ok1 : Ok K mg fld ω1) (h : Rep K mg fld ω1 (.ref a) d) (nt : d.isTup = true) : ItD K mg fld ω1 (IteT K a) (enItf d) := by
  intro ω x ok i
  have r := h.mono ok1 x
  unfold enItf
  cases hs : seqOf ω.S d with
  | none => exact ⟨fun z => (by cases z), fun d' z => (by cases z)⟩
  | some xs =>
    obtain ⟨b, vs, eb, g1, g2⟩ := seqT_of r hs nt
    cases eb
    simp only
    cases hi : xs[i]? with
    | none => exact ⟨fun _ => ⟨vs, g1, by rw [g2.length]; exact List.getElem?_eq_none_iff.mp hi⟩, fun d' z => (by cases z)⟩
    | some y =>
      refine ⟨fun z => (by cases z), fun d' z => ?_⟩
      cases z
      obtain ⟨v, k1, k2⟩ := g2.get hi
      refine ⟨⟨vs, v, g1, k1⟩, fun x H' yl => ?_⟩
      obtain ⟨T, w, rfl, hT, rfl, yl⟩ := yl
      have e := yl vs g1
      rw [k1] at e
      cases e
      exact pair_new ok hT (.int _) k2
end
section
variable {X : Cx} {fld : Str → Option Str} {W : WX} {a : Expr} {pos : Pos} {Fs : FA}
/-- enumerate of a list or a tuple -/
def enA (Fs : FA) : FI := fun σ S => (Fs σ S).bind fun ds S => match ds with
  | [d] => if (seqOf S d).isSome then .ok (enItf d) S else .bad
  | _ => .bad
theorem i_enA {p tpos : Pos} {elts : List Expr} {kk : Nat} (hm : X.mg "enumerate" = none) (pa : Plain a) (ha : DA X fld W [a] Fs) (hg : Gl X "enumerate" := by rfl) : DI X fld W (.Tuple elts kk tpos) (.Call (.Name "enumerate" p) [a] [] pos) (enA Fs) :=
  PI.imp (pi_enT hg hm ha (pa.star [] X.env)) fun σ H Rq h => by
    obtain ⟨ω, σd, e0, ok, er, p⟩ := tG_bind (rel := RepL X.K X.mg fld) (G := fun σ ds S => match ds with
      | [d] => if (seqOf S d).isSome then R.ok (enItf d) S else .bad
      | _ => .bad) h
    refine ⟨ω, σd, e0, ok, er, p.mono ?_⟩
    rintro xs H1 ⟨ω1, σd1, ds, h1, ok1, er1, rd, p1⟩
    subst h1
    split at p1
    · obtain ⟨x, rfl, rx⟩ := rd.one_of
      split at p1
      · rename_i hz
        obtain ⟨ys, hs⟩ := Option.isSome_iff_exists.mp hz
        cases ht : D.isTup _ with
        | false =>
          obtain ⟨a, vs, rfl, g1, g2⟩ := seqL_of ok1 rx hs ht
          exact ⟨a, vs, rfl, .inl ⟨g1, p1 ω1 rfl (.refl ω1) ok1 _ (itd_enum ok1 rx ht)⟩⟩
        | true =>
          obtain ⟨a, vs, rfl, g1, g2⟩ := seqT_of rx hs ht
          exact ⟨a, vs, rfl, .inr ⟨g1, p1 ω1 rfl (.refl ω1) ok1 _ (itd_enT ok1 rx ht)⟩⟩
      · exact p1.elim
    · exact p1.elim
end
end MI

set_option Elab.async false
set_option linter.all false
set_option maxRecDepth 100000
/-! MI23: the module's dicts with texts as keys; -i -/
namespace MI
open PySem PySem.Spec L2
open PyProof.Rows hiding St
/-- a dict of the module that is never written: its keys and values in their order -/
def DictC (P : Program) (w : World) (K : PySem.W.Frag) (mg : Str → Option Value) (x : Str) (kvs : List (Key × V)) : Prop :=
  ∃ g, mg x = some (.ref g) ∧ (g == sysModules) = false ∧ ∀ h : Heap, K.In h → ∃ vs, KV kvs vs ∧ h.DictOf (mixKind P w) g vs
/-- what an entry is -/
def EntOf (P : Params) (e : DictEntry) (p : Key × V) : Prop := ∃ (x : Str) (t : Tok), p.1 = Sum.inr x ∧ e.hash = PyData.keyHash P x ∧ e.key = .str x t ∧ RelV p.2 e.val
theorem dictC_mk {P : Program} {w : World} {K : PySem.W.Frag} {mg : Str → Option Value} {h0 : Heap} {x : Str} {g : Addr} {es : Array DictEntry} {ep : Nat} {kvs : List (Key × V)} (X : K.In h0) (G : h0.Ns mainGlobals mg)
    (a : PySem.W.nsIn K mainGlobals x = some (some (.ref g))) (l : K.lookup g = some ⟨.type "dict", none, .dict es ep, #[]⟩) (hg : (g == sysModules) = false) (hn : (kvs.map (·.1)).Nodup) (he : Paired (fun p e => EntOf w.params e p) kvs es.toList) : DictC P w K mg x kvs := by
  refine ⟨g, PySem.W.mg_of X G a, hg, fun h I => ?_⟩
  have key : ∀ {kvs : List (Key × V)} {l : List DictEntry}, Paired (fun p e => EntOf w.params e p) kvs l → ∃ vs, KV kvs vs ∧ Pairs (mixKind P w) l vs ∧ vs.map (·.1) = kvs.map (·.1) ∧ ∀ e ∈ l, ∃ k, (mixKind P w).is k e.key = true ∧ e.hash = (mixKind P w).hash k := by
    intro kvs l q
    induction q with
    | nil => exact ⟨[], .nil, .nil, rfl, fun e he => by cases he⟩
    | @cons p e _ _ r _ ih =>
      obtain ⟨vs, h1, h2, h3, h4⟩ := ih
      obtain ⟨x, t, e1, e2, e3, e4⟩ := r
      have is : (mixKind P w).is p.1 e.key = true := by rw [e1, e3]; exact keyIs_str x t
      refine ⟨(p.1, e.val) :: vs, .cons ⟨rfl, e4⟩ h1, .cons is rfl h2, by simp [h3], fun e' he' => ?_⟩
      rcases List.mem_cons.mp he' with z | z
      · subst z
        exact ⟨p.1, is, by rw [e1, e2]; rfl⟩
      · exact h4 e' z
  obtain ⟨vs, h1, h2, h3, h4⟩ := key he
  exact ⟨vs, h1, _, es, ep, I _ _ l, ⟨rfl, rfl, rfl⟩, rfl, fun e hm => h4 e (by simpa using hm), h2, by rw [h3]; exact hn⟩
/-- such a dict by data: what is found by a text -/
def DictD (P : Program) (w : World) (K : PySem.W.Frag) (mg : Str → Option Value) (fld : Str → Option Str) (x : Str) (prs : List (Str × D)) : Prop :=
  ∃ kvs, DictC P w K mg x kvs ∧ Paired (fun (p : Str × D) (q : Key × V) => q.1 = Sum.inr p.1 ∧ ∀ ω, Rep K mg fld ω q.2 p.2) prs kvs
def lkS : List (Str × D) → Str → Option D
  | [], _ => none
  | p :: r, x => if p.1 = x then some p.2 else lkS r x
theorem lk_none {K : PySem.W.Frag} {mg : Str → Option Value} {fld : Str → Option Str} {prs : List (Str × D)} {kvs : List (Key × V)} (h : Paired (fun (p : Str × D) (q : Key × V) => q.1 = Sum.inr p.1 ∧ ∀ ω, Rep K mg fld ω q.2 p.2) prs kvs) (x : Str) :
    (lkS prs x = none ∧ valV kvs (Sum.inr x : Key) = none) ∨ ∃ d v, lkS prs x = some d ∧ valV kvs (Sum.inr x : Key) = some v ∧ ∀ ω, Rep K mg fld ω v d := by
  induction h with
  | nil => exact .inl ⟨rfl, rfl⟩
  | @cons p q l1 l2 r _ ih =>
    by_cases e : p.1 = x
    · refine .inr ⟨p.2, q.2, by show (if p.1 = x then some p.2 else _) = _; rw [if_pos e], ?_, r.2⟩
      unfold valV
      rw [List.find?_cons, show decide (q.1 = (Sum.inr x : Key)) = true by rw [r.1, e]; exact decide_eq_true rfl]
      rfl
    · have e1 : lkS (p :: l1) x = lkS l1 x := by show (if p.1 = x then some p.2 else _) = _; rw [if_neg e]
      have e2 : valV (q :: l2) (Sum.inr x : Key) = valV l2 (Sum.inr x : Key) := by
        unfold valV
        rw [List.find?_cons, show decide (q.1 = (Sum.inr x : Key)) = false by rw [r.1]; exact decide_eq_false fun z => e (Sum.inr.inj z)]
      rw [e1, e2]
      exact ih
/-- e in X -/
def inK (prs : List (Str × D)) (F : FE) : FE := fun σ S => (F σ S).bind fun d S => match d with
  | .str z => .ok (.bl (lkS prs z).isSome) S
  | _ => .bad
/-- X[e] -/
def ixK (prs : List (Str × D)) (F : FE) : FE := fun σ S => (F σ S).bind fun d S => match d with
  | .str z => match lkS prs z with
    | some v => .ok v S
    | none => .bad
  | _ => .bad
/-- X.get(e, f) -/
def getK (prs : List (Str × D)) (Fs : FA) : FE := fun σ S => (Fs σ S).bind fun ds S => match ds with
  | [.str z, f] => .ok ((lkS prs z).getD f) S
  | _ => .bad
section
variable {X : Cx} {fld : Str → Option Str} {W : WX} {e f : Expr} {pos px apos cpos : Pos} {x : Str} {F : FE} {Fs : FA} {ti : TE} {ta : TA} {kvs : List (Key × V)} {prs : List (Str × D)}
theorem pc_inC (hc : DictC X.prog X.w X.K X.mg x kvs) (hi : PE X e ti) (hg : Gl X x) (hd : (x == ("__debug__" : Str)) = false) : PC X .In e (.Name x px) (fun σ H Q => ti σ H fun y H1 => ∃ z, y = .str z ∧ Q (.bl (valV kvs (Sum.inr z : Key)).isSome) H1) := by
  obtain ⟨g, hm, hs, hh⟩ := hc
  refine ⟨fun pins s σ H Q I h => ?_⟩
  refine thn (hi.run pins s σ H _ I h) fun iv s1 ⟨y, H1, I1, ry, z, ey, q1⟩ => ?_
  subst ey
  refine ld_glob I1 hg hm ?_ hd
  obtain ⟨vs, rel, dd⟩ := hh s1.heap I1.kIn
  obtain ⟨t, rfl⟩ := (show ∃ t, iv = Value.str z t from ry)
  refine wpAny_in_of (knd := mixKind X.prog X.w) (k := (Sum.inr z : Key)) (keyIs_str z t) hs dd.mapOf ?_
  rw [← (rel.val (Sum.inr z : Key)).isSome_eq]
  exact ⟨.bl (valV kvs (Sum.inr z : Key)).isSome, H1, I1.tok _, rfl, q1⟩
theorem k_inC (hx : DictD X.prog X.w X.K X.mg fld x prs) (ha : DE X fld W e F) (hg : Gl X x := by rfl) (hd : (x == ("__debug__" : Str)) = false := by decide) (hb : behindInMarks .In (.Name x px) = false := by rfl) : DE X fld W (.Compare e [.In] [.Name x px] pos) (inK prs F) := by
  obtain ⟨kvs, hc, hp⟩ := hx
  refine PE.imp (pe_cmp (pc_inC hc ha hg hd) hb) fun σ H Q h => ?_
  obtain ⟨ω, σd, e0, ok, er, p⟩ := tG_bind (rel := Rep X.K X.mg fld) (G := fun σ d S => match d with
    | .str z => R.ok (D.bl (lkS prs z).isSome) S
    | _ => .bad) h
  refine ⟨ω, σd, e0, ok, er, p.mono ?_⟩
  rintro v H1 ⟨ω1, σd1, d, h1, ok1, er1, rd, p1⟩
  subst h1
  split at p1
  · cases rd
    refine ⟨_, rfl, ?_⟩
    rename_i z
    have e : (valV kvs (Sum.inr z : Key)).isSome = (lkS prs z).isSome := by
      rcases lk_none hp z with ⟨a, b⟩ | ⟨d, v, a, b, _⟩ <;> rw [a, b] <;> rfl
    rw [e]
    exact p1 ω1 rfl (.refl ω1) ok1 _ (.bl _)
  · exact p1.elim
theorem pe_ixC (hc : DictC X.prog X.w X.K X.mg x kvs) (hi : PE X e ti) (hg : Gl X x) (hd : (x == ("__debug__" : Str)) = false) (hs : NoSl e) : PE X (.Subscript (.Name x px) e pos) (fun σ H Q => ti σ H fun y H1 => ∃ z v, y = .str z ∧ valV kvs (Sum.inr z : Key) = some v ∧ Q v H1) := by
  obtain ⟨g, hm, hn, hh⟩ := hc
  refine ⟨fun pins s σ H Q I h => ?_⟩
  refine subD_of PySem.F.slot_dict_getitem.lookup hs (ld_glob I hg hm (thn (hi.run pins s σ H _ I h) fun iv s2 ⟨y, H2, I2, ry, z, v, ey, g2, q2⟩ => ?_) hd)
  subst ey
  obtain ⟨vs, rel, dd⟩ := hh s2.heap I2.kIn
  obtain ⟨t, rfl⟩ := (show ∃ t, iv = Value.str z t from ry)
  obtain ⟨w', hw, rw'⟩ := RelO.some_of (v := v) (o := valueAt vs (Sum.inr z : Key)) (by rw [← g2]; exact rel.val (Sum.inr z : Key))
  exact ⟨dd.typeIs, wpAny_getItem_of (knd := mixKind X.prog X.w) (k := (Sum.inr z : Key)) (keyIs_str z t) dd.mapOf hw ⟨v, H2, I2.tok _, rw', q2⟩⟩
theorem k_ixC (hx : DictD X.prog X.w X.K X.mg fld x prs) (ha : DE X fld W e F) (hg : Gl X x := by rfl) (hd : (x == ("__debug__" : Str)) = false := by decide) (hs : NoSl e := by intro _ _; rfl) : DE X fld W (.Subscript (.Name x px) e pos) (ixK prs F) := by
  obtain ⟨kvs, hc, hp⟩ := hx
  refine PE.imp (pe_ixC hc ha hg hd hs) fun σ H Q h => ?_
  obtain ⟨ω, σd, e0, ok, er, p⟩ := tG_bind (rel := Rep X.K X.mg fld) (G := fun σ d S => match d with
    | .str z => match lkS prs z with
      | some v => R.ok v S
      | none => .bad
    | _ => .bad) h
  refine ⟨ω, σd, e0, ok, er, p.mono ?_⟩
  rintro v H1 ⟨ω1, σd1, d, h1, ok1, er1, rd, p1⟩
  subst h1
  split at p1
  · cases rd
    rename_i z
    rcases lk_none hp z with ⟨a, b⟩ | ⟨d, v, a, b, c⟩
    · rw [a] at p1; exact p1.elim
    · rw [a] at p1
      exact ⟨z, v, rfl, b, p1 ω1 rfl (.refl ω1) ok1 _ (c ω1)⟩
  · exact p1.elim
theorem pe_getC (hc : DictC X.prog X.w X.K X.mg x kvs) (ha : PA X [e, f] ta) (hg : Gl X x) (hd : (x == ("__debug__" : Str)) = false) (pe : Plain e) (pf : Plain f) (hl : (apos.endLine == cpos.line) = true) :
    PE X (.Call (.Attribute (.Name x px) "get" apos) [e, f] [] cpos) (fun σ H Q => ta σ H fun ys H1 => ∃ z v, ys = [.str z, v] ∧ Q ((valV kvs (Sum.inr z : Key)).getD v) H1) := by
  obtain ⟨g, hm, hn, hh⟩ := hc
  have pn : Plain (.Name x px) := plain_name
  refine ⟨fun pins s σ H Q I h => ?_⟩
  refine wpAny_Call_method_late (pn.base "get" X.env) (few_of cpos X.env (plain_allC pe (plain_all1 pf)) (by simp)) hl rfl (ld_glob I hg hm ?_ hd)
  obtain ⟨vs, rel, dd⟩ := hh s.heap I.kIn
  refine ⟨"dict", "dict.get", PySem.F.plainAttrs_dict, PySem.F.slot_dict_get, PySem.F.type_dict_get, dd.typeIs, dd.mapOf.noDict, ?_⟩
  have hA := ha.run cpos pins s σ H _ I h
  have st := pe.star [f] X.env
  have bt := backTo_any cpos [f] X.env fun y hy => by
    have : y = f := by simpa using hy
    rw [this]; exact pf
  rw [st] at hA ⊢
  refine Calls.callWith_builtin (by show (false || (backTo cpos (starEach [f] X.env)).any (·.1)) = false; rw [bt] <;> rfl) (Calls.evalArgs_plain (thn hA fun us s2 ⟨ys, H2, I2, r2, z, v, ey, q2⟩ => ?_))
  subst ey
  obtain ⟨u1, u2, rfl, r1, r4⟩ := vals2 r2
  obtain ⟨t, rfl⟩ := (show ∃ t, u1 = Value.str z t from r1)
  obtain ⟨vs2, rel2, dd2⟩ := hh s2.heap I2.kIn
  refine call_meetsIn PySem.F.slot_dict_get dd2.typeIs PySem.F.entry_dict_get (PySem.F.args_dict_get_3 _ _ _) (meets_dict_get_default (mixKind X.prog X.w) g (k := (Sum.inr z : Key)) (show (mixKind X.prog X.w).is (Sum.inr z : Key) (.str z t) = true from keyIs_str z t) hn u2) ⟨_, dd2.mapOf, ?_⟩
  exact ⟨_, H2, I2.tok _, (rel2.val (Sum.inr z : Key)).getD r4, q2⟩
theorem k_getC (hx : DictD X.prog X.w X.K X.mg fld x prs) (pe : Plain e) (pf : Plain f) (ha : DA X fld W [e, f] Fs) (hg : Gl X x := by rfl) (hd : (x == ("__debug__" : Str)) = false := by decide) (hl : (apos.endLine == cpos.line) = true := by rfl) : DE X fld W (.Call (.Attribute (.Name x px) "get" apos) [e, f] [] cpos) (getK prs Fs) := by
  obtain ⟨kvs, hc, hp⟩ := hx
  refine PE.imp (pe_getC hc ha hg hd pe pf hl) fun σ H Q h => ?_
  obtain ⟨ω, σd, e0, ok, er, p⟩ := tG_bind (rel := RepL X.K X.mg fld) (G := fun σ ds S => match ds with
    | [.str z, f] => R.ok ((lkS prs z).getD f) S
    | _ => .bad) h
  refine ⟨ω, σd, e0, ok, er, p.mono ?_⟩
  rintro vs H1 ⟨ω1, σd1, ds, h1, ok1, er1, rd, p1⟩
  subst h1
  split at p1
  · rename_i z f
    obtain ⟨v1, v2, rfl, r1, r2⟩ := rd.two_of
    cases r1
    refine ⟨z, v2, rfl, ?_⟩
    rcases lk_none hp z with ⟨a, b⟩ | ⟨d, v, a, b, c⟩
    · rw [a] at p1
      rw [b]
      exact p1 ω1 rfl (.refl ω1) ok1 _ r2
    · rw [a] at p1
      rw [b]
      exact p1 ω1 rfl (.refl ω1) ok1 _ (c ω1)
  · exact p1.elim
/-- -e -/
def negF (F : FE) : FE := fun σ S => (F σ S).bind fun d S => match d with
  | .int i => .ok (.int (-i)) S
  | _ => .bad
theorem k_neg (ha : DE X fld W e F) : DE X fld W (.UnaryOp .USub e pos) (negF F) := by
  refine PE.imp (pe_un un_neg ha) fun σ H Q h => ?_
  obtain ⟨ω, σd, e0, ok, er, p⟩ := tG_bind (rel := Rep X.K X.mg fld) (G := fun σ d S => match d with
    | .int i => R.ok (D.int (-i)) S
    | _ => .bad) h
  refine ⟨ω, σd, e0, ok, er, p.mono ?_⟩
  rintro v H1 ⟨ω1, σd1, d, h1, ok1, er1, rd, p1⟩
  subst h1
  split at p1
  · cases rd
    exact ⟨_, rfl, p1 ω1 rfl (.refl ω1) ok1 _ (.int _)⟩
  · exact p1.elim
end
end MI

set_option Elab.async false
set_option linter.all false
set_option maxRecDepth 100000
/-! MI24: a tuple times a number -/
namespace MI
open PySem PySem.Spec L2
open PyProof.Rows hiding St
def mulT (d e : D) (S : Store) : R D := match d, e with
  | .tup xs, .int k => if !xs.isEmpty && (decide (2 ≤ k) && decide (k ≤ 1000) && decide (xs.length ≤ 1000)) then .ok (.tup (List.replicate k.toNat xs).flatten) S else .bad
  | _, _ => .bad
theorem noErr_mulT (d e : D) (S : Store) : NoErr (mulT d e S) := by
  unfold mulT
  split
  · split
    · exact noErr_ok _ _
    · exact noErr_bad
  · exact noErr_bad
section
variable {X : Cx} {fld : Str → Option Str} {W : WX} {a b : Expr} {pos : Pos} {Fa Fb : FE}
theorem opD_mulT : OpD X fld (binaryOp .Mult) mulT := by
  intro pins s σ ω x y v u Q d e I rx ry ok rd re h
  unfold mulT at h
  split at h
  · split at h
    · rename_i xs k hz
      obtain ⟨l, vs, rfl, hT, ra⟩ := rd.tup_of
      cases re
      simp only [Bool.and_eq_true, Bool.not_eq_true', decide_eq_true_eq] at hz
      refine op_repT pins s σ ω.H _ _ v u Q I rx ry ⟨l, k, vs, rfl, rfl, hT, ?_, hz.2.1.1, hz.2.1.2, by rw [ra.length]; exact hz.2.2, fun p hp => h.newT ok hp (ra.replicate _)⟩
      intro z
      subst z
      have := ra.length
      cases xs with
      | nil => simp at hz
      | cons => cases this
    · exact h.elim
  · exact h.elim
theorem k_mulT (ha : DE X fld W a Fa) (hb : DE X fld W b Fb) : DE X fld W (.BinOp a .Mult b pos) (binD mulT Fa Fb) := de_bin noErr_mulT opD_mulT ha hb
end
end MI

set_option Elab.async false
set_option linter.all false
set_option maxRecDepth 100000
/-! MI25: calls of a function that a local variable holds -/
namespace MI
open PySem PySem.Spec L2
open PyProof.Rows hiding St
def tCallL (CX : CXT) (X : Cx) (E : St → XK) (i : Nat) (t : TA) : TE := fun σ H Q => ∃ (f : Addr) (k : Nat) (fd : FuncData) (ps : List Str) (sp : Sp), σ[i]? = some (some (.ref f)) ∧ FnOk X.prog X.w X.K X.mg X.base CX k f fd ps sp ∧ Room k X.A ∧ PySem.W.keepIn X.K (.ref f) = true ∧ Binds X.K fd ps [] ∧ t σ H fun vs H1 => sp vs H1 Q (E σ)
theorem pe_callL {X : Cx} {CX : CXT} {E : St → XK} {x : Str} {p pos : Pos} {e : Expr} {es : List Expr} {t : TA} {i : Nat} (hv : PE X (.Name x p) (tVar i)) (hx : ∀ σ, PassesAt CX X σ (E σ))
    (ha : PA X (e :: es) t) (he : starEach (e :: es) X.env = (false, eval e X.env) :: starEach es X.env := by rfl) (hpl : (backTo pos (starEach es X.env)).any (·.1) = false := by rfl) :
    PE X (.Call (.Name x p) (e :: es) [] pos) (tCallL CX X E i t) := by
  refine ⟨fun pins s σ H Q I h => ?_⟩
  obtain ⟨f, k, fd, ps, sp, hσ, F, hr, hk, hb, h⟩ := h
  refine wpAny_Call_Name_kw ?_
  refine thn (hv.run pins s σ H (fun v H' => v = .ref f ∧ H' = H) I ⟨_, hσ, rfl, rfl⟩) fun u s1 q => ?_
  obtain ⟨v, H1, I1, r, rfl, rfl⟩ := q
  cases r
  refine PySem.W.callWith_K (h₀ := X.base) I1.ok.mod.kin hk (thn (ha.run pos pins s1 σ H1 _ I1 h) fun us s2 ⟨vs, H2, I2, r2, q2⟩ => ⟨I2.kIn, ?_⟩) he hpl
  exact run_fnS F hr hb (hx σ) I2 r2 q2
def lkG : List (Str × (List D → Store → R D)) → Str → Option (List D → Store → R D)
  | [], _ => none
  | p :: r, x => if p.1 = x then some p.2 else lkG r x
/-- a call of the function that the variable i holds -/
def calL (tb : List (Str × (List D → Store → R D))) (i : Nat) (Fs : FA) : FE := fun σ S => match σ[i]? with
  | some (some (.fn n)) => match lkG tb n with
    | some g => (Fs σ S).bind fun ds S => g ds S
    | none => .bad
  | _ => .bad
theorem lkG_all {C : Str → (List D → Store → R D) → Prop} : ∀ {tb : List (Str × (List D → Store → R D))}, (∀ p ∈ tb, C p.1 p.2) → ∀ n g, lkG tb n = some g → C n g
  | [], _, _, _, h => by cases h
  | p :: r, hC, n, g, h => by
    have h' : (if p.1 = n then some p.2 else lkG r n) = some g := h
    split at h'
    · rename_i e
      cases h'
      rw [← e]
      exact hC p List.mem_cons_self
    · exact lkG_all (fun q hq => hC q (List.mem_cons_of_mem _ hq)) n g h'
section
variable {X : Cx} {fld : Str → Option Str} {W : WX} {e : Expr} {es : List Expr} {pos p : Pos} {Fs : FA}
theorem k_calL (i : Nat) {x : Str} {k N : Nat} {tb : List (Str × (List D → Store → R D))} (tk : Takes X W) (hC : ∀ q ∈ tb, ∃ ps : List Str, ps.length = N ∧ Cal X.prog X.w X.K X.mg X.base fld k q.1 ps q.2) (hr : Room k X.A)
    (hp : ∀ y ∈ e :: es, Plain y) (ha : DA X fld W (e :: es) Fs) (hfl : ∀ σ S ds S', Fs σ S = .ok ds S' → ds.length = N)
    (hN : X.N[i]? = some x := by rfl) (hv : Vis X.env.scope x := by first | exact Or.inl rfl | exact Or.inr (Or.inl rfl) | exact Or.inr (Or.inr rfl)) (hd : (x == ("__debug__" : Str)) = false := by decide)
    (hcd : (x == ("__classdict__" : Str)) = false := by decide) :
    DE X fld W (.Call (.Name x p) (e :: es) [] pos) (calL tb i Fs) :=
  PE.imp (pe_callL (pe_var hN hv hd hcd) (fun σ => passAt tk σ) ha ((hp e List.mem_cons_self).star es X.env) (backTo_any pos es X.env fun y hy => hp y (List.mem_cons_of_mem _ hy))) fun σ H Q h => by
    obtain ⟨ω, σd, e0, ok, er, p⟩ := h
    unfold calL at p
    split at p
    · rename_i n hn
      split at p
      · rename_i g hg
        obtain ⟨v, h1, h2⟩ := er.2 i _ hn
        obtain ⟨ps, hl, f, fd, hm, hk, hb, _, Fn⟩ := lkG_all (C := fun n g => ∃ ps : List Str, ps.length = N ∧ Cal X.prog X.w X.K X.mg X.base fld k n ps g) hC n g hg
        cases h2 with
        | fn hm' =>
          rw [hm] at hm'
          cases hm'
          refine ⟨f, k, fd, ps, _, h1, Fn, hr, hk, hb, ω, σd, e0, ok, er, ?_⟩
          have p' : Post X.K X.mg fld (Rep X.K X.mg fld) W σ ω ((Fs σd ω.S).bind fun ds S => g ds S) Q := p
          cases hF : Fs σd ω.S with
          | ok ds S' =>
            rw [hF] at p'
            intro ω1 e1 e2 e3 vs rb
            have p2 : Post X.K X.mg fld (Rep X.K X.mg fld) W σ ω1 (g ds ω1.S) Q := by
              rw [e1]; exact Post.ext ok e3 e2 p'
            refine ⟨by rw [rb.length, hl]; exact hfl _ _ _ _ hF, ω1, ds, rfl, e3, rb, ?_⟩
            cases hG : g ds ω1.S with
            | ok d S2 => rw [hG] at p2; exact p2
            | err y S2 => rw [hG] at p2; exact p2
            | bad => rw [hG] at p2; exact p2.elim
          | err y S' => rw [hF] at p'; exact p'
          | bad => rw [hF] at p'; exact p'.elim
      · exact p.elim
    · exact p.elim
end
end MI

set_option Elab.async false
set_option linter.all false
set_option maxRecDepth 100000
/-! MI26: dict(a list of pairs with texts as keys) -/
namespace MI
open PySem PySem.Spec L2
open PyProof.Rows hiding St
def prsK : List D → Option (List (Key × D))
  | [] => some []
  | .tup [.str x, d] :: r => match prsK r with
    | some l => some ((Sum.inr x, d) :: l)
    | none => none
  | _ :: _ => none
def putDK (kvs : List (Key × D)) (k : Key) (v : D) : List (Key × D) :=
  if (kvs.any fun kv => decide (kv.1 = k)) = true then kvs.map (fun kv => if kv.1 = k then (kv.1, v) else kv) else kvs ++ [(k, v)]
def mergeDK (kvs more : List (Key × D)) : List (Key × D) := more.foldl (fun acc kv => putDK acc kv.1 kv.2) kvs
def dictPD (ds : List D) (S : Store) : R D := match ds with
  | [d] => match lstOf S d with
    | some xs => match prsK xs with
      | some kvs => .ok (.dic ((mergeDK [] kvs).map (·.1)) ((mergeDK [] kvs).map (·.2))) S
      | none => .bad
    | none => .bad
  | _ => .bad
section
variable {K : PySem.W.Frag} {mg : Str → Option Value} {fld : Str → Option Str} {ω : Wd} {Q : VK} {p : Addr} {vs : List V} {ds : List D} {ks : List Key}
theorem PostN.newDic (ok : Ok K mg fld ω) (hp : ω.H p = none) (r : RepL K mg fld ω vs ds) (hl : ks.length = vs.length) (h : PostN K mg fld ω (.ok (.dic ks ds) ω.S) Q) : Q (.ref p) (upd ω.H p (.dK (ks.zip vs))) :=
  h (ω.add p (.dK (ks.zip vs))) rfl (Ext.upd ω hp) (ok.alloc hp) (.ref p) (.dic upd_same hl (ok.fresh hp) (r.mono ok (Ext.upd ω hp)))
variable (K mg fld ω) in
def KD : List (Key × V) → List (Key × D) → Prop := Paired fun p q => p.1 = q.1 ∧ Rep K mg fld ω p.2 q.2
theorem KD.any (k : Key) : ∀ {a : List (Key × V)} {b : List (Key × D)}, KD K mg fld ω a b → (a.any fun kv => decide (kv.1 = k)) = (b.any fun kv => decide (kv.1 = k)) := by
  intro a b h
  induction h with
  | nil => rfl
  | cons h t ih => simp only [List.any_cons, h.1, ih]
theorem KD.map {k : Key} {v : V} {d : D} (r : Rep K mg fld ω v d) : ∀ {a : List (Key × V)} {b : List (Key × D)}, KD K mg fld ω a b → KD K mg fld ω (a.map fun kv => if kv.1 = k then (kv.1, v) else kv) (b.map fun kv => if kv.1 = k then (kv.1, d) else kv) := by
  intro a b h
  induction h with
  | nil => exact .nil
  | @cons x y l1 l2 h t ih =>
    rw [List.map_cons, List.map_cons]
    refine .cons ?_ ih
    rw [h.1]
    by_cases e : y.1 = k
    · rw [if_pos e, if_pos e]; exact ⟨rfl, r⟩
    · rw [if_neg e, if_neg e]; exact h
theorem KD.put {k : Key} {v : V} {d : D} (r : Rep K mg fld ω v d) {a : List (Key × V)} {b : List (Key × D)} (h : KD K mg fld ω a b) : KD K mg fld ω (putK a k v) (putDK b k d) := by
  unfold putK putDK
  rw [h.any k]
  split
  · exact h.map r
  · exact Paired.snoc h ⟨rfl, r⟩
theorem KD.merge : ∀ {a : List (Key × V)} {b : List (Key × D)}, KD K mg fld ω a b → ∀ {a0 : List (Key × V)} {b0 : List (Key × D)}, KD K mg fld ω a0 b0 → KD K mg fld ω (mergeK a0 a) (mergeDK b0 b) := by
  intro a b h
  induction h with
  | nil => intro a0 b0 h0; exact h0
  | @cons x y l1 l2 h t ih =>
    intro a0 b0 h0
    have := ih (h0.put (k := y.1) h.2)
    rw [← h.1] at this
    show KD K mg fld ω (mergeK (putK a0 x.1 x.2) l1) (mergeDK (putDK b0 y.1 y.2) l2)
    rw [← h.1]
    exact this
theorem KD.parts : ∀ {a : List (Key × V)} {b : List (Key × D)}, KD K mg fld ω a b → a = (b.map (·.1)).zip (a.map (·.2)) ∧ (b.map (·.1)).length = (a.map (·.2)).length ∧ RepL K mg fld ω (a.map (·.2)) (b.map (·.2)) := by
  intro a b h
  induction h with
  | nil => exact ⟨rfl, rfl, .nil⟩
  | @cons x y l1 l2 h t ih =>
    obtain ⟨h1, h2, h3⟩ := ih
    refine ⟨?_, by simp only [List.map_cons, List.length_cons, h2], .cons h.2 h3⟩
    rw [List.map_cons, List.map_cons, List.zip_cons_cons, ← h1, ← h.1]
theorem prs_of : ∀ {ys : List D} {kds : List (Key × D)} {vs : List V}, prsK ys = some kds → RepL K mg fld ω vs ys → ∃ (ps : List Addr) (kvs : List (Key × V)), vs = ps.map V.ref ∧ Paired (fun p kv => SqT K ω.H p [kV kv.1, kv.2]) ps kvs ∧ KD K mg fld ω kvs kds
  | [], kds, vs, h, r => by
    cases h
    cases r
    exact ⟨[], [], rfl, .nil, .nil⟩
  | y :: ys, kds, vs, h, r => by
    cases r with
    | @cons v w _ _ r t =>
      unfold prsK at h
      split at h
      · rename_i z; cases z
      · rename_i x d r' z
        cases z
        split at h
        · rename_i l hl
          cases h
          obtain ⟨ps, kvs, h1, h2, h3⟩ := prs_of hl t
          obtain ⟨a, ws, rfl, s1, s2⟩ := r.tup_of
          cases s2 with
          | cons q1 q2 =>
            cases q2 with
            | cons q2 q3 =>
              cases q3
              have := q1.str_of
              subst this
              exact ⟨a :: ps, (Sum.inr x, _) :: kvs, by rw [h1]; rfl, .cons s1 h2, .cons ⟨rfl, q2⟩ h3⟩
        · cases h
      · cases h
end
section
variable {X : Cx} {fld : Str → Option Str}
theorem callD_dictP (hc : X.calm = true) : CallD X fld (.type "dict") dictPD := by
  intro pins s σ ω xs us Q ds I r ok rd p
  rcases ds with _ | ⟨d, _ | ⟨_, _⟩⟩
  · exact p.elim
  · obtain ⟨x, rfl, rx⟩ := rd.one_of
    have p2 : PostN X.K X.mg fld ω (match lstOf ω.S d with
        | some xs => match prsK xs with
          | some kvs => .ok (.dic ((mergeDK [] kvs).map (·.1)) ((mergeDK [] kvs).map (·.2))) ω.S
          | none => .bad
        | none => .bad) Q := p
    cases hq : lstOf ω.S d with
    | none => rw [hq] at p2; exact p2.elim
    | some ys =>
      rw [hq] at p2
      cases hk : prsK ys with
      | none => simp only [hk] at p2; exact p2.elim
      | some kds =>
        simp only [hk] at p2
        obtain ⟨a, vs, rfl, h1, h2⟩ := lst_of ok rx hq
        obtain ⟨ps, kvs, rfl, h3, h4⟩ := prs_of hk h2
        obtain ⟨e1, e2, e3⟩ := (h4.merge (.nil : KD X.K X.mg fld ω [] [])).parts
        refine call_dictP hc pins s σ ω.H _ us Q I r ⟨a, ps, kvs, rfl, SqL.of h1, h3, fun l hl => ?_⟩
        have := p2.newDic ok hl e3 e2
        rw [← e1] at this
        exact this
  · exact p.elim
end
end MI

set_option Elab.async false
set_option linter.all false
set_option maxRecDepth 100000
/-! MI27: d.get(e, f) of a dict that a variable holds -/
namespace MI
open PySem PySem.Spec L2
open PyProof.Rows hiding St
def lkD : List Key → List D → Key → Option D
  | k :: ks, d :: ds, x => if k = x then some d else lkD ks ds x
  | _, _, _ => none
def getDD (d e f : D) (S : Store) : R D := match d, e with
  | .dic ks ds, .str x => .ok ((lkD ks ds (Sum.inr x)).getD f) S
  | _, _ => .bad
def D.isDicB : D → Bool
  | .dic _ _ => true
  | _ => false
def getF (Fd Fe Ff : FE) : FE := fun σ S => (Fd σ S).bind fun d S => if d.isDicB then (Fe σ S).bind fun e S => (Ff σ S).bind fun f S => getDD d e f S else .bad
section
variable {K : PySem.W.Frag} {mg : Str → Option Value} {fld : Str → Option Str} {ω : Wd}
theorem lkD_rep (k : Key) : ∀ {ks : List Key} {vs : List V} {ds : List D}, ks.length = vs.length → RepL K mg fld ω vs ds →
    (valV (ks.zip vs) k = none ∧ lkD ks ds k = none) ∨ ∃ v d, valV (ks.zip vs) k = some v ∧ lkD ks ds k = some d ∧ Rep K mg fld ω v d
  | [], vs, ds, hl, r => by
    cases r with
    | nil => exact .inl ⟨rfl, rfl⟩
    | cons _ _ => cases hl
  | y :: ks, vs, ds, hl, r => by
    cases r with
    | nil => cases hl
    | @cons v vs d ds r t =>
      have hl' : ks.length = vs.length := by simpa using hl
      have e0 : lkD (y :: ks) (d :: ds) k = if y = k then some d else lkD ks ds k := rfl
      rw [List.zip_cons_cons, e0]
      by_cases e : y = k
      · rw [if_pos e, valV_pos (p := (y, v)) e]
        exact .inr ⟨v, d, rfl, rfl, r⟩
      · rw [if_neg e, valV_neg (p := (y, v)) e]
        exact lkD_rep k hl' t
end
section
variable {X : Cx} {fld : Str → Option Str} {W : WX} {o e f : Expr} {apos cpos : Pos} {Fd Fe Ff : FE}
theorem noErr_dictPD (ds : List D) (S : Store) : NoErr (dictPD ds S) := by
  unfold dictPD
  split
  · split
    · split
      · exact noErr_ok _ _
      · exact noErr_bad
    · exact noErr_bad
  · exact noErr_bad
theorem noErr_getDD (d e f : D) (S : Store) : NoErr (getDD d e f S) := by
  unfold getDD
  split
  · intro x S' h; cases h
  · intro x S' h; cases h
theorem k_getV (hu : X.A.units + 64 < cLine) (po : Plain o) (pe : Plain e) (pf : Plain f) (ho : DE X fld W o Fd) (he : DE X fld W e Fe) (hf : DE X fld W f Ff) (hl : (apos.endLine == cpos.line) = true := by rfl) :
    DE X fld W (.Call (.Attribute o "get" apos) [e, f] [] cpos) (getF Fd Fe Ff) :=
  PE.imp (pe_dget2 (by omega) ho he hf ⟨po.base "get" X.env, few_of cpos X.env (fun y hy => by
      simp only [List.mem_cons, List.not_mem_nil, or_false] at hy
      rcases hy with rfl | rfl
      · exact pe
      · exact pf) (show 2 < 20 by decide), hl, by rw [pe.star [f] X.env, pf.star [] X.env]; rfl⟩) fun σ H Q h => by
    obtain ⟨ω, σd, e0, ok, er, p⟩ := tG_bind (rel := Rep X.K X.mg fld) (G := fun σ d S => if d.isDicB then (Fe σ S).bind fun e S => (Ff σ S).bind fun f S => getDD d e f S else .bad) h
    refine ⟨ω, σd, e0, ok, er, p.mono ?_⟩
    rintro x H1 ⟨ω1, σd1, d, h1, ok1, er1, rd, p1⟩
    cases hd : d.isDicB with
    | false => simp only [hd] at p1; exact p1.elim
    | true =>
      simp only [hd] at p1
      cases d with
      | dic ks ds =>
        have rd0 := rd
        cases rd with
        | @dic a _ vs _ g1 g2 g3 g4 =>
          subst h1
          refine ⟨a, rfl, .inl ⟨_, .inl g1⟩, ω1, σd1, rfl, ok1, er1, (Post.bind (rel := Rep X.K X.mg fld) ok1 p1).mono ?_⟩
          rintro y H2 ⟨ω2, e', h2, ext, ok2, re, p2⟩
          refine ⟨ω2, σd1, h2, ok2, er1.mono ok1 ext, (Post.bind (rel := Rep X.K X.mg fld) ok2 p2).mono ?_⟩
          rintro z H3 ⟨ω3, f', h3, ext3, ok3, rf, p3⟩
          subst h3
          cases e' with
          | str s =>
            have := re.str_of
            subst this
            have rd3 := (rd0.mono ok1 ext).mono ok2 ext3
            cases rd3 with
            | dic k1 k2 k3 k4 =>
              refine ⟨_, DGet.k (k := Sum.inr s) k1, ?_⟩
              have p4 : Post X.K X.mg fld (Rep X.K X.mg fld) W σ ω3 (.ok ((lkD ks ds (Sum.inr s)).getD f') ω3.S) Q := p3
              rcases lkD_rep (Sum.inr s) k2 k4 with ⟨a1, a2⟩ | ⟨v, d, a1, a2, a3⟩
              · rw [a1]
                rw [a2] at p4
                exact p4 ω3 rfl (.refl ω3) ok3 _ rf
              · rw [a1]
                rw [a2] at p4
                exact p4 ω3 rfl (.refl ω3) ok3 _ a3
          | _ => exact p3.elim
      | _ => cases hd
theorem k_dict1 {a : Expr} {p pos : Pos} {Fs : FA} (pa : Plain a) (ha : DA X fld W [a] Fs) (hm : X.mg "dict" = none) (hg : Gl X "dict" := by rfl) (hc : X.calm = true := by rfl) : DE X fld W (.Call (.Name "dict" p) [a] [] pos) (fnF dictPD Fs) :=
  de_ty noErr_dictPD (callD_dictP hc) hg hm (by decide +kernel) (by decide) (by decide) (plain_all1 pa) ha
end
section
variable (P : Program) (w : World) (K : PySem.W.Frag) (mg : Str → Option Value) (base : Heap) (fld : Str → Option Str) (k N : Nat)
def TbOk (tb : List (Str × (List D → Store → R D))) : Prop := ∀ q ∈ tb, ∃ ps : List Str, ps.length = N ∧ Cal P w K mg base fld k q.1 ps q.2
end
section
variable {P : Program} {w : World} {K : PySem.W.Frag} {mg : Str → Option Value} {base : Heap} {fld : Str → Option Str} {k N : Nat} {x : Str} {ps : List Str} {g : List D → Store → R D} {tb : List (Str × (List D → Store → R D))}
theorem tb_nil : TbOk P w K mg base fld k N [] := fun _ h => nomatch h
theorem tb_cons (h : Cal P w K mg base fld k x ps g) (hl : ps.length = N) (t : TbOk P w K mg base fld k N tb) : TbOk P w K mg base fld k N ((x, g) :: tb) := fun q hq => by
  rcases List.mem_cons.1 hq with rfl | hq
  · exact ⟨ps, hl, h⟩
  · exact t q hq
end
end MI

set_option Elab.async false
set_option linter.all false
set_option maxRecDepth 100000
set_option maxHeartbeats 2000000
/-! MI28: dict displays with texts as keys; dicts of the store: get, update; calls with the keywords turned about. -/
namespace MI
open PySem PySem.Spec L2
open PyProof.Rows hiding St
def mkDic (m : Bool) (kvs : List (Key × D)) (S : Store) : R D := match m with
  | false => .ok (.dic (kvs.map (·.1)) (kvs.map (·.2))) S
  | true => .ok (.ref S.length) (S ++ [.dic (kvs.map (·.1)) (kvs.map (·.2))])
def dctV (ks : List Str) (ds : List D) : List (Key × D) := mergeDK [] ((ks.map Sum.inr).zip ds)
def dctF (m : Bool) (ks : List Str) (Fs : FA) : FE := fun σ S => (Fs σ S).bind fun ds S => if ds.length = ks.length then mkDic m (dctV ks ds) S else .bad
theorem plain_dict {ks : List (Option Expr)} {es : List Expr} {p : Pos} : Plain (.Dict ks es p) := ⟨fun _ _ => rfl, fun _ _ => rfl⟩
/-! ### a place that is hidden, a dict -/
section
variable {K : PySem.W.Frag} {mg : Str → Option Value} {fld : Str → Option Str} {ω ω1 ω2 : Wd} {a p : Addr}
theorem excHO_dK {C a : Addr} {dx : Option Addr} {kvs : List (Key × V)} : excHO C dx a ≠ .dK kvs := fun z => by unfold excHO at z; cases z
mutual
theorem Rep.pokeD {vs ws : List (Key × V)} (hh : ω.hs p) (hp : ω.H p = some (.dK vs)) : ∀ {v : V} {d : D}, Rep K mg fld ω v d → Rep K mg fld (ω.poke p (.dK ws)) v d
  | _, _, .non => .non
  | _, _, .bl b => .bl b
  | _, _, .int i => .int i
  | _, _, .str x => .str x
  | _, _, .tup (a := a) h r => by
    refine .tup ?_ (RepL.pokeD hh hp r)
    rcases h with (h | ⟨o, h⟩) | h
    · exact .inl (.inl (by show upd ω.H p _ a = _; rw [upd_ne (fun z => by rw [z, hp] at h; cases h)]; exact h))
    · exact .inl (.inr ⟨o, by show upd ω.H p _ a = _; rw [upd_ne (fun z => by rw [z, hp] at h; cases h)]; exact h⟩)
    · exact .inr h
  | _, _, .lst (a := a) h n r => by
    refine .lst ?_ n (RepL.pokeD hh hp r)
    show upd ω.H p _ a = _
    rw [upd_ne (fun z : a = p => n.2 (by rw [z]; exact hh))]; exact h
  | _, _, .fls (a := a) h r => by
    refine .fls ?_ (RepL.pokeD hh hp r)
    rcases h with ⟨o, h⟩ | h
    · exact .inl ⟨o, by show upd ω.H p _ a = _; rw [upd_ne (fun z => by rw [z, hp] at h; cases h)]; exact h⟩
    · exact .inr h
  | _, _, .dic (a := a) h hl n r => by
    refine .dic ?_ hl n (RepL.pokeD hh hp r)
    show upd ω.H p _ a = _
    rw [upd_ne (fun z : a = p => n.2 (by rw [z]; exact hh))]; exact h
  | _, _, .ref h => .ref h
  | _, _, .exc (a := a) (dx := dx) h1 h2 h3 h4 r => by
    refine .exc (dx := dx) h1 h2 ?_ ?_ (Rep.pokeD hh hp r)
    · show upd ω.H p _ a = _
      rw [upd_ne (fun z => by rw [z, hp] at h3; exact excHO_dK (Option.some.inj h3).symm)]; exact h3
    · show upd ω.H p _ dx = _
      rw [upd_ne (fun z => by rw [z, hp] at h4; cases h4)]; exact h4
  | _, _, .exc0 (a := a) h1 h3 => by
    refine .exc0 h1 ?_
    show upd ω.H p _ a = _
    rw [upd_ne (fun z => by rw [z, hp] at h3; exact excHO_dK (Option.some.inj h3).symm)]; exact h3
  | _, _, .fn h => .fn h
theorem RepL.pokeD {vs ws : List (Key × V)} (hh : ω.hs p) (hp : ω.H p = some (.dK vs)) : ∀ {xs : List V} {ds : List D}, RepL K mg fld ω xs ds → RepL K mg fld (ω.poke p (.dK ws)) xs ds
  | _, _, .nil => .nil
  | _, _, .cons r t => .cons (Rep.pokeD hh hp r) (RepL.pokeD hh hp t)
end
theorem ok_pokeD {vs ws : List (Key × V)} (ok : Ok K mg fld ω) (hh : ω.hs p) (hp : ω.H p = some (.dK vs)) : Ok K mg fld (ω.poke p (.dK ws)) := by
  have ne : ∀ n, n < ω.S.length → ω.ι n ≠ p := (ok.hid p hh).2
  refine ⟨fun n c h => ?_, ok.inj, fun a h => ⟨hid_upd (ok.hid a h).1, (ok.hid a h).2⟩⟩
  have hn : n < ω.S.length := (List.getElem?_eq_some_iff.mp h).1
  have q := ok.cell n c h
  cases c with
  | lst xs =>
    obtain ⟨us, h1, h2⟩ := q
    exact ⟨us, by show upd ω.H p _ (ω.ι n) = _; rw [upd_ne (ne n hn)]; exact h1, h2.pokeD hh hp⟩
  | dic ks xs =>
    obtain ⟨us, h1, h2, h3⟩ := q
    exact ⟨us, by show upd ω.H p _ (ω.ι n) = _; rw [upd_ne (ne n hn)]; exact h1, h2, h3.pokeD hh hp⟩
theorem ok_cellAtD {ks : List Key} {vs : List V} {xs : List D} (ok : Ok K mg fld ω) (hh : ω.hs p) (hp : ω.H p = some (.dK (ks.zip vs))) (hl : ks.length = vs.length) (r : RepL K mg fld ω vs xs) : Ok K mg fld (ω.cellAt p (.dic ks xs)) := by
  refine ⟨fun n c h => ?_, fun i j hi hj e => ?_, fun a h => ⟨(ok.hid a h.1).1, fun n hn z => ?_⟩⟩
  · have h' : (ω.S ++ [.dic ks xs])[n]? = some c := h
    by_cases hn : n < ω.S.length
    · rw [List.getElem?_append_left hn] at h'
      have q := ok.cell n c h'
      cases c with
      | lst ys =>
        obtain ⟨us, h1, h2⟩ := q
        exact ⟨us, by rw [idx_cellAt hn]; exact h1, h2.cellAt hh⟩
      | dic ks ys =>
        obtain ⟨us, h1, h2, h3⟩ := q
        exact ⟨us, by rw [idx_cellAt hn]; exact h1, h2, h3.cellAt hh⟩
    · have hl' := (List.getElem?_eq_some_iff.mp h').1
      rw [List.length_append, List.length_singleton] at hl'
      have hz : n = ω.S.length := by omega
      subst hz
      rw [List.getElem?_append_right (Nat.le_refl _), Nat.sub_self] at h'
      have e : Cell.dic ks xs = c := by simpa using h'
      subst e
      refine ⟨vs, ?_, hl, r.cellAt hh⟩
      show ω.H (if ω.S.length = ω.S.length then p else ω.ι ω.S.length) = _
      rw [if_pos rfl]; exact hp
  · rw [len_cellAt] at hi hj
    have ne := (ok.hid p hh).2
    have e' : (if i = ω.S.length then p else ω.ι i) = (if j = ω.S.length then p else ω.ι j) := e
    by_cases h1 : i = ω.S.length
    · by_cases h2 : j = ω.S.length
      · omega
      · rw [if_pos h1, if_neg h2] at e'
        exact absurd e'.symm (ne j (by omega))
    · by_cases h2 : j = ω.S.length
      · rw [if_neg h1, if_pos h2] at e'
        exact absurd e' (ne i (by omega))
      · rw [if_neg h1, if_neg h2] at e'
        exact ok.inj i j (by omega) (by omega) e'
  · rw [len_cellAt] at hn
    by_cases h1 : n = ω.S.length
    · subst h1
      have z' : (if ω.S.length = ω.S.length then p else ω.ι ω.S.length) = a := z
      rw [if_pos rfl] at z'
      exact h.2 z'.symm
    · rw [idx_cellAt (by omega)] at z
      exact (ok.hid a h.1).2 n (by omega) z
theorem kd_zip : ∀ (ks : List Key) {vs : List V} {ds : List D}, RepL K mg fld ω vs ds → KD K mg fld ω (ks.zip vs) (ks.zip ds)
  | [], _, _, _ => .nil
  | _ :: _, _, _, .nil => .nil
  | k :: ks, _, _, .cons r t => .cons ⟨rfl, r⟩ (kd_zip ks t)
end
/-! ### a display -/
def DPs (X : Cx) (fld : Str → Option Str) (W : WX) (pos : Pos) (ks : List Str) (keys : List (Option Expr)) (es : List Expr) (Fs : FA) : Prop :=
  ∃ trs, PPs X pos keys es trs ∧ ∀ σ H (Q : List (V × V) → Hp → Prop), tG X.K X.mg fld (RepL X.K X.mg fld) W Fs σ H (fun vs H1 => vs.length = ks.length → Q ((ks.map V.str).zip vs) H1) → tPairs trs σ H Q
section
variable {X : Cx} {fld : Str → Option Str} {W : WX} {e f o : Expr} {es : List Expr} {pos kpos apos cpos : Pos} {F Fd Fe Ff : FE} {Fs : FA} {ks : List Str} {keys : List (Option Expr)} {k : Str} {j : Nat} {m : Bool}
theorem dp_nil : DPs X fld W pos [] [] [] nilA := ⟨[], pps_nil, fun σ H Q ⟨ω, σd, e0, ok, er, p⟩ => by
  subst e0
  exact p ω rfl (.refl ω) ok [] .nil rfl⟩
theorem dp_cons (ha : DE X fld W e F) (hs : DPs X fld W pos ks keys es Fs) : DPs X fld W pos (k :: ks) (some (.Constant (.str k) j kpos) :: keys) (e :: es) (consA F Fs) := by
  obtain ⟨trs, h1, h2⟩ := hs
  refine ⟨(tC (.str k), tG X.K X.mg fld (Rep X.K X.mg fld) W F) :: trs, pps_cons pe_str ha h1, fun σ H Q h => ?_⟩
  have h' := tG_bind (rel := Rep X.K X.mg fld) (G := fun σ d S => (Fs σ S).bind fun ds S => R.ok (d :: ds) S) h
  show tG X.K X.mg fld (Rep X.K X.mg fld) W F σ H _
  obtain ⟨ω, σd, e0, ok, er, p⟩ := h'
  refine ⟨ω, σd, e0, ok, er, p.mono ?_⟩
  rintro x H1 ⟨ω1, σd1, d, h1, ok1, er1, rd, p1⟩
  refine h2 σ H1 _ ⟨ω1, σd1, h1, ok1, er1, (Post.bind (rel := RepL X.K X.mg fld) ok1 p1).mono ?_⟩
  rintro y H2 ⟨ω2, ds, h2, ext, ok2, re, p2⟩ hl
  subst h2
  exact p2 ω2 rfl (.refl ω2) ok2 _ (.cons (rd.mono ok1 ext) re) (by rw [List.length_cons, List.length_cons, hl])
theorem zip_kV : ∀ (ks : List Str) (vs : List V), (ks.map V.str).zip vs = ((ks.map (Sum.inr : Str → Key)).zip vs).map fun kv => (kV kv.1, kv.2)
  | [], _ => rfl
  | _ :: _, [] => rfl
  | k :: ks, v :: vs => by
    rw [List.map_cons, List.map_cons, List.zip_cons_cons, List.zip_cons_cons, List.map_cons, zip_kV ks vs]
    rfl
theorem k_dct (m : Bool) (hP : DPs X fld W pos ks keys es Fs) (hall : keys.all (·.isSome) = true) (hl : keys.length = es.length) (h0 : keys ≠ []) (h15 : keys.length ≤ 15) (hk : ks.length ≤ 15) : DE X fld W (.Dict keys es pos) (dctF m ks Fs) := by
  obtain ⟨trs, hp1, hp2⟩ := hP
  refine PE.imp (pe_disp hp1 hall hl h0 h15) fun σ H Q h => ?_
  intro p hp
  obtain ⟨ω, σd, e0, ok, er, post⟩ := h
  subst e0
  have x0 : Ext ω ((ω.add p (.dK [])).hide p) := ext_hide ok hp
  have ok0 : Ok X.K X.mg fld ((ω.add p (.dK [])).hide p) := ok_hide ok hp
  refine hp2 σ _ _ ⟨(ω.add p (.dK [])).hide p, σd, rfl, ok0, er.mono ok x0, ?_⟩
  replace post : Post X.K X.mg fld (Rep X.K X.mg fld) W σ ω ((Fs σd ω.S).bind fun ds S => if ds.length = ks.length then mkDic m (dctV ks ds) S else .bad) Q := post
  show Post X.K X.mg fld (RepL X.K X.mg fld) W σ _ (Fs σd ω.S) _
  cases hF : Fs σd ω.S with
  | bad => rw [hF] at post; exact post.elim
  | err y S' =>
    rw [hF] at post
    intro ω1 e1 e2 e3 cls dd xr
    exact post ω1 e1 (x0.trans ok ok0 e2) e3 cls dd xr
  | ok ds S' =>
    rw [hF, R.bind_ok] at post
    intro ω1 e1 e2 e3 vs rb hlen
    have hh : ω1.hs p := e2.hid1 p (.inr rfl)
    have hpe : ω1.H p = some (.dK []) := e2.keep p _ upd_same (fun n hn => (ok0.hid p (.inr rfl)).2 n hn)
    have hd : ds.length = ks.length := by rw [← rb.length]; exact hlen
    rw [if_pos hd] at post
    have kd : KD X.K X.mg fld ω1 (mergeK [] ((ks.map (Sum.inr : Str → Key)).zip vs)) (dctV ks ds) := (kd_zip (ks.map Sum.inr) rb).merge .nil
    obtain ⟨q1, q2, q3⟩ := kd.parts
    refine ⟨hpe, (ks.map (Sum.inr : Str → Key)).zip vs, zip_kV ks vs, ?_, ?_⟩
    · rw [List.length_zip, List.length_map]; omega
    · have ext : Ext ω ω1 := x0.trans ok ok0 e2
      have okp : Ok X.K X.mg fld (ω1.poke p (.dK (mergeK [] ((ks.map (Sum.inr : Str → Key)).zip vs)))) := ok_pokeD e3 hh hpe
      have hp2 : (ω1.poke p (.dK (mergeK [] ((ks.map (Sum.inr : Str → Key)).zip vs)))).H p = some (.dK (((dctV ks ds).map (·.1)).zip ((mergeK [] ((ks.map (Sum.inr : Str → Key)).zip vs)).map (·.2)))) := by
        rw [← q1]; exact upd_same
      cases m with
      | false =>
        refine post ((ω1.poke p (.dK (mergeK [] ((ks.map (Sum.inr : Str → Key)).zip vs)))).show_ p) e1 (ext_show ok (ext_poke ext hp) hp) (ok_show okp) _ (.dic hp2 q2 ⟨(okp.hid p hh).2, fun z => z.2 rfl⟩ (RepL.show_ (q3.pokeD hh hpe)))
      | true =>
        have z : Rep X.K X.mg fld ((ω1.poke p (.dK (mergeK [] ((ks.map (Sum.inr : Str → Key)).zip vs)))).cellAt p (.dic ((dctV ks ds).map (·.1)) ((dctV ks ds).map (·.2)))) (.ref (((ω1.poke p (.dK (mergeK [] ((ks.map (Sum.inr : Str → Key)).zip vs)))).cellAt p (.dic ((dctV ks ds).map (·.1)) ((dctV ks ds).map (·.2)))).ι ω1.S.length)) (.ref ω1.S.length) := .ref (by rw [len_cellAt]; exact Nat.lt_succ_self _)
        have e : ((ω1.poke p (.dK (mergeK [] ((ks.map (Sum.inr : Str → Key)).zip vs)))).cellAt p (.dic ((dctV ks ds).map (·.1)) ((dctV ks ds).map (·.2)))).ι ω1.S.length = p := if_pos rfl
        rw [e] at z
        refine post ((ω1.poke p (.dK (mergeK [] ((ks.map (Sum.inr : Str → Key)).zip vs)))).cellAt p (.dic ((dctV ks ds).map (·.1)) ((dctV ks ds).map (·.2)))) (by show ω1.S ++ _ = _; rw [e1]) (ext_cellAt ok (ext_poke ext hp) hp) (ok_cellAtD okp hh hp2 q2 (q3.pokeD hh hpe)) _ ?_
        rw [← e1]
        exact z
end
end MI

set_option Elab.async false
set_option linter.all false
set_option maxRecDepth 100000
set_option maxHeartbeats 2000000
/-! MI29: dicts of the store: get, update; calls with the keywords turned about. -/
namespace MI
open PySem PySem.Spec L2
open PyProof.Rows hiding St
/-! ### d.update(e), two dicts -/
section
variable {X : Cx} {pins : List (Addr × Obj)} {σ : St} {H : Hp} {s : Shared} {a b : Addr} {kvs more : List (Key × V)} {A : Around} {E : Value → Shared → Prop}
theorem d_update {Q : Value → Shared → Prop} (I : Inv X pins σ H s) (e : H a = some (.dK kvs)) (e2 : H b = some (.dK more)) (ne : a ≠ b) (hz : kvs.length + more.length ≤ sizeLine)
    (h : ∀ s', Inv X pins σ (upd H a (.dK (mergeK kvs more))) s' → Q .none s') : wpAny (model X.prog X.w) A (call (.builtin "dict.update") [.ref a, .ref b]) Q E s := by
  obtain ⟨z, hd, vs, rel, dd⟩ := dk_of I.hok e
  obtain ⟨z2, hd2, ws, rel2, dd2⟩ := dk_of I.hok e2
  refine call_meetsIn PySem.F.slot_dict_update dd.typeIs PySem.F.entry_dict_update (PySem.F.args_dict_update_2 _ _) (meets_dict_update (mixKind X.prog X.w) a b ne hd2) ⟨vs, ws, dd, dd2, by rw [← rel.length, ← rel2.length]; exact hz, fun h' dd' _ hs => h _ ?_⟩
  have he : ∃ q, h'.get? a = some q := let ⟨q, _, _, hq, _⟩ := dd'; ⟨q, hq⟩
  have hl := length_mergeK more kvs
  exact d_write (t' := s.toks) I (by rw [e]; exact True.intro) hs he (dk_new (by omega) hd (rel2.merge rel) dd')
end
def tDUpd (td ty : TE) : TE := fun σ H Q => td σ H fun x H1 => ∃ a, x = .ref a ∧ IsD H1 a ∧ ty σ H1 fun y H2 => ∃ b kvs more, y = .ref b ∧ a ≠ b ∧ H2 a = some (.dK kvs) ∧ H2 b = some (.dK more) ∧ kvs.length + more.length ≤ sizeLine ∧ Q .non (upd H2 a (.dK (mergeK kvs more)))
section
variable {X : Cx} {o e f : Expr} {apos cpos : Pos} {td ty tx : TE}
theorem pe_dupd (ho : PE X o td) (he : PE X e ty) (m : M1 X o "update" apos e cpos) : PE X (.Call (.Attribute o "update" apos) [e] [] cpos) (tDUpd td ty) := by
  refine ⟨fun pins s σ H Q I h => ?_⟩
  refine wpAny_Call_method m.base m.few m.line PySem.F.plainAttrs_dict PySem.F.slot_dict_update (by rfl) (thn (ho.run pins s σ H _ I h) fun u s1 ⟨x, H1, I1, rx, a, ex, d, q1⟩ => ?_)
  subst ex
  obtain rfl : u = Value.ref a := rx
  obtain ⟨t1, t2, _⟩ := isD_at I1 d
  refine ⟨t1, t2, ?_⟩
  rw [m.trees]
  refine Calls.callWith_builtin rfl (Calls.evalArgs_plain (Calls.spliced_cons (thn (he.run pins s1 σ H1 _ I1 q1) fun iv s2 ⟨y, H2, I2, ry, b, kvs, more, ey, ne, ea, eb, hz, q2⟩ => Calls.spliced_nil ?_)))
  subst ey
  obtain rfl : iv = Value.ref b := ry
  exact d_update I2 ea eb ne hz fun s3 I3 => ⟨.non, _, I3, rfl, q2⟩
end
/-- a dict: by value, or of the store -/
def dicOf (S : Store) : D → Option (List Key × List D)
  | .dic ks ds => some (ks, ds)
  | .ref n => match S[n]? with
    | some (.dic ks ds) => some (ks, ds)
    | _ => none
  | _ => none
def getRD (d e f : D) (S : Store) : R D := match dicOf S d, e with
  | some (ks, ds), .str x => .ok ((lkD ks ds (Sum.inr x)).getD f) S
  | _, _ => .bad
def getR (Fd Fe Ff : FE) : FE := fun σ S => (Fd σ S).bind fun d S => if (dicOf S d).isSome then (Fe σ S).bind fun e S => (Ff σ S).bind fun f S => getRD d e f S else .bad
def updD (d e : D) (S : Store) : R D := match d, e with
  | .ref n, .dic ls ws => match S[n]? with
    | some (.dic ks vs) => if decide (ks.length + ls.length ≤ 1000) then .ok .non (S.set n (.dic ((mergeDK (ks.zip vs) (ls.zip ws)).map (·.1)) ((mergeDK (ks.zip vs) (ls.zip ws)).map (·.2)))) else .bad
    | _ => .bad
  | _, _ => .bad
def updF (Fd Fe : FE) : FE := fun σ S => (Fd σ S).bind fun d S => if (dicOf S d).isSome then (Fe σ S).bind fun e S => updD d e S else .bad
section
variable {K : PySem.W.Frag} {mg : Str → Option Value} {fld : Str → Option Str} {ω : Wd}
theorem dic_rep (ok : Ok K mg fld ω) {x : V} {d : D} {ks : List Key} {ds : List D} (r : Rep K mg fld ω x d) (h : dicOf ω.S d = some (ks, ds)) : ∃ a vs, x = .ref a ∧ ω.H a = some (.dK (ks.zip vs)) ∧ ks.length = vs.length ∧ RepL K mg fld ω vs ds := by
  cases d with
  | dic ks' ds' =>
    cases h
    cases r with
    | @dic a _ vs _ g1 g2 g3 g4 => exact ⟨a, vs, rfl, g1, g2, g4⟩
  | ref n =>
    have h' : (match ω.S[n]? with
      | some (.dic ks ds) => some (ks, ds)
      | _ => none) = some (ks, ds) := h
    cases hc : ω.S[n]? with
    | none => rw [hc] at h'; cases h'
    | some c =>
      rw [hc] at h'
      cases c with
      | lst _ => cases h'
      | dic ks2 ds2 =>
        cases h'
        obtain ⟨vs, h1, h2, h3⟩ := ok.cell n _ hc
        cases r with
        | ref hn => exact ⟨_, vs, rfl, h1, h2, h3⟩
  | _ => cases h
theorem rep_ref {x : V} {n : Nat} (r : Rep K mg fld ω x (.ref n)) : x = .ref (ω.ι n) ∧ n < ω.S.length := by
  cases r with
  | ref hn => exact ⟨rfl, hn⟩
end
section
variable {X : Cx} {fld : Str → Option Str} {W : WX} {o e f : Expr} {apos cpos : Pos} {Fd Fe Ff : FE}
theorem k_getR (hu : X.A.units + 64 < cLine) (po : Plain o) (pe : Plain e) (pf : Plain f) (ho : DE X fld W o Fd) (he : DE X fld W e Fe) (hf : DE X fld W f Ff) (hl : (apos.endLine == cpos.line) = true := by rfl) :
    DE X fld W (.Call (.Attribute o "get" apos) [e, f] [] cpos) (getR Fd Fe Ff) :=
  PE.imp (pe_dget2 (by omega) ho he hf ⟨po.base "get" X.env, few_of cpos X.env (fun y hy => by
      simp only [List.mem_cons, List.not_mem_nil, or_false] at hy
      rcases hy with rfl | rfl
      · exact pe
      · exact pf) (show 2 < 20 by decide), hl, by rw [pe.star [f] X.env, pf.star [] X.env]; rfl⟩) fun σ H Q h => by
    obtain ⟨ω, σd, e0, ok, er, p⟩ := tG_bind (rel := Rep X.K X.mg fld) (G := fun σ d S => if (dicOf S d).isSome then (Fe σ S).bind fun e S => (Ff σ S).bind fun f S => getRD d e f S else .bad) h
    refine ⟨ω, σd, e0, ok, er, p.mono ?_⟩
    rintro x H1 ⟨ω1, σd1, d, h1, ok1, er1, rd, p1⟩
    cases hd : dicOf ω1.S d with
    | none => simp only [hd] at p1; exact p1.elim
    | some kd =>
      obtain ⟨ks0, ds0⟩ := kd
      simp only [hd] at p1
      obtain ⟨a, vs0, rfl, g1, _, _⟩ := dic_rep ok1 rd hd
      subst h1
      refine ⟨a, rfl, .inl ⟨_, .inl g1⟩, ω1, σd1, rfl, ok1, er1, (Post.bind (rel := Rep X.K X.mg fld) ok1 p1).mono ?_⟩
      rintro y H2 ⟨ω2, e', h2, ext, ok2, re, p2⟩
      refine ⟨ω2, σd1, h2, ok2, er1.mono ok1 ext, (Post.bind (rel := Rep X.K X.mg fld) ok2 p2).mono ?_⟩
      rintro z H3 ⟨ω3, f', h3, ext3, ok3, rf, p3⟩
      subst h3
      have p4 : Post X.K X.mg fld (Rep X.K X.mg fld) W σ ω3 (getRD d e' f' ω3.S) Q := p3
      unfold getRD at p4
      cases hk : dicOf ω3.S d with
      | none => simp only [hk] at p4; exact p4.elim
      | some kd =>
        obtain ⟨ks, ds⟩ := kd
        simp only [hk] at p4
        cases e' with
        | str s =>
          have := re.str_of
          subst this
          have rd3 := (rd.mono ok1 ext).mono ok2 ext3
          obtain ⟨a', vs, ea, k1, k2, k4⟩ := dic_rep ok3 rd3 hk
          cases ea
          refine ⟨_, DGet.k (k := Sum.inr s) k1, ?_⟩
          rcases lkD_rep (Sum.inr s) k2 k4 with ⟨a1, a2⟩ | ⟨v, d', a1, a2, a3⟩
          · rw [a1]
            simp only [a2] at p4
            exact p4 ω3 rfl (.refl ω3) ok3 _ rf
          · rw [a1]
            simp only [a2] at p4
            exact p4 ω3 rfl (.refl ω3) ok3 _ a3
        | _ => exact p4.elim
theorem k_upd (po : Plain o) (pe : Plain e) (ho : DE X fld W o Fd) (he : DE X fld W e Fe) (hl : (apos.endLine == cpos.line) = true := by rfl) :
    DE X fld W (.Call (.Attribute o "update" apos) [e] [] cpos) (updF Fd Fe) :=
  PE.imp (pe_dupd ho he ⟨po.base "update" X.env, few_of cpos X.env (fun y hy => by
      simp only [List.mem_cons, List.not_mem_nil, or_false] at hy
      rw [hy]; exact pe) (show 1 < 20 by decide), hl, by rw [pe.star [] X.env]; rfl⟩) fun σ H Q h => by
    obtain ⟨ω, σd, e0, ok, er, p⟩ := tG_bind (rel := Rep X.K X.mg fld) (G := fun σ d S => if (dicOf S d).isSome then (Fe σ S).bind fun e S => updD d e S else .bad) h
    refine ⟨ω, σd, e0, ok, er, p.mono ?_⟩
    rintro x H1 ⟨ω1, σd1, d, h1, ok1, er1, rd, p1⟩
    cases hd : dicOf ω1.S d with
    | none => simp only [hd] at p1; exact p1.elim
    | some kd =>
      obtain ⟨ks0, ds0⟩ := kd
      simp only [hd] at p1
      obtain ⟨a, vs0, rfl, g1, _, _⟩ := dic_rep ok1 rd hd
      subst h1
      refine ⟨a, rfl, .inl ⟨_, .inl g1⟩, ω1, σd1, rfl, ok1, er1, (Post.bind (rel := Rep X.K X.mg fld) ok1 p1).mono ?_⟩
      rintro y H2 ⟨ω2, e', h2, ext, ok2, re, p2⟩
      subst h2
      have p4 : Post X.K X.mg fld (Rep X.K X.mg fld) W σ ω2 (updD d e' ω2.S) Q := p2
      unfold updD at p4
      have rd2 := rd.mono ok1 ext
      split at p4
      · rename_i n ls ws
        split at p4
        · rename_i ks vs hc
          split at p4
          · rename_i hz
            have hz' := of_decide_eq_true hz
            obtain ⟨ea, hn⟩ := rep_ref rd2
            cases ea
            obtain ⟨us, h1, h2, h3⟩ := ok2.cell n _ hc
            cases re with
            | @dic b _ us2 _ m1 m2 m3 m4 =>
              have kd : KD X.K X.mg fld ω2 (mergeK (ks.zip us) (ls.zip us2)) (mergeDK (ks.zip vs) (ls.zip ws)) := (kd_zip ls m4).merge (kd_zip ks h3)
              obtain ⟨q1, q2, q3⟩ := kd.parts
              have hs : sizeLine = 16777216 := by decide
              refine ⟨b, ks.zip us, ls.zip us2, rfl, m3.1 n hn, h1, m1, by rw [List.length_zip, List.length_zip]; omega, ?_⟩
              have ex := Ext.put ω2 (c := .dic ((mergeDK (ks.zip vs) (ls.zip ws)).map (·.1)) ((mergeDK (ks.zip vs) (ls.zip ws)).map (·.2))) (o := .dK (mergeK (ks.zip us) (ls.zip us2))) hn
              refine p4 (ω2.put n (.dic ((mergeDK (ks.zip vs) (ls.zip ws)).map (·.1)) ((mergeDK (ks.zip vs) (ls.zip ws)).map (·.2))) (.dK (mergeK (ks.zip us) (ls.zip us2)))) rfl ex (ok2.put hn ⟨_, ?_, q2, q3.mono ok2 ex⟩) _ .non
              rw [← q1]
              exact upd_same
          · exact p4.elim
        · exact p4.elim
      · exact p4.elim
end
/-! ### keywords turned about -/
def KwRev (K : PySem.W.Frag) (fd : FuncData) (ps : List Str) : Prop := ∀ (s : Shared) (us : List Value), K.In s.heap → us.length = ps.length → BindsTo s fd ⟨[], ps.reverse.zip us⟩ (ps.zip us.reverse)
def CalR (P : Program) (w : World) (K : PySem.W.Frag) (mg : Str → Option Value) (base : Heap) (fld : Str → Option Str) (k : Nat) (x : Str) (ps : List Str) (g : List D → Store → R D) : Prop :=
  ∃ (f : Addr) (fd : FuncData), mg x = some (.ref f) ∧ PySem.W.keepIn K (.ref f) = true ∧ KwRev K fd ps ∧ FnOk P w K mg base (L2.CX P w) k f fd ps (spD K mg fld ps.length g)
def DefR (K : PySem.W.Frag) (mg : Str → Option Value) (x : Str) (st : Stmt) (ps : List Str) : Prop := ∃ f fd, Fun K x x st f fd ∧ mg x = some (.ref f) ∧ KwRev K fd ps
theorem RepL.rev {K : PySem.W.Frag} {mg : Str → Option Value} {fld : Str → Option Str} {ω : Wd} : ∀ {vs : List V} {ds : List D}, RepL K mg fld ω vs ds → RepL K mg fld ω vs.reverse ds.reverse
  | _, _, .nil => .nil
  | _, _, .cons r t => by
    rw [List.reverse_cons, List.reverse_cons]
    exact t.rev.append (.cons r .nil)
theorem Vals.rev : ∀ {vs : List V} {us : List Value}, Vals vs us → Vals vs.reverse us.reverse
  | _, _, .nil => .nil
  | _, _, .cons r t => by
    rw [List.reverse_cons, List.reverse_cons]
    exact (Vals.rev t).append (.cons r .nil)
section
variable {X : Cx} {fld : Str → Option Str} {W : WX} {pos p : Pos} {Fs : FA} {kws : List Keyword}
theorem k_calR {x : Str} {k : Nat} {ps : List Str} {g : List D → Store → R D} (tk : Takes X W) (cl : CalR X.prog X.w X.K X.mg X.base fld k x ps g) (hr : Room k X.A)
    (hkw : DKw X fld W kws Fs) (hfl : ∀ σ S ds S', Fs σ S = .ok ds S' → ds.length = ps.length) (hks : (backToKw pos (keywordEach kws X.env)).filterMap (·.1) = ps.reverse := by rfl) (hall : (backToKw pos (keywordEach kws X.env)).all (·.1.isSome) = true := by rfl)
    (hpl : ((backTo pos (starEach [] X.env)).any (·.1) || (backToKw pos (keywordEach kws X.env)).any (·.1.isNone)) = false := by rfl) (hdb : (x == ("__debug__" : Str)) = false := by decide) (hg : Gl X x := by rfl) :
    DE X fld W (.Call (.Name x p) [] kws pos) (fnF (fun ds S => g ds.reverse S) Fs) := by
  obtain ⟨f, fd, hm, hk, hb, Fn⟩ := cl
  refine ⟨fun pins s σ H Q I ⟨ω, σd, e0, ok, er, post⟩ => ?_⟩
  have want : tG X.K X.mg fld (RepL X.K X.mg fld) W Fs σ H (fun vs H1 => spD X.K X.mg fld ps.length g vs.reverse H1 Q (WE W σ)) := by
    refine ⟨ω, σd, e0, ok, er, ?_⟩
    replace post : Post X.K X.mg fld (Rep X.K X.mg fld) W σ ω ((Fs σd ω.S).bind fun ds S => g ds.reverse S) Q := post
    cases hF : Fs σd ω.S with
    | bad => rw [hF] at post; exact post.elim
    | err y S' => rw [hF] at post; exact post
    | ok ds S' =>
      rw [hF] at post
      intro ω1 e1 e2 e3 vs rb
      have p2 : Post X.K X.mg fld (Rep X.K X.mg fld) W σ ω1 (g ds.reverse ω1.S) Q := by
        rw [e1]; exact Post.ext ok e3 e2 post
      refine ⟨by rw [List.length_reverse, rb.length]; exact hfl _ _ _ _ hF, ω1, ds.reverse, rfl, e3, rb.rev, ?_⟩
      cases hG : g ds.reverse ω1.S with
      | ok d S2 => rw [hG] at p2; exact p2
      | err y S2 => rw [hG] at p2; exact p2
      | bad => rw [hG] at p2; exact p2.elim
  refine wpAny_Call_Name_kw (ld_glob I hg hm (PySem.W.callWith_KW0 (h₀ := X.base) I.ok.mod.kin hk hall (thn (hkw.run pos pins s σ H _ I want) ?_) hpl) hdb)
  rintro ws s2 ⟨zs, H2, I2, rz, q2⟩
  refine ⟨I2.kIn, ?_⟩
  have len : ws.length = ps.length := by
    have := q2.1
    rw [List.length_reverse] at this
    exact rz.length.symm.trans this
  rw [hks]
  refine wpAny_call (codeAny_mono (Fn.run X.A X.stack s2 H2 _ ws.reverse zs.reverse Q (WE W σ) hr I2.env0 (hb s2 ws I2.kIn len) (Vals.rev rz) q2) ?_)
  intro r s' hq
  match r, hq with
  | .error e, hq => exact passAt tk σ pins H2 s2 e s' I2 hq
  | .ok (.ret u), hq => exact I2.after hq
  | .ok .next, hq => cases hq
  | .ok .brk, hq => cases hq
  | .ok .cont, hq => cases hq
end
section
variable {P : Program} {w : World} {K : PySem.W.Frag} {mg : Str → Option Value} {base : Heap} {fld : Str → Option Str}
theorem defr_mk {x : Str} {st : Stmt} {ps : List Str} {f : Addr} {oc kV doc pm cdv ct : Value} {od an : Option Addr} {osl : Array (Option Value)} {h : Heap} (X : K.In h) (G : h.Ns mainGlobals mg)
    (a : PySem.W.nsIn K mainGlobals x = some (some (.ref f))) (l : K.lookup f = some ⟨oc, od, .func (PySem.W.fnOf x x (defArgs st) (defBody st) (defScope st) .none kV doc pm an cdv ct), osl⟩)
    (c : PySem.W.codeIn K cdv x = true) (k : PySem.W.keepIn K (.ref f) = true)
    (hw : ∀ (kV doc pm : Value) (an : Option Addr) (cdv ct : Value) (us : List Value), us.length = ps.length → bindArgs (PySem.W.fnOf x x (defArgs st) (defBody st) (defScope st) .none kV doc pm an cdv ct) ⟨[], ps.reverse.zip us⟩ = pure (ps.zip us.reverse)) : DefR K mg x st ps :=
  ⟨f, _, fun_mk l c k, PySem.W.mg_of X G a, fun s us _ hl => .of_eq (hw _ _ _ _ _ _ us hl)⟩
theorem calr_bad {x : Str} {st : Stmt} {ps : List Str} {k : Nat} (d : DefR K mg x st ps) : CalR P w K mg base fld k x ps (fun _ _ => .bad) := by
  obtain ⟨f, fd, Fn, hm, hw⟩ := d
  exact ⟨f, fd, hm, Fn.kp, hw, fun vs H Q E h => h.1, fun A outer s H args us vs Q E _ _ _ _ h => by
    obtain ⟨_, ω, ds, _, _, _, p⟩ := h
    exact p.elim⟩
theorem calr_of {x : Str} {st : Stmt} {ps : List Str} {k : Nat} {g : List D → Store → R D} (d : DefR K mg x st ps) (h : ∀ {f : Addr} {fd : FuncData}, Fun K x x st f fd → FnOk P w K mg base (L2.CX P w) k f fd ps (spD K mg fld ps.length g)) : CalR P w K mg base fld k x ps g := by
  obtain ⟨f, fd, Fn, hm, hw⟩ := d
  exact ⟨f, fd, hm, Fn.kp, hw, h Fn⟩
end
end MI

set_option Elab.async false
set_option linter.all false
set_option maxRecDepth 100000
set_option maxHeartbeats 4000000
/-! MI30: a, b = x, y; isinstance with two classes; several clauses 'except C as n: y = [text, n.f]'; a default. -/
namespace MI
open PySem PySem.Spec L2
open PyProof.Rows hiding St
section
variable {X : Cx} {fld : Str → Option Str} {W : WX} {e a b c : Expr} {es : List Expr} {pos p px py pz pt pt2 : Pos} {kt k2 : Nat} {F Fa Fb : FE} {Fs : FA} {x y z : Str} {i j l : Nat}
/-! ### a, b = x, y -/
def parS (i j : Nat) (Fs : FA) : FS := fun σ S => (Fs σ S).thn σ fun ds S => match ds with
  | [d, e] => .nx ((σ.set i (some d)).set j (some e)) S
  | _ => .bad
def parS3 (i j l : Nat) (Fs : FA) : FS := fun σ S => (Fs σ S).thn σ fun ds S => match ds with
  | [d, e, f] => .nx (((σ.set i (some d)).set j (some e)).set l (some f)) S
  | _ => .bad
theorem s_par (i j : Nat) (hN : X.N.Nodup) (ha : DA X fld W [a, b] Fs) (hi : X.N[i]? = some x := by rfl) (hj : X.N[j]? = some y := by rfl) (hij : i ≠ j := by decide) (hc : X.calm = true := by rfl)
    (hx : X.env.scope.names.lookup x = some .local := by rfl) (hy : X.env.scope.names.lookup y = some .local := by rfl)
    (hw : swappedStores [.Tuple [.Name x px, .Name y py] kt pt] (.Tuple [a, b] k2 pt2) X.env = pure (some [x, y]) := by rfl)
    (hs : swapsWithSole [.Tuple [.Name x px, .Name y py] kt pt] (.Tuple [a, b] k2 pt2) pos.line X.env = pure false := by rfl) :
    DS X fld W (.Assign [.Tuple [.Name x px, .Name y py] kt pt] (.Tuple [a, b] k2 pt2) pos) (parS i j Fs) :=
  PS.imp (ps_par hc hN hi hj hij hx hy ha hw hs) fun D σ H h => by
    obtain ⟨ω, σd, e0, ok, er, p⟩ := sG_thn (rel := RepL X.K X.mg fld) (r := Fs) (f := fun σ ds S => match ds with
      | [d, e] => .nx ((σ.set i (some d)).set j (some e)) S
      | _ => .bad) h
    refine ⟨ω, σd, e0, ok, er, p.mono ?_⟩
    rintro vs H1 ⟨ω1, σd1, ds, h1, ok1, er1, rd, p1⟩
    subst h1
    split at p1
    · rename_i d e
      cases rd with
      | cons r1 t1 =>
        cases t1 with
        | cons r2 t2 =>
          cases t2
          exact ⟨_, _, rfl, p1 ω1 _ rfl (.refl ω1) ok1 ((er1.set i r1).set j r2)⟩
    · exact p1.elim
theorem s_par3 (i j l : Nat) (hN : X.N.Nodup) (ha : DA X fld W [a, b, c] Fs) (hi : X.N[i]? = some x := by rfl) (hj : X.N[j]? = some y := by rfl) (hl : X.N[l]? = some z := by rfl) (hij : i ≠ j := by decide) (hil : i ≠ l := by decide) (hjl : j ≠ l := by decide) (hc : X.calm = true := by rfl)
    (hx : X.env.scope.names.lookup x = some .local := by rfl) (hy : X.env.scope.names.lookup y = some .local := by rfl) (hz : X.env.scope.names.lookup z = some .local := by rfl)
    (hw : swappedStores [.Tuple [.Name x px, .Name y py, .Name z pz] kt pt] (.Tuple [a, b, c] k2 pt2) X.env = pure (some [x, y, z]) := by rfl)
    (hs : swapsWithSole [.Tuple [.Name x px, .Name y py, .Name z pz] kt pt] (.Tuple [a, b, c] k2 pt2) pos.line X.env = pure false := by rfl) :
    DS X fld W (.Assign [.Tuple [.Name x px, .Name y py, .Name z pz] kt pt] (.Tuple [a, b, c] k2 pt2) pos) (parS3 i j l Fs) :=
  PS.imp (ps_par3 hc hN hi hj hl hij hil hjl hx hy hz ha hw hs) fun D σ H h => by
    obtain ⟨ω, σd, e0, ok, er, p⟩ := sG_thn (rel := RepL X.K X.mg fld) (r := Fs) (f := fun σ ds S => match ds with
      | [d, e, f] => .nx (((σ.set i (some d)).set j (some e)).set l (some f)) S
      | _ => .bad) h
    refine ⟨ω, σd, e0, ok, er, p.mono ?_⟩
    rintro vs H1 ⟨ω1, σd1, ds, h1, ok1, er1, rd, p1⟩
    subst h1
    split at p1
    · rename_i d e f
      cases rd with
      | cons r1 t1 =>
        cases t1 with
        | cons r2 t2 =>
          cases t2 with
          | cons r3 t3 =>
            cases t3
            exact ⟨_, _, _, rfl, p1 ω1 _ rfl (.refl ω1) ok1 (((er1.set i r1).set j r2).set l r3)⟩
    · exact p1.elim
/-! ### isinstance(a, (T, U)) -/
def isT (G : Gs) (us : List Str) (Fa : FE) : FE := fun σ S => (Fa σ S).bind fun d S => biD G (.isTy us) false [d] S
theorem kitAny_of {G : Gs} (GO : GsOk X.K X.mg G) {n : Str} : ∀ (ts : List Str) (b : Bool), anyO (ts.map fun u => G.sub n u) = some b → PySem.W.kitAny X.K (clsVal X.mg n) (ts.map (clsVal X.mg)) = some b
  | [], b, h => by cases h; rfl
  | t :: ts, b, h => by
    rw [List.map_cons] at h
    unfold anyO at h
    cases h1 : G.sub n t with
    | none => simp only [h1] at h; cases h
    | some b1 =>
      cases h2 : anyO (ts.map fun u => G.sub n u) with
      | none => simp only [h1, h2] at h; cases h
      | some b2 =>
        simp only [h1, h2] at h
        cases h
        rw [List.map_cons]
        unfold PySem.W.kitAny
        rw [GO.sub _ _ _ h1]
        cases b1 with
        | true => rfl
        | false => simpa using kitAny_of GO ts b2 h2
theorem k_isT2 {G : Gs} {u1 u2 : Str} {T1 T2 : String} {q1 q2 qt : Pos} {jt : Nat} (GO : GsOk X.K X.mg G) (hm : X.mg "isinstance" = none) (hm1 : X.mg u1 = none) (hm2 : X.mg u2 = none) (hv1 : bootBuiltins u1 = some (.type T1)) (hv2 : bootBuiltins u2 = some (.type T2)) (pa : Plain a) (ha : DE X fld W a Fa)
    (hT1 : bTy u1 = T1 := by decide) (hT2 : bTy u2 = T2 := by decide) (hn1 : u1 ≠ "__name__" := by decide) (hn2 : u2 ≠ "__name__" := by decide) (hd1 : (u1 == ("__debug__" : Str)) = false := by decide) (hd2 : (u2 == ("__debug__" : Str)) = false := by decide)
    (hg : Gl X "isinstance" := by rfl) (hg1 : Gl X u1 := by rfl) (hg2 : Gl X u2 := by rfl) :
    DE X fld W (.Call (.Name "isinstance" p) [a, .Tuple [.Name u1 q1, .Name u2 q2] jt qt] [] pos) (isT G [u1, u2] Fa) := by
  have e1 : clsVal X.mg u1 = .type T1 := by unfold clsVal; rw [hm1, hT1]; rfl
  have e2 : clsVal X.mg u2 = .type T2 := by unfold clsVal; rw [hm2, hT2]; rfl
  have hr : CallR X (.builtin "isinstance") (fun xs H Q => ∃ ω x d tp, xs = [x, .ref tp] ∧ ω.H = H ∧ Ok X.K X.mg fld ω ∧ Rep X.K X.mg fld ω x d ∧ ω.H tp = some (.tup [.ty T1, .ty T2]) ∧ PostN X.K X.mg fld ω (biD G (.isTy [u1, u2]) false [d] ω.S) Q) := by
    intro pins s σ H xs us Q I r ⟨ω, x, d, tp, e1', e0, ok, rd, ht, p⟩
    subst e1' e0
    obtain ⟨w1, w2, rfl, r1, r2⟩ := vals2 r
    cases (show w2 = Value.ref tp from r2)
    have p2 : PostN X.K X.mg fld ω (bl? ω.S (isTyO G ω.S d [u1, u2])) Q := p
    unfold isTyO at p2
    cases hn : tyName ω.S d with
    | none => rw [hn] at p2; exact p2.elim
    | some n =>
      rw [hn] at p2
      simp only at p2
      cases hb : anyO ([u1, u2].map fun u => G.sub n u) with
      | none => rw [hb] at p2; exact p2.elim
      | some b =>
        rw [hb] at p2
        have hb1 : ∃ b1, G.sub n u1 = some b1 := by
          rw [List.map_cons] at hb
          unfold anyO at hb
          cases h1 : G.sub n u1 with
          | none => simp only [h1] at hb; cases hb
          | some b1 => exact ⟨b1, rfl⟩
        obtain ⟨b1, hb1⟩ := hb1
        obtain ⟨P, Z, q, hx⟩ := kit_d GO I ok r1 rd hn hb1
        have ka := kitAny_of GO [u1, u2] b hb
        rw [List.map_cons, List.map_cons, List.map_nil, e1, e2] at ka
        obtain ⟨_, its, rv, o, h1, h2, m, h3⟩ := (show ObjOk X.prog X.w ω.H s.heap tp (.tup [.ty T1, .ty T2]) from I.hok tp _ ht)
        have e3 := ClsV.all (.cons (ClsV.ty T1) (.cons (ClsV.ty T2) .nil)) rv
        subst e3
        obtain ⟨oc, od, dt, sl⟩ := o
        simp only at h2 h3
        subst h2 h3
        exact PySem.W.kia_tup Z I.kIn q h1 ka hx fun tk => ⟨.bl b, ω.H, I.tok tk, rfl, p2.same ok (.bl _)⟩
  have pb1 : PE X (.Name u1 q1) (tC (.ty T1)) := pe_bltn hg1 hm1 hv1 (show RelV (.ty T1) (.type T1) from rfl) hn1 hd1
  have pb2 : PE X (.Name u2 q2) (tC (.ty T2)) := pe_bltn hg2 hm2 hv2 (show RelV (.ty T2) (.type T2) from rfl) hn2 hd2
  have pT : PE X (.Tuple [.Name u1 q1, .Name u2 q2] jt qt) (tTup (tCons (tC (.ty T1)) (tCons (tC (.ty T2)) tNil))) := pe_tup (pa_cons pb1 (pa_cons pb2 pa_nil rfl) rfl)
  have hA : PA X [a, .Tuple [.Name u1 q1, .Name u2 q2] jt qt] (tCons (tG X.K X.mg fld (Rep X.K X.mg fld) W Fa) (tCons (tTup (tCons (tC (.ty T1)) (tCons (tC (.ty T2)) tNil))) tNil)) := pa_cons ha (pa_cons pT pa_nil rfl) (pa.star [_] X.env)
  refine PE.imp (pe_callB hr hg hm (by kernel_rfl) hA (by decide) (by decide) (pa.star [_] X.env) (backTo_any pos [_] X.env fun y hy => by
    have e : y = .Tuple [.Name u1 q1, .Name u2 q2] jt qt := by simpa using hy
    rw [e]; exact plain_tup)) fun σ H Q h => ?_
  obtain ⟨ω, σd, e0, ok, er, p⟩ := tG_bind (rel := Rep X.K X.mg fld) (G := fun σ d S => biD G (.isTy [u1, u2]) false [d] S) h
  refine ⟨ω, σd, e0, ok, er, p.mono ?_⟩
  rintro x H1 ⟨ω1, σd1, d, h1, ok1, er1, rd, p1⟩
  subst h1
  have hz : sizeLine = 16777216 := by decide
  refine ⟨by simp [hz], fun tp hp => ?_⟩
  have x1 := Ext.upd ω1 (o := .tup [.ty T1, .ty T2]) hp
  have ok2 := ok1.alloc (o := .tup [.ty T1, .ty T2]) hp
  exact ⟨ω1.add tp (.tup [.ty T1, .ty T2]), x, d, tp, rfl, rfl, ok2, rd.mono ok1 x1, upd_same, (Post.ext ok1 ok2 x1 p1).n (noErr_bi _ _ _ _ _)⟩
end
/-! ### except C as n: y = [text, n.f] -/
def wTell (K : PySem.W.Frag) (i j : Nat) (Wout : WX) (D : Ends) : List (Value × Str × Str) → WX
  | [] => Wout
  | (c, z, f) :: r => fun cls d σ H => ∃ b, PySem.W.exmOne K cls c = some b ∧
    (b = true → ∃ (C dd : Addr) (fs : List (Str × V)) (v : V), cls = .ref C ∧ XfC K C ∧ PySem.W.findIn K (.ref C) f = some none ∧ d = some dd ∧ H dd = some (.xd fs) ∧ fs.lookup f = some v ∧
      ∀ a p, H p = none → D.nx (((σ.set i (some (.ref a))).set j (some (.ref p))).set i none) (upd H p (.lst [.str z, v]))) ∧ (b = false → wTell K i j Wout D r cls d σ H)
inductive TellOk (X : Cx) (n y : Str) : List ExceptHandler → List (Value × Str × Str) → Prop
  | nil : TellOk X n y [] []
  | cons {x z f : Str} {c : Value} {np py pn sp pos' cp lp ap : Pos} {jz : Nat} {hds : List ExceptHandler} {l : List (Value × Str × Str)} (hc : Names X x c) (hb : attributeBase (.Name n pn) f X.env (eval (.Name n pn) X.env) = eval (.Name n pn) X.env)
      (hw : swapsWith (.List [.Constant (.str z) jz cp, .Attribute (.Name n pn) f ap] lp) (some (.Name y py)) sp.line X.env = pure false) (r : TellOk X n y hds l) :
      TellOk X n y (.ExceptHandler (some (.Name x np)) (some n) [.Assign [.Name y py] (.List [.Constant (.str z) jz cp, .Attribute (.Name n pn) f ap] lp) sp] pos' :: hds) ((c, z, f) :: l)
section
variable {X : Cx} {n y : Str} {i j : Nat} {body : List Stmt} {pos : Pos} {tb : WX → TS} {Wout : WX} {h₀ : ExceptHandler} {hds : List ExceptHandler} {l : List (Value × Str × Str)}
theorem ps_tell (hs : X.stack = X.env :: X.outer) (hf : X.env.frame = some X.env.locals) (hex : X.ex = []) (hN : X.N.Nodup) (hi : X.N[i]? = some n) (hln : X.env.kindOf n = some .local) (hj : X.N[j]? = some y) (hly : X.env.scope.names.lookup y = some .local) (tk : Takes X Wout)
    (hdn : (n == ("__debug__" : Str)) = false) (hcn : (n == ("__classdict__" : Str)) = false)
    (hb : ∀ (W : WX) (pn : List (Addr × Obj)) (xe : Value → Shared → Prop), Takes (X.tr pn xe) W → PassesOwn (model X.prog X.w) X.A X.env xe → PSs (X.tr pn xe) body (tb W)) (hh : TellOk X n y (h₀ :: hds) l) :
    PS X (.Try body (h₀ :: hds) [] [] pos) (fun D σ H => tb (wTell X.K i j Wout D l) D σ H) := by
  refine ⟨fun pins s σ H D I want => ?_⟩
  have frames : X.A.frames = some (X.env :: X.outer) := I.ok.frames.trans (congrArg some hs)
  refine wpAny_Try_except (wpAny_mono ((hb _ (X.pn ++ pins) _ ?takes PassesOwn.looking).run [] s σ H D (I.toTry _) want) ?done fun e s1 q => q)
  case done =>
    intro fl s1 q
    match fl, q with
    | .next, ⟨σ', H', J, q⟩ => exact wpAny_execs_nil ⟨σ', H', J.ofTry I.ok, q⟩
    | .brk, ⟨σ', H', J, q⟩ => exact ⟨σ', H', J.ofTry I.ok, q⟩
    | .cont, ⟨σ', H', J, q⟩ => exact ⟨σ', H', J.ofTry I.ok, q⟩
    | .ret u, ⟨v, σ', H', J, r, q⟩ => exact ⟨v, σ', H', J.ofTry I.ok, r, q⟩
  case takes =>
    rintro u s' ⟨a, B, sI, pins', σ', H', cls, d, rfl, J', ground, slots, sky, na, os, bare, w⟩
    have J : Inv X pins σ' H' sI := J'.ofTry I.ok
    rw [show (X.tr (X.pn ++ pins) _).stack = X.env :: X.outer from hs] at sky
    refine Sky.land Zc.steady frames hf sky fun h3 fly up3 => ?_
    have J3 := J.landed (s' := { s' with heap := h3 }) ground fly.1 (slots.trans up3) os bare
    obtain ⟨oe3, vs3, at3, z3, dt3⟩ := fly.there
    have noFrame : a ∉ frs (X.env :: X.outer) := fun hm => by
      obtain ⟨_, o, e, nf⟩ := Heap.FunFrames.mem fly.2.2.1 hm
      rw [at3] at e
      cases e
      exact nf _ dt3
    have nL : a ≠ X.env.locals := fun w => noFrame (List.mem_filterMap.mpr ⟨X.env, List.mem_cons_self, by rw [hf, w]⟩)
    have nF : a ∉ X.fs := fun hm => by
      obtain ⟨e, he, w⟩ := List.mem_filterMap.mp hm
      exact noFrame (List.mem_filterMap.mpr ⟨e, List.mem_cons_of_mem _ he, w⟩)
    have S3 := J3.suite at3 dt3 na nL nF
    have kind : PySem.W.Looks (model X.prog X.w) h3 (typeOf (.ref a)) cls := fun A Q E s k q => wpAny_typeOf_ref (k _ _ at3) (by rw [z3.1]; exact q)
    have go : ∀ {hds' : List ExceptHandler} {l' : List (Value × Str × Str)}, TellOk X n y hds' l' → wTell X.K i j Wout D l' cls d σ' H' →
        wpAny (model X.prog X.w) X.A (handleBy (.ref a) X.env hds') (SP X pins D) X.xe { s' with heap := h3 } := by
      intro hds' l' hk
      induction hk with
      | nil =>
        intro w
        refine wpAny_handleBy_nil ?_
        obtain ⟨_, _, _, oe, vs, T, oT, ts', he, hz, hd, h1, hr⟩ := id fly
        unfold PySem.passOn
        refine wpAny_bind (wpAny_field he hd h1 ?_)
        rw [if_neg (by simp)]
        have out : wpAny (model X.prog X.w) X.A (setFlight (.ref a) X.env.frame) (fun _ s4 => wpAny (model X.prog X.w) X.A (throw (.ref a) : Sem Flow) (SP X pins D) X.xe s4) X.xe { s' with heap := h3 } := by
          rw [hf]
          exact HandSPX.setFlight_upZ fly fun h4 held up4 => wpAny_throw (tk _ _ ⟨a, B, sI, pins, σ', H', cls, d, rfl, J, ground, (slots.trans up3).trans up4, .inr (.inr (by rw [hs]; exact held)), na, os, bare, w⟩)
        first
          | exact wpAny_bind (wpAny_pure (wpAny_bind out))
          | exact wpAny_bind out
      | @cons x z f c np py pn sp pos' cp lp ap jz hds2 l2 hc hba hw r ih =>
        intro w
        obtain ⟨b, hb1, yes, no⟩ := w
        refine wpAny_handleBy_cons (codeAny_handlers_test ?_) fun z => nomatch z
        have test : ∀ {Q E : Value → Shared → Prop}, Q c { s' with heap := h3 } → wpAny (model X.prog X.w) (X.A.mark (some (.ref a))) (eval (.Name x np) X.env) Q E { s' with heap := h3 } := fun q => by
          rcases hc with ⟨hg, hd, hm | ⟨hm, hv, hnn⟩⟩
          · exact ld_glob (X := X.suite a ((a, oe3) :: (X.pn ++ pins))) S3 hg hm q hd
          · exact ld_blt (X := X.suite a ((a, oe3) :: (X.pn ++ pins))) S3 hg hm hv q hnn hd
        refine test ((PySem.W.exm_one (M := model X.prog X.w) J3.kIn kind hb1).here ?_)
        cases b with
        | true =>
          obtain ⟨C, dd, fs, v, rfl, T, hno, rfl, hdd, hlk, go⟩ := yes rfl
          refine codeAny_handlers_suite_as (HandSPX.lands_againZ fly fun h4 fly4 up4 => ?_)
          have J4 := J.landed (s' := { s' with heap := h4 }) ground fly4.1 ((slots.trans up3).trans up4) os bare
          obtain ⟨oe4, vs4, at4, z4, dt4⟩ := fly4.there
          have S4 := J4.suite at4 dt4 na nL nF
          refine store_ok (X := X.suite a ((a, oe4) :: (X.pn ++ pins))) (v := .ref a) S4 hN hi (.inl hln) rfl (fun s5 S5 => ?_) (.inr hln)
          have pn' : PE (X.suite a ((a, oe4) :: (X.pn ++ pins))) (.Name n pn) (tVar i) := pe_var hi (.inl hln) hdn hcn
          have suite : PSs (X.suite a ((a, oe4) :: (X.pn ++ pins))) [.Assign [.Name y py] (.List [.Constant (.str z) jz cp, .Attribute (.Name n pn) f ap] lp) sp] (tAsg (tLst (tCons (tC (.str z)) (tCons (tXf a (.ref C) (some dd) C f (tVar i)) tNil))) (gName j)) :=
            pss_one (ps_set hN hj (.inl hly) (pe_lst (pa_cons pe_str (pa_cons (pe_xf T hno z4 ⟨vs4, dt4⟩ pn' hba) pa_nil rfl) rfl)) hw (.inr hly))
          have iN : i < σ'.length := by
            rw [J4.len]; exact (List.getElem?_eq_some_iff.mp hi).1
          have hz : sizeLine = 16777216 := by decide
          let D6 : Ends := { nx := fun τ G => ∃ p, H' p = none ∧ τ = (σ'.set i (some (.ref a))).set j (some (.ref p)) ∧ G = upd H' p (.lst [.str z, v]), rt := fun _ _ => False, bk := fun _ _ => False, ct := fun _ _ => False }
          have wish : tAsg (tLst (tCons (tC (.str z)) (tCons (tXf a (.ref C) (some dd) C f (tVar i)) tNil))) (gName j) D6 (σ'.set i (some (.ref a))) H' := by
            refine ⟨.ref a, List.getElem?_set_self iN, rfl, rfl, dd, fs, v, rfl, hdd, hlk, by simp [hz], ?_⟩
            intro p hp
            exact ⟨p, hp, rfl, rfl⟩
          refine wpAny_mono (suite.run [] s5 _ H' D6 S5 wish) ?_ fun _ _ z => z.elim
          intro fl s6 q
          match fl, q with
          | .brk, ⟨_, _, _, q⟩ => exact q.elim
          | .cont, ⟨_, _, _, q⟩ => exact q.elim
          | .ret _, ⟨_, _, _, _, _, q⟩ => exact q.elim
          | .next, q =>
            obtain ⟨τ, G, S6, p, hp, e1, e2⟩ := q
            subst e1 e2
            exact gone_ok (S6.unsuite I.ok) hN hi hln fun s7 J7 => ⟨_, _, J7, go a p hp⟩
        | false =>
          show wpAny _ X.A (handleBy (.ref a) X.env hds2) _ _ _
          exact ih (no rfl)
    exact go hh w
end
end MI

set_option Elab.async false
set_option linter.all false
set_option maxRecDepth 100000
set_option maxHeartbeats 4000000
/-! MI31: several clauses, over data; functions with a default. -/
namespace MI
open PySem PySem.Spec L2
open PyProof.Rows hiding St
def tellH (exm : Str → Str → Option Bool) (fld : Str → Option Str) (c : Str) (d : D) (i j : Nat) (σ : Env) (S : Store) : List (Str × Str × Str) → O
  | [] => .err (.exc c d) σ S
  | (h, z, f) :: r => match exm h c with
    | some true => if fld c = some f then .nx ((σ.set j (some (.lst [.str z, d]))).set i none) S else .bad
    | some false => tellH exm fld c d i j σ S r
    | none => .bad
def tellF (exm : Str → Str → Option Bool) (fld : Str → Option Str) (hs : List (Str × Str × Str)) (i j : Nat) (Fb : FS) : FS := fun σ S => match Fb σ S with
  | .err (.exc c d) σ' S' => tellH exm fld c d i j σ' S' hs
  | .err _ _ _ => .bad
  | o => o
inductive TellRel (X : Cx) (exm : Str → Str → Option Bool) (fld : Str → Option Str) : List (Str × Str × Str) → List (Value × Str × Str) → Prop
  | nil : TellRel X exm fld [] []
  | cons {h z f : Str} {cv : Value} {hs : List (Str × Str × Str)} {l : List (Value × Str × Str)} (hex : ∀ c C b, exm h c = some b → X.mg c = some (.ref C) → PySem.W.exmOne X.K (.ref C) cv = some b) (ha : AttC X.K X.mg fld f) (r : TellRel X exm fld hs l) : TellRel X exm fld ((h, z, f) :: hs) ((cv, z, f) :: l)
section
variable {X : Cx} {fld : Str → Option Str} {W : WX} {pos : Pos} {body : List Stmt} {Gb : FS} {n y : Str} {i j : Nat} {exm : Str → Str → Option Bool} {h₀ : ExceptHandler} {hds : List ExceptHandler} {hs : List (Str × Str × Str)} {l : List (Value × Str × Str)}
theorem ERel.kept2 {K : PySem.W.Frag} {mg : Str → Option Value} {ω : Wd} {σ : St} {σd : Env} {r0 r : V} {d : D} (er : ERel K mg fld ω σ σd) (rep : Rep K mg fld ω r d) (i j : Nat) :
    ERel K mg fld ω (((σ.set i (some r0)).set j (some r)).set i none) ((σd.set j (some d)).set i none) := by
  refine ⟨by simp [er.1], fun k e h => ?_⟩
  by_cases hk : i = k
  · subst hk
    by_cases hlt : i < (σd.set j (some d)).length
    · rw [List.getElem?_set_self hlt] at h; cases h
    · rw [List.getElem?_eq_none (by simpa using hlt)] at h; cases h
  · rw [List.getElem?_set_ne hk] at h
    rw [List.getElem?_set_ne hk]
    by_cases hj : j = k
    · subst hj
      have hlt : j < σd.length := by
        have := (List.getElem?_eq_some_iff.mp h).1
        simpa using this
      rw [List.getElem?_set_self hlt] at h
      cases h
      exact ⟨r, List.getElem?_set_self (by rw [List.length_set, er.1]; exact hlt), rep⟩
    · rw [List.getElem?_set_ne hj] at h
      obtain ⟨w, h1, h2⟩ := er.2 k e h
      exact ⟨w, by rw [List.getElem?_set_ne hj, List.getElem?_set_ne hk]; exact h1, h2⟩
theorem tell_wish {ω ω' : Wd} {σ' : Env} {S' : Store} {τ : St} {c f0 : Str} {d : MI.D} {C dx : Addr} {v : V} {D : Ends} (hr : TellRel X exm fld hs l) (ok : Ok X.K X.mg fld ω) (e1 : ω'.S = S') (e2 : Ext ω ω') (e3 : Ok X.K X.mg fld ω') (er' : ERel X.K X.mg fld ω' τ σ')
    (h1 : X.mg c = some (.ref C)) (h2 : fld c = some f0) (h3 : ω'.H dx = some (.xd [(f0, v)])) (h4 : Rep X.K X.mg fld ω' v d) (p : PostO X.K X.mg fld W ω (tellH exm fld c d i j σ' S' hs) D) : wTell X.K i j W D l (.ref C) (some dx) τ ω'.H := by
  induction hr with
  | nil => exact p ω' τ e1 e2 e3 er' _ _ ⟨C, dx, f0, v, h1, h2, rfl, rfl, h3, h4⟩
  | @cons h z f cv hs l hex ha r ih =>
    unfold tellH at p
    cases hm : exm h c with
    | none => simp only [hm] at p; exact p.elim
    | some b =>
      simp only [hm] at p
      refine ⟨b, hex c C b hm h1, fun hb => ?_, fun hb => ?_⟩
      · subst hb
        simp only at p
        by_cases hff : fld c = some f
        · rw [if_pos hff] at p
          rw [hff] at h2
          cases h2
          obtain ⟨T, hno⟩ := ha c C hff h1
          refine ⟨C, dx, _, v, rfl, T, hno, rfl, h3, by simp [List.lookup], fun a pp hpp => ?_⟩
          have x1 := Ext.upd ω' (o := .lst [.str z, v]) hpp
          exact p (ω'.add pp (.lst [.str z, v])) _ e1 (e2.trans ok e3 x1) (e3.alloc hpp) ((er'.mono e3 x1).kept2 (.lst upd_same (e3.fresh hpp) (.cons (.str z) (.cons (h4.mono e3 x1) .nil))) i j)
        · rw [if_neg hff] at p; exact p.elim
      · subst hb
        exact ih p
theorem s_tell (i j : Nat) (hh : TellOk X n y (h₀ :: hds) l) (hr : TellRel X exm fld hs l) (tk : Takes X W) (hN : X.N.Nodup)
    (hb : ∀ (W' : WX) (pn : List (Addr × Obj)) (xe : Value → Shared → Prop), Takes (X.tr pn xe) W' → PassesOwn (model X.prog X.w) X.A X.env xe → DB (X.tr pn xe) fld W' body Gb)
    (hi : X.N[i]? = some n := by rfl) (hln : X.env.kindOf n = some .local := by rfl) (hj : X.N[j]? = some y := by rfl) (hly : X.env.scope.names.lookup y = some .local := by rfl)
    (hs' : X.stack = X.env :: X.outer := by rfl) (hf : X.env.frame = some X.env.locals := by rfl) (hxx : X.ex = [] := by rfl)
    (hdn : (n == ("__debug__" : Str)) = false := by decide) (hcn : (n == ("__classdict__" : Str)) = false := by decide) :
    DS X fld W (.Try body (h₀ :: hds) [] [] pos) (tellF exm fld hs i j Gb) :=
  PS.imp (ps_tell (tb := fun W' => sG X.K X.mg fld W' Gb) hs' hf hxx hN hi hln hj hly tk hdn hcn hb hh) fun D σ H ⟨ω, σd, e0, ok, er, p⟩ => by
    refine ⟨ω, σd, e0, ok, er, ?_⟩
    unfold tellF at p
    cases hG : Gb σd ω.S with
    | nx σ' S' => rw [hG] at p; exact p
    | ret d S' => rw [hG] at p; exact p
    | brk σ' S' => rw [hG] at p; exact p
    | ct σ' S' => rw [hG] at p; exact p
    | bad => rw [hG] at p; exact p
    | err z σ' S' =>
      rw [hG] at p
      intro ω' τ e1 e2 e3 er' cls dd hx
      cases z with
      | exc c d =>
        obtain ⟨C, dx, f0, v, h1, h2, rfl, rfl, h3, h4⟩ := hx
        simp only at p
        exact tell_wish hr ok e1 e2 e3 er' h1 h2 h3 h4 p
      | _ => exact p.elim
end
/-! ### a function with a default -/
section
variable {P : Program} {w : World} {K : PySem.W.Frag} {mg : Str → Option Value} {base : Heap} {fld : Str → Option Str}
theorem fn_DD {x qual : Str} {st : Stmt} {f : Addr} {fd : FuncData} {N ps : List Str} {k : Nat} {G : FS} {dvs : List V} (Fn : FunD K x qual (defArgs st) (defBody st) (defScope st) dvs [] f fd) (Sc : FnScope N ps (defScope st))
    (hbody : ∀ (cdv : Value) (A : Around) (outer : List PySem.Env) (s : Shared) (H : Hp) (E : XK), Room k (A.deeper (envOfC qual (defScope st) s.heap.objs.size f cdv)) →
      DB (cxOf (L2.CX P w) P w K mg base N qual (defScope st) f cdv A outer s H E) fld (fun cls d _ H => E cls d H) (defBody st) G) :
    FnOk P w K mg base (L2.CX P w) (k + 1) f fd ps (spD K mg fld ps.length fun ds S => finish (G (startD N.length ds) S)) := by
  refine FunD.ok (CX := L2.CX P w) Fn Sc (fun vs H Q E h => h.1) (fun cdv A outer s H vs Q E hr h => ⟨_, hbody cdv A outer s H E hr, ?_⟩)
  obtain ⟨hlen, ω, ds, e0, ok, rl, p⟩ := h
  refine ⟨ω, startD N.length ds, e0, ok, .start rl, ?_⟩
  cases hG : G (startD N.length ds) ω.S with
  | nx σd S' =>
    simp only [hG, finish_nx] at p
    exact fun ω' σ e1 e2 e3 er => p ω' e1 e2 e3 _ .non
  | ret d S' =>
    simp only [hG, finish_ret] at p
    exact fun ω' v e1 e2 e3 r => p ω' e1 e2 e3 v r
  | err y σd S' =>
    simp only [hG, finish_err] at p
    exact fun ω' σ e1 e2 e3 er cls dd hx => p ω' e1 e2 e3 cls dd hx
  | brk σd S' => simp only [hG] at p; exact p.elim
  | ct σd S' => simp only [hG] at p; exact p.elim
  | bad => simp only [hG] at p; exact p.elim
def DefD (K : PySem.W.Frag) (mg : Str → Option Value) (fld : Str → Option Str) (x : Str) (st : Stmt) (ps : List Str) (dv : D) : Prop := ∃ f fd dvV, FunD K x x (defArgs st) (defBody st) (defScope st) [dvV] [] f fd ∧ mg x = some (.ref f) ∧ Binds K fd ps [] ∧ KwAll K fd ps ∧ KwRev K fd ps ∧ (∃ ds, Vals [dvV] ds ∧ Binds K fd ps ds) ∧ ∀ ω, Rep K mg fld ω dvV dv
/-- a function whose last parameter is left out -/
def CalO (P : Program) (w : World) (K : PySem.W.Frag) (mg : Str → Option Value) (base : Heap) (fld : Str → Option Str) (k : Nat) (x : Str) (ps : List Str) (dv : D) (g : List D → Store → R D) : Prop :=
  ∃ (f : Addr) (fd : FuncData) (dvV : V) (ds : List Value), mg x = some (.ref f) ∧ PySem.W.keepIn K (.ref f) = true ∧ Vals [dvV] ds ∧ Binds K fd ps ds ∧ (∀ ω, Rep K mg fld ω dvV dv) ∧ FnOk P w K mg base (L2.CX P w) k f fd ps (spD K mg fld ps.length g)
theorem FunD.kw (K : PySem.W.Frag) {x qual : Str} {params : Arguments} {body : List Stmt} {scope : Scope} {dvs : List V} {f : Addr} {fd : FuncData} {ps : List Str} (F : FunD K x qual params body scope dvs [] f fd) (hd : dvs ≠ []) (ks : List Str) (g : List Value → List Value)
    (h : ∀ (T : Addr) (kV doc pm : Value) (an : Option Addr) (cdv ct : Value) (us its : List Value), us.length = ps.length → its.length = dvs.length →
      ∃ k, bindArgs (PySem.W.fnOf x qual params body scope (.ref T) kV doc pm an cdv ct) ⟨[], ks.zip us⟩ = seqItems? (.ref T) >>= k ∧ k (some its.toArray) = pure (ps.zip (g us))) (s : Shared) (us : List Value) (X : K.In s.heap) (hl : us.length = ps.length) : BindsTo s fd ⟨[], ks.zip us⟩ (ps.zip (g us)) := by
  obtain ⟨oc, od, dV, kV, doc, pm, an, cdv, ct, osl, rfl, lk, hcd, hD, hK⟩ := F.ex
  rcases hD with ⟨e, _⟩ | ⟨_, T, o, its, m, rfl, lT, oT, rT⟩
  · exact absurd e hd
  · obtain ⟨k, e1, e2⟩ := h T kV doc pm an cdv ct us its hl rT.length.symm
    refine BindsTo.of_looks fun M => ?_
    rw [e1]
    exact looks_items X lT oT (.of_pure e2)
theorem cald_bad {x : Str} {st : Stmt} {ps : List Str} {dv : D} {k : Nat} (d : DefD K mg fld x st ps dv) : Cal P w K mg base fld k x ps (fun _ _ => .bad) := by
  obtain ⟨f, fd, dvV, Fn, hm, hb, hw, _⟩ := d
  exact ⟨f, fd, hm, Fn.kp, hb, hw, fun vs H Q E h => h.1, fun A outer s H args us vs Q E _ _ _ _ h => by
    obtain ⟨_, ω, ds, _, _, _, p⟩ := h
    exact p.elim⟩
theorem cald_of {x : Str} {st : Stmt} {ps : List Str} {dv : D} {k : Nat} {g : List D → Store → R D} (d : DefD K mg fld x st ps dv) (h : ∀ {f : Addr} {fd : FuncData} {dvV : V}, FunD K x x (defArgs st) (defBody st) (defScope st) [dvV] [] f fd → FnOk P w K mg base (L2.CX P w) k f fd ps (spD K mg fld ps.length g)) : Cal P w K mg base fld k x ps g := by
  obtain ⟨f, fd, dvV, Fn, hm, hb, hw, _⟩ := d
  exact ⟨f, fd, hm, Fn.kp, hb, hw, h Fn⟩
theorem caldr_bad {x : Str} {st : Stmt} {ps : List Str} {dv : D} {k : Nat} (d : DefD K mg fld x st ps dv) : CalR P w K mg base fld k x ps (fun _ _ => .bad) := by
  obtain ⟨f, fd, dvV, Fn, hm, hb, hw, hv, _⟩ := d
  exact ⟨f, fd, hm, Fn.kp, hv, fun vs H Q E h => h.1, fun A outer s H args us vs Q E _ _ _ _ h => by
    obtain ⟨_, ω, ds, _, _, _, p⟩ := h
    exact p.elim⟩
theorem caldr_of {x : Str} {st : Stmt} {ps : List Str} {dv : D} {k : Nat} {g : List D → Store → R D} (d : DefD K mg fld x st ps dv) (h : ∀ {f : Addr} {fd : FuncData} {dvV : V}, FunD K x x (defArgs st) (defBody st) (defScope st) [dvV] [] f fd → FnOk P w K mg base (L2.CX P w) k f fd ps (spD K mg fld ps.length g)) : CalR P w K mg base fld k x ps g := by
  obtain ⟨f, fd, dvV, Fn, hm, hb, hw, hv, _⟩ := d
  exact ⟨f, fd, hm, Fn.kp, hv, h Fn⟩
theorem calo_bad {x : Str} {st : Stmt} {ps : List Str} {dv : D} {k : Nat} (d : DefD K mg fld x st ps dv) : CalO P w K mg base fld k x ps dv (fun _ _ => .bad) := by
  obtain ⟨f, fd, dvV, Fn, hm, hb, hw, hv, ⟨ds, h1, h2⟩, h3⟩ := d
  exact ⟨f, fd, dvV, ds, hm, Fn.kp, h1, h2, h3, fun vs H Q E h => h.1, fun A outer s H args us vs Q E _ _ _ _ h => by
    obtain ⟨_, ω, ds, _, _, _, p⟩ := h
    exact p.elim⟩
theorem calo_of {x : Str} {st : Stmt} {ps : List Str} {dv : D} {k : Nat} {g : List D → Store → R D} (d : DefD K mg fld x st ps dv) (h : ∀ {f : Addr} {fd : FuncData} {dvV : V}, FunD K x x (defArgs st) (defBody st) (defScope st) [dvV] [] f fd → FnOk P w K mg base (L2.CX P w) k f fd ps (spD K mg fld ps.length g)) : CalO P w K mg base fld k x ps dv g := by
  obtain ⟨f, fd, dvV, Fn, hm, hb, hw, hv, ⟨ds, h1, h2⟩, h3⟩ := d
  exact ⟨f, fd, dvV, ds, hm, Fn.kp, h1, h2, h3, h Fn⟩
end
section
variable {X : Cx} {fld : Str → Option Str} {W : WX} {e : Expr} {es : List Expr} {pos p : Pos} {Fs : FA}
theorem k_calO {x : Str} {k : Nat} {ps : List Str} {dv : D} {g : List D → Store → R D} (tk : Takes X W) (cl : CalO X.prog X.w X.K X.mg X.base fld k x ps dv g) (hr : Room k X.A)
    (hp : ∀ y ∈ e :: es, Plain y) (ha : DA X fld W (e :: es) Fs) (hfl : ∀ σ S ds S', Fs σ S = .ok ds S' → ds.length + 1 = ps.length) (hdb : (x == ("__debug__" : Str)) = false := by decide) (hg : Gl X x := by rfl) :
    DE X fld W (.Call (.Name x p) (e :: es) [] pos) (fnF (fun ds S => g (ds ++ [dv]) S) Fs) := by
  obtain ⟨f, fd, dvV, dvs, hm, hk, hv, hb, hrep, Fn⟩ := cl
  exact PE.imp (pe_callSD Fn hr hg hm hk hb hv (fun σ => passAt tk σ) ha hdb ((hp e List.mem_cons_self).star es X.env) (backTo_any pos es X.env fun y hy => hp y (List.mem_cons_of_mem _ hy))) fun σ H Q h => by
    obtain ⟨ω, σd, e0, ok, er, p⟩ := h
    refine ⟨ω, σd, e0, ok, er, ?_⟩
    have p' : Post X.K X.mg fld (Rep X.K X.mg fld) W σ ω ((Fs σd ω.S).bind fun ds S => g (ds ++ [dv]) S) Q := p
    cases hF : Fs σd ω.S with
    | ok ds S' =>
      rw [hF] at p'
      intro ω1 e1 e2 e3 vs rb
      have p2 : Post X.K X.mg fld (Rep X.K X.mg fld) W σ ω1 (g (ds ++ [dv]) ω1.S) Q := by
        rw [e1]; exact Post.ext ok e3 e2 p'
      refine ⟨by rw [List.length_append, rb.length]; exact hfl _ _ _ _ hF, ω1, ds ++ [dv], rfl, e3, rb.append (.cons (hrep ω1) .nil), ?_⟩
      cases hG : g (ds ++ [dv]) ω1.S with
      | ok d S2 => rw [hG] at p2; exact p2
      | err y S2 => rw [hG] at p2; exact p2
      | bad => rw [hG] at p2; exact p2.elim
    | err y S' => rw [hF] at p'; exact p'
    | bad => rw [hF] at p'; exact p'.elim
end
end MI

set_option Elab.async false
set_option linter.all false
set_option maxRecDepth 100000
set_option maxHeartbeats 4000000
/-! MI32: from the facts of the text: a def with the default (); clauses with names. -/
namespace MI
open PySem PySem.Spec L2
open PyProof.Rows hiding St
section
variable {P : Program} {w : World} {K : PySem.W.Frag} {mg : Str → Option Value} {base : Heap} {fld : Str → Option Str}
theorem defd_mk {x : Str} {st : Stmt} {ps : List Str} {f TD eD : Addr} {oc kV doc pm cdv ct : Value} {od an odD oU : Option Addr} {osl slD slU : Array (Option Value)} {nD nU : Nat} {h : Heap} (X : K.In h) (G : h.Ns mainGlobals mg)
    (a : PySem.W.nsIn K mainGlobals x = some (some (.ref f))) (l : K.lookup f = some ⟨oc, od, .func (PySem.W.fnOf x x (defArgs st) (defBody st) (defScope st) (.ref TD) kV doc pm an cdv ct), osl⟩)
    (c : PySem.W.codeIn K cdv x = true) (k : PySem.W.keepIn K (.ref f) = true) (lD : K.lookup TD = some ⟨.type "tuple", odD, .seq #[.ref eD] nD, slD⟩) (lU : K.lookup eD = some ⟨.type "tuple", oU, .seq #[] nU, slU⟩) (h0 : 1 ≤ ps.length)
    (h1 : ∀ (T : Addr) (kV doc pm : Value) (an : Option Addr) (cdv ct : Value) (us its : List Value), us.length = ps.length → its.length = 1 → ∃ k, bindArgs (PySem.W.fnOf x x (defArgs st) (defBody st) (defScope st) (.ref T) kV doc pm an cdv ct) ⟨us, []⟩ = seqItems? (.ref T) >>= k ∧ k (some its.toArray) = pure (ps.zip (us ++ its.drop 1)))
    (h2 : ∀ (T : Addr) (kV doc pm : Value) (an : Option Addr) (cdv ct : Value) (us its : List Value), us.length = ps.length - 1 → its.length = 1 → ∃ k, bindArgs (PySem.W.fnOf x x (defArgs st) (defBody st) (defScope st) (.ref T) kV doc pm an cdv ct) ⟨us, []⟩ = seqItems? (.ref T) >>= k ∧ k (some its.toArray) = pure (ps.zip (us ++ its.drop 0)))
    (h3 : ∀ (T : Addr) (kV doc pm : Value) (an : Option Addr) (cdv ct : Value) (us its : List Value), us.length = ps.length → its.length = 1 → ∃ k, bindArgs (PySem.W.fnOf x x (defArgs st) (defBody st) (defScope st) (.ref T) kV doc pm an cdv ct) ⟨[], ps.zip us⟩ = seqItems? (.ref T) >>= k ∧ k (some its.toArray) = pure (ps.zip us))
    (h4 : ∀ (T : Addr) (kV doc pm : Value) (an : Option Addr) (cdv ct : Value) (us its : List Value), us.length = ps.length → its.length = 1 → ∃ k, bindArgs (PySem.W.fnOf x x (defArgs st) (defBody st) (defScope st) (.ref T) kV doc pm an cdv ct) ⟨[], ps.reverse.zip us⟩ = seqItems? (.ref T) >>= k ∧ k (some its.toArray) = pure (ps.zip us.reverse)) :
    DefD K mg fld x st ps (.tup []) := by
  have F : FunD K x x (defArgs st) (defBody st) (defScope st) [.ref eD] [] f (PySem.W.fnOf x x (defArgs st) (defBody st) (defScope st) (.ref TD) kV doc pm an cdv ct) :=
    ⟨⟨oc, od, _, kV, doc, pm, an, cdv, ct, osl, rfl, l, c, .inr ⟨by simp, TD, _, [.ref eD], nD, rfl, lD, rfl, .cons rfl .nil⟩, .inl rfl⟩, k⟩
  obtain ⟨d1, r1, b1⟩ := F.binds1 (ps := ps) ps.length 1 (by simp) (by simp) h1
  obtain ⟨d2, r2, b2⟩ := F.binds1 (ps := ps) (ps.length - 1) 0 (by simp) (by simp; omega) h2
  cases r1
  refine ⟨f, _, .ref eD, F, PySem.W.mg_of X G a, b1, ?_, ?_, ⟨d2, r2, b2⟩, fun ω => ?_⟩
  · exact fun s us X hl => FunD.kw K F (by simp) ps id (fun T kV doc pm an cdv ct us its e1 e2 => h3 T kV doc pm an cdv ct us its e1 e2) s us X hl
  · exact fun s us X hl => FunD.kw K F (by simp) ps.reverse List.reverse (fun T kV doc pm an cdv ct us its e1 e2 => h4 T kV doc pm an cdv ct us its e1 e2) s us X hl
  · exact .tup (.inr ⟨_, _, nU, lU, rfl, rfl, by show 0 ≤ sizeLine; decide, .nil⟩) .nil
end
/-! ### clauses -/
section
variable {X : Cx} {fld : Str → Option Str} {W : WX} {pos : Pos} {body : List Stmt} {Gb : FS} {n y : Str} {i j : Nat} {exm : Str → Str → Option Bool} {h₀ : ExceptHandler} {hds : List ExceptHandler} {hs : List (Str × Str × Str)}
def TellB (X : Cx) (exm : Str → Str → Option Bool) (fld : Str → Option Str) (n y : Str) (hds : List ExceptHandler) (hs : List (Str × Str × Str)) : Prop := ∃ l, TellOk X n y hds l ∧ TellRel X exm fld hs l
theorem tell_nil : TellB X exm fld n y [] [] := ⟨[], .nil, .nil⟩
theorem tell_cons {x z f : Str} {np py pn sp pos' cp lp ap : Pos} {jz : Nat} (cc : CatC X.K X.mg x (exm x)) (ha : AttC X.K X.mg fld f) (r : TellB X exm fld n y hds hs)
    (hb : attributeBase (.Name n pn) f X.env (eval (.Name n pn) X.env) = eval (.Name n pn) X.env := by rfl) (hw : swapsWith (.List [.Constant (.str z) jz cp, .Attribute (.Name n pn) f ap] lp) (some (.Name y py)) sp.line X.env = pure false := by rfl) (hg : Gl X x := by rfl) (hd : (x == ("__debug__" : Str)) = false := by decide) :
    TellB X exm fld n y (.ExceptHandler (some (.Name x np)) (some n) [.Assign [.Name y py] (.List [.Constant (.str z) jz cp, .Attribute (.Name n pn) f ap] lp) sp] pos' :: hds) ((x, z, f) :: hs) := by
  obtain ⟨C, hm, hx⟩ := cc
  obtain ⟨l, h1, h2⟩ := r
  exact ⟨(.ref C, z, f) :: l, .cons ⟨hg, hd, .inl hm⟩ hb hw h1, .cons hx ha h2⟩
theorem s_tellB (i j : Nat) (hb0 : TellB X exm fld n y (h₀ :: hds) hs) (tk : Takes X W) (hN : X.N.Nodup)
    (hb : ∀ (W' : WX) (pn : List (Addr × Obj)) (xe : Value → Shared → Prop), Takes (X.tr pn xe) W' → PassesOwn (model X.prog X.w) X.A X.env xe → DB (X.tr pn xe) fld W' body Gb)
    (hi : X.N[i]? = some n := by rfl) (hln : X.env.kindOf n = some .local := by rfl) (hj : X.N[j]? = some y := by rfl) (hly : X.env.scope.names.lookup y = some .local := by rfl)
    (hs' : X.stack = X.env :: X.outer := by rfl) (hf : X.env.frame = some X.env.locals := by rfl) (hxx : X.ex = [] := by rfl)
    (hdn : (n == ("__debug__" : Str)) = false := by decide) (hcn : (n == ("__classdict__" : Str)) = false := by decide) :
    DS X fld W (.Try body (h₀ :: hds) [] [] pos) (tellF exm fld hs i j Gb) := by
  obtain ⟨l, h1, h2⟩ := hb0
  exact s_tell i j h1 h2 tk hN hb hi hln hj hly hs' hf hxx hdn hcn
end
end MI

set_option Elab.async false
set_option linter.all false
set_option maxRecDepth 100000
set_option maxHeartbeats 4000000
/-! MI33: != of two lists whose items hold dicts. -/
namespace MI
namespace NeL
open PySem PySem.SeqAt
open AutoSeq1 (wpAny_loadPart')
open MeetsSeq MeetsSeq2 MeetsSeq3 SeqRoads2
section
variable {prog : Program} {w : World}
/-- from the i-th items on -/
theorem turn (l b : Addr) (xs ys : Array Value) (n n2 : Nat) (dd dd2 : Option Addr) (sl sl2 : Array (Option Value)) (hz : xs.size = ys.size) (e : Nat → Bool) (k : Nat) :
    ∀ i : Nat, xs.size - i = k → MeetsIn prog w (Builtin.«list.__eq__.loop» ⟨[.ref l, .ref b, rawInt i, rawInt 3], []⟩)
      (fun A R s => s.heap.get? l = some { cls := .type "list", dict := dd, data := .seq xs n, slots := sl } ∧ s.heap.get? b = some { cls := .type "list", dict := dd2, data := .seq ys n2, slots := sl2 } ∧
        (∀ j (h1 : j < xs.size) (h2 : j < ys.size), EqIn prog w A.in1 s xs[j] ys[j] (e j)) ∧
        R (.ok (.ret (.bool (!((List.range xs.size).drop i).all e)))) s) := by
  induction k with
  | zero =>
    intro i hk A R s h
    obtain ⟨hp, g, d, tk, os⟩ := s; obtain ⟨hl, hb, he, h⟩ := h
    wp_walk using wpAny_loadPart' hl, wpAny_loadPart' hb
    have o1 : xs[((i : Nat) : Int).toNat]? = none := by simp; omega
    have o2 : ys[((i : Nat) : Int).toNat]? = none := by simp; omega
    have od : (List.range xs.size).drop i = [] := by simp; omega
    rw [od] at h
    rw [o1, o2]
    wp_walk using wpAny_loadPart' hl, wpAny_loadPart' hb
    show R (.ok (.ret (.bool (xs.size != ys.size)))) _
    rw [hz]
    simpa using h
  | succ k ih =>
    intro i hk A R s h
    obtain ⟨hp, g, d, tk, os⟩ := s; obtain ⟨hl, hb, he, h⟩ := h
    wp_walk using wpAny_loadPart' hl, wpAny_loadPart' hb
    have l1 : i < xs.size := by omega
    have l2 : i < ys.size := by omega
    have o1 : xs[((i : Nat) : Int).toNat]? = some xs[i] := by simp [l1]
    have o2 : ys[((i : Nat) : Int).toNat]? = some ys[i] := by simp [l2]
    have od : (List.range xs.size).drop i = i :: (List.range xs.size).drop (i + 1) := by simp [List.drop_eq_getElem_cons, l1]
    have oc : ((i : Int) + 1) = ((i + 1 : Nat) : Int) := by push_cast; rfl
    rw [od, List.all_cons] at h
    rw [o1, o2]
    refine wpAny_bind (he i l1 l2 _ _ ?_)
    cases hb' : e i with
    | true =>
      rw [hb'] at h
      wp_walk
      rw [oc]
      exact ⟨plainId_quiet plain_eq_loop _, codeAny_builtin entry_eq_loop (by
        rw [Around.under_plainId plain_eq_loop _]
        exact ih (i + 1) (by omega) A R _ ⟨hl, hb, he, by simpa using h⟩)⟩
    | false =>
      rw [hb'] at h
      wp_walk using wpAny_loadPart' hl, wpAny_loadPart' hb
      rw [o1, o2]
      wp_walk
      simpa using h
theorem ne_in (l b : Addr) (xs ys : Array Value) (n n2 : Nat) (dd dd2 : Option Addr) (sl sl2 : Array (Option Value)) (hz : xs.size = ys.size) (e : Nat → Bool) :
    MeetsIn prog w (Builtin.«list.__ne__» ⟨[.ref l, .ref b], []⟩)
      (fun A R s => s.heap.get? l = some { cls := .type "list", dict := dd, data := .seq xs n, slots := sl } ∧ s.heap.get? b = some { cls := .type "list", dict := dd2, data := .seq ys n2, slots := sl2 } ∧
        (∀ j (h1 : j < xs.size) (h2 : j < ys.size), EqIn prog w A.in1 s xs[j] ys[j] (e j)) ∧
        R (.ok (.ret (.bool (!(List.range xs.size).all e)))) s) := by
  intro A R s h
  obtain ⟨hp, g, d, tk, os⟩ := s; obtain ⟨hl, hb, he, h⟩ := h
  have f3 := AutoSeq1.sub_list_list
  have hne : ¬ (xs.size != ys.size) = true := by simp [hz]
  wp_walk using wpAny_loadPart' hl, wpAny_loadPart' hb
  exact ⟨plainId_quiet plain_eq_loop _, codeAny_builtin entry_eq_loop (by
    rw [Around.under_plainId plain_eq_loop _]
    exact turn l b xs ys n n2 dd dd2 sl sl2 hz e _ 0 rfl A R _ ⟨hl, hb, he, by simpa using h⟩)⟩
end
section
variable {prog : Program} {w : World} {A : Around} {s : Shared}
theorem rc_ne {E : Value → Shared → Prop} {l b : Addr} {xs ys : Array Value} {e : Nat → Bool} {Q : Value → Shared → Prop} (hl : s.heap.IsList l xs) (hb : s.heap.IsList b ys) (hz : xs.size = ys.size) (hu : A.units < cLine)
    (he : ∀ j (h1 : j < xs.size) (h2 : j < ys.size), EqIn prog w A.in1 s xs[j] ys[j] (e j)) (h : Q (.bool (!(List.range xs.size).all e)) s) : wpAny (model prog w) A (richCompare .NotEq (.ref l) (.ref b)) Q E s := by
  obtain ⟨⟨cls, dd, data, sl⟩, ho, hc, n, hd⟩ := id hl
  obtain ⟨⟨cls2, dd2, data2, sl2⟩, ho2, hc2, n2, hd2⟩ := id hb
  simp only at hc hd hc2 hd2
  subst hc hd hc2 hd2
  exact wpAny_richCompare_same_room (T := "list") (op := .NotEq) ⟨_, ho, rfl⟩ ⟨_, ho2, rfl⟩ F.slot_list_ne (call_meetsIn F.slot_list_ne ⟨_, ho, rfl⟩ F.entry_list_ne (F.args_list_ne_2 _ _) (ne_in l b xs ys n n2 dd dd2 sl sl2 hz e)
    ⟨ho, ho2, he, show Value.bool (!(List.range xs.size).all e) ≠ Value.notImplemented ∧ Q (.bool (!(List.range xs.size).all e)) s from ⟨(fun x => nomatch x), h⟩⟩) hu
end
end NeL
open PySem PySem.Spec L2
open PyProof.Rows hiding St
open PySem.SeqAt (EqIn EqAt RcAt RcNeAt)
/-- != of two lists, by the items' == -/
def neL (S : Store) (d e : D) : Option Bool :=
  match top S d, top S e with
  | .lst xs, .lst ys => if xs.length = ys.length then (eqL (eqF S false 59) xs ys).map (!·) else some true
  | _, _ => neO S d e
def neLD (d e : D) (S : Store) : R D := bl? S (neL S d e)
theorem noErr_neLD (d e : D) (S : Store) : NoErr (neLD d e S) := by
  unfold neLD bl?; split; exact noErr_ok _ _; exact noErr_bad
section
variable {X : Cx} {fld : Str → Option Str} {m : Bool} {W : WX} {a b : Expr} {Fa Fb : FE} {pos : Pos}
theorem item_of {pins : List (Addr × Obj)} {σ : St} {s : Shared} {ω : Wd} (I : Inv X pins σ ω.H s) (ok : Ok X.K X.mg fld ω) {n : Nat} {A : Around} (hA : A.units + n < cLine) :
    ∀ d e b, eqF ω.S false n d e = some b → ∀ x y v u, Rep X.K X.mg fld ω x d → Rep X.K X.mg fld ω y e → RelV x v → RelV y u → EqIn X.prog X.w A s v u b := fun d e b h x y v u rd re rv ru =>
  DEq.in_of (fun z => by
    have z' := eq_of_beq z
    subst z'
    have xy := rv.inj ru
    subst xy
    exact eqF_same I ok n d e b h x rd re) (not_float rd rv) fun E Q q => rcF (fun _ => ⟨rfl, rfl⟩) I ok n d e b h x y v u rd re rv ru A hA E Q q
theorem opD_neL (hu : X.A.units + 64 < cLine) : OpD X fld (compareOp .NotEq) neLD := by
  intro pins s σ ω x y v u Q d e I rx ry ok rd re h
  have h : PostN X.K X.mg fld ω (bl? ω.S (neL ω.S d e)) Q := h
  by_cases hd : ∃ xs ys, top ω.S d = .lst xs ∧ top ω.S e = .lst ys
  · obtain ⟨xs, ys, h1, h2⟩ := hd
    unfold neL at h
    rw [h1, h2] at h
    simp only at h
    have td := rd.top ok
    have te := re.top ok
    rw [h1] at td
    rw [h2] at te
    obtain ⟨a1, vs1, z1, hs1, rl1⟩ := td
    subst z1
    cases rx
    obtain ⟨a2, vs2, z2, hs2, rl2⟩ := te
    subst z2
    cases ry
    obtain ⟨its1, rV1, it1, _⟩ := I.list (SqL.of hs1)
    obtain ⟨its2, rV2, it2, _⟩ := I.list (SqL.of hs2)
    have hl1 : s.heap.IsList a1 its1.toArray := it1.isList
    have hl2 : s.heap.IsList a2 its2.toArray := it2.isList
    split at h
    · rename_i hz
      cases hb : eqL (eqF ω.S false 59) xs ys with
      | none => rw [hb] at h; exact h.elim
      | some b =>
        rw [hb, Option.map_some, bl?_some] at h
        obtain ⟨eb, g⟩ := eqL_spec _ _ _ _ hb
        have sz : its1.toArray.size = its2.toArray.size := by rw [List.size_toArray, List.size_toArray, ← rV1.length, ← rV2.length, rl1.length, rl2.length]; exact hz
        refine NeL.rc_ne (e := pairE (eqF ω.S false 59) xs ys) hl1 hl2 sz (by omega) (at_of rl1 rl2 rV1 rV2 g (item_of (A := X.A.in1) I ok (by show X.A.units + 1 + 59 < cLine; omega))) ?_
        rw [← hz, Nat.min_self, beq_self_eq_true, Bool.and_true] at eb
        rw [List.size_toArray, ← rV1.length, rl1.length, ← eb]
        exact ⟨.bl (!b), ω.H, I, rfl, h.same ok (.bl _)⟩
    · rename_i hz
      rw [bl?_some] at h
      exact RcNeAt.lists_lengths hl1 hl2 (by rw [List.size_toArray, List.size_toArray, ← rV1.length, ← rV2.length, rl1.length, rl2.length]; simpa using hz) (by omega) X.prog X.w _ _ ⟨.bl true, ω.H, I, rfl, h.same ok (.bl _)⟩
  · have h' : PostN X.K X.mg fld ω (bl? ω.S (neO ω.S d e)) Q := by
      unfold neL at h
      split at h
      · rename_i q1 q2; exact absurd ⟨_, _, q1, q2⟩ hd
      · exact h
    exact opD_ne (m := false) hu pins s σ ω x y v u Q d e I rx ry ok rd re h'
theorem k_neL (hu : X.A.units + 64 < cLine) (ha : DE X fld W a Fa) (hb : DE X fld W b Fb) : DE X fld W (.Compare a [.NotEq] [b] pos) (binD neLD Fa Fb) := de_cmp noErr_neLD (opD_neL hu) ha hb (nomark _)
theorem t_neL (hu : X.A.units + 64 < cLine) (ha : DE X fld W a Fa) (hb : DE X fld W b Fb) : DT X fld W (.Compare a [.NotEq] [b] pos) (tstF (binD neLD Fa Fb)) := dt_cmp noErr_neLD (opD_neL hu) ha hb (nomark _)
end
end MI

set_option Elab.async false
set_option linter.all false
set_option maxRecDepth 100000
set_option maxHeartbeats 4000000
/-! MI34: an error made by keyword, as a value. -/
namespace MI
namespace ExK
open PySem PySem.HandSPX
open Builtin Builtin.ObjectAttr
section
variable {M : Model} {A : Around} {E : Value → Shared → Prop} {h : Heap} {g : Array GenState} {d : Drawn} {t : Nat} {os : OsState}
variable {nm q : Str} {C N : Addr} {bs bm bmB : List Value} {hdct : Bool} {sn : List Str} {sub : List Value} {ab : Bool} {col : Option Bool} {dd : Option Addr} {k0 k1 k2 k3 k5 : Option Value} {B newId initId : String}
theorem new_check (F : ExcBaseFacts B newId initId bmB) (hT : ∀ X : String, bm.contains (.type X) = bmB.contains (.type X)) {rest : List Value} {f : Str} {u : Value} {Q : Unit → Shared → Prop}
    (hC : h.get? C = some (excClassObj nm q C N bs bm hdct sn sub ab col dd k0 k1 k2 k3 k5 newId)) (hq : Q () ⟨h, g, d, t, os⟩) : wpAny M A (checkBuiltinCall newId ⟨.ref C :: rest, [(f, u)]⟩) Q E ⟨h, g, d, t, os⟩ := by
  have below : (Value.ref C :: bm).contains (.type B) = true := by rw [List.contains_cons, hT, F.hasB, Bool.or_true]
  have star := F.noStar
  simp only [checkBuiltinCall, F.newKind, F.newSplit, F.newRow]
  repeat (first | refine wpAny_loadPart_at hC ?_ | (refine wpAny_isSubtype_exc hC ?_; rw [below]) | refine wpAny_staticBase_exc hC ?_ | refine wpAny_madeBy_exc hC ?_ | simp only [bne_self_eq_false, Bool.false_eq_true, if_false] | wp_step)
  exact hq
end
section
variable {prog : Program} {w : World} {A : Around} {E : Value → Shared → Prop} {R : Result → Shared → Prop} {h : Heap} {g : Array GenState} {d : Drawn} {t : Nat} {os : OsState}
variable {nm q : Str} {C N : Addr} {bs bm bmB : List Value} {hdct : Bool} {sn : List Str} {sub : List Value} {ab : Bool} {col : Option Bool} {dd : Option Addr} {k0 k1 k2 k3 k5 : Option Value} {B newId initId : String}
theorem new_made (F : ExcBaseFacts B newId initId bmB) (hT : ∀ X : String, bm.contains (.type X) = bmB.contains (.type X)) {rest : List Value} {f : Str} {u : Value}
    (hC : h.get? C = some (excClassObj nm q C N bs bm hdct sn sub ab col dd k0 k1 k2 k3 k5 newId))
    (hq : R (.ok (.ret (.ref (h.objs.size + 1)))) ⟨(h.push { cls := .type "tuple", data := .seq rest.toArray }).push (excO C h.objs.size), g, d, t, os⟩) (hrest : rest.length ≤ sizeLine) :
    codeAny (model prog w) A (.builtin newId ⟨.ref C :: rest, [(f, u)]⟩) R ⟨h, g, d, t, os⟩ := by
  have fin := F.ends
  have e1 : (Value.ref C :: bm).contains (.type B) = true := by rw [List.contains_cons, hT, F.hasB, Bool.or_true]
  have e2 : (Value.ref C :: bm).contains (.type "AttributeError") = false := by rw [List.contains_cons, hT, F.noAttr]; rfl
  have e3 : (Value.ref C :: bm).contains (.type "NameError") = false := by rw [List.contains_cons, hT, F.noName]; rfl
  refine codeAny_builtinAt F.entry ?_
  unfold Builtin.«BaseException.__new__»
  refine PySem.wpAt_bind ?_
  show wpAt _ _ _ (stack >>= _) _ _ _
  refine PySem.wpAt_bind (wpAt_stack fun p below => wpAt_of_wpAny ?_)
  wp_walk
  refine wpAt_of_wpAny ?_
  rw [F.owner]
  repeat (first | with_reducible refine wpAny_madeHere_exc F.canon hC ?_ | with_reducible refine wpAny_loadPart_at hC ?_ | (with_reducible refine wpAny_isSubtype_exc hC ?_; first | rw [e1] | rw [e2] | rw [e3]) | wp_step)
  show R _ _
  rw [Heap.size_push]
  exact hq
theorem type_made (F : ExcBaseFacts B newId initId bmB) (hT : ∀ X : String, bm.contains (.type X) = bmB.contains (.type X)) {rest : List Value} {f : Str} {u : Value} {fI : Addr} {Q : Fin → Shared → Prop}
    (hC : h.get? C = some (excClassObj nm q C N bs bm hdct sn sub ab col dd k0 k1 k2 k3 k5 newId))
    (hi : W.Looks (model prog w) h (typeLookup (.ref C) "__init__") (some (.ref fI))) (hb : ∀ self, W.Looks (model prog w) h (bindSpecial (.ref fI) self) (.ref fI, [self])) (hrest : rest.length ≤ sizeLine)
    (hq : codeAny (model prog w) A (.call (.ref fI) ⟨.ref (h.objs.size + 1) :: rest, [(f, u)]⟩)
      (fun r s' => match r with | .ok (.ret v) => v = .none ∧ Q (.done (.ret (.ref (h.objs.size + 1)))) s' | .ok _ => False | .error e => E e s')
      ⟨(h.push (W.kdv_tup rest)).push (excO C h.objs.size), g, d, t, os⟩) :
    wpAny (model prog w) A (Builtin.«type.__call__» ⟨.ref C :: rest, [(f, u)]⟩) Q E ⟨h, g, d, t, os⟩ := by
  repeat (first | with_reducible refine wpAny_loadPart_at hC ?_ | with_reducible refine wpAny_madeBy_exc hC ?_ | wp_step)
  refine codeAny_call_builtin_code (Code.quiet_builtin _ F.quiet) (new_check F hT hC ?_)
  refine new_made F hT hC ?_ hrest
  show wpAny _ _ _ _ _ _
  have k : ∀ b o, h.get? b = some o → ((h.push (W.kdv_tup rest)).push (excO C h.objs.size)).get? b = some o := fun b o e => Heap.get?_push_of_some _ (Heap.get?_push_of_some _ e)
  have c1 := k _ _ hC
  have at1 : ((h.push (W.kdv_tup rest)).push (excO C h.objs.size)).get? (h.objs.size + 1) = some (excO C h.objs.size) := by heap_get
  have own : (Value.ref C :: bm).contains (.ref C) = true := by simp
  have i1 := hi.keeps k
  have b1 := (hb (.ref (h.objs.size + 1))).keeps k
  unfold isInstance
  repeat (first | with_reducible refine wpAny_loadPart_at at1 ?_ | (with_reducible refine wpAny_isSubtype_exc c1 ?_; rw [own]) | wp_step)
  show wpAny _ _ (typeLookup (.ref C) _) _ _ _
  refine i1.at ?_
  refine wpAny_holding (wpAny_bind (b1.at ?_))
  refine wpAny_bind (wpAny_call (codeAny_mono hq fun r s' z => ?_))
  rcases r with e | (v | _ | _ | _) <;> first | exact z | exact z.elim | skip
  obtain ⟨rfl, z⟩ := z
  first
    | exact wpAny_pure (wpAny_pure z)
    | (wp_walk; exact z)
theorem made (F : ExcBaseFacts B newId initId bmB) (hT : ∀ X : String, bm.contains (.type X) = bmB.contains (.type X)) {rest : List Value} {f : Str} {u : Value} {fI : Addr}
    (hC : h.get? C = some (excClassObj nm q C N bs bm hdct sn sub ab col dd k0 k1 k2 k3 k5 newId))
    (hi : W.Looks (model prog w) h (typeLookup (.ref C) "__init__") (some (.ref fI))) (hb : ∀ self, W.Looks (model prog w) h (bindSpecial (.ref fI) self) (.ref fI, [self])) (hrest : rest.length ≤ sizeLine)
    (hq : codeAny (model prog w) (A.under (.builtin "type.__call__" ⟨.ref C :: rest, [(f, u)]⟩)) (.call (.ref fI) ⟨.ref (h.objs.size + 1) :: rest, [(f, u)]⟩) (W.InitBack (h.objs.size + 1) R)
      ⟨(h.push (W.kdv_tup rest)).push (excO C h.objs.size), g, d, t, os⟩) :
    codeAny (model prog w) A (.call (.ref C) ⟨rest, [(f, u)]⟩) R ⟨h, g, d, t, os⟩ := by
  have l1 := tc_lookup
  have l2 := tc_bind (.ref C)
  have ty : (⟨h, g, d, t, os⟩ : Shared).TypeIs (.ref C) "type" := ⟨_, hC, rfl⟩
  refine codeAny_of_tree ?_
  show wpAny _ _ (callAny (.ref C) _) _ _ _
  repeat (any_goals (first | assumption | with_reducible refine wpAny_loadPart_at hC ?_ | wp_step))
  refine ⟨rfl, ?_⟩
  refine codeAny_call_builtin_at (Code.quiet_builtin _ (by decide +kernel)) entry_typeCall (wpAny_check_type_call_sub hC (type_made F hT hC hi hb hrest ?_))
  refine codeAny_mono hq fun r s' z => ?_
  rcases r with e | (v | _ | _ | _) <;> exact z
end
end ExK
end MI

set_option Elab.async false
set_option linter.all false
set_option maxRecDepth 100000
set_option maxHeartbeats 4000000
/-! MI35: errors as values: C(e), C(f=e), C(). -/
namespace MI
open PySem PySem.Spec L2
open PyProof.Rows hiding St
section
variable {X : Cx} {fld : Str → Option Str} {W : WX} {e : Expr} {es : List Expr} {pos p : Pos} {F : FE} {Fs : FA}
/-- the heap, with a new error of the class at C and its field -/
def hmk (H : Hp) (C : Addr) (f : Str) (y : V) (d a : Addr) : Hp := upd (upd H d (.xd [(f, y)])) a (excHO C (some d) a)
/-- an own error, made -/
theorem run_mk {pins : List (Addr × Obj)} {σ : St} {H : Hp} {s : Shared} {Q : VK} {us : List Value} {kw : List (Str × Value)} {x f : Str} {C fI : Addr} {k : Nat} {fd : FuncData} {ps : List Str} {y : V} {u : Value}
    (T : OexC X.K C) (F1 : FnOk X.prog X.w X.K X.mg X.base (L2.CX X.prog X.w) k fI fd ps (spInit C f)) (hr : Room (k + 1) X.A)
    (hb : ∀ (s : Shared) (v : Value), X.K.In s.heap → BindsTo s fd ⟨v :: us, kw⟩ (ps.zip [v, u])) (ry : RelV y u)
    (hcall : ∀ R : Result → Shared → Prop, codeAny (model X.prog X.w) (X.A.under (.builtin "type.__call__" ⟨.ref C :: us, kw⟩)) (.call (.ref fI) ⟨.ref (s.heap.objs.size + 1) :: us, kw⟩) (PySem.W.InitBack (s.heap.objs.size + 1) R)
        { s with heap := (s.heap.push (PySem.W.kdv_tup us)).push (PySem.HandSPX.excO C s.heap.objs.size) } → codeAny (model X.prog X.w) X.A (.call (.ref C) ⟨us, kw⟩) R s)
    (I : Inv X pins σ H s) (q : ∀ d a, H d = none → H a = none → d ≠ a → Q (.ref a) (hmk H C f y d a)) :
    wpAny (model X.prog X.w) X.A (call (.ref C) us kw) (EP X pins σ Q) X.xe s := by
  obtain ⟨hp, g, dr, tk, os⟩ := s
  have hsz : hp.objs.size ≤ hp.objs.size + 1 := Nat.le_succ _
  have hn : H (hp.objs.size + 1) = none := I.hok.fresh hsz
  have kk : ∀ b o, hp.get? b = some o → ((hp.push (PySem.W.kdv_tup us)).push (PySem.HandSPX.excO C hp.objs.size)).get? b = some o := fun b o e => Heap.get?_push_of_some _ (Heap.get?_push_of_some _ e)
  have hget : ((hp.push (PySem.W.kdv_tup us)).push (PySem.HandSPX.excO C hp.objs.size)).get? (hp.objs.size + 1) = some (PySem.HandSPX.excO C hp.objs.size) := by heap_get
  have I2 : Inv X pins σ (upd H (hp.objs.size + 1) (exo (hp.objs.size + 1) C none)) ⟨(hp.push (PySem.W.kdv_tup us)).push (PySem.HandSPX.excO C hp.objs.size), g, dr, tk, os⟩ :=
    I.laid (t' := tk) (a := hp.objs.size + 1) (o := exo (hp.objs.size + 1) C none) (h' := (hp.push (PySem.W.kdv_tup us)).push (PySem.HandSPX.excO C hp.objs.size)) kk hsz (exo_ok hget)
  have r2 : Vals [V.ref (hp.objs.size + 1), y] [Value.ref (hp.objs.size + 1), u] := .cons rfl (.cons ry .nil)
  have sp : spInit C f [V.ref (hp.objs.size + 1), y] (upd H (hp.objs.size + 1) (exo (hp.objs.size + 1) C none))
      (fun v H2 => v = .non ∧ ∃ d, H2 = upd (upd (upd H (hp.objs.size + 1) (exo (hp.objs.size + 1) C none)) d (exd d [(f, y)])) (hp.objs.size + 1) (exo (hp.objs.size + 1) C (some d)) ∧ H d = none ∧ d ≠ hp.objs.size + 1) (fun _ _ _ => False) :=
    ⟨_, _, rfl, upd_same, fun d h1 h2 => ⟨rfl, d, rfl, by rw [upd_ne h2] at h1; exact h1, h2⟩⟩
  refine wpAny_call (hcall _ ?_)
  refine codeAny_mono (F1.run _ X.stack _ _ ⟨Value.ref (hp.objs.size + 1) :: us, kw⟩ [Value.ref (hp.objs.size + 1), u] _ _ _ (hr.make C us kw) (I2.env0.make C us kw) (hb _ _ I2.kIn) r2 sp) fun r s' hq' => ?_
  cases r with
  | error er =>
    obtain ⟨_, _, _, _, _, _, _, _, _, _, _, _, z⟩ := hq'
    exact z.elim
  | ok fl =>
    cases fl with
    | next => exact False.elim hq'
    | brk => exact False.elim hq'
    | cont => exact False.elim hq'
    | ret u' =>
      obtain ⟨v, H2, J, rv, ev, d, eH, hd, hda⟩ := I2.after hq'
      subst ev
      cases eH
      refine ⟨rv, .ref (hp.objs.size + 1), hmk H C f y d (hp.objs.size + 1), ?_, rfl, q d _ hd hn hda⟩
      have e1 : upd (upd (upd H (hp.objs.size + 1) (exo (hp.objs.size + 1) C none)) d (exd d [(f, y)])) (hp.objs.size + 1) (exo (hp.objs.size + 1) C (some d)) (hp.objs.size + 1) = some (exo (hp.objs.size + 1) C (some d)) := upd_same
      have e2 : upd (upd (upd H (hp.objs.size + 1) (exo (hp.objs.size + 1) C none)) d (exd d [(f, y)])) (hp.objs.size + 1) (exo (hp.objs.size + 1) C (some d)) d = some (exd d [(f, y)]) := by rw [upd_ne hda, upd_same]
      obtain ⟨t1, ho⟩ := exo_at J.hok e1
      obtain ⟨mA, hns, rel⟩ := exd_at J.hok e2
      obtain ⟨od, hod⟩ : ∃ o, s'.heap.get? d = some o := by
        obtain ⟨o, _, _, e', _⟩ := hns
        exact ⟨o, e'⟩
      obtain ⟨h2, g2, d2, t2, os2⟩ := s'
      have J1 := J.write (t' := t2) (h' := h2) (x := d) (e := d) (o := .xd [(f, y)]) (by rw [e2]; exact True.intro) (.inl rfl) (fun b o _ z => z) ⟨od, hod⟩ ⟨mA, hns, rel⟩
      have J2 := J1.write (t' := t2) (h' := h2) (x := hp.objs.size + 1) (e := hp.objs.size + 1) (o := excHO C (some d) (hp.objs.size + 1)) (by rw [upd_ne (Ne.symm hda), e1]; exact True.intro) (.inl rfl) (fun b o _ z => z) ⟨_, ho⟩
        ⟨⟨_, _, ho, ⟨rfl, rfl⟩, rfl⟩, ⟨_, ho⟩, fun h1 h2 z k => by
          obtain ⟨o, v, a1, a2⟩ := z
          exact ⟨o, v, k _ a1, a2⟩⟩
      have eq : upd (upd (upd (upd (upd H (hp.objs.size + 1) (exo (hp.objs.size + 1) C none)) d (exd d [(f, y)])) (hp.objs.size + 1) (exo (hp.objs.size + 1) C (some d))) d (.xd [(f, y)])) (hp.objs.size + 1) (excHO C (some d) (hp.objs.size + 1)) = hmk H C f y d (hp.objs.size + 1) := by
        funext b
        unfold hmk
        by_cases h1 : b = hp.objs.size + 1
        · rw [h1, upd_same, upd_same]
        · rw [upd_ne h1, upd_ne h1]
          by_cases h2 : b = d
          · rw [h2, upd_same, upd_same]
          · rw [upd_ne h2, upd_ne h2, upd_ne h1, upd_ne h2, upd_ne h1]
      rw [eq] at J2
      exact J2
/-- what the written part says of an own error class with one field that need not be given -/
structure ErrV (P : Program) (w : World) (K : PySem.W.Frag) (mg : Str → Option Value) (base : Heap) (fld : Str → Option Str) (k : Nat) (x f : Str) : Prop where
  ex : ∃ (C fI : Addr) (fd : FuncData) (ps : List Str), OexC K C ∧ PySem.W.findIn K (.ref C) "__init__" = some (some (.ref fI)) ∧ PySem.W.typeIn K (.ref fI) = some (.type "function") ∧ FnOk P w K mg base (L2.CX P w) k fI fd ps (spInit C f) ∧
    (∀ (s : Shared) (v u : Value), K.In s.heap → BindsTo s fd ⟨[v, u], []⟩ (ps.zip [v, u])) ∧ (∀ (s : Shared) (v u : Value), K.In s.heap → BindsTo s fd ⟨[v], [(f, u)]⟩ (ps.zip [v, u])) ∧
    (∀ (s : Shared) (v : Value), K.In s.heap → BindsTo s fd ⟨[v], []⟩ (ps.zip [v, .none])) ∧ mg x = some (.ref C)
  fl : fld x = some f
/-- a new error in the store -/
theorem mk_post {x f : Str} {C : Addr} {ω : Wd} {σ : St} {v : V} {d : D} {Q : VK} (hm : X.mg x = some (.ref C)) (hf : fld x = some f) (ok : Ok X.K X.mg fld ω) (rd : Rep X.K X.mg fld ω v d)
    (p : Post X.K X.mg fld (Rep X.K X.mg fld) W σ ω (.ok (.exc x d) ω.S) Q) : ∀ dx a, ω.H dx = none → ω.H a = none → dx ≠ a → Q (.ref a) (hmk ω.H C f v dx a) := fun dx a h1 h2 h3 => by
  have e1 := Ext.upd ω (o := .xd [(f, v)]) h1
  have ok1 := ok.alloc (o := .xd [(f, v)]) h1
  have h2' : (ω.add dx (.xd [(f, v)])).H a = none := by show upd ω.H dx _ a = none; rw [upd_ne (Ne.symm h3)]; exact h2
  have e2 := Ext.upd (ω.add dx (.xd [(f, v)])) (o := excHO C (some dx) a) h2'
  exact p ((ω.add dx (.xd [(f, v)])).add a (excHO C (some dx) a)) rfl (e1.trans ok ok1 e2) (ok1.alloc h2') (.ref a)
    (.exc hm hf upd_same (by show upd (upd ω.H dx _) a _ dx = _; rw [upd_ne h3, upd_same]) ((rd.mono ok e1).mono ok1 e2))
def mkF (x : Str) (F : FE) : FE := fun σ S => (F σ S).bind fun d S => .ok (.exc x d) S
theorem k_mk {x f : Str} {k : Nat} (Ec : ErrV X.prog X.w X.K X.mg X.base fld k x f) (hr : Room (k + 1) X.A) (pe : Plain e) (he : DE X fld W e F) (hg : Gl X x := by rfl) (hdb : (x == ("__debug__" : Str)) = false := by decide) :
    DE X fld W (.Call (.Name x p) [e] [] pos) (mkF x F) := by
  obtain ⟨⟨C, fI, fd, ps, T, iC, tI, F1, bP, bK, b0, hm⟩, hf⟩ := Ec
  refine ⟨fun pins s σ H Q I h => ?_⟩
  obtain ⟨ω, σd, e0, ok, er, p'⟩ := tG_bind (rel := Rep X.K X.mg fld) (F := F) (G := fun σ d S => R.ok (D.exc x d) S) h
  have T' := T
  obtain ⟨nm, q, N, bs, bm, sn, sub, ab, col, dd, k0, k1, k2, k3, k5, hC, hbm⟩ := T'.cls
  refine wpAny_Call_Name_kw (ld_glob I hg hm ?_ hdb)
  have want : tCons (tG X.K X.mg fld (Rep X.K X.mg fld) W F) tNil σ H (fun xs H1 => ∃ v, xs = [v] ∧ ∃ ω1 d, ω1.H = H1 ∧ Ok X.K X.mg fld ω1 ∧ Rep X.K X.mg fld ω1 v d ∧ Post X.K X.mg fld (Rep X.K X.mg fld) W σ ω1 (R.ok (D.exc x d) ω1.S) Q) := by
    refine ⟨ω, σd, e0, ok, er, p'.mono ?_⟩
    rintro v H1 ⟨ω1, σd1, d, h1, ok1, er1, rd, p1⟩
    exact ⟨v, rfl, ω1, d, h1, ok1, rd, p1⟩
  refine PySem.W.callWith_K (h₀ := X.base) I.ok.mod.kin T.kC (thn ((pa_cons he pa_nil (pe.star [] X.env)).run pos pins s σ H _ I want) ?_) (pe.star [] X.env) rfl
  rintro us s1 ⟨vs, H1, I1, r1, v, rfl, ω1, d, h1, ok1, rd, p1⟩
  subst h1
  refine ⟨I1.kIn, ?_⟩
  obtain ⟨u, rfl, ru⟩ := vals1 r1
  show wpAny _ _ (call (.ref C) [u]) _ _ _
  exact run_mk (us := [u]) (kw := []) (x := x) T F1 hr (fun s v h => bP s v u h) ru
    (fun R h => PySem.HandSPX.call_own PySem.F.excBase_ValueError (fun Y => PySem.HandSPX.refsVE_contains Y bm hbm) (I1.kIn _ _ hC) (PySem.W.looks_findIn I1.kIn iC) (fun self => PySem.W.bind_fn I1.kIn self tI) (by show 1 ≤ sizeLine; decide) h) I1 (mk_post hm hf ok1 rd p1)
theorem k_mk0 {x f : Str} {k : Nat} (Ec : ErrV X.prog X.w X.K X.mg X.base fld k x f) (hr : Room (k + 1) X.A) (hg : Gl X x := by rfl) (hdb : (x == ("__debug__" : Str)) = false := by decide) :
    DE X fld W (.Call (.Name x p) [] [] pos) (fun _ S => .ok (.exc x .non) S) := by
  obtain ⟨⟨C, fI, fd, ps, T, iC, tI, F1, bP, bK, b0, hm⟩, hf⟩ := Ec
  refine ⟨fun pins s σ H Q I ⟨ω, σd, e0, ok, er, p'⟩ => ?_⟩
  subst e0
  have T' := T
  obtain ⟨nm, q, N, bs, bm, sn, sub, ab, col, dd, k0, k1, k2, k3, k5, hC, hbm⟩ := T'.cls
  refine wpAny_Call_Name_kw (ld_glob I hg hm ?_ hdb)
  refine PySem.W.callWith_K0 I.kIn T.kC ?_
  show wpAny _ _ (call (.ref C) []) _ _ _
  exact run_mk (us := []) (kw := []) (x := x) T F1 hr (fun s v h => b0 s v h) (y := .non) rfl
      (fun R h => PySem.HandSPX.call_own PySem.F.excBase_ValueError (fun Y => PySem.HandSPX.refsVE_contains Y bm hbm) (I.kIn _ _ hC) (PySem.W.looks_findIn I.kIn iC) (fun self => PySem.W.bind_fn I.kIn self tI) (by show 0 ≤ sizeLine; decide) h) I (mk_post hm hf ok .non p')
theorem k_mkK {x f : Str} {k : Nat} {kp : Pos} (Ec : ErrV X.prog X.w X.K X.mg X.base fld k x f) (hr : Room (k + 1) X.A) (he : DE X fld W e F) (hg : Gl X x := by rfl) (hdb : (x == ("__debug__" : Str)) = false := by decide) :
    DE X fld W (.Call (.Name x p) [] [⟨some f, e, kp⟩] pos) (mkF x F) := by
  obtain ⟨⟨C, fI, fd, ps, T, iC, tI, F1, bP, bK, b0, hm⟩, hf⟩ := Ec
  refine ⟨fun pins s σ H Q I h => ?_⟩
  obtain ⟨ω, σd, e0, ok, er, p'⟩ := tG_bind (rel := Rep X.K X.mg fld) (F := F) (G := fun σ d S => R.ok (D.exc x d) S) h
  have T' := T
  obtain ⟨nm, q, N, bs, bm, sn, sub, ab, col, dd, k0, k1, k2, k3, k5, hC, hbm⟩ := T'.cls
  refine wpAny_Call_Name_kw (ld_glob I hg hm ?_ hdb)
  have want : tCons (tG X.K X.mg fld (Rep X.K X.mg fld) W F) tNil σ H (fun xs H1 => ∃ v, xs = [v] ∧ ∃ ω1 d, ω1.H = H1 ∧ Ok X.K X.mg fld ω1 ∧ Rep X.K X.mg fld ω1 v d ∧ Post X.K X.mg fld (Rep X.K X.mg fld) W σ ω1 (R.ok (D.exc x d) ω1.S) Q) := by
    refine ⟨ω, σd, e0, ok, er, p'.mono ?_⟩
    rintro v H1 ⟨ω1, σd1, d, h1, ok1, er1, rd, p1⟩
    exact ⟨v, rfl, ω1, d, h1, ok1, rd, p1⟩
  refine PySem.W.callWith_KW0 (h₀ := X.base) I.ok.mod.kin T.kC rfl (thn ((pk_cons he pk_nil).run pos pins s σ H _ I want) ?_) rfl
  rintro us s1 ⟨vs, H1, I1, r1, v, rfl, ω1, d, h1, ok1, rd, p1⟩
  subst h1
  refine ⟨I1.kIn, ?_⟩
  obtain ⟨u, rfl, ru⟩ := vals1 r1
  show wpAny _ _ (call (.ref C) [] [(f, u)]) _ _ _
  exact run_mk (us := []) (kw := [(f, u)]) (x := x) T F1 hr (fun s v h => bK s v u h) ru
    (fun R h => ExK.made PySem.F.excBase_ValueError (fun Y => PySem.HandSPX.refsVE_contains Y bm hbm) (I1.kIn _ _ hC) (PySem.W.looks_findIn I1.kIn iC) (fun self => PySem.W.bind_fn I1.kIn self tI) (by show 0 ≤ sizeLine; decide) h) I1 (mk_post hm hf ok1 rd p1)
end
end MI

set_option Elab.async false
set_option linter.all false
set_option maxRecDepth 100000
set_option maxHeartbeats 4000000
/-! MI36: errors without fields as values; an error of the language asked for an own class. -/
namespace MI
open PySem PySem.Spec L2
open PyProof.Rows hiding St
section
variable {X : Cx} {fld : Str → Option Str} {W : WX} {e : Expr} {es : List Expr} {pos p q apos : Pos} {F : FE} {Fs : FA}
/-- an own error class without own __init__ -/
def ErrN (K : PySem.W.Frag) (mg : Str → Option Value) (x : Str) : Prop := ∃ C, mg x = some (.ref C) ∧ PySem.W.keepIn K (.ref C) = true ∧ ∃ bmB, ExcBaseFacts "ValueError" "ValueError.__new__" "ValueError.__init__" bmB ∧ PySem.W.excIn K C bmB "ValueError.__new__" = true
theorem k_mkN {x : Str} (Ec : ErrN X.K X.mg x) (hg : Gl X x := by rfl) (hdb : (x == ("__debug__" : Str)) = false := by decide) : DE X fld W (.Call (.Name x p) [] [] pos) (fun _ S => .ok (.exc0 x) S) := by
  obtain ⟨C, hm, kC, bmB, Fb, q⟩ := Ec
  refine ⟨fun pins s σ H Q I ⟨ω, σd, e0, ok, er, p'⟩ => ?_⟩
  subst e0
  refine wpAny_Call_Name_kw (ld_glob I hg hm ?_ hdb)
  refine PySem.W.callWith_K0 I.kIn kC ?_
  show wpAny _ _ (call (.ref C) []) _ _ _
  obtain ⟨bm, N, nm, qn, bs, hdct, sn, sub, ab, col, dd, k0, k1, k2, k3, k5, mN, hC, hN, hni, T⟩ := exc_obj I.kIn q
  refine wpAny_call_exc_subT Fb T hC hN hni (fun h' a hm' => ?_) (Nat.zero_le _)
  have hn : ω.H a = none := I.hok.gone hm'.new
  obtain ⟨t, ht, _, _⟩ := hm'.there
  have J : Inv X pins σ (upd ω.H a (excHO C none a)) ⟨h', s.gens, s.drawn, s.toks, s.os⟩ := I.laidN hm'.keeps hm'.new hn
    ⟨⟨_, _, ht, ⟨rfl, rfl⟩, rfl⟩, ⟨_, ht⟩, fun h1 h2 z k => by
      obtain ⟨o, v, a1, a2⟩ := z
      exact ⟨o, v, k _ a1, a2⟩⟩
  have e1 := Ext.upd ω (o := excHO C none a) hn
  exact ⟨.ref a, upd ω.H a (excHO C none a), J, rfl, p' (ω.add a (excHO C none a)) rfl e1 (ok.alloc hn) (.ref a) (.exc0 hm upd_same)⟩
/-- an error of the language, at a -/
def veHO (a : Addr) : HO := .ext fun h => PySem.W.KitAt a "ValueError" h
theorem pe_ve (hg : Gl X "ValueError") (hm : X.mg "ValueError" = none) : PE X (.Call (.Name "ValueError" p) [] [] pos) (fun _ H Q => ∀ a, H a = none → Q (.ref a) (upd H a (veHO a))) := by
  refine ⟨fun pins s σ H Q I h => ?_⟩
  refine wpAny_Call_Name_kw (ld_blt I hg hm (show bootBuiltins "ValueError" = some (.type "ValueError") from PyProof.Rows.Boot.«ValueError») ?_ (by decide) (by decide))
  obtain ⟨hp1, g1, d1, tk1, os1⟩ := s
  refine PyProof.Rows.callWith_type0 (wpAny_call_exc PySem.F.excCall_ValueError (fun h' a mk => ?_) (Nat.zero_le _))
  have hn : H a = none := I.hok.gone mk.new
  obtain ⟨t, ht, _, _⟩ := mk.there
  exact ⟨.ref a, upd H a (veHO a), I.laidN mk.keeps mk.new hn ⟨⟨_, ht, rfl⟩, ⟨_, ht⟩, fun h1 h2 ⟨o, z1, z2⟩ k => ⟨o, k _ z1, z2⟩⟩, rfl, h a hn⟩
/-- what the text says of an own class that is not above ValueError -/
def NoVe (K : PySem.W.Frag) (mg : Str → Option Value) (x : Str) : Prop := ∃ C, mg x = some (.ref C) ∧ PySem.W.kitOne K (.type "ValueError") (.ref C) = some false
/-- isinstance(ValueError(), C) -/
theorem k_isVE {x : Str} {rp : Pos} (Nv : NoVe X.K X.mg x) (hm : X.mg "isinstance" = none) (hv : X.mg "ValueError" = none) (hg : Gl X "isinstance" := by rfl) (hgv : Gl X "ValueError" := by rfl) (hgx : Gl X x := by rfl) (hd : (x == ("__debug__" : Str)) = false := by decide) :
    DE X fld W (.Call (.Name "isinstance" p) [.Call (.Name "ValueError" q) [] [] apos, .Name x rp] [] pos) (fun _ S => .ok (.bl false) S) := by
  obtain ⟨C, hC, hk⟩ := Nv
  have hr : CallR X (.builtin "isinstance") (fun xs H Q => ∃ a, xs = [.ref a, .ref C] ∧ H a = some (veHO a) ∧ Q (.bl false) H) := by
    intro pins s σ H xs us Q I r ⟨a, e1, ha, p'⟩
    subst e1
    obtain ⟨w1, w2, rfl, r1, r2⟩ := vals2 r
    obtain rfl : w1 = Value.ref a := r1
    obtain rfl : w2 = Value.ref C := r2
    have k : PySem.W.KitAt a "ValueError" s.heap := (show ObjOk X.prog X.w H s.heap a (.ext fun h => PySem.W.KitAt a "ValueError" h) from I.hok a _ ha).1
    exact PySem.W.kia_one (PySem.W.kitx_bexc PySem.F.excAttr_ValueError (by first | rfl | kernel_rfl) (by first | rfl | kernel_rfl) (by decide)) I.kIn k hk (fun z => nomatch z) fun tk => ⟨.bl false, H, I.tok tk, rfl, p'⟩
  have hA := pa_cons (pe_ve (p := q) (pos := apos) hgv hv) (pa_cons (pe_glob (pos := rp) hgx hC (show RelV (.ref C) (.ref C) from rfl) hd) pa_nil (by rfl)) (by rfl)
  refine PE.imp (pe_callB hr hg hm (by kernel_rfl) hA (by decide) (by decide) (by rfl) (by rfl)) fun σ H Q h => ?_
  obtain ⟨ω, σd, e0, ok, er, p'⟩ := h
  subst e0
  intro a ha
  exact ⟨a, rfl, upd_same, p' (ω.add a (veHO a)) rfl (Ext.upd ω ha) (ok.alloc ha) _ (.bl false)⟩
end
end MI

set_option Elab.async false
set_option linter.all false
set_option maxRecDepth 100000
set_option maxHeartbeats 4000000
/-! MI37: str(x), where nothing is being shown as yet. -/
namespace MI
open PySem PySem.Spec L2
open PyProof.Rows hiding St
mutual
def pyV : D → Option PyData
  | .non => some .none
  | .bl b => some (.bool b)
  | .int i => some (.int i)
  | .str x => some (.str x)
  | .tup xs => match pyL xs with
    | some ps => some (.tuple ps)
    | none => none
  | .lst xs => match pyL xs with
    | some ps => some (.list ps)
    | none => none
  | _ => none
def pyL : List D → Option (List PyData)
  | [] => some []
  | x :: xs => match pyV x, pyL xs with
    | some p, some ps => some (p :: ps)
    | _, _ => none
end
def pyD : D → Option PyData
  | .dic [.inr k] [.int i] => some (.dict [(.str k, .int i)])
  | _ => none
/-- the text of a datum -/
def shwD (d : D) : Option Str :=
  match d with
  | .non => some "None"
  | .bl b => some (if b then "True" else "False")
  | .int i => if i.natAbs.log2 < 1920 then some (Str.ofString (toString i)) else none
  | .str x => some x
  | .dic _ _ => match pyD d with
    | some p => if p.showable && decide (p.shown.length ≤ sizeLine) && decide (p.depth ≤ 50) then some p.shown else none
    | none => none
  | .ref _ => none
  | _ => match pyV d with
    | some p => if p.showable && !p.hasDict && decide (p.shown.length ≤ sizeLine) && decide (p.depth ≤ 50) then some p.shown else none
    | none => none
def strF (Fa : FE) : FE := fun σ S => (Fa σ S).bind fun d S => match shwD d with
  | some x => .ok (.str x) S
  | none => .bad
section
variable {X : Cx} {fld : Str → Option Str} {W : WX} {a : Expr} {pos p : Pos} {Fa : FE} {Fs : FA}
mutual
theorem readsV {pins : List (Addr × Obj)} {σ : St} {ω : Wd} {s : Shared} (I : Inv X pins σ ω.H s) : ∀ (d : D) (q : PyData) (v : V) (u : Value), pyV d = some q → Rep X.K X.mg fld ω v d → RelV v u → ∃ as, Reads s.heap u q as
  | .non, q, v, u, h, r, ru => by cases h; cases r; cases ru; exact ⟨_, .none⟩
  | .bl b, q, v, u, h, r, ru => by cases h; cases r; cases ru; exact ⟨_, .bool b⟩
  | .int i, q, v, u, h, r, ru => by cases h; cases r; obtain ⟨t, rfl⟩ := ru; exact ⟨_, .int i t⟩
  | .str x, q, v, u, h, r, ru => by cases h; cases r; obtain ⟨t, rfl⟩ := ru; exact ⟨_, .str x t⟩
  | .tup xs, q, v, u, h, r, ru => by
    unfold pyV at h
    cases hp : pyL xs with
    | none => rw [hp] at h; cases h
    | some ps =>
      rw [hp] at h
      cases h
      cases r with
      | tup h1 h2 =>
        cases ru
        obtain ⟨its, rV, ⟨o, e1, e2, n, e3⟩, _⟩ := I.tuple h1
        obtain ⟨as, k⟩ := readsL I xs ps _ its hp h2 rV
        exact ⟨as, .tuple e1 e2 e3 (by simpa using k)⟩
  | .lst xs, q, v, u, h, r, ru => by
    unfold pyV at h
    cases hp : pyL xs with
    | none => rw [hp] at h; cases h
    | some ps =>
      rw [hp] at h
      cases h
      cases r with
      | lst h1 hc h2 =>
        cases ru
        obtain ⟨its, rV, it, _⟩ := I.list (SqL.of h1)
        obtain ⟨o, e1, e2, n, e3⟩ := it.isList
        obtain ⟨as, k⟩ := readsL I xs ps _ its hp h2 rV
        exact ⟨_, .list e1 e2 e3 (by simpa using k)⟩
  | .fls _, _, _, _, h, _, _ => by cases h
  | .dic _ _, _, _, _, h, _, _ => by cases h
  | .ref _, _, _, _, h, _, _ => by cases h
  | .exc _ _, _, _, _, h, _, _ => by cases h
  | .exc0 _, _, _, _, h, _, _ => by cases h
  | .fn _, _, _, _, h, _, _ => by cases h
theorem readsL {pins : List (Addr × Obj)} {σ : St} {ω : Wd} {s : Shared} (I : Inv X pins σ ω.H s) : ∀ (ds : List D) (qs : List PyData) (vs : List V) (us : List Value), pyL ds = some qs → RepL X.K X.mg fld ω vs ds → Vals vs us → ∃ as, ReadsAll s.heap us qs as
  | [], qs, vs, us, h, r, ru => by cases h; cases r; cases ru; exact ⟨_, .nil⟩
  | d :: ds, qs, vs, us, h, r, ru => by
    unfold pyL at h
    cases hp : pyV d with
    | none => rw [hp] at h; cases h
    | some q =>
      cases hq : pyL ds with
      | none => rw [hp, hq] at h; cases h
      | some ps =>
        rw [hp, hq] at h
        cases h
        cases r with
        | cons r1 r2 =>
          cases ru with
          | cons u1 u2 =>
            obtain ⟨as, k1⟩ := readsV I d q _ _ hp r1 u1
            obtain ⟨bs, k2⟩ := readsL I ds ps _ _ hq r2 u2
            exact ⟨_, .cons k1 k2⟩
end
theorem callD_strX (hg : X.A.guards = some []) (hu : X.A.units + 64 < cLine) : CallD X fld (.type "str") (fun ds S => match ds with
    | [d] => (match shwD d with
      | some x => .ok (.str x) S
      | none => .bad)
    | _ => .bad) := by
  intro pins s σ ω xs us Q ds I r ok rd p
  rcases ds with _ | ⟨d, _ | ⟨_, _⟩⟩
  · exact p.elim
  · obtain ⟨x, rfl, rx⟩ := rd.one_of
    obtain ⟨u, rfl, ru⟩ := vals1 r
    simp only at p
    have big : ∀ q : PyData, (∃ z, pyV d = some q ∧ shwD d = some z ∧ z = q.shown ∧ q.showable = true ∧ q.hasDict = false ∧ q.shown.length ≤ sizeLine ∧ q.depth ≤ 50) → (∃ b, u = .ref b) → wpAny (model X.prog X.w) X.A (call (.type "str") [u]) (EP X pins σ Q) X.xe s := fun q ⟨z, h1, h2, h3, h4, h5, h6, h7⟩ ⟨b, hb⟩ => by
      subst hb h3
      rw [h2] at p
      obtain ⟨as, k⟩ := readsV I d q x _ h1 rx ru
      refine str_of_reads k h4 (PyData.noDict_hsm h5) hg (by omega) (fun _ _ e => e) (fun h' u' tk hk => ?_) h6
      exact ⟨.str q.shown, ω.H, I.un (Un.kept hk) (I.hok.kept hk), ⟨_, rfl⟩, p.same ok (.str _)⟩
    cases hz : shwD d with
    | none => rw [hz] at p; exact p.elim
    | some z =>
      have hz0 := hz
      unfold shwD at hz
      cases d with
      | non =>
        cases hz; cases rx; cases ru
        rw [hz0] at p
        exact P.str_of_none ⟨.str "None", ω.H, I.tok _, ⟨_, rfl⟩, p.same ok (.str _)⟩
      | bl b =>
        cases hz; cases rx; cases ru
        rw [hz0] at p
        refine P.str_of_bool ⟨.str _, ω.H, I.tok _, ⟨_, rfl⟩, ?_⟩
        have q := p.same ok (.str _)
        cases b <;> exact q
      | int i =>
        simp only at hz
        split at hz
        · rename_i hl
          cases hz; cases rx
          obtain ⟨t, rfl⟩ := ru
          rw [hz0] at p
          exact P.str_of_int hl ⟨.str _, ω.H, I.tok _, ⟨_, rfl⟩, p.same ok (.str _)⟩
        · cases hz
      | str y =>
        cases hz; cases rx
        obtain ⟨t, rfl⟩ := ru
        rw [hz0] at p
        exact P.str_of_str ⟨.str _, ω.H, I, ⟨_, rfl⟩, p.same ok (.str _)⟩
      | tup ys =>
        simp only at hz
        split at hz
        · rename_i q hq
          split at hz
          · rename_i hc
            cases hz
            simp only [Bool.and_eq_true, Bool.not_eq_true', decide_eq_true_eq] at hc
            refine big q ⟨_, hq, hz0, rfl, hc.1.1.1, hc.1.1.2, hc.1.2, hc.2⟩ ?_
            cases rx; cases ru; exact ⟨_, rfl⟩
          · cases hz
        · cases hz
      | lst ys =>
        simp only at hz
        split at hz
        · rename_i q hq
          split at hz
          · rename_i hc
            cases hz
            simp only [Bool.and_eq_true, Bool.not_eq_true', decide_eq_true_eq] at hc
            refine big q ⟨_, hq, hz0, rfl, hc.1.1.1, hc.1.1.2, hc.1.2, hc.2⟩ ?_
            cases rx; cases ru; exact ⟨_, rfl⟩
          · cases hz
        · cases hz
      | dic ks vs =>
        simp only at hz
        split at hz
        · rename_i q hq
          split at hz
          · rename_i hc
            cases hz
            simp only [Bool.and_eq_true, decide_eq_true_eq] at hc
            unfold pyD at hq
            split at hq
            · rename_i k i e
              cases e
              cases hq
              cases rx with
              | @dic a' _ vs' _ h1 h2 h3 h4 =>
                cases ru
                obtain ⟨v1, rfl, r1⟩ := h4.one_of
                cases r1
                obtain ⟨_, sm, us', rV, ⟨o, es, ep, g1, g2, g3, _, g5, _⟩⟩ := (show ObjOk X.prog X.w ω.H s.heap a' (.dK ([(.inr k, V.int i)])) from I.hok a' _ h1)
                have rV' : KV [((.inr k : Key), V.int i)] us' := rV
                obtain ⟨u1, hu1, ru1⟩ : ∃ u1, us' = [(.inr k, u1)] ∧ RelV (V.int i) u1 := by
                  cases rV' with
                  | cons h t =>
                    cases t
                    exact ⟨_, by rw [show (Sum.inr k : Key) = _ from h.1], h.2⟩
                subst hu1
                obtain ⟨t, rfl⟩ := ru1
                have hk : ∃ e1, es.toList = [e1] ∧ keyIs (.inr k) e1.key = true ∧ e1.val = .int i t := by
                  generalize es.toList = l at g5
                  cases g5 with
                  | cons p1 p2 p3 => cases p3; exact ⟨_, rfl, p1, p2⟩
                obtain ⟨e1, q1, q2, q3⟩ := hk
                rcases keyIs_shape q2 with ⟨_, _, z, _⟩ | ⟨y, tk, z, q4⟩
                · cases z
                · cases z
                  have rd' : Reads s.heap (.ref a') (.dict [(.str k, .int i)]) (a' :: [] ++ []) := .dict g1 g2.1 g3 (by
                      rw [q1]; show ReadsAll _ [e1.key] _ _; rw [q4]; exact .cons (.str k tk) .nil) (by rw [q1]; show ReadsAll _ [e1.val] _ _; rw [q3]; exact .cons (.int i t) .nil)
                  rw [hz0] at p
                  refine str_of_reads rd' hc.1.1 (fun _ hm => ?_) hg (by have := hc.2; omega) (fun _ _ e => e) (fun h' u' tk hk => ⟨.str _, ω.H, I.un (Un.kept hk) (I.hok.kept hk), ⟨_, rfl⟩, p.same ok (.str _)⟩) hc.1.2
                  have : sysModules = a' := by simpa using hm
                  rw [← this] at sm
                  simp at sm
            · cases hq
          · cases hz
        · cases hz
      | fls _ => cases hz
      | ref _ => cases hz
      | exc _ _ => cases hz
      | exc0 _ => cases hz
      | fn _ => cases hz
  · exact p.elim
end
end MI

set_option Elab.async false
set_option linter.all false
set_option maxRecDepth 100000
set_option maxHeartbeats 4000000
/-! MI38: the law's own def, called where nothing is being shown. -/
namespace MI
open PySem PySem.Spec L2
open PyProof.Rows hiding St
theorem noErr_shw (ds : List D) (S : Store) : NoErr (match ds with
    | [d] => (match shwD d with
      | some x => (R.ok (.str x) S : R D)
      | none => .bad)
    | _ => .bad) := by
  split
  · split
    · exact noErr_ok _ _
    · exact noErr_bad
  · exact noErr_bad
def strA (Fs : FA) : FE := fun σ S => (Fs σ S).bind fun ds S => match ds with
    | [d] => (match shwD d with
      | some x => .ok (.str x) S
      | none => .bad)
    | _ => .bad
theorem k_strX {X : Cx} {fld : Str → Option Str} {W : WX} {a : Expr} {pos p : Pos} {Fs : FA} (hq : X.A.guards = some []) (hu : X.A.units + 64 < cLine) (pa : Plain a) (ha : DA X fld W [a] Fs) (hm : X.mg "str" = none) (hg : Gl X "str" := by rfl) :
    DE X fld W (.Call (.Name "str" p) [a] [] pos) (strA Fs) :=
  de_ty noErr_shw (callD_strX hq hu) hg hm (by decide +kernel) (by decide) (by decide) (plain_all1 pa) ha
/-- what a def promises where the claim calls it -/
def RunA (P : Program) (w : World) (K : PySem.W.Frag) (mg : Str → Option Value) (base : Heap) (f : Addr) (fd : FuncData) (ps : List Str) (sp : Sp) : Prop :=
  ∀ (s : Shared) (H : Hp) (args : Args) (us : List Value) (vs : List V) (Q : VK) (E : XK), Env0 P w K mg base callerA [] s H → BindsTo s fd args (ps.zip us) → Vals vs us → sp vs H Q E →
    codeAny (model P w) callerA (.call (.ref f) args) (CR (L2.CX P w) [] P w H s Q E) s
section
variable {P : Program} {w : World} {K : PySem.W.Frag} {mg : Str → Option Value} {base : Heap} {fld : Str → Option Str}
theorem runA_D {x qual : Str} {st : Stmt} {f : Addr} {fd : FuncData} {N ps : List Str} {k : Nat} {G : FS} (Fn : Fun K x qual st f fd) (Sc : FnScope N ps (defScope st)) (hk : Room (k + 1) callerA)
    (hbody : ∀ (cdv : Value) (s : Shared) (H : Hp) (E : XK), Room k (callerA.deeper (envOfC qual (defScope st) s.heap.objs.size f cdv)) →
      DB (cxOf (L2.CX P w) P w K mg base N qual (defScope st) f cdv callerA [] s H E) fld (fun cls d _ H => E cls d H) (defBody st) G) :
    RunA P w K mg base f fd ps (spD K mg fld ps.length fun ds S => finish (G (startD N.length ds) S)) := by
  intro s H args us vs Q E e0 hb r hsp
  obtain ⟨hlen, ω, ds, eH, ok, rl, p⟩ := hsp
  obtain ⟨oc, od, kV, doc, pm, an, cdv, ct, osl, rfl, lk, hcd⟩ := Fn.ex
  have KX : K.In s.heap := e0.mod.kin.keeps fun b o e => (e0.bs b o e).1
  have lim : s.heap.NoLimit := e0.mod.nolimit.keeps fun b o e => (e0.bs b o e).1
  have kinds : ∀ y ∈ ps.zip us, (defScope st).names.lookup y.1 = some .local ∨ ((defScope st).names.lookup y.1 = some .cell ∧ ((cellsFrom (s.heap.objs.size + 1) (defScope st).names []).lookup y.1).isSome = true) := fun y hy =>
    (Sc.par y.1 (List.of_mem_zip (a := y.1) (b := y.2) hy).1).elim .inl fun q => .inr ⟨q, PySem.W.cellsFrom_some _ _ _ (.inl q)⟩
  refine codeAny_call_function hk.depth (KX _ _ lk) rfl Sc.co Sc.gen rfl (PySem.W.codeRec_of KX hcd) (hb _ _ _ _ ?_)
  refine wpAny_newFunctionEnv_cells Sc.kind kinds fun env he s1 x => ?_
  subst he
  refine ⟨lim.keeps x.toInCall.keep, codeAny_func ?_⟩
  have I : Inv (cxOf (L2.CX P w) P w K mg base N qual (defScope st) f cdv callerA [] s H E) [] (start N vs) H s1 := inv_start Sc hk.hd e0 hlen r x
  refine wpAny_mono ((hbody cdv s H E (hk.deeper _)).run [] s1 (start N vs) H { nx := fun _ H' => Q .non H', rt := Q } I ⟨ω, startD N.length ds, eH, ok, .start rl, ?_⟩) (fun fl s' hs => ?_) fun e s' hs => hs
  · cases hG : G (startD N.length ds) ω.S with
    | nx σd S' =>
      simp only [hG, finish_nx] at p
      exact fun ω' σ e1 e2 e3 er => p ω' e1 e2 e3 _ .non
    | ret d S' =>
      simp only [hG, finish_ret] at p
      exact fun ω' v e1 e2 e3 r => p ω' e1 e2 e3 v r
    | err y σd S' =>
      simp only [hG, finish_err] at p
      exact fun ω' σ e1 e2 e3 er cls dd hx => p ω' e1 e2 e3 cls dd hx
    | brk σd S' => simp only [hG] at p; exact p.elim
    | ct σd S' => simp only [hG] at p; exact p.elim
    | bad => simp only [hG] at p; exact p.elim
  · cases fl with
    | ret u =>
      obtain ⟨v, σ', H', J, rv, q⟩ := hs
      exact ⟨v, H', J.os, J.bare, J.base, J.hok, rv, q⟩
    | next =>
      obtain ⟨σ', H', J, q⟩ := hs
      exact ⟨.non, H', J.os, J.bare, J.base, J.hok, rfl, q⟩
    | brk =>
      obtain ⟨_, _, _, q⟩ := hs
      exact False.elim q
    | cont =>
      obtain ⟨_, _, _, q⟩ := hs
      exact False.elim q
theorem lawA_by {x : Str} {fa : Addr} {fd : FuncData} {g : List D → Store → R D} (F : RunA P w K mg base fa fd [x] (spD K mg fld 1 g))
    (h : ∀ ns : List Int, ns.length ≤ 63 → ∀ d, (d = .lst (ns.map D.int) ∨ d = .fls (ns.map D.int)) → ∃ S, g [d] [] = .ok (.bl true) S) : RunA P w K mg base fa fd [x] (spLaw K) := by
  intro s H args us vs Q E e0 hb r ⟨a, ns, e, hS, hl, q⟩
  refine F s H args us vs Q E e0 hb r ?_
  subst e
  have ok : Ok K mg fld ⟨fun _ => 0, [], H, fun _ => False⟩ := ⟨fun n c z => (by cases n <;> cases z), fun i j z => (by cases z), fun a z => False.elim z⟩
  have cl : Wd.clear ⟨fun _ => 0, [], H, fun _ => False⟩ a := ⟨fun n z => (by cases z), fun z => z⟩
  obtain ⟨d, hd, r⟩ : ∃ d, (d = .lst (ns.map D.int) ∨ d = .fls (ns.map D.int)) ∧ Rep K mg fld ⟨fun _ => 0, [], H, fun _ => False⟩ (.ref a) d := by
    rcases hS with (hS | ⟨o, hS⟩) | hS
    · exact ⟨_, .inl rfl, .lst hS cl (repInts ns)⟩
    · exact ⟨_, .inr rfl, .fls (.inl ⟨o, hS⟩) (repInts ns)⟩
    · exact ⟨_, .inr rfl, .fls (.inr hS) (repInts ns)⟩
  obtain ⟨S, hg⟩ := h ns hl d hd
  refine ⟨rfl, _, [d], rfl, ok, .cons r .nil, ?_⟩
  show Post K mg fld (Rep K mg fld) _ [] _ (g [d] []) Q
  rw [hg]
  intro ω' _ _ _ v rv
  cases rv
  exact q _
end
/-- the law's promise where the claim calls it -/
theorem lawA_call {P : Program} {w : World} {K : PySem.W.Frag} {mg mb : Str → Option Value} {fa a : Addr} {fd : FuncData} {x : Str} {s1 : Shared} {vs : List Value} {ns : List Int}
    (KX : K.In s1.heap) (hns : s1.heap.Ns mainGlobals mg) (hb : s1.heap.Ns builtinsNs mb) (hbb : ∀ x : Str, x ≠ "__name__" → mb x = bootBuiltins x) (hlim : s1.heap.NoLimit) (hg : s1.gens = #[])
    (ha : s1.heap.get? a = some { cls := .type "list", data := .seq vs.toArray }) (hi : IntsAre vs ns) (hl : ns.length ≤ 63)
    (F : ∀ base : Heap, K.In base → base.Ns mainGlobals mg → RunA P w K mg base fa fd [x] (spLaw K)) (hbind : ∀ (s : Shared) (u : Value), BindsTo s fd ⟨[u], []⟩ [(x, u)]) :
    codeAny (model P w) callerA (.call (.ref fa) ⟨[.ref a], []⟩) (fun r s' => r = .ok (.ret (.bool true)) ∧ OldK s1.heap s'.heap ∧ s'.os = s1.os ∧ AllBare s'.gens) s1 := by
  have rv := vals_ints hi
  have lv := hi.length
  have hz : ns.length ≤ sizeLine := Nat.le_trans hl (by decide)
  -- H tracks the script, or nothing
  have core : ∀ H : Hp, (∀ b u, H b = some u → b = a ∧ ∃ o xs, u = .frz o (.lst xs)) → (H a ≠ none → K.lookup a = none) → SqL K H a (ns.map V.int) → HOk P w H s1.heap →
      codeAny (model P w) callerA (.call (.ref fa) ⟨[.ref a], []⟩) (fun r s' => r = .ok (.ret (.bool true)) ∧ OldK s1.heap s'.heap ∧ s'.os = s1.os ∧ AllBare s'.gens) s1 := by
    intro H only kfree hS hok
    have gone : ∀ {b : Addr} {o : Obj}, s1.heap.get? b = some o → b ≠ a ∨ H a = none → H b = none := fun {b o} e c => by
      cases q : H b with
      | none => rfl
      | some u =>
        have e2 := (only b u q).1
        rcases c with c | c
        · exact absurd e2 c
        · rw [e2, c] at q; cases q
    have lst : ∀ {o : Obj}, s1.heap.get? a = some o → ∀ es ep, o.data ≠ .dict es ep := fun {o} e es ep z => by
      rw [ha] at e; cases e; cases z
    have nsB : ∀ {b : Addr} {m : Str → Option Value}, s1.heap.Ns b m → (hidT s1.heap H).Ns b m := fun {b m} ⟨o, es, ep, e, d, r⟩ =>
      ⟨o, es, ep, hidT_get e (gone e (.inl fun z => by subst z; exact lst e es ep d)), d, r⟩
    have kB : K.In (hidT s1.heap H) := fun b o e => hidT_get (KX b o e) (gone (KX b o e) (by
      by_cases hba : b = a
      · right
        cases q : H a with
        | none => rfl
        | some u =>
          have z := kfree (by rw [q]; simp)
          rw [hba] at e
          rw [z] at e; cases e
      · exact .inl hba))
    have hM : Mod K mg (hidT s1.heap H) := ⟨kB, nsB hns, ⟨mb, nsB hb, hbb⟩, let ⟨mc, h1, h2⟩ := hlim; ⟨mc, nsB h1, h2⟩⟩
    have e0 : Env0 P w K mg (hidT s1.heap H) callerA [] s1 H := ⟨rfl, hM, fun b o e => of_hidT e, Nat.le_of_eq (hidT_size _ _), trivial, fun b hb => absurd (show b ∈ ([] : List Addr) from hb) (by simp), hok, .of_eq hg⟩
    refine codeAny_mono (F _ kB (nsB hns) s1 H ⟨[.ref a], []⟩ [.ref a] [.ref a] (fun v _ => v = .bl true) (fun _ _ _ => False) e0 (hbind s1 (.ref a)) (.cons rfl .nil) ⟨a, ns, rfl, hS, hl, fun _ => rfl⟩) fun r s' h => ?_
    cases r with
    | error e =>
      obtain ⟨_, _, _, _, _, _, _, _, _, _, _, _, z⟩ := h
      exact z.elim
    | ok fl =>
      cases fl with
      | next => exact False.elim h
      | brk => exact False.elim h
      | cont => exact False.elim h
      | ret u =>
        obtain ⟨v, H', os, bare, un, hok', r', q⟩ := h
        have q' : v = .bl true := q
        subst q'
        obtain rfl : u = Value.bool true := r'
        refine ⟨rfl, OldK.of_keep fun b o e => ?_, os, bare⟩
        cases q : H b with
        | none => exact un.keep b o e q (by intro z; exact absurd (show b ∈ ([] : List Addr) from z) (by simp)) (by simp)
        | some u =>
          obtain ⟨_, ob, xs, rfl⟩ := only b u q
          obtain ⟨e1, _⟩ := hok b _ q
          obtain ⟨e2, _⟩ := hok' b _ (un.frzs b ob _ q)
          rw [e] at e1; cases e1
          exact e2
  cases hk : K.lookup a with
  | some o =>
    have e := KX a o hk
    rw [ha] at e
    cases e
    exact core (fun _ => none) (fun b u z => (nomatch z)) (fun z => absurd rfl z) (.inr ⟨_, vs.toArray, _, hk, rfl, rfl, rfl, by rw [List.size_toArray, lv]; exact hz, by simpa using rv⟩) (fun b u z => (nomatch z))
  | none =>
    refine core (fun b => if b = a then some (.frz { cls := .type "list", data := .seq vs.toArray } (.lst (ns.map V.int))) else none) (fun b u z => ?_) (fun _ => hk) (.inl (.inr ⟨{ cls := .type "list", data := .seq vs.toArray }, if_pos rfl⟩)) (fun b u z => ?_)
    · by_cases h : b = a
      · have z' := (if_pos h).symm.trans z
        cases z'
        exact ⟨h, _, _, rfl⟩
      · have z' := (if_neg h).symm.trans z
        cases z'
    · by_cases h : b = a
      · have z' := (if_pos h).symm.trans z
        cases z'
        subst h
        exact ⟨ha, by rw [List.length_map]; exact hz, vs, _, rv, ha⟩
      · have z' := (if_neg h).symm.trans z
        cases z'
theorem lawA_walk {l : PySem.W.OpenLaw} {q : Program} {loose : List Str} {XP : (Str → Option Value) → Heap → Prop} {YP : World → Heap → Prop} {d : DefRec} {K : Params → PySem.W.Frag} {x : Str} (hn : l.most = some 63) (hdf : d.params.defaults = [])
    (hY : ∀ (w : World) (h : Heap), YP w h → (K w.params).In h)
    (F : ∀ (w : World) (mg : Str → Option Value) (fa : Addr) (h : Heap), (K w.params).In h → h.Ns mainGlobals mg → mg d.name = some (.ref fa) →
      ∃ fd : FuncData, (∀ (s : Shared) (u : Value), BindsTo s fd ⟨[u], []⟩ [(x, u)]) ∧ ∀ base : Heap, (K w.params).In base → base.Ns mainGlobals mg → RunA l.prog w (K w.params) mg base fa fd [x] (spLaw (K w.params))) :
    PySem.W.WalkO q loose XP YP l.row.toRowW d [] (fun f vs => PySem.call f vs) := by
  refine Att.attach_call hn hdf fun w s0 s1 mg mb fa o pm cd doc a vs ns G Y ho hd hcd hmg hobj hints hlen hg => ?_
  have KX := hY w _ Y
  obtain ⟨fd, hb, hF⟩ := F w mg fa _ KX G.T.g hmg
  exact lawA_call KX G.T.g G.T.b G.T.builtins G.T.nolimit hg hobj hints hlen hF hb
end MI

set_option Elab.async false
set_option linter.all false
set_option maxRecDepth 100000
set_option maxHeartbeats 4000000
/-! MI39: calls without arguments; many own error classes told apart. -/
namespace MI
open PySem PySem.Spec L2
open PyProof.Rows hiding St
section
variable {X : Cx} {fld : Str → Option Str} {W : WX} {pos p : Pos}
theorem k_cal0 {x : Str} {k : Nat} {g : List D → Store → R D} (tk : Takes X W) (cl : Cal X.prog X.w X.K X.mg X.base fld k x [] g) (hr : Room k X.A) (hdb : (x == ("__debug__" : Str)) = false := by decide) (hg : Gl X x := by rfl) :
    DE X fld W (.Call (.Name x p) [] [] pos) (fnF g nilA) := by
  obtain ⟨f, fd, hm, hk, hb, _, Fn⟩ := cl
  refine ⟨fun pins s σ H Q I ⟨ω, σd, e0, ok, er, post⟩ => ?_⟩
  subst e0
  have post : Post X.K X.mg fld (Rep X.K X.mg fld) W σ ω (g [] ω.S) Q := post
  refine wpAny_Call_Name_kw (ld_glob I hg hm ?_ hdb)
  refine PySem.W.callWith_K0 I.kIn hk ?_
  refine run_fnS (us := []) (vs := []) (E := fun σ => WE W σ) Fn hr hb (passAt tk σ) I .nil ⟨rfl, ω, [], rfl, ok, .nil, ?_⟩
  cases hG : g [] ω.S with
  | ok d S2 => rw [hG] at post; exact post
  | err y S2 => rw [hG] at post; exact post
  | bad => rw [hG] at post; exact post.elim
end
theorem plain_call0 {x : Str} {p q : Pos} (h : (x != ("super" : Str)) = true := by decide) : Plain (.Call (.Name x p) [] [] q) := ⟨fun _ _ => rfl, fun a env => by
  unfold attributeBase
  simp only [h, Bool.true_or, if_true]⟩
/-- the answers to isinstance, of the own classes cs with the base b and ValueError -/
def subC (cs : List Str) (b t u : Str) : Option Bool :=
  if t ∈ cs then (if u = b ∨ u = "ValueError" then some true else if u ∈ cs then some (t == u) else none) else none
def kitAll (K : PySem.W.Frag) (B : Addr) (cs : List (Str × Addr)) : Bool :=
  cs.all fun p => PySem.W.kitOne K (.ref p.2) (.ref B) == some true && PySem.W.kitOne K (.ref p.2) (.type "ValueError") == some true && cs.all fun q => PySem.W.kitOne K (.ref p.2) (.ref q.2) == some (p.1 == q.1)
theorem gs_cls {K : PySem.W.Frag} {mg : Str → Option Value} {cs : List (Str × Addr)} {b : Str} {B : Addr} (hk : kitAll K B cs = true) (hm : ∀ p ∈ cs, mg p.1 = some (.ref p.2)) (he : ∀ p ∈ cs, ExcC K p.2) (hb : mg b = some (.ref B)) (hv : mg "ValueError" = none)
    (hbase : ∀ t ∈ (["NoneType", "bool", "int", "str", "tuple", "list", "dict"] : List Str), mg t = none) : GsOk K mg ⟨subC (cs.map (·.1)) b⟩ := by
  have key : ∀ t, t ∈ cs.map (·.1) → ∃ C, (t, C) ∈ cs := fun t ht => by
    obtain ⟨p, hp, rfl⟩ := List.mem_map.mp ht
    exact ⟨p.2, hp⟩
  have all := List.all_eq_true.mp hk
  refine ⟨fun c u r h => ?_, fun c u r D h q => ?_, hbase⟩
  · have h : subC (cs.map (·.1)) b c u = some r := h
    unfold subC at h
    split at h
    · rename_i hc
      obtain ⟨C, hC⟩ := key _ hc
      have a1 := all _ hC
      simp only [Bool.and_eq_true, beq_iff_eq] at a1
      have e1 : clsVal mg c = .ref C := by unfold clsVal; rw [hm _ hC]; rfl
      rw [e1]
      split at h
      · rename_i hu
        cases h
        rcases hu with rfl | rfl
        · rw [show clsVal mg u = .ref B from by unfold clsVal; rw [hb]; rfl]; exact a1.1.1
        · rw [show clsVal mg "ValueError" = .type "ValueError" from by unfold clsVal; rw [hv]; rfl]; exact a1.1.2
      · split at h
        · rename_i hu
          cases h
          obtain ⟨U, hU⟩ := key _ hu
          have a2 := List.all_eq_true.mp a1.2 _ hU
          rw [show clsVal mg u = .ref U from by unfold clsVal; rw [hm _ hU]; rfl]
          exact beq_iff_eq.mp a2
        · cases h
    · cases h
  · have h : subC (cs.map (·.1)) b c u = some r := h
    unfold subC at h
    split at h
    · rename_i hc
      obtain ⟨C, hC⟩ := key _ hc
      have e1 := (hm _ hC).symm.trans q
      cases e1
      exact he _ hC
    · cases h
end MI

set_option Elab.async false
set_option linter.all false
set_option maxRecDepth 100000
set_option maxHeartbeats 4000000
/-! MI41: long lists of facts. -/
namespace MI
open PySem PySem.Spec L2
open PyProof.Rows hiding St
theorem all_n {α : Type} {P : α → Prop} : ∀ p ∈ ([] : List α), P p := fun p h => by cases h
theorem all_c {α : Type} {P : α → Prop} {a : α} {l : List α} (h : P a) (t : ∀ p ∈ l, P p) : ∀ p ∈ a :: l, P p := fun p hp => by
  cases hp with
  | head => exact h
  | tail _ q => exact t p q
def fldOf : List (Str × Str) → Str → Option Str
  | [], _ => none
  | x :: r, c => if c = x.1 then some x.2 else fldOf r c
theorem fldOf_mem : ∀ (l : List (Str × Str)) {c f : Str}, fldOf l c = some f → (c, f) ∈ l
  | [], _, _, h => by cases h
  | x :: r, c, f, h => by
    have h' : (if c = x.1 then some x.2 else fldOf r c) = some f := h
    split at h'
    · rename_i e
      cases h'
      rw [e]
      exact List.mem_cons_self
    · exact List.mem_cons_of_mem _ (fldOf_mem r h')
theorem attc_of {K : PySem.W.Frag} {mg : Str → Option Value} {l : List (Str × Str)} (h : ∀ p ∈ l, ∃ C, mg p.1 = some (.ref C) ∧ XfC K C ∧ PySem.W.findIn K (.ref C) p.2 = some none) (f : Str) : AttC K mg (fldOf l) f := fun c C h1 h2 => by
  obtain ⟨C', e, q1, q2⟩ := h _ (fldOf_mem l h1)
  have e' := h2.symm.trans e
  cases e'
  exact ⟨q1, q2⟩
end MI

set_option Elab.async false
set_option linter.all false
/-! W1: what holds behind an expression, a statement: rules to go through a body step by step. -/
namespace MI
open PySem

/-- Q behind a value, E behind an error -/
inductive R.w {α : Type} : R α → (D → Store → Prop) → (α → Store → Prop) → Prop where
  | ok {a : α} {S : Store} {E : D → Store → Prop} {Q : α → Store → Prop} : Q a S → R.w (.ok a S) E Q
  | err {x : D} {S : Store} {E : D → Store → Prop} {Q : α → Store → Prop} : E x S → R.w (.err x S) E Q
/-- N where it goes on, T of any other end -/
inductive O.w : O → (Env → Store → Prop) → (O → Prop) → Prop where
  | nx {σ : Env} {S : Store} {N : Env → Store → Prop} {T : O → Prop} : N σ S → O.w (.nx σ S) N T
  | ret {d : D} {S : Store} {N : Env → Store → Prop} {T : O → Prop} : T (.ret d S) → O.w (.ret d S) N T
  | brk {σ : Env} {S : Store} {N : Env → Store → Prop} {T : O → Prop} : T (.brk σ S) → O.w (.brk σ S) N T
  | ct {σ : Env} {S : Store} {N : Env → Store → Prop} {T : O → Prop} : T (.ct σ S) → O.w (.ct σ S) N T
  | err {x : D} {σ : Env} {S : Store} {N : Env → Store → Prop} {T : O → Prop} : T (.err x σ S) → O.w (.err x σ S) N T
abbrev noErr : D → Store → Prop := fun _ _ => False
/-- the ends of a def -/
def Fin (E : D → Store → Prop) (Q : D → Store → Prop) : O → Prop := fun o => match o with
  | .ret d S => Q d S
  | .err x _ S => E x S
  | _ => False
/-- the ends of a turn -/
def Turn (N : Env → Store → Prop) (B : Env → Store → Prop) (T : O → Prop) : O → Prop := fun o => match o with
  | .ct σ S => N σ S
  | .brk σ S => B σ S
  | o => T o

section
variable {α β : Type} {E E' : D → Store → Prop} {Q Q' : α → Store → Prop} {N N' : Env → Store → Prop} {T T' : O → Prop} {σ : Env} {S : Store}
theorem R.w.mono {r : R α} (h : r.w E Q) (hq : ∀ a S, Q a S → Q' a S) (he : ∀ x S, E x S → E' x S) : r.w E' Q' := by
  cases h with
  | ok h => exact .ok (hq _ _ h)
  | err h => exact .err (he _ _ h)
/-- a call that makes no error -/
theorem R.w.imp {r : R α} (h : r.w noErr Q) (hq : ∀ a S, Q a S → Q' a S) : r.w E' Q' := h.mono hq fun _ _ z => z.elim
theorem R.w_of {r : R α} {a : α} (h : r = .ok a S) (q : Q a S) : r.w E Q := by rw [h]; exact .ok q
theorem R.w_err {r : R α} {x : D} (h : r = .err x S) (q : E x S) : r.w E Q := by rw [h]; exact .err q
theorem R.w.get {r : R α} (h : r.w noErr Q) : ∃ a S, r = .ok a S ∧ Q a S := by
  cases h with
  | ok h => exact ⟨_, _, rfl, h⟩
  | err h => exact h.elim
theorem w_bind {r : R α} {f : α → Store → R β} {Q : β → Store → Prop} (h : r.w E fun a S => (f a S).w E Q) : (r.bind f).w E Q := by
  cases h with
  | ok h => exact h
  | err h => exact .err h
theorem O.w.mono {o : O} (h : o.w N T) (hn : ∀ σ S, N σ S → N' σ S) (ht : ∀ o, T o → T' o) : o.w N' T' := by
  cases h with
  | nx h => exact .nx (hn _ _ h)
  | ret h => exact .ret (ht _ h)
  | brk h => exact .brk (ht _ h)
  | ct h => exact .ct (ht _ h)
  | err h => exact .err (ht _ h)
theorem w_fin {o : O} {Q : D → Store → Prop} (h : o.w (fun _ S => Q .non S) (Fin E Q)) : (finish o).w E Q := by
  cases h with
  | nx h => exact .ok h
  | ret h => exact .ok h
  | brk h => exact h.elim
  | ct h => exact h.elim
  | err h => exact .err h
theorem fin_ret {Q : D → Store → Prop} {d : D} (h : Q d S) : Fin E Q (.ret d S) := h
theorem fin_err {Q : D → Store → Prop} {x : D} (h : E x S) : Fin E Q (.err x σ S) := h
theorem w_thn {r : R α} {f : α → Store → O} (h : r.w (fun x S => T (.err x σ S)) fun a S => (f a S).w N T) : (r.thn σ f).w N T := by
  cases h with
  | ok h => exact h
  | err h => exact .err h
/-! statements -/
theorem w_seq {f g : FS} (h : (f σ S).w (fun σ S => (g σ S).w N T) T) : (seqS f g σ S).w N T := by
  unfold seqS
  generalize f σ S = o at h
  cases h with
  | nx h => exact h
  | ret h => exact .ret h
  | brk h => exact .brk h
  | ct h => exact .ct h
  | err h => exact .err h
theorem w_nx (h : N σ S) : (nxS σ S).w N T := .nx h
theorem w_ct (h : T (.ct σ S)) : (ctS σ S).w N T := .ct h
theorem w_br (h : T (.brk σ S)) : (brS σ S).w N T := .brk h
theorem w_rtN (h : T (.ret .non S)) : (rtN σ S).w N T := .ret h
theorem w_ret {F : FE} (h : (F σ S).w (fun x S => T (.err x σ S)) fun d S => T (.ret d S)) : (retS F σ S).w N T := w_thn (h.mono (fun _ _ q => .ret q) fun _ _ q => q)
theorem w_set {i : Nat} {F : FE} (h : (F σ S).w (fun x S => T (.err x σ S)) fun d S => N (σ.set i (some d)) S) : (setS i F σ S).w N T := w_thn (h.mono (fun _ _ q => .nx q) fun _ _ q => q)
theorem w_expr {F : FE} (h : (F σ S).w (fun x S => T (.err x σ S)) fun _ S => N σ S) : (exprS F σ S).w N T := w_thn (h.mono (fun _ _ q => .nx q) fun _ _ q => q)
theorem w_if {c : FT} {f g : FS} (h : (c σ S).w (fun x S => T (.err x σ S)) fun b S => (if b = true then f σ S else g σ S).w N T) : (ifS c f g σ S).w N T := w_thn (h.mono (fun _ _ q => q) fun _ _ q => q)
theorem w_ite_t {f g : O} (h : f.w N T) : (if true = true then f else g).w N T := h
theorem w_ite_f {f g : O} (h : g.w N T) : (if false = true then f else g).w N T := h
theorem w_asg {F : FE} {Ft : Tg} (h : (F σ S).w (fun x S => T (.err x σ S)) fun d S => ∃ l, Ft d = some l ∧ N (putD l σ) S) : (asgS F Ft σ S).w N T := w_thn (h.mono (fun d S q => by
  obtain ⟨l, h1, h2⟩ := q
  rw [h1]; exact .nx h2) fun _ _ q => q)
theorem w_raise {x : Str} {F : FE} (h : (F σ S).w (fun x S => T (.err x σ S)) fun d S => T (.err (.exc x d) σ S)) : (raiseS x F σ S).w N T := w_thn (h.mono (fun _ _ q => .err q) fun _ _ q => q)
theorem w_aug {o : A2} {i : Nat} {F : FE} {d : D} (hd : σ[i]? = some (some d)) (h : (F σ S).w (fun x S => T (.err x σ S)) fun e S => (augD o d e S).w (fun x S => T (.err x σ S)) fun z S => N (σ.set i (some z)) S) : (augS o i F σ S).w N T := by
  unfold augS
  rw [hd]
  exact w_thn (h.mono (fun _ _ q => w_thn (q.mono (fun _ _ q => .nx q) fun _ _ q => q)) fun _ _ q => q)
theorem w_setSub {Fo Fi F : FE} (h : (F σ S).w (fun x S => T (.err x σ S)) fun v S => (Fo σ S).w (fun x S => T (.err x σ S)) fun d S => (Fi σ S).w (fun x S => T (.err x σ S)) fun j S => (setSubD d j v S).w (fun x S => T (.err x σ S)) fun _ S => N σ S) : (setSubS Fo Fi F σ S).w N T :=
  w_thn (h.mono (fun _ _ q => w_thn (q.mono (fun _ _ q => w_thn (q.mono (fun _ _ q => w_thn (q.mono (fun _ _ q => .nx q) fun _ _ q => q)) fun _ _ q => q)) fun _ _ q => q)) fun _ _ q => q)
/-! expressions -/
theorem w_var {Q : D → Store → Prop} {i : Nat} {d : D} (hd : σ[i]? = some (some d)) (q : Q d S) : (varD i σ S).w E Q := by
  unfold varD; rw [hd]; exact .ok q
theorem w_cst {Q : D → Store → Prop} {d : D} (q : Q d S) : (cstD d σ S).w E Q := .ok q
theorem w_bin {Q : D → Store → Prop} {g : D → D → Store → R D} {Fa Fb : FE} (h : (Fa σ S).w E fun d S => (Fb σ S).w E fun e S => (g d e S).w E Q) : (binD g Fa Fb σ S).w E Q := w_bind (h.mono (fun _ _ q => w_bind q) fun _ _ q => q)
theorem w_fn {Q : D → Store → Prop} {g : List D → Store → R D} {Fs : FA} (h : (Fs σ S).w E fun ds S => (g ds S).w E Q) : (fnF g Fs σ S).w E Q := w_bind h
theorem w_nilA {Q : List D → Store → Prop} (q : Q [] S) : (nilA σ S).w E Q := .ok q
theorem w_consA {Q : List D → Store → Prop} {F : FE} {Fs : FA} (h : (F σ S).w E fun d S => (Fs σ S).w E fun ds S => Q (d :: ds) S) : (consA F Fs σ S).w E Q := w_bind (h.mono (fun _ _ q => w_bind (q.mono (fun _ _ q => .ok q) fun _ _ q => q)) fun _ _ q => q)
theorem fit_ble {n : Nat} (h : Nat.ble n 100 = true) : fitL n = true := by
  have h1 : n ≤ 100 := Nat.le_of_ble_eq_true h
  have h2 : sizeLine = 16777216 := by decide
  unfold fitL
  rw [decide_eq_true_eq, h2]
  omega
theorem ble_len {n : Nat} {p : Prop} (h : Nat.ble n 100 = true) (q : p) : Nat.ble n 100 = true ∧ p := ⟨h, q⟩
theorem w_tup {Q : D → Store → Prop} {Fs : FA} (h : (Fs σ S).w E fun ds S => Nat.ble ds.length 100 = true ∧ Q (.tup ds) S) : (tupF Fs σ S).w E Q := w_bind (h.mono (fun ds S q => by rw [if_pos (fit_ble q.1)]; exact .ok q.2) fun _ _ q => q)
theorem w_lstF {Q : D → Store → Prop} {Fs : FA} (h : (Fs σ S).w E fun ds S => Nat.ble ds.length 100 = true ∧ Q (.lst ds) S) : (lstF false Fs σ S).w E Q := w_bind (h.mono (fun ds S q => by rw [if_pos (fit_ble q.1)]; exact .ok q.2) fun _ _ q => q)
theorem w_lstT {Q : D → Store → Prop} {Fs : FA} (h : (Fs σ S).w E fun ds S => Nat.ble ds.length 100 = true ∧ Q (.ref S.length) (S ++ [.lst ds])) : (lstF true Fs σ S).w E Q := w_bind (h.mono (fun ds S q => by rw [if_pos (fit_ble q.1)]; exact .ok q.2) fun _ _ q => q)
def tstQ (Q : Bool → Store → Prop) : D → Store → Prop := fun d S => match d with
  | .bl b => Q b S
  | _ => False
theorem tst_bl {Q : Bool → Store → Prop} {b : Bool} (q : Q b S) : tstQ Q (.bl b) S := q
theorem w_tst {Q : Bool → Store → Prop} {F : FE} (h : (F σ S).w E (tstQ Q)) : (tstF F σ S).w E Q := w_bind (h.mono (fun d S q => by
  cases d <;> first | exact .ok q | exact q.elim) fun _ _ q => q)
def truQ (Q : Bool → Store → Prop) : D → Store → Prop := fun d S => match truD S d with
  | some b => Q b S
  | none => False
theorem tru_bl {Q : Bool → Store → Prop} {b : Bool} (q : Q b S) : truQ Q (.bl b) S := q
theorem w_tru {Q : Bool → Store → Prop} {F : FE} (h : (F σ S).w E (truQ Q)) : (truT F σ S).w E Q := w_bind (h.mono (fun d S q => by
  unfold truQ at q
  cases hd : truD S d with
  | none => rw [hd] at q; exact q.elim
  | some b => rw [hd] at q; exact .ok q) fun _ _ q => q)
theorem w_not {Q : Bool → Store → Prop} {F : FT} (h : (F σ S).w E fun b S => Q (!b) S) : (notF F σ S).w E Q := w_bind (h.mono (fun _ _ q => .ok q) fun _ _ q => q)
theorem w_andF {Q : Bool → Store → Prop} {F G : FT} (h : (F σ S).w E fun b S => (if b = true then G σ S else .ok false S).w E Q) : (andF F G σ S).w E Q := w_bind h
theorem w_orF {Q : Bool → Store → Prop} {F G : FT} (h : (F σ S).w E fun b S => (if b = true then .ok true S else G σ S).w E Q) : (orF F G σ S).w E Q := w_bind h
theorem w_pt {p q : Prop} (h : p) : if true = true then p else q := h
theorem w_pf {p q : Prop} (h : q) : if false = true then p else q := h
theorem w_iteT {r1 r2 : R α} (h : r1.w E Q) : (if true = true then r1 else r2).w E Q := h
theorem w_iteF {r1 r2 : R α} (h : r2.w E Q) : (if false = true then r1 else r2).w E Q := h
theorem w_ok {a : α} (h : Q a S) : (R.ok a S).w E Q := .ok h
def blQ (Q : D → Store → Prop) (k : Bool → Store → Prop) : D → Store → Prop := fun d S => match d with
  | .bl b => k b S
  | _ => False
theorem bl_bl {Q : D → Store → Prop} {k : Bool → Store → Prop} {b : Bool} (q : k b S) : blQ Q k (.bl b) S := q
theorem w_andV {Q : D → Store → Prop} {F G : FE} (h : (F σ S).w E (blQ Q fun b S => (if b = true then G σ S else .ok (.bl false) S).w E Q)) : (andV F G σ S).w E Q := w_bind (h.mono (fun d S q => by
  cases d <;> first | exact q | exact q.elim) fun _ _ q => q)
theorem w_orV {Q : D → Store → Prop} {F G : FE} (h : (F σ S).w E (blQ Q fun b S => (if b = true then .ok (.bl true) S else G σ S).w E Q)) : (orV F G σ S).w E Q := w_bind (h.mono (fun d S q => by
  cases d <;> first | exact q | exact q.elim) fun _ _ q => q)
theorem w_iteV {Q : D → Store → Prop} {c : FT} {F G : FE} (h : (c σ S).w E fun b S => (if b = true then F σ S else G σ S).w E Q) : (iteV c F G σ S).w E Q := w_bind h
theorem w_noO {Q : Option Int → Store → Prop} (q : Q none S) : (noO σ S).w E Q := .ok q
def intQ (Q : Option Int → Store → Prop) : D → Store → Prop := fun d S => match d with
  | .int i => Q (some i) S
  | _ => False
theorem int_int {Q : Option Int → Store → Prop} {i : Int} (q : Q (some i) S) : intQ Q (.int i) S := q
theorem w_soO {Q : Option Int → Store → Prop} {F : FE} (h : (F σ S).w E (intQ Q)) : (soO F σ S).w E Q := w_bind (h.mono (fun d S q => by
  cases d <;> first | exact .ok q | exact q.elim) fun _ _ q => q)
theorem w_sl {Q : D → Store → Prop} {m : Bool} {Fa : FE} {Fl Fh : FO} (h : (Fa σ S).w E fun d S => (Fl σ S).w E fun l S => (Fh σ S).w E fun k S => (slcD m d l k S).w E Q) : (slF m Fa Fl Fh σ S).w E Q := w_bind (h.mono (fun _ _ q => w_bind (q.mono (fun _ _ q => w_bind q) fun _ _ q => q)) fun _ _ q => q)
theorem w_rv {Q : D → Store → Prop} {m : Bool} {Fa : FE} (h : (Fa σ S).w E fun d S => (revD m d S).w E Q) : (rvF m Fa σ S).w E Q := w_bind h
theorem w_is {Q : D → Store → Prop} {G : Gs} {u : Str} {Fa : FE} (h : (Fa σ S).w E fun d S => (biD G (.isTy [u]) false [d] S).w E Q) : (isF G u Fa σ S).w E Q := w_bind h
theorem w_mt0 {Q : D → Store → Prop} {Ty : String} {g : D → List D → Store → R D} {Fo : FE} (h : (Fo σ S).w E fun d S => tyD Ty d S = true ∧ (g d [] S).w E Q) : (mt0 Ty g Fo σ S).w E Q := w_bind (h.mono (fun d S q => by rw [if_pos q.1]; exact q.2) fun _ _ q => q)
theorem w_mt1 {Q : D → Store → Prop} {Ty : String} {g : D → List D → Store → R D} {Fo : FE} {Fs : FA} (h : (Fo σ S).w E fun d S => tyD Ty d S = true ∧ (Fs σ S).w E fun ds S => (g d ds S).w E Q) : (mt1 Ty g Fo Fs σ S).w E Q := w_bind (h.mono (fun d S q => by rw [if_pos q.1]; exact w_bind q.2) fun _ _ q => q)
theorem w_att {Q : D → Store → Prop} {fld : Str → Option Str} {f c : Str} {v : D} {F : FE} (h : (F σ S).w E fun d S => d = .exc c v ∧ fld c = some f ∧ Q v S) : (attF fld f F σ S).w E Q := w_bind (h.mono (fun d S q => by
  obtain ⟨rfl, h1, h2⟩ := q
  show (if fld c = some f then R.ok v S else .bad).w E Q
  rw [if_pos h1]; exact .ok h2) fun _ _ q => q)
def TryQ (exm : Str → Option Bool) (i j : Nat) (N : Env → Store → Prop) (T : O → Prop) : O → Prop := fun o => match o with
  | .err (.exc c d) σ' S' => exm c = some true ∧ N ((σ'.set j (some (.exc c d))).set i none) S'
  | .err _ _ _ => False
  | o => T o
theorem try_exc {exm : Str → Option Bool} {i j : Nat} {c : Str} {d : D} (h1 : exm c = some true) (h2 : N ((σ.set j (some (.exc c d))).set i none) S) : TryQ exm i j N T (.err (.exc c d) σ S) := ⟨h1, h2⟩
theorem w_try {exm : Str → Option Bool} {i j : Nat} {Fb : FS} (h : (Fb σ S).w N (TryQ exm i j N T)) : (tryF exm i j Fb σ S).w N T := by
  unfold tryF
  generalize Fb σ S = o at h
  cases h with
  | nx h => exact .nx h
  | ret h => exact .ret h
  | brk h => exact .brk h
  | ct h => exact .ct h
  | @err x σ S _ _ h =>
    cases x with
    | exc c d =>
      obtain ⟨h1, h2⟩ := h
      simp only [h1]
      exact .nx h2
    | _ => exact h.elim
/-! loops -/
theorem w_for {Fi : FI} {Ft : Tg} {Fb : FS} {n : Nat} (h : (Fi σ S).w (fun x S => T (.err x σ S)) fun itf S => (forD itf Ft Fb n 0 σ S).w N T) : (forS Fi Ft Fb n σ S).w N T := w_thn h
theorem w_loop {o : O} {f : Env → Store → O} (h : o.w (fun σ S => (f σ S).w N T) (Turn (fun σ S => (f σ S).w N T) N T)) : (o.loop f).w N T := by
  cases h with
  | nx h => exact h
  | ret h => exact .ret h
  | brk h => exact .nx h
  | ct h => exact h
  | err h => exact .err h
/-- a while by its invariant and a measure -/
theorem w_while {Fc : FT} {Fb : FS} (I : Nat → Env → Store → Prop)
    (step : ∀ m σ S, I m σ S → (Fc σ S).w (fun x S => T (.err x σ S)) fun b S => if b = true then (Fb σ S).w (fun σ S => ∃ k, k < m ∧ I k σ S) (Turn (fun σ S => ∃ k, k < m ∧ I k σ S) N T) else N σ S) :
    ∀ n m σ S, m < n → I m σ S → (whileD Fc Fb n σ S).w N T
  | 0, _, _, _, h, _ => absurd h (Nat.not_lt_zero _)
  | n + 1, m, σ, S, h, i => by
    show ((Fc σ S).thn σ fun b S => if b = true then (Fb σ S).loop (whileD Fc Fb n) else .nx σ S).w N T
    refine w_thn ((step m σ S i).mono (fun b S q => ?_) fun _ _ q => q)
    cases b with
    | false => exact .nx q
    | true =>
      refine w_loop (O.w.mono q (fun σ S ⟨k, hk, j⟩ => w_while I step n k σ S (by omega) j) fun o t => ?_)
      cases o with
      | ct σ S => obtain ⟨k, hk, j⟩ := t; exact w_while I step n k σ S (by omega) j
      | nx σ S => exact t
      | bad => exact t
      | ret d S => exact t
      | brk σ S => exact t
      | err x σ S => exact t
/-- a for over a range -/
theorem w_forRng {lo : Int} {k : Nat} {i : Nat} {Fb : FS} (I : Nat → Env → Store → Prop)
    (step : ∀ m σ S, m < k → I m σ S → (Fb (σ.set i (some (.int (lo + m)))) S).w (fun σ S => I (m + 1) σ S) (Turn (fun σ S => I (m + 1) σ S) N T))
    (stop : ∀ σ S, I k σ S → N σ S) :
    ∀ n m σ S, k - m < n → m ≤ k → I m σ S → (forD (rngItf lo k) (setN i) Fb n m σ S).w N T
  | 0, _, _, _, h, _, _ => absurd h (Nat.not_lt_zero _)
  | n + 1, m, σ, S, h, hm, j => by
    by_cases e : m < k
    · have g : rngItf lo k m S = .item (.int (lo + m)) := by unfold rngItf; rw [if_pos e]
      have u : forD (rngItf lo k) (setN i) Fb (n + 1) m σ S = (Fb (σ.set i (some (.int (lo + m)))) S).loop (forD (rngItf lo k) (setN i) Fb n (m + 1)) := by
        show (match rngItf lo k m S with
          | .item d => (match setN i d with
            | some l => (Fb (putD l σ) S).loop (forD (rngItf lo k) (setN i) Fb n (m + 1))
            | none => .bad)
          | .stop => .nx σ S
          | .bad => .bad) = _
        rw [g]; rfl
      rw [u]
      refine w_loop (O.w.mono (step m σ S e j) (fun σ S q => w_forRng I step stop n (m + 1) σ S (by omega) (by omega) q) fun o t => ?_)
      cases o with
      | ct σ S => exact w_forRng I step stop n (m + 1) σ S (by omega) (by omega) t
      | nx σ S => exact t
      | bad => exact t
      | ret d S => exact t
      | brk σ S => exact t
      | err x σ S => exact t
    · have g : rngItf lo k m S = .stop := by unfold rngItf; rw [if_neg e]
      have u : forD (rngItf lo k) (setN i) Fb (n + 1) m σ S = .nx σ S := by
        show (match rngItf lo k m S with
          | .item d => (match setN i d with
            | some l => (Fb (putD l σ) S).loop (forD (rngItf lo k) (setN i) Fb n (m + 1))
            | none => .bad)
          | .stop => .nx σ S
          | .bad => .bad) = _
        rw [g]
      rw [u]
      have : m = k := by omega
      subst this
      exact .nx (stop σ S j)
/-- a for over items: at turn m the walk gives xs[m], whatever has been added to the store -/
theorem w_forL {itf : Itf} {xs : List D} {Ft : Tg} {Fb : FS} (I : Nat → Env → Store → Prop)
    (gives : ∀ m σ S, I m σ S → itf m S = match xs[m]? with | some x => .item x | none => .stop)
    (step : ∀ m σ S (hm : m < xs.length), I m σ S → ∃ l, Ft xs[m] = some l ∧ (Fb (putD l σ) S).w (fun σ S => I (m + 1) σ S) (Turn (fun σ S => I (m + 1) σ S) N T))
    (stop : ∀ σ S, I xs.length σ S → N σ S) :
    ∀ n m σ S, xs.length - m < n → m ≤ xs.length → I m σ S → (forD itf Ft Fb n m σ S).w N T
  | 0, _, _, _, h, _, _ => absurd h (Nat.not_lt_zero _)
  | n + 1, m, σ, S, h, hm, j => by
    have g := gives m σ S j
    by_cases e : m < xs.length
    · obtain ⟨l, h1, h2⟩ := step m σ S e j
      rw [List.getElem?_eq_getElem e] at g
      have u : forD itf Ft Fb (n + 1) m σ S = (Fb (putD l σ) S).loop (forD itf Ft Fb n (m + 1)) := by
        show (match itf m S with
          | .item d => (match Ft d with
            | some l => (Fb (putD l σ) S).loop (forD itf Ft Fb n (m + 1))
            | none => .bad)
          | .stop => .nx σ S
          | .bad => .bad) = _
        rw [g]
        show (match Ft xs[m] with
            | some l => (Fb (putD l σ) S).loop (forD itf Ft Fb n (m + 1))
            | none => .bad) = _
        rw [h1]
      rw [u]
      refine w_loop (O.w.mono h2 (fun σ S q => w_forL I gives step stop n (m + 1) σ S (by omega) (by omega) q) fun o t => ?_)
      cases o with
      | ct σ S => exact w_forL I gives step stop n (m + 1) σ S (by omega) (by omega) t
      | nx σ S => exact t
      | bad => exact t
      | ret d S => exact t
      | brk σ S => exact t
      | err x σ S => exact t
    · rw [List.getElem?_eq_none (by omega)] at g
      have u : forD itf Ft Fb (n + 1) m σ S = .nx σ S := by
        show (match itf m S with
          | .item d => (match Ft d with
            | some l => (Fb (putD l σ) S).loop (forD itf Ft Fb n (m + 1))
            | none => .bad)
          | .stop => .nx σ S
          | .bad => .bad) = _
        rw [g]
      rw [u]
      have : m = xs.length := by omega
      subst this
      exact .nx (stop σ S j)
/-- a comprehension without a test, over items that stay -/
theorem w_lc {itf : Itf} {xs : List D} {Ft : Tg} {Fe : FE} {σ : Env} (I : Nat → List D → Store → Prop)
    (gives : ∀ m acc S, I m acc S → itf m S = match xs[m]? with | some x => .item x | none => .stop)
    (step : ∀ m acc S (hm : m < xs.length), I m acc S → ∃ l, Ft xs[m] = some l ∧ (Fe (putD l σ) S).w noErr fun y S => fitL (acc.length + 1) = true ∧ I (m + 1) (acc ++ [y]) S)
    {Q : List D → Store → Prop} (stop : ∀ acc S, I xs.length acc S → Q acc S) :
    ∀ n m acc S, xs.length - m < n → m ≤ xs.length → I m acc S → (lcD itf Ft yesT Fe n m σ acc S).w noErr Q
  | 0, _, _, _, h, _, _ => absurd h (Nat.not_lt_zero _)
  | n + 1, m, acc, S, h, hm, j => by
    have g := gives m acc S j
    by_cases e : m < xs.length
    · obtain ⟨l, h1, h2⟩ := step m acc S e j
      rw [List.getElem?_eq_getElem e] at g
      obtain ⟨y, S', e2, h3, h4⟩ := h2.get
      have u : lcD itf Ft yesT Fe (n + 1) m σ acc S = lcD itf Ft yesT Fe n (m + 1) σ (acc ++ [y]) S' := by
        show (match itf m S with
          | .item d => (match Ft d with
            | some l => (noE (yesT (putD l σ) S)).bind fun b S => if b = true then (noE (Fe (putD l σ) S)).bind fun y S => (if fitL (acc.length + 1) then lcD itf Ft yesT Fe n (m + 1) σ (acc ++ [y]) S else .bad) else lcD itf Ft yesT Fe n (m + 1) σ acc S
            | none => .bad)
          | .stop => .ok acc S
          | .bad => .bad) = _
        rw [g]
        show (match Ft xs[m] with
            | some l => (noE (yesT (putD l σ) S)).bind fun b S => if b = true then (noE (Fe (putD l σ) S)).bind fun y S => (if fitL (acc.length + 1) then lcD itf Ft yesT Fe n (m + 1) σ (acc ++ [y]) S else .bad) else lcD itf Ft yesT Fe n (m + 1) σ acc S
            | none => .bad) = _
        rw [h1]
        show ((noE (Fe (putD l σ) S)).bind fun y S => (if fitL (acc.length + 1) then lcD itf Ft yesT Fe n (m + 1) σ (acc ++ [y]) S else .bad)) = _
        rw [e2]
        show (if fitL (acc.length + 1) then lcD itf Ft yesT Fe n (m + 1) σ (acc ++ [y]) S' else .bad) = _
        rw [if_pos h3]
      rw [u]
      exact w_lc I gives step stop n (m + 1) _ _ (by omega) (by omega) h4
    · rw [List.getElem?_eq_none (by omega)] at g
      have u : lcD itf Ft yesT Fe (n + 1) m σ acc S = .ok acc S := by
        show (match itf m S with
          | .item d => (match Ft d with
            | some l => (noE (yesT (putD l σ) S)).bind fun b S => if b = true then (noE (Fe (putD l σ) S)).bind fun y S => (if fitL (acc.length + 1) then lcD itf Ft yesT Fe n (m + 1) σ (acc ++ [y]) S else .bad) else lcD itf Ft yesT Fe n (m + 1) σ acc S
            | none => .bad)
          | .stop => .ok acc S
          | .bad => .bad) = _
        rw [g]
      rw [u]
      have : m = xs.length := by omega
      subst this
      exact .ok (stop acc S j)
theorem w_lcF {Q : D → Store → Prop} {Fi : FI} {Ft : Tg} {Fc : FT} {Fe : FE} {vs : List Nat} {n : Nat} (h : (Fi σ S).w E fun itf S => (lcD itf Ft Fc Fe n 0 (wipeE σ vs) [] S).w noErr fun xs S => Q (.lst xs) S) : (lcF false Fi Ft Fc Fe vs n σ S).w E Q :=
  w_bind (h.mono (fun itf S q => w_bind (by
    obtain ⟨xs, S', e, q⟩ := q.get
    rw [e]
    exact R.w.ok (a := xs) (S := S') (show (mkL false xs S').w E Q from .ok q))) fun _ _ q => q)
theorem w_seqF {Q : Itf → Store → Prop} {F : FE} (h : (F σ S).w E fun d S => (d.isStr || (seqOf S d).isSome) = true ∧ Q (itfOf d) S) : (seqF F σ S).w E Q := w_bind (h.mono (fun d S q => by rw [if_pos q.1]; exact .ok q.2) fun _ _ q => q)
def rngQ (Q : Itf → Store → Prop) : List D → Store → Prop := fun ds S => match ds with
  | [.int j] => small j = true ∧ Q (rngItf 0 j.toNat) S
  | _ => False
theorem rng_int {Q : Itf → Store → Prop} {j : Int} (h : small j = true) (q : Q (rngItf 0 j.toNat) S) : rngQ Q [.int j] S := ⟨h, q⟩
theorem small_nat {n : Nat} (h : n ≤ 2 ^ 60) : small (n : Int) = true := by
  unfold small
  rw [Bool.and_eq_true, decide_eq_true_eq, decide_eq_true_eq]
  omega
theorem w_rng {Q : Itf → Store → Prop} {Fs : FA} (h : (Fs σ S).w E (rngQ Q)) : (rng1F Fs σ S).w E Q := w_bind (h.mono (fun ds S q => by
  match ds, q with
  | [.int j], q => show (if small j then R.ok (rngItf 0 j.toNat) S else .bad).w E Q; rw [if_pos q.1]; exact .ok q.2) fun _ _ q => q)
end
/-! ints -/
section
variable {E : D → Store → Prop} {Q : D → Store → Prop} {S : Store} {i j : Int}
theorem w_add {m : Bool} (q : Q (.int (i + j)) S) : (addD m (.int i) (.int j) S).w E Q := .ok q
theorem w_sub (q : Q (.int (i - j)) S) : (op2 .sub false (.int i) (.int j) S).w E Q := .ok q
theorem w_mul {m : Bool} (h : mulOk i j = true) (q : Q (.int (i * j)) S) : (mulD m (.int i) (.int j) S).w E Q := by
  unfold mulD; simp only [h, if_true]; exact .ok q
theorem w_mod (h : 0 < j) (q : Q (.int (i % j)) S) : (op2 .mod false (.int i) (.int j) S).w E Q := by
  unfold op2; simp only [h, decide_true, if_true]; exact .ok q
theorem w_fdiv (h : 0 < j) (h2 : j < 1073741824) (q : Q (.int (i / j)) S) : (op2 .fdiv false (.int i) (.int j) S).w E Q := by
  unfold op2; simp only [h, h2, decide_true, Bool.and_self, if_true]; exact .ok q
theorem w_lt (q : Q (.bl (decide (i < j))) S) : (op2 .lt false (.int i) (.int j) S).w E Q := .ok q
theorem w_gt (q : Q (.bl (decide (j < i))) S) : (op2 .gt false (.int i) (.int j) S).w E Q := .ok q
theorem w_eqI (q : Q (.bl (i == j)) S) : (op2 .eq false (.int i) (.int j) S).w E Q := .ok q
theorem w_neI (q : Q (.bl (!(i == j))) S) : (op2 .ne false (.int i) (.int j) S).w E Q := .ok q
theorem w_eqO {d e : D} {b : Bool} (h : eqO S d e = some b) (q : Q (.bl b) S) : (op2 .eq false d e S).w E Q := by
  unfold op2; simp only [h]; exact .ok q
theorem w_neO {d e : D} {b : Bool} (h : neO S d e = some b) (q : Q (.bl b) S) : (op2 .ne false d e S).w E Q := by
  unfold op2; simp only [h]; exact .ok q
theorem w_int {G : Gs} {m : Bool} (q : Q (.int i) S) : (biD G .int m [.int i] S).w E Q := .ok q
end
end MI

set_option Elab.async false
set_option linter.all false
set_option maxRecDepth 100000
set_option maxHeartbeats 4000000
namespace MI.K06
open PySem PySem.Spec L2 MI
open PyProof.Rows hiding St
def top (i : Nat) : Stmt := PySem.Challenge.pw_cursorscripts_k06_errors_and_their_field.main.body.getD i (.Pass ⟨0, 0, 0, 0⟩)
inductive Fi where
  | l_mixed
  | l_purse
  | l_draw
  | l_by_place
  | l_by_name
  | l_bare
  | l_fields
  | l_classes
  | l_main
  deriving DecidableEq
abbrev s_l_mixed : Stmt := top 27
abbrev s_l_purse : Stmt := top 28
abbrev s_l_draw : Stmt := top 29
abbrev s_l_by_place : Stmt := top 30
abbrev s_l_by_name : Stmt := top 31
abbrev s_l_bare : Stmt := top 32
abbrev s_l_fields : Stmt := top 33
abbrev s_l_classes : Stmt := top 34
abbrev s_l_main : Stmt := top 35
structure Bu (mg : Str → Option Value) : Prop where
  «ValueError» : mg "ValueError" = none
  «enumerate» : mg "enumerate" = none
  «int» : mg "int" = none
  «isinstance» : mg "isinstance" = none
  «len» : mg "len" = none
  «max» : mg "max" = none
  «min» : mg "min" = none
  «range» : mg "range" = none
  «str» : mg "str" = none
structure Cals (P : Program) (w : World) (K : PySem.W.Frag) (mg : Str → Option Value) (base : Heap) (fld : Str → Option Str) (k : Nat) (O : Fi → List D → Store → R D) : Prop where
  l_mixed : Cal P w K mg base fld k "_law_mixed" ["_law_cell", "_law_k"] (O .l_mixed)
  l_purse : Cal P w K mg base fld k "_law_purse" ["_law_cells", "_law_spot"] (O .l_purse)
  l_draw : Cal P w K mg base fld k "_law_draw" ["_law_purse_here", "_law_out_of"] (O .l_draw)
  l_by_place : Cal P w K mg base fld k "_law_by_place" ["_law_item"] (O .l_by_place)
  l_by_name : Cal P w K mg base fld k "_law_by_name" ["_law_item"] (O .l_by_name)
  l_bare : Cal P w K mg base fld k "_law_bare" [] (O .l_bare)
  l_fields : Cal P w K mg base fld k "_law_fields" ["_law_errors"] (O .l_fields)
  l_classes : Cal P w K mg base fld k "_law_classes" ["_law_error"] (O .l_classes)
  l_main : Cal P w K mg base fld k "law" ["_law_script"] (O .l_main)
structure Txt (P : Program) (w : World) (K : PySem.W.Frag) (mg : Str → Option Value) (base : Heap) (fld : Str → Option Str) (exm : Str → Str → Option Bool) : Prop where
  v_Drops : ErrV P w K mg base fld 1 "Drops" "number"
  v_Failed : ErrV P w K mg base fld 1 "Failed" "name"
  v_InvalidCommand : ErrV P w K mg base fld 1 "InvalidCommand" "thing"
  v_InvalidCommands : ErrV P w K mg base fld 1 "InvalidCommands" "place"
  v_InvalidCount : ErrV P w K mg base fld 1 "InvalidCount" "most"
  v_InvalidFilling : ErrV P w K mg base fld 1 "InvalidFilling" "thing"
  v_InvalidLabels : ErrV P w K mg base fld 1 "InvalidLabels" "thing"
  v_InvalidLikeness : ErrV P w K mg base fld 1 "InvalidLikeness" "likeness"
  v_InvalidList : ErrV P w K mg base fld 1 "InvalidList" "problem"
  v_InvalidName : ErrV P w K mg base fld 1 "InvalidName" "name"
  v_InvalidNumber : ErrV P w K mg base fld 1 "InvalidNumber" "number"
  v_InvalidPath : ErrV P w K mg base fld 1 "InvalidPath" "place"
  v_InvalidPattern : ErrV P w K mg base fld 1 "InvalidPattern" "thing"
  v_InvalidRewriting : ErrV P w K mg base fld 1 "InvalidRewriting" "thing"
  v_InvalidScript : ErrV P w K mg base fld 1 "InvalidScript" "problem"
  v_InvalidState : ErrV P w K mg base fld 1 "InvalidState" "thing"
  v_InvalidTree : ErrV P w K mg base fld 1 "InvalidTree" "thing"
  v_Needed : ErrV P w K mg base fld 1 "Needed" "number"
  v_NoSuchName : ErrV P w K mg base fld 1 "NoSuchName" "name"
  v_NotOneToOne : ErrV P w K mg base fld 1 "NotOneToOne" "states"
  v_Unreadable : ErrV P w K mg base fld 1 "Unreadable" "at"
  n_NoBack : ErrN K mg "NoBack"
  n_NothingToUndo : ErrN K mg "NothingToUndo"
  n_TooMany : ErrN K mg "TooMany"
  nv_CursorError : NoVe K mg "CursorError"
  m_CursorError : ∃ C, mg "CursorError" = some (.ref C)
  m_Drops : ∃ C, mg "Drops" = some (.ref C)
  m_Failed : ∃ C, mg "Failed" = some (.ref C)
  m_InvalidCommand : ∃ C, mg "InvalidCommand" = some (.ref C)
  m_InvalidCommands : ∃ C, mg "InvalidCommands" = some (.ref C)
  m_InvalidCount : ∃ C, mg "InvalidCount" = some (.ref C)
  m_InvalidFilling : ∃ C, mg "InvalidFilling" = some (.ref C)
  m_InvalidLabels : ∃ C, mg "InvalidLabels" = some (.ref C)
  m_InvalidLikeness : ∃ C, mg "InvalidLikeness" = some (.ref C)
  m_InvalidList : ∃ C, mg "InvalidList" = some (.ref C)
  m_InvalidName : ∃ C, mg "InvalidName" = some (.ref C)
  m_InvalidNumber : ∃ C, mg "InvalidNumber" = some (.ref C)
  m_InvalidPath : ∃ C, mg "InvalidPath" = some (.ref C)
  m_InvalidPattern : ∃ C, mg "InvalidPattern" = some (.ref C)
  m_InvalidRewriting : ∃ C, mg "InvalidRewriting" = some (.ref C)
  m_InvalidScript : ∃ C, mg "InvalidScript" = some (.ref C)
  m_InvalidState : ∃ C, mg "InvalidState" = some (.ref C)
  m_InvalidTree : ∃ C, mg "InvalidTree" = some (.ref C)
  m_Needed : ∃ C, mg "Needed" = some (.ref C)
  m_NoBack : ∃ C, mg "NoBack" = some (.ref C)
  m_NoSuchName : ∃ C, mg "NoSuchName" = some (.ref C)
  m_NotOneToOne : ∃ C, mg "NotOneToOne" = some (.ref C)
  m_NothingToUndo : ∃ C, mg "NothingToUndo" = some (.ref C)
  m_TooMany : ∃ C, mg "TooMany" = some (.ref C)
  m_Unreadable : ∃ C, mg "Unreadable" = some (.ref C)
  a_at : AttC K mg fld "at"
  a_likeness : AttC K mg fld "likeness"
  a_most : AttC K mg fld "most"
  a_name : AttC K mg fld "name"
  a_number : AttC K mg fld "number"
  a_place : AttC K mg fld "place"
  a_problem : AttC K mg fld "problem"
  a_states : AttC K mg fld "states"
  a_thing : AttC K mg fld "thing"
  none : True
section
variable {P : Program} {w : World} {K : PySem.W.Frag} {mg : Str → Option Value} {base : Heap} {fld : Str → Option Str} {G : Gs}
theorem sc_l_mixed : FnScope ["_law_cell", "_law_k", "_law_figure"] ["_law_cell", "_law_k"] (defScope s_l_mixed) := ⟨rfl, rfl, rfl, by decide +kernel, rfl, by decide +kernel, by decide +kernel⟩
def F_l_mixed (G : Gs) (fld : Str → Option Str) (exm : Str → Str → Option Bool) (O : Fi → List D → Store → R D) (n : Nat) : FS :=
  (seqS (setS 2 (binD (op2 .mod false) (fnF (biD G .int false) (consA (binD (addD false) (binD (addD false) (binD (addD false) (binD (mulD false) (varD 0) (cstD (.int (2654435761)))) (binD (mulD false) (binD (mulD false) (cstD (.int (40503))) (varD 1)) (varD 1))) (binD (mulD false) (cstD (.int (97))) (varD 1))) (cstD (.int (13)))) nilA)) (cstD (.int (2147483647)))))
  (seqS (retS (binD (op2 .fdiv false) (binD (op2 .mod false) (fnF (biD G .int false) (consA (binD (addD false) (binD (addD false) (binD (mulD false) (varD 2) (varD 2)) (binD (mulD false) (cstD (.int (7))) (varD 2))) (cstD (.int (11)))) nilA)) (cstD (.int (2147483629)))) (cstD (.int (3)))))
  nxS))
theorem ok_l_mixed {f : Addr} {fd : FuncData} {k : Nat} {O : Fi → List D → Store → R D} (Fn : Fun K "_law_mixed" "_law_mixed" s_l_mixed f fd) (B : Bu mg) {exm : Str → Str → Option Bool} (T : Txt P w K mg base fld exm) (GO : GsOk K mg G) (C : Cals P w K mg base fld (k + 2) O) (n : Nat) :
    FnOk P w K mg base (L2.CX P w) (k + 3) f fd ["_law_cell", "_law_k"] (spD K mg fld 2 fun ds S => finish (F_l_mixed G fld exm O n (startD 3 ds) S)) :=
  fn_D (k := k + 2) (N := ["_law_cell", "_law_k", "_law_figure"]) (ps := ["_law_cell", "_law_k"]) Fn sc_l_mixed fun cdv A outer s H E hr =>
    (b_cons (s_set 2 sc_l_mixed.nd (k_mod (k_int1 plain_bin (k_consA plain_bin (k_add false (k_add false (k_add false (k_mul false (kv 0) k_int) (k_mul false (k_mul false k_int (kv 1)) (kv 1))) (k_mul false k_int (kv 1))) k_int) k_nilA) B.int) k_int))
    (b_cons (s_ret (k_fdiv (k_mod (k_int1 plain_bin (k_consA plain_bin (k_add false (k_add false (k_mul false (kv 2) (kv 2)) (k_mul false k_int (kv 2))) k_int) k_nilA) B.int) k_int) k_int))
    b_nil))
theorem sc_l_purse : FnScope ["_law_cells", "_law_spot", "_law_cell"] ["_law_cells", "_law_spot"] (defScope s_l_purse) := ⟨rfl, rfl, rfl, by decide +kernel, rfl, by decide +kernel, by decide +kernel⟩
def F_l_purse (G : Gs) (fld : Str → Option Str) (exm : Str → Str → Option Bool) (O : Fi → List D → Store → R D) (n : Nat) : FS :=
  (seqS (setS 2 (cstD (.int (0))))
  (seqS (ifS (tstF (binD (op2 .lt false) (varD 1) (fnF (biD G .len false) (consA (varD 0) nilA)))) (seqS (setS 2 (binD subD (varD 0) (varD 1)))
  nxS) nxS)
  (seqS (retS (lstF true (consA (binD (op2 .mod false) (fnF (biD G .int false) (consA (fnF (biD G .max2 false) (consA (binD (op2 .sub false) (varD 2) (binD powW (cstD (.int (10))) (cstD (.int (18))))) (consA (cstD (.int (0))) nilA))) nilA)) (binD powW (binD powW (cstD (.int (10))) (cstD (.int (60)))) (cstD (.int (8))))) (consA (binD (op2 .mod false) (fnF (biD G .int false) (consA (varD 2) nilA)) (cstD (.int (2147483647)))) (consA (binD (mulD false) (cstD (.int (1000))) (varD 1)) nilA)))))
  nxS)))
theorem ok_l_purse {f : Addr} {fd : FuncData} {k : Nat} {O : Fi → List D → Store → R D} (Fn : Fun K "_law_purse" "_law_purse" s_l_purse f fd) (B : Bu mg) {exm : Str → Str → Option Bool} (T : Txt P w K mg base fld exm) (GO : GsOk K mg G) (C : Cals P w K mg base fld (k + 2) O) (n : Nat) :
    FnOk P w K mg base (L2.CX P w) (k + 3) f fd ["_law_cells", "_law_spot"] (spD K mg fld 2 fun ds S => finish (F_l_purse G fld exm O n (startD 3 ds) S)) :=
  fn_D (k := k + 2) (N := ["_law_cells", "_law_spot", "_law_cell"]) (ps := ["_law_cells", "_law_spot"]) Fn sc_l_purse fun cdv A outer s H E hr =>
    (b_cons (s_set 2 sc_l_purse.nd k_int)
    (b_cons (s_if (t_lt (kv 1) (k_len B.len plain_name (k_consA plain_name (kv 0) k_nilA))) (b_cons (s_set 2 sc_l_purse.nd (k_ix (kv 0) (kv 1)))
    b_nil) b_nil)
    (b_cons (s_ret (k_lst true (k_consA plain_bin (k_mod (k_int1 plain_call1 (k_consA plain_call1 (k_max2 plain_bin plain_const (k_consA plain_bin (k_sub (kv 2) (k_powW k_int k_int)) (k_consA plain_const k_int k_nilA)) B.max) k_nilA) B.int) (k_powW (k_powW k_int k_int) k_int)) (k_consA plain_bin (k_mod (k_int1 plain_name (k_consA plain_name (kv 2) k_nilA) B.int) k_int) (k_consA plain_bin (k_mul false k_int (kv 1)) k_nilA)))))
    b_nil)))
theorem sc_l_draw : FnScope ["_law_purse_here", "_law_out_of", "_law_drawn"] ["_law_purse_here", "_law_out_of"] (defScope s_l_draw) := ⟨rfl, rfl, rfl, by decide +kernel, rfl, by decide +kernel, by decide +kernel⟩
def F_l_draw (G : Gs) (fld : Str → Option Str) (exm : Str → Str → Option Bool) (O : Fi → List D → Store → R D) (n : Nat) : FS :=
  (seqS (ifS (tstF (binD (op2 .gt false) (binD subD (varD 0) (cstD (.int (0)))) (cstD (.int (0))))) (seqS (setS 2 (binD (op2 .mod false) (fnF (biD G .int false) (consA (binD subD (varD 0) (cstD (.int (0)))) nilA)) (varD 1)))
  (seqS (setSubS (varD 0) (cstD (.int (0))) (binD (op2 .fdiv false) (binD subD (varD 0) (cstD (.int (0)))) (varD 1)))
  (seqS (retS (varD 2))
  nxS))) nxS)
  (seqS (setSubS (varD 0) (cstD (.int (2))) (binD (addD false) (binD subD (varD 0) (cstD (.int (2)))) (cstD (.int (1)))))
  (seqS (retS (binD (op2 .mod false) (fnF (biD G .int false) (consA (fnF (O .l_mixed) (consA (binD subD (varD 0) (cstD (.int (1)))) (consA (binD subD (varD 0) (cstD (.int (2)))) nilA))) nilA)) (varD 1)))
  nxS)))
theorem ok_l_draw {f : Addr} {fd : FuncData} {k : Nat} {O : Fi → List D → Store → R D} (Fn : Fun K "_law_draw" "_law_draw" s_l_draw f fd) (B : Bu mg) {exm : Str → Str → Option Bool} (T : Txt P w K mg base fld exm) (GO : GsOk K mg G) (C : Cals P w K mg base fld (k + 2) O) (n : Nat) :
    FnOk P w K mg base (L2.CX P w) (k + 3) f fd ["_law_purse_here", "_law_out_of"] (spD K mg fld 2 fun ds S => finish (F_l_draw G fld exm O n (startD 3 ds) S)) :=
  fn_D (k := k + 2) (N := ["_law_purse_here", "_law_out_of", "_law_drawn"]) (ps := ["_law_purse_here", "_law_out_of"]) Fn sc_l_draw fun cdv A outer s H E hr =>
    (b_cons (s_if (t_gt (k_ix (kv 0) k_int) k_int) (b_cons (s_set 2 sc_l_draw.nd (k_mod (k_int1 plain_sub (k_consA plain_sub (k_ix (kv 0) k_int) k_nilA) B.int) (kv 1)))
    (b_cons (s_setSub (kv 0) k_int (k_fdiv (k_ix (kv 0) k_int) (kv 1)))
    (b_cons (s_ret (kv 2))
    b_nil))) b_nil)
    (b_cons (s_setSub (kv 0) k_int (k_add false (k_ix (kv 0) k_int) k_int))
    (b_cons (s_ret (k_mod (k_int1 plain_call1 (k_consA plain_call1 (k_cal takesX C.l_mixed hr (plain_allC plain_sub (plain_allC plain_sub plain_allN)) (k_consA plain_sub (k_ix (kv 0) k_int) (k_consA plain_sub (k_ix (kv 0) k_int) k_nilA)) (len_consA (len_consA len_nilA))) k_nilA) B.int) (kv 1)))
    b_nil)))
theorem sc_l_by_place : FnScope ["_law_item", "_law_found"] ["_law_item"] (defScope s_l_by_place) := ⟨rfl, rfl, rfl, by decide +kernel, rfl, by decide +kernel, by decide +kernel⟩
def F_l_by_place (G : Gs) (fld : Str → Option Str) (exm : Str → Str → Option Bool) (O : Fi → List D → Store → R D) (n : Nat) : FS :=
  (seqS (setS 1 (lstF false (consA (mkF "InvalidTree" (varD 0)) (consA (mkF "InvalidState" (varD 0)) (consA (mkF "InvalidPattern" (varD 0)) (consA (mkF "InvalidRewriting" (varD 0)) nilA))))))
  (seqS (setS 1 (binD (addD false) (varD 1) (lstF false (consA (mkF "InvalidFilling" (varD 0)) (consA (mkF "InvalidCommand" (varD 0)) (consA (mkF "InvalidScript" (varD 0)) (consA (mkF "InvalidList" (varD 0)) nilA)))))))
  (seqS (setS 1 (binD (addD false) (varD 1) (lstF false (consA (mkF "InvalidPath" (varD 0)) (consA (mkF "InvalidCount" (varD 0)) (consA (mkF "InvalidCommands" (varD 0)) (consA (mkF "NotOneToOne" (varD 0)) nilA)))))))
  (seqS (setS 1 (binD (addD false) (varD 1) (lstF false (consA (mkF "InvalidName" (varD 0)) (consA (mkF "NoSuchName" (varD 0)) (consA (mkF "Failed" (varD 0)) (consA (mkF "InvalidNumber" (varD 0)) (consA (mkF "Needed" (varD 0)) nilA))))))))
  (seqS (retS (binD (addD false) (varD 1) (lstF false (consA (mkF "Unreadable" (varD 0)) (consA (mkF "InvalidLabels" (varD 0)) (consA (mkF "Drops" (varD 0)) (consA (mkF "InvalidLikeness" (varD 0)) nilA)))))))
  nxS)))))
theorem ok_l_by_place {f : Addr} {fd : FuncData} {k : Nat} {O : Fi → List D → Store → R D} (Fn : Fun K "_law_by_place" "_law_by_place" s_l_by_place f fd) (B : Bu mg) {exm : Str → Str → Option Bool} (T : Txt P w K mg base fld exm) (GO : GsOk K mg G) (C : Cals P w K mg base fld (k + 2) O) (n : Nat) :
    FnOk P w K mg base (L2.CX P w) (k + 3) f fd ["_law_item"] (spD K mg fld 1 fun ds S => finish (F_l_by_place G fld exm O n (startD 2 ds) S)) :=
  fn_D (k := k + 2) (N := ["_law_item", "_law_found"]) (ps := ["_law_item"]) Fn sc_l_by_place fun cdv A outer s H E hr =>
    (b_cons (s_set 1 sc_l_by_place.nd (k_lst false (k_consA plain_call1 (k_mk T.v_InvalidTree (hr.mono (by omega)) plain_name (kv 0)) (k_consA plain_call1 (k_mk T.v_InvalidState (hr.mono (by omega)) plain_name (kv 0)) (k_consA plain_call1 (k_mk T.v_InvalidPattern (hr.mono (by omega)) plain_name (kv 0)) (k_consA plain_call1 (k_mk T.v_InvalidRewriting (hr.mono (by omega)) plain_name (kv 0)) k_nilA))))))
    (b_cons (s_set 1 sc_l_by_place.nd (k_add false (kv 1) (k_lst false (k_consA plain_call1 (k_mk T.v_InvalidFilling (hr.mono (by omega)) plain_name (kv 0)) (k_consA plain_call1 (k_mk T.v_InvalidCommand (hr.mono (by omega)) plain_name (kv 0)) (k_consA plain_call1 (k_mk T.v_InvalidScript (hr.mono (by omega)) plain_name (kv 0)) (k_consA plain_call1 (k_mk T.v_InvalidList (hr.mono (by omega)) plain_name (kv 0)) k_nilA)))))))
    (b_cons (s_set 1 sc_l_by_place.nd (k_add false (kv 1) (k_lst false (k_consA plain_call1 (k_mk T.v_InvalidPath (hr.mono (by omega)) plain_name (kv 0)) (k_consA plain_call1 (k_mk T.v_InvalidCount (hr.mono (by omega)) plain_name (kv 0)) (k_consA plain_call1 (k_mk T.v_InvalidCommands (hr.mono (by omega)) plain_name (kv 0)) (k_consA plain_call1 (k_mk T.v_NotOneToOne (hr.mono (by omega)) plain_name (kv 0)) k_nilA)))))))
    (b_cons (s_set 1 sc_l_by_place.nd (k_add false (kv 1) (k_lst false (k_consA plain_call1 (k_mk T.v_InvalidName (hr.mono (by omega)) plain_name (kv 0)) (k_consA plain_call1 (k_mk T.v_NoSuchName (hr.mono (by omega)) plain_name (kv 0)) (k_consA plain_call1 (k_mk T.v_Failed (hr.mono (by omega)) plain_name (kv 0)) (k_consA plain_call1 (k_mk T.v_InvalidNumber (hr.mono (by omega)) plain_name (kv 0)) (k_consA plain_call1 (k_mk T.v_Needed (hr.mono (by omega)) plain_name (kv 0)) k_nilA))))))))
    (b_cons (s_ret (k_add false (kv 1) (k_lst false (k_consA plain_call1 (k_mk T.v_Unreadable (hr.mono (by omega)) plain_name (kv 0)) (k_consA plain_call1 (k_mk T.v_InvalidLabels (hr.mono (by omega)) plain_name (kv 0)) (k_consA plain_call1 (k_mk T.v_Drops (hr.mono (by omega)) plain_name (kv 0)) (k_consA plain_call1 (k_mk T.v_InvalidLikeness (hr.mono (by omega)) plain_name (kv 0)) k_nilA)))))))
    b_nil)))))
theorem sc_l_by_name : FnScope ["_law_item", "_law_found"] ["_law_item"] (defScope s_l_by_name) := ⟨rfl, rfl, rfl, by decide +kernel, rfl, by decide +kernel, by decide +kernel⟩
def F_l_by_name (G : Gs) (fld : Str → Option Str) (exm : Str → Str → Option Bool) (O : Fi → List D → Store → R D) (n : Nat) : FS :=
  (seqS (setS 1 (lstF false (consA (mkF "InvalidTree" (varD 0)) (consA (mkF "InvalidState" (varD 0)) (consA (mkF "InvalidPattern" (varD 0)) nilA)))))
  (seqS (setS 1 (binD (addD false) (varD 1) (lstF false (consA (mkF "InvalidRewriting" (varD 0)) (consA (mkF "InvalidFilling" (varD 0)) (consA (mkF "InvalidCommand" (varD 0)) nilA))))))
  (seqS (setS 1 (binD (addD false) (varD 1) (lstF false (consA (mkF "InvalidScript" (varD 0)) (consA (mkF "InvalidList" (varD 0)) (consA (mkF "InvalidPath" (varD 0)) nilA))))))
  (seqS (setS 1 (binD (addD false) (varD 1) (lstF false (consA (mkF "InvalidCount" (varD 0)) (consA (mkF "InvalidCommands" (varD 0)) (consA (mkF "NotOneToOne" (varD 0)) nilA))))))
  (seqS (setS 1 (binD (addD false) (varD 1) (lstF false (consA (mkF "InvalidName" (varD 0)) (consA (mkF "NoSuchName" (varD 0)) (consA (mkF "Failed" (varD 0)) nilA))))))
  (seqS (setS 1 (binD (addD false) (varD 1) (lstF false (consA (mkF "InvalidNumber" (varD 0)) (consA (mkF "Needed" (varD 0)) (consA (mkF "Unreadable" (varD 0)) nilA))))))
  (seqS (retS (binD (addD false) (varD 1) (lstF false (consA (mkF "InvalidLabels" (varD 0)) (consA (mkF "Drops" (varD 0)) (consA (mkF "InvalidLikeness" (varD 0)) nilA))))))
  nxS)))))))
theorem ok_l_by_name {f : Addr} {fd : FuncData} {k : Nat} {O : Fi → List D → Store → R D} (Fn : Fun K "_law_by_name" "_law_by_name" s_l_by_name f fd) (B : Bu mg) {exm : Str → Str → Option Bool} (T : Txt P w K mg base fld exm) (GO : GsOk K mg G) (C : Cals P w K mg base fld (k + 2) O) (n : Nat) :
    FnOk P w K mg base (L2.CX P w) (k + 3) f fd ["_law_item"] (spD K mg fld 1 fun ds S => finish (F_l_by_name G fld exm O n (startD 2 ds) S)) :=
  fn_D (k := k + 2) (N := ["_law_item", "_law_found"]) (ps := ["_law_item"]) Fn sc_l_by_name fun cdv A outer s H E hr =>
    (b_cons (s_set 1 sc_l_by_name.nd (k_lst false (k_consA plain_callK (k_mkK T.v_InvalidTree (hr.mono (by omega)) (kv 0)) (k_consA plain_callK (k_mkK T.v_InvalidState (hr.mono (by omega)) (kv 0)) (k_consA plain_callK (k_mkK T.v_InvalidPattern (hr.mono (by omega)) (kv 0)) k_nilA)))))
    (b_cons (s_set 1 sc_l_by_name.nd (k_add false (kv 1) (k_lst false (k_consA plain_callK (k_mkK T.v_InvalidRewriting (hr.mono (by omega)) (kv 0)) (k_consA plain_callK (k_mkK T.v_InvalidFilling (hr.mono (by omega)) (kv 0)) (k_consA plain_callK (k_mkK T.v_InvalidCommand (hr.mono (by omega)) (kv 0)) k_nilA))))))
    (b_cons (s_set 1 sc_l_by_name.nd (k_add false (kv 1) (k_lst false (k_consA plain_callK (k_mkK T.v_InvalidScript (hr.mono (by omega)) (kv 0)) (k_consA plain_callK (k_mkK T.v_InvalidList (hr.mono (by omega)) (kv 0)) (k_consA plain_callK (k_mkK T.v_InvalidPath (hr.mono (by omega)) (kv 0)) k_nilA))))))
    (b_cons (s_set 1 sc_l_by_name.nd (k_add false (kv 1) (k_lst false (k_consA plain_callK (k_mkK T.v_InvalidCount (hr.mono (by omega)) (kv 0)) (k_consA plain_callK (k_mkK T.v_InvalidCommands (hr.mono (by omega)) (kv 0)) (k_consA plain_callK (k_mkK T.v_NotOneToOne (hr.mono (by omega)) (kv 0)) k_nilA))))))
    (b_cons (s_set 1 sc_l_by_name.nd (k_add false (kv 1) (k_lst false (k_consA plain_callK (k_mkK T.v_InvalidName (hr.mono (by omega)) (kv 0)) (k_consA plain_callK (k_mkK T.v_NoSuchName (hr.mono (by omega)) (kv 0)) (k_consA plain_callK (k_mkK T.v_Failed (hr.mono (by omega)) (kv 0)) k_nilA))))))
    (b_cons (s_set 1 sc_l_by_name.nd (k_add false (kv 1) (k_lst false (k_consA plain_callK (k_mkK T.v_InvalidNumber (hr.mono (by omega)) (kv 0)) (k_consA plain_callK (k_mkK T.v_Needed (hr.mono (by omega)) (kv 0)) (k_consA plain_callK (k_mkK T.v_Unreadable (hr.mono (by omega)) (kv 0)) k_nilA))))))
    (b_cons (s_ret (k_add false (kv 1) (k_lst false (k_consA plain_callK (k_mkK T.v_InvalidLabels (hr.mono (by omega)) (kv 0)) (k_consA plain_callK (k_mkK T.v_Drops (hr.mono (by omega)) (kv 0)) (k_consA plain_callK (k_mkK T.v_InvalidLikeness (hr.mono (by omega)) (kv 0)) k_nilA))))))
    b_nil)))))))
theorem sc_l_bare : FnScope ["_law_found"] [] (defScope s_l_bare) := ⟨rfl, rfl, rfl, by decide +kernel, rfl, by decide +kernel, by decide +kernel⟩
def F_l_bare (G : Gs) (fld : Str → Option Str) (exm : Str → Str → Option Bool) (O : Fi → List D → Store → R D) (n : Nat) : FS :=
  (seqS (setS 0 (lstF false (consA (cstD (.exc "InvalidTree" .non)) (consA (cstD (.exc "InvalidState" .non)) (consA (cstD (.exc "InvalidPattern" .non)) (consA (cstD (.exc "InvalidRewriting" .non)) nilA))))))
  (seqS (setS 0 (binD (addD false) (varD 0) (lstF false (consA (cstD (.exc "InvalidFilling" .non)) (consA (cstD (.exc "InvalidCommand" .non)) (consA (cstD (.exc "InvalidScript" .non)) (consA (cstD (.exc "InvalidList" .non)) (consA (cstD (.exc "InvalidPath" .non)) nilA))))))))
  (seqS (setS 0 (binD (addD false) (varD 0) (lstF false (consA (cstD (.exc "InvalidCount" .non)) (consA (cstD (.exc "InvalidCommands" .non)) (consA (cstD (.exc "NotOneToOne" .non)) (consA (cstD (.exc "InvalidName" .non)) (consA (cstD (.exc "NoSuchName" .non)) nilA))))))))
  (seqS (setS 0 (binD (addD false) (varD 0) (lstF false (consA (cstD (.exc "Failed" .non)) (consA (cstD (.exc "InvalidNumber" .non)) (consA (cstD (.exc "Needed" .non)) (consA (cstD (.exc "Unreadable" .non)) (consA (cstD (.exc "InvalidLabels" .non)) (consA (cstD (.exc "Drops" .non)) nilA)))))))))
  (seqS (retS (binD (addD false) (varD 0) (lstF false (consA (cstD (.exc "InvalidLikeness" .non)) (consA (cstD (.exc0 "NoBack")) (consA (cstD (.exc0 "TooMany")) (consA (cstD (.exc0 "NothingToUndo")) nilA)))))))
  nxS)))))
theorem ok_l_bare {f : Addr} {fd : FuncData} {k : Nat} {O : Fi → List D → Store → R D} (Fn : Fun K "_law_bare" "_law_bare" s_l_bare f fd) (B : Bu mg) {exm : Str → Str → Option Bool} (T : Txt P w K mg base fld exm) (GO : GsOk K mg G) (C : Cals P w K mg base fld (k + 2) O) (n : Nat) :
    FnOk P w K mg base (L2.CX P w) (k + 3) f fd [] (spD K mg fld 0 fun ds S => finish (F_l_bare G fld exm O n (startD 1 ds) S)) :=
  fn_D (k := k + 2) (N := ["_law_found"]) (ps := []) Fn sc_l_bare fun cdv A outer s H E hr =>
    (b_cons (s_set 0 sc_l_bare.nd (k_lst false (k_consA plain_call0 (k_mk0 T.v_InvalidTree (hr.mono (by omega))) (k_consA plain_call0 (k_mk0 T.v_InvalidState (hr.mono (by omega))) (k_consA plain_call0 (k_mk0 T.v_InvalidPattern (hr.mono (by omega))) (k_consA plain_call0 (k_mk0 T.v_InvalidRewriting (hr.mono (by omega))) k_nilA))))))
    (b_cons (s_set 0 sc_l_bare.nd (k_add false (kv 0) (k_lst false (k_consA plain_call0 (k_mk0 T.v_InvalidFilling (hr.mono (by omega))) (k_consA plain_call0 (k_mk0 T.v_InvalidCommand (hr.mono (by omega))) (k_consA plain_call0 (k_mk0 T.v_InvalidScript (hr.mono (by omega))) (k_consA plain_call0 (k_mk0 T.v_InvalidList (hr.mono (by omega))) (k_consA plain_call0 (k_mk0 T.v_InvalidPath (hr.mono (by omega))) k_nilA))))))))
    (b_cons (s_set 0 sc_l_bare.nd (k_add false (kv 0) (k_lst false (k_consA plain_call0 (k_mk0 T.v_InvalidCount (hr.mono (by omega))) (k_consA plain_call0 (k_mk0 T.v_InvalidCommands (hr.mono (by omega))) (k_consA plain_call0 (k_mk0 T.v_NotOneToOne (hr.mono (by omega))) (k_consA plain_call0 (k_mk0 T.v_InvalidName (hr.mono (by omega))) (k_consA plain_call0 (k_mk0 T.v_NoSuchName (hr.mono (by omega))) k_nilA))))))))
    (b_cons (s_set 0 sc_l_bare.nd (k_add false (kv 0) (k_lst false (k_consA plain_call0 (k_mk0 T.v_Failed (hr.mono (by omega))) (k_consA plain_call0 (k_mk0 T.v_InvalidNumber (hr.mono (by omega))) (k_consA plain_call0 (k_mk0 T.v_Needed (hr.mono (by omega))) (k_consA plain_call0 (k_mk0 T.v_Unreadable (hr.mono (by omega))) (k_consA plain_call0 (k_mk0 T.v_InvalidLabels (hr.mono (by omega))) (k_consA plain_call0 (k_mk0 T.v_Drops (hr.mono (by omega))) k_nilA)))))))))
    (b_cons (s_ret (k_add false (kv 0) (k_lst false (k_consA plain_call0 (k_mk0 T.v_InvalidLikeness (hr.mono (by omega))) (k_consA plain_call0 (k_mkN T.n_NoBack) (k_consA plain_call0 (k_mkN T.n_TooMany) (k_consA plain_call0 (k_mkN T.n_NothingToUndo) k_nilA)))))))
    b_nil)))))
theorem sc_l_fields : FnScope ["_law_errors", "_law_found"] ["_law_errors"] (defScope s_l_fields) := ⟨rfl, rfl, rfl, by decide +kernel, rfl, by decide +kernel, by decide +kernel⟩
def F_l_fields (G : Gs) (fld : Str → Option Str) (exm : Str → Str → Option Bool) (O : Fi → List D → Store → R D) (n : Nat) : FS :=
  (seqS (setS 1 (lstF false (consA (attF fld "thing" (binD subD (varD 0) (cstD (.int (0))))) (consA (attF fld "thing" (binD subD (varD 0) (cstD (.int (1))))) (consA (attF fld "thing" (binD subD (varD 0) (cstD (.int (2))))) (consA (attF fld "thing" (binD subD (varD 0) (cstD (.int (3))))) (consA (attF fld "thing" (binD subD (varD 0) (cstD (.int (4))))) nilA)))))))
  (seqS (setS 1 (binD (addD false) (varD 1) (lstF false (consA (attF fld "thing" (binD subD (varD 0) (cstD (.int (5))))) (consA (attF fld "problem" (binD subD (varD 0) (cstD (.int (6))))) (consA (attF fld "problem" (binD subD (varD 0) (cstD (.int (7))))) (consA (attF fld "place" (binD subD (varD 0) (cstD (.int (8))))) nilA)))))))
  (seqS (setS 1 (binD (addD false) (varD 1) (lstF false (consA (attF fld "most" (binD subD (varD 0) (cstD (.int (9))))) (consA (attF fld "place" (binD subD (varD 0) (cstD (.int (10))))) (consA (attF fld "states" (binD subD (varD 0) (cstD (.int (11))))) (consA (attF fld "name" (binD subD (varD 0) (cstD (.int (12))))) nilA)))))))
  (seqS (setS 1 (binD (addD false) (varD 1) (lstF false (consA (attF fld "name" (binD subD (varD 0) (cstD (.int (13))))) (consA (attF fld "name" (binD subD (varD 0) (cstD (.int (14))))) (consA (attF fld "number" (binD subD (varD 0) (cstD (.int (15))))) (consA (attF fld "number" (binD subD (varD 0) (cstD (.int (16))))) nilA)))))))
  (seqS (retS (binD (addD false) (varD 1) (lstF false (consA (attF fld "at" (binD subD (varD 0) (cstD (.int (17))))) (consA (attF fld "thing" (binD subD (varD 0) (cstD (.int (18))))) (consA (attF fld "number" (binD subD (varD 0) (cstD (.int (19))))) (consA (attF fld "likeness" (binD subD (varD 0) (cstD (.int (20))))) nilA)))))))
  nxS)))))
theorem ok_l_fields {f : Addr} {fd : FuncData} {k : Nat} {O : Fi → List D → Store → R D} (Fn : Fun K "_law_fields" "_law_fields" s_l_fields f fd) (B : Bu mg) {exm : Str → Str → Option Bool} (T : Txt P w K mg base fld exm) (GO : GsOk K mg G) (C : Cals P w K mg base fld (k + 2) O) (n : Nat) :
    FnOk P w K mg base (L2.CX P w) (k + 3) f fd ["_law_errors"] (spD K mg fld 1 fun ds S => finish (F_l_fields G fld exm O n (startD 2 ds) S)) :=
  fn_D (k := k + 2) (N := ["_law_errors", "_law_found"]) (ps := ["_law_errors"]) Fn sc_l_fields fun cdv A outer s H E hr =>
    (b_cons (s_set 1 sc_l_fields.nd (k_lst false (k_consA plain_att (k_att T.a_thing plain_sub (k_ix (kv 0) k_int)) (k_consA plain_att (k_att T.a_thing plain_sub (k_ix (kv 0) k_int)) (k_consA plain_att (k_att T.a_thing plain_sub (k_ix (kv 0) k_int)) (k_consA plain_att (k_att T.a_thing plain_sub (k_ix (kv 0) k_int)) (k_consA plain_att (k_att T.a_thing plain_sub (k_ix (kv 0) k_int)) k_nilA)))))))
    (b_cons (s_set 1 sc_l_fields.nd (k_add false (kv 1) (k_lst false (k_consA plain_att (k_att T.a_thing plain_sub (k_ix (kv 0) k_int)) (k_consA plain_att (k_att T.a_problem plain_sub (k_ix (kv 0) k_int)) (k_consA plain_att (k_att T.a_problem plain_sub (k_ix (kv 0) k_int)) (k_consA plain_att (k_att T.a_place plain_sub (k_ix (kv 0) k_int)) k_nilA)))))))
    (b_cons (s_set 1 sc_l_fields.nd (k_add false (kv 1) (k_lst false (k_consA plain_att (k_att T.a_most plain_sub (k_ix (kv 0) k_int)) (k_consA plain_att (k_att T.a_place plain_sub (k_ix (kv 0) k_int)) (k_consA plain_att (k_att T.a_states plain_sub (k_ix (kv 0) k_int)) (k_consA plain_att (k_att T.a_name plain_sub (k_ix (kv 0) k_int)) k_nilA)))))))
    (b_cons (s_set 1 sc_l_fields.nd (k_add false (kv 1) (k_lst false (k_consA plain_att (k_att T.a_name plain_sub (k_ix (kv 0) k_int)) (k_consA plain_att (k_att T.a_name plain_sub (k_ix (kv 0) k_int)) (k_consA plain_att (k_att T.a_number plain_sub (k_ix (kv 0) k_int)) (k_consA plain_att (k_att T.a_number plain_sub (k_ix (kv 0) k_int)) k_nilA)))))))
    (b_cons (s_ret (k_add false (kv 1) (k_lst false (k_consA plain_att (k_att T.a_at plain_sub (k_ix (kv 0) k_int)) (k_consA plain_att (k_att T.a_thing plain_sub (k_ix (kv 0) k_int)) (k_consA plain_att (k_att T.a_number plain_sub (k_ix (kv 0) k_int)) (k_consA plain_att (k_att T.a_likeness plain_sub (k_ix (kv 0) k_int)) k_nilA)))))))
    b_nil)))))
theorem sc_l_classes : FnScope ["_law_error", "_law_found"] ["_law_error"] (defScope s_l_classes) := ⟨rfl, rfl, rfl, by decide +kernel, rfl, by decide +kernel, by decide +kernel⟩
def F_l_classes (G : Gs) (fld : Str → Option Str) (exm : Str → Str → Option Bool) (O : Fi → List D → Store → R D) (n : Nat) : FS :=
  (seqS (setS 1 (lstF false (consA (isF G "InvalidTree" (varD 0)) (consA (isF G "InvalidState" (varD 0)) nilA))))
  (seqS (setS 1 (binD (addD false) (varD 1) (lstF false (consA (isF G "InvalidPattern" (varD 0)) (consA (isF G "InvalidRewriting" (varD 0)) nilA)))))
  (seqS (setS 1 (binD (addD false) (varD 1) (lstF false (consA (isF G "InvalidFilling" (varD 0)) (consA (isF G "InvalidCommand" (varD 0)) nilA)))))
  (seqS (setS 1 (binD (addD false) (varD 1) (lstF false (consA (isF G "InvalidScript" (varD 0)) (consA (isF G "InvalidList" (varD 0)) nilA)))))
  (seqS (setS 1 (binD (addD false) (varD 1) (lstF false (consA (isF G "InvalidPath" (varD 0)) (consA (isF G "InvalidCount" (varD 0)) nilA)))))
  (seqS (setS 1 (binD (addD false) (varD 1) (lstF false (consA (isF G "InvalidCommands" (varD 0)) (consA (isF G "NotOneToOne" (varD 0)) nilA)))))
  (seqS (setS 1 (binD (addD false) (varD 1) (lstF false (consA (isF G "InvalidName" (varD 0)) (consA (isF G "NoSuchName" (varD 0)) nilA)))))
  (seqS (setS 1 (binD (addD false) (varD 1) (lstF false (consA (isF G "Failed" (varD 0)) (consA (isF G "InvalidNumber" (varD 0)) nilA)))))
  (seqS (setS 1 (binD (addD false) (varD 1) (lstF false (consA (isF G "Needed" (varD 0)) (consA (isF G "Unreadable" (varD 0)) nilA)))))
  (seqS (setS 1 (binD (addD false) (varD 1) (lstF false (consA (isF G "InvalidLabels" (varD 0)) (consA (isF G "Drops" (varD 0)) nilA)))))
  (seqS (setS 1 (binD (addD false) (varD 1) (lstF false (consA (isF G "InvalidLikeness" (varD 0)) (consA (isF G "NoBack" (varD 0)) nilA)))))
  (seqS (retS (binD (addD false) (varD 1) (lstF false (consA (isF G "TooMany" (varD 0)) (consA (isF G "NothingToUndo" (varD 0)) nilA)))))
  nxS))))))))))))
theorem ok_l_classes {f : Addr} {fd : FuncData} {k : Nat} {O : Fi → List D → Store → R D} (Fn : Fun K "_law_classes" "_law_classes" s_l_classes f fd) (B : Bu mg) {exm : Str → Str → Option Bool} (T : Txt P w K mg base fld exm) (GO : GsOk K mg G) (C : Cals P w K mg base fld (k + 2) O) (n : Nat) :
    FnOk P w K mg base (L2.CX P w) (k + 3) f fd ["_law_error"] (spD K mg fld 1 fun ds S => finish (F_l_classes G fld exm O n (startD 2 ds) S)) :=
  fn_D (k := k + 2) (N := ["_law_error", "_law_found"]) (ps := ["_law_error"]) Fn sc_l_classes fun cdv A outer s H E hr =>
    (b_cons (s_set 1 sc_l_classes.nd (k_lst false (k_consA plain_call1 (k_isC GO B.isinstance T.m_InvalidTree.choose_spec plain_name (kv 0)) (k_consA plain_call1 (k_isC GO B.isinstance T.m_InvalidState.choose_spec plain_name (kv 0)) k_nilA))))
    (b_cons (s_set 1 sc_l_classes.nd (k_add false (kv 1) (k_lst false (k_consA plain_call1 (k_isC GO B.isinstance T.m_InvalidPattern.choose_spec plain_name (kv 0)) (k_consA plain_call1 (k_isC GO B.isinstance T.m_InvalidRewriting.choose_spec plain_name (kv 0)) k_nilA)))))
    (b_cons (s_set 1 sc_l_classes.nd (k_add false (kv 1) (k_lst false (k_consA plain_call1 (k_isC GO B.isinstance T.m_InvalidFilling.choose_spec plain_name (kv 0)) (k_consA plain_call1 (k_isC GO B.isinstance T.m_InvalidCommand.choose_spec plain_name (kv 0)) k_nilA)))))
    (b_cons (s_set 1 sc_l_classes.nd (k_add false (kv 1) (k_lst false (k_consA plain_call1 (k_isC GO B.isinstance T.m_InvalidScript.choose_spec plain_name (kv 0)) (k_consA plain_call1 (k_isC GO B.isinstance T.m_InvalidList.choose_spec plain_name (kv 0)) k_nilA)))))
    (b_cons (s_set 1 sc_l_classes.nd (k_add false (kv 1) (k_lst false (k_consA plain_call1 (k_isC GO B.isinstance T.m_InvalidPath.choose_spec plain_name (kv 0)) (k_consA plain_call1 (k_isC GO B.isinstance T.m_InvalidCount.choose_spec plain_name (kv 0)) k_nilA)))))
    (b_cons (s_set 1 sc_l_classes.nd (k_add false (kv 1) (k_lst false (k_consA plain_call1 (k_isC GO B.isinstance T.m_InvalidCommands.choose_spec plain_name (kv 0)) (k_consA plain_call1 (k_isC GO B.isinstance T.m_NotOneToOne.choose_spec plain_name (kv 0)) k_nilA)))))
    (b_cons (s_set 1 sc_l_classes.nd (k_add false (kv 1) (k_lst false (k_consA plain_call1 (k_isC GO B.isinstance T.m_InvalidName.choose_spec plain_name (kv 0)) (k_consA plain_call1 (k_isC GO B.isinstance T.m_NoSuchName.choose_spec plain_name (kv 0)) k_nilA)))))
    (b_cons (s_set 1 sc_l_classes.nd (k_add false (kv 1) (k_lst false (k_consA plain_call1 (k_isC GO B.isinstance T.m_Failed.choose_spec plain_name (kv 0)) (k_consA plain_call1 (k_isC GO B.isinstance T.m_InvalidNumber.choose_spec plain_name (kv 0)) k_nilA)))))
    (b_cons (s_set 1 sc_l_classes.nd (k_add false (kv 1) (k_lst false (k_consA plain_call1 (k_isC GO B.isinstance T.m_Needed.choose_spec plain_name (kv 0)) (k_consA plain_call1 (k_isC GO B.isinstance T.m_Unreadable.choose_spec plain_name (kv 0)) k_nilA)))))
    (b_cons (s_set 1 sc_l_classes.nd (k_add false (kv 1) (k_lst false (k_consA plain_call1 (k_isC GO B.isinstance T.m_InvalidLabels.choose_spec plain_name (kv 0)) (k_consA plain_call1 (k_isC GO B.isinstance T.m_Drops.choose_spec plain_name (kv 0)) k_nilA)))))
    (b_cons (s_set 1 sc_l_classes.nd (k_add false (kv 1) (k_lst false (k_consA plain_call1 (k_isC GO B.isinstance T.m_InvalidLikeness.choose_spec plain_name (kv 0)) (k_consA plain_call1 (k_isC GO B.isinstance T.m_NoBack.choose_spec plain_name (kv 0)) k_nilA)))))
    (b_cons (s_ret (k_add false (kv 1) (k_lst false (k_consA plain_call1 (k_isC GO B.isinstance T.m_TooMany.choose_spec plain_name (kv 0)) (k_consA plain_call1 (k_isC GO B.isinstance T.m_NothingToUndo.choose_spec plain_name (kv 0)) k_nilA)))))
    b_nil))))))))))))
theorem sc_l_main : FnScope ["_law_script", "_law_some", "_law_turn", "_law_k", "_law_error", "_law_purse_here", "_law_picked", "_law_kept", "_law_held", "_law_item", "_law_other"] ["_law_script"] (defScope s_l_main) := ⟨rfl, rfl, rfl, by decide +kernel, rfl, by decide +kernel, by decide +kernel⟩
def F_l_main (G : Gs) (fld : Str → Option Str) (exm : Str → Str → Option Bool) (O : Fi → List D → Store → R D) (n : Nat) : FS :=
  (seqS (setS 1 (fnF (O .l_bare) nilA))
  (seqS (forS (enA (consA (varD 1) nilA)) (setTup 2 (setCons (setN 3) (setCons (setN 4) setNil))) (seqS (ifS (tstF (binD (op2 .ne false) (fnF (O .l_classes) (consA (varD 4) nilA)) (lcF false (rng1F (consA (cstD (.int (24))) nilA)) (setN 10) yesT (binD (op2 .eq false) (varD 3) (varD 10)) (([("_law_other", 10)] : List (Str × Nat)).map (·.2)) n))) (seqS (retS (cstD (.bl false)))
  nxS) nxS)
  (seqS (ifS (orF (notF (truT (isF G "CursorError" (varD 4)))) (notF (truT (isF G "ValueError" (varD 4))))) (seqS (retS (cstD (.bl false)))
  nxS) nxS)
  nxS)) n)
  (seqS (ifS (truT (cstD (.bl false))) (seqS (retS (cstD (.bl false)))
  nxS) nxS)
  (seqS (ifS (tstF (binD (op2 .ne false) (fnF (biD G .len false) (consA (fnF (O .l_fields) (consA (varD 1) nilA)) nilA)) (cstD (.int (21))))) (seqS (retS (cstD (.bl false)))
  nxS) nxS)
  (seqS (forS (rng1F (consA (binD (addD false) (cstD (.int (1))) (fnF (biD G .min2 false) (consA (cstD (.int (4))) (consA (fnF (biD G .len false) (consA (varD 0) nilA)) nilA)))) nilA)) (setN 2) (seqS (setS 5 (fnF (O .l_purse) (consA (varD 0) (consA (varD 2) nilA))))
  (seqS (setS 6 (lstF false (consA (cstD .non) (consA (cstD (.int (0))) (consA (cstD (.str "")) (consA (cstD (.str " a\n")) (consA (tupF (consA (cstD (.int (0))) (consA (cstD (.int (1))) nilA))) (consA (lstF false (consA (cstD (.int (1))) (consA (lstF false (consA (cstD (.int (2))) nilA)) nilA))) (consA (dctF false ["a"] (consA (cstD (.int (1))) nilA)) (consA (cstD (.bl true)) (consA (negF (cstD (.int (1)))) (consA (binD powW (cstD (.int (10))) (cstD (.int (40)))) (consA (tupF (consA (cstD (.str "both")) (consA (cstD (.int (0))) (consA (cstD (.int (1))) nilA)))) (consA (lstF false (consA (cstD (.int (2))) (consA (cstD (.int (1))) nilA))) nilA))))))))))))))
  (seqS (parS 9 10 (consA (binD subD (varD 6) (fnF (O .l_draw) (consA (varD 5) (consA (cstD (.int (12))) nilA)))) (consA (binD subD (varD 6) (fnF (O .l_draw) (consA (varD 5) (consA (cstD (.int (12))) nilA)))) nilA)))
  (seqS (setS 7 (lstF false (consA (strA (consA (varD 9) nilA)) (consA (strA (consA (varD 10) nilA)) nilA))))
  (seqS (setS 8 (lstF false (consA (fnF (O .l_by_place) (consA (varD 9) nilA)) (consA (fnF (O .l_by_name) (consA (varD 10) nilA)) (consA (fnF (O .l_bare) nilA) (consA (fnF (O .l_by_place) (consA (varD 10) nilA)) (consA (fnF (O .l_by_name) (consA (varD 9) nilA)) nilA)))))))
  (seqS (ifS (tstF (binD neLD (lstF false (consA (fnF (O .l_fields) (consA (binD subD (varD 8) (cstD (.int (0)))) nilA)) (consA (fnF (O .l_fields) (consA (binD subD (varD 8) (cstD (.int (1)))) nilA)) nilA))) (lstF false (consA (binD (mulD false) (lstF false (consA (varD 9) nilA)) (cstD (.int (21)))) (consA (binD (mulD false) (lstF false (consA (varD 10) nilA)) (cstD (.int (21)))) nilA))))) (seqS (retS (cstD (.bl false)))
  nxS) nxS)
  (seqS (ifS (tstF (binD neLD (lstF false (consA (fnF (O .l_fields) (consA (binD subD (varD 8) (cstD (.int (3)))) nilA)) (consA (fnF (O .l_fields) (consA (binD subD (varD 8) (cstD (.int (4)))) nilA)) nilA))) (lstF false (consA (binD (mulD false) (lstF false (consA (varD 10) nilA)) (cstD (.int (21)))) (consA (binD (mulD false) (lstF false (consA (varD 9) nilA)) (cstD (.int (21)))) nilA))))) (seqS (retS (cstD (.bl false)))
  nxS) nxS)
  (seqS (ifS (tstF (binD neLD (lstF false (consA (strA (consA (varD 9) nilA)) (consA (strA (consA (varD 10) nilA)) nilA))) (varD 7))) (seqS (retS (cstD (.bl false)))
  nxS) nxS)
  nxS)))))))) n)
  (seqS (retS (cstD (.bl true)))
  nxS))))))
theorem ok_l_main {f : Addr} {fd : FuncData} {k : Nat} {O : Fi → List D → Store → R D} (Fn : Fun K "law" "law" s_l_main f fd) (B : Bu mg) {exm : Str → Str → Option Bool} (T : Txt P w K mg base fld exm) (GO : GsOk K mg G) (C : Cals P w K mg base fld (k + 2) O) (hk : Room (k + 3) callerA) (n : Nat) :
    RunA P w K mg base f fd ["_law_script"] (spD K mg fld 1 fun ds S => finish (F_l_main G fld exm O n (startD 11 ds) S)) :=
  runA_D (k := k + 2) (N := ["_law_script", "_law_some", "_law_turn", "_law_k", "_law_error", "_law_purse_here", "_law_picked", "_law_kept", "_law_held", "_law_item", "_law_other"]) (ps := ["_law_script"]) Fn sc_l_main hk fun cdv s H E hr =>
    (b_cons (s_set 1 sc_l_main.nd (k_cal0 takesX C.l_bare hr))
    (b_cons (s_for1 ownX n (i_enA B.enumerate plain_name (k_consA plain_name (kv 1) k_nilA)) (g_tup 2 (g_cons (g_name 3 sc_l_main.nd) (g_cons (g_name 4 sc_l_main.nd) dgs_nil))) (b_cons (s_if (t_ne (room_units hr) (k_cal takesX C.l_classes hr (plain_allC plain_name plain_allN) (k_consA plain_name (kv 4) k_nilA) (len_consA len_nilA)) (k_lc false n [("_law_other", 10)] sc_l_main.nd (i_rng1 B.range plain_const (k_consA plain_const k_int k_nilA)) (fun _ _ _ _ _ => (g_name 10 sc_l_main.nd)) (fun _ _ _ _ _ => c_nil) (fun _ _ _ _ _ => (k_eq (room_units hr) (kv 3) (kv 10))) sl_name)) (b_cons (s_ret k_bl)
    b_nil) b_nil)
    (b_cons (s_if (dw_pt (w_or (t_not (t_val (k_isC GO B.isinstance T.m_CursorError.choose_spec plain_name (kv 4)))) (w_or1 (t_not (t_val (k_isB (T := "ValueError") GO B.isinstance B.ValueError (by decide +kernel) plain_name (kv 4))))))) (b_cons (s_ret k_bl)
    b_nil) b_nil)
    b_nil)))
    (b_cons (s_if (t_val (k_isVE T.nv_CursorError B.isinstance B.ValueError)) (b_cons (s_ret k_bl)
    b_nil) b_nil)
    (b_cons (s_if (t_ne (room_units hr) (k_len B.len plain_call1 (k_consA plain_call1 (k_cal takesX C.l_fields hr (plain_allC plain_name plain_allN) (k_consA plain_name (kv 1) k_nilA) (len_consA len_nilA)) k_nilA)) k_int) (b_cons (s_ret k_bl)
    b_nil) b_nil)
    (b_cons (s_for1 ownX n (i_rng1 B.range plain_bin (k_consA plain_bin (k_add false k_int (k_min2 plain_const plain_call1 (k_consA plain_const k_int (k_consA plain_call1 (k_len B.len plain_name (k_consA plain_name (kv 0) k_nilA)) k_nilA)) B.min)) k_nilA)) (g_name 2 sc_l_main.nd) (b_cons (s_set 5 sc_l_main.nd (k_cal takesX C.l_purse hr (plain_allC plain_name (plain_allC plain_name plain_allN)) (k_consA plain_name (kv 0) (k_consA plain_name (kv 2) k_nilA)) (len_consA (len_consA len_nilA))))
    (b_cons (s_set 6 sc_l_main.nd (k_lst false (k_consA plain_const k_non (k_consA plain_const k_int (k_consA plain_const k_str (k_consA plain_const k_str (k_consA plain_tup (k_tup (k_consA plain_const k_int (k_consA plain_const k_int k_nilA))) (k_consA plain_lst (k_lst false (k_consA plain_const k_int (k_consA plain_lst (k_lst false (k_consA plain_const k_int k_nilA)) k_nilA))) (k_consA plain_dict (k_dct false (dp_cons k_int dp_nil) rfl rfl (by simp) (by decide) (by decide)) (k_consA plain_const k_bl (k_consA plain_un (k_neg k_int) (k_consA plain_bin (k_powW k_int k_int) (k_consA plain_tup (k_tup (k_consA plain_const k_str (k_consA plain_const k_int (k_consA plain_const k_int k_nilA)))) (k_consA plain_lst (k_lst false (k_consA plain_const k_int (k_consA plain_const k_int k_nilA))) k_nilA))))))))))))))
    (b_cons (s_par 9 10 sc_l_main.nd (k_consA plain_sub (k_ix (kv 6) (k_cal takesX C.l_draw hr (plain_allC plain_name (plain_allC plain_const plain_allN)) (k_consA plain_name (kv 5) (k_consA plain_const k_int k_nilA)) (len_consA (len_consA len_nilA)))) (k_consA plain_sub (k_ix (kv 6) (k_cal takesX C.l_draw hr (plain_allC plain_name (plain_allC plain_const plain_allN)) (k_consA plain_name (kv 5) (k_consA plain_const k_int k_nilA)) (len_consA (len_consA len_nilA)))) k_nilA)))
    (b_cons (s_set 7 sc_l_main.nd (k_lst false (k_consA plain_call1 (k_strX rfl (room_units hr) plain_name (k_consA plain_name (kv 9) k_nilA) B.str) (k_consA plain_call1 (k_strX rfl (room_units hr) plain_name (k_consA plain_name (kv 10) k_nilA) B.str) k_nilA))))
    (b_cons (s_set 8 sc_l_main.nd (k_lst false (k_consA plain_call1 (k_cal takesX C.l_by_place hr (plain_allC plain_name plain_allN) (k_consA plain_name (kv 9) k_nilA) (len_consA len_nilA)) (k_consA plain_call1 (k_cal takesX C.l_by_name hr (plain_allC plain_name plain_allN) (k_consA plain_name (kv 10) k_nilA) (len_consA len_nilA)) (k_consA plain_call0 (k_cal0 takesX C.l_bare hr) (k_consA plain_call1 (k_cal takesX C.l_by_place hr (plain_allC plain_name plain_allN) (k_consA plain_name (kv 10) k_nilA) (len_consA len_nilA)) (k_consA plain_call1 (k_cal takesX C.l_by_name hr (plain_allC plain_name plain_allN) (k_consA plain_name (kv 9) k_nilA) (len_consA len_nilA)) k_nilA)))))))
    (b_cons (s_if (t_neL (room_units hr) (k_lst false (k_consA plain_call1 (k_cal takesX C.l_fields hr (plain_allC plain_sub plain_allN) (k_consA plain_sub (k_ix (kv 8) k_int) k_nilA) (len_consA len_nilA)) (k_consA plain_call1 (k_cal takesX C.l_fields hr (plain_allC plain_sub plain_allN) (k_consA plain_sub (k_ix (kv 8) k_int) k_nilA) (len_consA len_nilA)) k_nilA))) (k_lst false (k_consA plain_bin (k_mul false (k_lst false (k_consA plain_name (kv 9) k_nilA)) k_int) (k_consA plain_bin (k_mul false (k_lst false (k_consA plain_name (kv 10) k_nilA)) k_int) k_nilA)))) (b_cons (s_ret k_bl)
    b_nil) b_nil)
    (b_cons (s_if (t_neL (room_units hr) (k_lst false (k_consA plain_call1 (k_cal takesX C.l_fields hr (plain_allC plain_sub plain_allN) (k_consA plain_sub (k_ix (kv 8) k_int) k_nilA) (len_consA len_nilA)) (k_consA plain_call1 (k_cal takesX C.l_fields hr (plain_allC plain_sub plain_allN) (k_consA plain_sub (k_ix (kv 8) k_int) k_nilA) (len_consA len_nilA)) k_nilA))) (k_lst false (k_consA plain_bin (k_mul false (k_lst false (k_consA plain_name (kv 10) k_nilA)) k_int) (k_consA plain_bin (k_mul false (k_lst false (k_consA plain_name (kv 9) k_nilA)) k_int) k_nilA)))) (b_cons (s_ret k_bl)
    b_nil) b_nil)
    (b_cons (s_if (t_neL (room_units hr) (k_lst false (k_consA plain_call1 (k_strX rfl (room_units hr) plain_name (k_consA plain_name (kv 9) k_nilA) B.str) (k_consA plain_call1 (k_strX rfl (room_units hr) plain_name (k_consA plain_name (kv 10) k_nilA) B.str) k_nilA))) (kv 7)) (b_cons (s_ret k_bl)
    b_nil) b_nil)
    b_nil)))))))))
    (b_cons (s_ret k_bl)
    b_nil))))))
end
end MI.K06

set_option Elab.async false
set_option linter.all false
set_option maxRecDepth 100000
set_option maxHeartbeats 4000000
namespace MI.K06
open PySem PySem.Spec L2 MI
open PyProof.Rows hiding St
/-- the bodies -/
def body (G : Gs) (fld : Str → Option Str) (exm : Str → Str → Option Bool) (O : Fi → List D → Store → R D) (n : Nat) : Fi → List D → Store → R D
  | .l_mixed => fun ds S => finish (F_l_mixed G fld exm O n (startD 3 ds) S)
  | .l_purse => fun ds S => finish (F_l_purse G fld exm O n (startD 3 ds) S)
  | .l_draw => fun ds S => finish (F_l_draw G fld exm O n (startD 3 ds) S)
  | .l_by_place => fun ds S => finish (F_l_by_place G fld exm O n (startD 2 ds) S)
  | .l_by_name => fun ds S => finish (F_l_by_name G fld exm O n (startD 2 ds) S)
  | .l_bare => fun ds S => finish (F_l_bare G fld exm O n (startD 1 ds) S)
  | .l_fields => fun ds S => finish (F_l_fields G fld exm O n (startD 2 ds) S)
  | .l_classes => fun ds S => finish (F_l_classes G fld exm O n (startD 2 ds) S)
  | .l_main => fun _ _ => .bad
/-- k further levels of calls -/
def run (G : Gs) (fld : Str → Option Str) (exm : Str → Str → Option Bool) (n : Nat) : Nat → Fi → List D → Store → R D
  | 0 => fun _ _ _ => .bad
  | 1 => fun _ _ _ => .bad
  | 2 => fun _ _ _ => .bad
  | k + 3 => body G fld exm (run G fld exm n (k + 2)) n
def runMain (G : Gs) (fld : Str → Option Str) (exm : Str → Str → Option Bool) (n k : Nat) : List D → Store → R D := fun ds S => finish (F_l_main G fld exm (run G fld exm n k) n (startD 11 ds) S)
structure Defs (K : PySem.W.Frag) (mg : Str → Option Value) (fld : Str → Option Str) : Prop where
  l_mixed : Def1 K mg "_law_mixed" s_l_mixed ["_law_cell", "_law_k"]
  l_purse : Def1 K mg "_law_purse" s_l_purse ["_law_cells", "_law_spot"]
  l_draw : Def1 K mg "_law_draw" s_l_draw ["_law_purse_here", "_law_out_of"]
  l_by_place : Def1 K mg "_law_by_place" s_l_by_place ["_law_item"]
  l_by_name : Def1 K mg "_law_by_name" s_l_by_name ["_law_item"]
  l_bare : Def1 K mg "_law_bare" s_l_bare []
  l_fields : Def1 K mg "_law_fields" s_l_fields ["_law_errors"]
  l_classes : Def1 K mg "_law_classes" s_l_classes ["_law_error"]
  l_main : Def1 K mg "law" s_l_main ["_law_script"]
section
variable {P : Program} {w : World} {K : PySem.W.Frag} {mg : Str → Option Value} {base : Heap} {fld : Str → Option Str} {exm : Str → Str → Option Bool} {G : Gs}
theorem cal_bad {x : Str} {st : Stmt} {ps : List Str} {k : Nat} (d : Def1 K mg x st ps) : Cal P w K mg base fld k x ps (fun _ _ => .bad) := by
  obtain ⟨f, fd, Fn, hm, hb, hw⟩ := d
  exact ⟨f, fd, hm, Fn.kp, hb, hw, fun vs H Q E h => h.1, fun A outer s H args us vs Q E _ _ _ _ h => by
    obtain ⟨_, ω, ds, _, _, _, p⟩ := h
    exact p.elim⟩
theorem cal_of {x : Str} {st : Stmt} {ps : List Str} {k : Nat} {g : List D → Store → R D} (d : Def1 K mg x st ps) (h : ∀ {f : Addr} {fd : FuncData}, Fun K x x st f fd → FnOk P w K mg base (L2.CX P w) k f fd ps (spD K mg fld ps.length g)) : Cal P w K mg base fld k x ps g := by
  obtain ⟨f, fd, Fn, hm, hb, hw⟩ := d
  exact ⟨f, fd, hm, Fn.kp, hb, hw, h Fn⟩
theorem cals (d : Defs K mg fld) (B : Bu mg) (T : Txt P w K mg base fld exm) (GO : GsOk K mg G) (n : Nat) : ∀ k, Cals P w K mg base fld k (run G fld exm n k)
  | 0 => ⟨cal_bad d.l_mixed, cal_bad d.l_purse, cal_bad d.l_draw, cal_bad d.l_by_place, cal_bad d.l_by_name, cal_bad d.l_bare, cal_bad d.l_fields, cal_bad d.l_classes, cal_bad d.l_main⟩
  | 1 => ⟨cal_bad d.l_mixed, cal_bad d.l_purse, cal_bad d.l_draw, cal_bad d.l_by_place, cal_bad d.l_by_name, cal_bad d.l_bare, cal_bad d.l_fields, cal_bad d.l_classes, cal_bad d.l_main⟩
  | 2 => ⟨cal_bad d.l_mixed, cal_bad d.l_purse, cal_bad d.l_draw, cal_bad d.l_by_place, cal_bad d.l_by_name, cal_bad d.l_bare, cal_bad d.l_fields, cal_bad d.l_classes, cal_bad d.l_main⟩
  | k + 3 => ⟨cal_of d.l_mixed fun Fn => ok_l_mixed Fn B T GO (cals d B T GO n (k + 2)) n, cal_of d.l_purse fun Fn => ok_l_purse Fn B T GO (cals d B T GO n (k + 2)) n, cal_of d.l_draw fun Fn => ok_l_draw Fn B T GO (cals d B T GO n (k + 2)) n, cal_of d.l_by_place fun Fn => ok_l_by_place Fn B T GO (cals d B T GO n (k + 2)) n, cal_of d.l_by_name fun Fn => ok_l_by_name Fn B T GO (cals d B T GO n (k + 2)) n, cal_of d.l_bare fun Fn => ok_l_bare Fn B T GO (cals d B T GO n (k + 2)) n, cal_of d.l_fields fun Fn => ok_l_fields Fn B T GO (cals d B T GO n (k + 2)) n, cal_of d.l_classes fun Fn => ok_l_classes Fn B T GO (cals d B T GO n (k + 2)) n, cal_bad d.l_main⟩
end
end MI.K06

set_option Elab.async false
set_option linter.all false
set_option maxRecDepth 100000
set_option maxHeartbeats 8000000
namespace MI.K06
open PySem PySem.Spec L2 MI
open PyProof.Rows hiding St
def fldL : List (Str × Str) := [("Drops", "number"), ("Failed", "name"), ("InvalidCommand", "thing"), ("InvalidCommands", "place"), ("InvalidCount", "most"), ("InvalidFilling", "thing"), ("InvalidLabels", "thing"), ("InvalidLikeness", "likeness"), ("InvalidList", "problem"), ("InvalidName", "name"), ("InvalidNumber", "number"), ("InvalidPath", "place"), ("InvalidPattern", "thing"), ("InvalidRewriting", "thing"), ("InvalidScript", "problem"), ("InvalidState", "thing"), ("InvalidTree", "thing"), ("Needed", "number"), ("NoSuchName", "name"), ("NotOneToOne", "states"), ("Unreadable", "at")]
def fldT : Str → Option Str := fldOf fldL
def exmT : Str → Str → Option Bool := fun _ _ => none
def bases : List Str := ["NoneType", "bool", "int", "str", "tuple", "list", "dict"]
def names : List Str := ["Drops", "Failed", "InvalidCommand", "InvalidCommands", "InvalidCount", "InvalidFilling", "InvalidLabels", "InvalidLikeness", "InvalidList", "InvalidName", "InvalidNumber", "InvalidPath", "InvalidPattern", "InvalidRewriting", "InvalidScript", "InvalidState", "InvalidTree", "Needed", "NoBack", "NoSuchName", "NotOneToOne", "NothingToUndo", "TooMany", "Unreadable"]
def GT : Gs := ⟨subC names "CursorError"⟩
def fuel : Nat := 1000000
end MI.K06

set_option Elab.async false
set_option linter.all false
set_option maxRecDepth 100000
set_option maxHeartbeats 1000000
namespace MI.K06
open PySem MI
theorem run_succ (k : Nat) (f : Fi) : run GT fldT exmT fuel (k + 3) f = body GT fldT exmT (run GT fldT exmT fuel (k + 2)) fuel f := rfl
theorem get_last (S : Store) (c : Cell) : (S ++ [c])[S.length]? = some c := by simp
theorem set_last (S : Store) (c c' : Cell) : (S ++ [c]).set S.length c' = S ++ [c'] := by
  rw [List.set_append_right _ _ (Nat.le_refl _)]; simp
theorem seq_last (S : Store) (xs : List D) : seqOf (S ++ [.lst xs]) (.ref S.length) = some xs := by
  have e : MI.top (S ++ [Cell.lst xs]) (D.ref S.length) = .lst xs := by
    unfold MI.top
    simp only [get_last]
  unfold seqOf
  rw [e]
/-- a purse at place p, that has been drawn from at most m times -/
def Pu (S : Store) (p m : Nat) : Prop := ∃ a b c : Int, S[p]? = some (.lst [.int a, .int b, .int c]) ∧ 0 ≤ a ∧ 0 ≤ b ∧ b < 2147483648 ∧ 0 ≤ c ∧ c ≤ m
theorem Pu.mono {S : Store} {p m n : Nat} (h : Pu S p m) (hn : m ≤ n) : Pu S p n := by
  obtain ⟨a, b, c, h0, h1, h2, h3, h4, h5⟩ := h
  exact ⟨a, b, c, h0, h1, h2, h3, h4, by omega⟩
theorem Pu.app {S : Store} {p m : Nat} (h : Pu S p m) (G : Store) : Pu (S ++ G) p m := by
  obtain ⟨a, b, c, h0, h1⟩ := h
  refine ⟨a, b, c, ?_, h1⟩
  rw [List.getElem?_append_left (List.getElem?_eq_some_iff.mp h0).1]
  exact h0
theorem mulOk_r {i j : Int} (h1 : -(2 ^ 64) < j) (h2 : j < 2 ^ 64) : mulOk i j = true := by
  unfold mulOk; simp only [h1, h2, decide_true, Bool.and_self, Bool.or_true]
theorem mulOk_l {i j : Int} (h1 : -(2 ^ 64) < i) (h2 : i < 2 ^ 64) : mulOk i j = true := by
  unfold mulOk; simp only [h1, h2, decide_true, Bool.and_self, Bool.true_or]
theorem run_mixed (k : Nat) (b c : Int) (S : Store) (h1 : 0 ≤ b) (h2 : b < 2147483648) (h3 : 0 ≤ c) (h4 : c ≤ 2 ^ 40) :
    ∃ x : Int, run GT fldT exmT fuel (k + 3) .l_mixed [.int b, .int c] S = .ok (.int x) S ∧ 0 ≤ x := by
  have q : (run GT fldT exmT fuel (k + 3) .l_mixed [.int b, .int c] S).w noErr fun r T => ∃ x : Int, r = .int x ∧ T = S ∧ 0 ≤ x := by
    rw [run_succ k]
    refine w_fin ?_
    unfold F_l_mixed
    (repeat' first
    | with_reducible refine w_seq ?_ | with_reducible refine w_nx ?_ | with_reducible refine w_ct ?_ | with_reducible refine w_br ?_ | with_reducible refine w_rtN ?_
    | with_reducible refine w_ret ?_ | with_reducible refine w_set ?_ | with_reducible refine w_expr ?_ | with_reducible refine w_if ?_ | with_reducible refine w_ite_t ?_ | with_reducible refine w_ite_f ?_
    | with_reducible refine w_raise ?_ | with_reducible refine w_setSub ?_
    | with_reducible refine w_var (by with_unfolding_all exact rfl) ?_ | with_reducible refine w_cst ?_ | with_reducible refine w_bin ?_ | with_reducible refine w_fn ?_ | with_reducible refine w_nilA ?_ | with_reducible refine w_consA ?_
    | with_reducible refine w_tup ?_ | with_reducible refine w_lstF ?_ | with_reducible refine w_lstT ?_ | with_reducible refine w_tst ?_ | with_reducible refine tst_bl ?_ | with_reducible refine w_tru ?_ | with_reducible refine tru_bl ?_
    | with_reducible refine w_not ?_ | with_reducible refine w_andF ?_ | with_reducible refine w_orF ?_ | with_reducible refine w_pt ?_ | with_reducible refine w_pf ?_ | with_reducible refine w_iteT ?_ | with_reducible refine w_iteF ?_ | with_reducible refine w_ok ?_
    | with_reducible refine w_andV ?_ | with_reducible refine w_orV ?_ | with_reducible refine bl_bl ?_ | with_reducible refine w_iteV ?_ | with_reducible refine w_noO ?_ | with_reducible refine w_soO ?_ | with_reducible refine int_int ?_
    | with_reducible refine w_sl ?_ | with_reducible refine w_is ?_ | with_reducible refine w_add ?_ | with_reducible refine w_sub ?_ | with_reducible refine w_lt ?_ | with_reducible refine w_gt ?_ | with_reducible refine w_eqI ?_ | with_reducible refine w_neI ?_ | with_reducible refine w_int ?_
    | with_reducible refine fin_ret ?_ | with_reducible refine fin_err ?_ | with_reducible refine w_asg ?_ | with_reducible refine w_try ?_ | with_reducible refine w_for ?_ | with_reducible refine w_rng ?_ | with_reducible refine w_lcF ?_ | with_reducible refine w_seqF ?_ | with_reducible refine ble_len (by with_unfolding_all exact rfl) ?_)
    refine w_mul (mulOk_r (by decide) (by decide)) ?_
    (repeat' first
    | with_reducible refine w_seq ?_ | with_reducible refine w_nx ?_ | with_reducible refine w_ct ?_ | with_reducible refine w_br ?_ | with_reducible refine w_rtN ?_
    | with_reducible refine w_ret ?_ | with_reducible refine w_set ?_ | with_reducible refine w_expr ?_ | with_reducible refine w_if ?_ | with_reducible refine w_ite_t ?_ | with_reducible refine w_ite_f ?_
    | with_reducible refine w_raise ?_ | with_reducible refine w_setSub ?_
    | with_reducible refine w_var (by with_unfolding_all exact rfl) ?_ | with_reducible refine w_cst ?_ | with_reducible refine w_bin ?_ | with_reducible refine w_fn ?_ | with_reducible refine w_nilA ?_ | with_reducible refine w_consA ?_
    | with_reducible refine w_tup ?_ | with_reducible refine w_lstF ?_ | with_reducible refine w_lstT ?_ | with_reducible refine w_tst ?_ | with_reducible refine tst_bl ?_ | with_reducible refine w_tru ?_ | with_reducible refine tru_bl ?_
    | with_reducible refine w_not ?_ | with_reducible refine w_andF ?_ | with_reducible refine w_orF ?_ | with_reducible refine w_pt ?_ | with_reducible refine w_pf ?_ | with_reducible refine w_iteT ?_ | with_reducible refine w_iteF ?_ | with_reducible refine w_ok ?_
    | with_reducible refine w_andV ?_ | with_reducible refine w_orV ?_ | with_reducible refine bl_bl ?_ | with_reducible refine w_iteV ?_ | with_reducible refine w_noO ?_ | with_reducible refine w_soO ?_ | with_reducible refine int_int ?_
    | with_reducible refine w_sl ?_ | with_reducible refine w_is ?_ | with_reducible refine w_add ?_ | with_reducible refine w_sub ?_ | with_reducible refine w_lt ?_ | with_reducible refine w_gt ?_ | with_reducible refine w_eqI ?_ | with_reducible refine w_neI ?_ | with_reducible refine w_int ?_
    | with_reducible refine fin_ret ?_ | with_reducible refine fin_err ?_ | with_reducible refine w_asg ?_ | with_reducible refine w_try ?_ | with_reducible refine w_for ?_ | with_reducible refine w_rng ?_ | with_reducible refine w_lcF ?_ | with_reducible refine w_seqF ?_ | with_reducible refine ble_len (by with_unfolding_all exact rfl) ?_)
    refine w_mul (mulOk_l (by decide) (by decide)) ?_
    (repeat' first
    | with_reducible refine w_seq ?_ | with_reducible refine w_nx ?_ | with_reducible refine w_ct ?_ | with_reducible refine w_br ?_ | with_reducible refine w_rtN ?_
    | with_reducible refine w_ret ?_ | with_reducible refine w_set ?_ | with_reducible refine w_expr ?_ | with_reducible refine w_if ?_ | with_reducible refine w_ite_t ?_ | with_reducible refine w_ite_f ?_
    | with_reducible refine w_raise ?_ | with_reducible refine w_setSub ?_
    | with_reducible refine w_var (by with_unfolding_all exact rfl) ?_ | with_reducible refine w_cst ?_ | with_reducible refine w_bin ?_ | with_reducible refine w_fn ?_ | with_reducible refine w_nilA ?_ | with_reducible refine w_consA ?_
    | with_reducible refine w_tup ?_ | with_reducible refine w_lstF ?_ | with_reducible refine w_lstT ?_ | with_reducible refine w_tst ?_ | with_reducible refine tst_bl ?_ | with_reducible refine w_tru ?_ | with_reducible refine tru_bl ?_
    | with_reducible refine w_not ?_ | with_reducible refine w_andF ?_ | with_reducible refine w_orF ?_ | with_reducible refine w_pt ?_ | with_reducible refine w_pf ?_ | with_reducible refine w_iteT ?_ | with_reducible refine w_iteF ?_ | with_reducible refine w_ok ?_
    | with_reducible refine w_andV ?_ | with_reducible refine w_orV ?_ | with_reducible refine bl_bl ?_ | with_reducible refine w_iteV ?_ | with_reducible refine w_noO ?_ | with_reducible refine w_soO ?_ | with_reducible refine int_int ?_
    | with_reducible refine w_sl ?_ | with_reducible refine w_is ?_ | with_reducible refine w_add ?_ | with_reducible refine w_sub ?_ | with_reducible refine w_lt ?_ | with_reducible refine w_gt ?_ | with_reducible refine w_eqI ?_ | with_reducible refine w_neI ?_ | with_reducible refine w_int ?_
    | with_reducible refine fin_ret ?_ | with_reducible refine fin_err ?_ | with_reducible refine w_asg ?_ | with_reducible refine w_try ?_ | with_reducible refine w_for ?_ | with_reducible refine w_rng ?_ | with_reducible refine w_lcF ?_ | with_reducible refine w_seqF ?_ | with_reducible refine ble_len (by with_unfolding_all exact rfl) ?_)
    refine w_mul (mulOk_r (by omega) (by omega)) ?_
    (repeat' first
    | with_reducible refine w_seq ?_ | with_reducible refine w_nx ?_ | with_reducible refine w_ct ?_ | with_reducible refine w_br ?_ | with_reducible refine w_rtN ?_
    | with_reducible refine w_ret ?_ | with_reducible refine w_set ?_ | with_reducible refine w_expr ?_ | with_reducible refine w_if ?_ | with_reducible refine w_ite_t ?_ | with_reducible refine w_ite_f ?_
    | with_reducible refine w_raise ?_ | with_reducible refine w_setSub ?_
    | with_reducible refine w_var (by with_unfolding_all exact rfl) ?_ | with_reducible refine w_cst ?_ | with_reducible refine w_bin ?_ | with_reducible refine w_fn ?_ | with_reducible refine w_nilA ?_ | with_reducible refine w_consA ?_
    | with_reducible refine w_tup ?_ | with_reducible refine w_lstF ?_ | with_reducible refine w_lstT ?_ | with_reducible refine w_tst ?_ | with_reducible refine tst_bl ?_ | with_reducible refine w_tru ?_ | with_reducible refine tru_bl ?_
    | with_reducible refine w_not ?_ | with_reducible refine w_andF ?_ | with_reducible refine w_orF ?_ | with_reducible refine w_pt ?_ | with_reducible refine w_pf ?_ | with_reducible refine w_iteT ?_ | with_reducible refine w_iteF ?_ | with_reducible refine w_ok ?_
    | with_reducible refine w_andV ?_ | with_reducible refine w_orV ?_ | with_reducible refine bl_bl ?_ | with_reducible refine w_iteV ?_ | with_reducible refine w_noO ?_ | with_reducible refine w_soO ?_ | with_reducible refine int_int ?_
    | with_reducible refine w_sl ?_ | with_reducible refine w_is ?_ | with_reducible refine w_add ?_ | with_reducible refine w_sub ?_ | with_reducible refine w_lt ?_ | with_reducible refine w_gt ?_ | with_reducible refine w_eqI ?_ | with_reducible refine w_neI ?_ | with_reducible refine w_int ?_
    | with_reducible refine fin_ret ?_ | with_reducible refine fin_err ?_ | with_reducible refine w_asg ?_ | with_reducible refine w_try ?_ | with_reducible refine w_for ?_ | with_reducible refine w_rng ?_ | with_reducible refine w_lcF ?_ | with_reducible refine w_seqF ?_ | with_reducible refine ble_len (by with_unfolding_all exact rfl) ?_)
    refine w_mul (mulOk_l (by decide) (by decide)) ?_
    (repeat' first
    | with_reducible refine w_seq ?_ | with_reducible refine w_nx ?_ | with_reducible refine w_ct ?_ | with_reducible refine w_br ?_ | with_reducible refine w_rtN ?_
    | with_reducible refine w_ret ?_ | with_reducible refine w_set ?_ | with_reducible refine w_expr ?_ | with_reducible refine w_if ?_ | with_reducible refine w_ite_t ?_ | with_reducible refine w_ite_f ?_
    | with_reducible refine w_raise ?_ | with_reducible refine w_setSub ?_
    | with_reducible refine w_var (by with_unfolding_all exact rfl) ?_ | with_reducible refine w_cst ?_ | with_reducible refine w_bin ?_ | with_reducible refine w_fn ?_ | with_reducible refine w_nilA ?_ | with_reducible refine w_consA ?_
    | with_reducible refine w_tup ?_ | with_reducible refine w_lstF ?_ | with_reducible refine w_lstT ?_ | with_reducible refine w_tst ?_ | with_reducible refine tst_bl ?_ | with_reducible refine w_tru ?_ | with_reducible refine tru_bl ?_
    | with_reducible refine w_not ?_ | with_reducible refine w_andF ?_ | with_reducible refine w_orF ?_ | with_reducible refine w_pt ?_ | with_reducible refine w_pf ?_ | with_reducible refine w_iteT ?_ | with_reducible refine w_iteF ?_ | with_reducible refine w_ok ?_
    | with_reducible refine w_andV ?_ | with_reducible refine w_orV ?_ | with_reducible refine bl_bl ?_ | with_reducible refine w_iteV ?_ | with_reducible refine w_noO ?_ | with_reducible refine w_soO ?_ | with_reducible refine int_int ?_
    | with_reducible refine w_sl ?_ | with_reducible refine w_is ?_ | with_reducible refine w_add ?_ | with_reducible refine w_sub ?_ | with_reducible refine w_lt ?_ | with_reducible refine w_gt ?_ | with_reducible refine w_eqI ?_ | with_reducible refine w_neI ?_ | with_reducible refine w_int ?_
    | with_reducible refine fin_ret ?_ | with_reducible refine fin_err ?_ | with_reducible refine w_asg ?_ | with_reducible refine w_try ?_ | with_reducible refine w_for ?_ | with_reducible refine w_rng ?_ | with_reducible refine w_lcF ?_ | with_reducible refine w_seqF ?_ | with_reducible refine ble_len (by with_unfolding_all exact rfl) ?_)
    refine w_mod (by decide) ?_
    (repeat' first
    | with_reducible refine w_seq ?_ | with_reducible refine w_nx ?_ | with_reducible refine w_ct ?_ | with_reducible refine w_br ?_ | with_reducible refine w_rtN ?_
    | with_reducible refine w_ret ?_ | with_reducible refine w_set ?_ | with_reducible refine w_expr ?_ | with_reducible refine w_if ?_ | with_reducible refine w_ite_t ?_ | with_reducible refine w_ite_f ?_
    | with_reducible refine w_raise ?_ | with_reducible refine w_setSub ?_
    | with_reducible refine w_var (by with_unfolding_all exact rfl) ?_ | with_reducible refine w_cst ?_ | with_reducible refine w_bin ?_ | with_reducible refine w_fn ?_ | with_reducible refine w_nilA ?_ | with_reducible refine w_consA ?_
    | with_reducible refine w_tup ?_ | with_reducible refine w_lstF ?_ | with_reducible refine w_lstT ?_ | with_reducible refine w_tst ?_ | with_reducible refine tst_bl ?_ | with_reducible refine w_tru ?_ | with_reducible refine tru_bl ?_
    | with_reducible refine w_not ?_ | with_reducible refine w_andF ?_ | with_reducible refine w_orF ?_ | with_reducible refine w_pt ?_ | with_reducible refine w_pf ?_ | with_reducible refine w_iteT ?_ | with_reducible refine w_iteF ?_ | with_reducible refine w_ok ?_
    | with_reducible refine w_andV ?_ | with_reducible refine w_orV ?_ | with_reducible refine bl_bl ?_ | with_reducible refine w_iteV ?_ | with_reducible refine w_noO ?_ | with_reducible refine w_soO ?_ | with_reducible refine int_int ?_
    | with_reducible refine w_sl ?_ | with_reducible refine w_is ?_ | with_reducible refine w_add ?_ | with_reducible refine w_sub ?_ | with_reducible refine w_lt ?_ | with_reducible refine w_gt ?_ | with_reducible refine w_eqI ?_ | with_reducible refine w_neI ?_ | with_reducible refine w_int ?_
    | with_reducible refine fin_ret ?_ | with_reducible refine fin_err ?_ | with_reducible refine w_asg ?_ | with_reducible refine w_try ?_ | with_reducible refine w_for ?_ | with_reducible refine w_rng ?_ | with_reducible refine w_lcF ?_ | with_reducible refine w_seqF ?_ | with_reducible refine ble_len (by with_unfolding_all exact rfl) ?_)
    refine w_mul (mulOk_l (by omega) (by omega)) ?_
    (repeat' first
    | with_reducible refine w_seq ?_ | with_reducible refine w_nx ?_ | with_reducible refine w_ct ?_ | with_reducible refine w_br ?_ | with_reducible refine w_rtN ?_
    | with_reducible refine w_ret ?_ | with_reducible refine w_set ?_ | with_reducible refine w_expr ?_ | with_reducible refine w_if ?_ | with_reducible refine w_ite_t ?_ | with_reducible refine w_ite_f ?_
    | with_reducible refine w_raise ?_ | with_reducible refine w_setSub ?_
    | with_reducible refine w_var (by with_unfolding_all exact rfl) ?_ | with_reducible refine w_cst ?_ | with_reducible refine w_bin ?_ | with_reducible refine w_fn ?_ | with_reducible refine w_nilA ?_ | with_reducible refine w_consA ?_
    | with_reducible refine w_tup ?_ | with_reducible refine w_lstF ?_ | with_reducible refine w_lstT ?_ | with_reducible refine w_tst ?_ | with_reducible refine tst_bl ?_ | with_reducible refine w_tru ?_ | with_reducible refine tru_bl ?_
    | with_reducible refine w_not ?_ | with_reducible refine w_andF ?_ | with_reducible refine w_orF ?_ | with_reducible refine w_pt ?_ | with_reducible refine w_pf ?_ | with_reducible refine w_iteT ?_ | with_reducible refine w_iteF ?_ | with_reducible refine w_ok ?_
    | with_reducible refine w_andV ?_ | with_reducible refine w_orV ?_ | with_reducible refine bl_bl ?_ | with_reducible refine w_iteV ?_ | with_reducible refine w_noO ?_ | with_reducible refine w_soO ?_ | with_reducible refine int_int ?_
    | with_reducible refine w_sl ?_ | with_reducible refine w_is ?_ | with_reducible refine w_add ?_ | with_reducible refine w_sub ?_ | with_reducible refine w_lt ?_ | with_reducible refine w_gt ?_ | with_reducible refine w_eqI ?_ | with_reducible refine w_neI ?_ | with_reducible refine w_int ?_
    | with_reducible refine fin_ret ?_ | with_reducible refine fin_err ?_ | with_reducible refine w_asg ?_ | with_reducible refine w_try ?_ | with_reducible refine w_for ?_ | with_reducible refine w_rng ?_ | with_reducible refine w_lcF ?_ | with_reducible refine w_seqF ?_ | with_reducible refine ble_len (by with_unfolding_all exact rfl) ?_)
    refine w_mul (mulOk_l (by decide) (by decide)) ?_
    (repeat' first
    | with_reducible refine w_seq ?_ | with_reducible refine w_nx ?_ | with_reducible refine w_ct ?_ | with_reducible refine w_br ?_ | with_reducible refine w_rtN ?_
    | with_reducible refine w_ret ?_ | with_reducible refine w_set ?_ | with_reducible refine w_expr ?_ | with_reducible refine w_if ?_ | with_reducible refine w_ite_t ?_ | with_reducible refine w_ite_f ?_
    | with_reducible refine w_raise ?_ | with_reducible refine w_setSub ?_
    | with_reducible refine w_var (by with_unfolding_all exact rfl) ?_ | with_reducible refine w_cst ?_ | with_reducible refine w_bin ?_ | with_reducible refine w_fn ?_ | with_reducible refine w_nilA ?_ | with_reducible refine w_consA ?_
    | with_reducible refine w_tup ?_ | with_reducible refine w_lstF ?_ | with_reducible refine w_lstT ?_ | with_reducible refine w_tst ?_ | with_reducible refine tst_bl ?_ | with_reducible refine w_tru ?_ | with_reducible refine tru_bl ?_
    | with_reducible refine w_not ?_ | with_reducible refine w_andF ?_ | with_reducible refine w_orF ?_ | with_reducible refine w_pt ?_ | with_reducible refine w_pf ?_ | with_reducible refine w_iteT ?_ | with_reducible refine w_iteF ?_ | with_reducible refine w_ok ?_
    | with_reducible refine w_andV ?_ | with_reducible refine w_orV ?_ | with_reducible refine bl_bl ?_ | with_reducible refine w_iteV ?_ | with_reducible refine w_noO ?_ | with_reducible refine w_soO ?_ | with_reducible refine int_int ?_
    | with_reducible refine w_sl ?_ | with_reducible refine w_is ?_ | with_reducible refine w_add ?_ | with_reducible refine w_sub ?_ | with_reducible refine w_lt ?_ | with_reducible refine w_gt ?_ | with_reducible refine w_eqI ?_ | with_reducible refine w_neI ?_ | with_reducible refine w_int ?_
    | with_reducible refine fin_ret ?_ | with_reducible refine fin_err ?_ | with_reducible refine w_asg ?_ | with_reducible refine w_try ?_ | with_reducible refine w_for ?_ | with_reducible refine w_rng ?_ | with_reducible refine w_lcF ?_ | with_reducible refine w_seqF ?_ | with_reducible refine ble_len (by with_unfolding_all exact rfl) ?_)
    refine w_mod (by decide) ?_
    (repeat' first
    | with_reducible refine w_seq ?_ | with_reducible refine w_nx ?_ | with_reducible refine w_ct ?_ | with_reducible refine w_br ?_ | with_reducible refine w_rtN ?_
    | with_reducible refine w_ret ?_ | with_reducible refine w_set ?_ | with_reducible refine w_expr ?_ | with_reducible refine w_if ?_ | with_reducible refine w_ite_t ?_ | with_reducible refine w_ite_f ?_
    | with_reducible refine w_raise ?_ | with_reducible refine w_setSub ?_
    | with_reducible refine w_var (by with_unfolding_all exact rfl) ?_ | with_reducible refine w_cst ?_ | with_reducible refine w_bin ?_ | with_reducible refine w_fn ?_ | with_reducible refine w_nilA ?_ | with_reducible refine w_consA ?_
    | with_reducible refine w_tup ?_ | with_reducible refine w_lstF ?_ | with_reducible refine w_lstT ?_ | with_reducible refine w_tst ?_ | with_reducible refine tst_bl ?_ | with_reducible refine w_tru ?_ | with_reducible refine tru_bl ?_
    | with_reducible refine w_not ?_ | with_reducible refine w_andF ?_ | with_reducible refine w_orF ?_ | with_reducible refine w_pt ?_ | with_reducible refine w_pf ?_ | with_reducible refine w_iteT ?_ | with_reducible refine w_iteF ?_ | with_reducible refine w_ok ?_
    | with_reducible refine w_andV ?_ | with_reducible refine w_orV ?_ | with_reducible refine bl_bl ?_ | with_reducible refine w_iteV ?_ | with_reducible refine w_noO ?_ | with_reducible refine w_soO ?_ | with_reducible refine int_int ?_
    | with_reducible refine w_sl ?_ | with_reducible refine w_is ?_ | with_reducible refine w_add ?_ | with_reducible refine w_sub ?_ | with_reducible refine w_lt ?_ | with_reducible refine w_gt ?_ | with_reducible refine w_eqI ?_ | with_reducible refine w_neI ?_ | with_reducible refine w_int ?_
    | with_reducible refine fin_ret ?_ | with_reducible refine fin_err ?_ | with_reducible refine w_asg ?_ | with_reducible refine w_try ?_ | with_reducible refine w_for ?_ | with_reducible refine w_rng ?_ | with_reducible refine w_lcF ?_ | with_reducible refine w_seqF ?_ | with_reducible refine ble_len (by with_unfolding_all exact rfl) ?_)
    refine w_fdiv (by decide) (by decide) ?_
    (repeat' first
    | with_reducible refine w_seq ?_ | with_reducible refine w_nx ?_ | with_reducible refine w_ct ?_ | with_reducible refine w_br ?_ | with_reducible refine w_rtN ?_
    | with_reducible refine w_ret ?_ | with_reducible refine w_set ?_ | with_reducible refine w_expr ?_ | with_reducible refine w_if ?_ | with_reducible refine w_ite_t ?_ | with_reducible refine w_ite_f ?_
    | with_reducible refine w_raise ?_ | with_reducible refine w_setSub ?_
    | with_reducible refine w_var (by with_unfolding_all exact rfl) ?_ | with_reducible refine w_cst ?_ | with_reducible refine w_bin ?_ | with_reducible refine w_fn ?_ | with_reducible refine w_nilA ?_ | with_reducible refine w_consA ?_
    | with_reducible refine w_tup ?_ | with_reducible refine w_lstF ?_ | with_reducible refine w_lstT ?_ | with_reducible refine w_tst ?_ | with_reducible refine tst_bl ?_ | with_reducible refine w_tru ?_ | with_reducible refine tru_bl ?_
    | with_reducible refine w_not ?_ | with_reducible refine w_andF ?_ | with_reducible refine w_orF ?_ | with_reducible refine w_pt ?_ | with_reducible refine w_pf ?_ | with_reducible refine w_iteT ?_ | with_reducible refine w_iteF ?_ | with_reducible refine w_ok ?_
    | with_reducible refine w_andV ?_ | with_reducible refine w_orV ?_ | with_reducible refine bl_bl ?_ | with_reducible refine w_iteV ?_ | with_reducible refine w_noO ?_ | with_reducible refine w_soO ?_ | with_reducible refine int_int ?_
    | with_reducible refine w_sl ?_ | with_reducible refine w_is ?_ | with_reducible refine w_add ?_ | with_reducible refine w_sub ?_ | with_reducible refine w_lt ?_ | with_reducible refine w_gt ?_ | with_reducible refine w_eqI ?_ | with_reducible refine w_neI ?_ | with_reducible refine w_int ?_
    | with_reducible refine fin_ret ?_ | with_reducible refine fin_err ?_ | with_reducible refine w_asg ?_ | with_reducible refine w_try ?_ | with_reducible refine w_for ?_ | with_reducible refine w_rng ?_ | with_reducible refine w_lcF ?_ | with_reducible refine w_seqF ?_ | with_reducible refine ble_len (by with_unfolding_all exact rfl) ?_)
    exact ⟨_, rfl, rfl, by omega⟩
  obtain ⟨r, T, e, x, rfl, rfl, hx⟩ := q.get
  exact ⟨x, e, hx⟩
theorem sub_ref {S : Store} {p : Nat} {a b c : D} (h : S[p]? = some (.lst [a, b, c])) (i : Int) (x : D) (hx : L2.atI [a, b, c] i = some x) : subD (.ref p) (.int i) S = .ok x S := by
  have e : seqOf S (.ref p) = some [a, b, c] := by
    have e0 : MI.top S (D.ref p) = .lst [a, b, c] := by
      unfold MI.top
      simp only [h]
    unfold seqOf
    rw [e0]
  show (match seqOf S (.ref p) with
      | some xs => match L2.atI xs i with
        | some x => R.ok x S
        | none => .bad
      | none => .bad) = _
  rw [e]
  show (match L2.atI [a, b, c] i with
        | some x => R.ok x S
        | none => .bad) = _
  rw [hx]
theorem setSub_ref {S : Store} {p : Nat} {a b c : D} (h : S[p]? = some (.lst [a, b, c])) (i : Int) (v : D) (j : Nat) (hj : L2.ixN 3 i = some j) : setSubD (.ref p) (.int i) v S = .ok () (S.set p (.lst ([a, b, c].set j v))) := by
  show (match S[p]? with
    | some (.lst xs) => match L2.ixN xs.length i with
      | some j => R.ok () (S.set p (.lst (xs.set j v)))
      | none => .bad
    | _ => .bad) = _
  rw [h]
  show (match L2.ixN 3 i with
      | some j => R.ok () (S.set p (.lst ([a, b, c].set j v)))
      | none => .bad) = _
  rw [hj]
theorem get_set {S : Store} {p : Nat} {c d : Cell} (h : S[p]? = some c) : (S.set p d)[p]? = some d := by
  rw [List.getElem?_set_self (List.getElem?_eq_some_iff.mp h).1]
theorem run_drawS (k p m n : Nat) (S : Store) (hp : Pu S p m) (hm : m + 1 ≤ 2 ^ 40) (h1 : 0 < n) (h2 : n ≤ 1000) :
    (run GT fldT exmT fuel (k + 6) .l_draw [.ref p, .int n] S).w noErr fun r T => ∃ x : Nat, r = .int x ∧ x < n ∧ (∃ c, T = S.set p c) ∧ Pu T p (m + 1) := by
  obtain ⟨a, b, c, h, ha, hb, hb2, hc, hcm⟩ := hp
  rw [run_succ (k + 3)]
  refine w_fin ?_
  unfold F_l_draw
  (repeat' first
    | with_reducible refine w_seq ?_ | with_reducible refine w_nx ?_ | with_reducible refine w_ct ?_ | with_reducible refine w_br ?_ | with_reducible refine w_rtN ?_
    | with_reducible refine w_ret ?_ | with_reducible refine w_set ?_ | with_reducible refine w_expr ?_ | with_reducible refine w_if ?_ | with_reducible refine w_ite_t ?_ | with_reducible refine w_ite_f ?_
    | with_reducible refine w_raise ?_ | with_reducible refine w_setSub ?_
    | with_reducible refine w_var (by with_unfolding_all exact rfl) ?_ | with_reducible refine w_cst ?_ | with_reducible refine w_bin ?_ | with_reducible refine w_fn ?_ | with_reducible refine w_nilA ?_ | with_reducible refine w_consA ?_
    | with_reducible refine w_tup ?_ | with_reducible refine w_lstF ?_ | with_reducible refine w_lstT ?_ | with_reducible refine w_tst ?_ | with_reducible refine tst_bl ?_ | with_reducible refine w_tru ?_ | with_reducible refine tru_bl ?_
    | with_reducible refine w_not ?_ | with_reducible refine w_andF ?_ | with_reducible refine w_orF ?_ | with_reducible refine w_pt ?_ | with_reducible refine w_pf ?_ | with_reducible refine w_iteT ?_ | with_reducible refine w_iteF ?_ | with_reducible refine w_ok ?_
    | with_reducible refine w_andV ?_ | with_reducible refine w_orV ?_ | with_reducible refine bl_bl ?_ | with_reducible refine w_iteV ?_ | with_reducible refine w_noO ?_ | with_reducible refine w_soO ?_ | with_reducible refine int_int ?_
    | with_reducible refine w_sl ?_ | with_reducible refine w_is ?_ | with_reducible refine w_add ?_ | with_reducible refine w_sub ?_ | with_reducible refine w_lt ?_ | with_reducible refine w_gt ?_ | with_reducible refine w_eqI ?_ | with_reducible refine w_neI ?_ | with_reducible refine w_int ?_
    | with_reducible refine fin_ret ?_ | with_reducible refine fin_err ?_ | with_reducible refine w_asg ?_ | with_reducible refine w_try ?_ | with_reducible refine w_for ?_ | with_reducible refine w_rng ?_ | with_reducible refine w_lcF ?_ | with_reducible refine w_seqF ?_ | with_reducible refine ble_len (by with_unfolding_all exact rfl) ?_)
  refine R.w_of (sub_ref h 0 _ rfl) ?_
  (repeat' first
    | with_reducible refine w_seq ?_ | with_reducible refine w_nx ?_ | with_reducible refine w_ct ?_ | with_reducible refine w_br ?_ | with_reducible refine w_rtN ?_
    | with_reducible refine w_ret ?_ | with_reducible refine w_set ?_ | with_reducible refine w_expr ?_ | with_reducible refine w_if ?_ | with_reducible refine w_ite_t ?_ | with_reducible refine w_ite_f ?_
    | with_reducible refine w_raise ?_ | with_reducible refine w_setSub ?_
    | with_reducible refine w_var (by with_unfolding_all exact rfl) ?_ | with_reducible refine w_cst ?_ | with_reducible refine w_bin ?_ | with_reducible refine w_fn ?_ | with_reducible refine w_nilA ?_ | with_reducible refine w_consA ?_
    | with_reducible refine w_tup ?_ | with_reducible refine w_lstF ?_ | with_reducible refine w_lstT ?_ | with_reducible refine w_tst ?_ | with_reducible refine tst_bl ?_ | with_reducible refine w_tru ?_ | with_reducible refine tru_bl ?_
    | with_reducible refine w_not ?_ | with_reducible refine w_andF ?_ | with_reducible refine w_orF ?_ | with_reducible refine w_pt ?_ | with_reducible refine w_pf ?_ | with_reducible refine w_iteT ?_ | with_reducible refine w_iteF ?_ | with_reducible refine w_ok ?_
    | with_reducible refine w_andV ?_ | with_reducible refine w_orV ?_ | with_reducible refine bl_bl ?_ | with_reducible refine w_iteV ?_ | with_reducible refine w_noO ?_ | with_reducible refine w_soO ?_ | with_reducible refine int_int ?_
    | with_reducible refine w_sl ?_ | with_reducible refine w_is ?_ | with_reducible refine w_add ?_ | with_reducible refine w_sub ?_ | with_reducible refine w_lt ?_ | with_reducible refine w_gt ?_ | with_reducible refine w_eqI ?_ | with_reducible refine w_neI ?_ | with_reducible refine w_int ?_
    | with_reducible refine fin_ret ?_ | with_reducible refine fin_err ?_ | with_reducible refine w_asg ?_ | with_reducible refine w_try ?_ | with_reducible refine w_for ?_ | with_reducible refine w_rng ?_ | with_reducible refine w_lcF ?_ | with_reducible refine w_seqF ?_ | with_reducible refine ble_len (by with_unfolding_all exact rfl) ?_)
  by_cases hpos : 0 < a
  · rw [decide_eq_true hpos]
    (repeat' first
    | with_reducible refine w_seq ?_ | with_reducible refine w_nx ?_ | with_reducible refine w_ct ?_ | with_reducible refine w_br ?_ | with_reducible refine w_rtN ?_
    | with_reducible refine w_ret ?_ | with_reducible refine w_set ?_ | with_reducible refine w_expr ?_ | with_reducible refine w_if ?_ | with_reducible refine w_ite_t ?_ | with_reducible refine w_ite_f ?_
    | with_reducible refine w_raise ?_ | with_reducible refine w_setSub ?_
    | with_reducible refine w_var (by with_unfolding_all exact rfl) ?_ | with_reducible refine w_cst ?_ | with_reducible refine w_bin ?_ | with_reducible refine w_fn ?_ | with_reducible refine w_nilA ?_ | with_reducible refine w_consA ?_
    | with_reducible refine w_tup ?_ | with_reducible refine w_lstF ?_ | with_reducible refine w_lstT ?_ | with_reducible refine w_tst ?_ | with_reducible refine tst_bl ?_ | with_reducible refine w_tru ?_ | with_reducible refine tru_bl ?_
    | with_reducible refine w_not ?_ | with_reducible refine w_andF ?_ | with_reducible refine w_orF ?_ | with_reducible refine w_pt ?_ | with_reducible refine w_pf ?_ | with_reducible refine w_iteT ?_ | with_reducible refine w_iteF ?_ | with_reducible refine w_ok ?_
    | with_reducible refine w_andV ?_ | with_reducible refine w_orV ?_ | with_reducible refine bl_bl ?_ | with_reducible refine w_iteV ?_ | with_reducible refine w_noO ?_ | with_reducible refine w_soO ?_ | with_reducible refine int_int ?_
    | with_reducible refine w_sl ?_ | with_reducible refine w_is ?_ | with_reducible refine w_add ?_ | with_reducible refine w_sub ?_ | with_reducible refine w_lt ?_ | with_reducible refine w_gt ?_ | with_reducible refine w_eqI ?_ | with_reducible refine w_neI ?_ | with_reducible refine w_int ?_
    | with_reducible refine fin_ret ?_ | with_reducible refine fin_err ?_ | with_reducible refine w_asg ?_ | with_reducible refine w_try ?_ | with_reducible refine w_for ?_ | with_reducible refine w_rng ?_ | with_reducible refine w_lcF ?_ | with_reducible refine w_seqF ?_ | with_reducible refine ble_len (by with_unfolding_all exact rfl) ?_)
    refine R.w_of (sub_ref h 0 _ rfl) ?_
    (repeat' first
    | with_reducible refine w_seq ?_ | with_reducible refine w_nx ?_ | with_reducible refine w_ct ?_ | with_reducible refine w_br ?_ | with_reducible refine w_rtN ?_
    | with_reducible refine w_ret ?_ | with_reducible refine w_set ?_ | with_reducible refine w_expr ?_ | with_reducible refine w_if ?_ | with_reducible refine w_ite_t ?_ | with_reducible refine w_ite_f ?_
    | with_reducible refine w_raise ?_ | with_reducible refine w_setSub ?_
    | with_reducible refine w_var (by with_unfolding_all exact rfl) ?_ | with_reducible refine w_cst ?_ | with_reducible refine w_bin ?_ | with_reducible refine w_fn ?_ | with_reducible refine w_nilA ?_ | with_reducible refine w_consA ?_
    | with_reducible refine w_tup ?_ | with_reducible refine w_lstF ?_ | with_reducible refine w_lstT ?_ | with_reducible refine w_tst ?_ | with_reducible refine tst_bl ?_ | with_reducible refine w_tru ?_ | with_reducible refine tru_bl ?_
    | with_reducible refine w_not ?_ | with_reducible refine w_andF ?_ | with_reducible refine w_orF ?_ | with_reducible refine w_pt ?_ | with_reducible refine w_pf ?_ | with_reducible refine w_iteT ?_ | with_reducible refine w_iteF ?_ | with_reducible refine w_ok ?_
    | with_reducible refine w_andV ?_ | with_reducible refine w_orV ?_ | with_reducible refine bl_bl ?_ | with_reducible refine w_iteV ?_ | with_reducible refine w_noO ?_ | with_reducible refine w_soO ?_ | with_reducible refine int_int ?_
    | with_reducible refine w_sl ?_ | with_reducible refine w_is ?_ | with_reducible refine w_add ?_ | with_reducible refine w_sub ?_ | with_reducible refine w_lt ?_ | with_reducible refine w_gt ?_ | with_reducible refine w_eqI ?_ | with_reducible refine w_neI ?_ | with_reducible refine w_int ?_
    | with_reducible refine fin_ret ?_ | with_reducible refine fin_err ?_ | with_reducible refine w_asg ?_ | with_reducible refine w_try ?_ | with_reducible refine w_for ?_ | with_reducible refine w_rng ?_ | with_reducible refine w_lcF ?_ | with_reducible refine w_seqF ?_ | with_reducible refine ble_len (by with_unfolding_all exact rfl) ?_)
    refine w_mod (by omega) ?_
    (repeat' first
    | with_reducible refine w_seq ?_ | with_reducible refine w_nx ?_ | with_reducible refine w_ct ?_ | with_reducible refine w_br ?_ | with_reducible refine w_rtN ?_
    | with_reducible refine w_ret ?_ | with_reducible refine w_set ?_ | with_reducible refine w_expr ?_ | with_reducible refine w_if ?_ | with_reducible refine w_ite_t ?_ | with_reducible refine w_ite_f ?_
    | with_reducible refine w_raise ?_ | with_reducible refine w_setSub ?_
    | with_reducible refine w_var (by with_unfolding_all exact rfl) ?_ | with_reducible refine w_cst ?_ | with_reducible refine w_bin ?_ | with_reducible refine w_fn ?_ | with_reducible refine w_nilA ?_ | with_reducible refine w_consA ?_
    | with_reducible refine w_tup ?_ | with_reducible refine w_lstF ?_ | with_reducible refine w_lstT ?_ | with_reducible refine w_tst ?_ | with_reducible refine tst_bl ?_ | with_reducible refine w_tru ?_ | with_reducible refine tru_bl ?_
    | with_reducible refine w_not ?_ | with_reducible refine w_andF ?_ | with_reducible refine w_orF ?_ | with_reducible refine w_pt ?_ | with_reducible refine w_pf ?_ | with_reducible refine w_iteT ?_ | with_reducible refine w_iteF ?_ | with_reducible refine w_ok ?_
    | with_reducible refine w_andV ?_ | with_reducible refine w_orV ?_ | with_reducible refine bl_bl ?_ | with_reducible refine w_iteV ?_ | with_reducible refine w_noO ?_ | with_reducible refine w_soO ?_ | with_reducible refine int_int ?_
    | with_reducible refine w_sl ?_ | with_reducible refine w_is ?_ | with_reducible refine w_add ?_ | with_reducible refine w_sub ?_ | with_reducible refine w_lt ?_ | with_reducible refine w_gt ?_ | with_reducible refine w_eqI ?_ | with_reducible refine w_neI ?_ | with_reducible refine w_int ?_
    | with_reducible refine fin_ret ?_ | with_reducible refine fin_err ?_ | with_reducible refine w_asg ?_ | with_reducible refine w_try ?_ | with_reducible refine w_for ?_ | with_reducible refine w_rng ?_ | with_reducible refine w_lcF ?_ | with_reducible refine w_seqF ?_ | with_reducible refine ble_len (by with_unfolding_all exact rfl) ?_)
    refine R.w_of (sub_ref h 0 _ rfl) ?_
    (repeat' first
    | with_reducible refine w_seq ?_ | with_reducible refine w_nx ?_ | with_reducible refine w_ct ?_ | with_reducible refine w_br ?_ | with_reducible refine w_rtN ?_
    | with_reducible refine w_ret ?_ | with_reducible refine w_set ?_ | with_reducible refine w_expr ?_ | with_reducible refine w_if ?_ | with_reducible refine w_ite_t ?_ | with_reducible refine w_ite_f ?_
    | with_reducible refine w_raise ?_ | with_reducible refine w_setSub ?_
    | with_reducible refine w_var (by with_unfolding_all exact rfl) ?_ | with_reducible refine w_cst ?_ | with_reducible refine w_bin ?_ | with_reducible refine w_fn ?_ | with_reducible refine w_nilA ?_ | with_reducible refine w_consA ?_
    | with_reducible refine w_tup ?_ | with_reducible refine w_lstF ?_ | with_reducible refine w_lstT ?_ | with_reducible refine w_tst ?_ | with_reducible refine tst_bl ?_ | with_reducible refine w_tru ?_ | with_reducible refine tru_bl ?_
    | with_reducible refine w_not ?_ | with_reducible refine w_andF ?_ | with_reducible refine w_orF ?_ | with_reducible refine w_pt ?_ | with_reducible refine w_pf ?_ | with_reducible refine w_iteT ?_ | with_reducible refine w_iteF ?_ | with_reducible refine w_ok ?_
    | with_reducible refine w_andV ?_ | with_reducible refine w_orV ?_ | with_reducible refine bl_bl ?_ | with_reducible refine w_iteV ?_ | with_reducible refine w_noO ?_ | with_reducible refine w_soO ?_ | with_reducible refine int_int ?_
    | with_reducible refine w_sl ?_ | with_reducible refine w_is ?_ | with_reducible refine w_add ?_ | with_reducible refine w_sub ?_ | with_reducible refine w_lt ?_ | with_reducible refine w_gt ?_ | with_reducible refine w_eqI ?_ | with_reducible refine w_neI ?_ | with_reducible refine w_int ?_
    | with_reducible refine fin_ret ?_ | with_reducible refine fin_err ?_ | with_reducible refine w_asg ?_ | with_reducible refine w_try ?_ | with_reducible refine w_for ?_ | with_reducible refine w_rng ?_ | with_reducible refine w_lcF ?_ | with_reducible refine w_seqF ?_ | with_reducible refine ble_len (by with_unfolding_all exact rfl) ?_)
    refine w_fdiv (by omega) (by omega) ?_
    (repeat' first
    | with_reducible refine w_seq ?_ | with_reducible refine w_nx ?_ | with_reducible refine w_ct ?_ | with_reducible refine w_br ?_ | with_reducible refine w_rtN ?_
    | with_reducible refine w_ret ?_ | with_reducible refine w_set ?_ | with_reducible refine w_expr ?_ | with_reducible refine w_if ?_ | with_reducible refine w_ite_t ?_ | with_reducible refine w_ite_f ?_
    | with_reducible refine w_raise ?_ | with_reducible refine w_setSub ?_
    | with_reducible refine w_var (by with_unfolding_all exact rfl) ?_ | with_reducible refine w_cst ?_ | with_reducible refine w_bin ?_ | with_reducible refine w_fn ?_ | with_reducible refine w_nilA ?_ | with_reducible refine w_consA ?_
    | with_reducible refine w_tup ?_ | with_reducible refine w_lstF ?_ | with_reducible refine w_lstT ?_ | with_reducible refine w_tst ?_ | with_reducible refine tst_bl ?_ | with_reducible refine w_tru ?_ | with_reducible refine tru_bl ?_
    | with_reducible refine w_not ?_ | with_reducible refine w_andF ?_ | with_reducible refine w_orF ?_ | with_reducible refine w_pt ?_ | with_reducible refine w_pf ?_ | with_reducible refine w_iteT ?_ | with_reducible refine w_iteF ?_ | with_reducible refine w_ok ?_
    | with_reducible refine w_andV ?_ | with_reducible refine w_orV ?_ | with_reducible refine bl_bl ?_ | with_reducible refine w_iteV ?_ | with_reducible refine w_noO ?_ | with_reducible refine w_soO ?_ | with_reducible refine int_int ?_
    | with_reducible refine w_sl ?_ | with_reducible refine w_is ?_ | with_reducible refine w_add ?_ | with_reducible refine w_sub ?_ | with_reducible refine w_lt ?_ | with_reducible refine w_gt ?_ | with_reducible refine w_eqI ?_ | with_reducible refine w_neI ?_ | with_reducible refine w_int ?_
    | with_reducible refine fin_ret ?_ | with_reducible refine fin_err ?_ | with_reducible refine w_asg ?_ | with_reducible refine w_try ?_ | with_reducible refine w_for ?_ | with_reducible refine w_rng ?_ | with_reducible refine w_lcF ?_ | with_reducible refine w_seqF ?_ | with_reducible refine ble_len (by with_unfolding_all exact rfl) ?_)
    refine R.w_of (setSub_ref h 0 _ 0 rfl) ?_
    (repeat' first
    | with_reducible refine w_seq ?_ | with_reducible refine w_nx ?_ | with_reducible refine w_ct ?_ | with_reducible refine w_br ?_ | with_reducible refine w_rtN ?_
    | with_reducible refine w_ret ?_ | with_reducible refine w_set ?_ | with_reducible refine w_expr ?_ | with_reducible refine w_if ?_ | with_reducible refine w_ite_t ?_ | with_reducible refine w_ite_f ?_
    | with_reducible refine w_raise ?_ | with_reducible refine w_setSub ?_
    | with_reducible refine w_var (by with_unfolding_all exact rfl) ?_ | with_reducible refine w_cst ?_ | with_reducible refine w_bin ?_ | with_reducible refine w_fn ?_ | with_reducible refine w_nilA ?_ | with_reducible refine w_consA ?_
    | with_reducible refine w_tup ?_ | with_reducible refine w_lstF ?_ | with_reducible refine w_lstT ?_ | with_reducible refine w_tst ?_ | with_reducible refine tst_bl ?_ | with_reducible refine w_tru ?_ | with_reducible refine tru_bl ?_
    | with_reducible refine w_not ?_ | with_reducible refine w_andF ?_ | with_reducible refine w_orF ?_ | with_reducible refine w_pt ?_ | with_reducible refine w_pf ?_ | with_reducible refine w_iteT ?_ | with_reducible refine w_iteF ?_ | with_reducible refine w_ok ?_
    | with_reducible refine w_andV ?_ | with_reducible refine w_orV ?_ | with_reducible refine bl_bl ?_ | with_reducible refine w_iteV ?_ | with_reducible refine w_noO ?_ | with_reducible refine w_soO ?_ | with_reducible refine int_int ?_
    | with_reducible refine w_sl ?_ | with_reducible refine w_is ?_ | with_reducible refine w_add ?_ | with_reducible refine w_sub ?_ | with_reducible refine w_lt ?_ | with_reducible refine w_gt ?_ | with_reducible refine w_eqI ?_ | with_reducible refine w_neI ?_ | with_reducible refine w_int ?_
    | with_reducible refine fin_ret ?_ | with_reducible refine fin_err ?_ | with_reducible refine w_asg ?_ | with_reducible refine w_try ?_ | with_reducible refine w_for ?_ | with_reducible refine w_rng ?_ | with_reducible refine w_lcF ?_ | with_reducible refine w_seqF ?_ | with_reducible refine ble_len (by with_unfolding_all exact rfl) ?_)
    refine ⟨(a % n).toNat, ?_, ?_, ⟨_, rfl⟩, a / n, b, c, get_set h, Int.ediv_nonneg ha (by omega), hb, hb2, hc, by omega⟩
    · rw [Int.toNat_of_nonneg (Int.emod_nonneg _ (by omega))]
    · have := Int.emod_lt_of_pos a (show (0 : Int) < n by omega)
      have := Int.emod_nonneg a (show (n : Int) ≠ 0 by omega)
      omega
  · rw [decide_eq_false hpos]
    (repeat' first
    | with_reducible refine w_seq ?_ | with_reducible refine w_nx ?_ | with_reducible refine w_ct ?_ | with_reducible refine w_br ?_ | with_reducible refine w_rtN ?_
    | with_reducible refine w_ret ?_ | with_reducible refine w_set ?_ | with_reducible refine w_expr ?_ | with_reducible refine w_if ?_ | with_reducible refine w_ite_t ?_ | with_reducible refine w_ite_f ?_
    | with_reducible refine w_raise ?_ | with_reducible refine w_setSub ?_
    | with_reducible refine w_var (by with_unfolding_all exact rfl) ?_ | with_reducible refine w_cst ?_ | with_reducible refine w_bin ?_ | with_reducible refine w_fn ?_ | with_reducible refine w_nilA ?_ | with_reducible refine w_consA ?_
    | with_reducible refine w_tup ?_ | with_reducible refine w_lstF ?_ | with_reducible refine w_lstT ?_ | with_reducible refine w_tst ?_ | with_reducible refine tst_bl ?_ | with_reducible refine w_tru ?_ | with_reducible refine tru_bl ?_
    | with_reducible refine w_not ?_ | with_reducible refine w_andF ?_ | with_reducible refine w_orF ?_ | with_reducible refine w_pt ?_ | with_reducible refine w_pf ?_ | with_reducible refine w_iteT ?_ | with_reducible refine w_iteF ?_ | with_reducible refine w_ok ?_
    | with_reducible refine w_andV ?_ | with_reducible refine w_orV ?_ | with_reducible refine bl_bl ?_ | with_reducible refine w_iteV ?_ | with_reducible refine w_noO ?_ | with_reducible refine w_soO ?_ | with_reducible refine int_int ?_
    | with_reducible refine w_sl ?_ | with_reducible refine w_is ?_ | with_reducible refine w_add ?_ | with_reducible refine w_sub ?_ | with_reducible refine w_lt ?_ | with_reducible refine w_gt ?_ | with_reducible refine w_eqI ?_ | with_reducible refine w_neI ?_ | with_reducible refine w_int ?_
    | with_reducible refine fin_ret ?_ | with_reducible refine fin_err ?_ | with_reducible refine w_asg ?_ | with_reducible refine w_try ?_ | with_reducible refine w_for ?_ | with_reducible refine w_rng ?_ | with_reducible refine w_lcF ?_ | with_reducible refine w_seqF ?_ | with_reducible refine ble_len (by with_unfolding_all exact rfl) ?_)
    refine R.w_of (sub_ref h 2 _ rfl) ?_
    (repeat' first
    | with_reducible refine w_seq ?_ | with_reducible refine w_nx ?_ | with_reducible refine w_ct ?_ | with_reducible refine w_br ?_ | with_reducible refine w_rtN ?_
    | with_reducible refine w_ret ?_ | with_reducible refine w_set ?_ | with_reducible refine w_expr ?_ | with_reducible refine w_if ?_ | with_reducible refine w_ite_t ?_ | with_reducible refine w_ite_f ?_
    | with_reducible refine w_raise ?_ | with_reducible refine w_setSub ?_
    | with_reducible refine w_var (by with_unfolding_all exact rfl) ?_ | with_reducible refine w_cst ?_ | with_reducible refine w_bin ?_ | with_reducible refine w_fn ?_ | with_reducible refine w_nilA ?_ | with_reducible refine w_consA ?_
    | with_reducible refine w_tup ?_ | with_reducible refine w_lstF ?_ | with_reducible refine w_lstT ?_ | with_reducible refine w_tst ?_ | with_reducible refine tst_bl ?_ | with_reducible refine w_tru ?_ | with_reducible refine tru_bl ?_
    | with_reducible refine w_not ?_ | with_reducible refine w_andF ?_ | with_reducible refine w_orF ?_ | with_reducible refine w_pt ?_ | with_reducible refine w_pf ?_ | with_reducible refine w_iteT ?_ | with_reducible refine w_iteF ?_ | with_reducible refine w_ok ?_
    | with_reducible refine w_andV ?_ | with_reducible refine w_orV ?_ | with_reducible refine bl_bl ?_ | with_reducible refine w_iteV ?_ | with_reducible refine w_noO ?_ | with_reducible refine w_soO ?_ | with_reducible refine int_int ?_
    | with_reducible refine w_sl ?_ | with_reducible refine w_is ?_ | with_reducible refine w_add ?_ | with_reducible refine w_sub ?_ | with_reducible refine w_lt ?_ | with_reducible refine w_gt ?_ | with_reducible refine w_eqI ?_ | with_reducible refine w_neI ?_ | with_reducible refine w_int ?_
    | with_reducible refine fin_ret ?_ | with_reducible refine fin_err ?_ | with_reducible refine w_asg ?_ | with_reducible refine w_try ?_ | with_reducible refine w_for ?_ | with_reducible refine w_rng ?_ | with_reducible refine w_lcF ?_ | with_reducible refine w_seqF ?_ | with_reducible refine ble_len (by with_unfolding_all exact rfl) ?_)
    refine R.w_of (setSub_ref h 2 _ 2 rfl) ?_
    have h' := get_set (d := .lst ([D.int a, D.int b, D.int c].set 2 (.int (c + 1)))) h
    (repeat' first
    | with_reducible refine w_seq ?_ | with_reducible refine w_nx ?_ | with_reducible refine w_ct ?_ | with_reducible refine w_br ?_ | with_reducible refine w_rtN ?_
    | with_reducible refine w_ret ?_ | with_reducible refine w_set ?_ | with_reducible refine w_expr ?_ | with_reducible refine w_if ?_ | with_reducible refine w_ite_t ?_ | with_reducible refine w_ite_f ?_
    | with_reducible refine w_raise ?_ | with_reducible refine w_setSub ?_
    | with_reducible refine w_var (by with_unfolding_all exact rfl) ?_ | with_reducible refine w_cst ?_ | with_reducible refine w_bin ?_ | with_reducible refine w_fn ?_ | with_reducible refine w_nilA ?_ | with_reducible refine w_consA ?_
    | with_reducible refine w_tup ?_ | with_reducible refine w_lstF ?_ | with_reducible refine w_lstT ?_ | with_reducible refine w_tst ?_ | with_reducible refine tst_bl ?_ | with_reducible refine w_tru ?_ | with_reducible refine tru_bl ?_
    | with_reducible refine w_not ?_ | with_reducible refine w_andF ?_ | with_reducible refine w_orF ?_ | with_reducible refine w_pt ?_ | with_reducible refine w_pf ?_ | with_reducible refine w_iteT ?_ | with_reducible refine w_iteF ?_ | with_reducible refine w_ok ?_
    | with_reducible refine w_andV ?_ | with_reducible refine w_orV ?_ | with_reducible refine bl_bl ?_ | with_reducible refine w_iteV ?_ | with_reducible refine w_noO ?_ | with_reducible refine w_soO ?_ | with_reducible refine int_int ?_
    | with_reducible refine w_sl ?_ | with_reducible refine w_is ?_ | with_reducible refine w_add ?_ | with_reducible refine w_sub ?_ | with_reducible refine w_lt ?_ | with_reducible refine w_gt ?_ | with_reducible refine w_eqI ?_ | with_reducible refine w_neI ?_ | with_reducible refine w_int ?_
    | with_reducible refine fin_ret ?_ | with_reducible refine fin_err ?_ | with_reducible refine w_asg ?_ | with_reducible refine w_try ?_ | with_reducible refine w_for ?_ | with_reducible refine w_rng ?_ | with_reducible refine w_lcF ?_ | with_reducible refine w_seqF ?_ | with_reducible refine ble_len (by with_unfolding_all exact rfl) ?_)
    refine R.w_of (sub_ref h' 1 _ rfl) ?_
    (repeat' first
    | with_reducible refine w_seq ?_ | with_reducible refine w_nx ?_ | with_reducible refine w_ct ?_ | with_reducible refine w_br ?_ | with_reducible refine w_rtN ?_
    | with_reducible refine w_ret ?_ | with_reducible refine w_set ?_ | with_reducible refine w_expr ?_ | with_reducible refine w_if ?_ | with_reducible refine w_ite_t ?_ | with_reducible refine w_ite_f ?_
    | with_reducible refine w_raise ?_ | with_reducible refine w_setSub ?_
    | with_reducible refine w_var (by with_unfolding_all exact rfl) ?_ | with_reducible refine w_cst ?_ | with_reducible refine w_bin ?_ | with_reducible refine w_fn ?_ | with_reducible refine w_nilA ?_ | with_reducible refine w_consA ?_
    | with_reducible refine w_tup ?_ | with_reducible refine w_lstF ?_ | with_reducible refine w_lstT ?_ | with_reducible refine w_tst ?_ | with_reducible refine tst_bl ?_ | with_reducible refine w_tru ?_ | with_reducible refine tru_bl ?_
    | with_reducible refine w_not ?_ | with_reducible refine w_andF ?_ | with_reducible refine w_orF ?_ | with_reducible refine w_pt ?_ | with_reducible refine w_pf ?_ | with_reducible refine w_iteT ?_ | with_reducible refine w_iteF ?_ | with_reducible refine w_ok ?_
    | with_reducible refine w_andV ?_ | with_reducible refine w_orV ?_ | with_reducible refine bl_bl ?_ | with_reducible refine w_iteV ?_ | with_reducible refine w_noO ?_ | with_reducible refine w_soO ?_ | with_reducible refine int_int ?_
    | with_reducible refine w_sl ?_ | with_reducible refine w_is ?_ | with_reducible refine w_add ?_ | with_reducible refine w_sub ?_ | with_reducible refine w_lt ?_ | with_reducible refine w_gt ?_ | with_reducible refine w_eqI ?_ | with_reducible refine w_neI ?_ | with_reducible refine w_int ?_
    | with_reducible refine fin_ret ?_ | with_reducible refine fin_err ?_ | with_reducible refine w_asg ?_ | with_reducible refine w_try ?_ | with_reducible refine w_for ?_ | with_reducible refine w_rng ?_ | with_reducible refine w_lcF ?_ | with_reducible refine w_seqF ?_ | with_reducible refine ble_len (by with_unfolding_all exact rfl) ?_)
    refine R.w_of (sub_ref h' 2 _ rfl) ?_
    (repeat' first
    | with_reducible refine w_seq ?_ | with_reducible refine w_nx ?_ | with_reducible refine w_ct ?_ | with_reducible refine w_br ?_ | with_reducible refine w_rtN ?_
    | with_reducible refine w_ret ?_ | with_reducible refine w_set ?_ | with_reducible refine w_expr ?_ | with_reducible refine w_if ?_ | with_reducible refine w_ite_t ?_ | with_reducible refine w_ite_f ?_
    | with_reducible refine w_raise ?_ | with_reducible refine w_setSub ?_
    | with_reducible refine w_var (by with_unfolding_all exact rfl) ?_ | with_reducible refine w_cst ?_ | with_reducible refine w_bin ?_ | with_reducible refine w_fn ?_ | with_reducible refine w_nilA ?_ | with_reducible refine w_consA ?_
    | with_reducible refine w_tup ?_ | with_reducible refine w_lstF ?_ | with_reducible refine w_lstT ?_ | with_reducible refine w_tst ?_ | with_reducible refine tst_bl ?_ | with_reducible refine w_tru ?_ | with_reducible refine tru_bl ?_
    | with_reducible refine w_not ?_ | with_reducible refine w_andF ?_ | with_reducible refine w_orF ?_ | with_reducible refine w_pt ?_ | with_reducible refine w_pf ?_ | with_reducible refine w_iteT ?_ | with_reducible refine w_iteF ?_ | with_reducible refine w_ok ?_
    | with_reducible refine w_andV ?_ | with_reducible refine w_orV ?_ | with_reducible refine bl_bl ?_ | with_reducible refine w_iteV ?_ | with_reducible refine w_noO ?_ | with_reducible refine w_soO ?_ | with_reducible refine int_int ?_
    | with_reducible refine w_sl ?_ | with_reducible refine w_is ?_ | with_reducible refine w_add ?_ | with_reducible refine w_sub ?_ | with_reducible refine w_lt ?_ | with_reducible refine w_gt ?_ | with_reducible refine w_eqI ?_ | with_reducible refine w_neI ?_ | with_reducible refine w_int ?_
    | with_reducible refine fin_ret ?_ | with_reducible refine fin_err ?_ | with_reducible refine w_asg ?_ | with_reducible refine w_try ?_ | with_reducible refine w_for ?_ | with_reducible refine w_rng ?_ | with_reducible refine w_lcF ?_ | with_reducible refine w_seqF ?_ | with_reducible refine ble_len (by with_unfolding_all exact rfl) ?_)
    obtain ⟨x, e, hx⟩ := run_mixed (k + 2) b (c + 1) (S.set p (.lst ([D.int a, D.int b, D.int c].set 2 (.int (c + 1))))) hb hb2 (by omega) (by omega)
    refine R.w_of e ?_
    (repeat' first
    | with_reducible refine w_seq ?_ | with_reducible refine w_nx ?_ | with_reducible refine w_ct ?_ | with_reducible refine w_br ?_ | with_reducible refine w_rtN ?_
    | with_reducible refine w_ret ?_ | with_reducible refine w_set ?_ | with_reducible refine w_expr ?_ | with_reducible refine w_if ?_ | with_reducible refine w_ite_t ?_ | with_reducible refine w_ite_f ?_
    | with_reducible refine w_raise ?_ | with_reducible refine w_setSub ?_
    | with_reducible refine w_var (by with_unfolding_all exact rfl) ?_ | with_reducible refine w_cst ?_ | with_reducible refine w_bin ?_ | with_reducible refine w_fn ?_ | with_reducible refine w_nilA ?_ | with_reducible refine w_consA ?_
    | with_reducible refine w_tup ?_ | with_reducible refine w_lstF ?_ | with_reducible refine w_lstT ?_ | with_reducible refine w_tst ?_ | with_reducible refine tst_bl ?_ | with_reducible refine w_tru ?_ | with_reducible refine tru_bl ?_
    | with_reducible refine w_not ?_ | with_reducible refine w_andF ?_ | with_reducible refine w_orF ?_ | with_reducible refine w_pt ?_ | with_reducible refine w_pf ?_ | with_reducible refine w_iteT ?_ | with_reducible refine w_iteF ?_ | with_reducible refine w_ok ?_
    | with_reducible refine w_andV ?_ | with_reducible refine w_orV ?_ | with_reducible refine bl_bl ?_ | with_reducible refine w_iteV ?_ | with_reducible refine w_noO ?_ | with_reducible refine w_soO ?_ | with_reducible refine int_int ?_
    | with_reducible refine w_sl ?_ | with_reducible refine w_is ?_ | with_reducible refine w_add ?_ | with_reducible refine w_sub ?_ | with_reducible refine w_lt ?_ | with_reducible refine w_gt ?_ | with_reducible refine w_eqI ?_ | with_reducible refine w_neI ?_ | with_reducible refine w_int ?_
    | with_reducible refine fin_ret ?_ | with_reducible refine fin_err ?_ | with_reducible refine w_asg ?_ | with_reducible refine w_try ?_ | with_reducible refine w_for ?_ | with_reducible refine w_rng ?_ | with_reducible refine w_lcF ?_ | with_reducible refine w_seqF ?_ | with_reducible refine ble_len (by with_unfolding_all exact rfl) ?_)
    refine w_mod (by omega) ?_
    (repeat' first
    | with_reducible refine w_seq ?_ | with_reducible refine w_nx ?_ | with_reducible refine w_ct ?_ | with_reducible refine w_br ?_ | with_reducible refine w_rtN ?_
    | with_reducible refine w_ret ?_ | with_reducible refine w_set ?_ | with_reducible refine w_expr ?_ | with_reducible refine w_if ?_ | with_reducible refine w_ite_t ?_ | with_reducible refine w_ite_f ?_
    | with_reducible refine w_raise ?_ | with_reducible refine w_setSub ?_
    | with_reducible refine w_var (by with_unfolding_all exact rfl) ?_ | with_reducible refine w_cst ?_ | with_reducible refine w_bin ?_ | with_reducible refine w_fn ?_ | with_reducible refine w_nilA ?_ | with_reducible refine w_consA ?_
    | with_reducible refine w_tup ?_ | with_reducible refine w_lstF ?_ | with_reducible refine w_lstT ?_ | with_reducible refine w_tst ?_ | with_reducible refine tst_bl ?_ | with_reducible refine w_tru ?_ | with_reducible refine tru_bl ?_
    | with_reducible refine w_not ?_ | with_reducible refine w_andF ?_ | with_reducible refine w_orF ?_ | with_reducible refine w_pt ?_ | with_reducible refine w_pf ?_ | with_reducible refine w_iteT ?_ | with_reducible refine w_iteF ?_ | with_reducible refine w_ok ?_
    | with_reducible refine w_andV ?_ | with_reducible refine w_orV ?_ | with_reducible refine bl_bl ?_ | with_reducible refine w_iteV ?_ | with_reducible refine w_noO ?_ | with_reducible refine w_soO ?_ | with_reducible refine int_int ?_
    | with_reducible refine w_sl ?_ | with_reducible refine w_is ?_ | with_reducible refine w_add ?_ | with_reducible refine w_sub ?_ | with_reducible refine w_lt ?_ | with_reducible refine w_gt ?_ | with_reducible refine w_eqI ?_ | with_reducible refine w_neI ?_ | with_reducible refine w_int ?_
    | with_reducible refine fin_ret ?_ | with_reducible refine fin_err ?_ | with_reducible refine w_asg ?_ | with_reducible refine w_try ?_ | with_reducible refine w_for ?_ | with_reducible refine w_rng ?_ | with_reducible refine w_lcF ?_ | with_reducible refine w_seqF ?_ | with_reducible refine ble_len (by with_unfolding_all exact rfl) ?_)
    refine ⟨(x % n).toNat, ?_, ?_, ⟨_, rfl⟩, a, b, c + 1, h', ha, hb, hb2, by omega, by omega⟩
    · rw [Int.toNat_of_nonneg (Int.emod_nonneg _ (by omega))]
    · have := Int.emod_lt_of_pos x (show (0 : Int) < n by omega)
      have := Int.emod_nonneg x (show (n : Int) ≠ 0 by omega)
      omega
theorem run_draw (k p m n : Nat) (S : Store) (hp : Pu S p m) (hm : m + 1 ≤ 2 ^ 40) (h1 : 0 < n) (h2 : n ≤ 1000) :
    (run GT fldT exmT fuel (k + 6) .l_draw [.ref p, .int n] S).w noErr fun r T => ∃ x : Nat, r = .int x ∧ x < n ∧ Pu T p (m + 1) :=
  (run_drawS k p m n S hp hm h1 h2).imp fun _ _ ⟨x, e, h, _, hT⟩ => ⟨x, e, h, hT⟩
theorem sub_lst {xs : List D} {x : Nat} (hx : x < xs.length) (S : Store) : subD (.lst xs) (.int x) S = .ok xs[x] S := by
  show (match L2.atI xs (x : Int) with
        | some x => R.ok x S
        | none => .bad) = _
  rw [L2.atI_nat (List.getElem?_eq_getElem hx)]
theorem big_pos : (0 : Int) < ((10 : Int) ^ (60 : Int).toNat) ^ (8 : Int).toNat := by decide +kernel
theorem pw18 (S : Store) : powW (.int 10) (.int 18) S = .ok (.int ((10 : Int) ^ (18 : Int).toNat)) S := by kernel_rfl
theorem pw60 (S : Store) : powW (.int 10) (.int 60) S = .ok (.int ((10 : Int) ^ (60 : Int).toNat)) S := by kernel_rfl
theorem pw480 (S : Store) : powW (.int ((10 : Int) ^ (60 : Int).toNat)) (.int 8) S = .ok (.int (((10 : Int) ^ (60 : Int).toNat) ^ (8 : Int).toNat)) S := by kernel_rfl
/-- the list that the law is given -/
def Given (ns : List Int) (d : D) : Prop := d = .lst (ns.map D.int) ∨ d = .fls (ns.map D.int)
theorem given_len {ns : List Int} {d : D} (h : Given ns d) (G : Gs) (S : Store) : biD G .len false [d] S = .ok (.int ns.length) S := by
  rcases h with rfl | rfl
  · show R.ok (D.int ((ns.map D.int).length : Nat)) S = _
    rw [List.length_map]
  · show R.ok (D.int ((ns.map D.int).length : Nat)) S = _
    rw [List.length_map]
theorem given_sub {ns : List Int} {d : D} (h : Given ns d) (i : Nat) (hi : i < ns.length) (S : Store) : subD d (.int i) S = .ok (.int ns[i]) S := by
  have e : (ns.map D.int)[i]? = some (.int ns[i]) := by
    rw [List.getElem?_map, List.getElem?_eq_getElem hi]; rfl
  rcases h with rfl | rfl
  · show (match L2.atI (ns.map D.int) (i : Int) with
        | some x => R.ok x S
        | none => .bad) = _
    rw [L2.atI_nat e]
  · show (match L2.atI (ns.map D.int) (i : Int) with
        | some x => R.ok x S
        | none => .bad) = _
    rw [L2.atI_nat e]
theorem run_purse (k i : Nat) (ns : List Int) (d : D) (S : Store) (h : Given ns d) (hi : i ≤ 100) :
    (run GT fldT exmT fuel (k + 3) .l_purse [d, .int i] S).w noErr fun r T => ∃ p, r = .ref p ∧ Pu T p (1000 * i) := by
  have fin : ∀ (c : Int) (σ : Env), σ[0]? = some (some d) → σ[1]? = some (some (.int i)) → σ[2]? = some (some (.int c)) →
      (seqS (retS (lstF true (consA (binD (op2 .mod false) (fnF (biD GT .int false) (consA (fnF (biD GT .max2 false) (consA (binD (op2 .sub false) (varD 2) (binD powW (cstD (.int (10))) (cstD (.int (18))))) (consA (cstD (.int (0))) nilA))) nilA)) (binD powW (binD powW (cstD (.int (10))) (cstD (.int (60)))) (cstD (.int (8))))) (consA (binD (op2 .mod false) (fnF (biD GT .int false) (consA (varD 2) nilA)) (cstD (.int (2147483647)))) (consA (binD (mulD false) (cstD (.int (1000))) (varD 1)) nilA))))) nxS σ S).w (fun _ _ => False) (Fin noErr fun r T => ∃ p, r = .ref p ∧ Pu T p (1000 * i)) := by
    intro c σ h0 h1 h2
    (repeat' first
    | with_reducible refine w_seq ?_ | with_reducible refine w_nx ?_ | with_reducible refine w_ct ?_ | with_reducible refine w_br ?_ | with_reducible refine w_rtN ?_
    | with_reducible refine w_ret ?_ | with_reducible refine w_set ?_ | with_reducible refine w_expr ?_ | with_reducible refine w_if ?_ | with_reducible refine w_ite_t ?_ | with_reducible refine w_ite_f ?_
    | with_reducible refine w_raise ?_ | with_reducible refine w_setSub ?_
    | with_reducible refine w_var (by with_unfolding_all exact rfl) ?_ | with_reducible refine w_cst ?_ | with_reducible refine w_bin ?_ | with_reducible refine w_fn ?_ | with_reducible refine w_nilA ?_ | with_reducible refine w_consA ?_
    | with_reducible refine w_tup ?_ | with_reducible refine w_lstF ?_ | with_reducible refine w_lstT ?_ | with_reducible refine w_tst ?_ | with_reducible refine tst_bl ?_ | with_reducible refine w_tru ?_ | with_reducible refine tru_bl ?_
    | with_reducible refine w_not ?_ | with_reducible refine w_andF ?_ | with_reducible refine w_orF ?_ | with_reducible refine w_pt ?_ | with_reducible refine w_pf ?_ | with_reducible refine w_iteT ?_ | with_reducible refine w_iteF ?_ | with_reducible refine w_ok ?_
    | with_reducible refine w_andV ?_ | with_reducible refine w_orV ?_ | with_reducible refine bl_bl ?_ | with_reducible refine w_iteV ?_ | with_reducible refine w_noO ?_ | with_reducible refine w_soO ?_ | with_reducible refine int_int ?_
    | with_reducible refine w_sl ?_ | with_reducible refine w_is ?_ | with_reducible refine w_add ?_ | with_reducible refine w_sub ?_ | with_reducible refine w_lt ?_ | with_reducible refine w_gt ?_ | with_reducible refine w_eqI ?_ | with_reducible refine w_neI ?_ | with_reducible refine w_int ?_
    | with_reducible refine fin_ret ?_ | with_reducible refine fin_err ?_ | with_reducible refine w_asg ?_ | with_reducible refine w_try ?_ | with_reducible refine w_for ?_ | with_reducible refine w_rng ?_ | with_reducible refine w_lcF ?_ | with_reducible refine w_seqF ?_ | with_reducible refine ble_len (by with_unfolding_all exact rfl) ?_)
    refine w_var h2 ?_
    (repeat' first
    | with_reducible refine w_seq ?_ | with_reducible refine w_nx ?_ | with_reducible refine w_ct ?_ | with_reducible refine w_br ?_ | with_reducible refine w_rtN ?_
    | with_reducible refine w_ret ?_ | with_reducible refine w_set ?_ | with_reducible refine w_expr ?_ | with_reducible refine w_if ?_ | with_reducible refine w_ite_t ?_ | with_reducible refine w_ite_f ?_
    | with_reducible refine w_raise ?_ | with_reducible refine w_setSub ?_
    | with_reducible refine w_var (by with_unfolding_all exact rfl) ?_ | with_reducible refine w_cst ?_ | with_reducible refine w_bin ?_ | with_reducible refine w_fn ?_ | with_reducible refine w_nilA ?_ | with_reducible refine w_consA ?_
    | with_reducible refine w_tup ?_ | with_reducible refine w_lstF ?_ | with_reducible refine w_lstT ?_ | with_reducible refine w_tst ?_ | with_reducible refine tst_bl ?_ | with_reducible refine w_tru ?_ | with_reducible refine tru_bl ?_
    | with_reducible refine w_not ?_ | with_reducible refine w_andF ?_ | with_reducible refine w_orF ?_ | with_reducible refine w_pt ?_ | with_reducible refine w_pf ?_ | with_reducible refine w_iteT ?_ | with_reducible refine w_iteF ?_ | with_reducible refine w_ok ?_
    | with_reducible refine w_andV ?_ | with_reducible refine w_orV ?_ | with_reducible refine bl_bl ?_ | with_reducible refine w_iteV ?_ | with_reducible refine w_noO ?_ | with_reducible refine w_soO ?_ | with_reducible refine int_int ?_
    | with_reducible refine w_sl ?_ | with_reducible refine w_is ?_ | with_reducible refine w_add ?_ | with_reducible refine w_sub ?_ | with_reducible refine w_lt ?_ | with_reducible refine w_gt ?_ | with_reducible refine w_eqI ?_ | with_reducible refine w_neI ?_ | with_reducible refine w_int ?_
    | with_reducible refine fin_ret ?_ | with_reducible refine fin_err ?_ | with_reducible refine w_asg ?_ | with_reducible refine w_try ?_ | with_reducible refine w_for ?_ | with_reducible refine w_rng ?_ | with_reducible refine w_lcF ?_ | with_reducible refine w_seqF ?_ | with_reducible refine ble_len (by with_unfolding_all exact rfl) ?_)
    refine R.w_of (pw18 S) ?_
    (repeat' first
    | with_reducible refine w_seq ?_ | with_reducible refine w_nx ?_ | with_reducible refine w_ct ?_ | with_reducible refine w_br ?_ | with_reducible refine w_rtN ?_
    | with_reducible refine w_ret ?_ | with_reducible refine w_set ?_ | with_reducible refine w_expr ?_ | with_reducible refine w_if ?_ | with_reducible refine w_ite_t ?_ | with_reducible refine w_ite_f ?_
    | with_reducible refine w_raise ?_ | with_reducible refine w_setSub ?_
    | with_reducible refine w_var (by with_unfolding_all exact rfl) ?_ | with_reducible refine w_cst ?_ | with_reducible refine w_bin ?_ | with_reducible refine w_fn ?_ | with_reducible refine w_nilA ?_ | with_reducible refine w_consA ?_
    | with_reducible refine w_tup ?_ | with_reducible refine w_lstF ?_ | with_reducible refine w_lstT ?_ | with_reducible refine w_tst ?_ | with_reducible refine tst_bl ?_ | with_reducible refine w_tru ?_ | with_reducible refine tru_bl ?_
    | with_reducible refine w_not ?_ | with_reducible refine w_andF ?_ | with_reducible refine w_orF ?_ | with_reducible refine w_pt ?_ | with_reducible refine w_pf ?_ | with_reducible refine w_iteT ?_ | with_reducible refine w_iteF ?_ | with_reducible refine w_ok ?_
    | with_reducible refine w_andV ?_ | with_reducible refine w_orV ?_ | with_reducible refine bl_bl ?_ | with_reducible refine w_iteV ?_ | with_reducible refine w_noO ?_ | with_reducible refine w_soO ?_ | with_reducible refine int_int ?_
    | with_reducible refine w_sl ?_ | with_reducible refine w_is ?_ | with_reducible refine w_add ?_ | with_reducible refine w_sub ?_ | with_reducible refine w_lt ?_ | with_reducible refine w_gt ?_ | with_reducible refine w_eqI ?_ | with_reducible refine w_neI ?_ | with_reducible refine w_int ?_
    | with_reducible refine fin_ret ?_ | with_reducible refine fin_err ?_ | with_reducible refine w_asg ?_ | with_reducible refine w_try ?_ | with_reducible refine w_for ?_ | with_reducible refine w_rng ?_ | with_reducible refine w_lcF ?_ | with_reducible refine w_seqF ?_ | with_reducible refine ble_len (by with_unfolding_all exact rfl) ?_)
    refine R.w_of (a := .int (if (0 : Int) > c - (10 : Int) ^ (18 : Int).toNat then 0 else c - (10 : Int) ^ (18 : Int).toNat)) (S := S) rfl ?_
    (repeat' first
    | with_reducible refine w_seq ?_ | with_reducible refine w_nx ?_ | with_reducible refine w_ct ?_ | with_reducible refine w_br ?_ | with_reducible refine w_rtN ?_
    | with_reducible refine w_ret ?_ | with_reducible refine w_set ?_ | with_reducible refine w_expr ?_ | with_reducible refine w_if ?_ | with_reducible refine w_ite_t ?_ | with_reducible refine w_ite_f ?_
    | with_reducible refine w_raise ?_ | with_reducible refine w_setSub ?_
    | with_reducible refine w_var (by with_unfolding_all exact rfl) ?_ | with_reducible refine w_cst ?_ | with_reducible refine w_bin ?_ | with_reducible refine w_fn ?_ | with_reducible refine w_nilA ?_ | with_reducible refine w_consA ?_
    | with_reducible refine w_tup ?_ | with_reducible refine w_lstF ?_ | with_reducible refine w_lstT ?_ | with_reducible refine w_tst ?_ | with_reducible refine tst_bl ?_ | with_reducible refine w_tru ?_ | with_reducible refine tru_bl ?_
    | with_reducible refine w_not ?_ | with_reducible refine w_andF ?_ | with_reducible refine w_orF ?_ | with_reducible refine w_pt ?_ | with_reducible refine w_pf ?_ | with_reducible refine w_iteT ?_ | with_reducible refine w_iteF ?_ | with_reducible refine w_ok ?_
    | with_reducible refine w_andV ?_ | with_reducible refine w_orV ?_ | with_reducible refine bl_bl ?_ | with_reducible refine w_iteV ?_ | with_reducible refine w_noO ?_ | with_reducible refine w_soO ?_ | with_reducible refine int_int ?_
    | with_reducible refine w_sl ?_ | with_reducible refine w_is ?_ | with_reducible refine w_add ?_ | with_reducible refine w_sub ?_ | with_reducible refine w_lt ?_ | with_reducible refine w_gt ?_ | with_reducible refine w_eqI ?_ | with_reducible refine w_neI ?_ | with_reducible refine w_int ?_
    | with_reducible refine fin_ret ?_ | with_reducible refine fin_err ?_ | with_reducible refine w_asg ?_ | with_reducible refine w_try ?_ | with_reducible refine w_for ?_ | with_reducible refine w_rng ?_ | with_reducible refine w_lcF ?_ | with_reducible refine w_seqF ?_ | with_reducible refine ble_len (by with_unfolding_all exact rfl) ?_)
    refine R.w_of (pw60 S) ?_
    (repeat' first
    | with_reducible refine w_seq ?_ | with_reducible refine w_nx ?_ | with_reducible refine w_ct ?_ | with_reducible refine w_br ?_ | with_reducible refine w_rtN ?_
    | with_reducible refine w_ret ?_ | with_reducible refine w_set ?_ | with_reducible refine w_expr ?_ | with_reducible refine w_if ?_ | with_reducible refine w_ite_t ?_ | with_reducible refine w_ite_f ?_
    | with_reducible refine w_raise ?_ | with_reducible refine w_setSub ?_
    | with_reducible refine w_var (by with_unfolding_all exact rfl) ?_ | with_reducible refine w_cst ?_ | with_reducible refine w_bin ?_ | with_reducible refine w_fn ?_ | with_reducible refine w_nilA ?_ | with_reducible refine w_consA ?_
    | with_reducible refine w_tup ?_ | with_reducible refine w_lstF ?_ | with_reducible refine w_lstT ?_ | with_reducible refine w_tst ?_ | with_reducible refine tst_bl ?_ | with_reducible refine w_tru ?_ | with_reducible refine tru_bl ?_
    | with_reducible refine w_not ?_ | with_reducible refine w_andF ?_ | with_reducible refine w_orF ?_ | with_reducible refine w_pt ?_ | with_reducible refine w_pf ?_ | with_reducible refine w_iteT ?_ | with_reducible refine w_iteF ?_ | with_reducible refine w_ok ?_
    | with_reducible refine w_andV ?_ | with_reducible refine w_orV ?_ | with_reducible refine bl_bl ?_ | with_reducible refine w_iteV ?_ | with_reducible refine w_noO ?_ | with_reducible refine w_soO ?_ | with_reducible refine int_int ?_
    | with_reducible refine w_sl ?_ | with_reducible refine w_is ?_ | with_reducible refine w_add ?_ | with_reducible refine w_sub ?_ | with_reducible refine w_lt ?_ | with_reducible refine w_gt ?_ | with_reducible refine w_eqI ?_ | with_reducible refine w_neI ?_ | with_reducible refine w_int ?_
    | with_reducible refine fin_ret ?_ | with_reducible refine fin_err ?_ | with_reducible refine w_asg ?_ | with_reducible refine w_try ?_ | with_reducible refine w_for ?_ | with_reducible refine w_rng ?_ | with_reducible refine w_lcF ?_ | with_reducible refine w_seqF ?_ | with_reducible refine ble_len (by with_unfolding_all exact rfl) ?_)
    refine R.w_of (pw480 S) ?_
    refine w_mod big_pos ?_
    (repeat' first
    | with_reducible refine w_seq ?_ | with_reducible refine w_nx ?_ | with_reducible refine w_ct ?_ | with_reducible refine w_br ?_ | with_reducible refine w_rtN ?_
    | with_reducible refine w_ret ?_ | with_reducible refine w_set ?_ | with_reducible refine w_expr ?_ | with_reducible refine w_if ?_ | with_reducible refine w_ite_t ?_ | with_reducible refine w_ite_f ?_
    | with_reducible refine w_raise ?_ | with_reducible refine w_setSub ?_
    | with_reducible refine w_var (by with_unfolding_all exact rfl) ?_ | with_reducible refine w_cst ?_ | with_reducible refine w_bin ?_ | with_reducible refine w_fn ?_ | with_reducible refine w_nilA ?_ | with_reducible refine w_consA ?_
    | with_reducible refine w_tup ?_ | with_reducible refine w_lstF ?_ | with_reducible refine w_lstT ?_ | with_reducible refine w_tst ?_ | with_reducible refine tst_bl ?_ | with_reducible refine w_tru ?_ | with_reducible refine tru_bl ?_
    | with_reducible refine w_not ?_ | with_reducible refine w_andF ?_ | with_reducible refine w_orF ?_ | with_reducible refine w_pt ?_ | with_reducible refine w_pf ?_ | with_reducible refine w_iteT ?_ | with_reducible refine w_iteF ?_ | with_reducible refine w_ok ?_
    | with_reducible refine w_andV ?_ | with_reducible refine w_orV ?_ | with_reducible refine bl_bl ?_ | with_reducible refine w_iteV ?_ | with_reducible refine w_noO ?_ | with_reducible refine w_soO ?_ | with_reducible refine int_int ?_
    | with_reducible refine w_sl ?_ | with_reducible refine w_is ?_ | with_reducible refine w_add ?_ | with_reducible refine w_sub ?_ | with_reducible refine w_lt ?_ | with_reducible refine w_gt ?_ | with_reducible refine w_eqI ?_ | with_reducible refine w_neI ?_ | with_reducible refine w_int ?_
    | with_reducible refine fin_ret ?_ | with_reducible refine fin_err ?_ | with_reducible refine w_asg ?_ | with_reducible refine w_try ?_ | with_reducible refine w_for ?_ | with_reducible refine w_rng ?_ | with_reducible refine w_lcF ?_ | with_reducible refine w_seqF ?_ | with_reducible refine ble_len (by with_unfolding_all exact rfl) ?_)
    refine w_var h2 ?_
    (repeat' first
    | with_reducible refine w_seq ?_ | with_reducible refine w_nx ?_ | with_reducible refine w_ct ?_ | with_reducible refine w_br ?_ | with_reducible refine w_rtN ?_
    | with_reducible refine w_ret ?_ | with_reducible refine w_set ?_ | with_reducible refine w_expr ?_ | with_reducible refine w_if ?_ | with_reducible refine w_ite_t ?_ | with_reducible refine w_ite_f ?_
    | with_reducible refine w_raise ?_ | with_reducible refine w_setSub ?_
    | with_reducible refine w_var (by with_unfolding_all exact rfl) ?_ | with_reducible refine w_cst ?_ | with_reducible refine w_bin ?_ | with_reducible refine w_fn ?_ | with_reducible refine w_nilA ?_ | with_reducible refine w_consA ?_
    | with_reducible refine w_tup ?_ | with_reducible refine w_lstF ?_ | with_reducible refine w_lstT ?_ | with_reducible refine w_tst ?_ | with_reducible refine tst_bl ?_ | with_reducible refine w_tru ?_ | with_reducible refine tru_bl ?_
    | with_reducible refine w_not ?_ | with_reducible refine w_andF ?_ | with_reducible refine w_orF ?_ | with_reducible refine w_pt ?_ | with_reducible refine w_pf ?_ | with_reducible refine w_iteT ?_ | with_reducible refine w_iteF ?_ | with_reducible refine w_ok ?_
    | with_reducible refine w_andV ?_ | with_reducible refine w_orV ?_ | with_reducible refine bl_bl ?_ | with_reducible refine w_iteV ?_ | with_reducible refine w_noO ?_ | with_reducible refine w_soO ?_ | with_reducible refine int_int ?_
    | with_reducible refine w_sl ?_ | with_reducible refine w_is ?_ | with_reducible refine w_add ?_ | with_reducible refine w_sub ?_ | with_reducible refine w_lt ?_ | with_reducible refine w_gt ?_ | with_reducible refine w_eqI ?_ | with_reducible refine w_neI ?_ | with_reducible refine w_int ?_
    | with_reducible refine fin_ret ?_ | with_reducible refine fin_err ?_ | with_reducible refine w_asg ?_ | with_reducible refine w_try ?_ | with_reducible refine w_for ?_ | with_reducible refine w_rng ?_ | with_reducible refine w_lcF ?_ | with_reducible refine w_seqF ?_ | with_reducible refine ble_len (by with_unfolding_all exact rfl) ?_)
    refine w_mod (by decide) ?_
    (repeat' first
    | with_reducible refine w_seq ?_ | with_reducible refine w_nx ?_ | with_reducible refine w_ct ?_ | with_reducible refine w_br ?_ | with_reducible refine w_rtN ?_
    | with_reducible refine w_ret ?_ | with_reducible refine w_set ?_ | with_reducible refine w_expr ?_ | with_reducible refine w_if ?_ | with_reducible refine w_ite_t ?_ | with_reducible refine w_ite_f ?_
    | with_reducible refine w_raise ?_ | with_reducible refine w_setSub ?_
    | with_reducible refine w_var (by with_unfolding_all exact rfl) ?_ | with_reducible refine w_cst ?_ | with_reducible refine w_bin ?_ | with_reducible refine w_fn ?_ | with_reducible refine w_nilA ?_ | with_reducible refine w_consA ?_
    | with_reducible refine w_tup ?_ | with_reducible refine w_lstF ?_ | with_reducible refine w_lstT ?_ | with_reducible refine w_tst ?_ | with_reducible refine tst_bl ?_ | with_reducible refine w_tru ?_ | with_reducible refine tru_bl ?_
    | with_reducible refine w_not ?_ | with_reducible refine w_andF ?_ | with_reducible refine w_orF ?_ | with_reducible refine w_pt ?_ | with_reducible refine w_pf ?_ | with_reducible refine w_iteT ?_ | with_reducible refine w_iteF ?_ | with_reducible refine w_ok ?_
    | with_reducible refine w_andV ?_ | with_reducible refine w_orV ?_ | with_reducible refine bl_bl ?_ | with_reducible refine w_iteV ?_ | with_reducible refine w_noO ?_ | with_reducible refine w_soO ?_ | with_reducible refine int_int ?_
    | with_reducible refine w_sl ?_ | with_reducible refine w_is ?_ | with_reducible refine w_add ?_ | with_reducible refine w_sub ?_ | with_reducible refine w_lt ?_ | with_reducible refine w_gt ?_ | with_reducible refine w_eqI ?_ | with_reducible refine w_neI ?_ | with_reducible refine w_int ?_
    | with_reducible refine fin_ret ?_ | with_reducible refine fin_err ?_ | with_reducible refine w_asg ?_ | with_reducible refine w_try ?_ | with_reducible refine w_for ?_ | with_reducible refine w_rng ?_ | with_reducible refine w_lcF ?_ | with_reducible refine w_seqF ?_ | with_reducible refine ble_len (by with_unfolding_all exact rfl) ?_)
    refine w_var h1 ?_
    refine w_mul (mulOk_l (by decide) (by decide)) ?_
    (repeat' first
    | with_reducible refine w_seq ?_ | with_reducible refine w_nx ?_ | with_reducible refine w_ct ?_ | with_reducible refine w_br ?_ | with_reducible refine w_rtN ?_
    | with_reducible refine w_ret ?_ | with_reducible refine w_set ?_ | with_reducible refine w_expr ?_ | with_reducible refine w_if ?_ | with_reducible refine w_ite_t ?_ | with_reducible refine w_ite_f ?_
    | with_reducible refine w_raise ?_ | with_reducible refine w_setSub ?_
    | with_reducible refine w_var (by with_unfolding_all exact rfl) ?_ | with_reducible refine w_cst ?_ | with_reducible refine w_bin ?_ | with_reducible refine w_fn ?_ | with_reducible refine w_nilA ?_ | with_reducible refine w_consA ?_
    | with_reducible refine w_tup ?_ | with_reducible refine w_lstF ?_ | with_reducible refine w_lstT ?_ | with_reducible refine w_tst ?_ | with_reducible refine tst_bl ?_ | with_reducible refine w_tru ?_ | with_reducible refine tru_bl ?_
    | with_reducible refine w_not ?_ | with_reducible refine w_andF ?_ | with_reducible refine w_orF ?_ | with_reducible refine w_pt ?_ | with_reducible refine w_pf ?_ | with_reducible refine w_iteT ?_ | with_reducible refine w_iteF ?_ | with_reducible refine w_ok ?_
    | with_reducible refine w_andV ?_ | with_reducible refine w_orV ?_ | with_reducible refine bl_bl ?_ | with_reducible refine w_iteV ?_ | with_reducible refine w_noO ?_ | with_reducible refine w_soO ?_ | with_reducible refine int_int ?_
    | with_reducible refine w_sl ?_ | with_reducible refine w_is ?_ | with_reducible refine w_add ?_ | with_reducible refine w_sub ?_ | with_reducible refine w_lt ?_ | with_reducible refine w_gt ?_ | with_reducible refine w_eqI ?_ | with_reducible refine w_neI ?_ | with_reducible refine w_int ?_
    | with_reducible refine fin_ret ?_ | with_reducible refine fin_err ?_ | with_reducible refine w_asg ?_ | with_reducible refine w_try ?_ | with_reducible refine w_for ?_ | with_reducible refine w_rng ?_ | with_reducible refine w_lcF ?_ | with_reducible refine w_seqF ?_ | with_reducible refine ble_len (by with_unfolding_all exact rfl) ?_)
    refine ⟨S.length, rfl, _, _, _, get_last _ _, Int.emod_nonneg _ (Int.ne_of_gt big_pos), Int.emod_nonneg _ (by decide), ?_, by omega, by omega⟩
    have := Int.emod_lt_of_pos c (show (0 : Int) < 2147483647 by decide)
    omega
  rw [run_succ k]
  refine w_fin ?_
  unfold F_l_purse
  (repeat' first
    | with_reducible refine w_seq ?_ | with_reducible refine w_nx ?_ | with_reducible refine w_ct ?_ | with_reducible refine w_br ?_ | with_reducible refine w_rtN ?_
    | with_reducible refine w_ret ?_ | with_reducible refine w_set ?_ | with_reducible refine w_expr ?_ | with_reducible refine w_if ?_ | with_reducible refine w_ite_t ?_ | with_reducible refine w_ite_f ?_
    | with_reducible refine w_raise ?_ | with_reducible refine w_setSub ?_
    | with_reducible refine w_var (by with_unfolding_all exact rfl) ?_ | with_reducible refine w_cst ?_ | with_reducible refine w_bin ?_ | with_reducible refine w_fn ?_ | with_reducible refine w_nilA ?_ | with_reducible refine w_consA ?_
    | with_reducible refine w_tup ?_ | with_reducible refine w_lstF ?_ | with_reducible refine w_lstT ?_ | with_reducible refine w_tst ?_ | with_reducible refine tst_bl ?_ | with_reducible refine w_tru ?_ | with_reducible refine tru_bl ?_
    | with_reducible refine w_not ?_ | with_reducible refine w_andF ?_ | with_reducible refine w_orF ?_ | with_reducible refine w_pt ?_ | with_reducible refine w_pf ?_ | with_reducible refine w_iteT ?_ | with_reducible refine w_iteF ?_ | with_reducible refine w_ok ?_
    | with_reducible refine w_andV ?_ | with_reducible refine w_orV ?_ | with_reducible refine bl_bl ?_ | with_reducible refine w_iteV ?_ | with_reducible refine w_noO ?_ | with_reducible refine w_soO ?_ | with_reducible refine int_int ?_
    | with_reducible refine w_sl ?_ | with_reducible refine w_is ?_ | with_reducible refine w_add ?_ | with_reducible refine w_sub ?_ | with_reducible refine w_lt ?_ | with_reducible refine w_gt ?_ | with_reducible refine w_eqI ?_ | with_reducible refine w_neI ?_ | with_reducible refine w_int ?_
    | with_reducible refine fin_ret ?_ | with_reducible refine fin_err ?_ | with_reducible refine w_asg ?_ | with_reducible refine w_try ?_ | with_reducible refine w_for ?_ | with_reducible refine w_rng ?_ | with_reducible refine w_lcF ?_ | with_reducible refine w_seqF ?_ | with_reducible refine ble_len (by with_unfolding_all exact rfl) ?_)
  refine R.w_of (given_len h GT S) ?_
  (repeat' first
    | with_reducible refine w_seq ?_ | with_reducible refine w_nx ?_ | with_reducible refine w_ct ?_ | with_reducible refine w_br ?_ | with_reducible refine w_rtN ?_
    | with_reducible refine w_ret ?_ | with_reducible refine w_set ?_ | with_reducible refine w_expr ?_ | with_reducible refine w_if ?_ | with_reducible refine w_ite_t ?_ | with_reducible refine w_ite_f ?_
    | with_reducible refine w_raise ?_ | with_reducible refine w_setSub ?_
    | with_reducible refine w_var (by with_unfolding_all exact rfl) ?_ | with_reducible refine w_cst ?_ | with_reducible refine w_bin ?_ | with_reducible refine w_fn ?_ | with_reducible refine w_nilA ?_ | with_reducible refine w_consA ?_
    | with_reducible refine w_tup ?_ | with_reducible refine w_lstF ?_ | with_reducible refine w_lstT ?_ | with_reducible refine w_tst ?_ | with_reducible refine tst_bl ?_ | with_reducible refine w_tru ?_ | with_reducible refine tru_bl ?_
    | with_reducible refine w_not ?_ | with_reducible refine w_andF ?_ | with_reducible refine w_orF ?_ | with_reducible refine w_pt ?_ | with_reducible refine w_pf ?_ | with_reducible refine w_iteT ?_ | with_reducible refine w_iteF ?_ | with_reducible refine w_ok ?_
    | with_reducible refine w_andV ?_ | with_reducible refine w_orV ?_ | with_reducible refine bl_bl ?_ | with_reducible refine w_iteV ?_ | with_reducible refine w_noO ?_ | with_reducible refine w_soO ?_ | with_reducible refine int_int ?_
    | with_reducible refine w_sl ?_ | with_reducible refine w_is ?_ | with_reducible refine w_add ?_ | with_reducible refine w_sub ?_ | with_reducible refine w_lt ?_ | with_reducible refine w_gt ?_ | with_reducible refine w_eqI ?_ | with_reducible refine w_neI ?_ | with_reducible refine w_int ?_
    | with_reducible refine fin_ret ?_ | with_reducible refine fin_err ?_ | with_reducible refine w_asg ?_ | with_reducible refine w_try ?_ | with_reducible refine w_for ?_ | with_reducible refine w_rng ?_ | with_reducible refine w_lcF ?_ | with_reducible refine w_seqF ?_ | with_reducible refine ble_len (by with_unfolding_all exact rfl) ?_)
  by_cases hl : i < ns.length
  · rw [decide_eq_true (show (i : Int) < (ns.length : Int) by omega)]
    (repeat' first
    | with_reducible refine w_seq ?_ | with_reducible refine w_nx ?_ | with_reducible refine w_ct ?_ | with_reducible refine w_br ?_ | with_reducible refine w_rtN ?_
    | with_reducible refine w_ret ?_ | with_reducible refine w_set ?_ | with_reducible refine w_expr ?_ | with_reducible refine w_if ?_ | with_reducible refine w_ite_t ?_ | with_reducible refine w_ite_f ?_
    | with_reducible refine w_raise ?_ | with_reducible refine w_setSub ?_
    | with_reducible refine w_var (by with_unfolding_all exact rfl) ?_ | with_reducible refine w_cst ?_ | with_reducible refine w_bin ?_ | with_reducible refine w_fn ?_ | with_reducible refine w_nilA ?_ | with_reducible refine w_consA ?_
    | with_reducible refine w_tup ?_ | with_reducible refine w_lstF ?_ | with_reducible refine w_lstT ?_ | with_reducible refine w_tst ?_ | with_reducible refine tst_bl ?_ | with_reducible refine w_tru ?_ | with_reducible refine tru_bl ?_
    | with_reducible refine w_not ?_ | with_reducible refine w_andF ?_ | with_reducible refine w_orF ?_ | with_reducible refine w_pt ?_ | with_reducible refine w_pf ?_ | with_reducible refine w_iteT ?_ | with_reducible refine w_iteF ?_ | with_reducible refine w_ok ?_
    | with_reducible refine w_andV ?_ | with_reducible refine w_orV ?_ | with_reducible refine bl_bl ?_ | with_reducible refine w_iteV ?_ | with_reducible refine w_noO ?_ | with_reducible refine w_soO ?_ | with_reducible refine int_int ?_
    | with_reducible refine w_sl ?_ | with_reducible refine w_is ?_ | with_reducible refine w_add ?_ | with_reducible refine w_sub ?_ | with_reducible refine w_lt ?_ | with_reducible refine w_gt ?_ | with_reducible refine w_eqI ?_ | with_reducible refine w_neI ?_ | with_reducible refine w_int ?_
    | with_reducible refine fin_ret ?_ | with_reducible refine fin_err ?_ | with_reducible refine w_asg ?_ | with_reducible refine w_try ?_ | with_reducible refine w_for ?_ | with_reducible refine w_rng ?_ | with_reducible refine w_lcF ?_ | with_reducible refine w_seqF ?_ | with_reducible refine ble_len (by with_unfolding_all exact rfl) ?_)
    refine R.w_of (given_sub h i hl S) ?_
    with_reducible refine w_nx ?_
    exact (fin ns[i] _ rfl rfl rfl).mono (fun _ _ z => z.elim) fun _ t => t
  · rw [decide_eq_false (show ¬(i : Int) < (ns.length : Int) by omega)]
    with_reducible refine w_ite_f ?_
    with_reducible refine w_nx ?_
    exact (fin 0 _ rfl rfl rfl).mono (fun _ _ z => z.elim) fun _ t => t
end MI.K06
set_option Elab.async false
set_option linter.all false
set_option maxRecDepth 100000
set_option maxHeartbeats 4000000
namespace MI.K06
open PySem MI
/-- the errors with a field, in the law's order, all with the field d -/
def exL (d : D) : List D := [.exc "InvalidTree" d, .exc "InvalidState" d, .exc "InvalidPattern" d, .exc "InvalidRewriting" d, .exc "InvalidFilling" d, .exc "InvalidCommand" d, .exc "InvalidScript" d, .exc "InvalidList" d, .exc "InvalidPath" d, .exc "InvalidCount" d, .exc "InvalidCommands" d, .exc "NotOneToOne" d,
  .exc "InvalidName" d, .exc "NoSuchName" d, .exc "Failed" d, .exc "InvalidNumber" d, .exc "Needed" d, .exc "Unreadable" d, .exc "InvalidLabels" d, .exc "Drops" d, .exc "InvalidLikeness" d]
def bareL : List D := exL .non ++ [.exc0 "NoBack", .exc0 "TooMany", .exc0 "NothingToUndo"]
theorem run_by_place (k : Nat) (d : D) (S : Store) : run GT fldT exmT fuel (k + 3) .l_by_place [d] S = .ok (.lst (exL d)) S := by kernel_rfl
theorem run_by_name (k : Nat) (d : D) (S : Store) : run GT fldT exmT fuel (k + 3) .l_by_name [d] S = .ok (.lst (exL d)) S := by kernel_rfl
theorem run_bare (k : Nat) (S : Store) : run GT fldT exmT fuel (k + 3) .l_bare [] S = .ok (.lst bareL) S := by kernel_rfl
theorem run_fields (k : Nat) (d : D) (S : Store) : run GT fldT exmT fuel (k + 3) .l_fields [.lst (exL d)] S = .ok (.lst (List.replicate 21 d)) S := by kernel_rfl
theorem run_fields0 (k : Nat) (S : Store) : run GT fldT exmT fuel (k + 3) .l_fields [.lst bareL] S = .ok (.lst (List.replicate 21 .non)) S := by kernel_rfl
end MI.K06

set_option Elab.async false
set_option linter.all false
set_option maxRecDepth 100000
set_option maxHeartbeats 4000000
namespace MI.K06
open PySem MI
def items : List D := [.non, .int 0, .str "", .str " a\n", .tup [.int 0, .int 1], .lst [.int 1, .lst [.int 2]], .dic [.inr "a"] [.int 1], .bl true, .int (-1), .int ((10 : Int) ^ (40 : Int).toNat), .tup [.str "both", .int 0, .int 1], .lst [.int 2, .int 1]]
/-- what the law asks of an item: it has a text, and is equal to itself -/
def Itm (d : D) : Prop := (shwD d).isSome = true ∧ ∀ S, eqF S false 58 d d = some true
theorem items_ok : ∀ x : Nat, x < 12 → ∃ d, items[x]? = some d ∧ Itm d := fun x h => by
  have : x = 0 ∨ x = 1 ∨ x = 2 ∨ x = 3 ∨ x = 4 ∨ x = 5 ∨ x = 6 ∨ x = 7 ∨ x = 8 ∨ x = 9 ∨ x = 10 ∨ x = 11 := by omega
  rcases this with rfl | rfl | rfl | rfl | rfl | rfl | rfl | rfl | rfl | rfl | rfl | rfl <;> exact ⟨_, rfl, by kernel_rfl, fun S => by kernel_rfl⟩
theorem eqL_rep {f : D → D → Option Bool} {d : D} (h : f d d = some true) : ∀ n, eqL f (List.replicate n d) (List.replicate n d) = some true
  | 0 => rfl
  | n + 1 => by
    show (match f d d, eqL f (List.replicate n d) (List.replicate n d) with
      | some a, some b => some (a && b)
      | _, _ => none) = _
    rw [h, eqL_rep h n]; rfl
theorem eqF_rep {d : D} (h : Itm d) (S : Store) (n : Nat) : eqF S false 59 (.lst (List.replicate n d)) (.lst (List.replicate n d)) = some true := by
  show (if (List.replicate n d).length = (List.replicate n d).length then eqL (eqF S false 58) (List.replicate n d) (List.replicate n d) else some false) = _
  rw [if_pos rfl]
  exact eqL_rep (h.2 S) n
theorem ne_two {d e : D} (h1 : Itm d) (h2 : Itm e) (S : Store) (n : Nat) : neLD (.lst [.lst (List.replicate n d), .lst (List.replicate n e)]) (.lst [.lst (List.replicate n d), .lst (List.replicate n e)]) S = .ok (.bl false) S := by
  have q : neL S (.lst [.lst (List.replicate n d), .lst (List.replicate n e)]) (.lst [.lst (List.replicate n d), .lst (List.replicate n e)]) = some false := by
    show (if 2 = 2 then (eqL (eqF S false 59) [.lst (List.replicate n d), .lst (List.replicate n e)] [.lst (List.replicate n d), .lst (List.replicate n e)]).map (!·) else some true) = _
    rw [if_pos rfl]
    have : eqL (eqF S false 59) [.lst (List.replicate n d), .lst (List.replicate n e)] [.lst (List.replicate n d), .lst (List.replicate n e)] = some true := by
      unfold eqL
      rw [eqF_rep h1 S n]
      unfold eqL
      rw [eqF_rep h2 S n]
      rfl
    rw [this]; rfl
  unfold neLD
  rw [q]; rfl
theorem ne_strs (x y : Str) (S : Store) : neLD (.lst [.str x, .str y]) (.lst [.str x, .str y]) S = .ok (.bl false) S := by
  have e : ∀ z : Str, eqF S false 59 (.str z) (.str z) = some true := fun z => by
    show some (z == z) = _
    simp
  have q : neL S (.lst [.str x, .str y]) (.lst [.str x, .str y]) = some false := by
    show (if 2 = 2 then (eqL (eqF S false 59) [.str x, .str y] [.str x, .str y]).map (!·) else some true) = _
    rw [if_pos rfl]
    unfold eqL
    rw [e]
    unfold eqL
    rw [e]
    rfl
  unfold neLD
  rw [q]; rfl
theorem w_strA {E : D → Store → Prop} {Q : D → Store → Prop} {σ : Env} {S : Store} {Fs : FA} (h : (Fs σ S).w E fun ds S => ∃ d x, ds = [d] ∧ shwD d = some x ∧ Q (.str x) S) : (strA Fs σ S).w E Q := w_bind (h.mono (fun ds S ⟨d, x, e1, e2, q⟩ => by
  subst e1
  show (match shwD d with
    | some x => (R.ok (.str x) S : R D)
    | none => .bad).w E Q
  rw [e2]
  exact .ok q) fun _ _ q => q)
theorem w_par {i j : Nat} {Fs : FA} {σ : Env} {S : Store} {N : Env → Store → Prop} {T : O → Prop} (h : (Fs σ S).w (fun x S => T (.err x σ S)) fun ds S => ∃ d e, ds = [d, e] ∧ N ((σ.set i (some d)).set j (some e)) S) : (parS i j Fs σ S).w N T := w_thn (h.mono (fun ds S q => by
  obtain ⟨d, e, rfl, q⟩ := q
  exact .nx q) fun _ _ q => q)
theorem w_nxO {o : O} {σ : Env} {S : Store} {N : Env → Store → Prop} {T : O → Prop} (h : o = .nx σ S) (q : N σ S) : o.w N T := by rw [h]; exact .nx q
theorem sub_items {x : Nat} {d : D} (h : items[x]? = some d) (S : Store) : subD (.lst items) (.int x) S = .ok d S := by
  show (match L2.atI items ((x : Nat) : Int) with
        | some y => R.ok y S
        | none => .bad) = _
  rw [L2.atI_nat h]
end MI.K06

set_option Elab.async false
set_option linter.all false
set_option maxRecDepth 100000
set_option maxHeartbeats 8000000
namespace MI.K06
open PySem MI
theorem pure_main (ns : List Int) (g : D) (hg : Given ns g) :
    (runMain GT fldT exmT fuel 229 [g] []).w noErr fun r T => r = .bl true := by
  unfold runMain
  refine w_fin ?_
  unfold F_l_main
  with_reducible refine w_seq ?_
  with_reducible refine w_set ?_
  refine R.w_of (run_bare 226 _) ?_
  with_reducible refine w_seq ?_
  refine w_nxO (σ := [some g, some (.lst bareL), none, some (.int 23), some (.exc0 "NothingToUndo"), none, none, none, none, none, none]) (S := []) (by kernel_rfl) ?_
  (repeat' first
    | with_reducible refine w_seq ?_ | with_reducible refine w_nx ?_ | with_reducible refine w_ct ?_ | with_reducible refine w_br ?_ | with_reducible refine w_rtN ?_
    | with_reducible refine w_ret ?_ | with_reducible refine w_set ?_ | with_reducible refine w_expr ?_ | with_reducible refine w_if ?_ | with_reducible refine w_ite_t ?_ | with_reducible refine w_ite_f ?_
    | with_reducible refine w_raise ?_ | with_reducible refine w_setSub ?_
    | with_reducible refine w_var (by with_unfolding_all exact rfl) ?_ | with_reducible refine w_cst ?_ | with_reducible refine w_bin ?_ | with_reducible refine w_fn ?_ | with_reducible refine w_nilA ?_ | with_reducible refine w_consA ?_
    | with_reducible refine w_tup ?_ | with_reducible refine w_lstF ?_ | with_reducible refine w_lstT ?_ | with_reducible refine w_tst ?_ | with_reducible refine tst_bl ?_ | with_reducible refine w_tru ?_ | with_reducible refine tru_bl ?_
    | with_reducible refine w_not ?_ | with_reducible refine w_andF ?_ | with_reducible refine w_orF ?_ | with_reducible refine w_pt ?_ | with_reducible refine w_pf ?_ | with_reducible refine w_iteT ?_ | with_reducible refine w_iteF ?_ | with_reducible refine w_ok ?_
    | with_reducible refine w_andV ?_ | with_reducible refine w_orV ?_ | with_reducible refine bl_bl ?_ | with_reducible refine w_iteV ?_ | with_reducible refine w_noO ?_ | with_reducible refine w_soO ?_ | with_reducible refine int_int ?_
    | with_reducible refine w_sl ?_ | with_reducible refine w_is ?_ | with_reducible refine w_add ?_ | with_reducible refine w_sub ?_ | with_reducible refine w_lt ?_ | with_reducible refine w_gt ?_ | with_reducible refine w_eqI ?_ | with_reducible refine w_neI ?_ | with_reducible refine w_int ?_
    | with_reducible refine fin_ret ?_ | with_reducible refine fin_err ?_ | with_reducible refine w_asg ?_ | with_reducible refine w_try ?_ | with_reducible refine w_for ?_ | with_reducible refine w_rng ?_ | with_reducible refine w_lcF ?_ | with_reducible refine w_seqF ?_ | with_reducible refine ble_len (by with_unfolding_all exact rfl) ?_)
  refine R.w_of (run_fields0 226 _) ?_
  (repeat' first
    | with_reducible refine w_seq ?_ | with_reducible refine w_nx ?_ | with_reducible refine w_ct ?_ | with_reducible refine w_br ?_ | with_reducible refine w_rtN ?_
    | with_reducible refine w_ret ?_ | with_reducible refine w_set ?_ | with_reducible refine w_expr ?_ | with_reducible refine w_if ?_ | with_reducible refine w_ite_t ?_ | with_reducible refine w_ite_f ?_
    | with_reducible refine w_raise ?_ | with_reducible refine w_setSub ?_
    | with_reducible refine w_var (by with_unfolding_all exact rfl) ?_ | with_reducible refine w_cst ?_ | with_reducible refine w_bin ?_ | with_reducible refine w_fn ?_ | with_reducible refine w_nilA ?_ | with_reducible refine w_consA ?_
    | with_reducible refine w_tup ?_ | with_reducible refine w_lstF ?_ | with_reducible refine w_lstT ?_ | with_reducible refine w_tst ?_ | with_reducible refine tst_bl ?_ | with_reducible refine w_tru ?_ | with_reducible refine tru_bl ?_
    | with_reducible refine w_not ?_ | with_reducible refine w_andF ?_ | with_reducible refine w_orF ?_ | with_reducible refine w_pt ?_ | with_reducible refine w_pf ?_ | with_reducible refine w_iteT ?_ | with_reducible refine w_iteF ?_ | with_reducible refine w_ok ?_
    | with_reducible refine w_andV ?_ | with_reducible refine w_orV ?_ | with_reducible refine bl_bl ?_ | with_reducible refine w_iteV ?_ | with_reducible refine w_noO ?_ | with_reducible refine w_soO ?_ | with_reducible refine int_int ?_
    | with_reducible refine w_sl ?_ | with_reducible refine w_is ?_ | with_reducible refine w_add ?_ | with_reducible refine w_sub ?_ | with_reducible refine w_lt ?_ | with_reducible refine w_gt ?_ | with_reducible refine w_eqI ?_ | with_reducible refine w_neI ?_ | with_reducible refine w_int ?_
    | with_reducible refine fin_ret ?_ | with_reducible refine fin_err ?_ | with_reducible refine w_asg ?_ | with_reducible refine w_try ?_ | with_reducible refine w_for ?_ | with_reducible refine w_rng ?_ | with_reducible refine w_lcF ?_ | with_reducible refine w_seqF ?_ | with_reducible refine ble_len (by with_unfolding_all exact rfl) ?_)
  refine R.w_of (a := .int 21) (S := []) (by kernel_rfl) ?_
  (repeat' first
    | with_reducible refine w_seq ?_ | with_reducible refine w_nx ?_ | with_reducible refine w_ct ?_ | with_reducible refine w_br ?_ | with_reducible refine w_rtN ?_
    | with_reducible refine w_ret ?_ | with_reducible refine w_set ?_ | with_reducible refine w_expr ?_ | with_reducible refine w_if ?_ | with_reducible refine w_ite_t ?_ | with_reducible refine w_ite_f ?_
    | with_reducible refine w_raise ?_ | with_reducible refine w_setSub ?_
    | with_reducible refine w_var (by with_unfolding_all exact rfl) ?_ | with_reducible refine w_cst ?_ | with_reducible refine w_bin ?_ | with_reducible refine w_fn ?_ | with_reducible refine w_nilA ?_ | with_reducible refine w_consA ?_
    | with_reducible refine w_tup ?_ | with_reducible refine w_lstF ?_ | with_reducible refine w_lstT ?_ | with_reducible refine w_tst ?_ | with_reducible refine tst_bl ?_ | with_reducible refine w_tru ?_ | with_reducible refine tru_bl ?_
    | with_reducible refine w_not ?_ | with_reducible refine w_andF ?_ | with_reducible refine w_orF ?_ | with_reducible refine w_pt ?_ | with_reducible refine w_pf ?_ | with_reducible refine w_iteT ?_ | with_reducible refine w_iteF ?_ | with_reducible refine w_ok ?_
    | with_reducible refine w_andV ?_ | with_reducible refine w_orV ?_ | with_reducible refine bl_bl ?_ | with_reducible refine w_iteV ?_ | with_reducible refine w_noO ?_ | with_reducible refine w_soO ?_ | with_reducible refine int_int ?_
    | with_reducible refine w_sl ?_ | with_reducible refine w_is ?_ | with_reducible refine w_add ?_ | with_reducible refine w_sub ?_ | with_reducible refine w_lt ?_ | with_reducible refine w_gt ?_ | with_reducible refine w_eqI ?_ | with_reducible refine w_neI ?_ | with_reducible refine w_int ?_
    | with_reducible refine fin_ret ?_ | with_reducible refine fin_err ?_ | with_reducible refine w_asg ?_ | with_reducible refine w_try ?_ | with_reducible refine w_for ?_ | with_reducible refine w_rng ?_ | with_reducible refine w_lcF ?_ | with_reducible refine w_seqF ?_ | with_reducible refine ble_len (by with_unfolding_all exact rfl) ?_)
  refine w_ite_f ?_
  (repeat' first
    | with_reducible refine w_seq ?_ | with_reducible refine w_nx ?_ | with_reducible refine w_ct ?_ | with_reducible refine w_br ?_ | with_reducible refine w_rtN ?_
    | with_reducible refine w_ret ?_ | with_reducible refine w_set ?_ | with_reducible refine w_expr ?_ | with_reducible refine w_if ?_ | with_reducible refine w_ite_t ?_ | with_reducible refine w_ite_f ?_
    | with_reducible refine w_raise ?_ | with_reducible refine w_setSub ?_
    | with_reducible refine w_var (by with_unfolding_all exact rfl) ?_ | with_reducible refine w_cst ?_ | with_reducible refine w_bin ?_ | with_reducible refine w_fn ?_ | with_reducible refine w_nilA ?_ | with_reducible refine w_consA ?_
    | with_reducible refine w_tup ?_ | with_reducible refine w_lstF ?_ | with_reducible refine w_lstT ?_ | with_reducible refine w_tst ?_ | with_reducible refine tst_bl ?_ | with_reducible refine w_tru ?_ | with_reducible refine tru_bl ?_
    | with_reducible refine w_not ?_ | with_reducible refine w_andF ?_ | with_reducible refine w_orF ?_ | with_reducible refine w_pt ?_ | with_reducible refine w_pf ?_ | with_reducible refine w_iteT ?_ | with_reducible refine w_iteF ?_ | with_reducible refine w_ok ?_
    | with_reducible refine w_andV ?_ | with_reducible refine w_orV ?_ | with_reducible refine bl_bl ?_ | with_reducible refine w_iteV ?_ | with_reducible refine w_noO ?_ | with_reducible refine w_soO ?_ | with_reducible refine int_int ?_
    | with_reducible refine w_sl ?_ | with_reducible refine w_is ?_ | with_reducible refine w_add ?_ | with_reducible refine w_sub ?_ | with_reducible refine w_lt ?_ | with_reducible refine w_gt ?_ | with_reducible refine w_eqI ?_ | with_reducible refine w_neI ?_ | with_reducible refine w_int ?_
    | with_reducible refine fin_ret ?_ | with_reducible refine fin_err ?_ | with_reducible refine w_asg ?_ | with_reducible refine w_try ?_ | with_reducible refine w_for ?_ | with_reducible refine w_rng ?_ | with_reducible refine w_lcF ?_ | with_reducible refine w_seqF ?_ | with_reducible refine ble_len (by with_unfolding_all exact rfl) ?_)
  refine R.w_of (given_len hg GT _) ?_
  (repeat' first
    | with_reducible refine w_seq ?_ | with_reducible refine w_nx ?_ | with_reducible refine w_ct ?_ | with_reducible refine w_br ?_ | with_reducible refine w_rtN ?_
    | with_reducible refine w_ret ?_ | with_reducible refine w_set ?_ | with_reducible refine w_expr ?_ | with_reducible refine w_if ?_ | with_reducible refine w_ite_t ?_ | with_reducible refine w_ite_f ?_
    | with_reducible refine w_raise ?_ | with_reducible refine w_setSub ?_
    | with_reducible refine w_var (by with_unfolding_all exact rfl) ?_ | with_reducible refine w_cst ?_ | with_reducible refine w_bin ?_ | with_reducible refine w_fn ?_ | with_reducible refine w_nilA ?_ | with_reducible refine w_consA ?_
    | with_reducible refine w_tup ?_ | with_reducible refine w_lstF ?_ | with_reducible refine w_lstT ?_ | with_reducible refine w_tst ?_ | with_reducible refine tst_bl ?_ | with_reducible refine w_tru ?_ | with_reducible refine tru_bl ?_
    | with_reducible refine w_not ?_ | with_reducible refine w_andF ?_ | with_reducible refine w_orF ?_ | with_reducible refine w_pt ?_ | with_reducible refine w_pf ?_ | with_reducible refine w_iteT ?_ | with_reducible refine w_iteF ?_ | with_reducible refine w_ok ?_
    | with_reducible refine w_andV ?_ | with_reducible refine w_orV ?_ | with_reducible refine bl_bl ?_ | with_reducible refine w_iteV ?_ | with_reducible refine w_noO ?_ | with_reducible refine w_soO ?_ | with_reducible refine int_int ?_
    | with_reducible refine w_sl ?_ | with_reducible refine w_is ?_ | with_reducible refine w_add ?_ | with_reducible refine w_sub ?_ | with_reducible refine w_lt ?_ | with_reducible refine w_gt ?_ | with_reducible refine w_eqI ?_ | with_reducible refine w_neI ?_ | with_reducible refine w_int ?_
    | with_reducible refine fin_ret ?_ | with_reducible refine fin_err ?_ | with_reducible refine w_asg ?_ | with_reducible refine w_try ?_ | with_reducible refine w_for ?_ | with_reducible refine w_rng ?_ | with_reducible refine w_lcF ?_ | with_reducible refine w_seqF ?_ | with_reducible refine ble_len (by with_unfolding_all exact rfl) ?_)
  refine R.w_of (a := .int (if (ns.length : Int) < 4 then ns.length else 4)) (S := []) rfl ?_
  (repeat' first
    | with_reducible refine w_seq ?_ | with_reducible refine w_nx ?_ | with_reducible refine w_ct ?_ | with_reducible refine w_br ?_ | with_reducible refine w_rtN ?_
    | with_reducible refine w_ret ?_ | with_reducible refine w_set ?_ | with_reducible refine w_expr ?_ | with_reducible refine w_if ?_ | with_reducible refine w_ite_t ?_ | with_reducible refine w_ite_f ?_
    | with_reducible refine w_raise ?_ | with_reducible refine w_setSub ?_
    | with_reducible refine w_var (by with_unfolding_all exact rfl) ?_ | with_reducible refine w_cst ?_ | with_reducible refine w_bin ?_ | with_reducible refine w_fn ?_ | with_reducible refine w_nilA ?_ | with_reducible refine w_consA ?_
    | with_reducible refine w_tup ?_ | with_reducible refine w_lstF ?_ | with_reducible refine w_lstT ?_ | with_reducible refine w_tst ?_ | with_reducible refine tst_bl ?_ | with_reducible refine w_tru ?_ | with_reducible refine tru_bl ?_
    | with_reducible refine w_not ?_ | with_reducible refine w_andF ?_ | with_reducible refine w_orF ?_ | with_reducible refine w_pt ?_ | with_reducible refine w_pf ?_ | with_reducible refine w_iteT ?_ | with_reducible refine w_iteF ?_ | with_reducible refine w_ok ?_
    | with_reducible refine w_andV ?_ | with_reducible refine w_orV ?_ | with_reducible refine bl_bl ?_ | with_reducible refine w_iteV ?_ | with_reducible refine w_noO ?_ | with_reducible refine w_soO ?_ | with_reducible refine int_int ?_
    | with_reducible refine w_sl ?_ | with_reducible refine w_is ?_ | with_reducible refine w_add ?_ | with_reducible refine w_sub ?_ | with_reducible refine w_lt ?_ | with_reducible refine w_gt ?_ | with_reducible refine w_eqI ?_ | with_reducible refine w_neI ?_ | with_reducible refine w_int ?_
    | with_reducible refine fin_ret ?_ | with_reducible refine fin_err ?_ | with_reducible refine w_asg ?_ | with_reducible refine w_try ?_ | with_reducible refine w_for ?_ | with_reducible refine w_rng ?_ | with_reducible refine w_lcF ?_ | with_reducible refine w_seqF ?_ | with_reducible refine ble_len (by with_unfolding_all exact rfl) ?_)
  refine rng_int ?_ ?_
  · unfold small
    rw [Bool.and_eq_true, decide_eq_true_eq, decide_eq_true_eq]
    split <;> omega
  have hk : ((1 + (if (ns.length : Int) < 4 then (ns.length : Int) else 4))).toNat ≤ 5 := by split <;> omega
  refine w_forRng (fun j σ T => ∃ o2 o5 o6 o7 o8 o9 o10, σ = [some g, some (.lst bareL), o2, some (.int 23), some (.exc0 "NothingToUndo"), o5, o6, o7, o8, o9, o10]) ?_ ?_ fuel 0 _ _ (by simp [fuel]; omega) (by omega) ⟨_, _, _, _, _, _, _, rfl⟩
  · rintro j σ T hj ⟨o2, o5, o6, o7, o8, o9, o10, rfl⟩
    have h0 : ((0 : Int) + (j : Int)) = (j : Int) := by omega
    rw [h0]
    (repeat' first
    | with_reducible refine w_seq ?_ | with_reducible refine w_nx ?_ | with_reducible refine w_ct ?_ | with_reducible refine w_br ?_ | with_reducible refine w_rtN ?_
    | with_reducible refine w_ret ?_ | with_reducible refine w_set ?_ | with_reducible refine w_expr ?_ | with_reducible refine w_if ?_ | with_reducible refine w_ite_t ?_ | with_reducible refine w_ite_f ?_
    | with_reducible refine w_raise ?_ | with_reducible refine w_setSub ?_
    | with_reducible refine w_var (by with_unfolding_all exact rfl) ?_ | with_reducible refine w_cst ?_ | with_reducible refine w_bin ?_ | with_reducible refine w_fn ?_ | with_reducible refine w_nilA ?_ | with_reducible refine w_consA ?_
    | with_reducible refine w_tup ?_ | with_reducible refine w_lstF ?_ | with_reducible refine w_lstT ?_ | with_reducible refine w_tst ?_ | with_reducible refine tst_bl ?_ | with_reducible refine w_tru ?_ | with_reducible refine tru_bl ?_
    | with_reducible refine w_not ?_ | with_reducible refine w_andF ?_ | with_reducible refine w_orF ?_ | with_reducible refine w_pt ?_ | with_reducible refine w_pf ?_ | with_reducible refine w_iteT ?_ | with_reducible refine w_iteF ?_ | with_reducible refine w_ok ?_
    | with_reducible refine w_andV ?_ | with_reducible refine w_orV ?_ | with_reducible refine bl_bl ?_ | with_reducible refine w_iteV ?_ | with_reducible refine w_noO ?_ | with_reducible refine w_soO ?_ | with_reducible refine int_int ?_
    | with_reducible refine w_sl ?_ | with_reducible refine w_is ?_ | with_reducible refine w_add ?_ | with_reducible refine w_sub ?_ | with_reducible refine w_lt ?_ | with_reducible refine w_gt ?_ | with_reducible refine w_eqI ?_ | with_reducible refine w_neI ?_ | with_reducible refine w_int ?_
    | with_reducible refine fin_ret ?_ | with_reducible refine fin_err ?_ | with_reducible refine w_asg ?_ | with_reducible refine w_try ?_ | with_reducible refine w_for ?_ | with_reducible refine w_rng ?_ | with_reducible refine w_lcF ?_ | with_reducible refine w_seqF ?_ | with_reducible refine ble_len (by with_unfolding_all exact rfl) ?_)
    rw [show 229 = 226 + 3 from rfl]
    refine (run_purse 226 j ns g T hg (by omega)).imp ?_
    rintro r S1 ⟨p, rfl, hp⟩
    with_reducible refine w_seq ?_
    with_reducible refine w_set ?_
    refine R.w_of (a := .lst items) (S := S1) (by kernel_rfl) ?_
    with_reducible refine w_seq ?_
    refine w_par ?_
    with_reducible refine w_consA ?_
    (repeat' first
    | with_reducible refine w_seq ?_ | with_reducible refine w_nx ?_ | with_reducible refine w_ct ?_ | with_reducible refine w_br ?_ | with_reducible refine w_rtN ?_
    | with_reducible refine w_ret ?_ | with_reducible refine w_set ?_ | with_reducible refine w_expr ?_ | with_reducible refine w_if ?_ | with_reducible refine w_ite_t ?_ | with_reducible refine w_ite_f ?_
    | with_reducible refine w_raise ?_ | with_reducible refine w_setSub ?_
    | with_reducible refine w_var (by with_unfolding_all exact rfl) ?_ | with_reducible refine w_cst ?_ | with_reducible refine w_bin ?_ | with_reducible refine w_fn ?_ | with_reducible refine w_nilA ?_ | with_reducible refine w_consA ?_
    | with_reducible refine w_tup ?_ | with_reducible refine w_lstF ?_ | with_reducible refine w_lstT ?_ | with_reducible refine w_tst ?_ | with_reducible refine tst_bl ?_ | with_reducible refine w_tru ?_ | with_reducible refine tru_bl ?_
    | with_reducible refine w_not ?_ | with_reducible refine w_andF ?_ | with_reducible refine w_orF ?_ | with_reducible refine w_pt ?_ | with_reducible refine w_pf ?_ | with_reducible refine w_iteT ?_ | with_reducible refine w_iteF ?_ | with_reducible refine w_ok ?_
    | with_reducible refine w_andV ?_ | with_reducible refine w_orV ?_ | with_reducible refine bl_bl ?_ | with_reducible refine w_iteV ?_ | with_reducible refine w_noO ?_ | with_reducible refine w_soO ?_ | with_reducible refine int_int ?_
    | with_reducible refine w_sl ?_ | with_reducible refine w_is ?_ | with_reducible refine w_add ?_ | with_reducible refine w_sub ?_ | with_reducible refine w_lt ?_ | with_reducible refine w_gt ?_ | with_reducible refine w_eqI ?_ | with_reducible refine w_neI ?_ | with_reducible refine w_int ?_
    | with_reducible refine fin_ret ?_ | with_reducible refine fin_err ?_ | with_reducible refine w_asg ?_ | with_reducible refine w_try ?_ | with_reducible refine w_for ?_ | with_reducible refine w_rng ?_ | with_reducible refine w_lcF ?_ | with_reducible refine w_seqF ?_ | with_reducible refine ble_len (by with_unfolding_all exact rfl) ?_)
    rw [show 226 + 3 = 223 + 6 from rfl]
    refine (run_draw 223 p _ 12 S1 hp (by omega) (by decide) (by decide)).imp ?_
    rintro r S2 ⟨x, rfl, hx, hp2⟩
    obtain ⟨d1, e1, h1⟩ := items_ok x hx
    refine R.w_of (sub_items e1 _) ?_
    (repeat' first
    | with_reducible refine w_seq ?_ | with_reducible refine w_nx ?_ | with_reducible refine w_ct ?_ | with_reducible refine w_br ?_ | with_reducible refine w_rtN ?_
    | with_reducible refine w_ret ?_ | with_reducible refine w_set ?_ | with_reducible refine w_expr ?_ | with_reducible refine w_if ?_ | with_reducible refine w_ite_t ?_ | with_reducible refine w_ite_f ?_
    | with_reducible refine w_raise ?_ | with_reducible refine w_setSub ?_
    | with_reducible refine w_var (by with_unfolding_all exact rfl) ?_ | with_reducible refine w_cst ?_ | with_reducible refine w_bin ?_ | with_reducible refine w_fn ?_ | with_reducible refine w_nilA ?_ | with_reducible refine w_consA ?_
    | with_reducible refine w_tup ?_ | with_reducible refine w_lstF ?_ | with_reducible refine w_lstT ?_ | with_reducible refine w_tst ?_ | with_reducible refine tst_bl ?_ | with_reducible refine w_tru ?_ | with_reducible refine tru_bl ?_
    | with_reducible refine w_not ?_ | with_reducible refine w_andF ?_ | with_reducible refine w_orF ?_ | with_reducible refine w_pt ?_ | with_reducible refine w_pf ?_ | with_reducible refine w_iteT ?_ | with_reducible refine w_iteF ?_ | with_reducible refine w_ok ?_
    | with_reducible refine w_andV ?_ | with_reducible refine w_orV ?_ | with_reducible refine bl_bl ?_ | with_reducible refine w_iteV ?_ | with_reducible refine w_noO ?_ | with_reducible refine w_soO ?_ | with_reducible refine int_int ?_
    | with_reducible refine w_sl ?_ | with_reducible refine w_is ?_ | with_reducible refine w_add ?_ | with_reducible refine w_sub ?_ | with_reducible refine w_lt ?_ | with_reducible refine w_gt ?_ | with_reducible refine w_eqI ?_ | with_reducible refine w_neI ?_ | with_reducible refine w_int ?_
    | with_reducible refine fin_ret ?_ | with_reducible refine fin_err ?_ | with_reducible refine w_asg ?_ | with_reducible refine w_try ?_ | with_reducible refine w_for ?_ | with_reducible refine w_rng ?_ | with_reducible refine w_lcF ?_ | with_reducible refine w_seqF ?_ | with_reducible refine ble_len (by with_unfolding_all exact rfl) ?_)
    refine (run_draw 223 p _ 12 S2 hp2 (by omega) (by decide) (by decide)).imp ?_
    rintro r S3 ⟨y, rfl, hy, hp3⟩
    obtain ⟨d2, e2, h2⟩ := items_ok y hy
    refine R.w_of (sub_items e2 _) ?_
    (repeat' first
    | with_reducible refine w_seq ?_ | with_reducible refine w_nx ?_ | with_reducible refine w_ct ?_ | with_reducible refine w_br ?_ | with_reducible refine w_rtN ?_
    | with_reducible refine w_ret ?_ | with_reducible refine w_set ?_ | with_reducible refine w_expr ?_ | with_reducible refine w_if ?_ | with_reducible refine w_ite_t ?_ | with_reducible refine w_ite_f ?_
    | with_reducible refine w_raise ?_ | with_reducible refine w_setSub ?_
    | with_reducible refine w_var (by with_unfolding_all exact rfl) ?_ | with_reducible refine w_cst ?_ | with_reducible refine w_bin ?_ | with_reducible refine w_fn ?_ | with_reducible refine w_nilA ?_ | with_reducible refine w_consA ?_
    | with_reducible refine w_tup ?_ | with_reducible refine w_lstF ?_ | with_reducible refine w_lstT ?_ | with_reducible refine w_tst ?_ | with_reducible refine tst_bl ?_ | with_reducible refine w_tru ?_ | with_reducible refine tru_bl ?_
    | with_reducible refine w_not ?_ | with_reducible refine w_andF ?_ | with_reducible refine w_orF ?_ | with_reducible refine w_pt ?_ | with_reducible refine w_pf ?_ | with_reducible refine w_iteT ?_ | with_reducible refine w_iteF ?_ | with_reducible refine w_ok ?_
    | with_reducible refine w_andV ?_ | with_reducible refine w_orV ?_ | with_reducible refine bl_bl ?_ | with_reducible refine w_iteV ?_ | with_reducible refine w_noO ?_ | with_reducible refine w_soO ?_ | with_reducible refine int_int ?_
    | with_reducible refine w_sl ?_ | with_reducible refine w_is ?_ | with_reducible refine w_add ?_ | with_reducible refine w_sub ?_ | with_reducible refine w_lt ?_ | with_reducible refine w_gt ?_ | with_reducible refine w_eqI ?_ | with_reducible refine w_neI ?_ | with_reducible refine w_int ?_
    | with_reducible refine fin_ret ?_ | with_reducible refine fin_err ?_ | with_reducible refine w_asg ?_ | with_reducible refine w_try ?_ | with_reducible refine w_for ?_ | with_reducible refine w_rng ?_ | with_reducible refine w_lcF ?_ | with_reducible refine w_seqF ?_ | with_reducible refine ble_len (by with_unfolding_all exact rfl) ?_)
    refine ⟨_, _, rfl, ?_⟩
    obtain ⟨s1, t1⟩ := Option.isSome_iff_exists.mp h1.1
    obtain ⟨s2, t2⟩ := Option.isSome_iff_exists.mp h2.1
    (repeat' first
    | with_reducible refine w_seq ?_ | with_reducible refine w_nx ?_ | with_reducible refine w_ct ?_ | with_reducible refine w_br ?_ | with_reducible refine w_rtN ?_
    | with_reducible refine w_ret ?_ | with_reducible refine w_set ?_ | with_reducible refine w_expr ?_ | with_reducible refine w_if ?_ | with_reducible refine w_ite_t ?_ | with_reducible refine w_ite_f ?_
    | with_reducible refine w_raise ?_ | with_reducible refine w_setSub ?_
    | with_reducible refine w_var (by with_unfolding_all exact rfl) ?_ | with_reducible refine w_cst ?_ | with_reducible refine w_bin ?_ | with_reducible refine w_fn ?_ | with_reducible refine w_nilA ?_ | with_reducible refine w_consA ?_
    | with_reducible refine w_tup ?_ | with_reducible refine w_lstF ?_ | with_reducible refine w_lstT ?_ | with_reducible refine w_tst ?_ | with_reducible refine tst_bl ?_ | with_reducible refine w_tru ?_ | with_reducible refine tru_bl ?_
    | with_reducible refine w_not ?_ | with_reducible refine w_andF ?_ | with_reducible refine w_orF ?_ | with_reducible refine w_pt ?_ | with_reducible refine w_pf ?_ | with_reducible refine w_iteT ?_ | with_reducible refine w_iteF ?_ | with_reducible refine w_ok ?_
    | with_reducible refine w_andV ?_ | with_reducible refine w_orV ?_ | with_reducible refine bl_bl ?_ | with_reducible refine w_iteV ?_ | with_reducible refine w_noO ?_ | with_reducible refine w_soO ?_ | with_reducible refine int_int ?_
    | with_reducible refine w_sl ?_ | with_reducible refine w_is ?_ | with_reducible refine w_add ?_ | with_reducible refine w_sub ?_ | with_reducible refine w_lt ?_ | with_reducible refine w_gt ?_ | with_reducible refine w_eqI ?_ | with_reducible refine w_neI ?_ | with_reducible refine w_int ?_
    | with_reducible refine fin_ret ?_ | with_reducible refine fin_err ?_ | with_reducible refine w_asg ?_ | with_reducible refine w_try ?_ | with_reducible refine w_for ?_ | with_reducible refine w_rng ?_ | with_reducible refine w_lcF ?_ | with_reducible refine w_seqF ?_ | with_reducible refine ble_len (by with_unfolding_all exact rfl) ?_)
    refine w_strA ?_
    (repeat' first
    | with_reducible refine w_seq ?_ | with_reducible refine w_nx ?_ | with_reducible refine w_ct ?_ | with_reducible refine w_br ?_ | with_reducible refine w_rtN ?_
    | with_reducible refine w_ret ?_ | with_reducible refine w_set ?_ | with_reducible refine w_expr ?_ | with_reducible refine w_if ?_ | with_reducible refine w_ite_t ?_ | with_reducible refine w_ite_f ?_
    | with_reducible refine w_raise ?_ | with_reducible refine w_setSub ?_
    | with_reducible refine w_var (by with_unfolding_all exact rfl) ?_ | with_reducible refine w_cst ?_ | with_reducible refine w_bin ?_ | with_reducible refine w_fn ?_ | with_reducible refine w_nilA ?_ | with_reducible refine w_consA ?_
    | with_reducible refine w_tup ?_ | with_reducible refine w_lstF ?_ | with_reducible refine w_lstT ?_ | with_reducible refine w_tst ?_ | with_reducible refine tst_bl ?_ | with_reducible refine w_tru ?_ | with_reducible refine tru_bl ?_
    | with_reducible refine w_not ?_ | with_reducible refine w_andF ?_ | with_reducible refine w_orF ?_ | with_reducible refine w_pt ?_ | with_reducible refine w_pf ?_ | with_reducible refine w_iteT ?_ | with_reducible refine w_iteF ?_ | with_reducible refine w_ok ?_
    | with_reducible refine w_andV ?_ | with_reducible refine w_orV ?_ | with_reducible refine bl_bl ?_ | with_reducible refine w_iteV ?_ | with_reducible refine w_noO ?_ | with_reducible refine w_soO ?_ | with_reducible refine int_int ?_
    | with_reducible refine w_sl ?_ | with_reducible refine w_is ?_ | with_reducible refine w_add ?_ | with_reducible refine w_sub ?_ | with_reducible refine w_lt ?_ | with_reducible refine w_gt ?_ | with_reducible refine w_eqI ?_ | with_reducible refine w_neI ?_ | with_reducible refine w_int ?_
    | with_reducible refine fin_ret ?_ | with_reducible refine fin_err ?_ | with_reducible refine w_asg ?_ | with_reducible refine w_try ?_ | with_reducible refine w_for ?_ | with_reducible refine w_rng ?_ | with_reducible refine w_lcF ?_ | with_reducible refine w_seqF ?_ | with_reducible refine ble_len (by with_unfolding_all exact rfl) ?_)
    refine ⟨_, _, rfl, t1, ?_⟩
    (repeat' first
    | with_reducible refine w_seq ?_ | with_reducible refine w_nx ?_ | with_reducible refine w_ct ?_ | with_reducible refine w_br ?_ | with_reducible refine w_rtN ?_
    | with_reducible refine w_ret ?_ | with_reducible refine w_set ?_ | with_reducible refine w_expr ?_ | with_reducible refine w_if ?_ | with_reducible refine w_ite_t ?_ | with_reducible refine w_ite_f ?_
    | with_reducible refine w_raise ?_ | with_reducible refine w_setSub ?_
    | with_reducible refine w_var (by with_unfolding_all exact rfl) ?_ | with_reducible refine w_cst ?_ | with_reducible refine w_bin ?_ | with_reducible refine w_fn ?_ | with_reducible refine w_nilA ?_ | with_reducible refine w_consA ?_
    | with_reducible refine w_tup ?_ | with_reducible refine w_lstF ?_ | with_reducible refine w_lstT ?_ | with_reducible refine w_tst ?_ | with_reducible refine tst_bl ?_ | with_reducible refine w_tru ?_ | with_reducible refine tru_bl ?_
    | with_reducible refine w_not ?_ | with_reducible refine w_andF ?_ | with_reducible refine w_orF ?_ | with_reducible refine w_pt ?_ | with_reducible refine w_pf ?_ | with_reducible refine w_iteT ?_ | with_reducible refine w_iteF ?_ | with_reducible refine w_ok ?_
    | with_reducible refine w_andV ?_ | with_reducible refine w_orV ?_ | with_reducible refine bl_bl ?_ | with_reducible refine w_iteV ?_ | with_reducible refine w_noO ?_ | with_reducible refine w_soO ?_ | with_reducible refine int_int ?_
    | with_reducible refine w_sl ?_ | with_reducible refine w_is ?_ | with_reducible refine w_add ?_ | with_reducible refine w_sub ?_ | with_reducible refine w_lt ?_ | with_reducible refine w_gt ?_ | with_reducible refine w_eqI ?_ | with_reducible refine w_neI ?_ | with_reducible refine w_int ?_
    | with_reducible refine fin_ret ?_ | with_reducible refine fin_err ?_ | with_reducible refine w_asg ?_ | with_reducible refine w_try ?_ | with_reducible refine w_for ?_ | with_reducible refine w_rng ?_ | with_reducible refine w_lcF ?_ | with_reducible refine w_seqF ?_ | with_reducible refine ble_len (by with_unfolding_all exact rfl) ?_)
    refine w_strA ?_
    (repeat' first
    | with_reducible refine w_seq ?_ | with_reducible refine w_nx ?_ | with_reducible refine w_ct ?_ | with_reducible refine w_br ?_ | with_reducible refine w_rtN ?_
    | with_reducible refine w_ret ?_ | with_reducible refine w_set ?_ | with_reducible refine w_expr ?_ | with_reducible refine w_if ?_ | with_reducible refine w_ite_t ?_ | with_reducible refine w_ite_f ?_
    | with_reducible refine w_raise ?_ | with_reducible refine w_setSub ?_
    | with_reducible refine w_var (by with_unfolding_all exact rfl) ?_ | with_reducible refine w_cst ?_ | with_reducible refine w_bin ?_ | with_reducible refine w_fn ?_ | with_reducible refine w_nilA ?_ | with_reducible refine w_consA ?_
    | with_reducible refine w_tup ?_ | with_reducible refine w_lstF ?_ | with_reducible refine w_lstT ?_ | with_reducible refine w_tst ?_ | with_reducible refine tst_bl ?_ | with_reducible refine w_tru ?_ | with_reducible refine tru_bl ?_
    | with_reducible refine w_not ?_ | with_reducible refine w_andF ?_ | with_reducible refine w_orF ?_ | with_reducible refine w_pt ?_ | with_reducible refine w_pf ?_ | with_reducible refine w_iteT ?_ | with_reducible refine w_iteF ?_ | with_reducible refine w_ok ?_
    | with_reducible refine w_andV ?_ | with_reducible refine w_orV ?_ | with_reducible refine bl_bl ?_ | with_reducible refine w_iteV ?_ | with_reducible refine w_noO ?_ | with_reducible refine w_soO ?_ | with_reducible refine int_int ?_
    | with_reducible refine w_sl ?_ | with_reducible refine w_is ?_ | with_reducible refine w_add ?_ | with_reducible refine w_sub ?_ | with_reducible refine w_lt ?_ | with_reducible refine w_gt ?_ | with_reducible refine w_eqI ?_ | with_reducible refine w_neI ?_ | with_reducible refine w_int ?_
    | with_reducible refine fin_ret ?_ | with_reducible refine fin_err ?_ | with_reducible refine w_asg ?_ | with_reducible refine w_try ?_ | with_reducible refine w_for ?_ | with_reducible refine w_rng ?_ | with_reducible refine w_lcF ?_ | with_reducible refine w_seqF ?_ | with_reducible refine ble_len (by with_unfolding_all exact rfl) ?_)
    refine ⟨_, _, rfl, t2, ?_⟩
    (repeat' first
    | with_reducible refine w_seq ?_ | with_reducible refine w_nx ?_ | with_reducible refine w_ct ?_ | with_reducible refine w_br ?_ | with_reducible refine w_rtN ?_
    | with_reducible refine w_ret ?_ | with_reducible refine w_set ?_ | with_reducible refine w_expr ?_ | with_reducible refine w_if ?_ | with_reducible refine w_ite_t ?_ | with_reducible refine w_ite_f ?_
    | with_reducible refine w_raise ?_ | with_reducible refine w_setSub ?_
    | with_reducible refine w_var (by with_unfolding_all exact rfl) ?_ | with_reducible refine w_cst ?_ | with_reducible refine w_bin ?_ | with_reducible refine w_fn ?_ | with_reducible refine w_nilA ?_ | with_reducible refine w_consA ?_
    | with_reducible refine w_tup ?_ | with_reducible refine w_lstF ?_ | with_reducible refine w_lstT ?_ | with_reducible refine w_tst ?_ | with_reducible refine tst_bl ?_ | with_reducible refine w_tru ?_ | with_reducible refine tru_bl ?_
    | with_reducible refine w_not ?_ | with_reducible refine w_andF ?_ | with_reducible refine w_orF ?_ | with_reducible refine w_pt ?_ | with_reducible refine w_pf ?_ | with_reducible refine w_iteT ?_ | with_reducible refine w_iteF ?_ | with_reducible refine w_ok ?_
    | with_reducible refine w_andV ?_ | with_reducible refine w_orV ?_ | with_reducible refine bl_bl ?_ | with_reducible refine w_iteV ?_ | with_reducible refine w_noO ?_ | with_reducible refine w_soO ?_ | with_reducible refine int_int ?_
    | with_reducible refine w_sl ?_ | with_reducible refine w_is ?_ | with_reducible refine w_add ?_ | with_reducible refine w_sub ?_ | with_reducible refine w_lt ?_ | with_reducible refine w_gt ?_ | with_reducible refine w_eqI ?_ | with_reducible refine w_neI ?_ | with_reducible refine w_int ?_
    | with_reducible refine fin_ret ?_ | with_reducible refine fin_err ?_ | with_reducible refine w_asg ?_ | with_reducible refine w_try ?_ | with_reducible refine w_for ?_ | with_reducible refine w_rng ?_ | with_reducible refine w_lcF ?_ | with_reducible refine w_seqF ?_ | with_reducible refine ble_len (by with_unfolding_all exact rfl) ?_)
    rw [show 223 + 6 = 226 + 3 from rfl]
    refine R.w_of (run_by_place 226 d1 S3) ?_
    (repeat' first
    | with_reducible refine w_seq ?_ | with_reducible refine w_nx ?_ | with_reducible refine w_ct ?_ | with_reducible refine w_br ?_ | with_reducible refine w_rtN ?_
    | with_reducible refine w_ret ?_ | with_reducible refine w_set ?_ | with_reducible refine w_expr ?_ | with_reducible refine w_if ?_ | with_reducible refine w_ite_t ?_ | with_reducible refine w_ite_f ?_
    | with_reducible refine w_raise ?_ | with_reducible refine w_setSub ?_
    | with_reducible refine w_var (by with_unfolding_all exact rfl) ?_ | with_reducible refine w_cst ?_ | with_reducible refine w_bin ?_ | with_reducible refine w_fn ?_ | with_reducible refine w_nilA ?_ | with_reducible refine w_consA ?_
    | with_reducible refine w_tup ?_ | with_reducible refine w_lstF ?_ | with_reducible refine w_lstT ?_ | with_reducible refine w_tst ?_ | with_reducible refine tst_bl ?_ | with_reducible refine w_tru ?_ | with_reducible refine tru_bl ?_
    | with_reducible refine w_not ?_ | with_reducible refine w_andF ?_ | with_reducible refine w_orF ?_ | with_reducible refine w_pt ?_ | with_reducible refine w_pf ?_ | with_reducible refine w_iteT ?_ | with_reducible refine w_iteF ?_ | with_reducible refine w_ok ?_
    | with_reducible refine w_andV ?_ | with_reducible refine w_orV ?_ | with_reducible refine bl_bl ?_ | with_reducible refine w_iteV ?_ | with_reducible refine w_noO ?_ | with_reducible refine w_soO ?_ | with_reducible refine int_int ?_
    | with_reducible refine w_sl ?_ | with_reducible refine w_is ?_ | with_reducible refine w_add ?_ | with_reducible refine w_sub ?_ | with_reducible refine w_lt ?_ | with_reducible refine w_gt ?_ | with_reducible refine w_eqI ?_ | with_reducible refine w_neI ?_ | with_reducible refine w_int ?_
    | with_reducible refine fin_ret ?_ | with_reducible refine fin_err ?_ | with_reducible refine w_asg ?_ | with_reducible refine w_try ?_ | with_reducible refine w_for ?_ | with_reducible refine w_rng ?_ | with_reducible refine w_lcF ?_ | with_reducible refine w_seqF ?_ | with_reducible refine ble_len (by with_unfolding_all exact rfl) ?_)
    refine R.w_of (run_by_name 226 d2 S3) ?_
    (repeat' first
    | with_reducible refine w_seq ?_ | with_reducible refine w_nx ?_ | with_reducible refine w_ct ?_ | with_reducible refine w_br ?_ | with_reducible refine w_rtN ?_
    | with_reducible refine w_ret ?_ | with_reducible refine w_set ?_ | with_reducible refine w_expr ?_ | with_reducible refine w_if ?_ | with_reducible refine w_ite_t ?_ | with_reducible refine w_ite_f ?_
    | with_reducible refine w_raise ?_ | with_reducible refine w_setSub ?_
    | with_reducible refine w_var (by with_unfolding_all exact rfl) ?_ | with_reducible refine w_cst ?_ | with_reducible refine w_bin ?_ | with_reducible refine w_fn ?_ | with_reducible refine w_nilA ?_ | with_reducible refine w_consA ?_
    | with_reducible refine w_tup ?_ | with_reducible refine w_lstF ?_ | with_reducible refine w_lstT ?_ | with_reducible refine w_tst ?_ | with_reducible refine tst_bl ?_ | with_reducible refine w_tru ?_ | with_reducible refine tru_bl ?_
    | with_reducible refine w_not ?_ | with_reducible refine w_andF ?_ | with_reducible refine w_orF ?_ | with_reducible refine w_pt ?_ | with_reducible refine w_pf ?_ | with_reducible refine w_iteT ?_ | with_reducible refine w_iteF ?_ | with_reducible refine w_ok ?_
    | with_reducible refine w_andV ?_ | with_reducible refine w_orV ?_ | with_reducible refine bl_bl ?_ | with_reducible refine w_iteV ?_ | with_reducible refine w_noO ?_ | with_reducible refine w_soO ?_ | with_reducible refine int_int ?_
    | with_reducible refine w_sl ?_ | with_reducible refine w_is ?_ | with_reducible refine w_add ?_ | with_reducible refine w_sub ?_ | with_reducible refine w_lt ?_ | with_reducible refine w_gt ?_ | with_reducible refine w_eqI ?_ | with_reducible refine w_neI ?_ | with_reducible refine w_int ?_
    | with_reducible refine fin_ret ?_ | with_reducible refine fin_err ?_ | with_reducible refine w_asg ?_ | with_reducible refine w_try ?_ | with_reducible refine w_for ?_ | with_reducible refine w_rng ?_ | with_reducible refine w_lcF ?_ | with_reducible refine w_seqF ?_ | with_reducible refine ble_len (by with_unfolding_all exact rfl) ?_)
    refine R.w_of (run_bare 226 S3) ?_
    (repeat' first
    | with_reducible refine w_seq ?_ | with_reducible refine w_nx ?_ | with_reducible refine w_ct ?_ | with_reducible refine w_br ?_ | with_reducible refine w_rtN ?_
    | with_reducible refine w_ret ?_ | with_reducible refine w_set ?_ | with_reducible refine w_expr ?_ | with_reducible refine w_if ?_ | with_reducible refine w_ite_t ?_ | with_reducible refine w_ite_f ?_
    | with_reducible refine w_raise ?_ | with_reducible refine w_setSub ?_
    | with_reducible refine w_var (by with_unfolding_all exact rfl) ?_ | with_reducible refine w_cst ?_ | with_reducible refine w_bin ?_ | with_reducible refine w_fn ?_ | with_reducible refine w_nilA ?_ | with_reducible refine w_consA ?_
    | with_reducible refine w_tup ?_ | with_reducible refine w_lstF ?_ | with_reducible refine w_lstT ?_ | with_reducible refine w_tst ?_ | with_reducible refine tst_bl ?_ | with_reducible refine w_tru ?_ | with_reducible refine tru_bl ?_
    | with_reducible refine w_not ?_ | with_reducible refine w_andF ?_ | with_reducible refine w_orF ?_ | with_reducible refine w_pt ?_ | with_reducible refine w_pf ?_ | with_reducible refine w_iteT ?_ | with_reducible refine w_iteF ?_ | with_reducible refine w_ok ?_
    | with_reducible refine w_andV ?_ | with_reducible refine w_orV ?_ | with_reducible refine bl_bl ?_ | with_reducible refine w_iteV ?_ | with_reducible refine w_noO ?_ | with_reducible refine w_soO ?_ | with_reducible refine int_int ?_
    | with_reducible refine w_sl ?_ | with_reducible refine w_is ?_ | with_reducible refine w_add ?_ | with_reducible refine w_sub ?_ | with_reducible refine w_lt ?_ | with_reducible refine w_gt ?_ | with_reducible refine w_eqI ?_ | with_reducible refine w_neI ?_ | with_reducible refine w_int ?_
    | with_reducible refine fin_ret ?_ | with_reducible refine fin_err ?_ | with_reducible refine w_asg ?_ | with_reducible refine w_try ?_ | with_reducible refine w_for ?_ | with_reducible refine w_rng ?_ | with_reducible refine w_lcF ?_ | with_reducible refine w_seqF ?_ | with_reducible refine ble_len (by with_unfolding_all exact rfl) ?_)
    refine R.w_of (run_by_place 226 d2 S3) ?_
    (repeat' first
    | with_reducible refine w_seq ?_ | with_reducible refine w_nx ?_ | with_reducible refine w_ct ?_ | with_reducible refine w_br ?_ | with_reducible refine w_rtN ?_
    | with_reducible refine w_ret ?_ | with_reducible refine w_set ?_ | with_reducible refine w_expr ?_ | with_reducible refine w_if ?_ | with_reducible refine w_ite_t ?_ | with_reducible refine w_ite_f ?_
    | with_reducible refine w_raise ?_ | with_reducible refine w_setSub ?_
    | with_reducible refine w_var (by with_unfolding_all exact rfl) ?_ | with_reducible refine w_cst ?_ | with_reducible refine w_bin ?_ | with_reducible refine w_fn ?_ | with_reducible refine w_nilA ?_ | with_reducible refine w_consA ?_
    | with_reducible refine w_tup ?_ | with_reducible refine w_lstF ?_ | with_reducible refine w_lstT ?_ | with_reducible refine w_tst ?_ | with_reducible refine tst_bl ?_ | with_reducible refine w_tru ?_ | with_reducible refine tru_bl ?_
    | with_reducible refine w_not ?_ | with_reducible refine w_andF ?_ | with_reducible refine w_orF ?_ | with_reducible refine w_pt ?_ | with_reducible refine w_pf ?_ | with_reducible refine w_iteT ?_ | with_reducible refine w_iteF ?_ | with_reducible refine w_ok ?_
    | with_reducible refine w_andV ?_ | with_reducible refine w_orV ?_ | with_reducible refine bl_bl ?_ | with_reducible refine w_iteV ?_ | with_reducible refine w_noO ?_ | with_reducible refine w_soO ?_ | with_reducible refine int_int ?_
    | with_reducible refine w_sl ?_ | with_reducible refine w_is ?_ | with_reducible refine w_add ?_ | with_reducible refine w_sub ?_ | with_reducible refine w_lt ?_ | with_reducible refine w_gt ?_ | with_reducible refine w_eqI ?_ | with_reducible refine w_neI ?_ | with_reducible refine w_int ?_
    | with_reducible refine fin_ret ?_ | with_reducible refine fin_err ?_ | with_reducible refine w_asg ?_ | with_reducible refine w_try ?_ | with_reducible refine w_for ?_ | with_reducible refine w_rng ?_ | with_reducible refine w_lcF ?_ | with_reducible refine w_seqF ?_ | with_reducible refine ble_len (by with_unfolding_all exact rfl) ?_)
    refine R.w_of (run_by_name 226 d1 S3) ?_
    (repeat' first
    | with_reducible refine w_seq ?_ | with_reducible refine w_nx ?_ | with_reducible refine w_ct ?_ | with_reducible refine w_br ?_ | with_reducible refine w_rtN ?_
    | with_reducible refine w_ret ?_ | with_reducible refine w_set ?_ | with_reducible refine w_expr ?_ | with_reducible refine w_if ?_ | with_reducible refine w_ite_t ?_ | with_reducible refine w_ite_f ?_
    | with_reducible refine w_raise ?_ | with_reducible refine w_setSub ?_
    | with_reducible refine w_var (by with_unfolding_all exact rfl) ?_ | with_reducible refine w_cst ?_ | with_reducible refine w_bin ?_ | with_reducible refine w_fn ?_ | with_reducible refine w_nilA ?_ | with_reducible refine w_consA ?_
    | with_reducible refine w_tup ?_ | with_reducible refine w_lstF ?_ | with_reducible refine w_lstT ?_ | with_reducible refine w_tst ?_ | with_reducible refine tst_bl ?_ | with_reducible refine w_tru ?_ | with_reducible refine tru_bl ?_
    | with_reducible refine w_not ?_ | with_reducible refine w_andF ?_ | with_reducible refine w_orF ?_ | with_reducible refine w_pt ?_ | with_reducible refine w_pf ?_ | with_reducible refine w_iteT ?_ | with_reducible refine w_iteF ?_ | with_reducible refine w_ok ?_
    | with_reducible refine w_andV ?_ | with_reducible refine w_orV ?_ | with_reducible refine bl_bl ?_ | with_reducible refine w_iteV ?_ | with_reducible refine w_noO ?_ | with_reducible refine w_soO ?_ | with_reducible refine int_int ?_
    | with_reducible refine w_sl ?_ | with_reducible refine w_is ?_ | with_reducible refine w_add ?_ | with_reducible refine w_sub ?_ | with_reducible refine w_lt ?_ | with_reducible refine w_gt ?_ | with_reducible refine w_eqI ?_ | with_reducible refine w_neI ?_ | with_reducible refine w_int ?_
    | with_reducible refine fin_ret ?_ | with_reducible refine fin_err ?_ | with_reducible refine w_asg ?_ | with_reducible refine w_try ?_ | with_reducible refine w_for ?_ | with_reducible refine w_rng ?_ | with_reducible refine w_lcF ?_ | with_reducible refine w_seqF ?_ | with_reducible refine ble_len (by with_unfolding_all exact rfl) ?_)
    refine R.w_of (a := .lst (exL d1)) (S := S3) (by kernel_rfl) ?_
    (repeat' first
    | with_reducible refine w_seq ?_ | with_reducible refine w_nx ?_ | with_reducible refine w_ct ?_ | with_reducible refine w_br ?_ | with_reducible refine w_rtN ?_
    | with_reducible refine w_ret ?_ | with_reducible refine w_set ?_ | with_reducible refine w_expr ?_ | with_reducible refine w_if ?_ | with_reducible refine w_ite_t ?_ | with_reducible refine w_ite_f ?_
    | with_reducible refine w_raise ?_ | with_reducible refine w_setSub ?_
    | with_reducible refine w_var (by with_unfolding_all exact rfl) ?_ | with_reducible refine w_cst ?_ | with_reducible refine w_bin ?_ | with_reducible refine w_fn ?_ | with_reducible refine w_nilA ?_ | with_reducible refine w_consA ?_
    | with_reducible refine w_tup ?_ | with_reducible refine w_lstF ?_ | with_reducible refine w_lstT ?_ | with_reducible refine w_tst ?_ | with_reducible refine tst_bl ?_ | with_reducible refine w_tru ?_ | with_reducible refine tru_bl ?_
    | with_reducible refine w_not ?_ | with_reducible refine w_andF ?_ | with_reducible refine w_orF ?_ | with_reducible refine w_pt ?_ | with_reducible refine w_pf ?_ | with_reducible refine w_iteT ?_ | with_reducible refine w_iteF ?_ | with_reducible refine w_ok ?_
    | with_reducible refine w_andV ?_ | with_reducible refine w_orV ?_ | with_reducible refine bl_bl ?_ | with_reducible refine w_iteV ?_ | with_reducible refine w_noO ?_ | with_reducible refine w_soO ?_ | with_reducible refine int_int ?_
    | with_reducible refine w_sl ?_ | with_reducible refine w_is ?_ | with_reducible refine w_add ?_ | with_reducible refine w_sub ?_ | with_reducible refine w_lt ?_ | with_reducible refine w_gt ?_ | with_reducible refine w_eqI ?_ | with_reducible refine w_neI ?_ | with_reducible refine w_int ?_
    | with_reducible refine fin_ret ?_ | with_reducible refine fin_err ?_ | with_reducible refine w_asg ?_ | with_reducible refine w_try ?_ | with_reducible refine w_for ?_ | with_reducible refine w_rng ?_ | with_reducible refine w_lcF ?_ | with_reducible refine w_seqF ?_ | with_reducible refine ble_len (by with_unfolding_all exact rfl) ?_)
    refine R.w_of (run_fields 226 d1 S3) ?_
    (repeat' first
    | with_reducible refine w_seq ?_ | with_reducible refine w_nx ?_ | with_reducible refine w_ct ?_ | with_reducible refine w_br ?_ | with_reducible refine w_rtN ?_
    | with_reducible refine w_ret ?_ | with_reducible refine w_set ?_ | with_reducible refine w_expr ?_ | with_reducible refine w_if ?_ | with_reducible refine w_ite_t ?_ | with_reducible refine w_ite_f ?_
    | with_reducible refine w_raise ?_ | with_reducible refine w_setSub ?_
    | with_reducible refine w_var (by with_unfolding_all exact rfl) ?_ | with_reducible refine w_cst ?_ | with_reducible refine w_bin ?_ | with_reducible refine w_fn ?_ | with_reducible refine w_nilA ?_ | with_reducible refine w_consA ?_
    | with_reducible refine w_tup ?_ | with_reducible refine w_lstF ?_ | with_reducible refine w_lstT ?_ | with_reducible refine w_tst ?_ | with_reducible refine tst_bl ?_ | with_reducible refine w_tru ?_ | with_reducible refine tru_bl ?_
    | with_reducible refine w_not ?_ | with_reducible refine w_andF ?_ | with_reducible refine w_orF ?_ | with_reducible refine w_pt ?_ | with_reducible refine w_pf ?_ | with_reducible refine w_iteT ?_ | with_reducible refine w_iteF ?_ | with_reducible refine w_ok ?_
    | with_reducible refine w_andV ?_ | with_reducible refine w_orV ?_ | with_reducible refine bl_bl ?_ | with_reducible refine w_iteV ?_ | with_reducible refine w_noO ?_ | with_reducible refine w_soO ?_ | with_reducible refine int_int ?_
    | with_reducible refine w_sl ?_ | with_reducible refine w_is ?_ | with_reducible refine w_add ?_ | with_reducible refine w_sub ?_ | with_reducible refine w_lt ?_ | with_reducible refine w_gt ?_ | with_reducible refine w_eqI ?_ | with_reducible refine w_neI ?_ | with_reducible refine w_int ?_
    | with_reducible refine fin_ret ?_ | with_reducible refine fin_err ?_ | with_reducible refine w_asg ?_ | with_reducible refine w_try ?_ | with_reducible refine w_for ?_ | with_reducible refine w_rng ?_ | with_reducible refine w_lcF ?_ | with_reducible refine w_seqF ?_ | with_reducible refine ble_len (by with_unfolding_all exact rfl) ?_)
    refine R.w_of (a := .lst (exL d2)) (S := S3) (by kernel_rfl) ?_
    (repeat' first
    | with_reducible refine w_seq ?_ | with_reducible refine w_nx ?_ | with_reducible refine w_ct ?_ | with_reducible refine w_br ?_ | with_reducible refine w_rtN ?_
    | with_reducible refine w_ret ?_ | with_reducible refine w_set ?_ | with_reducible refine w_expr ?_ | with_reducible refine w_if ?_ | with_reducible refine w_ite_t ?_ | with_reducible refine w_ite_f ?_
    | with_reducible refine w_raise ?_ | with_reducible refine w_setSub ?_
    | with_reducible refine w_var (by with_unfolding_all exact rfl) ?_ | with_reducible refine w_cst ?_ | with_reducible refine w_bin ?_ | with_reducible refine w_fn ?_ | with_reducible refine w_nilA ?_ | with_reducible refine w_consA ?_
    | with_reducible refine w_tup ?_ | with_reducible refine w_lstF ?_ | with_reducible refine w_lstT ?_ | with_reducible refine w_tst ?_ | with_reducible refine tst_bl ?_ | with_reducible refine w_tru ?_ | with_reducible refine tru_bl ?_
    | with_reducible refine w_not ?_ | with_reducible refine w_andF ?_ | with_reducible refine w_orF ?_ | with_reducible refine w_pt ?_ | with_reducible refine w_pf ?_ | with_reducible refine w_iteT ?_ | with_reducible refine w_iteF ?_ | with_reducible refine w_ok ?_
    | with_reducible refine w_andV ?_ | with_reducible refine w_orV ?_ | with_reducible refine bl_bl ?_ | with_reducible refine w_iteV ?_ | with_reducible refine w_noO ?_ | with_reducible refine w_soO ?_ | with_reducible refine int_int ?_
    | with_reducible refine w_sl ?_ | with_reducible refine w_is ?_ | with_reducible refine w_add ?_ | with_reducible refine w_sub ?_ | with_reducible refine w_lt ?_ | with_reducible refine w_gt ?_ | with_reducible refine w_eqI ?_ | with_reducible refine w_neI ?_ | with_reducible refine w_int ?_
    | with_reducible refine fin_ret ?_ | with_reducible refine fin_err ?_ | with_reducible refine w_asg ?_ | with_reducible refine w_try ?_ | with_reducible refine w_for ?_ | with_reducible refine w_rng ?_ | with_reducible refine w_lcF ?_ | with_reducible refine w_seqF ?_ | with_reducible refine ble_len (by with_unfolding_all exact rfl) ?_)
    refine R.w_of (run_fields 226 d2 S3) ?_
    (repeat' first
    | with_reducible refine w_seq ?_ | with_reducible refine w_nx ?_ | with_reducible refine w_ct ?_ | with_reducible refine w_br ?_ | with_reducible refine w_rtN ?_
    | with_reducible refine w_ret ?_ | with_reducible refine w_set ?_ | with_reducible refine w_expr ?_ | with_reducible refine w_if ?_ | with_reducible refine w_ite_t ?_ | with_reducible refine w_ite_f ?_
    | with_reducible refine w_raise ?_ | with_reducible refine w_setSub ?_
    | with_reducible refine w_var (by with_unfolding_all exact rfl) ?_ | with_reducible refine w_cst ?_ | with_reducible refine w_bin ?_ | with_reducible refine w_fn ?_ | with_reducible refine w_nilA ?_ | with_reducible refine w_consA ?_
    | with_reducible refine w_tup ?_ | with_reducible refine w_lstF ?_ | with_reducible refine w_lstT ?_ | with_reducible refine w_tst ?_ | with_reducible refine tst_bl ?_ | with_reducible refine w_tru ?_ | with_reducible refine tru_bl ?_
    | with_reducible refine w_not ?_ | with_reducible refine w_andF ?_ | with_reducible refine w_orF ?_ | with_reducible refine w_pt ?_ | with_reducible refine w_pf ?_ | with_reducible refine w_iteT ?_ | with_reducible refine w_iteF ?_ | with_reducible refine w_ok ?_
    | with_reducible refine w_andV ?_ | with_reducible refine w_orV ?_ | with_reducible refine bl_bl ?_ | with_reducible refine w_iteV ?_ | with_reducible refine w_noO ?_ | with_reducible refine w_soO ?_ | with_reducible refine int_int ?_
    | with_reducible refine w_sl ?_ | with_reducible refine w_is ?_ | with_reducible refine w_add ?_ | with_reducible refine w_sub ?_ | with_reducible refine w_lt ?_ | with_reducible refine w_gt ?_ | with_reducible refine w_eqI ?_ | with_reducible refine w_neI ?_ | with_reducible refine w_int ?_
    | with_reducible refine fin_ret ?_ | with_reducible refine fin_err ?_ | with_reducible refine w_asg ?_ | with_reducible refine w_try ?_ | with_reducible refine w_for ?_ | with_reducible refine w_rng ?_ | with_reducible refine w_lcF ?_ | with_reducible refine w_seqF ?_ | with_reducible refine ble_len (by with_unfolding_all exact rfl) ?_)
    refine R.w_of (a := .lst (List.replicate 21 d1)) (S := S3) (by kernel_rfl) ?_
    (repeat' first
    | with_reducible refine w_seq ?_ | with_reducible refine w_nx ?_ | with_reducible refine w_ct ?_ | with_reducible refine w_br ?_ | with_reducible refine w_rtN ?_
    | with_reducible refine w_ret ?_ | with_reducible refine w_set ?_ | with_reducible refine w_expr ?_ | with_reducible refine w_if ?_ | with_reducible refine w_ite_t ?_ | with_reducible refine w_ite_f ?_
    | with_reducible refine w_raise ?_ | with_reducible refine w_setSub ?_
    | with_reducible refine w_var (by with_unfolding_all exact rfl) ?_ | with_reducible refine w_cst ?_ | with_reducible refine w_bin ?_ | with_reducible refine w_fn ?_ | with_reducible refine w_nilA ?_ | with_reducible refine w_consA ?_
    | with_reducible refine w_tup ?_ | with_reducible refine w_lstF ?_ | with_reducible refine w_lstT ?_ | with_reducible refine w_tst ?_ | with_reducible refine tst_bl ?_ | with_reducible refine w_tru ?_ | with_reducible refine tru_bl ?_
    | with_reducible refine w_not ?_ | with_reducible refine w_andF ?_ | with_reducible refine w_orF ?_ | with_reducible refine w_pt ?_ | with_reducible refine w_pf ?_ | with_reducible refine w_iteT ?_ | with_reducible refine w_iteF ?_ | with_reducible refine w_ok ?_
    | with_reducible refine w_andV ?_ | with_reducible refine w_orV ?_ | with_reducible refine bl_bl ?_ | with_reducible refine w_iteV ?_ | with_reducible refine w_noO ?_ | with_reducible refine w_soO ?_ | with_reducible refine int_int ?_
    | with_reducible refine w_sl ?_ | with_reducible refine w_is ?_ | with_reducible refine w_add ?_ | with_reducible refine w_sub ?_ | with_reducible refine w_lt ?_ | with_reducible refine w_gt ?_ | with_reducible refine w_eqI ?_ | with_reducible refine w_neI ?_ | with_reducible refine w_int ?_
    | with_reducible refine fin_ret ?_ | with_reducible refine fin_err ?_ | with_reducible refine w_asg ?_ | with_reducible refine w_try ?_ | with_reducible refine w_for ?_ | with_reducible refine w_rng ?_ | with_reducible refine w_lcF ?_ | with_reducible refine w_seqF ?_ | with_reducible refine ble_len (by with_unfolding_all exact rfl) ?_)
    refine R.w_of (a := .lst (List.replicate 21 d2)) (S := S3) (by kernel_rfl) ?_
    (repeat' first
    | with_reducible refine w_seq ?_ | with_reducible refine w_nx ?_ | with_reducible refine w_ct ?_ | with_reducible refine w_br ?_ | with_reducible refine w_rtN ?_
    | with_reducible refine w_ret ?_ | with_reducible refine w_set ?_ | with_reducible refine w_expr ?_ | with_reducible refine w_if ?_ | with_reducible refine w_ite_t ?_ | with_reducible refine w_ite_f ?_
    | with_reducible refine w_raise ?_ | with_reducible refine w_setSub ?_
    | with_reducible refine w_var (by with_unfolding_all exact rfl) ?_ | with_reducible refine w_cst ?_ | with_reducible refine w_bin ?_ | with_reducible refine w_fn ?_ | with_reducible refine w_nilA ?_ | with_reducible refine w_consA ?_
    | with_reducible refine w_tup ?_ | with_reducible refine w_lstF ?_ | with_reducible refine w_lstT ?_ | with_reducible refine w_tst ?_ | with_reducible refine tst_bl ?_ | with_reducible refine w_tru ?_ | with_reducible refine tru_bl ?_
    | with_reducible refine w_not ?_ | with_reducible refine w_andF ?_ | with_reducible refine w_orF ?_ | with_reducible refine w_pt ?_ | with_reducible refine w_pf ?_ | with_reducible refine w_iteT ?_ | with_reducible refine w_iteF ?_ | with_reducible refine w_ok ?_
    | with_reducible refine w_andV ?_ | with_reducible refine w_orV ?_ | with_reducible refine bl_bl ?_ | with_reducible refine w_iteV ?_ | with_reducible refine w_noO ?_ | with_reducible refine w_soO ?_ | with_reducible refine int_int ?_
    | with_reducible refine w_sl ?_ | with_reducible refine w_is ?_ | with_reducible refine w_add ?_ | with_reducible refine w_sub ?_ | with_reducible refine w_lt ?_ | with_reducible refine w_gt ?_ | with_reducible refine w_eqI ?_ | with_reducible refine w_neI ?_ | with_reducible refine w_int ?_
    | with_reducible refine fin_ret ?_ | with_reducible refine fin_err ?_ | with_reducible refine w_asg ?_ | with_reducible refine w_try ?_ | with_reducible refine w_for ?_ | with_reducible refine w_rng ?_ | with_reducible refine w_lcF ?_ | with_reducible refine w_seqF ?_ | with_reducible refine ble_len (by with_unfolding_all exact rfl) ?_)
    refine R.w_of (ne_two h1 h2 S3 21) ?_
    (repeat' first
    | with_reducible refine w_seq ?_ | with_reducible refine w_nx ?_ | with_reducible refine w_ct ?_ | with_reducible refine w_br ?_ | with_reducible refine w_rtN ?_
    | with_reducible refine w_ret ?_ | with_reducible refine w_set ?_ | with_reducible refine w_expr ?_ | with_reducible refine w_if ?_ | with_reducible refine w_ite_t ?_ | with_reducible refine w_ite_f ?_
    | with_reducible refine w_raise ?_ | with_reducible refine w_setSub ?_
    | with_reducible refine w_var (by with_unfolding_all exact rfl) ?_ | with_reducible refine w_cst ?_ | with_reducible refine w_bin ?_ | with_reducible refine w_fn ?_ | with_reducible refine w_nilA ?_ | with_reducible refine w_consA ?_
    | with_reducible refine w_tup ?_ | with_reducible refine w_lstF ?_ | with_reducible refine w_lstT ?_ | with_reducible refine w_tst ?_ | with_reducible refine tst_bl ?_ | with_reducible refine w_tru ?_ | with_reducible refine tru_bl ?_
    | with_reducible refine w_not ?_ | with_reducible refine w_andF ?_ | with_reducible refine w_orF ?_ | with_reducible refine w_pt ?_ | with_reducible refine w_pf ?_ | with_reducible refine w_iteT ?_ | with_reducible refine w_iteF ?_ | with_reducible refine w_ok ?_
    | with_reducible refine w_andV ?_ | with_reducible refine w_orV ?_ | with_reducible refine bl_bl ?_ | with_reducible refine w_iteV ?_ | with_reducible refine w_noO ?_ | with_reducible refine w_soO ?_ | with_reducible refine int_int ?_
    | with_reducible refine w_sl ?_ | with_reducible refine w_is ?_ | with_reducible refine w_add ?_ | with_reducible refine w_sub ?_ | with_reducible refine w_lt ?_ | with_reducible refine w_gt ?_ | with_reducible refine w_eqI ?_ | with_reducible refine w_neI ?_ | with_reducible refine w_int ?_
    | with_reducible refine fin_ret ?_ | with_reducible refine fin_err ?_ | with_reducible refine w_asg ?_ | with_reducible refine w_try ?_ | with_reducible refine w_for ?_ | with_reducible refine w_rng ?_ | with_reducible refine w_lcF ?_ | with_reducible refine w_seqF ?_ | with_reducible refine ble_len (by with_unfolding_all exact rfl) ?_)
    refine R.w_of (a := .lst (exL d2)) (S := S3) (by kernel_rfl) ?_
    (repeat' first
    | with_reducible refine w_seq ?_ | with_reducible refine w_nx ?_ | with_reducible refine w_ct ?_ | with_reducible refine w_br ?_ | with_reducible refine w_rtN ?_
    | with_reducible refine w_ret ?_ | with_reducible refine w_set ?_ | with_reducible refine w_expr ?_ | with_reducible refine w_if ?_ | with_reducible refine w_ite_t ?_ | with_reducible refine w_ite_f ?_
    | with_reducible refine w_raise ?_ | with_reducible refine w_setSub ?_
    | with_reducible refine w_var (by with_unfolding_all exact rfl) ?_ | with_reducible refine w_cst ?_ | with_reducible refine w_bin ?_ | with_reducible refine w_fn ?_ | with_reducible refine w_nilA ?_ | with_reducible refine w_consA ?_
    | with_reducible refine w_tup ?_ | with_reducible refine w_lstF ?_ | with_reducible refine w_lstT ?_ | with_reducible refine w_tst ?_ | with_reducible refine tst_bl ?_ | with_reducible refine w_tru ?_ | with_reducible refine tru_bl ?_
    | with_reducible refine w_not ?_ | with_reducible refine w_andF ?_ | with_reducible refine w_orF ?_ | with_reducible refine w_pt ?_ | with_reducible refine w_pf ?_ | with_reducible refine w_iteT ?_ | with_reducible refine w_iteF ?_ | with_reducible refine w_ok ?_
    | with_reducible refine w_andV ?_ | with_reducible refine w_orV ?_ | with_reducible refine bl_bl ?_ | with_reducible refine w_iteV ?_ | with_reducible refine w_noO ?_ | with_reducible refine w_soO ?_ | with_reducible refine int_int ?_
    | with_reducible refine w_sl ?_ | with_reducible refine w_is ?_ | with_reducible refine w_add ?_ | with_reducible refine w_sub ?_ | with_reducible refine w_lt ?_ | with_reducible refine w_gt ?_ | with_reducible refine w_eqI ?_ | with_reducible refine w_neI ?_ | with_reducible refine w_int ?_
    | with_reducible refine fin_ret ?_ | with_reducible refine fin_err ?_ | with_reducible refine w_asg ?_ | with_reducible refine w_try ?_ | with_reducible refine w_for ?_ | with_reducible refine w_rng ?_ | with_reducible refine w_lcF ?_ | with_reducible refine w_seqF ?_ | with_reducible refine ble_len (by with_unfolding_all exact rfl) ?_)
    refine R.w_of (run_fields 226 d2 S3) ?_
    (repeat' first
    | with_reducible refine w_seq ?_ | with_reducible refine w_nx ?_ | with_reducible refine w_ct ?_ | with_reducible refine w_br ?_ | with_reducible refine w_rtN ?_
    | with_reducible refine w_ret ?_ | with_reducible refine w_set ?_ | with_reducible refine w_expr ?_ | with_reducible refine w_if ?_ | with_reducible refine w_ite_t ?_ | with_reducible refine w_ite_f ?_
    | with_reducible refine w_raise ?_ | with_reducible refine w_setSub ?_
    | with_reducible refine w_var (by with_unfolding_all exact rfl) ?_ | with_reducible refine w_cst ?_ | with_reducible refine w_bin ?_ | with_reducible refine w_fn ?_ | with_reducible refine w_nilA ?_ | with_reducible refine w_consA ?_
    | with_reducible refine w_tup ?_ | with_reducible refine w_lstF ?_ | with_reducible refine w_lstT ?_ | with_reducible refine w_tst ?_ | with_reducible refine tst_bl ?_ | with_reducible refine w_tru ?_ | with_reducible refine tru_bl ?_
    | with_reducible refine w_not ?_ | with_reducible refine w_andF ?_ | with_reducible refine w_orF ?_ | with_reducible refine w_pt ?_ | with_reducible refine w_pf ?_ | with_reducible refine w_iteT ?_ | with_reducible refine w_iteF ?_ | with_reducible refine w_ok ?_
    | with_reducible refine w_andV ?_ | with_reducible refine w_orV ?_ | with_reducible refine bl_bl ?_ | with_reducible refine w_iteV ?_ | with_reducible refine w_noO ?_ | with_reducible refine w_soO ?_ | with_reducible refine int_int ?_
    | with_reducible refine w_sl ?_ | with_reducible refine w_is ?_ | with_reducible refine w_add ?_ | with_reducible refine w_sub ?_ | with_reducible refine w_lt ?_ | with_reducible refine w_gt ?_ | with_reducible refine w_eqI ?_ | with_reducible refine w_neI ?_ | with_reducible refine w_int ?_
    | with_reducible refine fin_ret ?_ | with_reducible refine fin_err ?_ | with_reducible refine w_asg ?_ | with_reducible refine w_try ?_ | with_reducible refine w_for ?_ | with_reducible refine w_rng ?_ | with_reducible refine w_lcF ?_ | with_reducible refine w_seqF ?_ | with_reducible refine ble_len (by with_unfolding_all exact rfl) ?_)
    refine R.w_of (a := .lst (exL d1)) (S := S3) (by kernel_rfl) ?_
    (repeat' first
    | with_reducible refine w_seq ?_ | with_reducible refine w_nx ?_ | with_reducible refine w_ct ?_ | with_reducible refine w_br ?_ | with_reducible refine w_rtN ?_
    | with_reducible refine w_ret ?_ | with_reducible refine w_set ?_ | with_reducible refine w_expr ?_ | with_reducible refine w_if ?_ | with_reducible refine w_ite_t ?_ | with_reducible refine w_ite_f ?_
    | with_reducible refine w_raise ?_ | with_reducible refine w_setSub ?_
    | with_reducible refine w_var (by with_unfolding_all exact rfl) ?_ | with_reducible refine w_cst ?_ | with_reducible refine w_bin ?_ | with_reducible refine w_fn ?_ | with_reducible refine w_nilA ?_ | with_reducible refine w_consA ?_
    | with_reducible refine w_tup ?_ | with_reducible refine w_lstF ?_ | with_reducible refine w_lstT ?_ | with_reducible refine w_tst ?_ | with_reducible refine tst_bl ?_ | with_reducible refine w_tru ?_ | with_reducible refine tru_bl ?_
    | with_reducible refine w_not ?_ | with_reducible refine w_andF ?_ | with_reducible refine w_orF ?_ | with_reducible refine w_pt ?_ | with_reducible refine w_pf ?_ | with_reducible refine w_iteT ?_ | with_reducible refine w_iteF ?_ | with_reducible refine w_ok ?_
    | with_reducible refine w_andV ?_ | with_reducible refine w_orV ?_ | with_reducible refine bl_bl ?_ | with_reducible refine w_iteV ?_ | with_reducible refine w_noO ?_ | with_reducible refine w_soO ?_ | with_reducible refine int_int ?_
    | with_reducible refine w_sl ?_ | with_reducible refine w_is ?_ | with_reducible refine w_add ?_ | with_reducible refine w_sub ?_ | with_reducible refine w_lt ?_ | with_reducible refine w_gt ?_ | with_reducible refine w_eqI ?_ | with_reducible refine w_neI ?_ | with_reducible refine w_int ?_
    | with_reducible refine fin_ret ?_ | with_reducible refine fin_err ?_ | with_reducible refine w_asg ?_ | with_reducible refine w_try ?_ | with_reducible refine w_for ?_ | with_reducible refine w_rng ?_ | with_reducible refine w_lcF ?_ | with_reducible refine w_seqF ?_ | with_reducible refine ble_len (by with_unfolding_all exact rfl) ?_)
    refine R.w_of (run_fields 226 d1 S3) ?_
    (repeat' first
    | with_reducible refine w_seq ?_ | with_reducible refine w_nx ?_ | with_reducible refine w_ct ?_ | with_reducible refine w_br ?_ | with_reducible refine w_rtN ?_
    | with_reducible refine w_ret ?_ | with_reducible refine w_set ?_ | with_reducible refine w_expr ?_ | with_reducible refine w_if ?_ | with_reducible refine w_ite_t ?_ | with_reducible refine w_ite_f ?_
    | with_reducible refine w_raise ?_ | with_reducible refine w_setSub ?_
    | with_reducible refine w_var (by with_unfolding_all exact rfl) ?_ | with_reducible refine w_cst ?_ | with_reducible refine w_bin ?_ | with_reducible refine w_fn ?_ | with_reducible refine w_nilA ?_ | with_reducible refine w_consA ?_
    | with_reducible refine w_tup ?_ | with_reducible refine w_lstF ?_ | with_reducible refine w_lstT ?_ | with_reducible refine w_tst ?_ | with_reducible refine tst_bl ?_ | with_reducible refine w_tru ?_ | with_reducible refine tru_bl ?_
    | with_reducible refine w_not ?_ | with_reducible refine w_andF ?_ | with_reducible refine w_orF ?_ | with_reducible refine w_pt ?_ | with_reducible refine w_pf ?_ | with_reducible refine w_iteT ?_ | with_reducible refine w_iteF ?_ | with_reducible refine w_ok ?_
    | with_reducible refine w_andV ?_ | with_reducible refine w_orV ?_ | with_reducible refine bl_bl ?_ | with_reducible refine w_iteV ?_ | with_reducible refine w_noO ?_ | with_reducible refine w_soO ?_ | with_reducible refine int_int ?_
    | with_reducible refine w_sl ?_ | with_reducible refine w_is ?_ | with_reducible refine w_add ?_ | with_reducible refine w_sub ?_ | with_reducible refine w_lt ?_ | with_reducible refine w_gt ?_ | with_reducible refine w_eqI ?_ | with_reducible refine w_neI ?_ | with_reducible refine w_int ?_
    | with_reducible refine fin_ret ?_ | with_reducible refine fin_err ?_ | with_reducible refine w_asg ?_ | with_reducible refine w_try ?_ | with_reducible refine w_for ?_ | with_reducible refine w_rng ?_ | with_reducible refine w_lcF ?_ | with_reducible refine w_seqF ?_ | with_reducible refine ble_len (by with_unfolding_all exact rfl) ?_)
    refine R.w_of (a := .lst (List.replicate 21 d2)) (S := S3) (by kernel_rfl) ?_
    (repeat' first
    | with_reducible refine w_seq ?_ | with_reducible refine w_nx ?_ | with_reducible refine w_ct ?_ | with_reducible refine w_br ?_ | with_reducible refine w_rtN ?_
    | with_reducible refine w_ret ?_ | with_reducible refine w_set ?_ | with_reducible refine w_expr ?_ | with_reducible refine w_if ?_ | with_reducible refine w_ite_t ?_ | with_reducible refine w_ite_f ?_
    | with_reducible refine w_raise ?_ | with_reducible refine w_setSub ?_
    | with_reducible refine w_var (by with_unfolding_all exact rfl) ?_ | with_reducible refine w_cst ?_ | with_reducible refine w_bin ?_ | with_reducible refine w_fn ?_ | with_reducible refine w_nilA ?_ | with_reducible refine w_consA ?_
    | with_reducible refine w_tup ?_ | with_reducible refine w_lstF ?_ | with_reducible refine w_lstT ?_ | with_reducible refine w_tst ?_ | with_reducible refine tst_bl ?_ | with_reducible refine w_tru ?_ | with_reducible refine tru_bl ?_
    | with_reducible refine w_not ?_ | with_reducible refine w_andF ?_ | with_reducible refine w_orF ?_ | with_reducible refine w_pt ?_ | with_reducible refine w_pf ?_ | with_reducible refine w_iteT ?_ | with_reducible refine w_iteF ?_ | with_reducible refine w_ok ?_
    | with_reducible refine w_andV ?_ | with_reducible refine w_orV ?_ | with_reducible refine bl_bl ?_ | with_reducible refine w_iteV ?_ | with_reducible refine w_noO ?_ | with_reducible refine w_soO ?_ | with_reducible refine int_int ?_
    | with_reducible refine w_sl ?_ | with_reducible refine w_is ?_ | with_reducible refine w_add ?_ | with_reducible refine w_sub ?_ | with_reducible refine w_lt ?_ | with_reducible refine w_gt ?_ | with_reducible refine w_eqI ?_ | with_reducible refine w_neI ?_ | with_reducible refine w_int ?_
    | with_reducible refine fin_ret ?_ | with_reducible refine fin_err ?_ | with_reducible refine w_asg ?_ | with_reducible refine w_try ?_ | with_reducible refine w_for ?_ | with_reducible refine w_rng ?_ | with_reducible refine w_lcF ?_ | with_reducible refine w_seqF ?_ | with_reducible refine ble_len (by with_unfolding_all exact rfl) ?_)
    refine R.w_of (a := .lst (List.replicate 21 d1)) (S := S3) (by kernel_rfl) ?_
    (repeat' first
    | with_reducible refine w_seq ?_ | with_reducible refine w_nx ?_ | with_reducible refine w_ct ?_ | with_reducible refine w_br ?_ | with_reducible refine w_rtN ?_
    | with_reducible refine w_ret ?_ | with_reducible refine w_set ?_ | with_reducible refine w_expr ?_ | with_reducible refine w_if ?_ | with_reducible refine w_ite_t ?_ | with_reducible refine w_ite_f ?_
    | with_reducible refine w_raise ?_ | with_reducible refine w_setSub ?_
    | with_reducible refine w_var (by with_unfolding_all exact rfl) ?_ | with_reducible refine w_cst ?_ | with_reducible refine w_bin ?_ | with_reducible refine w_fn ?_ | with_reducible refine w_nilA ?_ | with_reducible refine w_consA ?_
    | with_reducible refine w_tup ?_ | with_reducible refine w_lstF ?_ | with_reducible refine w_lstT ?_ | with_reducible refine w_tst ?_ | with_reducible refine tst_bl ?_ | with_reducible refine w_tru ?_ | with_reducible refine tru_bl ?_
    | with_reducible refine w_not ?_ | with_reducible refine w_andF ?_ | with_reducible refine w_orF ?_ | with_reducible refine w_pt ?_ | with_reducible refine w_pf ?_ | with_reducible refine w_iteT ?_ | with_reducible refine w_iteF ?_ | with_reducible refine w_ok ?_
    | with_reducible refine w_andV ?_ | with_reducible refine w_orV ?_ | with_reducible refine bl_bl ?_ | with_reducible refine w_iteV ?_ | with_reducible refine w_noO ?_ | with_reducible refine w_soO ?_ | with_reducible refine int_int ?_
    | with_reducible refine w_sl ?_ | with_reducible refine w_is ?_ | with_reducible refine w_add ?_ | with_reducible refine w_sub ?_ | with_reducible refine w_lt ?_ | with_reducible refine w_gt ?_ | with_reducible refine w_eqI ?_ | with_reducible refine w_neI ?_ | with_reducible refine w_int ?_
    | with_reducible refine fin_ret ?_ | with_reducible refine fin_err ?_ | with_reducible refine w_asg ?_ | with_reducible refine w_try ?_ | with_reducible refine w_for ?_ | with_reducible refine w_rng ?_ | with_reducible refine w_lcF ?_ | with_reducible refine w_seqF ?_ | with_reducible refine ble_len (by with_unfolding_all exact rfl) ?_)
    refine R.w_of (ne_two h2 h1 S3 21) ?_
    (repeat' first
    | with_reducible refine w_seq ?_ | with_reducible refine w_nx ?_ | with_reducible refine w_ct ?_ | with_reducible refine w_br ?_ | with_reducible refine w_rtN ?_
    | with_reducible refine w_ret ?_ | with_reducible refine w_set ?_ | with_reducible refine w_expr ?_ | with_reducible refine w_if ?_ | with_reducible refine w_ite_t ?_ | with_reducible refine w_ite_f ?_
    | with_reducible refine w_raise ?_ | with_reducible refine w_setSub ?_
    | with_reducible refine w_var (by with_unfolding_all exact rfl) ?_ | with_reducible refine w_cst ?_ | with_reducible refine w_bin ?_ | with_reducible refine w_fn ?_ | with_reducible refine w_nilA ?_ | with_reducible refine w_consA ?_
    | with_reducible refine w_tup ?_ | with_reducible refine w_lstF ?_ | with_reducible refine w_lstT ?_ | with_reducible refine w_tst ?_ | with_reducible refine tst_bl ?_ | with_reducible refine w_tru ?_ | with_reducible refine tru_bl ?_
    | with_reducible refine w_not ?_ | with_reducible refine w_andF ?_ | with_reducible refine w_orF ?_ | with_reducible refine w_pt ?_ | with_reducible refine w_pf ?_ | with_reducible refine w_iteT ?_ | with_reducible refine w_iteF ?_ | with_reducible refine w_ok ?_
    | with_reducible refine w_andV ?_ | with_reducible refine w_orV ?_ | with_reducible refine bl_bl ?_ | with_reducible refine w_iteV ?_ | with_reducible refine w_noO ?_ | with_reducible refine w_soO ?_ | with_reducible refine int_int ?_
    | with_reducible refine w_sl ?_ | with_reducible refine w_is ?_ | with_reducible refine w_add ?_ | with_reducible refine w_sub ?_ | with_reducible refine w_lt ?_ | with_reducible refine w_gt ?_ | with_reducible refine w_eqI ?_ | with_reducible refine w_neI ?_ | with_reducible refine w_int ?_
    | with_reducible refine fin_ret ?_ | with_reducible refine fin_err ?_ | with_reducible refine w_asg ?_ | with_reducible refine w_try ?_ | with_reducible refine w_for ?_ | with_reducible refine w_rng ?_ | with_reducible refine w_lcF ?_ | with_reducible refine w_seqF ?_ | with_reducible refine ble_len (by with_unfolding_all exact rfl) ?_)
    refine w_strA ?_
    (repeat' first
    | with_reducible refine w_seq ?_ | with_reducible refine w_nx ?_ | with_reducible refine w_ct ?_ | with_reducible refine w_br ?_ | with_reducible refine w_rtN ?_
    | with_reducible refine w_ret ?_ | with_reducible refine w_set ?_ | with_reducible refine w_expr ?_ | with_reducible refine w_if ?_ | with_reducible refine w_ite_t ?_ | with_reducible refine w_ite_f ?_
    | with_reducible refine w_raise ?_ | with_reducible refine w_setSub ?_
    | with_reducible refine w_var (by with_unfolding_all exact rfl) ?_ | with_reducible refine w_cst ?_ | with_reducible refine w_bin ?_ | with_reducible refine w_fn ?_ | with_reducible refine w_nilA ?_ | with_reducible refine w_consA ?_
    | with_reducible refine w_tup ?_ | with_reducible refine w_lstF ?_ | with_reducible refine w_lstT ?_ | with_reducible refine w_tst ?_ | with_reducible refine tst_bl ?_ | with_reducible refine w_tru ?_ | with_reducible refine tru_bl ?_
    | with_reducible refine w_not ?_ | with_reducible refine w_andF ?_ | with_reducible refine w_orF ?_ | with_reducible refine w_pt ?_ | with_reducible refine w_pf ?_ | with_reducible refine w_iteT ?_ | with_reducible refine w_iteF ?_ | with_reducible refine w_ok ?_
    | with_reducible refine w_andV ?_ | with_reducible refine w_orV ?_ | with_reducible refine bl_bl ?_ | with_reducible refine w_iteV ?_ | with_reducible refine w_noO ?_ | with_reducible refine w_soO ?_ | with_reducible refine int_int ?_
    | with_reducible refine w_sl ?_ | with_reducible refine w_is ?_ | with_reducible refine w_add ?_ | with_reducible refine w_sub ?_ | with_reducible refine w_lt ?_ | with_reducible refine w_gt ?_ | with_reducible refine w_eqI ?_ | with_reducible refine w_neI ?_ | with_reducible refine w_int ?_
    | with_reducible refine fin_ret ?_ | with_reducible refine fin_err ?_ | with_reducible refine w_asg ?_ | with_reducible refine w_try ?_ | with_reducible refine w_for ?_ | with_reducible refine w_rng ?_ | with_reducible refine w_lcF ?_ | with_reducible refine w_seqF ?_ | with_reducible refine ble_len (by with_unfolding_all exact rfl) ?_)
    refine ⟨_, _, rfl, t1, ?_⟩
    (repeat' first
    | with_reducible refine w_seq ?_ | with_reducible refine w_nx ?_ | with_reducible refine w_ct ?_ | with_reducible refine w_br ?_ | with_reducible refine w_rtN ?_
    | with_reducible refine w_ret ?_ | with_reducible refine w_set ?_ | with_reducible refine w_expr ?_ | with_reducible refine w_if ?_ | with_reducible refine w_ite_t ?_ | with_reducible refine w_ite_f ?_
    | with_reducible refine w_raise ?_ | with_reducible refine w_setSub ?_
    | with_reducible refine w_var (by with_unfolding_all exact rfl) ?_ | with_reducible refine w_cst ?_ | with_reducible refine w_bin ?_ | with_reducible refine w_fn ?_ | with_reducible refine w_nilA ?_ | with_reducible refine w_consA ?_
    | with_reducible refine w_tup ?_ | with_reducible refine w_lstF ?_ | with_reducible refine w_lstT ?_ | with_reducible refine w_tst ?_ | with_reducible refine tst_bl ?_ | with_reducible refine w_tru ?_ | with_reducible refine tru_bl ?_
    | with_reducible refine w_not ?_ | with_reducible refine w_andF ?_ | with_reducible refine w_orF ?_ | with_reducible refine w_pt ?_ | with_reducible refine w_pf ?_ | with_reducible refine w_iteT ?_ | with_reducible refine w_iteF ?_ | with_reducible refine w_ok ?_
    | with_reducible refine w_andV ?_ | with_reducible refine w_orV ?_ | with_reducible refine bl_bl ?_ | with_reducible refine w_iteV ?_ | with_reducible refine w_noO ?_ | with_reducible refine w_soO ?_ | with_reducible refine int_int ?_
    | with_reducible refine w_sl ?_ | with_reducible refine w_is ?_ | with_reducible refine w_add ?_ | with_reducible refine w_sub ?_ | with_reducible refine w_lt ?_ | with_reducible refine w_gt ?_ | with_reducible refine w_eqI ?_ | with_reducible refine w_neI ?_ | with_reducible refine w_int ?_
    | with_reducible refine fin_ret ?_ | with_reducible refine fin_err ?_ | with_reducible refine w_asg ?_ | with_reducible refine w_try ?_ | with_reducible refine w_for ?_ | with_reducible refine w_rng ?_ | with_reducible refine w_lcF ?_ | with_reducible refine w_seqF ?_ | with_reducible refine ble_len (by with_unfolding_all exact rfl) ?_)
    refine w_strA ?_
    (repeat' first
    | with_reducible refine w_seq ?_ | with_reducible refine w_nx ?_ | with_reducible refine w_ct ?_ | with_reducible refine w_br ?_ | with_reducible refine w_rtN ?_
    | with_reducible refine w_ret ?_ | with_reducible refine w_set ?_ | with_reducible refine w_expr ?_ | with_reducible refine w_if ?_ | with_reducible refine w_ite_t ?_ | with_reducible refine w_ite_f ?_
    | with_reducible refine w_raise ?_ | with_reducible refine w_setSub ?_
    | with_reducible refine w_var (by with_unfolding_all exact rfl) ?_ | with_reducible refine w_cst ?_ | with_reducible refine w_bin ?_ | with_reducible refine w_fn ?_ | with_reducible refine w_nilA ?_ | with_reducible refine w_consA ?_
    | with_reducible refine w_tup ?_ | with_reducible refine w_lstF ?_ | with_reducible refine w_lstT ?_ | with_reducible refine w_tst ?_ | with_reducible refine tst_bl ?_ | with_reducible refine w_tru ?_ | with_reducible refine tru_bl ?_
    | with_reducible refine w_not ?_ | with_reducible refine w_andF ?_ | with_reducible refine w_orF ?_ | with_reducible refine w_pt ?_ | with_reducible refine w_pf ?_ | with_reducible refine w_iteT ?_ | with_reducible refine w_iteF ?_ | with_reducible refine w_ok ?_
    | with_reducible refine w_andV ?_ | with_reducible refine w_orV ?_ | with_reducible refine bl_bl ?_ | with_reducible refine w_iteV ?_ | with_reducible refine w_noO ?_ | with_reducible refine w_soO ?_ | with_reducible refine int_int ?_
    | with_reducible refine w_sl ?_ | with_reducible refine w_is ?_ | with_reducible refine w_add ?_ | with_reducible refine w_sub ?_ | with_reducible refine w_lt ?_ | with_reducible refine w_gt ?_ | with_reducible refine w_eqI ?_ | with_reducible refine w_neI ?_ | with_reducible refine w_int ?_
    | with_reducible refine fin_ret ?_ | with_reducible refine fin_err ?_ | with_reducible refine w_asg ?_ | with_reducible refine w_try ?_ | with_reducible refine w_for ?_ | with_reducible refine w_rng ?_ | with_reducible refine w_lcF ?_ | with_reducible refine w_seqF ?_ | with_reducible refine ble_len (by with_unfolding_all exact rfl) ?_)
    refine ⟨_, _, rfl, t2, ?_⟩
    (repeat' first
    | with_reducible refine w_seq ?_ | with_reducible refine w_nx ?_ | with_reducible refine w_ct ?_ | with_reducible refine w_br ?_ | with_reducible refine w_rtN ?_
    | with_reducible refine w_ret ?_ | with_reducible refine w_set ?_ | with_reducible refine w_expr ?_ | with_reducible refine w_if ?_ | with_reducible refine w_ite_t ?_ | with_reducible refine w_ite_f ?_
    | with_reducible refine w_raise ?_ | with_reducible refine w_setSub ?_
    | with_reducible refine w_var (by with_unfolding_all exact rfl) ?_ | with_reducible refine w_cst ?_ | with_reducible refine w_bin ?_ | with_reducible refine w_fn ?_ | with_reducible refine w_nilA ?_ | with_reducible refine w_consA ?_
    | with_reducible refine w_tup ?_ | with_reducible refine w_lstF ?_ | with_reducible refine w_lstT ?_ | with_reducible refine w_tst ?_ | with_reducible refine tst_bl ?_ | with_reducible refine w_tru ?_ | with_reducible refine tru_bl ?_
    | with_reducible refine w_not ?_ | with_reducible refine w_andF ?_ | with_reducible refine w_orF ?_ | with_reducible refine w_pt ?_ | with_reducible refine w_pf ?_ | with_reducible refine w_iteT ?_ | with_reducible refine w_iteF ?_ | with_reducible refine w_ok ?_
    | with_reducible refine w_andV ?_ | with_reducible refine w_orV ?_ | with_reducible refine bl_bl ?_ | with_reducible refine w_iteV ?_ | with_reducible refine w_noO ?_ | with_reducible refine w_soO ?_ | with_reducible refine int_int ?_
    | with_reducible refine w_sl ?_ | with_reducible refine w_is ?_ | with_reducible refine w_add ?_ | with_reducible refine w_sub ?_ | with_reducible refine w_lt ?_ | with_reducible refine w_gt ?_ | with_reducible refine w_eqI ?_ | with_reducible refine w_neI ?_ | with_reducible refine w_int ?_
    | with_reducible refine fin_ret ?_ | with_reducible refine fin_err ?_ | with_reducible refine w_asg ?_ | with_reducible refine w_try ?_ | with_reducible refine w_for ?_ | with_reducible refine w_rng ?_ | with_reducible refine w_lcF ?_ | with_reducible refine w_seqF ?_ | with_reducible refine ble_len (by with_unfolding_all exact rfl) ?_)
    refine R.w_of (ne_strs s1 s2 S3) ?_
    (repeat' first
    | with_reducible refine w_seq ?_ | with_reducible refine w_nx ?_ | with_reducible refine w_ct ?_ | with_reducible refine w_br ?_ | with_reducible refine w_rtN ?_
    | with_reducible refine w_ret ?_ | with_reducible refine w_set ?_ | with_reducible refine w_expr ?_ | with_reducible refine w_if ?_ | with_reducible refine w_ite_t ?_ | with_reducible refine w_ite_f ?_
    | with_reducible refine w_raise ?_ | with_reducible refine w_setSub ?_
    | with_reducible refine w_var (by with_unfolding_all exact rfl) ?_ | with_reducible refine w_cst ?_ | with_reducible refine w_bin ?_ | with_reducible refine w_fn ?_ | with_reducible refine w_nilA ?_ | with_reducible refine w_consA ?_
    | with_reducible refine w_tup ?_ | with_reducible refine w_lstF ?_ | with_reducible refine w_lstT ?_ | with_reducible refine w_tst ?_ | with_reducible refine tst_bl ?_ | with_reducible refine w_tru ?_ | with_reducible refine tru_bl ?_
    | with_reducible refine w_not ?_ | with_reducible refine w_andF ?_ | with_reducible refine w_orF ?_ | with_reducible refine w_pt ?_ | with_reducible refine w_pf ?_ | with_reducible refine w_iteT ?_ | with_reducible refine w_iteF ?_ | with_reducible refine w_ok ?_
    | with_reducible refine w_andV ?_ | with_reducible refine w_orV ?_ | with_reducible refine bl_bl ?_ | with_reducible refine w_iteV ?_ | with_reducible refine w_noO ?_ | with_reducible refine w_soO ?_ | with_reducible refine int_int ?_
    | with_reducible refine w_sl ?_ | with_reducible refine w_is ?_ | with_reducible refine w_add ?_ | with_reducible refine w_sub ?_ | with_reducible refine w_lt ?_ | with_reducible refine w_gt ?_ | with_reducible refine w_eqI ?_ | with_reducible refine w_neI ?_ | with_reducible refine w_int ?_
    | with_reducible refine fin_ret ?_ | with_reducible refine fin_err ?_ | with_reducible refine w_asg ?_ | with_reducible refine w_try ?_ | with_reducible refine w_for ?_ | with_reducible refine w_rng ?_ | with_reducible refine w_lcF ?_ | with_reducible refine w_seqF ?_ | with_reducible refine ble_len (by with_unfolding_all exact rfl) ?_)
    exact ⟨_, _, _, _, _, _, _, rfl⟩
  · rintro σ T ⟨o2, o5, o6, o7, o8, o9, o10, rfl⟩
    (repeat' first
    | with_reducible refine w_seq ?_ | with_reducible refine w_nx ?_ | with_reducible refine w_ct ?_ | with_reducible refine w_br ?_ | with_reducible refine w_rtN ?_
    | with_reducible refine w_ret ?_ | with_reducible refine w_set ?_ | with_reducible refine w_expr ?_ | with_reducible refine w_if ?_ | with_reducible refine w_ite_t ?_ | with_reducible refine w_ite_f ?_
    | with_reducible refine w_raise ?_ | with_reducible refine w_setSub ?_
    | with_reducible refine w_var (by with_unfolding_all exact rfl) ?_ | with_reducible refine w_cst ?_ | with_reducible refine w_bin ?_ | with_reducible refine w_fn ?_ | with_reducible refine w_nilA ?_ | with_reducible refine w_consA ?_
    | with_reducible refine w_tup ?_ | with_reducible refine w_lstF ?_ | with_reducible refine w_lstT ?_ | with_reducible refine w_tst ?_ | with_reducible refine tst_bl ?_ | with_reducible refine w_tru ?_ | with_reducible refine tru_bl ?_
    | with_reducible refine w_not ?_ | with_reducible refine w_andF ?_ | with_reducible refine w_orF ?_ | with_reducible refine w_pt ?_ | with_reducible refine w_pf ?_ | with_reducible refine w_iteT ?_ | with_reducible refine w_iteF ?_ | with_reducible refine w_ok ?_
    | with_reducible refine w_andV ?_ | with_reducible refine w_orV ?_ | with_reducible refine bl_bl ?_ | with_reducible refine w_iteV ?_ | with_reducible refine w_noO ?_ | with_reducible refine w_soO ?_ | with_reducible refine int_int ?_
    | with_reducible refine w_sl ?_ | with_reducible refine w_is ?_ | with_reducible refine w_add ?_ | with_reducible refine w_sub ?_ | with_reducible refine w_lt ?_ | with_reducible refine w_gt ?_ | with_reducible refine w_eqI ?_ | with_reducible refine w_neI ?_ | with_reducible refine w_int ?_
    | with_reducible refine fin_ret ?_ | with_reducible refine fin_err ?_ | with_reducible refine w_asg ?_ | with_reducible refine w_try ?_ | with_reducible refine w_for ?_ | with_reducible refine w_rng ?_ | with_reducible refine w_lcF ?_ | with_reducible refine w_seqF ?_ | with_reducible refine ble_len (by with_unfolding_all exact rfl) ?_)
    rfl
theorem pure_ok : ∀ ns : List Int, ns.length ≤ 63 → ∀ d, (d = .lst (ns.map D.int) ∨ d = .fls (ns.map D.int)) → ∃ S, runMain GT fldT exmT fuel 229 [d] [] = .ok (.bl true) S := by
  intro ns _ d hd
  obtain ⟨r, T, e, rfl⟩ := (pure_main ns d hd).get
  exact ⟨T, e⟩
end MI.K06

set_option Elab.async false
set_option linter.all false
set_option maxRecDepth 100000
set_option maxHeartbeats 8000000
namespace MI.K06
open PySem PySem.Spec L2 MI
open PyProof.Rows hiding St
def clsBody (s : Stmt) : List Stmt := match s with
  | .ClassDef _ _ _ b _ _ _ _ _ _ _ => b
  | _ => []
abbrev s_init_Drops : Stmt := (clsBody (top 15)).getD 0 (.Pass ⟨0, 0, 0, 0⟩)
theorem sc_init_Drops : FnScope ["self", "number"] ["self", "number"] (defScope s_init_Drops) := ⟨rfl, rfl, rfl, by decide +kernel, rfl, by decide +kernel, by decide +kernel⟩
abbrev s_init_Failed : Stmt := (clsBody (top 21)).getD 0 (.Pass ⟨0, 0, 0, 0⟩)
theorem sc_init_Failed : FnScope ["self", "name"] ["self", "name"] (defScope s_init_Failed) := ⟨rfl, rfl, rfl, by decide +kernel, rfl, by decide +kernel, by decide +kernel⟩
abbrev s_init_InvalidCommand : Stmt := (clsBody (top 7)).getD 0 (.Pass ⟨0, 0, 0, 0⟩)
theorem sc_init_InvalidCommand : FnScope ["self", "thing"] ["self", "thing"] (defScope s_init_InvalidCommand) := ⟨rfl, rfl, rfl, by decide +kernel, rfl, by decide +kernel, by decide +kernel⟩
abbrev s_init_InvalidCommands : Stmt := (clsBody (top 11)).getD 0 (.Pass ⟨0, 0, 0, 0⟩)
theorem sc_init_InvalidCommands : FnScope ["self", "place"] ["self", "place"] (defScope s_init_InvalidCommands) := ⟨rfl, rfl, rfl, by decide +kernel, rfl, by decide +kernel, by decide +kernel⟩
abbrev s_init_InvalidCount : Stmt := (clsBody (top 12)).getD 0 (.Pass ⟨0, 0, 0, 0⟩)
theorem sc_init_InvalidCount : FnScope ["self", "most"] ["self", "most"] (defScope s_init_InvalidCount) := ⟨rfl, rfl, rfl, by decide +kernel, rfl, by decide +kernel, by decide +kernel⟩
abbrev s_init_InvalidFilling : Stmt := (clsBody (top 6)).getD 0 (.Pass ⟨0, 0, 0, 0⟩)
theorem sc_init_InvalidFilling : FnScope ["self", "thing"] ["self", "thing"] (defScope s_init_InvalidFilling) := ⟨rfl, rfl, rfl, by decide +kernel, rfl, by decide +kernel, by decide +kernel⟩
abbrev s_init_InvalidLabels : Stmt := (clsBody (top 13)).getD 0 (.Pass ⟨0, 0, 0, 0⟩)
theorem sc_init_InvalidLabels : FnScope ["self", "thing"] ["self", "thing"] (defScope s_init_InvalidLabels) := ⟨rfl, rfl, rfl, by decide +kernel, rfl, by decide +kernel, by decide +kernel⟩
abbrev s_init_InvalidLikeness : Stmt := (clsBody (top 14)).getD 0 (.Pass ⟨0, 0, 0, 0⟩)
theorem sc_init_InvalidLikeness : FnScope ["self", "likeness"] ["self", "likeness"] (defScope s_init_InvalidLikeness) := ⟨rfl, rfl, rfl, by decide +kernel, rfl, by decide +kernel, by decide +kernel⟩
abbrev s_init_InvalidList : Stmt := (clsBody (top 9)).getD 0 (.Pass ⟨0, 0, 0, 0⟩)
theorem sc_init_InvalidList : FnScope ["self", "problem"] ["self", "problem"] (defScope s_init_InvalidList) := ⟨rfl, rfl, rfl, by decide +kernel, rfl, by decide +kernel, by decide +kernel⟩
abbrev s_init_InvalidName : Stmt := (clsBody (top 19)).getD 0 (.Pass ⟨0, 0, 0, 0⟩)
theorem sc_init_InvalidName : FnScope ["self", "name"] ["self", "name"] (defScope s_init_InvalidName) := ⟨rfl, rfl, rfl, by decide +kernel, rfl, by decide +kernel, by decide +kernel⟩
abbrev s_init_InvalidNumber : Stmt := (clsBody (top 16)).getD 0 (.Pass ⟨0, 0, 0, 0⟩)
theorem sc_init_InvalidNumber : FnScope ["self", "number"] ["self", "number"] (defScope s_init_InvalidNumber) := ⟨rfl, rfl, rfl, by decide +kernel, rfl, by decide +kernel, by decide +kernel⟩
abbrev s_init_InvalidPath : Stmt := (clsBody (top 10)).getD 0 (.Pass ⟨0, 0, 0, 0⟩)
theorem sc_init_InvalidPath : FnScope ["self", "place"] ["self", "place"] (defScope s_init_InvalidPath) := ⟨rfl, rfl, rfl, by decide +kernel, rfl, by decide +kernel, by decide +kernel⟩
abbrev s_init_InvalidPattern : Stmt := (clsBody (top 4)).getD 0 (.Pass ⟨0, 0, 0, 0⟩)
theorem sc_init_InvalidPattern : FnScope ["self", "thing"] ["self", "thing"] (defScope s_init_InvalidPattern) := ⟨rfl, rfl, rfl, by decide +kernel, rfl, by decide +kernel, by decide +kernel⟩
abbrev s_init_InvalidRewriting : Stmt := (clsBody (top 5)).getD 0 (.Pass ⟨0, 0, 0, 0⟩)
theorem sc_init_InvalidRewriting : FnScope ["self", "thing"] ["self", "thing"] (defScope s_init_InvalidRewriting) := ⟨rfl, rfl, rfl, by decide +kernel, rfl, by decide +kernel, by decide +kernel⟩
abbrev s_init_InvalidScript : Stmt := (clsBody (top 8)).getD 0 (.Pass ⟨0, 0, 0, 0⟩)
theorem sc_init_InvalidScript : FnScope ["self", "problem"] ["self", "problem"] (defScope s_init_InvalidScript) := ⟨rfl, rfl, rfl, by decide +kernel, rfl, by decide +kernel, by decide +kernel⟩
abbrev s_init_InvalidState : Stmt := (clsBody (top 3)).getD 0 (.Pass ⟨0, 0, 0, 0⟩)
theorem sc_init_InvalidState : FnScope ["self", "thing"] ["self", "thing"] (defScope s_init_InvalidState) := ⟨rfl, rfl, rfl, by decide +kernel, rfl, by decide +kernel, by decide +kernel⟩
abbrev s_init_InvalidTree : Stmt := (clsBody (top 2)).getD 0 (.Pass ⟨0, 0, 0, 0⟩)
theorem sc_init_InvalidTree : FnScope ["self", "thing"] ["self", "thing"] (defScope s_init_InvalidTree) := ⟨rfl, rfl, rfl, by decide +kernel, rfl, by decide +kernel, by decide +kernel⟩
abbrev s_init_Needed : Stmt := (clsBody (top 17)).getD 0 (.Pass ⟨0, 0, 0, 0⟩)
theorem sc_init_Needed : FnScope ["self", "number"] ["self", "number"] (defScope s_init_Needed) := ⟨rfl, rfl, rfl, by decide +kernel, rfl, by decide +kernel, by decide +kernel⟩
abbrev s_init_NoSuchName : Stmt := (clsBody (top 20)).getD 0 (.Pass ⟨0, 0, 0, 0⟩)
theorem sc_init_NoSuchName : FnScope ["self", "name"] ["self", "name"] (defScope s_init_NoSuchName) := ⟨rfl, rfl, rfl, by decide +kernel, rfl, by decide +kernel, by decide +kernel⟩
abbrev s_init_NotOneToOne : Stmt := (clsBody (top 18)).getD 0 (.Pass ⟨0, 0, 0, 0⟩)
theorem sc_init_NotOneToOne : FnScope ["self", "states"] ["self", "states"] (defScope s_init_NotOneToOne) := ⟨rfl, rfl, rfl, by decide +kernel, rfl, by decide +kernel, by decide +kernel⟩
abbrev s_init_Unreadable : Stmt := (clsBody (top 22)).getD 0 (.Pass ⟨0, 0, 0, 0⟩)
theorem sc_init_Unreadable : FnScope ["self", "at"] ["self", "at"] (defScope s_init_Unreadable) := ⟨rfl, rfl, rfl, by decide +kernel, rfl, by decide +kernel, by decide +kernel⟩
theorem cv_Drops {K : PySem.W.Frag} {h : Heap} {mg : Str → Option Value}
  {C_Drops fI_Drops TI_Drops N_Drops CB_Drops : Addr} {nm_Drops qn_Drops : Str} {bs_Drops : List Value} {sn_Drops : List Str} {sub_Drops : List Value} {ab_Drops : Bool} {col_Drops : Option Bool} {dd_Drops : Option Addr} {m0_Drops m1_Drops m2_Drops m3_Drops m5_Drops : Option Value} {odI_Drops anI_Drops odT_Drops : Option Addr} {slI_Drops slT_Drops : Array (Option Value)} {ocI_Drops kVI_Drops dcI_Drops pmI_Drops cdI_Drops ctI_Drops : Value} {nT_Drops : Nat}
  (X : K.In h) (G : h.Ns mainGlobals mg)
  (aC_Drops : PySem.W.nsIn K mainGlobals "Drops" = some (some (.ref C_Drops)))
  (xL_Drops : K.lookup C_Drops = some (excClassObj nm_Drops qn_Drops C_Drops N_Drops bs_Drops [.ref CB_Drops, .type "ValueError", .type "Exception", .type "BaseException", .type "object"] true sn_Drops sub_Drops ab_Drops col_Drops dd_Drops m0_Drops m1_Drops m2_Drops m3_Drops m5_Drops "ValueError.__new__"))
  (sa_Drops : PySem.W.findIn K (.ref C_Drops) "__setattr__" = some (some (.builtin "object.__setattr__")))
  (ga_Drops : PySem.W.findIn K (.ref C_Drops) "__getattribute__" = some (some (.builtin "BaseException.__getattribute__")))
  (gg_Drops : PySem.W.findIn K (.ref C_Drops) "__getattr__" = some none)
  (nb_Drops : PySem.W.findIn K (.ref C_Drops) "number" = some none)
  (ca_Drops : PySem.W.findIn K (.ref C_Drops) "__class__" = some (some (.builtin "object.__class__")))
  (cm_Drops : PySem.W.mroIn K C_Drops (.type "object") = some true)
  (kC_Drops : PySem.W.keepIn K (.ref C_Drops) = true)
  (eC_Drops : PySem.W.subIn K (.ref C_Drops) (.type "BaseException") = some true)
  (tC_Drops : PySem.W.typeIn K (.ref C_Drops) = some (.type "type"))
  (hC_Drops : PySem.W.hasDictIn K C_Drops = true)
  (iC_Drops : PySem.W.findIn K (.ref C_Drops) "__init__" = some (some (.ref fI_Drops)))
  (tI_Drops : PySem.W.typeIn K (.ref fI_Drops) = some (.type "function"))
  (lI_Drops : K.lookup fI_Drops = some ⟨ocI_Drops, odI_Drops, .func (PySem.W.fnOf "__init__" "Drops.__init__" (defArgs s_init_Drops) (defBody s_init_Drops) (defScope s_init_Drops) (.ref TI_Drops) kVI_Drops dcI_Drops pmI_Drops anI_Drops cdI_Drops ctI_Drops), slI_Drops⟩)
  (cI_Drops : PySem.W.codeIn K cdI_Drops "Drops.__init__" = true)
  (kI_Drops : PySem.W.keepIn K (.ref fI_Drops) = true)
  (lT_Drops : K.lookup TI_Drops = some ⟨.type "tuple", odT_Drops, .seq #[.none] nT_Drops, slT_Drops⟩)
  (cn : PySem.W.specialIn K (.builtin "object.__class__") "__get__" = some (some (.builtin "getset_descriptor.__get__")))
  (ct : PySem.W.takesIn K (.builtin "object.__class__") = some true) :
  mg "Drops" = some (.ref C_Drops) ∧ (∀ (P : Program) (w : World) (base : Heap), ErrV P w K mg base fldT 1 "Drops" "number") ∧ ExcC K C_Drops ∧ XfC K C_Drops ∧ PySem.W.findIn K (.ref C_Drops) "number" = some none := by
  have mC_Drops := PySem.W.mg_of X G aC_Drops
  have EC_Drops : ExcC K C_Drops := ⟨ga_Drops, gg_Drops, eC_Drops, hC_Drops, ca_Drops, cn, ct, cm_Drops⟩
  have OC_Drops : OexC K C_Drops := ⟨⟨nm_Drops, qn_Drops, N_Drops, bs_Drops, _, sn_Drops, sub_Drops, ab_Drops, col_Drops, dd_Drops, m0_Drops, m1_Drops, m2_Drops, m3_Drops, m5_Drops, xL_Drops, by rfl⟩, sa_Drops, eC_Drops, tC_Drops, kC_Drops⟩
  have FI_Drops : FunD K "__init__" "Drops.__init__" (defArgs s_init_Drops) (defBody s_init_Drops) (defScope s_init_Drops) [.non] [] fI_Drops _ := ⟨⟨ocI_Drops, odI_Drops, _, kVI_Drops, dcI_Drops, pmI_Drops, anI_Drops, cdI_Drops, ctI_Drops, slI_Drops, rfl, lI_Drops, cI_Drops, .inr ⟨by simp, TI_Drops, _, [.none], nT_Drops, rfl, lT_Drops, rfl, .cons rfl .nil⟩, .inl rfl⟩, kI_Drops⟩
  obtain ⟨ds_Drops, rds_Drops, bI_Drops⟩ := FI_Drops.binds1 (ps := ["self", "number"]) 2 1 (by simp) rfl (fun _ _ _ _ _ _ _ us its h1 h2 => match us, its, h1, h2 with | [_, _], [_], _, _ => ⟨_, rfl, rfl⟩)
  cases rds_Drops
  obtain ⟨de_Drops, rde_Drops, bO_Drops⟩ := FI_Drops.binds1 (ps := ["self", "number"]) 1 0 (by simp) rfl (fun _ _ _ _ _ _ _ us its h1 h2 => match us, its, h1, h2 with | [_], [_], _, _ => ⟨_, rfl, rfl⟩)
  obtain ⟨dz_Drops, rfl, dr_Drops⟩ := vals1 rde_Drops
  cases dr_Drops
  obtain ⟨dk_Drops, bK_Drops⟩ := FI_Drops.kbindsD (ps := ["self", "number"]) 1 ["number"] (fun us _ ws => us ++ ws) (by simp) (fun r1 _ r3 => r1.append r3) (fun _ _ _ _ _ _ _ us its ws h1 h2 h3 => match us, its, ws, h1, h2, h3 with | [_], [_], [_], _, _, _ => ⟨_, rfl, rfl⟩)
  exact ⟨mC_Drops, fun P w base => ⟨⟨C_Drops, fI_Drops, _, _, OC_Drops, iC_Drops, tI_Drops, init_mk FI_Drops sc_init_Drops OC_Drops nb_Drops rfl rfl (by decide) (by decide), fun s v u h => bI_Drops s [v, u] h rfl, fun s v u h => bK_Drops.to s [v] [u] h rfl rfl, fun s v h => bO_Drops s [v] h rfl, mC_Drops⟩, rfl⟩, EC_Drops, ⟨ga_Drops, gg_Drops, eC_Drops, hC_Drops⟩, nb_Drops⟩
theorem cv_Failed {K : PySem.W.Frag} {h : Heap} {mg : Str → Option Value}
  {C_Failed fI_Failed TI_Failed N_Failed CB_Failed : Addr} {nm_Failed qn_Failed : Str} {bs_Failed : List Value} {sn_Failed : List Str} {sub_Failed : List Value} {ab_Failed : Bool} {col_Failed : Option Bool} {dd_Failed : Option Addr} {m0_Failed m1_Failed m2_Failed m3_Failed m5_Failed : Option Value} {odI_Failed anI_Failed odT_Failed : Option Addr} {slI_Failed slT_Failed : Array (Option Value)} {ocI_Failed kVI_Failed dcI_Failed pmI_Failed cdI_Failed ctI_Failed : Value} {nT_Failed : Nat}
  (X : K.In h) (G : h.Ns mainGlobals mg)
  (aC_Failed : PySem.W.nsIn K mainGlobals "Failed" = some (some (.ref C_Failed)))
  (xL_Failed : K.lookup C_Failed = some (excClassObj nm_Failed qn_Failed C_Failed N_Failed bs_Failed [.ref CB_Failed, .type "ValueError", .type "Exception", .type "BaseException", .type "object"] true sn_Failed sub_Failed ab_Failed col_Failed dd_Failed m0_Failed m1_Failed m2_Failed m3_Failed m5_Failed "ValueError.__new__"))
  (sa_Failed : PySem.W.findIn K (.ref C_Failed) "__setattr__" = some (some (.builtin "object.__setattr__")))
  (ga_Failed : PySem.W.findIn K (.ref C_Failed) "__getattribute__" = some (some (.builtin "BaseException.__getattribute__")))
  (gg_Failed : PySem.W.findIn K (.ref C_Failed) "__getattr__" = some none)
  (nb_Failed : PySem.W.findIn K (.ref C_Failed) "name" = some none)
  (ca_Failed : PySem.W.findIn K (.ref C_Failed) "__class__" = some (some (.builtin "object.__class__")))
  (cm_Failed : PySem.W.mroIn K C_Failed (.type "object") = some true)
  (kC_Failed : PySem.W.keepIn K (.ref C_Failed) = true)
  (eC_Failed : PySem.W.subIn K (.ref C_Failed) (.type "BaseException") = some true)
  (tC_Failed : PySem.W.typeIn K (.ref C_Failed) = some (.type "type"))
  (hC_Failed : PySem.W.hasDictIn K C_Failed = true)
  (iC_Failed : PySem.W.findIn K (.ref C_Failed) "__init__" = some (some (.ref fI_Failed)))
  (tI_Failed : PySem.W.typeIn K (.ref fI_Failed) = some (.type "function"))
  (lI_Failed : K.lookup fI_Failed = some ⟨ocI_Failed, odI_Failed, .func (PySem.W.fnOf "__init__" "Failed.__init__" (defArgs s_init_Failed) (defBody s_init_Failed) (defScope s_init_Failed) (.ref TI_Failed) kVI_Failed dcI_Failed pmI_Failed anI_Failed cdI_Failed ctI_Failed), slI_Failed⟩)
  (cI_Failed : PySem.W.codeIn K cdI_Failed "Failed.__init__" = true)
  (kI_Failed : PySem.W.keepIn K (.ref fI_Failed) = true)
  (lT_Failed : K.lookup TI_Failed = some ⟨.type "tuple", odT_Failed, .seq #[.none] nT_Failed, slT_Failed⟩)
  (cn : PySem.W.specialIn K (.builtin "object.__class__") "__get__" = some (some (.builtin "getset_descriptor.__get__")))
  (ct : PySem.W.takesIn K (.builtin "object.__class__") = some true) :
  mg "Failed" = some (.ref C_Failed) ∧ (∀ (P : Program) (w : World) (base : Heap), ErrV P w K mg base fldT 1 "Failed" "name") ∧ ExcC K C_Failed ∧ XfC K C_Failed ∧ PySem.W.findIn K (.ref C_Failed) "name" = some none := by
  have mC_Failed := PySem.W.mg_of X G aC_Failed
  have EC_Failed : ExcC K C_Failed := ⟨ga_Failed, gg_Failed, eC_Failed, hC_Failed, ca_Failed, cn, ct, cm_Failed⟩
  have OC_Failed : OexC K C_Failed := ⟨⟨nm_Failed, qn_Failed, N_Failed, bs_Failed, _, sn_Failed, sub_Failed, ab_Failed, col_Failed, dd_Failed, m0_Failed, m1_Failed, m2_Failed, m3_Failed, m5_Failed, xL_Failed, by rfl⟩, sa_Failed, eC_Failed, tC_Failed, kC_Failed⟩
  have FI_Failed : FunD K "__init__" "Failed.__init__" (defArgs s_init_Failed) (defBody s_init_Failed) (defScope s_init_Failed) [.non] [] fI_Failed _ := ⟨⟨ocI_Failed, odI_Failed, _, kVI_Failed, dcI_Failed, pmI_Failed, anI_Failed, cdI_Failed, ctI_Failed, slI_Failed, rfl, lI_Failed, cI_Failed, .inr ⟨by simp, TI_Failed, _, [.none], nT_Failed, rfl, lT_Failed, rfl, .cons rfl .nil⟩, .inl rfl⟩, kI_Failed⟩
  obtain ⟨ds_Failed, rds_Failed, bI_Failed⟩ := FI_Failed.binds1 (ps := ["self", "name"]) 2 1 (by simp) rfl (fun _ _ _ _ _ _ _ us its h1 h2 => match us, its, h1, h2 with | [_, _], [_], _, _ => ⟨_, rfl, rfl⟩)
  cases rds_Failed
  obtain ⟨de_Failed, rde_Failed, bO_Failed⟩ := FI_Failed.binds1 (ps := ["self", "name"]) 1 0 (by simp) rfl (fun _ _ _ _ _ _ _ us its h1 h2 => match us, its, h1, h2 with | [_], [_], _, _ => ⟨_, rfl, rfl⟩)
  obtain ⟨dz_Failed, rfl, dr_Failed⟩ := vals1 rde_Failed
  cases dr_Failed
  obtain ⟨dk_Failed, bK_Failed⟩ := FI_Failed.kbindsD (ps := ["self", "name"]) 1 ["name"] (fun us _ ws => us ++ ws) (by simp) (fun r1 _ r3 => r1.append r3) (fun _ _ _ _ _ _ _ us its ws h1 h2 h3 => match us, its, ws, h1, h2, h3 with | [_], [_], [_], _, _, _ => ⟨_, rfl, rfl⟩)
  exact ⟨mC_Failed, fun P w base => ⟨⟨C_Failed, fI_Failed, _, _, OC_Failed, iC_Failed, tI_Failed, init_mk FI_Failed sc_init_Failed OC_Failed nb_Failed rfl rfl (by decide) (by decide), fun s v u h => bI_Failed s [v, u] h rfl, fun s v u h => bK_Failed.to s [v] [u] h rfl rfl, fun s v h => bO_Failed s [v] h rfl, mC_Failed⟩, rfl⟩, EC_Failed, ⟨ga_Failed, gg_Failed, eC_Failed, hC_Failed⟩, nb_Failed⟩
theorem cv_InvalidCommand {K : PySem.W.Frag} {h : Heap} {mg : Str → Option Value}
  {C_InvalidCommand fI_InvalidCommand TI_InvalidCommand N_InvalidCommand CB_InvalidCommand : Addr} {nm_InvalidCommand qn_InvalidCommand : Str} {bs_InvalidCommand : List Value} {sn_InvalidCommand : List Str} {sub_InvalidCommand : List Value} {ab_InvalidCommand : Bool} {col_InvalidCommand : Option Bool} {dd_InvalidCommand : Option Addr} {m0_InvalidCommand m1_InvalidCommand m2_InvalidCommand m3_InvalidCommand m5_InvalidCommand : Option Value} {odI_InvalidCommand anI_InvalidCommand odT_InvalidCommand : Option Addr} {slI_InvalidCommand slT_InvalidCommand : Array (Option Value)} {ocI_InvalidCommand kVI_InvalidCommand dcI_InvalidCommand pmI_InvalidCommand cdI_InvalidCommand ctI_InvalidCommand : Value} {nT_InvalidCommand : Nat}
  (X : K.In h) (G : h.Ns mainGlobals mg)
  (aC_InvalidCommand : PySem.W.nsIn K mainGlobals "InvalidCommand" = some (some (.ref C_InvalidCommand)))
  (xL_InvalidCommand : K.lookup C_InvalidCommand = some (excClassObj nm_InvalidCommand qn_InvalidCommand C_InvalidCommand N_InvalidCommand bs_InvalidCommand [.ref CB_InvalidCommand, .type "ValueError", .type "Exception", .type "BaseException", .type "object"] true sn_InvalidCommand sub_InvalidCommand ab_InvalidCommand col_InvalidCommand dd_InvalidCommand m0_InvalidCommand m1_InvalidCommand m2_InvalidCommand m3_InvalidCommand m5_InvalidCommand "ValueError.__new__"))
  (sa_InvalidCommand : PySem.W.findIn K (.ref C_InvalidCommand) "__setattr__" = some (some (.builtin "object.__setattr__")))
  (ga_InvalidCommand : PySem.W.findIn K (.ref C_InvalidCommand) "__getattribute__" = some (some (.builtin "BaseException.__getattribute__")))
  (gg_InvalidCommand : PySem.W.findIn K (.ref C_InvalidCommand) "__getattr__" = some none)
  (nb_InvalidCommand : PySem.W.findIn K (.ref C_InvalidCommand) "thing" = some none)
  (ca_InvalidCommand : PySem.W.findIn K (.ref C_InvalidCommand) "__class__" = some (some (.builtin "object.__class__")))
  (cm_InvalidCommand : PySem.W.mroIn K C_InvalidCommand (.type "object") = some true)
  (kC_InvalidCommand : PySem.W.keepIn K (.ref C_InvalidCommand) = true)
  (eC_InvalidCommand : PySem.W.subIn K (.ref C_InvalidCommand) (.type "BaseException") = some true)
  (tC_InvalidCommand : PySem.W.typeIn K (.ref C_InvalidCommand) = some (.type "type"))
  (hC_InvalidCommand : PySem.W.hasDictIn K C_InvalidCommand = true)
  (iC_InvalidCommand : PySem.W.findIn K (.ref C_InvalidCommand) "__init__" = some (some (.ref fI_InvalidCommand)))
  (tI_InvalidCommand : PySem.W.typeIn K (.ref fI_InvalidCommand) = some (.type "function"))
  (lI_InvalidCommand : K.lookup fI_InvalidCommand = some ⟨ocI_InvalidCommand, odI_InvalidCommand, .func (PySem.W.fnOf "__init__" "InvalidCommand.__init__" (defArgs s_init_InvalidCommand) (defBody s_init_InvalidCommand) (defScope s_init_InvalidCommand) (.ref TI_InvalidCommand) kVI_InvalidCommand dcI_InvalidCommand pmI_InvalidCommand anI_InvalidCommand cdI_InvalidCommand ctI_InvalidCommand), slI_InvalidCommand⟩)
  (cI_InvalidCommand : PySem.W.codeIn K cdI_InvalidCommand "InvalidCommand.__init__" = true)
  (kI_InvalidCommand : PySem.W.keepIn K (.ref fI_InvalidCommand) = true)
  (lT_InvalidCommand : K.lookup TI_InvalidCommand = some ⟨.type "tuple", odT_InvalidCommand, .seq #[.none] nT_InvalidCommand, slT_InvalidCommand⟩)
  (cn : PySem.W.specialIn K (.builtin "object.__class__") "__get__" = some (some (.builtin "getset_descriptor.__get__")))
  (ct : PySem.W.takesIn K (.builtin "object.__class__") = some true) :
  mg "InvalidCommand" = some (.ref C_InvalidCommand) ∧ (∀ (P : Program) (w : World) (base : Heap), ErrV P w K mg base fldT 1 "InvalidCommand" "thing") ∧ ExcC K C_InvalidCommand ∧ XfC K C_InvalidCommand ∧ PySem.W.findIn K (.ref C_InvalidCommand) "thing" = some none := by
  have mC_InvalidCommand := PySem.W.mg_of X G aC_InvalidCommand
  have EC_InvalidCommand : ExcC K C_InvalidCommand := ⟨ga_InvalidCommand, gg_InvalidCommand, eC_InvalidCommand, hC_InvalidCommand, ca_InvalidCommand, cn, ct, cm_InvalidCommand⟩
  have OC_InvalidCommand : OexC K C_InvalidCommand := ⟨⟨nm_InvalidCommand, qn_InvalidCommand, N_InvalidCommand, bs_InvalidCommand, _, sn_InvalidCommand, sub_InvalidCommand, ab_InvalidCommand, col_InvalidCommand, dd_InvalidCommand, m0_InvalidCommand, m1_InvalidCommand, m2_InvalidCommand, m3_InvalidCommand, m5_InvalidCommand, xL_InvalidCommand, by rfl⟩, sa_InvalidCommand, eC_InvalidCommand, tC_InvalidCommand, kC_InvalidCommand⟩
  have FI_InvalidCommand : FunD K "__init__" "InvalidCommand.__init__" (defArgs s_init_InvalidCommand) (defBody s_init_InvalidCommand) (defScope s_init_InvalidCommand) [.non] [] fI_InvalidCommand _ := ⟨⟨ocI_InvalidCommand, odI_InvalidCommand, _, kVI_InvalidCommand, dcI_InvalidCommand, pmI_InvalidCommand, anI_InvalidCommand, cdI_InvalidCommand, ctI_InvalidCommand, slI_InvalidCommand, rfl, lI_InvalidCommand, cI_InvalidCommand, .inr ⟨by simp, TI_InvalidCommand, _, [.none], nT_InvalidCommand, rfl, lT_InvalidCommand, rfl, .cons rfl .nil⟩, .inl rfl⟩, kI_InvalidCommand⟩
  obtain ⟨ds_InvalidCommand, rds_InvalidCommand, bI_InvalidCommand⟩ := FI_InvalidCommand.binds1 (ps := ["self", "thing"]) 2 1 (by simp) rfl (fun _ _ _ _ _ _ _ us its h1 h2 => match us, its, h1, h2 with | [_, _], [_], _, _ => ⟨_, rfl, rfl⟩)
  cases rds_InvalidCommand
  obtain ⟨de_InvalidCommand, rde_InvalidCommand, bO_InvalidCommand⟩ := FI_InvalidCommand.binds1 (ps := ["self", "thing"]) 1 0 (by simp) rfl (fun _ _ _ _ _ _ _ us its h1 h2 => match us, its, h1, h2 with | [_], [_], _, _ => ⟨_, rfl, rfl⟩)
  obtain ⟨dz_InvalidCommand, rfl, dr_InvalidCommand⟩ := vals1 rde_InvalidCommand
  cases dr_InvalidCommand
  obtain ⟨dk_InvalidCommand, bK_InvalidCommand⟩ := FI_InvalidCommand.kbindsD (ps := ["self", "thing"]) 1 ["thing"] (fun us _ ws => us ++ ws) (by simp) (fun r1 _ r3 => r1.append r3) (fun _ _ _ _ _ _ _ us its ws h1 h2 h3 => match us, its, ws, h1, h2, h3 with | [_], [_], [_], _, _, _ => ⟨_, rfl, rfl⟩)
  exact ⟨mC_InvalidCommand, fun P w base => ⟨⟨C_InvalidCommand, fI_InvalidCommand, _, _, OC_InvalidCommand, iC_InvalidCommand, tI_InvalidCommand, init_mk FI_InvalidCommand sc_init_InvalidCommand OC_InvalidCommand nb_InvalidCommand rfl rfl (by decide) (by decide), fun s v u h => bI_InvalidCommand s [v, u] h rfl, fun s v u h => bK_InvalidCommand.to s [v] [u] h rfl rfl, fun s v h => bO_InvalidCommand s [v] h rfl, mC_InvalidCommand⟩, rfl⟩, EC_InvalidCommand, ⟨ga_InvalidCommand, gg_InvalidCommand, eC_InvalidCommand, hC_InvalidCommand⟩, nb_InvalidCommand⟩
theorem cv_InvalidCommands {K : PySem.W.Frag} {h : Heap} {mg : Str → Option Value}
  {C_InvalidCommands fI_InvalidCommands TI_InvalidCommands N_InvalidCommands CB_InvalidCommands : Addr} {nm_InvalidCommands qn_InvalidCommands : Str} {bs_InvalidCommands : List Value} {sn_InvalidCommands : List Str} {sub_InvalidCommands : List Value} {ab_InvalidCommands : Bool} {col_InvalidCommands : Option Bool} {dd_InvalidCommands : Option Addr} {m0_InvalidCommands m1_InvalidCommands m2_InvalidCommands m3_InvalidCommands m5_InvalidCommands : Option Value} {odI_InvalidCommands anI_InvalidCommands odT_InvalidCommands : Option Addr} {slI_InvalidCommands slT_InvalidCommands : Array (Option Value)} {ocI_InvalidCommands kVI_InvalidCommands dcI_InvalidCommands pmI_InvalidCommands cdI_InvalidCommands ctI_InvalidCommands : Value} {nT_InvalidCommands : Nat}
  (X : K.In h) (G : h.Ns mainGlobals mg)
  (aC_InvalidCommands : PySem.W.nsIn K mainGlobals "InvalidCommands" = some (some (.ref C_InvalidCommands)))
  (xL_InvalidCommands : K.lookup C_InvalidCommands = some (excClassObj nm_InvalidCommands qn_InvalidCommands C_InvalidCommands N_InvalidCommands bs_InvalidCommands [.ref CB_InvalidCommands, .type "ValueError", .type "Exception", .type "BaseException", .type "object"] true sn_InvalidCommands sub_InvalidCommands ab_InvalidCommands col_InvalidCommands dd_InvalidCommands m0_InvalidCommands m1_InvalidCommands m2_InvalidCommands m3_InvalidCommands m5_InvalidCommands "ValueError.__new__"))
  (sa_InvalidCommands : PySem.W.findIn K (.ref C_InvalidCommands) "__setattr__" = some (some (.builtin "object.__setattr__")))
  (ga_InvalidCommands : PySem.W.findIn K (.ref C_InvalidCommands) "__getattribute__" = some (some (.builtin "BaseException.__getattribute__")))
  (gg_InvalidCommands : PySem.W.findIn K (.ref C_InvalidCommands) "__getattr__" = some none)
  (nb_InvalidCommands : PySem.W.findIn K (.ref C_InvalidCommands) "place" = some none)
  (ca_InvalidCommands : PySem.W.findIn K (.ref C_InvalidCommands) "__class__" = some (some (.builtin "object.__class__")))
  (cm_InvalidCommands : PySem.W.mroIn K C_InvalidCommands (.type "object") = some true)
  (kC_InvalidCommands : PySem.W.keepIn K (.ref C_InvalidCommands) = true)
  (eC_InvalidCommands : PySem.W.subIn K (.ref C_InvalidCommands) (.type "BaseException") = some true)
  (tC_InvalidCommands : PySem.W.typeIn K (.ref C_InvalidCommands) = some (.type "type"))
  (hC_InvalidCommands : PySem.W.hasDictIn K C_InvalidCommands = true)
  (iC_InvalidCommands : PySem.W.findIn K (.ref C_InvalidCommands) "__init__" = some (some (.ref fI_InvalidCommands)))
  (tI_InvalidCommands : PySem.W.typeIn K (.ref fI_InvalidCommands) = some (.type "function"))
  (lI_InvalidCommands : K.lookup fI_InvalidCommands = some ⟨ocI_InvalidCommands, odI_InvalidCommands, .func (PySem.W.fnOf "__init__" "InvalidCommands.__init__" (defArgs s_init_InvalidCommands) (defBody s_init_InvalidCommands) (defScope s_init_InvalidCommands) (.ref TI_InvalidCommands) kVI_InvalidCommands dcI_InvalidCommands pmI_InvalidCommands anI_InvalidCommands cdI_InvalidCommands ctI_InvalidCommands), slI_InvalidCommands⟩)
  (cI_InvalidCommands : PySem.W.codeIn K cdI_InvalidCommands "InvalidCommands.__init__" = true)
  (kI_InvalidCommands : PySem.W.keepIn K (.ref fI_InvalidCommands) = true)
  (lT_InvalidCommands : K.lookup TI_InvalidCommands = some ⟨.type "tuple", odT_InvalidCommands, .seq #[.none] nT_InvalidCommands, slT_InvalidCommands⟩)
  (cn : PySem.W.specialIn K (.builtin "object.__class__") "__get__" = some (some (.builtin "getset_descriptor.__get__")))
  (ct : PySem.W.takesIn K (.builtin "object.__class__") = some true) :
  mg "InvalidCommands" = some (.ref C_InvalidCommands) ∧ (∀ (P : Program) (w : World) (base : Heap), ErrV P w K mg base fldT 1 "InvalidCommands" "place") ∧ ExcC K C_InvalidCommands ∧ XfC K C_InvalidCommands ∧ PySem.W.findIn K (.ref C_InvalidCommands) "place" = some none := by
  have mC_InvalidCommands := PySem.W.mg_of X G aC_InvalidCommands
  have EC_InvalidCommands : ExcC K C_InvalidCommands := ⟨ga_InvalidCommands, gg_InvalidCommands, eC_InvalidCommands, hC_InvalidCommands, ca_InvalidCommands, cn, ct, cm_InvalidCommands⟩
  have OC_InvalidCommands : OexC K C_InvalidCommands := ⟨⟨nm_InvalidCommands, qn_InvalidCommands, N_InvalidCommands, bs_InvalidCommands, _, sn_InvalidCommands, sub_InvalidCommands, ab_InvalidCommands, col_InvalidCommands, dd_InvalidCommands, m0_InvalidCommands, m1_InvalidCommands, m2_InvalidCommands, m3_InvalidCommands, m5_InvalidCommands, xL_InvalidCommands, by rfl⟩, sa_InvalidCommands, eC_InvalidCommands, tC_InvalidCommands, kC_InvalidCommands⟩
  have FI_InvalidCommands : FunD K "__init__" "InvalidCommands.__init__" (defArgs s_init_InvalidCommands) (defBody s_init_InvalidCommands) (defScope s_init_InvalidCommands) [.non] [] fI_InvalidCommands _ := ⟨⟨ocI_InvalidCommands, odI_InvalidCommands, _, kVI_InvalidCommands, dcI_InvalidCommands, pmI_InvalidCommands, anI_InvalidCommands, cdI_InvalidCommands, ctI_InvalidCommands, slI_InvalidCommands, rfl, lI_InvalidCommands, cI_InvalidCommands, .inr ⟨by simp, TI_InvalidCommands, _, [.none], nT_InvalidCommands, rfl, lT_InvalidCommands, rfl, .cons rfl .nil⟩, .inl rfl⟩, kI_InvalidCommands⟩
  obtain ⟨ds_InvalidCommands, rds_InvalidCommands, bI_InvalidCommands⟩ := FI_InvalidCommands.binds1 (ps := ["self", "place"]) 2 1 (by simp) rfl (fun _ _ _ _ _ _ _ us its h1 h2 => match us, its, h1, h2 with | [_, _], [_], _, _ => ⟨_, rfl, rfl⟩)
  cases rds_InvalidCommands
  obtain ⟨de_InvalidCommands, rde_InvalidCommands, bO_InvalidCommands⟩ := FI_InvalidCommands.binds1 (ps := ["self", "place"]) 1 0 (by simp) rfl (fun _ _ _ _ _ _ _ us its h1 h2 => match us, its, h1, h2 with | [_], [_], _, _ => ⟨_, rfl, rfl⟩)
  obtain ⟨dz_InvalidCommands, rfl, dr_InvalidCommands⟩ := vals1 rde_InvalidCommands
  cases dr_InvalidCommands
  obtain ⟨dk_InvalidCommands, bK_InvalidCommands⟩ := FI_InvalidCommands.kbindsD (ps := ["self", "place"]) 1 ["place"] (fun us _ ws => us ++ ws) (by simp) (fun r1 _ r3 => r1.append r3) (fun _ _ _ _ _ _ _ us its ws h1 h2 h3 => match us, its, ws, h1, h2, h3 with | [_], [_], [_], _, _, _ => ⟨_, rfl, rfl⟩)
  exact ⟨mC_InvalidCommands, fun P w base => ⟨⟨C_InvalidCommands, fI_InvalidCommands, _, _, OC_InvalidCommands, iC_InvalidCommands, tI_InvalidCommands, init_mk FI_InvalidCommands sc_init_InvalidCommands OC_InvalidCommands nb_InvalidCommands rfl rfl (by decide) (by decide), fun s v u h => bI_InvalidCommands s [v, u] h rfl, fun s v u h => bK_InvalidCommands.to s [v] [u] h rfl rfl, fun s v h => bO_InvalidCommands s [v] h rfl, mC_InvalidCommands⟩, rfl⟩, EC_InvalidCommands, ⟨ga_InvalidCommands, gg_InvalidCommands, eC_InvalidCommands, hC_InvalidCommands⟩, nb_InvalidCommands⟩
theorem cv_InvalidCount {K : PySem.W.Frag} {h : Heap} {mg : Str → Option Value}
  {C_InvalidCount fI_InvalidCount TI_InvalidCount N_InvalidCount CB_InvalidCount : Addr} {nm_InvalidCount qn_InvalidCount : Str} {bs_InvalidCount : List Value} {sn_InvalidCount : List Str} {sub_InvalidCount : List Value} {ab_InvalidCount : Bool} {col_InvalidCount : Option Bool} {dd_InvalidCount : Option Addr} {m0_InvalidCount m1_InvalidCount m2_InvalidCount m3_InvalidCount m5_InvalidCount : Option Value} {odI_InvalidCount anI_InvalidCount odT_InvalidCount : Option Addr} {slI_InvalidCount slT_InvalidCount : Array (Option Value)} {ocI_InvalidCount kVI_InvalidCount dcI_InvalidCount pmI_InvalidCount cdI_InvalidCount ctI_InvalidCount : Value} {nT_InvalidCount : Nat}
  (X : K.In h) (G : h.Ns mainGlobals mg)
  (aC_InvalidCount : PySem.W.nsIn K mainGlobals "InvalidCount" = some (some (.ref C_InvalidCount)))
  (xL_InvalidCount : K.lookup C_InvalidCount = some (excClassObj nm_InvalidCount qn_InvalidCount C_InvalidCount N_InvalidCount bs_InvalidCount [.ref CB_InvalidCount, .type "ValueError", .type "Exception", .type "BaseException", .type "object"] true sn_InvalidCount sub_InvalidCount ab_InvalidCount col_InvalidCount dd_InvalidCount m0_InvalidCount m1_InvalidCount m2_InvalidCount m3_InvalidCount m5_InvalidCount "ValueError.__new__"))
  (sa_InvalidCount : PySem.W.findIn K (.ref C_InvalidCount) "__setattr__" = some (some (.builtin "object.__setattr__")))
  (ga_InvalidCount : PySem.W.findIn K (.ref C_InvalidCount) "__getattribute__" = some (some (.builtin "BaseException.__getattribute__")))
  (gg_InvalidCount : PySem.W.findIn K (.ref C_InvalidCount) "__getattr__" = some none)
  (nb_InvalidCount : PySem.W.findIn K (.ref C_InvalidCount) "most" = some none)
  (ca_InvalidCount : PySem.W.findIn K (.ref C_InvalidCount) "__class__" = some (some (.builtin "object.__class__")))
  (cm_InvalidCount : PySem.W.mroIn K C_InvalidCount (.type "object") = some true)
  (kC_InvalidCount : PySem.W.keepIn K (.ref C_InvalidCount) = true)
  (eC_InvalidCount : PySem.W.subIn K (.ref C_InvalidCount) (.type "BaseException") = some true)
  (tC_InvalidCount : PySem.W.typeIn K (.ref C_InvalidCount) = some (.type "type"))
  (hC_InvalidCount : PySem.W.hasDictIn K C_InvalidCount = true)
  (iC_InvalidCount : PySem.W.findIn K (.ref C_InvalidCount) "__init__" = some (some (.ref fI_InvalidCount)))
  (tI_InvalidCount : PySem.W.typeIn K (.ref fI_InvalidCount) = some (.type "function"))
  (lI_InvalidCount : K.lookup fI_InvalidCount = some ⟨ocI_InvalidCount, odI_InvalidCount, .func (PySem.W.fnOf "__init__" "InvalidCount.__init__" (defArgs s_init_InvalidCount) (defBody s_init_InvalidCount) (defScope s_init_InvalidCount) (.ref TI_InvalidCount) kVI_InvalidCount dcI_InvalidCount pmI_InvalidCount anI_InvalidCount cdI_InvalidCount ctI_InvalidCount), slI_InvalidCount⟩)
  (cI_InvalidCount : PySem.W.codeIn K cdI_InvalidCount "InvalidCount.__init__" = true)
  (kI_InvalidCount : PySem.W.keepIn K (.ref fI_InvalidCount) = true)
  (lT_InvalidCount : K.lookup TI_InvalidCount = some ⟨.type "tuple", odT_InvalidCount, .seq #[.none] nT_InvalidCount, slT_InvalidCount⟩)
  (cn : PySem.W.specialIn K (.builtin "object.__class__") "__get__" = some (some (.builtin "getset_descriptor.__get__")))
  (ct : PySem.W.takesIn K (.builtin "object.__class__") = some true) :
  mg "InvalidCount" = some (.ref C_InvalidCount) ∧ (∀ (P : Program) (w : World) (base : Heap), ErrV P w K mg base fldT 1 "InvalidCount" "most") ∧ ExcC K C_InvalidCount ∧ XfC K C_InvalidCount ∧ PySem.W.findIn K (.ref C_InvalidCount) "most" = some none := by
  have mC_InvalidCount := PySem.W.mg_of X G aC_InvalidCount
  have EC_InvalidCount : ExcC K C_InvalidCount := ⟨ga_InvalidCount, gg_InvalidCount, eC_InvalidCount, hC_InvalidCount, ca_InvalidCount, cn, ct, cm_InvalidCount⟩
  have OC_InvalidCount : OexC K C_InvalidCount := ⟨⟨nm_InvalidCount, qn_InvalidCount, N_InvalidCount, bs_InvalidCount, _, sn_InvalidCount, sub_InvalidCount, ab_InvalidCount, col_InvalidCount, dd_InvalidCount, m0_InvalidCount, m1_InvalidCount, m2_InvalidCount, m3_InvalidCount, m5_InvalidCount, xL_InvalidCount, by rfl⟩, sa_InvalidCount, eC_InvalidCount, tC_InvalidCount, kC_InvalidCount⟩
  have FI_InvalidCount : FunD K "__init__" "InvalidCount.__init__" (defArgs s_init_InvalidCount) (defBody s_init_InvalidCount) (defScope s_init_InvalidCount) [.non] [] fI_InvalidCount _ := ⟨⟨ocI_InvalidCount, odI_InvalidCount, _, kVI_InvalidCount, dcI_InvalidCount, pmI_InvalidCount, anI_InvalidCount, cdI_InvalidCount, ctI_InvalidCount, slI_InvalidCount, rfl, lI_InvalidCount, cI_InvalidCount, .inr ⟨by simp, TI_InvalidCount, _, [.none], nT_InvalidCount, rfl, lT_InvalidCount, rfl, .cons rfl .nil⟩, .inl rfl⟩, kI_InvalidCount⟩
  obtain ⟨ds_InvalidCount, rds_InvalidCount, bI_InvalidCount⟩ := FI_InvalidCount.binds1 (ps := ["self", "most"]) 2 1 (by simp) rfl (fun _ _ _ _ _ _ _ us its h1 h2 => match us, its, h1, h2 with | [_, _], [_], _, _ => ⟨_, rfl, rfl⟩)
  cases rds_InvalidCount
  obtain ⟨de_InvalidCount, rde_InvalidCount, bO_InvalidCount⟩ := FI_InvalidCount.binds1 (ps := ["self", "most"]) 1 0 (by simp) rfl (fun _ _ _ _ _ _ _ us its h1 h2 => match us, its, h1, h2 with | [_], [_], _, _ => ⟨_, rfl, rfl⟩)
  obtain ⟨dz_InvalidCount, rfl, dr_InvalidCount⟩ := vals1 rde_InvalidCount
  cases dr_InvalidCount
  obtain ⟨dk_InvalidCount, bK_InvalidCount⟩ := FI_InvalidCount.kbindsD (ps := ["self", "most"]) 1 ["most"] (fun us _ ws => us ++ ws) (by simp) (fun r1 _ r3 => r1.append r3) (fun _ _ _ _ _ _ _ us its ws h1 h2 h3 => match us, its, ws, h1, h2, h3 with | [_], [_], [_], _, _, _ => ⟨_, rfl, rfl⟩)
  exact ⟨mC_InvalidCount, fun P w base => ⟨⟨C_InvalidCount, fI_InvalidCount, _, _, OC_InvalidCount, iC_InvalidCount, tI_InvalidCount, init_mk FI_InvalidCount sc_init_InvalidCount OC_InvalidCount nb_InvalidCount rfl rfl (by decide) (by decide), fun s v u h => bI_InvalidCount s [v, u] h rfl, fun s v u h => bK_InvalidCount.to s [v] [u] h rfl rfl, fun s v h => bO_InvalidCount s [v] h rfl, mC_InvalidCount⟩, rfl⟩, EC_InvalidCount, ⟨ga_InvalidCount, gg_InvalidCount, eC_InvalidCount, hC_InvalidCount⟩, nb_InvalidCount⟩
theorem cv_InvalidFilling {K : PySem.W.Frag} {h : Heap} {mg : Str → Option Value}
  {C_InvalidFilling fI_InvalidFilling TI_InvalidFilling N_InvalidFilling CB_InvalidFilling : Addr} {nm_InvalidFilling qn_InvalidFilling : Str} {bs_InvalidFilling : List Value} {sn_InvalidFilling : List Str} {sub_InvalidFilling : List Value} {ab_InvalidFilling : Bool} {col_InvalidFilling : Option Bool} {dd_InvalidFilling : Option Addr} {m0_InvalidFilling m1_InvalidFilling m2_InvalidFilling m3_InvalidFilling m5_InvalidFilling : Option Value} {odI_InvalidFilling anI_InvalidFilling odT_InvalidFilling : Option Addr} {slI_InvalidFilling slT_InvalidFilling : Array (Option Value)} {ocI_InvalidFilling kVI_InvalidFilling dcI_InvalidFilling pmI_InvalidFilling cdI_InvalidFilling ctI_InvalidFilling : Value} {nT_InvalidFilling : Nat}
  (X : K.In h) (G : h.Ns mainGlobals mg)
  (aC_InvalidFilling : PySem.W.nsIn K mainGlobals "InvalidFilling" = some (some (.ref C_InvalidFilling)))
  (xL_InvalidFilling : K.lookup C_InvalidFilling = some (excClassObj nm_InvalidFilling qn_InvalidFilling C_InvalidFilling N_InvalidFilling bs_InvalidFilling [.ref CB_InvalidFilling, .type "ValueError", .type "Exception", .type "BaseException", .type "object"] true sn_InvalidFilling sub_InvalidFilling ab_InvalidFilling col_InvalidFilling dd_InvalidFilling m0_InvalidFilling m1_InvalidFilling m2_InvalidFilling m3_InvalidFilling m5_InvalidFilling "ValueError.__new__"))
  (sa_InvalidFilling : PySem.W.findIn K (.ref C_InvalidFilling) "__setattr__" = some (some (.builtin "object.__setattr__")))
  (ga_InvalidFilling : PySem.W.findIn K (.ref C_InvalidFilling) "__getattribute__" = some (some (.builtin "BaseException.__getattribute__")))
  (gg_InvalidFilling : PySem.W.findIn K (.ref C_InvalidFilling) "__getattr__" = some none)
  (nb_InvalidFilling : PySem.W.findIn K (.ref C_InvalidFilling) "thing" = some none)
  (ca_InvalidFilling : PySem.W.findIn K (.ref C_InvalidFilling) "__class__" = some (some (.builtin "object.__class__")))
  (cm_InvalidFilling : PySem.W.mroIn K C_InvalidFilling (.type "object") = some true)
  (kC_InvalidFilling : PySem.W.keepIn K (.ref C_InvalidFilling) = true)
  (eC_InvalidFilling : PySem.W.subIn K (.ref C_InvalidFilling) (.type "BaseException") = some true)
  (tC_InvalidFilling : PySem.W.typeIn K (.ref C_InvalidFilling) = some (.type "type"))
  (hC_InvalidFilling : PySem.W.hasDictIn K C_InvalidFilling = true)
  (iC_InvalidFilling : PySem.W.findIn K (.ref C_InvalidFilling) "__init__" = some (some (.ref fI_InvalidFilling)))
  (tI_InvalidFilling : PySem.W.typeIn K (.ref fI_InvalidFilling) = some (.type "function"))
  (lI_InvalidFilling : K.lookup fI_InvalidFilling = some ⟨ocI_InvalidFilling, odI_InvalidFilling, .func (PySem.W.fnOf "__init__" "InvalidFilling.__init__" (defArgs s_init_InvalidFilling) (defBody s_init_InvalidFilling) (defScope s_init_InvalidFilling) (.ref TI_InvalidFilling) kVI_InvalidFilling dcI_InvalidFilling pmI_InvalidFilling anI_InvalidFilling cdI_InvalidFilling ctI_InvalidFilling), slI_InvalidFilling⟩)
  (cI_InvalidFilling : PySem.W.codeIn K cdI_InvalidFilling "InvalidFilling.__init__" = true)
  (kI_InvalidFilling : PySem.W.keepIn K (.ref fI_InvalidFilling) = true)
  (lT_InvalidFilling : K.lookup TI_InvalidFilling = some ⟨.type "tuple", odT_InvalidFilling, .seq #[.none] nT_InvalidFilling, slT_InvalidFilling⟩)
  (cn : PySem.W.specialIn K (.builtin "object.__class__") "__get__" = some (some (.builtin "getset_descriptor.__get__")))
  (ct : PySem.W.takesIn K (.builtin "object.__class__") = some true) :
  mg "InvalidFilling" = some (.ref C_InvalidFilling) ∧ (∀ (P : Program) (w : World) (base : Heap), ErrV P w K mg base fldT 1 "InvalidFilling" "thing") ∧ ExcC K C_InvalidFilling ∧ XfC K C_InvalidFilling ∧ PySem.W.findIn K (.ref C_InvalidFilling) "thing" = some none := by
  have mC_InvalidFilling := PySem.W.mg_of X G aC_InvalidFilling
  have EC_InvalidFilling : ExcC K C_InvalidFilling := ⟨ga_InvalidFilling, gg_InvalidFilling, eC_InvalidFilling, hC_InvalidFilling, ca_InvalidFilling, cn, ct, cm_InvalidFilling⟩
  have OC_InvalidFilling : OexC K C_InvalidFilling := ⟨⟨nm_InvalidFilling, qn_InvalidFilling, N_InvalidFilling, bs_InvalidFilling, _, sn_InvalidFilling, sub_InvalidFilling, ab_InvalidFilling, col_InvalidFilling, dd_InvalidFilling, m0_InvalidFilling, m1_InvalidFilling, m2_InvalidFilling, m3_InvalidFilling, m5_InvalidFilling, xL_InvalidFilling, by rfl⟩, sa_InvalidFilling, eC_InvalidFilling, tC_InvalidFilling, kC_InvalidFilling⟩
  have FI_InvalidFilling : FunD K "__init__" "InvalidFilling.__init__" (defArgs s_init_InvalidFilling) (defBody s_init_InvalidFilling) (defScope s_init_InvalidFilling) [.non] [] fI_InvalidFilling _ := ⟨⟨ocI_InvalidFilling, odI_InvalidFilling, _, kVI_InvalidFilling, dcI_InvalidFilling, pmI_InvalidFilling, anI_InvalidFilling, cdI_InvalidFilling, ctI_InvalidFilling, slI_InvalidFilling, rfl, lI_InvalidFilling, cI_InvalidFilling, .inr ⟨by simp, TI_InvalidFilling, _, [.none], nT_InvalidFilling, rfl, lT_InvalidFilling, rfl, .cons rfl .nil⟩, .inl rfl⟩, kI_InvalidFilling⟩
  obtain ⟨ds_InvalidFilling, rds_InvalidFilling, bI_InvalidFilling⟩ := FI_InvalidFilling.binds1 (ps := ["self", "thing"]) 2 1 (by simp) rfl (fun _ _ _ _ _ _ _ us its h1 h2 => match us, its, h1, h2 with | [_, _], [_], _, _ => ⟨_, rfl, rfl⟩)
  cases rds_InvalidFilling
  obtain ⟨de_InvalidFilling, rde_InvalidFilling, bO_InvalidFilling⟩ := FI_InvalidFilling.binds1 (ps := ["self", "thing"]) 1 0 (by simp) rfl (fun _ _ _ _ _ _ _ us its h1 h2 => match us, its, h1, h2 with | [_], [_], _, _ => ⟨_, rfl, rfl⟩)
  obtain ⟨dz_InvalidFilling, rfl, dr_InvalidFilling⟩ := vals1 rde_InvalidFilling
  cases dr_InvalidFilling
  obtain ⟨dk_InvalidFilling, bK_InvalidFilling⟩ := FI_InvalidFilling.kbindsD (ps := ["self", "thing"]) 1 ["thing"] (fun us _ ws => us ++ ws) (by simp) (fun r1 _ r3 => r1.append r3) (fun _ _ _ _ _ _ _ us its ws h1 h2 h3 => match us, its, ws, h1, h2, h3 with | [_], [_], [_], _, _, _ => ⟨_, rfl, rfl⟩)
  exact ⟨mC_InvalidFilling, fun P w base => ⟨⟨C_InvalidFilling, fI_InvalidFilling, _, _, OC_InvalidFilling, iC_InvalidFilling, tI_InvalidFilling, init_mk FI_InvalidFilling sc_init_InvalidFilling OC_InvalidFilling nb_InvalidFilling rfl rfl (by decide) (by decide), fun s v u h => bI_InvalidFilling s [v, u] h rfl, fun s v u h => bK_InvalidFilling.to s [v] [u] h rfl rfl, fun s v h => bO_InvalidFilling s [v] h rfl, mC_InvalidFilling⟩, rfl⟩, EC_InvalidFilling, ⟨ga_InvalidFilling, gg_InvalidFilling, eC_InvalidFilling, hC_InvalidFilling⟩, nb_InvalidFilling⟩
theorem cv_InvalidLabels {K : PySem.W.Frag} {h : Heap} {mg : Str → Option Value}
  {C_InvalidLabels fI_InvalidLabels TI_InvalidLabels N_InvalidLabels CB_InvalidLabels : Addr} {nm_InvalidLabels qn_InvalidLabels : Str} {bs_InvalidLabels : List Value} {sn_InvalidLabels : List Str} {sub_InvalidLabels : List Value} {ab_InvalidLabels : Bool} {col_InvalidLabels : Option Bool} {dd_InvalidLabels : Option Addr} {m0_InvalidLabels m1_InvalidLabels m2_InvalidLabels m3_InvalidLabels m5_InvalidLabels : Option Value} {odI_InvalidLabels anI_InvalidLabels odT_InvalidLabels : Option Addr} {slI_InvalidLabels slT_InvalidLabels : Array (Option Value)} {ocI_InvalidLabels kVI_InvalidLabels dcI_InvalidLabels pmI_InvalidLabels cdI_InvalidLabels ctI_InvalidLabels : Value} {nT_InvalidLabels : Nat}
  (X : K.In h) (G : h.Ns mainGlobals mg)
  (aC_InvalidLabels : PySem.W.nsIn K mainGlobals "InvalidLabels" = some (some (.ref C_InvalidLabels)))
  (xL_InvalidLabels : K.lookup C_InvalidLabels = some (excClassObj nm_InvalidLabels qn_InvalidLabels C_InvalidLabels N_InvalidLabels bs_InvalidLabels [.ref CB_InvalidLabels, .type "ValueError", .type "Exception", .type "BaseException", .type "object"] true sn_InvalidLabels sub_InvalidLabels ab_InvalidLabels col_InvalidLabels dd_InvalidLabels m0_InvalidLabels m1_InvalidLabels m2_InvalidLabels m3_InvalidLabels m5_InvalidLabels "ValueError.__new__"))
  (sa_InvalidLabels : PySem.W.findIn K (.ref C_InvalidLabels) "__setattr__" = some (some (.builtin "object.__setattr__")))
  (ga_InvalidLabels : PySem.W.findIn K (.ref C_InvalidLabels) "__getattribute__" = some (some (.builtin "BaseException.__getattribute__")))
  (gg_InvalidLabels : PySem.W.findIn K (.ref C_InvalidLabels) "__getattr__" = some none)
  (nb_InvalidLabels : PySem.W.findIn K (.ref C_InvalidLabels) "thing" = some none)
  (ca_InvalidLabels : PySem.W.findIn K (.ref C_InvalidLabels) "__class__" = some (some (.builtin "object.__class__")))
  (cm_InvalidLabels : PySem.W.mroIn K C_InvalidLabels (.type "object") = some true)
  (kC_InvalidLabels : PySem.W.keepIn K (.ref C_InvalidLabels) = true)
  (eC_InvalidLabels : PySem.W.subIn K (.ref C_InvalidLabels) (.type "BaseException") = some true)
  (tC_InvalidLabels : PySem.W.typeIn K (.ref C_InvalidLabels) = some (.type "type"))
  (hC_InvalidLabels : PySem.W.hasDictIn K C_InvalidLabels = true)
  (iC_InvalidLabels : PySem.W.findIn K (.ref C_InvalidLabels) "__init__" = some (some (.ref fI_InvalidLabels)))
  (tI_InvalidLabels : PySem.W.typeIn K (.ref fI_InvalidLabels) = some (.type "function"))
  (lI_InvalidLabels : K.lookup fI_InvalidLabels = some ⟨ocI_InvalidLabels, odI_InvalidLabels, .func (PySem.W.fnOf "__init__" "InvalidLabels.__init__" (defArgs s_init_InvalidLabels) (defBody s_init_InvalidLabels) (defScope s_init_InvalidLabels) (.ref TI_InvalidLabels) kVI_InvalidLabels dcI_InvalidLabels pmI_InvalidLabels anI_InvalidLabels cdI_InvalidLabels ctI_InvalidLabels), slI_InvalidLabels⟩)
  (cI_InvalidLabels : PySem.W.codeIn K cdI_InvalidLabels "InvalidLabels.__init__" = true)
  (kI_InvalidLabels : PySem.W.keepIn K (.ref fI_InvalidLabels) = true)
  (lT_InvalidLabels : K.lookup TI_InvalidLabels = some ⟨.type "tuple", odT_InvalidLabels, .seq #[.none] nT_InvalidLabels, slT_InvalidLabels⟩)
  (cn : PySem.W.specialIn K (.builtin "object.__class__") "__get__" = some (some (.builtin "getset_descriptor.__get__")))
  (ct : PySem.W.takesIn K (.builtin "object.__class__") = some true) :
  mg "InvalidLabels" = some (.ref C_InvalidLabels) ∧ (∀ (P : Program) (w : World) (base : Heap), ErrV P w K mg base fldT 1 "InvalidLabels" "thing") ∧ ExcC K C_InvalidLabels ∧ XfC K C_InvalidLabels ∧ PySem.W.findIn K (.ref C_InvalidLabels) "thing" = some none := by
  have mC_InvalidLabels := PySem.W.mg_of X G aC_InvalidLabels
  have EC_InvalidLabels : ExcC K C_InvalidLabels := ⟨ga_InvalidLabels, gg_InvalidLabels, eC_InvalidLabels, hC_InvalidLabels, ca_InvalidLabels, cn, ct, cm_InvalidLabels⟩
  have OC_InvalidLabels : OexC K C_InvalidLabels := ⟨⟨nm_InvalidLabels, qn_InvalidLabels, N_InvalidLabels, bs_InvalidLabels, _, sn_InvalidLabels, sub_InvalidLabels, ab_InvalidLabels, col_InvalidLabels, dd_InvalidLabels, m0_InvalidLabels, m1_InvalidLabels, m2_InvalidLabels, m3_InvalidLabels, m5_InvalidLabels, xL_InvalidLabels, by rfl⟩, sa_InvalidLabels, eC_InvalidLabels, tC_InvalidLabels, kC_InvalidLabels⟩
  have FI_InvalidLabels : FunD K "__init__" "InvalidLabels.__init__" (defArgs s_init_InvalidLabels) (defBody s_init_InvalidLabels) (defScope s_init_InvalidLabels) [.non] [] fI_InvalidLabels _ := ⟨⟨ocI_InvalidLabels, odI_InvalidLabels, _, kVI_InvalidLabels, dcI_InvalidLabels, pmI_InvalidLabels, anI_InvalidLabels, cdI_InvalidLabels, ctI_InvalidLabels, slI_InvalidLabels, rfl, lI_InvalidLabels, cI_InvalidLabels, .inr ⟨by simp, TI_InvalidLabels, _, [.none], nT_InvalidLabels, rfl, lT_InvalidLabels, rfl, .cons rfl .nil⟩, .inl rfl⟩, kI_InvalidLabels⟩
  obtain ⟨ds_InvalidLabels, rds_InvalidLabels, bI_InvalidLabels⟩ := FI_InvalidLabels.binds1 (ps := ["self", "thing"]) 2 1 (by simp) rfl (fun _ _ _ _ _ _ _ us its h1 h2 => match us, its, h1, h2 with | [_, _], [_], _, _ => ⟨_, rfl, rfl⟩)
  cases rds_InvalidLabels
  obtain ⟨de_InvalidLabels, rde_InvalidLabels, bO_InvalidLabels⟩ := FI_InvalidLabels.binds1 (ps := ["self", "thing"]) 1 0 (by simp) rfl (fun _ _ _ _ _ _ _ us its h1 h2 => match us, its, h1, h2 with | [_], [_], _, _ => ⟨_, rfl, rfl⟩)
  obtain ⟨dz_InvalidLabels, rfl, dr_InvalidLabels⟩ := vals1 rde_InvalidLabels
  cases dr_InvalidLabels
  obtain ⟨dk_InvalidLabels, bK_InvalidLabels⟩ := FI_InvalidLabels.kbindsD (ps := ["self", "thing"]) 1 ["thing"] (fun us _ ws => us ++ ws) (by simp) (fun r1 _ r3 => r1.append r3) (fun _ _ _ _ _ _ _ us its ws h1 h2 h3 => match us, its, ws, h1, h2, h3 with | [_], [_], [_], _, _, _ => ⟨_, rfl, rfl⟩)
  exact ⟨mC_InvalidLabels, fun P w base => ⟨⟨C_InvalidLabels, fI_InvalidLabels, _, _, OC_InvalidLabels, iC_InvalidLabels, tI_InvalidLabels, init_mk FI_InvalidLabels sc_init_InvalidLabels OC_InvalidLabels nb_InvalidLabels rfl rfl (by decide) (by decide), fun s v u h => bI_InvalidLabels s [v, u] h rfl, fun s v u h => bK_InvalidLabels.to s [v] [u] h rfl rfl, fun s v h => bO_InvalidLabels s [v] h rfl, mC_InvalidLabels⟩, rfl⟩, EC_InvalidLabels, ⟨ga_InvalidLabels, gg_InvalidLabels, eC_InvalidLabels, hC_InvalidLabels⟩, nb_InvalidLabels⟩
theorem cv_InvalidLikeness {K : PySem.W.Frag} {h : Heap} {mg : Str → Option Value}
  {C_InvalidLikeness fI_InvalidLikeness TI_InvalidLikeness N_InvalidLikeness CB_InvalidLikeness : Addr} {nm_InvalidLikeness qn_InvalidLikeness : Str} {bs_InvalidLikeness : List Value} {sn_InvalidLikeness : List Str} {sub_InvalidLikeness : List Value} {ab_InvalidLikeness : Bool} {col_InvalidLikeness : Option Bool} {dd_InvalidLikeness : Option Addr} {m0_InvalidLikeness m1_InvalidLikeness m2_InvalidLikeness m3_InvalidLikeness m5_InvalidLikeness : Option Value} {odI_InvalidLikeness anI_InvalidLikeness odT_InvalidLikeness : Option Addr} {slI_InvalidLikeness slT_InvalidLikeness : Array (Option Value)} {ocI_InvalidLikeness kVI_InvalidLikeness dcI_InvalidLikeness pmI_InvalidLikeness cdI_InvalidLikeness ctI_InvalidLikeness : Value} {nT_InvalidLikeness : Nat}
  (X : K.In h) (G : h.Ns mainGlobals mg)
  (aC_InvalidLikeness : PySem.W.nsIn K mainGlobals "InvalidLikeness" = some (some (.ref C_InvalidLikeness)))
  (xL_InvalidLikeness : K.lookup C_InvalidLikeness = some (excClassObj nm_InvalidLikeness qn_InvalidLikeness C_InvalidLikeness N_InvalidLikeness bs_InvalidLikeness [.ref CB_InvalidLikeness, .type "ValueError", .type "Exception", .type "BaseException", .type "object"] true sn_InvalidLikeness sub_InvalidLikeness ab_InvalidLikeness col_InvalidLikeness dd_InvalidLikeness m0_InvalidLikeness m1_InvalidLikeness m2_InvalidLikeness m3_InvalidLikeness m5_InvalidLikeness "ValueError.__new__"))
  (sa_InvalidLikeness : PySem.W.findIn K (.ref C_InvalidLikeness) "__setattr__" = some (some (.builtin "object.__setattr__")))
  (ga_InvalidLikeness : PySem.W.findIn K (.ref C_InvalidLikeness) "__getattribute__" = some (some (.builtin "BaseException.__getattribute__")))
  (gg_InvalidLikeness : PySem.W.findIn K (.ref C_InvalidLikeness) "__getattr__" = some none)
  (nb_InvalidLikeness : PySem.W.findIn K (.ref C_InvalidLikeness) "likeness" = some none)
  (ca_InvalidLikeness : PySem.W.findIn K (.ref C_InvalidLikeness) "__class__" = some (some (.builtin "object.__class__")))
  (cm_InvalidLikeness : PySem.W.mroIn K C_InvalidLikeness (.type "object") = some true)
  (kC_InvalidLikeness : PySem.W.keepIn K (.ref C_InvalidLikeness) = true)
  (eC_InvalidLikeness : PySem.W.subIn K (.ref C_InvalidLikeness) (.type "BaseException") = some true)
  (tC_InvalidLikeness : PySem.W.typeIn K (.ref C_InvalidLikeness) = some (.type "type"))
  (hC_InvalidLikeness : PySem.W.hasDictIn K C_InvalidLikeness = true)
  (iC_InvalidLikeness : PySem.W.findIn K (.ref C_InvalidLikeness) "__init__" = some (some (.ref fI_InvalidLikeness)))
  (tI_InvalidLikeness : PySem.W.typeIn K (.ref fI_InvalidLikeness) = some (.type "function"))
  (lI_InvalidLikeness : K.lookup fI_InvalidLikeness = some ⟨ocI_InvalidLikeness, odI_InvalidLikeness, .func (PySem.W.fnOf "__init__" "InvalidLikeness.__init__" (defArgs s_init_InvalidLikeness) (defBody s_init_InvalidLikeness) (defScope s_init_InvalidLikeness) (.ref TI_InvalidLikeness) kVI_InvalidLikeness dcI_InvalidLikeness pmI_InvalidLikeness anI_InvalidLikeness cdI_InvalidLikeness ctI_InvalidLikeness), slI_InvalidLikeness⟩)
  (cI_InvalidLikeness : PySem.W.codeIn K cdI_InvalidLikeness "InvalidLikeness.__init__" = true)
  (kI_InvalidLikeness : PySem.W.keepIn K (.ref fI_InvalidLikeness) = true)
  (lT_InvalidLikeness : K.lookup TI_InvalidLikeness = some ⟨.type "tuple", odT_InvalidLikeness, .seq #[.none] nT_InvalidLikeness, slT_InvalidLikeness⟩)
  (cn : PySem.W.specialIn K (.builtin "object.__class__") "__get__" = some (some (.builtin "getset_descriptor.__get__")))
  (ct : PySem.W.takesIn K (.builtin "object.__class__") = some true) :
  mg "InvalidLikeness" = some (.ref C_InvalidLikeness) ∧ (∀ (P : Program) (w : World) (base : Heap), ErrV P w K mg base fldT 1 "InvalidLikeness" "likeness") ∧ ExcC K C_InvalidLikeness ∧ XfC K C_InvalidLikeness ∧ PySem.W.findIn K (.ref C_InvalidLikeness) "likeness" = some none := by
  have mC_InvalidLikeness := PySem.W.mg_of X G aC_InvalidLikeness
  have EC_InvalidLikeness : ExcC K C_InvalidLikeness := ⟨ga_InvalidLikeness, gg_InvalidLikeness, eC_InvalidLikeness, hC_InvalidLikeness, ca_InvalidLikeness, cn, ct, cm_InvalidLikeness⟩
  have OC_InvalidLikeness : OexC K C_InvalidLikeness := ⟨⟨nm_InvalidLikeness, qn_InvalidLikeness, N_InvalidLikeness, bs_InvalidLikeness, _, sn_InvalidLikeness, sub_InvalidLikeness, ab_InvalidLikeness, col_InvalidLikeness, dd_InvalidLikeness, m0_InvalidLikeness, m1_InvalidLikeness, m2_InvalidLikeness, m3_InvalidLikeness, m5_InvalidLikeness, xL_InvalidLikeness, by rfl⟩, sa_InvalidLikeness, eC_InvalidLikeness, tC_InvalidLikeness, kC_InvalidLikeness⟩
  have FI_InvalidLikeness : FunD K "__init__" "InvalidLikeness.__init__" (defArgs s_init_InvalidLikeness) (defBody s_init_InvalidLikeness) (defScope s_init_InvalidLikeness) [.non] [] fI_InvalidLikeness _ := ⟨⟨ocI_InvalidLikeness, odI_InvalidLikeness, _, kVI_InvalidLikeness, dcI_InvalidLikeness, pmI_InvalidLikeness, anI_InvalidLikeness, cdI_InvalidLikeness, ctI_InvalidLikeness, slI_InvalidLikeness, rfl, lI_InvalidLikeness, cI_InvalidLikeness, .inr ⟨by simp, TI_InvalidLikeness, _, [.none], nT_InvalidLikeness, rfl, lT_InvalidLikeness, rfl, .cons rfl .nil⟩, .inl rfl⟩, kI_InvalidLikeness⟩
  obtain ⟨ds_InvalidLikeness, rds_InvalidLikeness, bI_InvalidLikeness⟩ := FI_InvalidLikeness.binds1 (ps := ["self", "likeness"]) 2 1 (by simp) rfl (fun _ _ _ _ _ _ _ us its h1 h2 => match us, its, h1, h2 with | [_, _], [_], _, _ => ⟨_, rfl, rfl⟩)
  cases rds_InvalidLikeness
  obtain ⟨de_InvalidLikeness, rde_InvalidLikeness, bO_InvalidLikeness⟩ := FI_InvalidLikeness.binds1 (ps := ["self", "likeness"]) 1 0 (by simp) rfl (fun _ _ _ _ _ _ _ us its h1 h2 => match us, its, h1, h2 with | [_], [_], _, _ => ⟨_, rfl, rfl⟩)
  obtain ⟨dz_InvalidLikeness, rfl, dr_InvalidLikeness⟩ := vals1 rde_InvalidLikeness
  cases dr_InvalidLikeness
  obtain ⟨dk_InvalidLikeness, bK_InvalidLikeness⟩ := FI_InvalidLikeness.kbindsD (ps := ["self", "likeness"]) 1 ["likeness"] (fun us _ ws => us ++ ws) (by simp) (fun r1 _ r3 => r1.append r3) (fun _ _ _ _ _ _ _ us its ws h1 h2 h3 => match us, its, ws, h1, h2, h3 with | [_], [_], [_], _, _, _ => ⟨_, rfl, rfl⟩)
  exact ⟨mC_InvalidLikeness, fun P w base => ⟨⟨C_InvalidLikeness, fI_InvalidLikeness, _, _, OC_InvalidLikeness, iC_InvalidLikeness, tI_InvalidLikeness, init_mk FI_InvalidLikeness sc_init_InvalidLikeness OC_InvalidLikeness nb_InvalidLikeness rfl rfl (by decide) (by decide), fun s v u h => bI_InvalidLikeness s [v, u] h rfl, fun s v u h => bK_InvalidLikeness.to s [v] [u] h rfl rfl, fun s v h => bO_InvalidLikeness s [v] h rfl, mC_InvalidLikeness⟩, rfl⟩, EC_InvalidLikeness, ⟨ga_InvalidLikeness, gg_InvalidLikeness, eC_InvalidLikeness, hC_InvalidLikeness⟩, nb_InvalidLikeness⟩
theorem cv_InvalidList {K : PySem.W.Frag} {h : Heap} {mg : Str → Option Value}
  {C_InvalidList fI_InvalidList TI_InvalidList N_InvalidList CB_InvalidList : Addr} {nm_InvalidList qn_InvalidList : Str} {bs_InvalidList : List Value} {sn_InvalidList : List Str} {sub_InvalidList : List Value} {ab_InvalidList : Bool} {col_InvalidList : Option Bool} {dd_InvalidList : Option Addr} {m0_InvalidList m1_InvalidList m2_InvalidList m3_InvalidList m5_InvalidList : Option Value} {odI_InvalidList anI_InvalidList odT_InvalidList : Option Addr} {slI_InvalidList slT_InvalidList : Array (Option Value)} {ocI_InvalidList kVI_InvalidList dcI_InvalidList pmI_InvalidList cdI_InvalidList ctI_InvalidList : Value} {nT_InvalidList : Nat}
  (X : K.In h) (G : h.Ns mainGlobals mg)
  (aC_InvalidList : PySem.W.nsIn K mainGlobals "InvalidList" = some (some (.ref C_InvalidList)))
  (xL_InvalidList : K.lookup C_InvalidList = some (excClassObj nm_InvalidList qn_InvalidList C_InvalidList N_InvalidList bs_InvalidList [.ref CB_InvalidList, .type "ValueError", .type "Exception", .type "BaseException", .type "object"] true sn_InvalidList sub_InvalidList ab_InvalidList col_InvalidList dd_InvalidList m0_InvalidList m1_InvalidList m2_InvalidList m3_InvalidList m5_InvalidList "ValueError.__new__"))
  (sa_InvalidList : PySem.W.findIn K (.ref C_InvalidList) "__setattr__" = some (some (.builtin "object.__setattr__")))
  (ga_InvalidList : PySem.W.findIn K (.ref C_InvalidList) "__getattribute__" = some (some (.builtin "BaseException.__getattribute__")))
  (gg_InvalidList : PySem.W.findIn K (.ref C_InvalidList) "__getattr__" = some none)
  (nb_InvalidList : PySem.W.findIn K (.ref C_InvalidList) "problem" = some none)
  (ca_InvalidList : PySem.W.findIn K (.ref C_InvalidList) "__class__" = some (some (.builtin "object.__class__")))
  (cm_InvalidList : PySem.W.mroIn K C_InvalidList (.type "object") = some true)
  (kC_InvalidList : PySem.W.keepIn K (.ref C_InvalidList) = true)
  (eC_InvalidList : PySem.W.subIn K (.ref C_InvalidList) (.type "BaseException") = some true)
  (tC_InvalidList : PySem.W.typeIn K (.ref C_InvalidList) = some (.type "type"))
  (hC_InvalidList : PySem.W.hasDictIn K C_InvalidList = true)
  (iC_InvalidList : PySem.W.findIn K (.ref C_InvalidList) "__init__" = some (some (.ref fI_InvalidList)))
  (tI_InvalidList : PySem.W.typeIn K (.ref fI_InvalidList) = some (.type "function"))
  (lI_InvalidList : K.lookup fI_InvalidList = some ⟨ocI_InvalidList, odI_InvalidList, .func (PySem.W.fnOf "__init__" "InvalidList.__init__" (defArgs s_init_InvalidList) (defBody s_init_InvalidList) (defScope s_init_InvalidList) (.ref TI_InvalidList) kVI_InvalidList dcI_InvalidList pmI_InvalidList anI_InvalidList cdI_InvalidList ctI_InvalidList), slI_InvalidList⟩)
  (cI_InvalidList : PySem.W.codeIn K cdI_InvalidList "InvalidList.__init__" = true)
  (kI_InvalidList : PySem.W.keepIn K (.ref fI_InvalidList) = true)
  (lT_InvalidList : K.lookup TI_InvalidList = some ⟨.type "tuple", odT_InvalidList, .seq #[.none] nT_InvalidList, slT_InvalidList⟩)
  (cn : PySem.W.specialIn K (.builtin "object.__class__") "__get__" = some (some (.builtin "getset_descriptor.__get__")))
  (ct : PySem.W.takesIn K (.builtin "object.__class__") = some true) :
  mg "InvalidList" = some (.ref C_InvalidList) ∧ (∀ (P : Program) (w : World) (base : Heap), ErrV P w K mg base fldT 1 "InvalidList" "problem") ∧ ExcC K C_InvalidList ∧ XfC K C_InvalidList ∧ PySem.W.findIn K (.ref C_InvalidList) "problem" = some none := by
  have mC_InvalidList := PySem.W.mg_of X G aC_InvalidList
  have EC_InvalidList : ExcC K C_InvalidList := ⟨ga_InvalidList, gg_InvalidList, eC_InvalidList, hC_InvalidList, ca_InvalidList, cn, ct, cm_InvalidList⟩
  have OC_InvalidList : OexC K C_InvalidList := ⟨⟨nm_InvalidList, qn_InvalidList, N_InvalidList, bs_InvalidList, _, sn_InvalidList, sub_InvalidList, ab_InvalidList, col_InvalidList, dd_InvalidList, m0_InvalidList, m1_InvalidList, m2_InvalidList, m3_InvalidList, m5_InvalidList, xL_InvalidList, by rfl⟩, sa_InvalidList, eC_InvalidList, tC_InvalidList, kC_InvalidList⟩
  have FI_InvalidList : FunD K "__init__" "InvalidList.__init__" (defArgs s_init_InvalidList) (defBody s_init_InvalidList) (defScope s_init_InvalidList) [.non] [] fI_InvalidList _ := ⟨⟨ocI_InvalidList, odI_InvalidList, _, kVI_InvalidList, dcI_InvalidList, pmI_InvalidList, anI_InvalidList, cdI_InvalidList, ctI_InvalidList, slI_InvalidList, rfl, lI_InvalidList, cI_InvalidList, .inr ⟨by simp, TI_InvalidList, _, [.none], nT_InvalidList, rfl, lT_InvalidList, rfl, .cons rfl .nil⟩, .inl rfl⟩, kI_InvalidList⟩
  obtain ⟨ds_InvalidList, rds_InvalidList, bI_InvalidList⟩ := FI_InvalidList.binds1 (ps := ["self", "problem"]) 2 1 (by simp) rfl (fun _ _ _ _ _ _ _ us its h1 h2 => match us, its, h1, h2 with | [_, _], [_], _, _ => ⟨_, rfl, rfl⟩)
  cases rds_InvalidList
  obtain ⟨de_InvalidList, rde_InvalidList, bO_InvalidList⟩ := FI_InvalidList.binds1 (ps := ["self", "problem"]) 1 0 (by simp) rfl (fun _ _ _ _ _ _ _ us its h1 h2 => match us, its, h1, h2 with | [_], [_], _, _ => ⟨_, rfl, rfl⟩)
  obtain ⟨dz_InvalidList, rfl, dr_InvalidList⟩ := vals1 rde_InvalidList
  cases dr_InvalidList
  obtain ⟨dk_InvalidList, bK_InvalidList⟩ := FI_InvalidList.kbindsD (ps := ["self", "problem"]) 1 ["problem"] (fun us _ ws => us ++ ws) (by simp) (fun r1 _ r3 => r1.append r3) (fun _ _ _ _ _ _ _ us its ws h1 h2 h3 => match us, its, ws, h1, h2, h3 with | [_], [_], [_], _, _, _ => ⟨_, rfl, rfl⟩)
  exact ⟨mC_InvalidList, fun P w base => ⟨⟨C_InvalidList, fI_InvalidList, _, _, OC_InvalidList, iC_InvalidList, tI_InvalidList, init_mk FI_InvalidList sc_init_InvalidList OC_InvalidList nb_InvalidList rfl rfl (by decide) (by decide), fun s v u h => bI_InvalidList s [v, u] h rfl, fun s v u h => bK_InvalidList.to s [v] [u] h rfl rfl, fun s v h => bO_InvalidList s [v] h rfl, mC_InvalidList⟩, rfl⟩, EC_InvalidList, ⟨ga_InvalidList, gg_InvalidList, eC_InvalidList, hC_InvalidList⟩, nb_InvalidList⟩
theorem cv_InvalidName {K : PySem.W.Frag} {h : Heap} {mg : Str → Option Value}
  {C_InvalidName fI_InvalidName TI_InvalidName N_InvalidName CB_InvalidName : Addr} {nm_InvalidName qn_InvalidName : Str} {bs_InvalidName : List Value} {sn_InvalidName : List Str} {sub_InvalidName : List Value} {ab_InvalidName : Bool} {col_InvalidName : Option Bool} {dd_InvalidName : Option Addr} {m0_InvalidName m1_InvalidName m2_InvalidName m3_InvalidName m5_InvalidName : Option Value} {odI_InvalidName anI_InvalidName odT_InvalidName : Option Addr} {slI_InvalidName slT_InvalidName : Array (Option Value)} {ocI_InvalidName kVI_InvalidName dcI_InvalidName pmI_InvalidName cdI_InvalidName ctI_InvalidName : Value} {nT_InvalidName : Nat}
  (X : K.In h) (G : h.Ns mainGlobals mg)
  (aC_InvalidName : PySem.W.nsIn K mainGlobals "InvalidName" = some (some (.ref C_InvalidName)))
  (xL_InvalidName : K.lookup C_InvalidName = some (excClassObj nm_InvalidName qn_InvalidName C_InvalidName N_InvalidName bs_InvalidName [.ref CB_InvalidName, .type "ValueError", .type "Exception", .type "BaseException", .type "object"] true sn_InvalidName sub_InvalidName ab_InvalidName col_InvalidName dd_InvalidName m0_InvalidName m1_InvalidName m2_InvalidName m3_InvalidName m5_InvalidName "ValueError.__new__"))
  (sa_InvalidName : PySem.W.findIn K (.ref C_InvalidName) "__setattr__" = some (some (.builtin "object.__setattr__")))
  (ga_InvalidName : PySem.W.findIn K (.ref C_InvalidName) "__getattribute__" = some (some (.builtin "BaseException.__getattribute__")))
  (gg_InvalidName : PySem.W.findIn K (.ref C_InvalidName) "__getattr__" = some none)
  (nb_InvalidName : PySem.W.findIn K (.ref C_InvalidName) "name" = some none)
  (ca_InvalidName : PySem.W.findIn K (.ref C_InvalidName) "__class__" = some (some (.builtin "object.__class__")))
  (cm_InvalidName : PySem.W.mroIn K C_InvalidName (.type "object") = some true)
  (kC_InvalidName : PySem.W.keepIn K (.ref C_InvalidName) = true)
  (eC_InvalidName : PySem.W.subIn K (.ref C_InvalidName) (.type "BaseException") = some true)
  (tC_InvalidName : PySem.W.typeIn K (.ref C_InvalidName) = some (.type "type"))
  (hC_InvalidName : PySem.W.hasDictIn K C_InvalidName = true)
  (iC_InvalidName : PySem.W.findIn K (.ref C_InvalidName) "__init__" = some (some (.ref fI_InvalidName)))
  (tI_InvalidName : PySem.W.typeIn K (.ref fI_InvalidName) = some (.type "function"))
  (lI_InvalidName : K.lookup fI_InvalidName = some ⟨ocI_InvalidName, odI_InvalidName, .func (PySem.W.fnOf "__init__" "InvalidName.__init__" (defArgs s_init_InvalidName) (defBody s_init_InvalidName) (defScope s_init_InvalidName) (.ref TI_InvalidName) kVI_InvalidName dcI_InvalidName pmI_InvalidName anI_InvalidName cdI_InvalidName ctI_InvalidName), slI_InvalidName⟩)
  (cI_InvalidName : PySem.W.codeIn K cdI_InvalidName "InvalidName.__init__" = true)
  (kI_InvalidName : PySem.W.keepIn K (.ref fI_InvalidName) = true)
  (lT_InvalidName : K.lookup TI_InvalidName = some ⟨.type "tuple", odT_InvalidName, .seq #[.none] nT_InvalidName, slT_InvalidName⟩)
  (cn : PySem.W.specialIn K (.builtin "object.__class__") "__get__" = some (some (.builtin "getset_descriptor.__get__")))
  (ct : PySem.W.takesIn K (.builtin "object.__class__") = some true) :
  mg "InvalidName" = some (.ref C_InvalidName) ∧ (∀ (P : Program) (w : World) (base : Heap), ErrV P w K mg base fldT 1 "InvalidName" "name") ∧ ExcC K C_InvalidName ∧ XfC K C_InvalidName ∧ PySem.W.findIn K (.ref C_InvalidName) "name" = some none := by
  have mC_InvalidName := PySem.W.mg_of X G aC_InvalidName
  have EC_InvalidName : ExcC K C_InvalidName := ⟨ga_InvalidName, gg_InvalidName, eC_InvalidName, hC_InvalidName, ca_InvalidName, cn, ct, cm_InvalidName⟩
  have OC_InvalidName : OexC K C_InvalidName := ⟨⟨nm_InvalidName, qn_InvalidName, N_InvalidName, bs_InvalidName, _, sn_InvalidName, sub_InvalidName, ab_InvalidName, col_InvalidName, dd_InvalidName, m0_InvalidName, m1_InvalidName, m2_InvalidName, m3_InvalidName, m5_InvalidName, xL_InvalidName, by rfl⟩, sa_InvalidName, eC_InvalidName, tC_InvalidName, kC_InvalidName⟩
  have FI_InvalidName : FunD K "__init__" "InvalidName.__init__" (defArgs s_init_InvalidName) (defBody s_init_InvalidName) (defScope s_init_InvalidName) [.non] [] fI_InvalidName _ := ⟨⟨ocI_InvalidName, odI_InvalidName, _, kVI_InvalidName, dcI_InvalidName, pmI_InvalidName, anI_InvalidName, cdI_InvalidName, ctI_InvalidName, slI_InvalidName, rfl, lI_InvalidName, cI_InvalidName, .inr ⟨by simp, TI_InvalidName, _, [.none], nT_InvalidName, rfl, lT_InvalidName, rfl, .cons rfl .nil⟩, .inl rfl⟩, kI_InvalidName⟩
  obtain ⟨ds_InvalidName, rds_InvalidName, bI_InvalidName⟩ := FI_InvalidName.binds1 (ps := ["self", "name"]) 2 1 (by simp) rfl (fun _ _ _ _ _ _ _ us its h1 h2 => match us, its, h1, h2 with | [_, _], [_], _, _ => ⟨_, rfl, rfl⟩)
  cases rds_InvalidName
  obtain ⟨de_InvalidName, rde_InvalidName, bO_InvalidName⟩ := FI_InvalidName.binds1 (ps := ["self", "name"]) 1 0 (by simp) rfl (fun _ _ _ _ _ _ _ us its h1 h2 => match us, its, h1, h2 with | [_], [_], _, _ => ⟨_, rfl, rfl⟩)
  obtain ⟨dz_InvalidName, rfl, dr_InvalidName⟩ := vals1 rde_InvalidName
  cases dr_InvalidName
  obtain ⟨dk_InvalidName, bK_InvalidName⟩ := FI_InvalidName.kbindsD (ps := ["self", "name"]) 1 ["name"] (fun us _ ws => us ++ ws) (by simp) (fun r1 _ r3 => r1.append r3) (fun _ _ _ _ _ _ _ us its ws h1 h2 h3 => match us, its, ws, h1, h2, h3 with | [_], [_], [_], _, _, _ => ⟨_, rfl, rfl⟩)
  exact ⟨mC_InvalidName, fun P w base => ⟨⟨C_InvalidName, fI_InvalidName, _, _, OC_InvalidName, iC_InvalidName, tI_InvalidName, init_mk FI_InvalidName sc_init_InvalidName OC_InvalidName nb_InvalidName rfl rfl (by decide) (by decide), fun s v u h => bI_InvalidName s [v, u] h rfl, fun s v u h => bK_InvalidName.to s [v] [u] h rfl rfl, fun s v h => bO_InvalidName s [v] h rfl, mC_InvalidName⟩, rfl⟩, EC_InvalidName, ⟨ga_InvalidName, gg_InvalidName, eC_InvalidName, hC_InvalidName⟩, nb_InvalidName⟩
theorem cv_InvalidNumber {K : PySem.W.Frag} {h : Heap} {mg : Str → Option Value}
  {C_InvalidNumber fI_InvalidNumber TI_InvalidNumber N_InvalidNumber CB_InvalidNumber : Addr} {nm_InvalidNumber qn_InvalidNumber : Str} {bs_InvalidNumber : List Value} {sn_InvalidNumber : List Str} {sub_InvalidNumber : List Value} {ab_InvalidNumber : Bool} {col_InvalidNumber : Option Bool} {dd_InvalidNumber : Option Addr} {m0_InvalidNumber m1_InvalidNumber m2_InvalidNumber m3_InvalidNumber m5_InvalidNumber : Option Value} {odI_InvalidNumber anI_InvalidNumber odT_InvalidNumber : Option Addr} {slI_InvalidNumber slT_InvalidNumber : Array (Option Value)} {ocI_InvalidNumber kVI_InvalidNumber dcI_InvalidNumber pmI_InvalidNumber cdI_InvalidNumber ctI_InvalidNumber : Value} {nT_InvalidNumber : Nat}
  (X : K.In h) (G : h.Ns mainGlobals mg)
  (aC_InvalidNumber : PySem.W.nsIn K mainGlobals "InvalidNumber" = some (some (.ref C_InvalidNumber)))
  (xL_InvalidNumber : K.lookup C_InvalidNumber = some (excClassObj nm_InvalidNumber qn_InvalidNumber C_InvalidNumber N_InvalidNumber bs_InvalidNumber [.ref CB_InvalidNumber, .type "ValueError", .type "Exception", .type "BaseException", .type "object"] true sn_InvalidNumber sub_InvalidNumber ab_InvalidNumber col_InvalidNumber dd_InvalidNumber m0_InvalidNumber m1_InvalidNumber m2_InvalidNumber m3_InvalidNumber m5_InvalidNumber "ValueError.__new__"))
  (sa_InvalidNumber : PySem.W.findIn K (.ref C_InvalidNumber) "__setattr__" = some (some (.builtin "object.__setattr__")))
  (ga_InvalidNumber : PySem.W.findIn K (.ref C_InvalidNumber) "__getattribute__" = some (some (.builtin "BaseException.__getattribute__")))
  (gg_InvalidNumber : PySem.W.findIn K (.ref C_InvalidNumber) "__getattr__" = some none)
  (nb_InvalidNumber : PySem.W.findIn K (.ref C_InvalidNumber) "number" = some none)
  (ca_InvalidNumber : PySem.W.findIn K (.ref C_InvalidNumber) "__class__" = some (some (.builtin "object.__class__")))
  (cm_InvalidNumber : PySem.W.mroIn K C_InvalidNumber (.type "object") = some true)
  (kC_InvalidNumber : PySem.W.keepIn K (.ref C_InvalidNumber) = true)
  (eC_InvalidNumber : PySem.W.subIn K (.ref C_InvalidNumber) (.type "BaseException") = some true)
  (tC_InvalidNumber : PySem.W.typeIn K (.ref C_InvalidNumber) = some (.type "type"))
  (hC_InvalidNumber : PySem.W.hasDictIn K C_InvalidNumber = true)
  (iC_InvalidNumber : PySem.W.findIn K (.ref C_InvalidNumber) "__init__" = some (some (.ref fI_InvalidNumber)))
  (tI_InvalidNumber : PySem.W.typeIn K (.ref fI_InvalidNumber) = some (.type "function"))
  (lI_InvalidNumber : K.lookup fI_InvalidNumber = some ⟨ocI_InvalidNumber, odI_InvalidNumber, .func (PySem.W.fnOf "__init__" "InvalidNumber.__init__" (defArgs s_init_InvalidNumber) (defBody s_init_InvalidNumber) (defScope s_init_InvalidNumber) (.ref TI_InvalidNumber) kVI_InvalidNumber dcI_InvalidNumber pmI_InvalidNumber anI_InvalidNumber cdI_InvalidNumber ctI_InvalidNumber), slI_InvalidNumber⟩)
  (cI_InvalidNumber : PySem.W.codeIn K cdI_InvalidNumber "InvalidNumber.__init__" = true)
  (kI_InvalidNumber : PySem.W.keepIn K (.ref fI_InvalidNumber) = true)
  (lT_InvalidNumber : K.lookup TI_InvalidNumber = some ⟨.type "tuple", odT_InvalidNumber, .seq #[.none] nT_InvalidNumber, slT_InvalidNumber⟩)
  (cn : PySem.W.specialIn K (.builtin "object.__class__") "__get__" = some (some (.builtin "getset_descriptor.__get__")))
  (ct : PySem.W.takesIn K (.builtin "object.__class__") = some true) :
  mg "InvalidNumber" = some (.ref C_InvalidNumber) ∧ (∀ (P : Program) (w : World) (base : Heap), ErrV P w K mg base fldT 1 "InvalidNumber" "number") ∧ ExcC K C_InvalidNumber ∧ XfC K C_InvalidNumber ∧ PySem.W.findIn K (.ref C_InvalidNumber) "number" = some none := by
  have mC_InvalidNumber := PySem.W.mg_of X G aC_InvalidNumber
  have EC_InvalidNumber : ExcC K C_InvalidNumber := ⟨ga_InvalidNumber, gg_InvalidNumber, eC_InvalidNumber, hC_InvalidNumber, ca_InvalidNumber, cn, ct, cm_InvalidNumber⟩
  have OC_InvalidNumber : OexC K C_InvalidNumber := ⟨⟨nm_InvalidNumber, qn_InvalidNumber, N_InvalidNumber, bs_InvalidNumber, _, sn_InvalidNumber, sub_InvalidNumber, ab_InvalidNumber, col_InvalidNumber, dd_InvalidNumber, m0_InvalidNumber, m1_InvalidNumber, m2_InvalidNumber, m3_InvalidNumber, m5_InvalidNumber, xL_InvalidNumber, by rfl⟩, sa_InvalidNumber, eC_InvalidNumber, tC_InvalidNumber, kC_InvalidNumber⟩
  have FI_InvalidNumber : FunD K "__init__" "InvalidNumber.__init__" (defArgs s_init_InvalidNumber) (defBody s_init_InvalidNumber) (defScope s_init_InvalidNumber) [.non] [] fI_InvalidNumber _ := ⟨⟨ocI_InvalidNumber, odI_InvalidNumber, _, kVI_InvalidNumber, dcI_InvalidNumber, pmI_InvalidNumber, anI_InvalidNumber, cdI_InvalidNumber, ctI_InvalidNumber, slI_InvalidNumber, rfl, lI_InvalidNumber, cI_InvalidNumber, .inr ⟨by simp, TI_InvalidNumber, _, [.none], nT_InvalidNumber, rfl, lT_InvalidNumber, rfl, .cons rfl .nil⟩, .inl rfl⟩, kI_InvalidNumber⟩
  obtain ⟨ds_InvalidNumber, rds_InvalidNumber, bI_InvalidNumber⟩ := FI_InvalidNumber.binds1 (ps := ["self", "number"]) 2 1 (by simp) rfl (fun _ _ _ _ _ _ _ us its h1 h2 => match us, its, h1, h2 with | [_, _], [_], _, _ => ⟨_, rfl, rfl⟩)
  cases rds_InvalidNumber
  obtain ⟨de_InvalidNumber, rde_InvalidNumber, bO_InvalidNumber⟩ := FI_InvalidNumber.binds1 (ps := ["self", "number"]) 1 0 (by simp) rfl (fun _ _ _ _ _ _ _ us its h1 h2 => match us, its, h1, h2 with | [_], [_], _, _ => ⟨_, rfl, rfl⟩)
  obtain ⟨dz_InvalidNumber, rfl, dr_InvalidNumber⟩ := vals1 rde_InvalidNumber
  cases dr_InvalidNumber
  obtain ⟨dk_InvalidNumber, bK_InvalidNumber⟩ := FI_InvalidNumber.kbindsD (ps := ["self", "number"]) 1 ["number"] (fun us _ ws => us ++ ws) (by simp) (fun r1 _ r3 => r1.append r3) (fun _ _ _ _ _ _ _ us its ws h1 h2 h3 => match us, its, ws, h1, h2, h3 with | [_], [_], [_], _, _, _ => ⟨_, rfl, rfl⟩)
  exact ⟨mC_InvalidNumber, fun P w base => ⟨⟨C_InvalidNumber, fI_InvalidNumber, _, _, OC_InvalidNumber, iC_InvalidNumber, tI_InvalidNumber, init_mk FI_InvalidNumber sc_init_InvalidNumber OC_InvalidNumber nb_InvalidNumber rfl rfl (by decide) (by decide), fun s v u h => bI_InvalidNumber s [v, u] h rfl, fun s v u h => bK_InvalidNumber.to s [v] [u] h rfl rfl, fun s v h => bO_InvalidNumber s [v] h rfl, mC_InvalidNumber⟩, rfl⟩, EC_InvalidNumber, ⟨ga_InvalidNumber, gg_InvalidNumber, eC_InvalidNumber, hC_InvalidNumber⟩, nb_InvalidNumber⟩
theorem cv_InvalidPath {K : PySem.W.Frag} {h : Heap} {mg : Str → Option Value}
  {C_InvalidPath fI_InvalidPath TI_InvalidPath N_InvalidPath CB_InvalidPath : Addr} {nm_InvalidPath qn_InvalidPath : Str} {bs_InvalidPath : List Value} {sn_InvalidPath : List Str} {sub_InvalidPath : List Value} {ab_InvalidPath : Bool} {col_InvalidPath : Option Bool} {dd_InvalidPath : Option Addr} {m0_InvalidPath m1_InvalidPath m2_InvalidPath m3_InvalidPath m5_InvalidPath : Option Value} {odI_InvalidPath anI_InvalidPath odT_InvalidPath : Option Addr} {slI_InvalidPath slT_InvalidPath : Array (Option Value)} {ocI_InvalidPath kVI_InvalidPath dcI_InvalidPath pmI_InvalidPath cdI_InvalidPath ctI_InvalidPath : Value} {nT_InvalidPath : Nat}
  (X : K.In h) (G : h.Ns mainGlobals mg)
  (aC_InvalidPath : PySem.W.nsIn K mainGlobals "InvalidPath" = some (some (.ref C_InvalidPath)))
  (xL_InvalidPath : K.lookup C_InvalidPath = some (excClassObj nm_InvalidPath qn_InvalidPath C_InvalidPath N_InvalidPath bs_InvalidPath [.ref CB_InvalidPath, .type "ValueError", .type "Exception", .type "BaseException", .type "object"] true sn_InvalidPath sub_InvalidPath ab_InvalidPath col_InvalidPath dd_InvalidPath m0_InvalidPath m1_InvalidPath m2_InvalidPath m3_InvalidPath m5_InvalidPath "ValueError.__new__"))
  (sa_InvalidPath : PySem.W.findIn K (.ref C_InvalidPath) "__setattr__" = some (some (.builtin "object.__setattr__")))
  (ga_InvalidPath : PySem.W.findIn K (.ref C_InvalidPath) "__getattribute__" = some (some (.builtin "BaseException.__getattribute__")))
  (gg_InvalidPath : PySem.W.findIn K (.ref C_InvalidPath) "__getattr__" = some none)
  (nb_InvalidPath : PySem.W.findIn K (.ref C_InvalidPath) "place" = some none)
  (ca_InvalidPath : PySem.W.findIn K (.ref C_InvalidPath) "__class__" = some (some (.builtin "object.__class__")))
  (cm_InvalidPath : PySem.W.mroIn K C_InvalidPath (.type "object") = some true)
  (kC_InvalidPath : PySem.W.keepIn K (.ref C_InvalidPath) = true)
  (eC_InvalidPath : PySem.W.subIn K (.ref C_InvalidPath) (.type "BaseException") = some true)
  (tC_InvalidPath : PySem.W.typeIn K (.ref C_InvalidPath) = some (.type "type"))
  (hC_InvalidPath : PySem.W.hasDictIn K C_InvalidPath = true)
  (iC_InvalidPath : PySem.W.findIn K (.ref C_InvalidPath) "__init__" = some (some (.ref fI_InvalidPath)))
  (tI_InvalidPath : PySem.W.typeIn K (.ref fI_InvalidPath) = some (.type "function"))
  (lI_InvalidPath : K.lookup fI_InvalidPath = some ⟨ocI_InvalidPath, odI_InvalidPath, .func (PySem.W.fnOf "__init__" "InvalidPath.__init__" (defArgs s_init_InvalidPath) (defBody s_init_InvalidPath) (defScope s_init_InvalidPath) (.ref TI_InvalidPath) kVI_InvalidPath dcI_InvalidPath pmI_InvalidPath anI_InvalidPath cdI_InvalidPath ctI_InvalidPath), slI_InvalidPath⟩)
  (cI_InvalidPath : PySem.W.codeIn K cdI_InvalidPath "InvalidPath.__init__" = true)
  (kI_InvalidPath : PySem.W.keepIn K (.ref fI_InvalidPath) = true)
  (lT_InvalidPath : K.lookup TI_InvalidPath = some ⟨.type "tuple", odT_InvalidPath, .seq #[.none] nT_InvalidPath, slT_InvalidPath⟩)
  (cn : PySem.W.specialIn K (.builtin "object.__class__") "__get__" = some (some (.builtin "getset_descriptor.__get__")))
  (ct : PySem.W.takesIn K (.builtin "object.__class__") = some true) :
  mg "InvalidPath" = some (.ref C_InvalidPath) ∧ (∀ (P : Program) (w : World) (base : Heap), ErrV P w K mg base fldT 1 "InvalidPath" "place") ∧ ExcC K C_InvalidPath ∧ XfC K C_InvalidPath ∧ PySem.W.findIn K (.ref C_InvalidPath) "place" = some none := by
  have mC_InvalidPath := PySem.W.mg_of X G aC_InvalidPath
  have EC_InvalidPath : ExcC K C_InvalidPath := ⟨ga_InvalidPath, gg_InvalidPath, eC_InvalidPath, hC_InvalidPath, ca_InvalidPath, cn, ct, cm_InvalidPath⟩
  have OC_InvalidPath : OexC K C_InvalidPath := ⟨⟨nm_InvalidPath, qn_InvalidPath, N_InvalidPath, bs_InvalidPath, _, sn_InvalidPath, sub_InvalidPath, ab_InvalidPath, col_InvalidPath, dd_InvalidPath, m0_InvalidPath, m1_InvalidPath, m2_InvalidPath, m3_InvalidPath, m5_InvalidPath, xL_InvalidPath, by rfl⟩, sa_InvalidPath, eC_InvalidPath, tC_InvalidPath, kC_InvalidPath⟩
  have FI_InvalidPath : FunD K "__init__" "InvalidPath.__init__" (defArgs s_init_InvalidPath) (defBody s_init_InvalidPath) (defScope s_init_InvalidPath) [.non] [] fI_InvalidPath _ := ⟨⟨ocI_InvalidPath, odI_InvalidPath, _, kVI_InvalidPath, dcI_InvalidPath, pmI_InvalidPath, anI_InvalidPath, cdI_InvalidPath, ctI_InvalidPath, slI_InvalidPath, rfl, lI_InvalidPath, cI_InvalidPath, .inr ⟨by simp, TI_InvalidPath, _, [.none], nT_InvalidPath, rfl, lT_InvalidPath, rfl, .cons rfl .nil⟩, .inl rfl⟩, kI_InvalidPath⟩
  obtain ⟨ds_InvalidPath, rds_InvalidPath, bI_InvalidPath⟩ := FI_InvalidPath.binds1 (ps := ["self", "place"]) 2 1 (by simp) rfl (fun _ _ _ _ _ _ _ us its h1 h2 => match us, its, h1, h2 with | [_, _], [_], _, _ => ⟨_, rfl, rfl⟩)
  cases rds_InvalidPath
  obtain ⟨de_InvalidPath, rde_InvalidPath, bO_InvalidPath⟩ := FI_InvalidPath.binds1 (ps := ["self", "place"]) 1 0 (by simp) rfl (fun _ _ _ _ _ _ _ us its h1 h2 => match us, its, h1, h2 with | [_], [_], _, _ => ⟨_, rfl, rfl⟩)
  obtain ⟨dz_InvalidPath, rfl, dr_InvalidPath⟩ := vals1 rde_InvalidPath
  cases dr_InvalidPath
  obtain ⟨dk_InvalidPath, bK_InvalidPath⟩ := FI_InvalidPath.kbindsD (ps := ["self", "place"]) 1 ["place"] (fun us _ ws => us ++ ws) (by simp) (fun r1 _ r3 => r1.append r3) (fun _ _ _ _ _ _ _ us its ws h1 h2 h3 => match us, its, ws, h1, h2, h3 with | [_], [_], [_], _, _, _ => ⟨_, rfl, rfl⟩)
  exact ⟨mC_InvalidPath, fun P w base => ⟨⟨C_InvalidPath, fI_InvalidPath, _, _, OC_InvalidPath, iC_InvalidPath, tI_InvalidPath, init_mk FI_InvalidPath sc_init_InvalidPath OC_InvalidPath nb_InvalidPath rfl rfl (by decide) (by decide), fun s v u h => bI_InvalidPath s [v, u] h rfl, fun s v u h => bK_InvalidPath.to s [v] [u] h rfl rfl, fun s v h => bO_InvalidPath s [v] h rfl, mC_InvalidPath⟩, rfl⟩, EC_InvalidPath, ⟨ga_InvalidPath, gg_InvalidPath, eC_InvalidPath, hC_InvalidPath⟩, nb_InvalidPath⟩
theorem cv_InvalidPattern {K : PySem.W.Frag} {h : Heap} {mg : Str → Option Value}
  {C_InvalidPattern fI_InvalidPattern TI_InvalidPattern N_InvalidPattern CB_InvalidPattern : Addr} {nm_InvalidPattern qn_InvalidPattern : Str} {bs_InvalidPattern : List Value} {sn_InvalidPattern : List Str} {sub_InvalidPattern : List Value} {ab_InvalidPattern : Bool} {col_InvalidPattern : Option Bool} {dd_InvalidPattern : Option Addr} {m0_InvalidPattern m1_InvalidPattern m2_InvalidPattern m3_InvalidPattern m5_InvalidPattern : Option Value} {odI_InvalidPattern anI_InvalidPattern odT_InvalidPattern : Option Addr} {slI_InvalidPattern slT_InvalidPattern : Array (Option Value)} {ocI_InvalidPattern kVI_InvalidPattern dcI_InvalidPattern pmI_InvalidPattern cdI_InvalidPattern ctI_InvalidPattern : Value} {nT_InvalidPattern : Nat}
  (X : K.In h) (G : h.Ns mainGlobals mg)
  (aC_InvalidPattern : PySem.W.nsIn K mainGlobals "InvalidPattern" = some (some (.ref C_InvalidPattern)))
  (xL_InvalidPattern : K.lookup C_InvalidPattern = some (excClassObj nm_InvalidPattern qn_InvalidPattern C_InvalidPattern N_InvalidPattern bs_InvalidPattern [.ref CB_InvalidPattern, .type "ValueError", .type "Exception", .type "BaseException", .type "object"] true sn_InvalidPattern sub_InvalidPattern ab_InvalidPattern col_InvalidPattern dd_InvalidPattern m0_InvalidPattern m1_InvalidPattern m2_InvalidPattern m3_InvalidPattern m5_InvalidPattern "ValueError.__new__"))
  (sa_InvalidPattern : PySem.W.findIn K (.ref C_InvalidPattern) "__setattr__" = some (some (.builtin "object.__setattr__")))
  (ga_InvalidPattern : PySem.W.findIn K (.ref C_InvalidPattern) "__getattribute__" = some (some (.builtin "BaseException.__getattribute__")))
  (gg_InvalidPattern : PySem.W.findIn K (.ref C_InvalidPattern) "__getattr__" = some none)
  (nb_InvalidPattern : PySem.W.findIn K (.ref C_InvalidPattern) "thing" = some none)
  (ca_InvalidPattern : PySem.W.findIn K (.ref C_InvalidPattern) "__class__" = some (some (.builtin "object.__class__")))
  (cm_InvalidPattern : PySem.W.mroIn K C_InvalidPattern (.type "object") = some true)
  (kC_InvalidPattern : PySem.W.keepIn K (.ref C_InvalidPattern) = true)
  (eC_InvalidPattern : PySem.W.subIn K (.ref C_InvalidPattern) (.type "BaseException") = some true)
  (tC_InvalidPattern : PySem.W.typeIn K (.ref C_InvalidPattern) = some (.type "type"))
  (hC_InvalidPattern : PySem.W.hasDictIn K C_InvalidPattern = true)
  (iC_InvalidPattern : PySem.W.findIn K (.ref C_InvalidPattern) "__init__" = some (some (.ref fI_InvalidPattern)))
  (tI_InvalidPattern : PySem.W.typeIn K (.ref fI_InvalidPattern) = some (.type "function"))
  (lI_InvalidPattern : K.lookup fI_InvalidPattern = some ⟨ocI_InvalidPattern, odI_InvalidPattern, .func (PySem.W.fnOf "__init__" "InvalidPattern.__init__" (defArgs s_init_InvalidPattern) (defBody s_init_InvalidPattern) (defScope s_init_InvalidPattern) (.ref TI_InvalidPattern) kVI_InvalidPattern dcI_InvalidPattern pmI_InvalidPattern anI_InvalidPattern cdI_InvalidPattern ctI_InvalidPattern), slI_InvalidPattern⟩)
  (cI_InvalidPattern : PySem.W.codeIn K cdI_InvalidPattern "InvalidPattern.__init__" = true)
  (kI_InvalidPattern : PySem.W.keepIn K (.ref fI_InvalidPattern) = true)
  (lT_InvalidPattern : K.lookup TI_InvalidPattern = some ⟨.type "tuple", odT_InvalidPattern, .seq #[.none] nT_InvalidPattern, slT_InvalidPattern⟩)
  (cn : PySem.W.specialIn K (.builtin "object.__class__") "__get__" = some (some (.builtin "getset_descriptor.__get__")))
  (ct : PySem.W.takesIn K (.builtin "object.__class__") = some true) :
  mg "InvalidPattern" = some (.ref C_InvalidPattern) ∧ (∀ (P : Program) (w : World) (base : Heap), ErrV P w K mg base fldT 1 "InvalidPattern" "thing") ∧ ExcC K C_InvalidPattern ∧ XfC K C_InvalidPattern ∧ PySem.W.findIn K (.ref C_InvalidPattern) "thing" = some none := by
  have mC_InvalidPattern := PySem.W.mg_of X G aC_InvalidPattern
  have EC_InvalidPattern : ExcC K C_InvalidPattern := ⟨ga_InvalidPattern, gg_InvalidPattern, eC_InvalidPattern, hC_InvalidPattern, ca_InvalidPattern, cn, ct, cm_InvalidPattern⟩
  have OC_InvalidPattern : OexC K C_InvalidPattern := ⟨⟨nm_InvalidPattern, qn_InvalidPattern, N_InvalidPattern, bs_InvalidPattern, _, sn_InvalidPattern, sub_InvalidPattern, ab_InvalidPattern, col_InvalidPattern, dd_InvalidPattern, m0_InvalidPattern, m1_InvalidPattern, m2_InvalidPattern, m3_InvalidPattern, m5_InvalidPattern, xL_InvalidPattern, by rfl⟩, sa_InvalidPattern, eC_InvalidPattern, tC_InvalidPattern, kC_InvalidPattern⟩
  have FI_InvalidPattern : FunD K "__init__" "InvalidPattern.__init__" (defArgs s_init_InvalidPattern) (defBody s_init_InvalidPattern) (defScope s_init_InvalidPattern) [.non] [] fI_InvalidPattern _ := ⟨⟨ocI_InvalidPattern, odI_InvalidPattern, _, kVI_InvalidPattern, dcI_InvalidPattern, pmI_InvalidPattern, anI_InvalidPattern, cdI_InvalidPattern, ctI_InvalidPattern, slI_InvalidPattern, rfl, lI_InvalidPattern, cI_InvalidPattern, .inr ⟨by simp, TI_InvalidPattern, _, [.none], nT_InvalidPattern, rfl, lT_InvalidPattern, rfl, .cons rfl .nil⟩, .inl rfl⟩, kI_InvalidPattern⟩
  obtain ⟨ds_InvalidPattern, rds_InvalidPattern, bI_InvalidPattern⟩ := FI_InvalidPattern.binds1 (ps := ["self", "thing"]) 2 1 (by simp) rfl (fun _ _ _ _ _ _ _ us its h1 h2 => match us, its, h1, h2 with | [_, _], [_], _, _ => ⟨_, rfl, rfl⟩)
  cases rds_InvalidPattern
  obtain ⟨de_InvalidPattern, rde_InvalidPattern, bO_InvalidPattern⟩ := FI_InvalidPattern.binds1 (ps := ["self", "thing"]) 1 0 (by simp) rfl (fun _ _ _ _ _ _ _ us its h1 h2 => match us, its, h1, h2 with | [_], [_], _, _ => ⟨_, rfl, rfl⟩)
  obtain ⟨dz_InvalidPattern, rfl, dr_InvalidPattern⟩ := vals1 rde_InvalidPattern
  cases dr_InvalidPattern
  obtain ⟨dk_InvalidPattern, bK_InvalidPattern⟩ := FI_InvalidPattern.kbindsD (ps := ["self", "thing"]) 1 ["thing"] (fun us _ ws => us ++ ws) (by simp) (fun r1 _ r3 => r1.append r3) (fun _ _ _ _ _ _ _ us its ws h1 h2 h3 => match us, its, ws, h1, h2, h3 with | [_], [_], [_], _, _, _ => ⟨_, rfl, rfl⟩)
  exact ⟨mC_InvalidPattern, fun P w base => ⟨⟨C_InvalidPattern, fI_InvalidPattern, _, _, OC_InvalidPattern, iC_InvalidPattern, tI_InvalidPattern, init_mk FI_InvalidPattern sc_init_InvalidPattern OC_InvalidPattern nb_InvalidPattern rfl rfl (by decide) (by decide), fun s v u h => bI_InvalidPattern s [v, u] h rfl, fun s v u h => bK_InvalidPattern.to s [v] [u] h rfl rfl, fun s v h => bO_InvalidPattern s [v] h rfl, mC_InvalidPattern⟩, rfl⟩, EC_InvalidPattern, ⟨ga_InvalidPattern, gg_InvalidPattern, eC_InvalidPattern, hC_InvalidPattern⟩, nb_InvalidPattern⟩
theorem cv_InvalidRewriting {K : PySem.W.Frag} {h : Heap} {mg : Str → Option Value}
  {C_InvalidRewriting fI_InvalidRewriting TI_InvalidRewriting N_InvalidRewriting CB_InvalidRewriting : Addr} {nm_InvalidRewriting qn_InvalidRewriting : Str} {bs_InvalidRewriting : List Value} {sn_InvalidRewriting : List Str} {sub_InvalidRewriting : List Value} {ab_InvalidRewriting : Bool} {col_InvalidRewriting : Option Bool} {dd_InvalidRewriting : Option Addr} {m0_InvalidRewriting m1_InvalidRewriting m2_InvalidRewriting m3_InvalidRewriting m5_InvalidRewriting : Option Value} {odI_InvalidRewriting anI_InvalidRewriting odT_InvalidRewriting : Option Addr} {slI_InvalidRewriting slT_InvalidRewriting : Array (Option Value)} {ocI_InvalidRewriting kVI_InvalidRewriting dcI_InvalidRewriting pmI_InvalidRewriting cdI_InvalidRewriting ctI_InvalidRewriting : Value} {nT_InvalidRewriting : Nat}
  (X : K.In h) (G : h.Ns mainGlobals mg)
  (aC_InvalidRewriting : PySem.W.nsIn K mainGlobals "InvalidRewriting" = some (some (.ref C_InvalidRewriting)))
  (xL_InvalidRewriting : K.lookup C_InvalidRewriting = some (excClassObj nm_InvalidRewriting qn_InvalidRewriting C_InvalidRewriting N_InvalidRewriting bs_InvalidRewriting [.ref CB_InvalidRewriting, .type "ValueError", .type "Exception", .type "BaseException", .type "object"] true sn_InvalidRewriting sub_InvalidRewriting ab_InvalidRewriting col_InvalidRewriting dd_InvalidRewriting m0_InvalidRewriting m1_InvalidRewriting m2_InvalidRewriting m3_InvalidRewriting m5_InvalidRewriting "ValueError.__new__"))
  (sa_InvalidRewriting : PySem.W.findIn K (.ref C_InvalidRewriting) "__setattr__" = some (some (.builtin "object.__setattr__")))
  (ga_InvalidRewriting : PySem.W.findIn K (.ref C_InvalidRewriting) "__getattribute__" = some (some (.builtin "BaseException.__getattribute__")))
  (gg_InvalidRewriting : PySem.W.findIn K (.ref C_InvalidRewriting) "__getattr__" = some none)
  (nb_InvalidRewriting : PySem.W.findIn K (.ref C_InvalidRewriting) "thing" = some none)
  (ca_InvalidRewriting : PySem.W.findIn K (.ref C_InvalidRewriting) "__class__" = some (some (.builtin "object.__class__")))
  (cm_InvalidRewriting : PySem.W.mroIn K C_InvalidRewriting (.type "object") = some true)
  (kC_InvalidRewriting : PySem.W.keepIn K (.ref C_InvalidRewriting) = true)
  (eC_InvalidRewriting : PySem.W.subIn K (.ref C_InvalidRewriting) (.type "BaseException") = some true)
  (tC_InvalidRewriting : PySem.W.typeIn K (.ref C_InvalidRewriting) = some (.type "type"))
  (hC_InvalidRewriting : PySem.W.hasDictIn K C_InvalidRewriting = true)
  (iC_InvalidRewriting : PySem.W.findIn K (.ref C_InvalidRewriting) "__init__" = some (some (.ref fI_InvalidRewriting)))
  (tI_InvalidRewriting : PySem.W.typeIn K (.ref fI_InvalidRewriting) = some (.type "function"))
  (lI_InvalidRewriting : K.lookup fI_InvalidRewriting = some ⟨ocI_InvalidRewriting, odI_InvalidRewriting, .func (PySem.W.fnOf "__init__" "InvalidRewriting.__init__" (defArgs s_init_InvalidRewriting) (defBody s_init_InvalidRewriting) (defScope s_init_InvalidRewriting) (.ref TI_InvalidRewriting) kVI_InvalidRewriting dcI_InvalidRewriting pmI_InvalidRewriting anI_InvalidRewriting cdI_InvalidRewriting ctI_InvalidRewriting), slI_InvalidRewriting⟩)
  (cI_InvalidRewriting : PySem.W.codeIn K cdI_InvalidRewriting "InvalidRewriting.__init__" = true)
  (kI_InvalidRewriting : PySem.W.keepIn K (.ref fI_InvalidRewriting) = true)
  (lT_InvalidRewriting : K.lookup TI_InvalidRewriting = some ⟨.type "tuple", odT_InvalidRewriting, .seq #[.none] nT_InvalidRewriting, slT_InvalidRewriting⟩)
  (cn : PySem.W.specialIn K (.builtin "object.__class__") "__get__" = some (some (.builtin "getset_descriptor.__get__")))
  (ct : PySem.W.takesIn K (.builtin "object.__class__") = some true) :
  mg "InvalidRewriting" = some (.ref C_InvalidRewriting) ∧ (∀ (P : Program) (w : World) (base : Heap), ErrV P w K mg base fldT 1 "InvalidRewriting" "thing") ∧ ExcC K C_InvalidRewriting ∧ XfC K C_InvalidRewriting ∧ PySem.W.findIn K (.ref C_InvalidRewriting) "thing" = some none := by
  have mC_InvalidRewriting := PySem.W.mg_of X G aC_InvalidRewriting
  have EC_InvalidRewriting : ExcC K C_InvalidRewriting := ⟨ga_InvalidRewriting, gg_InvalidRewriting, eC_InvalidRewriting, hC_InvalidRewriting, ca_InvalidRewriting, cn, ct, cm_InvalidRewriting⟩
  have OC_InvalidRewriting : OexC K C_InvalidRewriting := ⟨⟨nm_InvalidRewriting, qn_InvalidRewriting, N_InvalidRewriting, bs_InvalidRewriting, _, sn_InvalidRewriting, sub_InvalidRewriting, ab_InvalidRewriting, col_InvalidRewriting, dd_InvalidRewriting, m0_InvalidRewriting, m1_InvalidRewriting, m2_InvalidRewriting, m3_InvalidRewriting, m5_InvalidRewriting, xL_InvalidRewriting, by rfl⟩, sa_InvalidRewriting, eC_InvalidRewriting, tC_InvalidRewriting, kC_InvalidRewriting⟩
  have FI_InvalidRewriting : FunD K "__init__" "InvalidRewriting.__init__" (defArgs s_init_InvalidRewriting) (defBody s_init_InvalidRewriting) (defScope s_init_InvalidRewriting) [.non] [] fI_InvalidRewriting _ := ⟨⟨ocI_InvalidRewriting, odI_InvalidRewriting, _, kVI_InvalidRewriting, dcI_InvalidRewriting, pmI_InvalidRewriting, anI_InvalidRewriting, cdI_InvalidRewriting, ctI_InvalidRewriting, slI_InvalidRewriting, rfl, lI_InvalidRewriting, cI_InvalidRewriting, .inr ⟨by simp, TI_InvalidRewriting, _, [.none], nT_InvalidRewriting, rfl, lT_InvalidRewriting, rfl, .cons rfl .nil⟩, .inl rfl⟩, kI_InvalidRewriting⟩
  obtain ⟨ds_InvalidRewriting, rds_InvalidRewriting, bI_InvalidRewriting⟩ := FI_InvalidRewriting.binds1 (ps := ["self", "thing"]) 2 1 (by simp) rfl (fun _ _ _ _ _ _ _ us its h1 h2 => match us, its, h1, h2 with | [_, _], [_], _, _ => ⟨_, rfl, rfl⟩)
  cases rds_InvalidRewriting
  obtain ⟨de_InvalidRewriting, rde_InvalidRewriting, bO_InvalidRewriting⟩ := FI_InvalidRewriting.binds1 (ps := ["self", "thing"]) 1 0 (by simp) rfl (fun _ _ _ _ _ _ _ us its h1 h2 => match us, its, h1, h2 with | [_], [_], _, _ => ⟨_, rfl, rfl⟩)
  obtain ⟨dz_InvalidRewriting, rfl, dr_InvalidRewriting⟩ := vals1 rde_InvalidRewriting
  cases dr_InvalidRewriting
  obtain ⟨dk_InvalidRewriting, bK_InvalidRewriting⟩ := FI_InvalidRewriting.kbindsD (ps := ["self", "thing"]) 1 ["thing"] (fun us _ ws => us ++ ws) (by simp) (fun r1 _ r3 => r1.append r3) (fun _ _ _ _ _ _ _ us its ws h1 h2 h3 => match us, its, ws, h1, h2, h3 with | [_], [_], [_], _, _, _ => ⟨_, rfl, rfl⟩)
  exact ⟨mC_InvalidRewriting, fun P w base => ⟨⟨C_InvalidRewriting, fI_InvalidRewriting, _, _, OC_InvalidRewriting, iC_InvalidRewriting, tI_InvalidRewriting, init_mk FI_InvalidRewriting sc_init_InvalidRewriting OC_InvalidRewriting nb_InvalidRewriting rfl rfl (by decide) (by decide), fun s v u h => bI_InvalidRewriting s [v, u] h rfl, fun s v u h => bK_InvalidRewriting.to s [v] [u] h rfl rfl, fun s v h => bO_InvalidRewriting s [v] h rfl, mC_InvalidRewriting⟩, rfl⟩, EC_InvalidRewriting, ⟨ga_InvalidRewriting, gg_InvalidRewriting, eC_InvalidRewriting, hC_InvalidRewriting⟩, nb_InvalidRewriting⟩
theorem cv_InvalidScript {K : PySem.W.Frag} {h : Heap} {mg : Str → Option Value}
  {C_InvalidScript fI_InvalidScript TI_InvalidScript N_InvalidScript CB_InvalidScript : Addr} {nm_InvalidScript qn_InvalidScript : Str} {bs_InvalidScript : List Value} {sn_InvalidScript : List Str} {sub_InvalidScript : List Value} {ab_InvalidScript : Bool} {col_InvalidScript : Option Bool} {dd_InvalidScript : Option Addr} {m0_InvalidScript m1_InvalidScript m2_InvalidScript m3_InvalidScript m5_InvalidScript : Option Value} {odI_InvalidScript anI_InvalidScript odT_InvalidScript : Option Addr} {slI_InvalidScript slT_InvalidScript : Array (Option Value)} {ocI_InvalidScript kVI_InvalidScript dcI_InvalidScript pmI_InvalidScript cdI_InvalidScript ctI_InvalidScript : Value} {nT_InvalidScript : Nat}
  (X : K.In h) (G : h.Ns mainGlobals mg)
  (aC_InvalidScript : PySem.W.nsIn K mainGlobals "InvalidScript" = some (some (.ref C_InvalidScript)))
  (xL_InvalidScript : K.lookup C_InvalidScript = some (excClassObj nm_InvalidScript qn_InvalidScript C_InvalidScript N_InvalidScript bs_InvalidScript [.ref CB_InvalidScript, .type "ValueError", .type "Exception", .type "BaseException", .type "object"] true sn_InvalidScript sub_InvalidScript ab_InvalidScript col_InvalidScript dd_InvalidScript m0_InvalidScript m1_InvalidScript m2_InvalidScript m3_InvalidScript m5_InvalidScript "ValueError.__new__"))
  (sa_InvalidScript : PySem.W.findIn K (.ref C_InvalidScript) "__setattr__" = some (some (.builtin "object.__setattr__")))
  (ga_InvalidScript : PySem.W.findIn K (.ref C_InvalidScript) "__getattribute__" = some (some (.builtin "BaseException.__getattribute__")))
  (gg_InvalidScript : PySem.W.findIn K (.ref C_InvalidScript) "__getattr__" = some none)
  (nb_InvalidScript : PySem.W.findIn K (.ref C_InvalidScript) "problem" = some none)
  (ca_InvalidScript : PySem.W.findIn K (.ref C_InvalidScript) "__class__" = some (some (.builtin "object.__class__")))
  (cm_InvalidScript : PySem.W.mroIn K C_InvalidScript (.type "object") = some true)
  (kC_InvalidScript : PySem.W.keepIn K (.ref C_InvalidScript) = true)
  (eC_InvalidScript : PySem.W.subIn K (.ref C_InvalidScript) (.type "BaseException") = some true)
  (tC_InvalidScript : PySem.W.typeIn K (.ref C_InvalidScript) = some (.type "type"))
  (hC_InvalidScript : PySem.W.hasDictIn K C_InvalidScript = true)
  (iC_InvalidScript : PySem.W.findIn K (.ref C_InvalidScript) "__init__" = some (some (.ref fI_InvalidScript)))
  (tI_InvalidScript : PySem.W.typeIn K (.ref fI_InvalidScript) = some (.type "function"))
  (lI_InvalidScript : K.lookup fI_InvalidScript = some ⟨ocI_InvalidScript, odI_InvalidScript, .func (PySem.W.fnOf "__init__" "InvalidScript.__init__" (defArgs s_init_InvalidScript) (defBody s_init_InvalidScript) (defScope s_init_InvalidScript) (.ref TI_InvalidScript) kVI_InvalidScript dcI_InvalidScript pmI_InvalidScript anI_InvalidScript cdI_InvalidScript ctI_InvalidScript), slI_InvalidScript⟩)
  (cI_InvalidScript : PySem.W.codeIn K cdI_InvalidScript "InvalidScript.__init__" = true)
  (kI_InvalidScript : PySem.W.keepIn K (.ref fI_InvalidScript) = true)
  (lT_InvalidScript : K.lookup TI_InvalidScript = some ⟨.type "tuple", odT_InvalidScript, .seq #[.none] nT_InvalidScript, slT_InvalidScript⟩)
  (cn : PySem.W.specialIn K (.builtin "object.__class__") "__get__" = some (some (.builtin "getset_descriptor.__get__")))
  (ct : PySem.W.takesIn K (.builtin "object.__class__") = some true) :
  mg "InvalidScript" = some (.ref C_InvalidScript) ∧ (∀ (P : Program) (w : World) (base : Heap), ErrV P w K mg base fldT 1 "InvalidScript" "problem") ∧ ExcC K C_InvalidScript ∧ XfC K C_InvalidScript ∧ PySem.W.findIn K (.ref C_InvalidScript) "problem" = some none := by
  have mC_InvalidScript := PySem.W.mg_of X G aC_InvalidScript
  have EC_InvalidScript : ExcC K C_InvalidScript := ⟨ga_InvalidScript, gg_InvalidScript, eC_InvalidScript, hC_InvalidScript, ca_InvalidScript, cn, ct, cm_InvalidScript⟩
  have OC_InvalidScript : OexC K C_InvalidScript := ⟨⟨nm_InvalidScript, qn_InvalidScript, N_InvalidScript, bs_InvalidScript, _, sn_InvalidScript, sub_InvalidScript, ab_InvalidScript, col_InvalidScript, dd_InvalidScript, m0_InvalidScript, m1_InvalidScript, m2_InvalidScript, m3_InvalidScript, m5_InvalidScript, xL_InvalidScript, by rfl⟩, sa_InvalidScript, eC_InvalidScript, tC_InvalidScript, kC_InvalidScript⟩
  have FI_InvalidScript : FunD K "__init__" "InvalidScript.__init__" (defArgs s_init_InvalidScript) (defBody s_init_InvalidScript) (defScope s_init_InvalidScript) [.non] [] fI_InvalidScript _ := ⟨⟨ocI_InvalidScript, odI_InvalidScript, _, kVI_InvalidScript, dcI_InvalidScript, pmI_InvalidScript, anI_InvalidScript, cdI_InvalidScript, ctI_InvalidScript, slI_InvalidScript, rfl, lI_InvalidScript, cI_InvalidScript, .inr ⟨by simp, TI_InvalidScript, _, [.none], nT_InvalidScript, rfl, lT_InvalidScript, rfl, .cons rfl .nil⟩, .inl rfl⟩, kI_InvalidScript⟩
  obtain ⟨ds_InvalidScript, rds_InvalidScript, bI_InvalidScript⟩ := FI_InvalidScript.binds1 (ps := ["self", "problem"]) 2 1 (by simp) rfl (fun _ _ _ _ _ _ _ us its h1 h2 => match us, its, h1, h2 with | [_, _], [_], _, _ => ⟨_, rfl, rfl⟩)
  cases rds_InvalidScript
  obtain ⟨de_InvalidScript, rde_InvalidScript, bO_InvalidScript⟩ := FI_InvalidScript.binds1 (ps := ["self", "problem"]) 1 0 (by simp) rfl (fun _ _ _ _ _ _ _ us its h1 h2 => match us, its, h1, h2 with | [_], [_], _, _ => ⟨_, rfl, rfl⟩)
  obtain ⟨dz_InvalidScript, rfl, dr_InvalidScript⟩ := vals1 rde_InvalidScript
  cases dr_InvalidScript
  obtain ⟨dk_InvalidScript, bK_InvalidScript⟩ := FI_InvalidScript.kbindsD (ps := ["self", "problem"]) 1 ["problem"] (fun us _ ws => us ++ ws) (by simp) (fun r1 _ r3 => r1.append r3) (fun _ _ _ _ _ _ _ us its ws h1 h2 h3 => match us, its, ws, h1, h2, h3 with | [_], [_], [_], _, _, _ => ⟨_, rfl, rfl⟩)
  exact ⟨mC_InvalidScript, fun P w base => ⟨⟨C_InvalidScript, fI_InvalidScript, _, _, OC_InvalidScript, iC_InvalidScript, tI_InvalidScript, init_mk FI_InvalidScript sc_init_InvalidScript OC_InvalidScript nb_InvalidScript rfl rfl (by decide) (by decide), fun s v u h => bI_InvalidScript s [v, u] h rfl, fun s v u h => bK_InvalidScript.to s [v] [u] h rfl rfl, fun s v h => bO_InvalidScript s [v] h rfl, mC_InvalidScript⟩, rfl⟩, EC_InvalidScript, ⟨ga_InvalidScript, gg_InvalidScript, eC_InvalidScript, hC_InvalidScript⟩, nb_InvalidScript⟩
theorem cv_InvalidState {K : PySem.W.Frag} {h : Heap} {mg : Str → Option Value}
  {C_InvalidState fI_InvalidState TI_InvalidState N_InvalidState CB_InvalidState : Addr} {nm_InvalidState qn_InvalidState : Str} {bs_InvalidState : List Value} {sn_InvalidState : List Str} {sub_InvalidState : List Value} {ab_InvalidState : Bool} {col_InvalidState : Option Bool} {dd_InvalidState : Option Addr} {m0_InvalidState m1_InvalidState m2_InvalidState m3_InvalidState m5_InvalidState : Option Value} {odI_InvalidState anI_InvalidState odT_InvalidState : Option Addr} {slI_InvalidState slT_InvalidState : Array (Option Value)} {ocI_InvalidState kVI_InvalidState dcI_InvalidState pmI_InvalidState cdI_InvalidState ctI_InvalidState : Value} {nT_InvalidState : Nat}
  (X : K.In h) (G : h.Ns mainGlobals mg)
  (aC_InvalidState : PySem.W.nsIn K mainGlobals "InvalidState" = some (some (.ref C_InvalidState)))
  (xL_InvalidState : K.lookup C_InvalidState = some (excClassObj nm_InvalidState qn_InvalidState C_InvalidState N_InvalidState bs_InvalidState [.ref CB_InvalidState, .type "ValueError", .type "Exception", .type "BaseException", .type "object"] true sn_InvalidState sub_InvalidState ab_InvalidState col_InvalidState dd_InvalidState m0_InvalidState m1_InvalidState m2_InvalidState m3_InvalidState m5_InvalidState "ValueError.__new__"))
  (sa_InvalidState : PySem.W.findIn K (.ref C_InvalidState) "__setattr__" = some (some (.builtin "object.__setattr__")))
  (ga_InvalidState : PySem.W.findIn K (.ref C_InvalidState) "__getattribute__" = some (some (.builtin "BaseException.__getattribute__")))
  (gg_InvalidState : PySem.W.findIn K (.ref C_InvalidState) "__getattr__" = some none)
  (nb_InvalidState : PySem.W.findIn K (.ref C_InvalidState) "thing" = some none)
  (ca_InvalidState : PySem.W.findIn K (.ref C_InvalidState) "__class__" = some (some (.builtin "object.__class__")))
  (cm_InvalidState : PySem.W.mroIn K C_InvalidState (.type "object") = some true)
  (kC_InvalidState : PySem.W.keepIn K (.ref C_InvalidState) = true)
  (eC_InvalidState : PySem.W.subIn K (.ref C_InvalidState) (.type "BaseException") = some true)
  (tC_InvalidState : PySem.W.typeIn K (.ref C_InvalidState) = some (.type "type"))
  (hC_InvalidState : PySem.W.hasDictIn K C_InvalidState = true)
  (iC_InvalidState : PySem.W.findIn K (.ref C_InvalidState) "__init__" = some (some (.ref fI_InvalidState)))
  (tI_InvalidState : PySem.W.typeIn K (.ref fI_InvalidState) = some (.type "function"))
  (lI_InvalidState : K.lookup fI_InvalidState = some ⟨ocI_InvalidState, odI_InvalidState, .func (PySem.W.fnOf "__init__" "InvalidState.__init__" (defArgs s_init_InvalidState) (defBody s_init_InvalidState) (defScope s_init_InvalidState) (.ref TI_InvalidState) kVI_InvalidState dcI_InvalidState pmI_InvalidState anI_InvalidState cdI_InvalidState ctI_InvalidState), slI_InvalidState⟩)
  (cI_InvalidState : PySem.W.codeIn K cdI_InvalidState "InvalidState.__init__" = true)
  (kI_InvalidState : PySem.W.keepIn K (.ref fI_InvalidState) = true)
  (lT_InvalidState : K.lookup TI_InvalidState = some ⟨.type "tuple", odT_InvalidState, .seq #[.none] nT_InvalidState, slT_InvalidState⟩)
  (cn : PySem.W.specialIn K (.builtin "object.__class__") "__get__" = some (some (.builtin "getset_descriptor.__get__")))
  (ct : PySem.W.takesIn K (.builtin "object.__class__") = some true) :
  mg "InvalidState" = some (.ref C_InvalidState) ∧ (∀ (P : Program) (w : World) (base : Heap), ErrV P w K mg base fldT 1 "InvalidState" "thing") ∧ ExcC K C_InvalidState ∧ XfC K C_InvalidState ∧ PySem.W.findIn K (.ref C_InvalidState) "thing" = some none := by
  have mC_InvalidState := PySem.W.mg_of X G aC_InvalidState
  have EC_InvalidState : ExcC K C_InvalidState := ⟨ga_InvalidState, gg_InvalidState, eC_InvalidState, hC_InvalidState, ca_InvalidState, cn, ct, cm_InvalidState⟩
  have OC_InvalidState : OexC K C_InvalidState := ⟨⟨nm_InvalidState, qn_InvalidState, N_InvalidState, bs_InvalidState, _, sn_InvalidState, sub_InvalidState, ab_InvalidState, col_InvalidState, dd_InvalidState, m0_InvalidState, m1_InvalidState, m2_InvalidState, m3_InvalidState, m5_InvalidState, xL_InvalidState, by rfl⟩, sa_InvalidState, eC_InvalidState, tC_InvalidState, kC_InvalidState⟩
  have FI_InvalidState : FunD K "__init__" "InvalidState.__init__" (defArgs s_init_InvalidState) (defBody s_init_InvalidState) (defScope s_init_InvalidState) [.non] [] fI_InvalidState _ := ⟨⟨ocI_InvalidState, odI_InvalidState, _, kVI_InvalidState, dcI_InvalidState, pmI_InvalidState, anI_InvalidState, cdI_InvalidState, ctI_InvalidState, slI_InvalidState, rfl, lI_InvalidState, cI_InvalidState, .inr ⟨by simp, TI_InvalidState, _, [.none], nT_InvalidState, rfl, lT_InvalidState, rfl, .cons rfl .nil⟩, .inl rfl⟩, kI_InvalidState⟩
  obtain ⟨ds_InvalidState, rds_InvalidState, bI_InvalidState⟩ := FI_InvalidState.binds1 (ps := ["self", "thing"]) 2 1 (by simp) rfl (fun _ _ _ _ _ _ _ us its h1 h2 => match us, its, h1, h2 with | [_, _], [_], _, _ => ⟨_, rfl, rfl⟩)
  cases rds_InvalidState
  obtain ⟨de_InvalidState, rde_InvalidState, bO_InvalidState⟩ := FI_InvalidState.binds1 (ps := ["self", "thing"]) 1 0 (by simp) rfl (fun _ _ _ _ _ _ _ us its h1 h2 => match us, its, h1, h2 with | [_], [_], _, _ => ⟨_, rfl, rfl⟩)
  obtain ⟨dz_InvalidState, rfl, dr_InvalidState⟩ := vals1 rde_InvalidState
  cases dr_InvalidState
  obtain ⟨dk_InvalidState, bK_InvalidState⟩ := FI_InvalidState.kbindsD (ps := ["self", "thing"]) 1 ["thing"] (fun us _ ws => us ++ ws) (by simp) (fun r1 _ r3 => r1.append r3) (fun _ _ _ _ _ _ _ us its ws h1 h2 h3 => match us, its, ws, h1, h2, h3 with | [_], [_], [_], _, _, _ => ⟨_, rfl, rfl⟩)
  exact ⟨mC_InvalidState, fun P w base => ⟨⟨C_InvalidState, fI_InvalidState, _, _, OC_InvalidState, iC_InvalidState, tI_InvalidState, init_mk FI_InvalidState sc_init_InvalidState OC_InvalidState nb_InvalidState rfl rfl (by decide) (by decide), fun s v u h => bI_InvalidState s [v, u] h rfl, fun s v u h => bK_InvalidState.to s [v] [u] h rfl rfl, fun s v h => bO_InvalidState s [v] h rfl, mC_InvalidState⟩, rfl⟩, EC_InvalidState, ⟨ga_InvalidState, gg_InvalidState, eC_InvalidState, hC_InvalidState⟩, nb_InvalidState⟩
theorem cv_InvalidTree {K : PySem.W.Frag} {h : Heap} {mg : Str → Option Value}
  {C_InvalidTree fI_InvalidTree TI_InvalidTree N_InvalidTree CB_InvalidTree : Addr} {nm_InvalidTree qn_InvalidTree : Str} {bs_InvalidTree : List Value} {sn_InvalidTree : List Str} {sub_InvalidTree : List Value} {ab_InvalidTree : Bool} {col_InvalidTree : Option Bool} {dd_InvalidTree : Option Addr} {m0_InvalidTree m1_InvalidTree m2_InvalidTree m3_InvalidTree m5_InvalidTree : Option Value} {odI_InvalidTree anI_InvalidTree odT_InvalidTree : Option Addr} {slI_InvalidTree slT_InvalidTree : Array (Option Value)} {ocI_InvalidTree kVI_InvalidTree dcI_InvalidTree pmI_InvalidTree cdI_InvalidTree ctI_InvalidTree : Value} {nT_InvalidTree : Nat}
  (X : K.In h) (G : h.Ns mainGlobals mg)
  (aC_InvalidTree : PySem.W.nsIn K mainGlobals "InvalidTree" = some (some (.ref C_InvalidTree)))
  (xL_InvalidTree : K.lookup C_InvalidTree = some (excClassObj nm_InvalidTree qn_InvalidTree C_InvalidTree N_InvalidTree bs_InvalidTree [.ref CB_InvalidTree, .type "ValueError", .type "Exception", .type "BaseException", .type "object"] true sn_InvalidTree sub_InvalidTree ab_InvalidTree col_InvalidTree dd_InvalidTree m0_InvalidTree m1_InvalidTree m2_InvalidTree m3_InvalidTree m5_InvalidTree "ValueError.__new__"))
  (sa_InvalidTree : PySem.W.findIn K (.ref C_InvalidTree) "__setattr__" = some (some (.builtin "object.__setattr__")))
  (ga_InvalidTree : PySem.W.findIn K (.ref C_InvalidTree) "__getattribute__" = some (some (.builtin "BaseException.__getattribute__")))
  (gg_InvalidTree : PySem.W.findIn K (.ref C_InvalidTree) "__getattr__" = some none)
  (nb_InvalidTree : PySem.W.findIn K (.ref C_InvalidTree) "thing" = some none)
  (ca_InvalidTree : PySem.W.findIn K (.ref C_InvalidTree) "__class__" = some (some (.builtin "object.__class__")))
  (cm_InvalidTree : PySem.W.mroIn K C_InvalidTree (.type "object") = some true)
  (kC_InvalidTree : PySem.W.keepIn K (.ref C_InvalidTree) = true)
  (eC_InvalidTree : PySem.W.subIn K (.ref C_InvalidTree) (.type "BaseException") = some true)
  (tC_InvalidTree : PySem.W.typeIn K (.ref C_InvalidTree) = some (.type "type"))
  (hC_InvalidTree : PySem.W.hasDictIn K C_InvalidTree = true)
  (iC_InvalidTree : PySem.W.findIn K (.ref C_InvalidTree) "__init__" = some (some (.ref fI_InvalidTree)))
  (tI_InvalidTree : PySem.W.typeIn K (.ref fI_InvalidTree) = some (.type "function"))
  (lI_InvalidTree : K.lookup fI_InvalidTree = some ⟨ocI_InvalidTree, odI_InvalidTree, .func (PySem.W.fnOf "__init__" "InvalidTree.__init__" (defArgs s_init_InvalidTree) (defBody s_init_InvalidTree) (defScope s_init_InvalidTree) (.ref TI_InvalidTree) kVI_InvalidTree dcI_InvalidTree pmI_InvalidTree anI_InvalidTree cdI_InvalidTree ctI_InvalidTree), slI_InvalidTree⟩)
  (cI_InvalidTree : PySem.W.codeIn K cdI_InvalidTree "InvalidTree.__init__" = true)
  (kI_InvalidTree : PySem.W.keepIn K (.ref fI_InvalidTree) = true)
  (lT_InvalidTree : K.lookup TI_InvalidTree = some ⟨.type "tuple", odT_InvalidTree, .seq #[.none] nT_InvalidTree, slT_InvalidTree⟩)
  (cn : PySem.W.specialIn K (.builtin "object.__class__") "__get__" = some (some (.builtin "getset_descriptor.__get__")))
  (ct : PySem.W.takesIn K (.builtin "object.__class__") = some true) :
  mg "InvalidTree" = some (.ref C_InvalidTree) ∧ (∀ (P : Program) (w : World) (base : Heap), ErrV P w K mg base fldT 1 "InvalidTree" "thing") ∧ ExcC K C_InvalidTree ∧ XfC K C_InvalidTree ∧ PySem.W.findIn K (.ref C_InvalidTree) "thing" = some none := by
  have mC_InvalidTree := PySem.W.mg_of X G aC_InvalidTree
  have EC_InvalidTree : ExcC K C_InvalidTree := ⟨ga_InvalidTree, gg_InvalidTree, eC_InvalidTree, hC_InvalidTree, ca_InvalidTree, cn, ct, cm_InvalidTree⟩
  have OC_InvalidTree : OexC K C_InvalidTree := ⟨⟨nm_InvalidTree, qn_InvalidTree, N_InvalidTree, bs_InvalidTree, _, sn_InvalidTree, sub_InvalidTree, ab_InvalidTree, col_InvalidTree, dd_InvalidTree, m0_InvalidTree, m1_InvalidTree, m2_InvalidTree, m3_InvalidTree, m5_InvalidTree, xL_InvalidTree, by rfl⟩, sa_InvalidTree, eC_InvalidTree, tC_InvalidTree, kC_InvalidTree⟩
  have FI_InvalidTree : FunD K "__init__" "InvalidTree.__init__" (defArgs s_init_InvalidTree) (defBody s_init_InvalidTree) (defScope s_init_InvalidTree) [.non] [] fI_InvalidTree _ := ⟨⟨ocI_InvalidTree, odI_InvalidTree, _, kVI_InvalidTree, dcI_InvalidTree, pmI_InvalidTree, anI_InvalidTree, cdI_InvalidTree, ctI_InvalidTree, slI_InvalidTree, rfl, lI_InvalidTree, cI_InvalidTree, .inr ⟨by simp, TI_InvalidTree, _, [.none], nT_InvalidTree, rfl, lT_InvalidTree, rfl, .cons rfl .nil⟩, .inl rfl⟩, kI_InvalidTree⟩
  obtain ⟨ds_InvalidTree, rds_InvalidTree, bI_InvalidTree⟩ := FI_InvalidTree.binds1 (ps := ["self", "thing"]) 2 1 (by simp) rfl (fun _ _ _ _ _ _ _ us its h1 h2 => match us, its, h1, h2 with | [_, _], [_], _, _ => ⟨_, rfl, rfl⟩)
  cases rds_InvalidTree
  obtain ⟨de_InvalidTree, rde_InvalidTree, bO_InvalidTree⟩ := FI_InvalidTree.binds1 (ps := ["self", "thing"]) 1 0 (by simp) rfl (fun _ _ _ _ _ _ _ us its h1 h2 => match us, its, h1, h2 with | [_], [_], _, _ => ⟨_, rfl, rfl⟩)
  obtain ⟨dz_InvalidTree, rfl, dr_InvalidTree⟩ := vals1 rde_InvalidTree
  cases dr_InvalidTree
  obtain ⟨dk_InvalidTree, bK_InvalidTree⟩ := FI_InvalidTree.kbindsD (ps := ["self", "thing"]) 1 ["thing"] (fun us _ ws => us ++ ws) (by simp) (fun r1 _ r3 => r1.append r3) (fun _ _ _ _ _ _ _ us its ws h1 h2 h3 => match us, its, ws, h1, h2, h3 with | [_], [_], [_], _, _, _ => ⟨_, rfl, rfl⟩)
  exact ⟨mC_InvalidTree, fun P w base => ⟨⟨C_InvalidTree, fI_InvalidTree, _, _, OC_InvalidTree, iC_InvalidTree, tI_InvalidTree, init_mk FI_InvalidTree sc_init_InvalidTree OC_InvalidTree nb_InvalidTree rfl rfl (by decide) (by decide), fun s v u h => bI_InvalidTree s [v, u] h rfl, fun s v u h => bK_InvalidTree.to s [v] [u] h rfl rfl, fun s v h => bO_InvalidTree s [v] h rfl, mC_InvalidTree⟩, rfl⟩, EC_InvalidTree, ⟨ga_InvalidTree, gg_InvalidTree, eC_InvalidTree, hC_InvalidTree⟩, nb_InvalidTree⟩
theorem cv_Needed {K : PySem.W.Frag} {h : Heap} {mg : Str → Option Value}
  {C_Needed fI_Needed TI_Needed N_Needed CB_Needed : Addr} {nm_Needed qn_Needed : Str} {bs_Needed : List Value} {sn_Needed : List Str} {sub_Needed : List Value} {ab_Needed : Bool} {col_Needed : Option Bool} {dd_Needed : Option Addr} {m0_Needed m1_Needed m2_Needed m3_Needed m5_Needed : Option Value} {odI_Needed anI_Needed odT_Needed : Option Addr} {slI_Needed slT_Needed : Array (Option Value)} {ocI_Needed kVI_Needed dcI_Needed pmI_Needed cdI_Needed ctI_Needed : Value} {nT_Needed : Nat}
  (X : K.In h) (G : h.Ns mainGlobals mg)
  (aC_Needed : PySem.W.nsIn K mainGlobals "Needed" = some (some (.ref C_Needed)))
  (xL_Needed : K.lookup C_Needed = some (excClassObj nm_Needed qn_Needed C_Needed N_Needed bs_Needed [.ref CB_Needed, .type "ValueError", .type "Exception", .type "BaseException", .type "object"] true sn_Needed sub_Needed ab_Needed col_Needed dd_Needed m0_Needed m1_Needed m2_Needed m3_Needed m5_Needed "ValueError.__new__"))
  (sa_Needed : PySem.W.findIn K (.ref C_Needed) "__setattr__" = some (some (.builtin "object.__setattr__")))
  (ga_Needed : PySem.W.findIn K (.ref C_Needed) "__getattribute__" = some (some (.builtin "BaseException.__getattribute__")))
  (gg_Needed : PySem.W.findIn K (.ref C_Needed) "__getattr__" = some none)
  (nb_Needed : PySem.W.findIn K (.ref C_Needed) "number" = some none)
  (ca_Needed : PySem.W.findIn K (.ref C_Needed) "__class__" = some (some (.builtin "object.__class__")))
  (cm_Needed : PySem.W.mroIn K C_Needed (.type "object") = some true)
  (kC_Needed : PySem.W.keepIn K (.ref C_Needed) = true)
  (eC_Needed : PySem.W.subIn K (.ref C_Needed) (.type "BaseException") = some true)
  (tC_Needed : PySem.W.typeIn K (.ref C_Needed) = some (.type "type"))
  (hC_Needed : PySem.W.hasDictIn K C_Needed = true)
  (iC_Needed : PySem.W.findIn K (.ref C_Needed) "__init__" = some (some (.ref fI_Needed)))
  (tI_Needed : PySem.W.typeIn K (.ref fI_Needed) = some (.type "function"))
  (lI_Needed : K.lookup fI_Needed = some ⟨ocI_Needed, odI_Needed, .func (PySem.W.fnOf "__init__" "Needed.__init__" (defArgs s_init_Needed) (defBody s_init_Needed) (defScope s_init_Needed) (.ref TI_Needed) kVI_Needed dcI_Needed pmI_Needed anI_Needed cdI_Needed ctI_Needed), slI_Needed⟩)
  (cI_Needed : PySem.W.codeIn K cdI_Needed "Needed.__init__" = true)
  (kI_Needed : PySem.W.keepIn K (.ref fI_Needed) = true)
  (lT_Needed : K.lookup TI_Needed = some ⟨.type "tuple", odT_Needed, .seq #[.none] nT_Needed, slT_Needed⟩)
  (cn : PySem.W.specialIn K (.builtin "object.__class__") "__get__" = some (some (.builtin "getset_descriptor.__get__")))
  (ct : PySem.W.takesIn K (.builtin "object.__class__") = some true) :
  mg "Needed" = some (.ref C_Needed) ∧ (∀ (P : Program) (w : World) (base : Heap), ErrV P w K mg base fldT 1 "Needed" "number") ∧ ExcC K C_Needed ∧ XfC K C_Needed ∧ PySem.W.findIn K (.ref C_Needed) "number" = some none := by
  have mC_Needed := PySem.W.mg_of X G aC_Needed
  have EC_Needed : ExcC K C_Needed := ⟨ga_Needed, gg_Needed, eC_Needed, hC_Needed, ca_Needed, cn, ct, cm_Needed⟩
  have OC_Needed : OexC K C_Needed := ⟨⟨nm_Needed, qn_Needed, N_Needed, bs_Needed, _, sn_Needed, sub_Needed, ab_Needed, col_Needed, dd_Needed, m0_Needed, m1_Needed, m2_Needed, m3_Needed, m5_Needed, xL_Needed, by rfl⟩, sa_Needed, eC_Needed, tC_Needed, kC_Needed⟩
  have FI_Needed : FunD K "__init__" "Needed.__init__" (defArgs s_init_Needed) (defBody s_init_Needed) (defScope s_init_Needed) [.non] [] fI_Needed _ := ⟨⟨ocI_Needed, odI_Needed, _, kVI_Needed, dcI_Needed, pmI_Needed, anI_Needed, cdI_Needed, ctI_Needed, slI_Needed, rfl, lI_Needed, cI_Needed, .inr ⟨by simp, TI_Needed, _, [.none], nT_Needed, rfl, lT_Needed, rfl, .cons rfl .nil⟩, .inl rfl⟩, kI_Needed⟩
  obtain ⟨ds_Needed, rds_Needed, bI_Needed⟩ := FI_Needed.binds1 (ps := ["self", "number"]) 2 1 (by simp) rfl (fun _ _ _ _ _ _ _ us its h1 h2 => match us, its, h1, h2 with | [_, _], [_], _, _ => ⟨_, rfl, rfl⟩)
  cases rds_Needed
  obtain ⟨de_Needed, rde_Needed, bO_Needed⟩ := FI_Needed.binds1 (ps := ["self", "number"]) 1 0 (by simp) rfl (fun _ _ _ _ _ _ _ us its h1 h2 => match us, its, h1, h2 with | [_], [_], _, _ => ⟨_, rfl, rfl⟩)
  obtain ⟨dz_Needed, rfl, dr_Needed⟩ := vals1 rde_Needed
  cases dr_Needed
  obtain ⟨dk_Needed, bK_Needed⟩ := FI_Needed.kbindsD (ps := ["self", "number"]) 1 ["number"] (fun us _ ws => us ++ ws) (by simp) (fun r1 _ r3 => r1.append r3) (fun _ _ _ _ _ _ _ us its ws h1 h2 h3 => match us, its, ws, h1, h2, h3 with | [_], [_], [_], _, _, _ => ⟨_, rfl, rfl⟩)
  exact ⟨mC_Needed, fun P w base => ⟨⟨C_Needed, fI_Needed, _, _, OC_Needed, iC_Needed, tI_Needed, init_mk FI_Needed sc_init_Needed OC_Needed nb_Needed rfl rfl (by decide) (by decide), fun s v u h => bI_Needed s [v, u] h rfl, fun s v u h => bK_Needed.to s [v] [u] h rfl rfl, fun s v h => bO_Needed s [v] h rfl, mC_Needed⟩, rfl⟩, EC_Needed, ⟨ga_Needed, gg_Needed, eC_Needed, hC_Needed⟩, nb_Needed⟩
theorem cv_NoSuchName {K : PySem.W.Frag} {h : Heap} {mg : Str → Option Value}
  {C_NoSuchName fI_NoSuchName TI_NoSuchName N_NoSuchName CB_NoSuchName : Addr} {nm_NoSuchName qn_NoSuchName : Str} {bs_NoSuchName : List Value} {sn_NoSuchName : List Str} {sub_NoSuchName : List Value} {ab_NoSuchName : Bool} {col_NoSuchName : Option Bool} {dd_NoSuchName : Option Addr} {m0_NoSuchName m1_NoSuchName m2_NoSuchName m3_NoSuchName m5_NoSuchName : Option Value} {odI_NoSuchName anI_NoSuchName odT_NoSuchName : Option Addr} {slI_NoSuchName slT_NoSuchName : Array (Option Value)} {ocI_NoSuchName kVI_NoSuchName dcI_NoSuchName pmI_NoSuchName cdI_NoSuchName ctI_NoSuchName : Value} {nT_NoSuchName : Nat}
  (X : K.In h) (G : h.Ns mainGlobals mg)
  (aC_NoSuchName : PySem.W.nsIn K mainGlobals "NoSuchName" = some (some (.ref C_NoSuchName)))
  (xL_NoSuchName : K.lookup C_NoSuchName = some (excClassObj nm_NoSuchName qn_NoSuchName C_NoSuchName N_NoSuchName bs_NoSuchName [.ref CB_NoSuchName, .type "ValueError", .type "Exception", .type "BaseException", .type "object"] true sn_NoSuchName sub_NoSuchName ab_NoSuchName col_NoSuchName dd_NoSuchName m0_NoSuchName m1_NoSuchName m2_NoSuchName m3_NoSuchName m5_NoSuchName "ValueError.__new__"))
  (sa_NoSuchName : PySem.W.findIn K (.ref C_NoSuchName) "__setattr__" = some (some (.builtin "object.__setattr__")))
  (ga_NoSuchName : PySem.W.findIn K (.ref C_NoSuchName) "__getattribute__" = some (some (.builtin "BaseException.__getattribute__")))
  (gg_NoSuchName : PySem.W.findIn K (.ref C_NoSuchName) "__getattr__" = some none)
  (nb_NoSuchName : PySem.W.findIn K (.ref C_NoSuchName) "name" = some none)
  (ca_NoSuchName : PySem.W.findIn K (.ref C_NoSuchName) "__class__" = some (some (.builtin "object.__class__")))
  (cm_NoSuchName : PySem.W.mroIn K C_NoSuchName (.type "object") = some true)
  (kC_NoSuchName : PySem.W.keepIn K (.ref C_NoSuchName) = true)
  (eC_NoSuchName : PySem.W.subIn K (.ref C_NoSuchName) (.type "BaseException") = some true)
  (tC_NoSuchName : PySem.W.typeIn K (.ref C_NoSuchName) = some (.type "type"))
  (hC_NoSuchName : PySem.W.hasDictIn K C_NoSuchName = true)
  (iC_NoSuchName : PySem.W.findIn K (.ref C_NoSuchName) "__init__" = some (some (.ref fI_NoSuchName)))
  (tI_NoSuchName : PySem.W.typeIn K (.ref fI_NoSuchName) = some (.type "function"))
  (lI_NoSuchName : K.lookup fI_NoSuchName = some ⟨ocI_NoSuchName, odI_NoSuchName, .func (PySem.W.fnOf "__init__" "NoSuchName.__init__" (defArgs s_init_NoSuchName) (defBody s_init_NoSuchName) (defScope s_init_NoSuchName) (.ref TI_NoSuchName) kVI_NoSuchName dcI_NoSuchName pmI_NoSuchName anI_NoSuchName cdI_NoSuchName ctI_NoSuchName), slI_NoSuchName⟩)
  (cI_NoSuchName : PySem.W.codeIn K cdI_NoSuchName "NoSuchName.__init__" = true)
  (kI_NoSuchName : PySem.W.keepIn K (.ref fI_NoSuchName) = true)
  (lT_NoSuchName : K.lookup TI_NoSuchName = some ⟨.type "tuple", odT_NoSuchName, .seq #[.none] nT_NoSuchName, slT_NoSuchName⟩)
  (cn : PySem.W.specialIn K (.builtin "object.__class__") "__get__" = some (some (.builtin "getset_descriptor.__get__")))
  (ct : PySem.W.takesIn K (.builtin "object.__class__") = some true) :
  mg "NoSuchName" = some (.ref C_NoSuchName) ∧ (∀ (P : Program) (w : World) (base : Heap), ErrV P w K mg base fldT 1 "NoSuchName" "name") ∧ ExcC K C_NoSuchName ∧ XfC K C_NoSuchName ∧ PySem.W.findIn K (.ref C_NoSuchName) "name" = some none := by
  have mC_NoSuchName := PySem.W.mg_of X G aC_NoSuchName
  have EC_NoSuchName : ExcC K C_NoSuchName := ⟨ga_NoSuchName, gg_NoSuchName, eC_NoSuchName, hC_NoSuchName, ca_NoSuchName, cn, ct, cm_NoSuchName⟩
  have OC_NoSuchName : OexC K C_NoSuchName := ⟨⟨nm_NoSuchName, qn_NoSuchName, N_NoSuchName, bs_NoSuchName, _, sn_NoSuchName, sub_NoSuchName, ab_NoSuchName, col_NoSuchName, dd_NoSuchName, m0_NoSuchName, m1_NoSuchName, m2_NoSuchName, m3_NoSuchName, m5_NoSuchName, xL_NoSuchName, by rfl⟩, sa_NoSuchName, eC_NoSuchName, tC_NoSuchName, kC_NoSuchName⟩
  have FI_NoSuchName : FunD K "__init__" "NoSuchName.__init__" (defArgs s_init_NoSuchName) (defBody s_init_NoSuchName) (defScope s_init_NoSuchName) [.non] [] fI_NoSuchName _ := ⟨⟨ocI_NoSuchName, odI_NoSuchName, _, kVI_NoSuchName, dcI_NoSuchName, pmI_NoSuchName, anI_NoSuchName, cdI_NoSuchName, ctI_NoSuchName, slI_NoSuchName, rfl, lI_NoSuchName, cI_NoSuchName, .inr ⟨by simp, TI_NoSuchName, _, [.none], nT_NoSuchName, rfl, lT_NoSuchName, rfl, .cons rfl .nil⟩, .inl rfl⟩, kI_NoSuchName⟩
  obtain ⟨ds_NoSuchName, rds_NoSuchName, bI_NoSuchName⟩ := FI_NoSuchName.binds1 (ps := ["self", "name"]) 2 1 (by simp) rfl (fun _ _ _ _ _ _ _ us its h1 h2 => match us, its, h1, h2 with | [_, _], [_], _, _ => ⟨_, rfl, rfl⟩)
  cases rds_NoSuchName
  obtain ⟨de_NoSuchName, rde_NoSuchName, bO_NoSuchName⟩ := FI_NoSuchName.binds1 (ps := ["self", "name"]) 1 0 (by simp) rfl (fun _ _ _ _ _ _ _ us its h1 h2 => match us, its, h1, h2 with | [_], [_], _, _ => ⟨_, rfl, rfl⟩)
  obtain ⟨dz_NoSuchName, rfl, dr_NoSuchName⟩ := vals1 rde_NoSuchName
  cases dr_NoSuchName
  obtain ⟨dk_NoSuchName, bK_NoSuchName⟩ := FI_NoSuchName.kbindsD (ps := ["self", "name"]) 1 ["name"] (fun us _ ws => us ++ ws) (by simp) (fun r1 _ r3 => r1.append r3) (fun _ _ _ _ _ _ _ us its ws h1 h2 h3 => match us, its, ws, h1, h2, h3 with | [_], [_], [_], _, _, _ => ⟨_, rfl, rfl⟩)
  exact ⟨mC_NoSuchName, fun P w base => ⟨⟨C_NoSuchName, fI_NoSuchName, _, _, OC_NoSuchName, iC_NoSuchName, tI_NoSuchName, init_mk FI_NoSuchName sc_init_NoSuchName OC_NoSuchName nb_NoSuchName rfl rfl (by decide) (by decide), fun s v u h => bI_NoSuchName s [v, u] h rfl, fun s v u h => bK_NoSuchName.to s [v] [u] h rfl rfl, fun s v h => bO_NoSuchName s [v] h rfl, mC_NoSuchName⟩, rfl⟩, EC_NoSuchName, ⟨ga_NoSuchName, gg_NoSuchName, eC_NoSuchName, hC_NoSuchName⟩, nb_NoSuchName⟩
theorem cv_NotOneToOne {K : PySem.W.Frag} {h : Heap} {mg : Str → Option Value}
  {C_NotOneToOne fI_NotOneToOne TI_NotOneToOne N_NotOneToOne CB_NotOneToOne : Addr} {nm_NotOneToOne qn_NotOneToOne : Str} {bs_NotOneToOne : List Value} {sn_NotOneToOne : List Str} {sub_NotOneToOne : List Value} {ab_NotOneToOne : Bool} {col_NotOneToOne : Option Bool} {dd_NotOneToOne : Option Addr} {m0_NotOneToOne m1_NotOneToOne m2_NotOneToOne m3_NotOneToOne m5_NotOneToOne : Option Value} {odI_NotOneToOne anI_NotOneToOne odT_NotOneToOne : Option Addr} {slI_NotOneToOne slT_NotOneToOne : Array (Option Value)} {ocI_NotOneToOne kVI_NotOneToOne dcI_NotOneToOne pmI_NotOneToOne cdI_NotOneToOne ctI_NotOneToOne : Value} {nT_NotOneToOne : Nat}
  (X : K.In h) (G : h.Ns mainGlobals mg)
  (aC_NotOneToOne : PySem.W.nsIn K mainGlobals "NotOneToOne" = some (some (.ref C_NotOneToOne)))
  (xL_NotOneToOne : K.lookup C_NotOneToOne = some (excClassObj nm_NotOneToOne qn_NotOneToOne C_NotOneToOne N_NotOneToOne bs_NotOneToOne [.ref CB_NotOneToOne, .type "ValueError", .type "Exception", .type "BaseException", .type "object"] true sn_NotOneToOne sub_NotOneToOne ab_NotOneToOne col_NotOneToOne dd_NotOneToOne m0_NotOneToOne m1_NotOneToOne m2_NotOneToOne m3_NotOneToOne m5_NotOneToOne "ValueError.__new__"))
  (sa_NotOneToOne : PySem.W.findIn K (.ref C_NotOneToOne) "__setattr__" = some (some (.builtin "object.__setattr__")))
  (ga_NotOneToOne : PySem.W.findIn K (.ref C_NotOneToOne) "__getattribute__" = some (some (.builtin "BaseException.__getattribute__")))
  (gg_NotOneToOne : PySem.W.findIn K (.ref C_NotOneToOne) "__getattr__" = some none)
  (nb_NotOneToOne : PySem.W.findIn K (.ref C_NotOneToOne) "states" = some none)
  (ca_NotOneToOne : PySem.W.findIn K (.ref C_NotOneToOne) "__class__" = some (some (.builtin "object.__class__")))
  (cm_NotOneToOne : PySem.W.mroIn K C_NotOneToOne (.type "object") = some true)
  (kC_NotOneToOne : PySem.W.keepIn K (.ref C_NotOneToOne) = true)
  (eC_NotOneToOne : PySem.W.subIn K (.ref C_NotOneToOne) (.type "BaseException") = some true)
  (tC_NotOneToOne : PySem.W.typeIn K (.ref C_NotOneToOne) = some (.type "type"))
  (hC_NotOneToOne : PySem.W.hasDictIn K C_NotOneToOne = true)
  (iC_NotOneToOne : PySem.W.findIn K (.ref C_NotOneToOne) "__init__" = some (some (.ref fI_NotOneToOne)))
  (tI_NotOneToOne : PySem.W.typeIn K (.ref fI_NotOneToOne) = some (.type "function"))
  (lI_NotOneToOne : K.lookup fI_NotOneToOne = some ⟨ocI_NotOneToOne, odI_NotOneToOne, .func (PySem.W.fnOf "__init__" "NotOneToOne.__init__" (defArgs s_init_NotOneToOne) (defBody s_init_NotOneToOne) (defScope s_init_NotOneToOne) (.ref TI_NotOneToOne) kVI_NotOneToOne dcI_NotOneToOne pmI_NotOneToOne anI_NotOneToOne cdI_NotOneToOne ctI_NotOneToOne), slI_NotOneToOne⟩)
  (cI_NotOneToOne : PySem.W.codeIn K cdI_NotOneToOne "NotOneToOne.__init__" = true)
  (kI_NotOneToOne : PySem.W.keepIn K (.ref fI_NotOneToOne) = true)
  (lT_NotOneToOne : K.lookup TI_NotOneToOne = some ⟨.type "tuple", odT_NotOneToOne, .seq #[.none] nT_NotOneToOne, slT_NotOneToOne⟩)
  (cn : PySem.W.specialIn K (.builtin "object.__class__") "__get__" = some (some (.builtin "getset_descriptor.__get__")))
  (ct : PySem.W.takesIn K (.builtin "object.__class__") = some true) :
  mg "NotOneToOne" = some (.ref C_NotOneToOne) ∧ (∀ (P : Program) (w : World) (base : Heap), ErrV P w K mg base fldT 1 "NotOneToOne" "states") ∧ ExcC K C_NotOneToOne ∧ XfC K C_NotOneToOne ∧ PySem.W.findIn K (.ref C_NotOneToOne) "states" = some none := by
  have mC_NotOneToOne := PySem.W.mg_of X G aC_NotOneToOne
  have EC_NotOneToOne : ExcC K C_NotOneToOne := ⟨ga_NotOneToOne, gg_NotOneToOne, eC_NotOneToOne, hC_NotOneToOne, ca_NotOneToOne, cn, ct, cm_NotOneToOne⟩
  have OC_NotOneToOne : OexC K C_NotOneToOne := ⟨⟨nm_NotOneToOne, qn_NotOneToOne, N_NotOneToOne, bs_NotOneToOne, _, sn_NotOneToOne, sub_NotOneToOne, ab_NotOneToOne, col_NotOneToOne, dd_NotOneToOne, m0_NotOneToOne, m1_NotOneToOne, m2_NotOneToOne, m3_NotOneToOne, m5_NotOneToOne, xL_NotOneToOne, by rfl⟩, sa_NotOneToOne, eC_NotOneToOne, tC_NotOneToOne, kC_NotOneToOne⟩
  have FI_NotOneToOne : FunD K "__init__" "NotOneToOne.__init__" (defArgs s_init_NotOneToOne) (defBody s_init_NotOneToOne) (defScope s_init_NotOneToOne) [.non] [] fI_NotOneToOne _ := ⟨⟨ocI_NotOneToOne, odI_NotOneToOne, _, kVI_NotOneToOne, dcI_NotOneToOne, pmI_NotOneToOne, anI_NotOneToOne, cdI_NotOneToOne, ctI_NotOneToOne, slI_NotOneToOne, rfl, lI_NotOneToOne, cI_NotOneToOne, .inr ⟨by simp, TI_NotOneToOne, _, [.none], nT_NotOneToOne, rfl, lT_NotOneToOne, rfl, .cons rfl .nil⟩, .inl rfl⟩, kI_NotOneToOne⟩
  obtain ⟨ds_NotOneToOne, rds_NotOneToOne, bI_NotOneToOne⟩ := FI_NotOneToOne.binds1 (ps := ["self", "states"]) 2 1 (by simp) rfl (fun _ _ _ _ _ _ _ us its h1 h2 => match us, its, h1, h2 with | [_, _], [_], _, _ => ⟨_, rfl, rfl⟩)
  cases rds_NotOneToOne
  obtain ⟨de_NotOneToOne, rde_NotOneToOne, bO_NotOneToOne⟩ := FI_NotOneToOne.binds1 (ps := ["self", "states"]) 1 0 (by simp) rfl (fun _ _ _ _ _ _ _ us its h1 h2 => match us, its, h1, h2 with | [_], [_], _, _ => ⟨_, rfl, rfl⟩)
  obtain ⟨dz_NotOneToOne, rfl, dr_NotOneToOne⟩ := vals1 rde_NotOneToOne
  cases dr_NotOneToOne
  obtain ⟨dk_NotOneToOne, bK_NotOneToOne⟩ := FI_NotOneToOne.kbindsD (ps := ["self", "states"]) 1 ["states"] (fun us _ ws => us ++ ws) (by simp) (fun r1 _ r3 => r1.append r3) (fun _ _ _ _ _ _ _ us its ws h1 h2 h3 => match us, its, ws, h1, h2, h3 with | [_], [_], [_], _, _, _ => ⟨_, rfl, rfl⟩)
  exact ⟨mC_NotOneToOne, fun P w base => ⟨⟨C_NotOneToOne, fI_NotOneToOne, _, _, OC_NotOneToOne, iC_NotOneToOne, tI_NotOneToOne, init_mk FI_NotOneToOne sc_init_NotOneToOne OC_NotOneToOne nb_NotOneToOne rfl rfl (by decide) (by decide), fun s v u h => bI_NotOneToOne s [v, u] h rfl, fun s v u h => bK_NotOneToOne.to s [v] [u] h rfl rfl, fun s v h => bO_NotOneToOne s [v] h rfl, mC_NotOneToOne⟩, rfl⟩, EC_NotOneToOne, ⟨ga_NotOneToOne, gg_NotOneToOne, eC_NotOneToOne, hC_NotOneToOne⟩, nb_NotOneToOne⟩
theorem cv_Unreadable {K : PySem.W.Frag} {h : Heap} {mg : Str → Option Value}
  {C_Unreadable fI_Unreadable TI_Unreadable N_Unreadable CB_Unreadable : Addr} {nm_Unreadable qn_Unreadable : Str} {bs_Unreadable : List Value} {sn_Unreadable : List Str} {sub_Unreadable : List Value} {ab_Unreadable : Bool} {col_Unreadable : Option Bool} {dd_Unreadable : Option Addr} {m0_Unreadable m1_Unreadable m2_Unreadable m3_Unreadable m5_Unreadable : Option Value} {odI_Unreadable anI_Unreadable odT_Unreadable : Option Addr} {slI_Unreadable slT_Unreadable : Array (Option Value)} {ocI_Unreadable kVI_Unreadable dcI_Unreadable pmI_Unreadable cdI_Unreadable ctI_Unreadable : Value} {nT_Unreadable : Nat}
  (X : K.In h) (G : h.Ns mainGlobals mg)
  (aC_Unreadable : PySem.W.nsIn K mainGlobals "Unreadable" = some (some (.ref C_Unreadable)))
  (xL_Unreadable : K.lookup C_Unreadable = some (excClassObj nm_Unreadable qn_Unreadable C_Unreadable N_Unreadable bs_Unreadable [.ref CB_Unreadable, .type "ValueError", .type "Exception", .type "BaseException", .type "object"] true sn_Unreadable sub_Unreadable ab_Unreadable col_Unreadable dd_Unreadable m0_Unreadable m1_Unreadable m2_Unreadable m3_Unreadable m5_Unreadable "ValueError.__new__"))
  (sa_Unreadable : PySem.W.findIn K (.ref C_Unreadable) "__setattr__" = some (some (.builtin "object.__setattr__")))
  (ga_Unreadable : PySem.W.findIn K (.ref C_Unreadable) "__getattribute__" = some (some (.builtin "BaseException.__getattribute__")))
  (gg_Unreadable : PySem.W.findIn K (.ref C_Unreadable) "__getattr__" = some none)
  (nb_Unreadable : PySem.W.findIn K (.ref C_Unreadable) "at" = some none)
  (ca_Unreadable : PySem.W.findIn K (.ref C_Unreadable) "__class__" = some (some (.builtin "object.__class__")))
  (cm_Unreadable : PySem.W.mroIn K C_Unreadable (.type "object") = some true)
  (kC_Unreadable : PySem.W.keepIn K (.ref C_Unreadable) = true)
  (eC_Unreadable : PySem.W.subIn K (.ref C_Unreadable) (.type "BaseException") = some true)
  (tC_Unreadable : PySem.W.typeIn K (.ref C_Unreadable) = some (.type "type"))
  (hC_Unreadable : PySem.W.hasDictIn K C_Unreadable = true)
  (iC_Unreadable : PySem.W.findIn K (.ref C_Unreadable) "__init__" = some (some (.ref fI_Unreadable)))
  (tI_Unreadable : PySem.W.typeIn K (.ref fI_Unreadable) = some (.type "function"))
  (lI_Unreadable : K.lookup fI_Unreadable = some ⟨ocI_Unreadable, odI_Unreadable, .func (PySem.W.fnOf "__init__" "Unreadable.__init__" (defArgs s_init_Unreadable) (defBody s_init_Unreadable) (defScope s_init_Unreadable) (.ref TI_Unreadable) kVI_Unreadable dcI_Unreadable pmI_Unreadable anI_Unreadable cdI_Unreadable ctI_Unreadable), slI_Unreadable⟩)
  (cI_Unreadable : PySem.W.codeIn K cdI_Unreadable "Unreadable.__init__" = true)
  (kI_Unreadable : PySem.W.keepIn K (.ref fI_Unreadable) = true)
  (lT_Unreadable : K.lookup TI_Unreadable = some ⟨.type "tuple", odT_Unreadable, .seq #[.none] nT_Unreadable, slT_Unreadable⟩)
  (cn : PySem.W.specialIn K (.builtin "object.__class__") "__get__" = some (some (.builtin "getset_descriptor.__get__")))
  (ct : PySem.W.takesIn K (.builtin "object.__class__") = some true) :
  mg "Unreadable" = some (.ref C_Unreadable) ∧ (∀ (P : Program) (w : World) (base : Heap), ErrV P w K mg base fldT 1 "Unreadable" "at") ∧ ExcC K C_Unreadable ∧ XfC K C_Unreadable ∧ PySem.W.findIn K (.ref C_Unreadable) "at" = some none := by
  have mC_Unreadable := PySem.W.mg_of X G aC_Unreadable
  have EC_Unreadable : ExcC K C_Unreadable := ⟨ga_Unreadable, gg_Unreadable, eC_Unreadable, hC_Unreadable, ca_Unreadable, cn, ct, cm_Unreadable⟩
  have OC_Unreadable : OexC K C_Unreadable := ⟨⟨nm_Unreadable, qn_Unreadable, N_Unreadable, bs_Unreadable, _, sn_Unreadable, sub_Unreadable, ab_Unreadable, col_Unreadable, dd_Unreadable, m0_Unreadable, m1_Unreadable, m2_Unreadable, m3_Unreadable, m5_Unreadable, xL_Unreadable, by rfl⟩, sa_Unreadable, eC_Unreadable, tC_Unreadable, kC_Unreadable⟩
  have FI_Unreadable : FunD K "__init__" "Unreadable.__init__" (defArgs s_init_Unreadable) (defBody s_init_Unreadable) (defScope s_init_Unreadable) [.non] [] fI_Unreadable _ := ⟨⟨ocI_Unreadable, odI_Unreadable, _, kVI_Unreadable, dcI_Unreadable, pmI_Unreadable, anI_Unreadable, cdI_Unreadable, ctI_Unreadable, slI_Unreadable, rfl, lI_Unreadable, cI_Unreadable, .inr ⟨by simp, TI_Unreadable, _, [.none], nT_Unreadable, rfl, lT_Unreadable, rfl, .cons rfl .nil⟩, .inl rfl⟩, kI_Unreadable⟩
  obtain ⟨ds_Unreadable, rds_Unreadable, bI_Unreadable⟩ := FI_Unreadable.binds1 (ps := ["self", "at"]) 2 1 (by simp) rfl (fun _ _ _ _ _ _ _ us its h1 h2 => match us, its, h1, h2 with | [_, _], [_], _, _ => ⟨_, rfl, rfl⟩)
  cases rds_Unreadable
  obtain ⟨de_Unreadable, rde_Unreadable, bO_Unreadable⟩ := FI_Unreadable.binds1 (ps := ["self", "at"]) 1 0 (by simp) rfl (fun _ _ _ _ _ _ _ us its h1 h2 => match us, its, h1, h2 with | [_], [_], _, _ => ⟨_, rfl, rfl⟩)
  obtain ⟨dz_Unreadable, rfl, dr_Unreadable⟩ := vals1 rde_Unreadable
  cases dr_Unreadable
  obtain ⟨dk_Unreadable, bK_Unreadable⟩ := FI_Unreadable.kbindsD (ps := ["self", "at"]) 1 ["at"] (fun us _ ws => us ++ ws) (by simp) (fun r1 _ r3 => r1.append r3) (fun _ _ _ _ _ _ _ us its ws h1 h2 h3 => match us, its, ws, h1, h2, h3 with | [_], [_], [_], _, _, _ => ⟨_, rfl, rfl⟩)
  exact ⟨mC_Unreadable, fun P w base => ⟨⟨C_Unreadable, fI_Unreadable, _, _, OC_Unreadable, iC_Unreadable, tI_Unreadable, init_mk FI_Unreadable sc_init_Unreadable OC_Unreadable nb_Unreadable rfl rfl (by decide) (by decide), fun s v u h => bI_Unreadable s [v, u] h rfl, fun s v u h => bK_Unreadable.to s [v] [u] h rfl rfl, fun s v h => bO_Unreadable s [v] h rfl, mC_Unreadable⟩, rfl⟩, EC_Unreadable, ⟨ga_Unreadable, gg_Unreadable, eC_Unreadable, hC_Unreadable⟩, nb_Unreadable⟩
theorem all_mk {l : PySem.W.OpenLaw} {w : World} {K : PySem.W.Frag} {h : Heap} {mg : Str → Option Value} {fa : Addr} (n : Nat)
  {f0 : Addr} {od0 an0 : Option Addr} {sl0 : Array (Option Value)} {oc0 kV0 dc0 pm0 cd0 ct0 : Value}
  {f1 : Addr} {od1 an1 : Option Addr} {sl1 : Array (Option Value)} {oc1 kV1 dc1 pm1 cd1 ct1 : Value}
  {f2 : Addr} {od2 an2 : Option Addr} {sl2 : Array (Option Value)} {oc2 kV2 dc2 pm2 cd2 ct2 : Value}
  {f3 : Addr} {od3 an3 : Option Addr} {sl3 : Array (Option Value)} {oc3 kV3 dc3 pm3 cd3 ct3 : Value}
  {f4 : Addr} {od4 an4 : Option Addr} {sl4 : Array (Option Value)} {oc4 kV4 dc4 pm4 cd4 ct4 : Value}
  {f5 : Addr} {od5 an5 : Option Addr} {sl5 : Array (Option Value)} {oc5 kV5 dc5 pm5 cd5 ct5 : Value}
  {f6 : Addr} {od6 an6 : Option Addr} {sl6 : Array (Option Value)} {oc6 kV6 dc6 pm6 cd6 ct6 : Value}
  {f7 : Addr} {od7 an7 : Option Addr} {sl7 : Array (Option Value)} {oc7 kV7 dc7 pm7 cd7 ct7 : Value}
  {f8 : Addr} {od8 an8 : Option Addr} {sl8 : Array (Option Value)} {oc8 kV8 dc8 pm8 cd8 ct8 : Value}
  {CE : Addr}
  {C_Drops fI_Drops TI_Drops N_Drops CB_Drops : Addr} {nm_Drops qn_Drops : Str} {bs_Drops : List Value} {sn_Drops : List Str} {sub_Drops : List Value} {ab_Drops : Bool} {col_Drops : Option Bool} {dd_Drops : Option Addr} {m0_Drops m1_Drops m2_Drops m3_Drops m5_Drops : Option Value} {odI_Drops anI_Drops odT_Drops : Option Addr} {slI_Drops slT_Drops : Array (Option Value)} {ocI_Drops kVI_Drops dcI_Drops pmI_Drops cdI_Drops ctI_Drops : Value} {nT_Drops : Nat}
  {C_Failed fI_Failed TI_Failed N_Failed CB_Failed : Addr} {nm_Failed qn_Failed : Str} {bs_Failed : List Value} {sn_Failed : List Str} {sub_Failed : List Value} {ab_Failed : Bool} {col_Failed : Option Bool} {dd_Failed : Option Addr} {m0_Failed m1_Failed m2_Failed m3_Failed m5_Failed : Option Value} {odI_Failed anI_Failed odT_Failed : Option Addr} {slI_Failed slT_Failed : Array (Option Value)} {ocI_Failed kVI_Failed dcI_Failed pmI_Failed cdI_Failed ctI_Failed : Value} {nT_Failed : Nat}
  {C_InvalidCommand fI_InvalidCommand TI_InvalidCommand N_InvalidCommand CB_InvalidCommand : Addr} {nm_InvalidCommand qn_InvalidCommand : Str} {bs_InvalidCommand : List Value} {sn_InvalidCommand : List Str} {sub_InvalidCommand : List Value} {ab_InvalidCommand : Bool} {col_InvalidCommand : Option Bool} {dd_InvalidCommand : Option Addr} {m0_InvalidCommand m1_InvalidCommand m2_InvalidCommand m3_InvalidCommand m5_InvalidCommand : Option Value} {odI_InvalidCommand anI_InvalidCommand odT_InvalidCommand : Option Addr} {slI_InvalidCommand slT_InvalidCommand : Array (Option Value)} {ocI_InvalidCommand kVI_InvalidCommand dcI_InvalidCommand pmI_InvalidCommand cdI_InvalidCommand ctI_InvalidCommand : Value} {nT_InvalidCommand : Nat}
  {C_InvalidCommands fI_InvalidCommands TI_InvalidCommands N_InvalidCommands CB_InvalidCommands : Addr} {nm_InvalidCommands qn_InvalidCommands : Str} {bs_InvalidCommands : List Value} {sn_InvalidCommands : List Str} {sub_InvalidCommands : List Value} {ab_InvalidCommands : Bool} {col_InvalidCommands : Option Bool} {dd_InvalidCommands : Option Addr} {m0_InvalidCommands m1_InvalidCommands m2_InvalidCommands m3_InvalidCommands m5_InvalidCommands : Option Value} {odI_InvalidCommands anI_InvalidCommands odT_InvalidCommands : Option Addr} {slI_InvalidCommands slT_InvalidCommands : Array (Option Value)} {ocI_InvalidCommands kVI_InvalidCommands dcI_InvalidCommands pmI_InvalidCommands cdI_InvalidCommands ctI_InvalidCommands : Value} {nT_InvalidCommands : Nat}
  {C_InvalidCount fI_InvalidCount TI_InvalidCount N_InvalidCount CB_InvalidCount : Addr} {nm_InvalidCount qn_InvalidCount : Str} {bs_InvalidCount : List Value} {sn_InvalidCount : List Str} {sub_InvalidCount : List Value} {ab_InvalidCount : Bool} {col_InvalidCount : Option Bool} {dd_InvalidCount : Option Addr} {m0_InvalidCount m1_InvalidCount m2_InvalidCount m3_InvalidCount m5_InvalidCount : Option Value} {odI_InvalidCount anI_InvalidCount odT_InvalidCount : Option Addr} {slI_InvalidCount slT_InvalidCount : Array (Option Value)} {ocI_InvalidCount kVI_InvalidCount dcI_InvalidCount pmI_InvalidCount cdI_InvalidCount ctI_InvalidCount : Value} {nT_InvalidCount : Nat}
  {C_InvalidFilling fI_InvalidFilling TI_InvalidFilling N_InvalidFilling CB_InvalidFilling : Addr} {nm_InvalidFilling qn_InvalidFilling : Str} {bs_InvalidFilling : List Value} {sn_InvalidFilling : List Str} {sub_InvalidFilling : List Value} {ab_InvalidFilling : Bool} {col_InvalidFilling : Option Bool} {dd_InvalidFilling : Option Addr} {m0_InvalidFilling m1_InvalidFilling m2_InvalidFilling m3_InvalidFilling m5_InvalidFilling : Option Value} {odI_InvalidFilling anI_InvalidFilling odT_InvalidFilling : Option Addr} {slI_InvalidFilling slT_InvalidFilling : Array (Option Value)} {ocI_InvalidFilling kVI_InvalidFilling dcI_InvalidFilling pmI_InvalidFilling cdI_InvalidFilling ctI_InvalidFilling : Value} {nT_InvalidFilling : Nat}
  {C_InvalidLabels fI_InvalidLabels TI_InvalidLabels N_InvalidLabels CB_InvalidLabels : Addr} {nm_InvalidLabels qn_InvalidLabels : Str} {bs_InvalidLabels : List Value} {sn_InvalidLabels : List Str} {sub_InvalidLabels : List Value} {ab_InvalidLabels : Bool} {col_InvalidLabels : Option Bool} {dd_InvalidLabels : Option Addr} {m0_InvalidLabels m1_InvalidLabels m2_InvalidLabels m3_InvalidLabels m5_InvalidLabels : Option Value} {odI_InvalidLabels anI_InvalidLabels odT_InvalidLabels : Option Addr} {slI_InvalidLabels slT_InvalidLabels : Array (Option Value)} {ocI_InvalidLabels kVI_InvalidLabels dcI_InvalidLabels pmI_InvalidLabels cdI_InvalidLabels ctI_InvalidLabels : Value} {nT_InvalidLabels : Nat}
  {C_InvalidLikeness fI_InvalidLikeness TI_InvalidLikeness N_InvalidLikeness CB_InvalidLikeness : Addr} {nm_InvalidLikeness qn_InvalidLikeness : Str} {bs_InvalidLikeness : List Value} {sn_InvalidLikeness : List Str} {sub_InvalidLikeness : List Value} {ab_InvalidLikeness : Bool} {col_InvalidLikeness : Option Bool} {dd_InvalidLikeness : Option Addr} {m0_InvalidLikeness m1_InvalidLikeness m2_InvalidLikeness m3_InvalidLikeness m5_InvalidLikeness : Option Value} {odI_InvalidLikeness anI_InvalidLikeness odT_InvalidLikeness : Option Addr} {slI_InvalidLikeness slT_InvalidLikeness : Array (Option Value)} {ocI_InvalidLikeness kVI_InvalidLikeness dcI_InvalidLikeness pmI_InvalidLikeness cdI_InvalidLikeness ctI_InvalidLikeness : Value} {nT_InvalidLikeness : Nat}
  {C_InvalidList fI_InvalidList TI_InvalidList N_InvalidList CB_InvalidList : Addr} {nm_InvalidList qn_InvalidList : Str} {bs_InvalidList : List Value} {sn_InvalidList : List Str} {sub_InvalidList : List Value} {ab_InvalidList : Bool} {col_InvalidList : Option Bool} {dd_InvalidList : Option Addr} {m0_InvalidList m1_InvalidList m2_InvalidList m3_InvalidList m5_InvalidList : Option Value} {odI_InvalidList anI_InvalidList odT_InvalidList : Option Addr} {slI_InvalidList slT_InvalidList : Array (Option Value)} {ocI_InvalidList kVI_InvalidList dcI_InvalidList pmI_InvalidList cdI_InvalidList ctI_InvalidList : Value} {nT_InvalidList : Nat}
  {C_InvalidName fI_InvalidName TI_InvalidName N_InvalidName CB_InvalidName : Addr} {nm_InvalidName qn_InvalidName : Str} {bs_InvalidName : List Value} {sn_InvalidName : List Str} {sub_InvalidName : List Value} {ab_InvalidName : Bool} {col_InvalidName : Option Bool} {dd_InvalidName : Option Addr} {m0_InvalidName m1_InvalidName m2_InvalidName m3_InvalidName m5_InvalidName : Option Value} {odI_InvalidName anI_InvalidName odT_InvalidName : Option Addr} {slI_InvalidName slT_InvalidName : Array (Option Value)} {ocI_InvalidName kVI_InvalidName dcI_InvalidName pmI_InvalidName cdI_InvalidName ctI_InvalidName : Value} {nT_InvalidName : Nat}
  {C_InvalidNumber fI_InvalidNumber TI_InvalidNumber N_InvalidNumber CB_InvalidNumber : Addr} {nm_InvalidNumber qn_InvalidNumber : Str} {bs_InvalidNumber : List Value} {sn_InvalidNumber : List Str} {sub_InvalidNumber : List Value} {ab_InvalidNumber : Bool} {col_InvalidNumber : Option Bool} {dd_InvalidNumber : Option Addr} {m0_InvalidNumber m1_InvalidNumber m2_InvalidNumber m3_InvalidNumber m5_InvalidNumber : Option Value} {odI_InvalidNumber anI_InvalidNumber odT_InvalidNumber : Option Addr} {slI_InvalidNumber slT_InvalidNumber : Array (Option Value)} {ocI_InvalidNumber kVI_InvalidNumber dcI_InvalidNumber pmI_InvalidNumber cdI_InvalidNumber ctI_InvalidNumber : Value} {nT_InvalidNumber : Nat}
  {C_InvalidPath fI_InvalidPath TI_InvalidPath N_InvalidPath CB_InvalidPath : Addr} {nm_InvalidPath qn_InvalidPath : Str} {bs_InvalidPath : List Value} {sn_InvalidPath : List Str} {sub_InvalidPath : List Value} {ab_InvalidPath : Bool} {col_InvalidPath : Option Bool} {dd_InvalidPath : Option Addr} {m0_InvalidPath m1_InvalidPath m2_InvalidPath m3_InvalidPath m5_InvalidPath : Option Value} {odI_InvalidPath anI_InvalidPath odT_InvalidPath : Option Addr} {slI_InvalidPath slT_InvalidPath : Array (Option Value)} {ocI_InvalidPath kVI_InvalidPath dcI_InvalidPath pmI_InvalidPath cdI_InvalidPath ctI_InvalidPath : Value} {nT_InvalidPath : Nat}
  {C_InvalidPattern fI_InvalidPattern TI_InvalidPattern N_InvalidPattern CB_InvalidPattern : Addr} {nm_InvalidPattern qn_InvalidPattern : Str} {bs_InvalidPattern : List Value} {sn_InvalidPattern : List Str} {sub_InvalidPattern : List Value} {ab_InvalidPattern : Bool} {col_InvalidPattern : Option Bool} {dd_InvalidPattern : Option Addr} {m0_InvalidPattern m1_InvalidPattern m2_InvalidPattern m3_InvalidPattern m5_InvalidPattern : Option Value} {odI_InvalidPattern anI_InvalidPattern odT_InvalidPattern : Option Addr} {slI_InvalidPattern slT_InvalidPattern : Array (Option Value)} {ocI_InvalidPattern kVI_InvalidPattern dcI_InvalidPattern pmI_InvalidPattern cdI_InvalidPattern ctI_InvalidPattern : Value} {nT_InvalidPattern : Nat}
  {C_InvalidRewriting fI_InvalidRewriting TI_InvalidRewriting N_InvalidRewriting CB_InvalidRewriting : Addr} {nm_InvalidRewriting qn_InvalidRewriting : Str} {bs_InvalidRewriting : List Value} {sn_InvalidRewriting : List Str} {sub_InvalidRewriting : List Value} {ab_InvalidRewriting : Bool} {col_InvalidRewriting : Option Bool} {dd_InvalidRewriting : Option Addr} {m0_InvalidRewriting m1_InvalidRewriting m2_InvalidRewriting m3_InvalidRewriting m5_InvalidRewriting : Option Value} {odI_InvalidRewriting anI_InvalidRewriting odT_InvalidRewriting : Option Addr} {slI_InvalidRewriting slT_InvalidRewriting : Array (Option Value)} {ocI_InvalidRewriting kVI_InvalidRewriting dcI_InvalidRewriting pmI_InvalidRewriting cdI_InvalidRewriting ctI_InvalidRewriting : Value} {nT_InvalidRewriting : Nat}
  {C_InvalidScript fI_InvalidScript TI_InvalidScript N_InvalidScript CB_InvalidScript : Addr} {nm_InvalidScript qn_InvalidScript : Str} {bs_InvalidScript : List Value} {sn_InvalidScript : List Str} {sub_InvalidScript : List Value} {ab_InvalidScript : Bool} {col_InvalidScript : Option Bool} {dd_InvalidScript : Option Addr} {m0_InvalidScript m1_InvalidScript m2_InvalidScript m3_InvalidScript m5_InvalidScript : Option Value} {odI_InvalidScript anI_InvalidScript odT_InvalidScript : Option Addr} {slI_InvalidScript slT_InvalidScript : Array (Option Value)} {ocI_InvalidScript kVI_InvalidScript dcI_InvalidScript pmI_InvalidScript cdI_InvalidScript ctI_InvalidScript : Value} {nT_InvalidScript : Nat}
  {C_InvalidState fI_InvalidState TI_InvalidState N_InvalidState CB_InvalidState : Addr} {nm_InvalidState qn_InvalidState : Str} {bs_InvalidState : List Value} {sn_InvalidState : List Str} {sub_InvalidState : List Value} {ab_InvalidState : Bool} {col_InvalidState : Option Bool} {dd_InvalidState : Option Addr} {m0_InvalidState m1_InvalidState m2_InvalidState m3_InvalidState m5_InvalidState : Option Value} {odI_InvalidState anI_InvalidState odT_InvalidState : Option Addr} {slI_InvalidState slT_InvalidState : Array (Option Value)} {ocI_InvalidState kVI_InvalidState dcI_InvalidState pmI_InvalidState cdI_InvalidState ctI_InvalidState : Value} {nT_InvalidState : Nat}
  {C_InvalidTree fI_InvalidTree TI_InvalidTree N_InvalidTree CB_InvalidTree : Addr} {nm_InvalidTree qn_InvalidTree : Str} {bs_InvalidTree : List Value} {sn_InvalidTree : List Str} {sub_InvalidTree : List Value} {ab_InvalidTree : Bool} {col_InvalidTree : Option Bool} {dd_InvalidTree : Option Addr} {m0_InvalidTree m1_InvalidTree m2_InvalidTree m3_InvalidTree m5_InvalidTree : Option Value} {odI_InvalidTree anI_InvalidTree odT_InvalidTree : Option Addr} {slI_InvalidTree slT_InvalidTree : Array (Option Value)} {ocI_InvalidTree kVI_InvalidTree dcI_InvalidTree pmI_InvalidTree cdI_InvalidTree ctI_InvalidTree : Value} {nT_InvalidTree : Nat}
  {C_Needed fI_Needed TI_Needed N_Needed CB_Needed : Addr} {nm_Needed qn_Needed : Str} {bs_Needed : List Value} {sn_Needed : List Str} {sub_Needed : List Value} {ab_Needed : Bool} {col_Needed : Option Bool} {dd_Needed : Option Addr} {m0_Needed m1_Needed m2_Needed m3_Needed m5_Needed : Option Value} {odI_Needed anI_Needed odT_Needed : Option Addr} {slI_Needed slT_Needed : Array (Option Value)} {ocI_Needed kVI_Needed dcI_Needed pmI_Needed cdI_Needed ctI_Needed : Value} {nT_Needed : Nat}
  {C_NoSuchName fI_NoSuchName TI_NoSuchName N_NoSuchName CB_NoSuchName : Addr} {nm_NoSuchName qn_NoSuchName : Str} {bs_NoSuchName : List Value} {sn_NoSuchName : List Str} {sub_NoSuchName : List Value} {ab_NoSuchName : Bool} {col_NoSuchName : Option Bool} {dd_NoSuchName : Option Addr} {m0_NoSuchName m1_NoSuchName m2_NoSuchName m3_NoSuchName m5_NoSuchName : Option Value} {odI_NoSuchName anI_NoSuchName odT_NoSuchName : Option Addr} {slI_NoSuchName slT_NoSuchName : Array (Option Value)} {ocI_NoSuchName kVI_NoSuchName dcI_NoSuchName pmI_NoSuchName cdI_NoSuchName ctI_NoSuchName : Value} {nT_NoSuchName : Nat}
  {C_NotOneToOne fI_NotOneToOne TI_NotOneToOne N_NotOneToOne CB_NotOneToOne : Addr} {nm_NotOneToOne qn_NotOneToOne : Str} {bs_NotOneToOne : List Value} {sn_NotOneToOne : List Str} {sub_NotOneToOne : List Value} {ab_NotOneToOne : Bool} {col_NotOneToOne : Option Bool} {dd_NotOneToOne : Option Addr} {m0_NotOneToOne m1_NotOneToOne m2_NotOneToOne m3_NotOneToOne m5_NotOneToOne : Option Value} {odI_NotOneToOne anI_NotOneToOne odT_NotOneToOne : Option Addr} {slI_NotOneToOne slT_NotOneToOne : Array (Option Value)} {ocI_NotOneToOne kVI_NotOneToOne dcI_NotOneToOne pmI_NotOneToOne cdI_NotOneToOne ctI_NotOneToOne : Value} {nT_NotOneToOne : Nat}
  {C_Unreadable fI_Unreadable TI_Unreadable N_Unreadable CB_Unreadable : Addr} {nm_Unreadable qn_Unreadable : Str} {bs_Unreadable : List Value} {sn_Unreadable : List Str} {sub_Unreadable : List Value} {ab_Unreadable : Bool} {col_Unreadable : Option Bool} {dd_Unreadable : Option Addr} {m0_Unreadable m1_Unreadable m2_Unreadable m3_Unreadable m5_Unreadable : Option Value} {odI_Unreadable anI_Unreadable odT_Unreadable : Option Addr} {slI_Unreadable slT_Unreadable : Array (Option Value)} {ocI_Unreadable kVI_Unreadable dcI_Unreadable pmI_Unreadable cdI_Unreadable ctI_Unreadable : Value} {nT_Unreadable : Nat}
  {C_NoBack : Addr}
  {C_NothingToUndo : Addr}
  {C_TooMany : Addr}
  (X : K.In h) (G : h.Ns mainGlobals mg) (hfa : mg "law" = some (.ref fa))
  (z_NoneType : PySem.W.nsIn K mainGlobals "NoneType" = some none)
  (z_ValueError : PySem.W.nsIn K mainGlobals "ValueError" = some none)
  (z_bool : PySem.W.nsIn K mainGlobals "bool" = some none)
  (z_dict : PySem.W.nsIn K mainGlobals "dict" = some none)
  (z_enumerate : PySem.W.nsIn K mainGlobals "enumerate" = some none)
  (z_int : PySem.W.nsIn K mainGlobals "int" = some none)
  (z_isinstance : PySem.W.nsIn K mainGlobals "isinstance" = some none)
  (z_len : PySem.W.nsIn K mainGlobals "len" = some none)
  (z_list : PySem.W.nsIn K mainGlobals "list" = some none)
  (z_max : PySem.W.nsIn K mainGlobals "max" = some none)
  (z_min : PySem.W.nsIn K mainGlobals "min" = some none)
  (z_range : PySem.W.nsIn K mainGlobals "range" = some none)
  (z_str : PySem.W.nsIn K mainGlobals "str" = some none)
  (z_tuple : PySem.W.nsIn K mainGlobals "tuple" = some none)
  (a0 : PySem.W.nsIn K mainGlobals "_law_mixed" = some (some (.ref f0)))
  (l0 : K.lookup f0 = some ⟨oc0, od0, .func (PySem.W.fnOf "_law_mixed" "_law_mixed" (defArgs s_l_mixed) (defBody s_l_mixed) (defScope s_l_mixed) .none kV0 dc0 pm0 an0 cd0 ct0), sl0⟩)
  (c0 : PySem.W.codeIn K cd0 "_law_mixed" = true)
  (k0 : PySem.W.keepIn K (.ref f0) = true)
  (a1 : PySem.W.nsIn K mainGlobals "_law_purse" = some (some (.ref f1)))
  (l1 : K.lookup f1 = some ⟨oc1, od1, .func (PySem.W.fnOf "_law_purse" "_law_purse" (defArgs s_l_purse) (defBody s_l_purse) (defScope s_l_purse) .none kV1 dc1 pm1 an1 cd1 ct1), sl1⟩)
  (c1 : PySem.W.codeIn K cd1 "_law_purse" = true)
  (k1 : PySem.W.keepIn K (.ref f1) = true)
  (a2 : PySem.W.nsIn K mainGlobals "_law_draw" = some (some (.ref f2)))
  (l2 : K.lookup f2 = some ⟨oc2, od2, .func (PySem.W.fnOf "_law_draw" "_law_draw" (defArgs s_l_draw) (defBody s_l_draw) (defScope s_l_draw) .none kV2 dc2 pm2 an2 cd2 ct2), sl2⟩)
  (c2 : PySem.W.codeIn K cd2 "_law_draw" = true)
  (k2 : PySem.W.keepIn K (.ref f2) = true)
  (a3 : PySem.W.nsIn K mainGlobals "_law_by_place" = some (some (.ref f3)))
  (l3 : K.lookup f3 = some ⟨oc3, od3, .func (PySem.W.fnOf "_law_by_place" "_law_by_place" (defArgs s_l_by_place) (defBody s_l_by_place) (defScope s_l_by_place) .none kV3 dc3 pm3 an3 cd3 ct3), sl3⟩)
  (c3 : PySem.W.codeIn K cd3 "_law_by_place" = true)
  (k3 : PySem.W.keepIn K (.ref f3) = true)
  (a4 : PySem.W.nsIn K mainGlobals "_law_by_name" = some (some (.ref f4)))
  (l4 : K.lookup f4 = some ⟨oc4, od4, .func (PySem.W.fnOf "_law_by_name" "_law_by_name" (defArgs s_l_by_name) (defBody s_l_by_name) (defScope s_l_by_name) .none kV4 dc4 pm4 an4 cd4 ct4), sl4⟩)
  (c4 : PySem.W.codeIn K cd4 "_law_by_name" = true)
  (k4 : PySem.W.keepIn K (.ref f4) = true)
  (a5 : PySem.W.nsIn K mainGlobals "_law_bare" = some (some (.ref f5)))
  (l5 : K.lookup f5 = some ⟨oc5, od5, .func (PySem.W.fnOf "_law_bare" "_law_bare" (defArgs s_l_bare) (defBody s_l_bare) (defScope s_l_bare) .none kV5 dc5 pm5 an5 cd5 ct5), sl5⟩)
  (c5 : PySem.W.codeIn K cd5 "_law_bare" = true)
  (k5 : PySem.W.keepIn K (.ref f5) = true)
  (a6 : PySem.W.nsIn K mainGlobals "_law_fields" = some (some (.ref f6)))
  (l6 : K.lookup f6 = some ⟨oc6, od6, .func (PySem.W.fnOf "_law_fields" "_law_fields" (defArgs s_l_fields) (defBody s_l_fields) (defScope s_l_fields) .none kV6 dc6 pm6 an6 cd6 ct6), sl6⟩)
  (c6 : PySem.W.codeIn K cd6 "_law_fields" = true)
  (k6 : PySem.W.keepIn K (.ref f6) = true)
  (a7 : PySem.W.nsIn K mainGlobals "_law_classes" = some (some (.ref f7)))
  (l7 : K.lookup f7 = some ⟨oc7, od7, .func (PySem.W.fnOf "_law_classes" "_law_classes" (defArgs s_l_classes) (defBody s_l_classes) (defScope s_l_classes) .none kV7 dc7 pm7 an7 cd7 ct7), sl7⟩)
  (c7 : PySem.W.codeIn K cd7 "_law_classes" = true)
  (k7 : PySem.W.keepIn K (.ref f7) = true)
  (a8 : PySem.W.nsIn K mainGlobals "law" = some (some (.ref f8)))
  (l8 : K.lookup f8 = some ⟨oc8, od8, .func (PySem.W.fnOf "law" "law" (defArgs s_l_main) (defBody s_l_main) (defScope s_l_main) .none kV8 dc8 pm8 an8 cd8 ct8), sl8⟩)
  (c8 : PySem.W.codeIn K cd8 "law" = true)
  (k8 : PySem.W.keepIn K (.ref f8) = true)
  (aE : PySem.W.nsIn K mainGlobals "CursorError" = some (some (.ref CE)))
  (vE : PySem.W.kitOne K (.type "ValueError") (.ref CE) = some false)
  (ka : kitAll K CE [("Drops", C_Drops), ("Failed", C_Failed), ("InvalidCommand", C_InvalidCommand), ("InvalidCommands", C_InvalidCommands), ("InvalidCount", C_InvalidCount), ("InvalidFilling", C_InvalidFilling), ("InvalidLabels", C_InvalidLabels), ("InvalidLikeness", C_InvalidLikeness), ("InvalidList", C_InvalidList), ("InvalidName", C_InvalidName), ("InvalidNumber", C_InvalidNumber), ("InvalidPath", C_InvalidPath), ("InvalidPattern", C_InvalidPattern), ("InvalidRewriting", C_InvalidRewriting), ("InvalidScript", C_InvalidScript), ("InvalidState", C_InvalidState), ("InvalidTree", C_InvalidTree), ("Needed", C_Needed), ("NoBack", C_NoBack), ("NoSuchName", C_NoSuchName), ("NotOneToOne", C_NotOneToOne), ("NothingToUndo", C_NothingToUndo), ("TooMany", C_TooMany), ("Unreadable", C_Unreadable)] = true)
  (cn : PySem.W.specialIn K (.builtin "object.__class__") "__get__" = some (some (.builtin "getset_descriptor.__get__")))
  (ct : PySem.W.takesIn K (.builtin "object.__class__") = some true)
  (aC_Drops : PySem.W.nsIn K mainGlobals "Drops" = some (some (.ref C_Drops)))
  (xL_Drops : K.lookup C_Drops = some (excClassObj nm_Drops qn_Drops C_Drops N_Drops bs_Drops [.ref CB_Drops, .type "ValueError", .type "Exception", .type "BaseException", .type "object"] true sn_Drops sub_Drops ab_Drops col_Drops dd_Drops m0_Drops m1_Drops m2_Drops m3_Drops m5_Drops "ValueError.__new__"))
  (sa_Drops : PySem.W.findIn K (.ref C_Drops) "__setattr__" = some (some (.builtin "object.__setattr__")))
  (ga_Drops : PySem.W.findIn K (.ref C_Drops) "__getattribute__" = some (some (.builtin "BaseException.__getattribute__")))
  (gg_Drops : PySem.W.findIn K (.ref C_Drops) "__getattr__" = some none)
  (nb_Drops : PySem.W.findIn K (.ref C_Drops) "number" = some none)
  (ca_Drops : PySem.W.findIn K (.ref C_Drops) "__class__" = some (some (.builtin "object.__class__")))
  (cm_Drops : PySem.W.mroIn K C_Drops (.type "object") = some true)
  (kC_Drops : PySem.W.keepIn K (.ref C_Drops) = true)
  (eC_Drops : PySem.W.subIn K (.ref C_Drops) (.type "BaseException") = some true)
  (tC_Drops : PySem.W.typeIn K (.ref C_Drops) = some (.type "type"))
  (hC_Drops : PySem.W.hasDictIn K C_Drops = true)
  (iC_Drops : PySem.W.findIn K (.ref C_Drops) "__init__" = some (some (.ref fI_Drops)))
  (tI_Drops : PySem.W.typeIn K (.ref fI_Drops) = some (.type "function"))
  (lI_Drops : K.lookup fI_Drops = some ⟨ocI_Drops, odI_Drops, .func (PySem.W.fnOf "__init__" "Drops.__init__" (defArgs s_init_Drops) (defBody s_init_Drops) (defScope s_init_Drops) (.ref TI_Drops) kVI_Drops dcI_Drops pmI_Drops anI_Drops cdI_Drops ctI_Drops), slI_Drops⟩)
  (cI_Drops : PySem.W.codeIn K cdI_Drops "Drops.__init__" = true)
  (kI_Drops : PySem.W.keepIn K (.ref fI_Drops) = true)
  (lT_Drops : K.lookup TI_Drops = some ⟨.type "tuple", odT_Drops, .seq #[.none] nT_Drops, slT_Drops⟩)
  (aC_Failed : PySem.W.nsIn K mainGlobals "Failed" = some (some (.ref C_Failed)))
  (xL_Failed : K.lookup C_Failed = some (excClassObj nm_Failed qn_Failed C_Failed N_Failed bs_Failed [.ref CB_Failed, .type "ValueError", .type "Exception", .type "BaseException", .type "object"] true sn_Failed sub_Failed ab_Failed col_Failed dd_Failed m0_Failed m1_Failed m2_Failed m3_Failed m5_Failed "ValueError.__new__"))
  (sa_Failed : PySem.W.findIn K (.ref C_Failed) "__setattr__" = some (some (.builtin "object.__setattr__")))
  (ga_Failed : PySem.W.findIn K (.ref C_Failed) "__getattribute__" = some (some (.builtin "BaseException.__getattribute__")))
  (gg_Failed : PySem.W.findIn K (.ref C_Failed) "__getattr__" = some none)
  (nb_Failed : PySem.W.findIn K (.ref C_Failed) "name" = some none)
  (ca_Failed : PySem.W.findIn K (.ref C_Failed) "__class__" = some (some (.builtin "object.__class__")))
  (cm_Failed : PySem.W.mroIn K C_Failed (.type "object") = some true)
  (kC_Failed : PySem.W.keepIn K (.ref C_Failed) = true)
  (eC_Failed : PySem.W.subIn K (.ref C_Failed) (.type "BaseException") = some true)
  (tC_Failed : PySem.W.typeIn K (.ref C_Failed) = some (.type "type"))
  (hC_Failed : PySem.W.hasDictIn K C_Failed = true)
  (iC_Failed : PySem.W.findIn K (.ref C_Failed) "__init__" = some (some (.ref fI_Failed)))
  (tI_Failed : PySem.W.typeIn K (.ref fI_Failed) = some (.type "function"))
  (lI_Failed : K.lookup fI_Failed = some ⟨ocI_Failed, odI_Failed, .func (PySem.W.fnOf "__init__" "Failed.__init__" (defArgs s_init_Failed) (defBody s_init_Failed) (defScope s_init_Failed) (.ref TI_Failed) kVI_Failed dcI_Failed pmI_Failed anI_Failed cdI_Failed ctI_Failed), slI_Failed⟩)
  (cI_Failed : PySem.W.codeIn K cdI_Failed "Failed.__init__" = true)
  (kI_Failed : PySem.W.keepIn K (.ref fI_Failed) = true)
  (lT_Failed : K.lookup TI_Failed = some ⟨.type "tuple", odT_Failed, .seq #[.none] nT_Failed, slT_Failed⟩)
  (aC_InvalidCommand : PySem.W.nsIn K mainGlobals "InvalidCommand" = some (some (.ref C_InvalidCommand)))
  (xL_InvalidCommand : K.lookup C_InvalidCommand = some (excClassObj nm_InvalidCommand qn_InvalidCommand C_InvalidCommand N_InvalidCommand bs_InvalidCommand [.ref CB_InvalidCommand, .type "ValueError", .type "Exception", .type "BaseException", .type "object"] true sn_InvalidCommand sub_InvalidCommand ab_InvalidCommand col_InvalidCommand dd_InvalidCommand m0_InvalidCommand m1_InvalidCommand m2_InvalidCommand m3_InvalidCommand m5_InvalidCommand "ValueError.__new__"))
  (sa_InvalidCommand : PySem.W.findIn K (.ref C_InvalidCommand) "__setattr__" = some (some (.builtin "object.__setattr__")))
  (ga_InvalidCommand : PySem.W.findIn K (.ref C_InvalidCommand) "__getattribute__" = some (some (.builtin "BaseException.__getattribute__")))
  (gg_InvalidCommand : PySem.W.findIn K (.ref C_InvalidCommand) "__getattr__" = some none)
  (nb_InvalidCommand : PySem.W.findIn K (.ref C_InvalidCommand) "thing" = some none)
  (ca_InvalidCommand : PySem.W.findIn K (.ref C_InvalidCommand) "__class__" = some (some (.builtin "object.__class__")))
  (cm_InvalidCommand : PySem.W.mroIn K C_InvalidCommand (.type "object") = some true)
  (kC_InvalidCommand : PySem.W.keepIn K (.ref C_InvalidCommand) = true)
  (eC_InvalidCommand : PySem.W.subIn K (.ref C_InvalidCommand) (.type "BaseException") = some true)
  (tC_InvalidCommand : PySem.W.typeIn K (.ref C_InvalidCommand) = some (.type "type"))
  (hC_InvalidCommand : PySem.W.hasDictIn K C_InvalidCommand = true)
  (iC_InvalidCommand : PySem.W.findIn K (.ref C_InvalidCommand) "__init__" = some (some (.ref fI_InvalidCommand)))
  (tI_InvalidCommand : PySem.W.typeIn K (.ref fI_InvalidCommand) = some (.type "function"))
  (lI_InvalidCommand : K.lookup fI_InvalidCommand = some ⟨ocI_InvalidCommand, odI_InvalidCommand, .func (PySem.W.fnOf "__init__" "InvalidCommand.__init__" (defArgs s_init_InvalidCommand) (defBody s_init_InvalidCommand) (defScope s_init_InvalidCommand) (.ref TI_InvalidCommand) kVI_InvalidCommand dcI_InvalidCommand pmI_InvalidCommand anI_InvalidCommand cdI_InvalidCommand ctI_InvalidCommand), slI_InvalidCommand⟩)
  (cI_InvalidCommand : PySem.W.codeIn K cdI_InvalidCommand "InvalidCommand.__init__" = true)
  (kI_InvalidCommand : PySem.W.keepIn K (.ref fI_InvalidCommand) = true)
  (lT_InvalidCommand : K.lookup TI_InvalidCommand = some ⟨.type "tuple", odT_InvalidCommand, .seq #[.none] nT_InvalidCommand, slT_InvalidCommand⟩)
  (aC_InvalidCommands : PySem.W.nsIn K mainGlobals "InvalidCommands" = some (some (.ref C_InvalidCommands)))
  (xL_InvalidCommands : K.lookup C_InvalidCommands = some (excClassObj nm_InvalidCommands qn_InvalidCommands C_InvalidCommands N_InvalidCommands bs_InvalidCommands [.ref CB_InvalidCommands, .type "ValueError", .type "Exception", .type "BaseException", .type "object"] true sn_InvalidCommands sub_InvalidCommands ab_InvalidCommands col_InvalidCommands dd_InvalidCommands m0_InvalidCommands m1_InvalidCommands m2_InvalidCommands m3_InvalidCommands m5_InvalidCommands "ValueError.__new__"))
  (sa_InvalidCommands : PySem.W.findIn K (.ref C_InvalidCommands) "__setattr__" = some (some (.builtin "object.__setattr__")))
  (ga_InvalidCommands : PySem.W.findIn K (.ref C_InvalidCommands) "__getattribute__" = some (some (.builtin "BaseException.__getattribute__")))
  (gg_InvalidCommands : PySem.W.findIn K (.ref C_InvalidCommands) "__getattr__" = some none)
  (nb_InvalidCommands : PySem.W.findIn K (.ref C_InvalidCommands) "place" = some none)
  (ca_InvalidCommands : PySem.W.findIn K (.ref C_InvalidCommands) "__class__" = some (some (.builtin "object.__class__")))
  (cm_InvalidCommands : PySem.W.mroIn K C_InvalidCommands (.type "object") = some true)
  (kC_InvalidCommands : PySem.W.keepIn K (.ref C_InvalidCommands) = true)
  (eC_InvalidCommands : PySem.W.subIn K (.ref C_InvalidCommands) (.type "BaseException") = some true)
  (tC_InvalidCommands : PySem.W.typeIn K (.ref C_InvalidCommands) = some (.type "type"))
  (hC_InvalidCommands : PySem.W.hasDictIn K C_InvalidCommands = true)
  (iC_InvalidCommands : PySem.W.findIn K (.ref C_InvalidCommands) "__init__" = some (some (.ref fI_InvalidCommands)))
  (tI_InvalidCommands : PySem.W.typeIn K (.ref fI_InvalidCommands) = some (.type "function"))
  (lI_InvalidCommands : K.lookup fI_InvalidCommands = some ⟨ocI_InvalidCommands, odI_InvalidCommands, .func (PySem.W.fnOf "__init__" "InvalidCommands.__init__" (defArgs s_init_InvalidCommands) (defBody s_init_InvalidCommands) (defScope s_init_InvalidCommands) (.ref TI_InvalidCommands) kVI_InvalidCommands dcI_InvalidCommands pmI_InvalidCommands anI_InvalidCommands cdI_InvalidCommands ctI_InvalidCommands), slI_InvalidCommands⟩)
  (cI_InvalidCommands : PySem.W.codeIn K cdI_InvalidCommands "InvalidCommands.__init__" = true)
  (kI_InvalidCommands : PySem.W.keepIn K (.ref fI_InvalidCommands) = true)
  (lT_InvalidCommands : K.lookup TI_InvalidCommands = some ⟨.type "tuple", odT_InvalidCommands, .seq #[.none] nT_InvalidCommands, slT_InvalidCommands⟩)
  (aC_InvalidCount : PySem.W.nsIn K mainGlobals "InvalidCount" = some (some (.ref C_InvalidCount)))
  (xL_InvalidCount : K.lookup C_InvalidCount = some (excClassObj nm_InvalidCount qn_InvalidCount C_InvalidCount N_InvalidCount bs_InvalidCount [.ref CB_InvalidCount, .type "ValueError", .type "Exception", .type "BaseException", .type "object"] true sn_InvalidCount sub_InvalidCount ab_InvalidCount col_InvalidCount dd_InvalidCount m0_InvalidCount m1_InvalidCount m2_InvalidCount m3_InvalidCount m5_InvalidCount "ValueError.__new__"))
  (sa_InvalidCount : PySem.W.findIn K (.ref C_InvalidCount) "__setattr__" = some (some (.builtin "object.__setattr__")))
  (ga_InvalidCount : PySem.W.findIn K (.ref C_InvalidCount) "__getattribute__" = some (some (.builtin "BaseException.__getattribute__")))
  (gg_InvalidCount : PySem.W.findIn K (.ref C_InvalidCount) "__getattr__" = some none)
  (nb_InvalidCount : PySem.W.findIn K (.ref C_InvalidCount) "most" = some none)
  (ca_InvalidCount : PySem.W.findIn K (.ref C_InvalidCount) "__class__" = some (some (.builtin "object.__class__")))
  (cm_InvalidCount : PySem.W.mroIn K C_InvalidCount (.type "object") = some true)
  (kC_InvalidCount : PySem.W.keepIn K (.ref C_InvalidCount) = true)
  (eC_InvalidCount : PySem.W.subIn K (.ref C_InvalidCount) (.type "BaseException") = some true)
  (tC_InvalidCount : PySem.W.typeIn K (.ref C_InvalidCount) = some (.type "type"))
  (hC_InvalidCount : PySem.W.hasDictIn K C_InvalidCount = true)
  (iC_InvalidCount : PySem.W.findIn K (.ref C_InvalidCount) "__init__" = some (some (.ref fI_InvalidCount)))
  (tI_InvalidCount : PySem.W.typeIn K (.ref fI_InvalidCount) = some (.type "function"))
  (lI_InvalidCount : K.lookup fI_InvalidCount = some ⟨ocI_InvalidCount, odI_InvalidCount, .func (PySem.W.fnOf "__init__" "InvalidCount.__init__" (defArgs s_init_InvalidCount) (defBody s_init_InvalidCount) (defScope s_init_InvalidCount) (.ref TI_InvalidCount) kVI_InvalidCount dcI_InvalidCount pmI_InvalidCount anI_InvalidCount cdI_InvalidCount ctI_InvalidCount), slI_InvalidCount⟩)
  (cI_InvalidCount : PySem.W.codeIn K cdI_InvalidCount "InvalidCount.__init__" = true)
  (kI_InvalidCount : PySem.W.keepIn K (.ref fI_InvalidCount) = true)
  (lT_InvalidCount : K.lookup TI_InvalidCount = some ⟨.type "tuple", odT_InvalidCount, .seq #[.none] nT_InvalidCount, slT_InvalidCount⟩)
  (aC_InvalidFilling : PySem.W.nsIn K mainGlobals "InvalidFilling" = some (some (.ref C_InvalidFilling)))
  (xL_InvalidFilling : K.lookup C_InvalidFilling = some (excClassObj nm_InvalidFilling qn_InvalidFilling C_InvalidFilling N_InvalidFilling bs_InvalidFilling [.ref CB_InvalidFilling, .type "ValueError", .type "Exception", .type "BaseException", .type "object"] true sn_InvalidFilling sub_InvalidFilling ab_InvalidFilling col_InvalidFilling dd_InvalidFilling m0_InvalidFilling m1_InvalidFilling m2_InvalidFilling m3_InvalidFilling m5_InvalidFilling "ValueError.__new__"))
  (sa_InvalidFilling : PySem.W.findIn K (.ref C_InvalidFilling) "__setattr__" = some (some (.builtin "object.__setattr__")))
  (ga_InvalidFilling : PySem.W.findIn K (.ref C_InvalidFilling) "__getattribute__" = some (some (.builtin "BaseException.__getattribute__")))
  (gg_InvalidFilling : PySem.W.findIn K (.ref C_InvalidFilling) "__getattr__" = some none)
  (nb_InvalidFilling : PySem.W.findIn K (.ref C_InvalidFilling) "thing" = some none)
  (ca_InvalidFilling : PySem.W.findIn K (.ref C_InvalidFilling) "__class__" = some (some (.builtin "object.__class__")))
  (cm_InvalidFilling : PySem.W.mroIn K C_InvalidFilling (.type "object") = some true)
  (kC_InvalidFilling : PySem.W.keepIn K (.ref C_InvalidFilling) = true)
  (eC_InvalidFilling : PySem.W.subIn K (.ref C_InvalidFilling) (.type "BaseException") = some true)
  (tC_InvalidFilling : PySem.W.typeIn K (.ref C_InvalidFilling) = some (.type "type"))
  (hC_InvalidFilling : PySem.W.hasDictIn K C_InvalidFilling = true)
  (iC_InvalidFilling : PySem.W.findIn K (.ref C_InvalidFilling) "__init__" = some (some (.ref fI_InvalidFilling)))
  (tI_InvalidFilling : PySem.W.typeIn K (.ref fI_InvalidFilling) = some (.type "function"))
  (lI_InvalidFilling : K.lookup fI_InvalidFilling = some ⟨ocI_InvalidFilling, odI_InvalidFilling, .func (PySem.W.fnOf "__init__" "InvalidFilling.__init__" (defArgs s_init_InvalidFilling) (defBody s_init_InvalidFilling) (defScope s_init_InvalidFilling) (.ref TI_InvalidFilling) kVI_InvalidFilling dcI_InvalidFilling pmI_InvalidFilling anI_InvalidFilling cdI_InvalidFilling ctI_InvalidFilling), slI_InvalidFilling⟩)
  (cI_InvalidFilling : PySem.W.codeIn K cdI_InvalidFilling "InvalidFilling.__init__" = true)
  (kI_InvalidFilling : PySem.W.keepIn K (.ref fI_InvalidFilling) = true)
  (lT_InvalidFilling : K.lookup TI_InvalidFilling = some ⟨.type "tuple", odT_InvalidFilling, .seq #[.none] nT_InvalidFilling, slT_InvalidFilling⟩)
  (aC_InvalidLabels : PySem.W.nsIn K mainGlobals "InvalidLabels" = some (some (.ref C_InvalidLabels)))
  (xL_InvalidLabels : K.lookup C_InvalidLabels = some (excClassObj nm_InvalidLabels qn_InvalidLabels C_InvalidLabels N_InvalidLabels bs_InvalidLabels [.ref CB_InvalidLabels, .type "ValueError", .type "Exception", .type "BaseException", .type "object"] true sn_InvalidLabels sub_InvalidLabels ab_InvalidLabels col_InvalidLabels dd_InvalidLabels m0_InvalidLabels m1_InvalidLabels m2_InvalidLabels m3_InvalidLabels m5_InvalidLabels "ValueError.__new__"))
  (sa_InvalidLabels : PySem.W.findIn K (.ref C_InvalidLabels) "__setattr__" = some (some (.builtin "object.__setattr__")))
  (ga_InvalidLabels : PySem.W.findIn K (.ref C_InvalidLabels) "__getattribute__" = some (some (.builtin "BaseException.__getattribute__")))
  (gg_InvalidLabels : PySem.W.findIn K (.ref C_InvalidLabels) "__getattr__" = some none)
  (nb_InvalidLabels : PySem.W.findIn K (.ref C_InvalidLabels) "thing" = some none)
  (ca_InvalidLabels : PySem.W.findIn K (.ref C_InvalidLabels) "__class__" = some (some (.builtin "object.__class__")))
  (cm_InvalidLabels : PySem.W.mroIn K C_InvalidLabels (.type "object") = some true)
  (kC_InvalidLabels : PySem.W.keepIn K (.ref C_InvalidLabels) = true)
  (eC_InvalidLabels : PySem.W.subIn K (.ref C_InvalidLabels) (.type "BaseException") = some true)
  (tC_InvalidLabels : PySem.W.typeIn K (.ref C_InvalidLabels) = some (.type "type"))
  (hC_InvalidLabels : PySem.W.hasDictIn K C_InvalidLabels = true)
  (iC_InvalidLabels : PySem.W.findIn K (.ref C_InvalidLabels) "__init__" = some (some (.ref fI_InvalidLabels)))
  (tI_InvalidLabels : PySem.W.typeIn K (.ref fI_InvalidLabels) = some (.type "function"))
  (lI_InvalidLabels : K.lookup fI_InvalidLabels = some ⟨ocI_InvalidLabels, odI_InvalidLabels, .func (PySem.W.fnOf "__init__" "InvalidLabels.__init__" (defArgs s_init_InvalidLabels) (defBody s_init_InvalidLabels) (defScope s_init_InvalidLabels) (.ref TI_InvalidLabels) kVI_InvalidLabels dcI_InvalidLabels pmI_InvalidLabels anI_InvalidLabels cdI_InvalidLabels ctI_InvalidLabels), slI_InvalidLabels⟩)
  (cI_InvalidLabels : PySem.W.codeIn K cdI_InvalidLabels "InvalidLabels.__init__" = true)
  (kI_InvalidLabels : PySem.W.keepIn K (.ref fI_InvalidLabels) = true)
  (lT_InvalidLabels : K.lookup TI_InvalidLabels = some ⟨.type "tuple", odT_InvalidLabels, .seq #[.none] nT_InvalidLabels, slT_InvalidLabels⟩)
  (aC_InvalidLikeness : PySem.W.nsIn K mainGlobals "InvalidLikeness" = some (some (.ref C_InvalidLikeness)))
  (xL_InvalidLikeness : K.lookup C_InvalidLikeness = some (excClassObj nm_InvalidLikeness qn_InvalidLikeness C_InvalidLikeness N_InvalidLikeness bs_InvalidLikeness [.ref CB_InvalidLikeness, .type "ValueError", .type "Exception", .type "BaseException", .type "object"] true sn_InvalidLikeness sub_InvalidLikeness ab_InvalidLikeness col_InvalidLikeness dd_InvalidLikeness m0_InvalidLikeness m1_InvalidLikeness m2_InvalidLikeness m3_InvalidLikeness m5_InvalidLikeness "ValueError.__new__"))
  (sa_InvalidLikeness : PySem.W.findIn K (.ref C_InvalidLikeness) "__setattr__" = some (some (.builtin "object.__setattr__")))
  (ga_InvalidLikeness : PySem.W.findIn K (.ref C_InvalidLikeness) "__getattribute__" = some (some (.builtin "BaseException.__getattribute__")))
  (gg_InvalidLikeness : PySem.W.findIn K (.ref C_InvalidLikeness) "__getattr__" = some none)
  (nb_InvalidLikeness : PySem.W.findIn K (.ref C_InvalidLikeness) "likeness" = some none)
  (ca_InvalidLikeness : PySem.W.findIn K (.ref C_InvalidLikeness) "__class__" = some (some (.builtin "object.__class__")))
  (cm_InvalidLikeness : PySem.W.mroIn K C_InvalidLikeness (.type "object") = some true)
  (kC_InvalidLikeness : PySem.W.keepIn K (.ref C_InvalidLikeness) = true)
  (eC_InvalidLikeness : PySem.W.subIn K (.ref C_InvalidLikeness) (.type "BaseException") = some true)
  (tC_InvalidLikeness : PySem.W.typeIn K (.ref C_InvalidLikeness) = some (.type "type"))
  (hC_InvalidLikeness : PySem.W.hasDictIn K C_InvalidLikeness = true)
  (iC_InvalidLikeness : PySem.W.findIn K (.ref C_InvalidLikeness) "__init__" = some (some (.ref fI_InvalidLikeness)))
  (tI_InvalidLikeness : PySem.W.typeIn K (.ref fI_InvalidLikeness) = some (.type "function"))
  (lI_InvalidLikeness : K.lookup fI_InvalidLikeness = some ⟨ocI_InvalidLikeness, odI_InvalidLikeness, .func (PySem.W.fnOf "__init__" "InvalidLikeness.__init__" (defArgs s_init_InvalidLikeness) (defBody s_init_InvalidLikeness) (defScope s_init_InvalidLikeness) (.ref TI_InvalidLikeness) kVI_InvalidLikeness dcI_InvalidLikeness pmI_InvalidLikeness anI_InvalidLikeness cdI_InvalidLikeness ctI_InvalidLikeness), slI_InvalidLikeness⟩)
  (cI_InvalidLikeness : PySem.W.codeIn K cdI_InvalidLikeness "InvalidLikeness.__init__" = true)
  (kI_InvalidLikeness : PySem.W.keepIn K (.ref fI_InvalidLikeness) = true)
  (lT_InvalidLikeness : K.lookup TI_InvalidLikeness = some ⟨.type "tuple", odT_InvalidLikeness, .seq #[.none] nT_InvalidLikeness, slT_InvalidLikeness⟩)
  (aC_InvalidList : PySem.W.nsIn K mainGlobals "InvalidList" = some (some (.ref C_InvalidList)))
  (xL_InvalidList : K.lookup C_InvalidList = some (excClassObj nm_InvalidList qn_InvalidList C_InvalidList N_InvalidList bs_InvalidList [.ref CB_InvalidList, .type "ValueError", .type "Exception", .type "BaseException", .type "object"] true sn_InvalidList sub_InvalidList ab_InvalidList col_InvalidList dd_InvalidList m0_InvalidList m1_InvalidList m2_InvalidList m3_InvalidList m5_InvalidList "ValueError.__new__"))
  (sa_InvalidList : PySem.W.findIn K (.ref C_InvalidList) "__setattr__" = some (some (.builtin "object.__setattr__")))
  (ga_InvalidList : PySem.W.findIn K (.ref C_InvalidList) "__getattribute__" = some (some (.builtin "BaseException.__getattribute__")))
  (gg_InvalidList : PySem.W.findIn K (.ref C_InvalidList) "__getattr__" = some none)
  (nb_InvalidList : PySem.W.findIn K (.ref C_InvalidList) "problem" = some none)
  (ca_InvalidList : PySem.W.findIn K (.ref C_InvalidList) "__class__" = some (some (.builtin "object.__class__")))
  (cm_InvalidList : PySem.W.mroIn K C_InvalidList (.type "object") = some true)
  (kC_InvalidList : PySem.W.keepIn K (.ref C_InvalidList) = true)
  (eC_InvalidList : PySem.W.subIn K (.ref C_InvalidList) (.type "BaseException") = some true)
  (tC_InvalidList : PySem.W.typeIn K (.ref C_InvalidList) = some (.type "type"))
  (hC_InvalidList : PySem.W.hasDictIn K C_InvalidList = true)
  (iC_InvalidList : PySem.W.findIn K (.ref C_InvalidList) "__init__" = some (some (.ref fI_InvalidList)))
  (tI_InvalidList : PySem.W.typeIn K (.ref fI_InvalidList) = some (.type "function"))
  (lI_InvalidList : K.lookup fI_InvalidList = some ⟨ocI_InvalidList, odI_InvalidList, .func (PySem.W.fnOf "__init__" "InvalidList.__init__" (defArgs s_init_InvalidList) (defBody s_init_InvalidList) (defScope s_init_InvalidList) (.ref TI_InvalidList) kVI_InvalidList dcI_InvalidList pmI_InvalidList anI_InvalidList cdI_InvalidList ctI_InvalidList), slI_InvalidList⟩)
  (cI_InvalidList : PySem.W.codeIn K cdI_InvalidList "InvalidList.__init__" = true)
  (kI_InvalidList : PySem.W.keepIn K (.ref fI_InvalidList) = true)
  (lT_InvalidList : K.lookup TI_InvalidList = some ⟨.type "tuple", odT_InvalidList, .seq #[.none] nT_InvalidList, slT_InvalidList⟩)
  (aC_InvalidName : PySem.W.nsIn K mainGlobals "InvalidName" = some (some (.ref C_InvalidName)))
  (xL_InvalidName : K.lookup C_InvalidName = some (excClassObj nm_InvalidName qn_InvalidName C_InvalidName N_InvalidName bs_InvalidName [.ref CB_InvalidName, .type "ValueError", .type "Exception", .type "BaseException", .type "object"] true sn_InvalidName sub_InvalidName ab_InvalidName col_InvalidName dd_InvalidName m0_InvalidName m1_InvalidName m2_InvalidName m3_InvalidName m5_InvalidName "ValueError.__new__"))
  (sa_InvalidName : PySem.W.findIn K (.ref C_InvalidName) "__setattr__" = some (some (.builtin "object.__setattr__")))
  (ga_InvalidName : PySem.W.findIn K (.ref C_InvalidName) "__getattribute__" = some (some (.builtin "BaseException.__getattribute__")))
  (gg_InvalidName : PySem.W.findIn K (.ref C_InvalidName) "__getattr__" = some none)
  (nb_InvalidName : PySem.W.findIn K (.ref C_InvalidName) "name" = some none)
  (ca_InvalidName : PySem.W.findIn K (.ref C_InvalidName) "__class__" = some (some (.builtin "object.__class__")))
  (cm_InvalidName : PySem.W.mroIn K C_InvalidName (.type "object") = some true)
  (kC_InvalidName : PySem.W.keepIn K (.ref C_InvalidName) = true)
  (eC_InvalidName : PySem.W.subIn K (.ref C_InvalidName) (.type "BaseException") = some true)
  (tC_InvalidName : PySem.W.typeIn K (.ref C_InvalidName) = some (.type "type"))
  (hC_InvalidName : PySem.W.hasDictIn K C_InvalidName = true)
  (iC_InvalidName : PySem.W.findIn K (.ref C_InvalidName) "__init__" = some (some (.ref fI_InvalidName)))
  (tI_InvalidName : PySem.W.typeIn K (.ref fI_InvalidName) = some (.type "function"))
  (lI_InvalidName : K.lookup fI_InvalidName = some ⟨ocI_InvalidName, odI_InvalidName, .func (PySem.W.fnOf "__init__" "InvalidName.__init__" (defArgs s_init_InvalidName) (defBody s_init_InvalidName) (defScope s_init_InvalidName) (.ref TI_InvalidName) kVI_InvalidName dcI_InvalidName pmI_InvalidName anI_InvalidName cdI_InvalidName ctI_InvalidName), slI_InvalidName⟩)
  (cI_InvalidName : PySem.W.codeIn K cdI_InvalidName "InvalidName.__init__" = true)
  (kI_InvalidName : PySem.W.keepIn K (.ref fI_InvalidName) = true)
  (lT_InvalidName : K.lookup TI_InvalidName = some ⟨.type "tuple", odT_InvalidName, .seq #[.none] nT_InvalidName, slT_InvalidName⟩)
  (aC_InvalidNumber : PySem.W.nsIn K mainGlobals "InvalidNumber" = some (some (.ref C_InvalidNumber)))
  (xL_InvalidNumber : K.lookup C_InvalidNumber = some (excClassObj nm_InvalidNumber qn_InvalidNumber C_InvalidNumber N_InvalidNumber bs_InvalidNumber [.ref CB_InvalidNumber, .type "ValueError", .type "Exception", .type "BaseException", .type "object"] true sn_InvalidNumber sub_InvalidNumber ab_InvalidNumber col_InvalidNumber dd_InvalidNumber m0_InvalidNumber m1_InvalidNumber m2_InvalidNumber m3_InvalidNumber m5_InvalidNumber "ValueError.__new__"))
  (sa_InvalidNumber : PySem.W.findIn K (.ref C_InvalidNumber) "__setattr__" = some (some (.builtin "object.__setattr__")))
  (ga_InvalidNumber : PySem.W.findIn K (.ref C_InvalidNumber) "__getattribute__" = some (some (.builtin "BaseException.__getattribute__")))
  (gg_InvalidNumber : PySem.W.findIn K (.ref C_InvalidNumber) "__getattr__" = some none)
  (nb_InvalidNumber : PySem.W.findIn K (.ref C_InvalidNumber) "number" = some none)
  (ca_InvalidNumber : PySem.W.findIn K (.ref C_InvalidNumber) "__class__" = some (some (.builtin "object.__class__")))
  (cm_InvalidNumber : PySem.W.mroIn K C_InvalidNumber (.type "object") = some true)
  (kC_InvalidNumber : PySem.W.keepIn K (.ref C_InvalidNumber) = true)
  (eC_InvalidNumber : PySem.W.subIn K (.ref C_InvalidNumber) (.type "BaseException") = some true)
  (tC_InvalidNumber : PySem.W.typeIn K (.ref C_InvalidNumber) = some (.type "type"))
  (hC_InvalidNumber : PySem.W.hasDictIn K C_InvalidNumber = true)
  (iC_InvalidNumber : PySem.W.findIn K (.ref C_InvalidNumber) "__init__" = some (some (.ref fI_InvalidNumber)))
  (tI_InvalidNumber : PySem.W.typeIn K (.ref fI_InvalidNumber) = some (.type "function"))
  (lI_InvalidNumber : K.lookup fI_InvalidNumber = some ⟨ocI_InvalidNumber, odI_InvalidNumber, .func (PySem.W.fnOf "__init__" "InvalidNumber.__init__" (defArgs s_init_InvalidNumber) (defBody s_init_InvalidNumber) (defScope s_init_InvalidNumber) (.ref TI_InvalidNumber) kVI_InvalidNumber dcI_InvalidNumber pmI_InvalidNumber anI_InvalidNumber cdI_InvalidNumber ctI_InvalidNumber), slI_InvalidNumber⟩)
  (cI_InvalidNumber : PySem.W.codeIn K cdI_InvalidNumber "InvalidNumber.__init__" = true)
  (kI_InvalidNumber : PySem.W.keepIn K (.ref fI_InvalidNumber) = true)
  (lT_InvalidNumber : K.lookup TI_InvalidNumber = some ⟨.type "tuple", odT_InvalidNumber, .seq #[.none] nT_InvalidNumber, slT_InvalidNumber⟩)
  (aC_InvalidPath : PySem.W.nsIn K mainGlobals "InvalidPath" = some (some (.ref C_InvalidPath)))
  (xL_InvalidPath : K.lookup C_InvalidPath = some (excClassObj nm_InvalidPath qn_InvalidPath C_InvalidPath N_InvalidPath bs_InvalidPath [.ref CB_InvalidPath, .type "ValueError", .type "Exception", .type "BaseException", .type "object"] true sn_InvalidPath sub_InvalidPath ab_InvalidPath col_InvalidPath dd_InvalidPath m0_InvalidPath m1_InvalidPath m2_InvalidPath m3_InvalidPath m5_InvalidPath "ValueError.__new__"))
  (sa_InvalidPath : PySem.W.findIn K (.ref C_InvalidPath) "__setattr__" = some (some (.builtin "object.__setattr__")))
  (ga_InvalidPath : PySem.W.findIn K (.ref C_InvalidPath) "__getattribute__" = some (some (.builtin "BaseException.__getattribute__")))
  (gg_InvalidPath : PySem.W.findIn K (.ref C_InvalidPath) "__getattr__" = some none)
  (nb_InvalidPath : PySem.W.findIn K (.ref C_InvalidPath) "place" = some none)
  (ca_InvalidPath : PySem.W.findIn K (.ref C_InvalidPath) "__class__" = some (some (.builtin "object.__class__")))
  (cm_InvalidPath : PySem.W.mroIn K C_InvalidPath (.type "object") = some true)
  (kC_InvalidPath : PySem.W.keepIn K (.ref C_InvalidPath) = true)
  (eC_InvalidPath : PySem.W.subIn K (.ref C_InvalidPath) (.type "BaseException") = some true)
  (tC_InvalidPath : PySem.W.typeIn K (.ref C_InvalidPath) = some (.type "type"))
  (hC_InvalidPath : PySem.W.hasDictIn K C_InvalidPath = true)
  (iC_InvalidPath : PySem.W.findIn K (.ref C_InvalidPath) "__init__" = some (some (.ref fI_InvalidPath)))
  (tI_InvalidPath : PySem.W.typeIn K (.ref fI_InvalidPath) = some (.type "function"))
  (lI_InvalidPath : K.lookup fI_InvalidPath = some ⟨ocI_InvalidPath, odI_InvalidPath, .func (PySem.W.fnOf "__init__" "InvalidPath.__init__" (defArgs s_init_InvalidPath) (defBody s_init_InvalidPath) (defScope s_init_InvalidPath) (.ref TI_InvalidPath) kVI_InvalidPath dcI_InvalidPath pmI_InvalidPath anI_InvalidPath cdI_InvalidPath ctI_InvalidPath), slI_InvalidPath⟩)
  (cI_InvalidPath : PySem.W.codeIn K cdI_InvalidPath "InvalidPath.__init__" = true)
  (kI_InvalidPath : PySem.W.keepIn K (.ref fI_InvalidPath) = true)
  (lT_InvalidPath : K.lookup TI_InvalidPath = some ⟨.type "tuple", odT_InvalidPath, .seq #[.none] nT_InvalidPath, slT_InvalidPath⟩)
  (aC_InvalidPattern : PySem.W.nsIn K mainGlobals "InvalidPattern" = some (some (.ref C_InvalidPattern)))
  (xL_InvalidPattern : K.lookup C_InvalidPattern = some (excClassObj nm_InvalidPattern qn_InvalidPattern C_InvalidPattern N_InvalidPattern bs_InvalidPattern [.ref CB_InvalidPattern, .type "ValueError", .type "Exception", .type "BaseException", .type "object"] true sn_InvalidPattern sub_InvalidPattern ab_InvalidPattern col_InvalidPattern dd_InvalidPattern m0_InvalidPattern m1_InvalidPattern m2_InvalidPattern m3_InvalidPattern m5_InvalidPattern "ValueError.__new__"))
  (sa_InvalidPattern : PySem.W.findIn K (.ref C_InvalidPattern) "__setattr__" = some (some (.builtin "object.__setattr__")))
  (ga_InvalidPattern : PySem.W.findIn K (.ref C_InvalidPattern) "__getattribute__" = some (some (.builtin "BaseException.__getattribute__")))
  (gg_InvalidPattern : PySem.W.findIn K (.ref C_InvalidPattern) "__getattr__" = some none)
  (nb_InvalidPattern : PySem.W.findIn K (.ref C_InvalidPattern) "thing" = some none)
  (ca_InvalidPattern : PySem.W.findIn K (.ref C_InvalidPattern) "__class__" = some (some (.builtin "object.__class__")))
  (cm_InvalidPattern : PySem.W.mroIn K C_InvalidPattern (.type "object") = some true)
  (kC_InvalidPattern : PySem.W.keepIn K (.ref C_InvalidPattern) = true)
  (eC_InvalidPattern : PySem.W.subIn K (.ref C_InvalidPattern) (.type "BaseException") = some true)
  (tC_InvalidPattern : PySem.W.typeIn K (.ref C_InvalidPattern) = some (.type "type"))
  (hC_InvalidPattern : PySem.W.hasDictIn K C_InvalidPattern = true)
  (iC_InvalidPattern : PySem.W.findIn K (.ref C_InvalidPattern) "__init__" = some (some (.ref fI_InvalidPattern)))
  (tI_InvalidPattern : PySem.W.typeIn K (.ref fI_InvalidPattern) = some (.type "function"))
  (lI_InvalidPattern : K.lookup fI_InvalidPattern = some ⟨ocI_InvalidPattern, odI_InvalidPattern, .func (PySem.W.fnOf "__init__" "InvalidPattern.__init__" (defArgs s_init_InvalidPattern) (defBody s_init_InvalidPattern) (defScope s_init_InvalidPattern) (.ref TI_InvalidPattern) kVI_InvalidPattern dcI_InvalidPattern pmI_InvalidPattern anI_InvalidPattern cdI_InvalidPattern ctI_InvalidPattern), slI_InvalidPattern⟩)
  (cI_InvalidPattern : PySem.W.codeIn K cdI_InvalidPattern "InvalidPattern.__init__" = true)
  (kI_InvalidPattern : PySem.W.keepIn K (.ref fI_InvalidPattern) = true)
  (lT_InvalidPattern : K.lookup TI_InvalidPattern = some ⟨.type "tuple", odT_InvalidPattern, .seq #[.none] nT_InvalidPattern, slT_InvalidPattern⟩)
  (aC_InvalidRewriting : PySem.W.nsIn K mainGlobals "InvalidRewriting" = some (some (.ref C_InvalidRewriting)))
  (xL_InvalidRewriting : K.lookup C_InvalidRewriting = some (excClassObj nm_InvalidRewriting qn_InvalidRewriting C_InvalidRewriting N_InvalidRewriting bs_InvalidRewriting [.ref CB_InvalidRewriting, .type "ValueError", .type "Exception", .type "BaseException", .type "object"] true sn_InvalidRewriting sub_InvalidRewriting ab_InvalidRewriting col_InvalidRewriting dd_InvalidRewriting m0_InvalidRewriting m1_InvalidRewriting m2_InvalidRewriting m3_InvalidRewriting m5_InvalidRewriting "ValueError.__new__"))
  (sa_InvalidRewriting : PySem.W.findIn K (.ref C_InvalidRewriting) "__setattr__" = some (some (.builtin "object.__setattr__")))
  (ga_InvalidRewriting : PySem.W.findIn K (.ref C_InvalidRewriting) "__getattribute__" = some (some (.builtin "BaseException.__getattribute__")))
  (gg_InvalidRewriting : PySem.W.findIn K (.ref C_InvalidRewriting) "__getattr__" = some none)
  (nb_InvalidRewriting : PySem.W.findIn K (.ref C_InvalidRewriting) "thing" = some none)
  (ca_InvalidRewriting : PySem.W.findIn K (.ref C_InvalidRewriting) "__class__" = some (some (.builtin "object.__class__")))
  (cm_InvalidRewriting : PySem.W.mroIn K C_InvalidRewriting (.type "object") = some true)
  (kC_InvalidRewriting : PySem.W.keepIn K (.ref C_InvalidRewriting) = true)
  (eC_InvalidRewriting : PySem.W.subIn K (.ref C_InvalidRewriting) (.type "BaseException") = some true)
  (tC_InvalidRewriting : PySem.W.typeIn K (.ref C_InvalidRewriting) = some (.type "type"))
  (hC_InvalidRewriting : PySem.W.hasDictIn K C_InvalidRewriting = true)
  (iC_InvalidRewriting : PySem.W.findIn K (.ref C_InvalidRewriting) "__init__" = some (some (.ref fI_InvalidRewriting)))
  (tI_InvalidRewriting : PySem.W.typeIn K (.ref fI_InvalidRewriting) = some (.type "function"))
  (lI_InvalidRewriting : K.lookup fI_InvalidRewriting = some ⟨ocI_InvalidRewriting, odI_InvalidRewriting, .func (PySem.W.fnOf "__init__" "InvalidRewriting.__init__" (defArgs s_init_InvalidRewriting) (defBody s_init_InvalidRewriting) (defScope s_init_InvalidRewriting) (.ref TI_InvalidRewriting) kVI_InvalidRewriting dcI_InvalidRewriting pmI_InvalidRewriting anI_InvalidRewriting cdI_InvalidRewriting ctI_InvalidRewriting), slI_InvalidRewriting⟩)
  (cI_InvalidRewriting : PySem.W.codeIn K cdI_InvalidRewriting "InvalidRewriting.__init__" = true)
  (kI_InvalidRewriting : PySem.W.keepIn K (.ref fI_InvalidRewriting) = true)
  (lT_InvalidRewriting : K.lookup TI_InvalidRewriting = some ⟨.type "tuple", odT_InvalidRewriting, .seq #[.none] nT_InvalidRewriting, slT_InvalidRewriting⟩)
  (aC_InvalidScript : PySem.W.nsIn K mainGlobals "InvalidScript" = some (some (.ref C_InvalidScript)))
  (xL_InvalidScript : K.lookup C_InvalidScript = some (excClassObj nm_InvalidScript qn_InvalidScript C_InvalidScript N_InvalidScript bs_InvalidScript [.ref CB_InvalidScript, .type "ValueError", .type "Exception", .type "BaseException", .type "object"] true sn_InvalidScript sub_InvalidScript ab_InvalidScript col_InvalidScript dd_InvalidScript m0_InvalidScript m1_InvalidScript m2_InvalidScript m3_InvalidScript m5_InvalidScript "ValueError.__new__"))
  (sa_InvalidScript : PySem.W.findIn K (.ref C_InvalidScript) "__setattr__" = some (some (.builtin "object.__setattr__")))
  (ga_InvalidScript : PySem.W.findIn K (.ref C_InvalidScript) "__getattribute__" = some (some (.builtin "BaseException.__getattribute__")))
  (gg_InvalidScript : PySem.W.findIn K (.ref C_InvalidScript) "__getattr__" = some none)
  (nb_InvalidScript : PySem.W.findIn K (.ref C_InvalidScript) "problem" = some none)
  (ca_InvalidScript : PySem.W.findIn K (.ref C_InvalidScript) "__class__" = some (some (.builtin "object.__class__")))
  (cm_InvalidScript : PySem.W.mroIn K C_InvalidScript (.type "object") = some true)
  (kC_InvalidScript : PySem.W.keepIn K (.ref C_InvalidScript) = true)
  (eC_InvalidScript : PySem.W.subIn K (.ref C_InvalidScript) (.type "BaseException") = some true)
  (tC_InvalidScript : PySem.W.typeIn K (.ref C_InvalidScript) = some (.type "type"))
  (hC_InvalidScript : PySem.W.hasDictIn K C_InvalidScript = true)
  (iC_InvalidScript : PySem.W.findIn K (.ref C_InvalidScript) "__init__" = some (some (.ref fI_InvalidScript)))
  (tI_InvalidScript : PySem.W.typeIn K (.ref fI_InvalidScript) = some (.type "function"))
  (lI_InvalidScript : K.lookup fI_InvalidScript = some ⟨ocI_InvalidScript, odI_InvalidScript, .func (PySem.W.fnOf "__init__" "InvalidScript.__init__" (defArgs s_init_InvalidScript) (defBody s_init_InvalidScript) (defScope s_init_InvalidScript) (.ref TI_InvalidScript) kVI_InvalidScript dcI_InvalidScript pmI_InvalidScript anI_InvalidScript cdI_InvalidScript ctI_InvalidScript), slI_InvalidScript⟩)
  (cI_InvalidScript : PySem.W.codeIn K cdI_InvalidScript "InvalidScript.__init__" = true)
  (kI_InvalidScript : PySem.W.keepIn K (.ref fI_InvalidScript) = true)
  (lT_InvalidScript : K.lookup TI_InvalidScript = some ⟨.type "tuple", odT_InvalidScript, .seq #[.none] nT_InvalidScript, slT_InvalidScript⟩)
  (aC_InvalidState : PySem.W.nsIn K mainGlobals "InvalidState" = some (some (.ref C_InvalidState)))
  (xL_InvalidState : K.lookup C_InvalidState = some (excClassObj nm_InvalidState qn_InvalidState C_InvalidState N_InvalidState bs_InvalidState [.ref CB_InvalidState, .type "ValueError", .type "Exception", .type "BaseException", .type "object"] true sn_InvalidState sub_InvalidState ab_InvalidState col_InvalidState dd_InvalidState m0_InvalidState m1_InvalidState m2_InvalidState m3_InvalidState m5_InvalidState "ValueError.__new__"))
  (sa_InvalidState : PySem.W.findIn K (.ref C_InvalidState) "__setattr__" = some (some (.builtin "object.__setattr__")))
  (ga_InvalidState : PySem.W.findIn K (.ref C_InvalidState) "__getattribute__" = some (some (.builtin "BaseException.__getattribute__")))
  (gg_InvalidState : PySem.W.findIn K (.ref C_InvalidState) "__getattr__" = some none)
  (nb_InvalidState : PySem.W.findIn K (.ref C_InvalidState) "thing" = some none)
  (ca_InvalidState : PySem.W.findIn K (.ref C_InvalidState) "__class__" = some (some (.builtin "object.__class__")))
  (cm_InvalidState : PySem.W.mroIn K C_InvalidState (.type "object") = some true)
  (kC_InvalidState : PySem.W.keepIn K (.ref C_InvalidState) = true)
  (eC_InvalidState : PySem.W.subIn K (.ref C_InvalidState) (.type "BaseException") = some true)
  (tC_InvalidState : PySem.W.typeIn K (.ref C_InvalidState) = some (.type "type"))
  (hC_InvalidState : PySem.W.hasDictIn K C_InvalidState = true)
  (iC_InvalidState : PySem.W.findIn K (.ref C_InvalidState) "__init__" = some (some (.ref fI_InvalidState)))
  (tI_InvalidState : PySem.W.typeIn K (.ref fI_InvalidState) = some (.type "function"))
  (lI_InvalidState : K.lookup fI_InvalidState = some ⟨ocI_InvalidState, odI_InvalidState, .func (PySem.W.fnOf "__init__" "InvalidState.__init__" (defArgs s_init_InvalidState) (defBody s_init_InvalidState) (defScope s_init_InvalidState) (.ref TI_InvalidState) kVI_InvalidState dcI_InvalidState pmI_InvalidState anI_InvalidState cdI_InvalidState ctI_InvalidState), slI_InvalidState⟩)
  (cI_InvalidState : PySem.W.codeIn K cdI_InvalidState "InvalidState.__init__" = true)
  (kI_InvalidState : PySem.W.keepIn K (.ref fI_InvalidState) = true)
  (lT_InvalidState : K.lookup TI_InvalidState = some ⟨.type "tuple", odT_InvalidState, .seq #[.none] nT_InvalidState, slT_InvalidState⟩)
  (aC_InvalidTree : PySem.W.nsIn K mainGlobals "InvalidTree" = some (some (.ref C_InvalidTree)))
  (xL_InvalidTree : K.lookup C_InvalidTree = some (excClassObj nm_InvalidTree qn_InvalidTree C_InvalidTree N_InvalidTree bs_InvalidTree [.ref CB_InvalidTree, .type "ValueError", .type "Exception", .type "BaseException", .type "object"] true sn_InvalidTree sub_InvalidTree ab_InvalidTree col_InvalidTree dd_InvalidTree m0_InvalidTree m1_InvalidTree m2_InvalidTree m3_InvalidTree m5_InvalidTree "ValueError.__new__"))
  (sa_InvalidTree : PySem.W.findIn K (.ref C_InvalidTree) "__setattr__" = some (some (.builtin "object.__setattr__")))
  (ga_InvalidTree : PySem.W.findIn K (.ref C_InvalidTree) "__getattribute__" = some (some (.builtin "BaseException.__getattribute__")))
  (gg_InvalidTree : PySem.W.findIn K (.ref C_InvalidTree) "__getattr__" = some none)
  (nb_InvalidTree : PySem.W.findIn K (.ref C_InvalidTree) "thing" = some none)
  (ca_InvalidTree : PySem.W.findIn K (.ref C_InvalidTree) "__class__" = some (some (.builtin "object.__class__")))
  (cm_InvalidTree : PySem.W.mroIn K C_InvalidTree (.type "object") = some true)
  (kC_InvalidTree : PySem.W.keepIn K (.ref C_InvalidTree) = true)
  (eC_InvalidTree : PySem.W.subIn K (.ref C_InvalidTree) (.type "BaseException") = some true)
  (tC_InvalidTree : PySem.W.typeIn K (.ref C_InvalidTree) = some (.type "type"))
  (hC_InvalidTree : PySem.W.hasDictIn K C_InvalidTree = true)
  (iC_InvalidTree : PySem.W.findIn K (.ref C_InvalidTree) "__init__" = some (some (.ref fI_InvalidTree)))
  (tI_InvalidTree : PySem.W.typeIn K (.ref fI_InvalidTree) = some (.type "function"))
  (lI_InvalidTree : K.lookup fI_InvalidTree = some ⟨ocI_InvalidTree, odI_InvalidTree, .func (PySem.W.fnOf "__init__" "InvalidTree.__init__" (defArgs s_init_InvalidTree) (defBody s_init_InvalidTree) (defScope s_init_InvalidTree) (.ref TI_InvalidTree) kVI_InvalidTree dcI_InvalidTree pmI_InvalidTree anI_InvalidTree cdI_InvalidTree ctI_InvalidTree), slI_InvalidTree⟩)
  (cI_InvalidTree : PySem.W.codeIn K cdI_InvalidTree "InvalidTree.__init__" = true)
  (kI_InvalidTree : PySem.W.keepIn K (.ref fI_InvalidTree) = true)
  (lT_InvalidTree : K.lookup TI_InvalidTree = some ⟨.type "tuple", odT_InvalidTree, .seq #[.none] nT_InvalidTree, slT_InvalidTree⟩)
  (aC_Needed : PySem.W.nsIn K mainGlobals "Needed" = some (some (.ref C_Needed)))
  (xL_Needed : K.lookup C_Needed = some (excClassObj nm_Needed qn_Needed C_Needed N_Needed bs_Needed [.ref CB_Needed, .type "ValueError", .type "Exception", .type "BaseException", .type "object"] true sn_Needed sub_Needed ab_Needed col_Needed dd_Needed m0_Needed m1_Needed m2_Needed m3_Needed m5_Needed "ValueError.__new__"))
  (sa_Needed : PySem.W.findIn K (.ref C_Needed) "__setattr__" = some (some (.builtin "object.__setattr__")))
  (ga_Needed : PySem.W.findIn K (.ref C_Needed) "__getattribute__" = some (some (.builtin "BaseException.__getattribute__")))
  (gg_Needed : PySem.W.findIn K (.ref C_Needed) "__getattr__" = some none)
  (nb_Needed : PySem.W.findIn K (.ref C_Needed) "number" = some none)
  (ca_Needed : PySem.W.findIn K (.ref C_Needed) "__class__" = some (some (.builtin "object.__class__")))
  (cm_Needed : PySem.W.mroIn K C_Needed (.type "object") = some true)
  (kC_Needed : PySem.W.keepIn K (.ref C_Needed) = true)
  (eC_Needed : PySem.W.subIn K (.ref C_Needed) (.type "BaseException") = some true)
  (tC_Needed : PySem.W.typeIn K (.ref C_Needed) = some (.type "type"))
  (hC_Needed : PySem.W.hasDictIn K C_Needed = true)
  (iC_Needed : PySem.W.findIn K (.ref C_Needed) "__init__" = some (some (.ref fI_Needed)))
  (tI_Needed : PySem.W.typeIn K (.ref fI_Needed) = some (.type "function"))
  (lI_Needed : K.lookup fI_Needed = some ⟨ocI_Needed, odI_Needed, .func (PySem.W.fnOf "__init__" "Needed.__init__" (defArgs s_init_Needed) (defBody s_init_Needed) (defScope s_init_Needed) (.ref TI_Needed) kVI_Needed dcI_Needed pmI_Needed anI_Needed cdI_Needed ctI_Needed), slI_Needed⟩)
  (cI_Needed : PySem.W.codeIn K cdI_Needed "Needed.__init__" = true)
  (kI_Needed : PySem.W.keepIn K (.ref fI_Needed) = true)
  (lT_Needed : K.lookup TI_Needed = some ⟨.type "tuple", odT_Needed, .seq #[.none] nT_Needed, slT_Needed⟩)
  (aC_NoSuchName : PySem.W.nsIn K mainGlobals "NoSuchName" = some (some (.ref C_NoSuchName)))
  (xL_NoSuchName : K.lookup C_NoSuchName = some (excClassObj nm_NoSuchName qn_NoSuchName C_NoSuchName N_NoSuchName bs_NoSuchName [.ref CB_NoSuchName, .type "ValueError", .type "Exception", .type "BaseException", .type "object"] true sn_NoSuchName sub_NoSuchName ab_NoSuchName col_NoSuchName dd_NoSuchName m0_NoSuchName m1_NoSuchName m2_NoSuchName m3_NoSuchName m5_NoSuchName "ValueError.__new__"))
  (sa_NoSuchName : PySem.W.findIn K (.ref C_NoSuchName) "__setattr__" = some (some (.builtin "object.__setattr__")))
  (ga_NoSuchName : PySem.W.findIn K (.ref C_NoSuchName) "__getattribute__" = some (some (.builtin "BaseException.__getattribute__")))
  (gg_NoSuchName : PySem.W.findIn K (.ref C_NoSuchName) "__getattr__" = some none)
  (nb_NoSuchName : PySem.W.findIn K (.ref C_NoSuchName) "name" = some none)
  (ca_NoSuchName : PySem.W.findIn K (.ref C_NoSuchName) "__class__" = some (some (.builtin "object.__class__")))
  (cm_NoSuchName : PySem.W.mroIn K C_NoSuchName (.type "object") = some true)
  (kC_NoSuchName : PySem.W.keepIn K (.ref C_NoSuchName) = true)
  (eC_NoSuchName : PySem.W.subIn K (.ref C_NoSuchName) (.type "BaseException") = some true)
  (tC_NoSuchName : PySem.W.typeIn K (.ref C_NoSuchName) = some (.type "type"))
  (hC_NoSuchName : PySem.W.hasDictIn K C_NoSuchName = true)
  (iC_NoSuchName : PySem.W.findIn K (.ref C_NoSuchName) "__init__" = some (some (.ref fI_NoSuchName)))
  (tI_NoSuchName : PySem.W.typeIn K (.ref fI_NoSuchName) = some (.type "function"))
  (lI_NoSuchName : K.lookup fI_NoSuchName = some ⟨ocI_NoSuchName, odI_NoSuchName, .func (PySem.W.fnOf "__init__" "NoSuchName.__init__" (defArgs s_init_NoSuchName) (defBody s_init_NoSuchName) (defScope s_init_NoSuchName) (.ref TI_NoSuchName) kVI_NoSuchName dcI_NoSuchName pmI_NoSuchName anI_NoSuchName cdI_NoSuchName ctI_NoSuchName), slI_NoSuchName⟩)
  (cI_NoSuchName : PySem.W.codeIn K cdI_NoSuchName "NoSuchName.__init__" = true)
  (kI_NoSuchName : PySem.W.keepIn K (.ref fI_NoSuchName) = true)
  (lT_NoSuchName : K.lookup TI_NoSuchName = some ⟨.type "tuple", odT_NoSuchName, .seq #[.none] nT_NoSuchName, slT_NoSuchName⟩)
  (aC_NotOneToOne : PySem.W.nsIn K mainGlobals "NotOneToOne" = some (some (.ref C_NotOneToOne)))
  (xL_NotOneToOne : K.lookup C_NotOneToOne = some (excClassObj nm_NotOneToOne qn_NotOneToOne C_NotOneToOne N_NotOneToOne bs_NotOneToOne [.ref CB_NotOneToOne, .type "ValueError", .type "Exception", .type "BaseException", .type "object"] true sn_NotOneToOne sub_NotOneToOne ab_NotOneToOne col_NotOneToOne dd_NotOneToOne m0_NotOneToOne m1_NotOneToOne m2_NotOneToOne m3_NotOneToOne m5_NotOneToOne "ValueError.__new__"))
  (sa_NotOneToOne : PySem.W.findIn K (.ref C_NotOneToOne) "__setattr__" = some (some (.builtin "object.__setattr__")))
  (ga_NotOneToOne : PySem.W.findIn K (.ref C_NotOneToOne) "__getattribute__" = some (some (.builtin "BaseException.__getattribute__")))
  (gg_NotOneToOne : PySem.W.findIn K (.ref C_NotOneToOne) "__getattr__" = some none)
  (nb_NotOneToOne : PySem.W.findIn K (.ref C_NotOneToOne) "states" = some none)
  (ca_NotOneToOne : PySem.W.findIn K (.ref C_NotOneToOne) "__class__" = some (some (.builtin "object.__class__")))
  (cm_NotOneToOne : PySem.W.mroIn K C_NotOneToOne (.type "object") = some true)
  (kC_NotOneToOne : PySem.W.keepIn K (.ref C_NotOneToOne) = true)
  (eC_NotOneToOne : PySem.W.subIn K (.ref C_NotOneToOne) (.type "BaseException") = some true)
  (tC_NotOneToOne : PySem.W.typeIn K (.ref C_NotOneToOne) = some (.type "type"))
  (hC_NotOneToOne : PySem.W.hasDictIn K C_NotOneToOne = true)
  (iC_NotOneToOne : PySem.W.findIn K (.ref C_NotOneToOne) "__init__" = some (some (.ref fI_NotOneToOne)))
  (tI_NotOneToOne : PySem.W.typeIn K (.ref fI_NotOneToOne) = some (.type "function"))
  (lI_NotOneToOne : K.lookup fI_NotOneToOne = some ⟨ocI_NotOneToOne, odI_NotOneToOne, .func (PySem.W.fnOf "__init__" "NotOneToOne.__init__" (defArgs s_init_NotOneToOne) (defBody s_init_NotOneToOne) (defScope s_init_NotOneToOne) (.ref TI_NotOneToOne) kVI_NotOneToOne dcI_NotOneToOne pmI_NotOneToOne anI_NotOneToOne cdI_NotOneToOne ctI_NotOneToOne), slI_NotOneToOne⟩)
  (cI_NotOneToOne : PySem.W.codeIn K cdI_NotOneToOne "NotOneToOne.__init__" = true)
  (kI_NotOneToOne : PySem.W.keepIn K (.ref fI_NotOneToOne) = true)
  (lT_NotOneToOne : K.lookup TI_NotOneToOne = some ⟨.type "tuple", odT_NotOneToOne, .seq #[.none] nT_NotOneToOne, slT_NotOneToOne⟩)
  (aC_Unreadable : PySem.W.nsIn K mainGlobals "Unreadable" = some (some (.ref C_Unreadable)))
  (xL_Unreadable : K.lookup C_Unreadable = some (excClassObj nm_Unreadable qn_Unreadable C_Unreadable N_Unreadable bs_Unreadable [.ref CB_Unreadable, .type "ValueError", .type "Exception", .type "BaseException", .type "object"] true sn_Unreadable sub_Unreadable ab_Unreadable col_Unreadable dd_Unreadable m0_Unreadable m1_Unreadable m2_Unreadable m3_Unreadable m5_Unreadable "ValueError.__new__"))
  (sa_Unreadable : PySem.W.findIn K (.ref C_Unreadable) "__setattr__" = some (some (.builtin "object.__setattr__")))
  (ga_Unreadable : PySem.W.findIn K (.ref C_Unreadable) "__getattribute__" = some (some (.builtin "BaseException.__getattribute__")))
  (gg_Unreadable : PySem.W.findIn K (.ref C_Unreadable) "__getattr__" = some none)
  (nb_Unreadable : PySem.W.findIn K (.ref C_Unreadable) "at" = some none)
  (ca_Unreadable : PySem.W.findIn K (.ref C_Unreadable) "__class__" = some (some (.builtin "object.__class__")))
  (cm_Unreadable : PySem.W.mroIn K C_Unreadable (.type "object") = some true)
  (kC_Unreadable : PySem.W.keepIn K (.ref C_Unreadable) = true)
  (eC_Unreadable : PySem.W.subIn K (.ref C_Unreadable) (.type "BaseException") = some true)
  (tC_Unreadable : PySem.W.typeIn K (.ref C_Unreadable) = some (.type "type"))
  (hC_Unreadable : PySem.W.hasDictIn K C_Unreadable = true)
  (iC_Unreadable : PySem.W.findIn K (.ref C_Unreadable) "__init__" = some (some (.ref fI_Unreadable)))
  (tI_Unreadable : PySem.W.typeIn K (.ref fI_Unreadable) = some (.type "function"))
  (lI_Unreadable : K.lookup fI_Unreadable = some ⟨ocI_Unreadable, odI_Unreadable, .func (PySem.W.fnOf "__init__" "Unreadable.__init__" (defArgs s_init_Unreadable) (defBody s_init_Unreadable) (defScope s_init_Unreadable) (.ref TI_Unreadable) kVI_Unreadable dcI_Unreadable pmI_Unreadable anI_Unreadable cdI_Unreadable ctI_Unreadable), slI_Unreadable⟩)
  (cI_Unreadable : PySem.W.codeIn K cdI_Unreadable "Unreadable.__init__" = true)
  (kI_Unreadable : PySem.W.keepIn K (.ref fI_Unreadable) = true)
  (lT_Unreadable : K.lookup TI_Unreadable = some ⟨.type "tuple", odT_Unreadable, .seq #[.none] nT_Unreadable, slT_Unreadable⟩)
  (aC_NoBack : PySem.W.nsIn K mainGlobals "NoBack" = some (some (.ref C_NoBack)))
  (ga_NoBack : PySem.W.findIn K (.ref C_NoBack) "__getattribute__" = some (some (.builtin "BaseException.__getattribute__")))
  (gg_NoBack : PySem.W.findIn K (.ref C_NoBack) "__getattr__" = some none)
  (ca_NoBack : PySem.W.findIn K (.ref C_NoBack) "__class__" = some (some (.builtin "object.__class__")))
  (cm_NoBack : PySem.W.mroIn K C_NoBack (.type "object") = some true)
  (kC_NoBack : PySem.W.keepIn K (.ref C_NoBack) = true)
  (eC_NoBack : PySem.W.subIn K (.ref C_NoBack) (.type "BaseException") = some true)
  (hC_NoBack : PySem.W.hasDictIn K C_NoBack = true)
  (xN_NoBack : PySem.W.excIn K C_NoBack [.type "ValueError", .type "Exception", .type "BaseException", .type "object"] "ValueError.__new__" = true)
  (aC_NothingToUndo : PySem.W.nsIn K mainGlobals "NothingToUndo" = some (some (.ref C_NothingToUndo)))
  (ga_NothingToUndo : PySem.W.findIn K (.ref C_NothingToUndo) "__getattribute__" = some (some (.builtin "BaseException.__getattribute__")))
  (gg_NothingToUndo : PySem.W.findIn K (.ref C_NothingToUndo) "__getattr__" = some none)
  (ca_NothingToUndo : PySem.W.findIn K (.ref C_NothingToUndo) "__class__" = some (some (.builtin "object.__class__")))
  (cm_NothingToUndo : PySem.W.mroIn K C_NothingToUndo (.type "object") = some true)
  (kC_NothingToUndo : PySem.W.keepIn K (.ref C_NothingToUndo) = true)
  (eC_NothingToUndo : PySem.W.subIn K (.ref C_NothingToUndo) (.type "BaseException") = some true)
  (hC_NothingToUndo : PySem.W.hasDictIn K C_NothingToUndo = true)
  (xN_NothingToUndo : PySem.W.excIn K C_NothingToUndo [.type "ValueError", .type "Exception", .type "BaseException", .type "object"] "ValueError.__new__" = true)
  (aC_TooMany : PySem.W.nsIn K mainGlobals "TooMany" = some (some (.ref C_TooMany)))
  (ga_TooMany : PySem.W.findIn K (.ref C_TooMany) "__getattribute__" = some (some (.builtin "BaseException.__getattribute__")))
  (gg_TooMany : PySem.W.findIn K (.ref C_TooMany) "__getattr__" = some none)
  (ca_TooMany : PySem.W.findIn K (.ref C_TooMany) "__class__" = some (some (.builtin "object.__class__")))
  (cm_TooMany : PySem.W.mroIn K C_TooMany (.type "object") = some true)
  (kC_TooMany : PySem.W.keepIn K (.ref C_TooMany) = true)
  (eC_TooMany : PySem.W.subIn K (.ref C_TooMany) (.type "BaseException") = some true)
  (hC_TooMany : PySem.W.hasDictIn K C_TooMany = true)
  (xN_TooMany : PySem.W.excIn K C_TooMany [.type "ValueError", .type "Exception", .type "BaseException", .type "object"] "ValueError.__new__" = true)
  (pure_ : ∀ ns : List Int, ns.length ≤ 63 → ∀ d, (d = .lst (ns.map D.int) ∨ d = .fls (ns.map D.int)) → ∃ S, runMain GT fldT exmT n 229 [d] [] = .ok (.bl true) S) :
  ∃ fd : FuncData, (∀ (s : Shared) (u : Value), BindsTo s fd ⟨[u], []⟩ [("_law_script", u)]) ∧ ∀ base : Heap, K.In base → base.Ns mainGlobals mg → RunA l.prog w K mg base fa fd ["_law_script"] (spLaw K) := by
  have e := hfa.symm.trans (PySem.W.mg_of X G a8)
  cases e
  have d0 : Def1 K mg "_law_mixed" s_l_mixed ["_law_cell", "_law_k"] := def_mk X G a0 l0 c0 k0 (fun _ _ _ _ _ _ us hl => match us, hl with | [_, _], _ => rfl) (fun _ _ _ _ _ _ us hl => match us, hl with | [_, _], _ => rfl)
  have d1 : Def1 K mg "_law_purse" s_l_purse ["_law_cells", "_law_spot"] := def_mk X G a1 l1 c1 k1 (fun _ _ _ _ _ _ us hl => match us, hl with | [_, _], _ => rfl) (fun _ _ _ _ _ _ us hl => match us, hl with | [_, _], _ => rfl)
  have d2 : Def1 K mg "_law_draw" s_l_draw ["_law_purse_here", "_law_out_of"] := def_mk X G a2 l2 c2 k2 (fun _ _ _ _ _ _ us hl => match us, hl with | [_, _], _ => rfl) (fun _ _ _ _ _ _ us hl => match us, hl with | [_, _], _ => rfl)
  have d3 : Def1 K mg "_law_by_place" s_l_by_place ["_law_item"] := def_mk X G a3 l3 c3 k3 (fun _ _ _ _ _ _ us hl => match us, hl with | [_], _ => rfl) (fun _ _ _ _ _ _ us hl => match us, hl with | [_], _ => rfl)
  have d4 : Def1 K mg "_law_by_name" s_l_by_name ["_law_item"] := def_mk X G a4 l4 c4 k4 (fun _ _ _ _ _ _ us hl => match us, hl with | [_], _ => rfl) (fun _ _ _ _ _ _ us hl => match us, hl with | [_], _ => rfl)
  have d5 : Def1 K mg "_law_bare" s_l_bare [] := def_mk X G a5 l5 c5 k5 (fun _ _ _ _ _ _ us hl => match us, hl with | [], _ => rfl) (fun _ _ _ _ _ _ us hl => match us, hl with | [], _ => rfl)
  have d6 : Def1 K mg "_law_fields" s_l_fields ["_law_errors"] := def_mk X G a6 l6 c6 k6 (fun _ _ _ _ _ _ us hl => match us, hl with | [_], _ => rfl) (fun _ _ _ _ _ _ us hl => match us, hl with | [_], _ => rfl)
  have d7 : Def1 K mg "_law_classes" s_l_classes ["_law_error"] := def_mk X G a7 l7 c7 k7 (fun _ _ _ _ _ _ us hl => match us, hl with | [_], _ => rfl) (fun _ _ _ _ _ _ us hl => match us, hl with | [_], _ => rfl)
  have d8 : Def1 K mg "law" s_l_main ["_law_script"] := def_mk X G a8 l8 c8 k8 (fun _ _ _ _ _ _ us hl => match us, hl with | [_], _ => rfl) (fun _ _ _ _ _ _ us hl => match us, hl with | [_], _ => rfl)
  have D : Defs K mg fldT := ⟨d0, d1, d2, d3, d4, d5, d6, d7, d8⟩
  have B : Bu mg := ⟨PySem.W.mg_none_of X G z_ValueError, PySem.W.mg_none_of X G z_enumerate, PySem.W.mg_none_of X G z_int, PySem.W.mg_none_of X G z_isinstance, PySem.W.mg_none_of X G z_len, PySem.W.mg_none_of X G z_max, PySem.W.mg_none_of X G z_min, PySem.W.mg_none_of X G z_range, PySem.W.mg_none_of X G z_str⟩
  have hb : ∀ t ∈ bases, mg t = none := fun t ht => by
    simp only [bases, List.mem_cons, List.not_mem_nil, or_false] at ht
    rcases ht with rfl | rfl | rfl | rfl | rfl | rfl | rfl
    · exact PySem.W.mg_none_of X G z_NoneType
    · exact PySem.W.mg_none_of X G z_bool
    · exact PySem.W.mg_none_of X G z_int
    · exact PySem.W.mg_none_of X G z_str
    · exact PySem.W.mg_none_of X G z_tuple
    · exact PySem.W.mg_none_of X G z_list
    · exact PySem.W.mg_none_of X G z_dict
  have mE := PySem.W.mg_of X G aE
  obtain ⟨mC_Drops, VC_Drops, EC_Drops, XC_Drops⟩ := cv_Drops X G aC_Drops xL_Drops sa_Drops ga_Drops gg_Drops nb_Drops ca_Drops cm_Drops kC_Drops eC_Drops tC_Drops hC_Drops iC_Drops tI_Drops lI_Drops cI_Drops kI_Drops lT_Drops cn ct
  obtain ⟨mC_Failed, VC_Failed, EC_Failed, XC_Failed⟩ := cv_Failed X G aC_Failed xL_Failed sa_Failed ga_Failed gg_Failed nb_Failed ca_Failed cm_Failed kC_Failed eC_Failed tC_Failed hC_Failed iC_Failed tI_Failed lI_Failed cI_Failed kI_Failed lT_Failed cn ct
  obtain ⟨mC_InvalidCommand, VC_InvalidCommand, EC_InvalidCommand, XC_InvalidCommand⟩ := cv_InvalidCommand X G aC_InvalidCommand xL_InvalidCommand sa_InvalidCommand ga_InvalidCommand gg_InvalidCommand nb_InvalidCommand ca_InvalidCommand cm_InvalidCommand kC_InvalidCommand eC_InvalidCommand tC_InvalidCommand hC_InvalidCommand iC_InvalidCommand tI_InvalidCommand lI_InvalidCommand cI_InvalidCommand kI_InvalidCommand lT_InvalidCommand cn ct
  obtain ⟨mC_InvalidCommands, VC_InvalidCommands, EC_InvalidCommands, XC_InvalidCommands⟩ := cv_InvalidCommands X G aC_InvalidCommands xL_InvalidCommands sa_InvalidCommands ga_InvalidCommands gg_InvalidCommands nb_InvalidCommands ca_InvalidCommands cm_InvalidCommands kC_InvalidCommands eC_InvalidCommands tC_InvalidCommands hC_InvalidCommands iC_InvalidCommands tI_InvalidCommands lI_InvalidCommands cI_InvalidCommands kI_InvalidCommands lT_InvalidCommands cn ct
  obtain ⟨mC_InvalidCount, VC_InvalidCount, EC_InvalidCount, XC_InvalidCount⟩ := cv_InvalidCount X G aC_InvalidCount xL_InvalidCount sa_InvalidCount ga_InvalidCount gg_InvalidCount nb_InvalidCount ca_InvalidCount cm_InvalidCount kC_InvalidCount eC_InvalidCount tC_InvalidCount hC_InvalidCount iC_InvalidCount tI_InvalidCount lI_InvalidCount cI_InvalidCount kI_InvalidCount lT_InvalidCount cn ct
  obtain ⟨mC_InvalidFilling, VC_InvalidFilling, EC_InvalidFilling, XC_InvalidFilling⟩ := cv_InvalidFilling X G aC_InvalidFilling xL_InvalidFilling sa_InvalidFilling ga_InvalidFilling gg_InvalidFilling nb_InvalidFilling ca_InvalidFilling cm_InvalidFilling kC_InvalidFilling eC_InvalidFilling tC_InvalidFilling hC_InvalidFilling iC_InvalidFilling tI_InvalidFilling lI_InvalidFilling cI_InvalidFilling kI_InvalidFilling lT_InvalidFilling cn ct
  obtain ⟨mC_InvalidLabels, VC_InvalidLabels, EC_InvalidLabels, XC_InvalidLabels⟩ := cv_InvalidLabels X G aC_InvalidLabels xL_InvalidLabels sa_InvalidLabels ga_InvalidLabels gg_InvalidLabels nb_InvalidLabels ca_InvalidLabels cm_InvalidLabels kC_InvalidLabels eC_InvalidLabels tC_InvalidLabels hC_InvalidLabels iC_InvalidLabels tI_InvalidLabels lI_InvalidLabels cI_InvalidLabels kI_InvalidLabels lT_InvalidLabels cn ct
  obtain ⟨mC_InvalidLikeness, VC_InvalidLikeness, EC_InvalidLikeness, XC_InvalidLikeness⟩ := cv_InvalidLikeness X G aC_InvalidLikeness xL_InvalidLikeness sa_InvalidLikeness ga_InvalidLikeness gg_InvalidLikeness nb_InvalidLikeness ca_InvalidLikeness cm_InvalidLikeness kC_InvalidLikeness eC_InvalidLikeness tC_InvalidLikeness hC_InvalidLikeness iC_InvalidLikeness tI_InvalidLikeness lI_InvalidLikeness cI_InvalidLikeness kI_InvalidLikeness lT_InvalidLikeness cn ct
  obtain ⟨mC_InvalidList, VC_InvalidList, EC_InvalidList, XC_InvalidList⟩ := cv_InvalidList X G aC_InvalidList xL_InvalidList sa_InvalidList ga_InvalidList gg_InvalidList nb_InvalidList ca_InvalidList cm_InvalidList kC_InvalidList eC_InvalidList tC_InvalidList hC_InvalidList iC_InvalidList tI_InvalidList lI_InvalidList cI_InvalidList kI_InvalidList lT_InvalidList cn ct
  obtain ⟨mC_InvalidName, VC_InvalidName, EC_InvalidName, XC_InvalidName⟩ := cv_InvalidName X G aC_InvalidName xL_InvalidName sa_InvalidName ga_InvalidName gg_InvalidName nb_InvalidName ca_InvalidName cm_InvalidName kC_InvalidName eC_InvalidName tC_InvalidName hC_InvalidName iC_InvalidName tI_InvalidName lI_InvalidName cI_InvalidName kI_InvalidName lT_InvalidName cn ct
  obtain ⟨mC_InvalidNumber, VC_InvalidNumber, EC_InvalidNumber, XC_InvalidNumber⟩ := cv_InvalidNumber X G aC_InvalidNumber xL_InvalidNumber sa_InvalidNumber ga_InvalidNumber gg_InvalidNumber nb_InvalidNumber ca_InvalidNumber cm_InvalidNumber kC_InvalidNumber eC_InvalidNumber tC_InvalidNumber hC_InvalidNumber iC_InvalidNumber tI_InvalidNumber lI_InvalidNumber cI_InvalidNumber kI_InvalidNumber lT_InvalidNumber cn ct
  obtain ⟨mC_InvalidPath, VC_InvalidPath, EC_InvalidPath, XC_InvalidPath⟩ := cv_InvalidPath X G aC_InvalidPath xL_InvalidPath sa_InvalidPath ga_InvalidPath gg_InvalidPath nb_InvalidPath ca_InvalidPath cm_InvalidPath kC_InvalidPath eC_InvalidPath tC_InvalidPath hC_InvalidPath iC_InvalidPath tI_InvalidPath lI_InvalidPath cI_InvalidPath kI_InvalidPath lT_InvalidPath cn ct
  obtain ⟨mC_InvalidPattern, VC_InvalidPattern, EC_InvalidPattern, XC_InvalidPattern⟩ := cv_InvalidPattern X G aC_InvalidPattern xL_InvalidPattern sa_InvalidPattern ga_InvalidPattern gg_InvalidPattern nb_InvalidPattern ca_InvalidPattern cm_InvalidPattern kC_InvalidPattern eC_InvalidPattern tC_InvalidPattern hC_InvalidPattern iC_InvalidPattern tI_InvalidPattern lI_InvalidPattern cI_InvalidPattern kI_InvalidPattern lT_InvalidPattern cn ct
  obtain ⟨mC_InvalidRewriting, VC_InvalidRewriting, EC_InvalidRewriting, XC_InvalidRewriting⟩ := cv_InvalidRewriting X G aC_InvalidRewriting xL_InvalidRewriting sa_InvalidRewriting ga_InvalidRewriting gg_InvalidRewriting nb_InvalidRewriting ca_InvalidRewriting cm_InvalidRewriting kC_InvalidRewriting eC_InvalidRewriting tC_InvalidRewriting hC_InvalidRewriting iC_InvalidRewriting tI_InvalidRewriting lI_InvalidRewriting cI_InvalidRewriting kI_InvalidRewriting lT_InvalidRewriting cn ct
  obtain ⟨mC_InvalidScript, VC_InvalidScript, EC_InvalidScript, XC_InvalidScript⟩ := cv_InvalidScript X G aC_InvalidScript xL_InvalidScript sa_InvalidScript ga_InvalidScript gg_InvalidScript nb_InvalidScript ca_InvalidScript cm_InvalidScript kC_InvalidScript eC_InvalidScript tC_InvalidScript hC_InvalidScript iC_InvalidScript tI_InvalidScript lI_InvalidScript cI_InvalidScript kI_InvalidScript lT_InvalidScript cn ct
  obtain ⟨mC_InvalidState, VC_InvalidState, EC_InvalidState, XC_InvalidState⟩ := cv_InvalidState X G aC_InvalidState xL_InvalidState sa_InvalidState ga_InvalidState gg_InvalidState nb_InvalidState ca_InvalidState cm_InvalidState kC_InvalidState eC_InvalidState tC_InvalidState hC_InvalidState iC_InvalidState tI_InvalidState lI_InvalidState cI_InvalidState kI_InvalidState lT_InvalidState cn ct
  obtain ⟨mC_InvalidTree, VC_InvalidTree, EC_InvalidTree, XC_InvalidTree⟩ := cv_InvalidTree X G aC_InvalidTree xL_InvalidTree sa_InvalidTree ga_InvalidTree gg_InvalidTree nb_InvalidTree ca_InvalidTree cm_InvalidTree kC_InvalidTree eC_InvalidTree tC_InvalidTree hC_InvalidTree iC_InvalidTree tI_InvalidTree lI_InvalidTree cI_InvalidTree kI_InvalidTree lT_InvalidTree cn ct
  obtain ⟨mC_Needed, VC_Needed, EC_Needed, XC_Needed⟩ := cv_Needed X G aC_Needed xL_Needed sa_Needed ga_Needed gg_Needed nb_Needed ca_Needed cm_Needed kC_Needed eC_Needed tC_Needed hC_Needed iC_Needed tI_Needed lI_Needed cI_Needed kI_Needed lT_Needed cn ct
  obtain ⟨mC_NoSuchName, VC_NoSuchName, EC_NoSuchName, XC_NoSuchName⟩ := cv_NoSuchName X G aC_NoSuchName xL_NoSuchName sa_NoSuchName ga_NoSuchName gg_NoSuchName nb_NoSuchName ca_NoSuchName cm_NoSuchName kC_NoSuchName eC_NoSuchName tC_NoSuchName hC_NoSuchName iC_NoSuchName tI_NoSuchName lI_NoSuchName cI_NoSuchName kI_NoSuchName lT_NoSuchName cn ct
  obtain ⟨mC_NotOneToOne, VC_NotOneToOne, EC_NotOneToOne, XC_NotOneToOne⟩ := cv_NotOneToOne X G aC_NotOneToOne xL_NotOneToOne sa_NotOneToOne ga_NotOneToOne gg_NotOneToOne nb_NotOneToOne ca_NotOneToOne cm_NotOneToOne kC_NotOneToOne eC_NotOneToOne tC_NotOneToOne hC_NotOneToOne iC_NotOneToOne tI_NotOneToOne lI_NotOneToOne cI_NotOneToOne kI_NotOneToOne lT_NotOneToOne cn ct
  obtain ⟨mC_Unreadable, VC_Unreadable, EC_Unreadable, XC_Unreadable⟩ := cv_Unreadable X G aC_Unreadable xL_Unreadable sa_Unreadable ga_Unreadable gg_Unreadable nb_Unreadable ca_Unreadable cm_Unreadable kC_Unreadable eC_Unreadable tC_Unreadable hC_Unreadable iC_Unreadable tI_Unreadable lI_Unreadable cI_Unreadable kI_Unreadable lT_Unreadable cn ct
  have mC_NoBack := PySem.W.mg_of X G aC_NoBack
  have EC_NoBack : ExcC K C_NoBack := ⟨ga_NoBack, gg_NoBack, eC_NoBack, hC_NoBack, ca_NoBack, cn, ct, cm_NoBack⟩
  have mC_NothingToUndo := PySem.W.mg_of X G aC_NothingToUndo
  have EC_NothingToUndo : ExcC K C_NothingToUndo := ⟨ga_NothingToUndo, gg_NothingToUndo, eC_NothingToUndo, hC_NothingToUndo, ca_NothingToUndo, cn, ct, cm_NothingToUndo⟩
  have mC_TooMany := PySem.W.mg_of X G aC_TooMany
  have EC_TooMany : ExcC K C_TooMany := ⟨ga_TooMany, gg_TooMany, eC_TooMany, hC_TooMany, ca_TooMany, cn, ct, cm_TooMany⟩
  have GO : GsOk K mg GT := gs_cls ka (all_c mC_Drops (all_c mC_Failed (all_c mC_InvalidCommand (all_c mC_InvalidCommands (all_c mC_InvalidCount (all_c mC_InvalidFilling (all_c mC_InvalidLabels (all_c mC_InvalidLikeness (all_c mC_InvalidList (all_c mC_InvalidName (all_c mC_InvalidNumber (all_c mC_InvalidPath (all_c mC_InvalidPattern (all_c mC_InvalidRewriting (all_c mC_InvalidScript (all_c mC_InvalidState (all_c mC_InvalidTree (all_c mC_Needed (all_c mC_NoBack (all_c mC_NoSuchName (all_c mC_NotOneToOne (all_c mC_NothingToUndo (all_c mC_TooMany (all_c mC_Unreadable all_n)))))))))))))))))))))))) (all_c EC_Drops (all_c EC_Failed (all_c EC_InvalidCommand (all_c EC_InvalidCommands (all_c EC_InvalidCount (all_c EC_InvalidFilling (all_c EC_InvalidLabels (all_c EC_InvalidLikeness (all_c EC_InvalidList (all_c EC_InvalidName (all_c EC_InvalidNumber (all_c EC_InvalidPath (all_c EC_InvalidPattern (all_c EC_InvalidRewriting (all_c EC_InvalidScript (all_c EC_InvalidState (all_c EC_InvalidTree (all_c EC_Needed (all_c EC_NoBack (all_c EC_NoSuchName (all_c EC_NotOneToOne (all_c EC_NothingToUndo (all_c EC_TooMany (all_c EC_Unreadable all_n)))))))))))))))))))))))) mE (PySem.W.mg_none_of X G z_ValueError) hb
  have AT : ∀ f, AttC K mg fldT f := attc_of (all_c ⟨_, mC_Drops, XC_Drops⟩ (all_c ⟨_, mC_Failed, XC_Failed⟩ (all_c ⟨_, mC_InvalidCommand, XC_InvalidCommand⟩ (all_c ⟨_, mC_InvalidCommands, XC_InvalidCommands⟩ (all_c ⟨_, mC_InvalidCount, XC_InvalidCount⟩ (all_c ⟨_, mC_InvalidFilling, XC_InvalidFilling⟩ (all_c ⟨_, mC_InvalidLabels, XC_InvalidLabels⟩ (all_c ⟨_, mC_InvalidLikeness, XC_InvalidLikeness⟩ (all_c ⟨_, mC_InvalidList, XC_InvalidList⟩ (all_c ⟨_, mC_InvalidName, XC_InvalidName⟩ (all_c ⟨_, mC_InvalidNumber, XC_InvalidNumber⟩ (all_c ⟨_, mC_InvalidPath, XC_InvalidPath⟩ (all_c ⟨_, mC_InvalidPattern, XC_InvalidPattern⟩ (all_c ⟨_, mC_InvalidRewriting, XC_InvalidRewriting⟩ (all_c ⟨_, mC_InvalidScript, XC_InvalidScript⟩ (all_c ⟨_, mC_InvalidState, XC_InvalidState⟩ (all_c ⟨_, mC_InvalidTree, XC_InvalidTree⟩ (all_c ⟨_, mC_Needed, XC_Needed⟩ (all_c ⟨_, mC_NoSuchName, XC_NoSuchName⟩ (all_c ⟨_, mC_NotOneToOne, XC_NotOneToOne⟩ (all_c ⟨_, mC_Unreadable, XC_Unreadable⟩ all_n)))))))))))))))))))))
  refine ⟨PySem.W.fnOf "law" "law" (defArgs s_l_main) (defBody s_l_main) (defScope s_l_main) .none kV8 dc8 pm8 an8 cd8 ct8, fun s v => .of_eq rfl, fun base _ _ => ?_⟩
  have T : Txt l.prog w K mg base fldT exmT := ⟨VC_Drops _ _ _, VC_Failed _ _ _, VC_InvalidCommand _ _ _, VC_InvalidCommands _ _ _, VC_InvalidCount _ _ _, VC_InvalidFilling _ _ _, VC_InvalidLabels _ _ _, VC_InvalidLikeness _ _ _, VC_InvalidList _ _ _, VC_InvalidName _ _ _, VC_InvalidNumber _ _ _, VC_InvalidPath _ _ _, VC_InvalidPattern _ _ _, VC_InvalidRewriting _ _ _, VC_InvalidScript _ _ _, VC_InvalidState _ _ _, VC_InvalidTree _ _ _, VC_Needed _ _ _, VC_NoSuchName _ _ _, VC_NotOneToOne _ _ _, VC_Unreadable _ _ _, ⟨C_NoBack, mC_NoBack, kC_NoBack, _, PySem.F.excBase_ValueError, xN_NoBack⟩, ⟨C_NothingToUndo, mC_NothingToUndo, kC_NothingToUndo, _, PySem.F.excBase_ValueError, xN_NothingToUndo⟩, ⟨C_TooMany, mC_TooMany, kC_TooMany, _, PySem.F.excBase_ValueError, xN_TooMany⟩, ⟨CE, mE, vE⟩, ⟨CE, mE⟩, ⟨C_Drops, mC_Drops⟩, ⟨C_Failed, mC_Failed⟩, ⟨C_InvalidCommand, mC_InvalidCommand⟩, ⟨C_InvalidCommands, mC_InvalidCommands⟩, ⟨C_InvalidCount, mC_InvalidCount⟩, ⟨C_InvalidFilling, mC_InvalidFilling⟩, ⟨C_InvalidLabels, mC_InvalidLabels⟩, ⟨C_InvalidLikeness, mC_InvalidLikeness⟩, ⟨C_InvalidList, mC_InvalidList⟩, ⟨C_InvalidName, mC_InvalidName⟩, ⟨C_InvalidNumber, mC_InvalidNumber⟩, ⟨C_InvalidPath, mC_InvalidPath⟩, ⟨C_InvalidPattern, mC_InvalidPattern⟩, ⟨C_InvalidRewriting, mC_InvalidRewriting⟩, ⟨C_InvalidScript, mC_InvalidScript⟩, ⟨C_InvalidState, mC_InvalidState⟩, ⟨C_InvalidTree, mC_InvalidTree⟩, ⟨C_Needed, mC_Needed⟩, ⟨C_NoBack, mC_NoBack⟩, ⟨C_NoSuchName, mC_NoSuchName⟩, ⟨C_NotOneToOne, mC_NotOneToOne⟩, ⟨C_NothingToUndo, mC_NothingToUndo⟩, ⟨C_TooMany, mC_TooMany⟩, ⟨C_Unreadable, mC_Unreadable⟩, AT _, AT _, AT _, AT _, AT _, AT _, AT _, AT _, AT _, trivial⟩
  exact lawA_by (ok_l_main (k := 227) (fun_mk (st := s_l_main) l8 c8 k8) B T GO (cals D B T GO n 229) ⟨rfl, by decide, by decide⟩ n) fun ns hl d hd => pure_ ns hl d hd
end MI.K06
open PySem PySem.W PyProof.Rows
set_option maxRecDepth 100000 in
set_option maxHeartbeats 0 in
theorem PySem.Challenge.cw_cursorscripts_k06_errors_and_their_field_holds : PySem.Challenge.rw_cursorscripts_k06_errors_and_their_field.Holds := by
  w_on; o_law; k_head; (case hw => w_witness2)
  k_fill
  refine MI.lawA_walk (l := PySem.Challenge.rw_cursorscripts_k06_errors_and_their_field) (x := "_law_script") rfl rfl (fun w h Y => PySem.W.kIn_of Y) ?F
  case F =>
    intro w mg fa h KX G hmg
    refine' MI.K06.all_mk MI.K06.fuel KX G hmg ?z_NoneType ?z_ValueError ?z_bool ?z_dict ?z_enumerate ?z_int ?z_isinstance ?z_len ?z_list ?z_max ?z_min ?z_range ?z_str ?z_tuple ?a0 ?l0 ?c0 ?k0 ?a1 ?l1 ?c1 ?k1 ?a2 ?l2 ?c2 ?k2 ?a3 ?l3 ?c3 ?k3 ?a4 ?l4 ?c4 ?k4 ?a5 ?l5 ?c5 ?k5 ?a6 ?l6 ?c6 ?k6 ?a7 ?l7 ?c7 ?k7 ?a8 ?l8 ?c8 ?k8 ?aE ?vE ?ka ?cn ?ct ?aC_Drops ?xL_Drops ?sa_Drops ?ga_Drops ?gg_Drops ?nb_Drops ?ca_Drops ?cm_Drops ?kC_Drops ?eC_Drops ?tC_Drops ?hC_Drops ?iC_Drops ?tI_Drops ?lI_Drops ?cI_Drops ?kI_Drops ?lT_Drops ?aC_Failed ?xL_Failed ?sa_Failed ?ga_Failed ?gg_Failed ?nb_Failed ?ca_Failed ?cm_Failed ?kC_Failed ?eC_Failed ?tC_Failed ?hC_Failed ?iC_Failed ?tI_Failed ?lI_Failed ?cI_Failed ?kI_Failed ?lT_Failed ?aC_InvalidCommand ?xL_InvalidCommand ?sa_InvalidCommand ?ga_InvalidCommand ?gg_InvalidCommand ?nb_InvalidCommand ?ca_InvalidCommand ?cm_InvalidCommand ?kC_InvalidCommand ?eC_InvalidCommand ?tC_InvalidCommand ?hC_InvalidCommand ?iC_InvalidCommand ?tI_InvalidCommand ?lI_InvalidCommand ?cI_InvalidCommand ?kI_InvalidCommand ?lT_InvalidCommand ?aC_InvalidCommands ?xL_InvalidCommands ?sa_InvalidCommands ?ga_InvalidCommands ?gg_InvalidCommands ?nb_InvalidCommands ?ca_InvalidCommands ?cm_InvalidCommands ?kC_InvalidCommands ?eC_InvalidCommands ?tC_InvalidCommands ?hC_InvalidCommands ?iC_InvalidCommands ?tI_InvalidCommands ?lI_InvalidCommands ?cI_InvalidCommands ?kI_InvalidCommands ?lT_InvalidCommands ?aC_InvalidCount ?xL_InvalidCount ?sa_InvalidCount ?ga_InvalidCount ?gg_InvalidCount ?nb_InvalidCount ?ca_InvalidCount ?cm_InvalidCount ?kC_InvalidCount ?eC_InvalidCount ?tC_InvalidCount ?hC_InvalidCount ?iC_InvalidCount ?tI_InvalidCount ?lI_InvalidCount ?cI_InvalidCount ?kI_InvalidCount ?lT_InvalidCount ?aC_InvalidFilling ?xL_InvalidFilling ?sa_InvalidFilling ?ga_InvalidFilling ?gg_InvalidFilling ?nb_InvalidFilling ?ca_InvalidFilling ?cm_InvalidFilling ?kC_InvalidFilling ?eC_InvalidFilling ?tC_InvalidFilling ?hC_InvalidFilling ?iC_InvalidFilling ?tI_InvalidFilling ?lI_InvalidFilling ?cI_InvalidFilling ?kI_InvalidFilling ?lT_InvalidFilling ?aC_InvalidLabels ?xL_InvalidLabels ?sa_InvalidLabels ?ga_InvalidLabels ?gg_InvalidLabels ?nb_InvalidLabels ?ca_InvalidLabels ?cm_InvalidLabels ?kC_InvalidLabels ?eC_InvalidLabels ?tC_InvalidLabels ?hC_InvalidLabels ?iC_InvalidLabels ?tI_InvalidLabels ?lI_InvalidLabels ?cI_InvalidLabels ?kI_InvalidLabels ?lT_InvalidLabels ?aC_InvalidLikeness ?xL_InvalidLikeness ?sa_InvalidLikeness ?ga_InvalidLikeness ?gg_InvalidLikeness ?nb_InvalidLikeness ?ca_InvalidLikeness ?cm_InvalidLikeness ?kC_InvalidLikeness ?eC_InvalidLikeness ?tC_InvalidLikeness ?hC_InvalidLikeness ?iC_InvalidLikeness ?tI_InvalidLikeness ?lI_InvalidLikeness ?cI_InvalidLikeness ?kI_InvalidLikeness ?lT_InvalidLikeness ?aC_InvalidList ?xL_InvalidList ?sa_InvalidList ?ga_InvalidList ?gg_InvalidList ?nb_InvalidList ?ca_InvalidList ?cm_InvalidList ?kC_InvalidList ?eC_InvalidList ?tC_InvalidList ?hC_InvalidList ?iC_InvalidList ?tI_InvalidList ?lI_InvalidList ?cI_InvalidList ?kI_InvalidList ?lT_InvalidList ?aC_InvalidName ?xL_InvalidName ?sa_InvalidName ?ga_InvalidName ?gg_InvalidName ?nb_InvalidName ?ca_InvalidName ?cm_InvalidName ?kC_InvalidName ?eC_InvalidName ?tC_InvalidName ?hC_InvalidName ?iC_InvalidName ?tI_InvalidName ?lI_InvalidName ?cI_InvalidName ?kI_InvalidName ?lT_InvalidName ?aC_InvalidNumber ?xL_InvalidNumber ?sa_InvalidNumber ?ga_InvalidNumber ?gg_InvalidNumber ?nb_InvalidNumber ?ca_InvalidNumber ?cm_InvalidNumber ?kC_InvalidNumber ?eC_InvalidNumber ?tC_InvalidNumber ?hC_InvalidNumber ?iC_InvalidNumber ?tI_InvalidNumber ?lI_InvalidNumber ?cI_InvalidNumber ?kI_InvalidNumber ?lT_InvalidNumber ?aC_InvalidPath ?xL_InvalidPath ?sa_InvalidPath ?ga_InvalidPath ?gg_InvalidPath ?nb_InvalidPath ?ca_InvalidPath ?cm_InvalidPath ?kC_InvalidPath ?eC_InvalidPath ?tC_InvalidPath ?hC_InvalidPath ?iC_InvalidPath ?tI_InvalidPath ?lI_InvalidPath ?cI_InvalidPath ?kI_InvalidPath ?lT_InvalidPath ?aC_InvalidPattern ?xL_InvalidPattern ?sa_InvalidPattern ?ga_InvalidPattern ?gg_InvalidPattern ?nb_InvalidPattern ?ca_InvalidPattern ?cm_InvalidPattern ?kC_InvalidPattern ?eC_InvalidPattern ?tC_InvalidPattern ?hC_InvalidPattern ?iC_InvalidPattern ?tI_InvalidPattern ?lI_InvalidPattern ?cI_InvalidPattern ?kI_InvalidPattern ?lT_InvalidPattern ?aC_InvalidRewriting ?xL_InvalidRewriting ?sa_InvalidRewriting ?ga_InvalidRewriting ?gg_InvalidRewriting ?nb_InvalidRewriting ?ca_InvalidRewriting ?cm_InvalidRewriting ?kC_InvalidRewriting ?eC_InvalidRewriting ?tC_InvalidRewriting ?hC_InvalidRewriting ?iC_InvalidRewriting ?tI_InvalidRewriting ?lI_InvalidRewriting ?cI_InvalidRewriting ?kI_InvalidRewriting ?lT_InvalidRewriting ?aC_InvalidScript ?xL_InvalidScript ?sa_InvalidScript ?ga_InvalidScript ?gg_InvalidScript ?nb_InvalidScript ?ca_InvalidScript ?cm_InvalidScript ?kC_InvalidScript ?eC_InvalidScript ?tC_InvalidScript ?hC_InvalidScript ?iC_InvalidScript ?tI_InvalidScript ?lI_InvalidScript ?cI_InvalidScript ?kI_InvalidScript ?lT_InvalidScript ?aC_InvalidState ?xL_InvalidState ?sa_InvalidState ?ga_InvalidState ?gg_InvalidState ?nb_InvalidState ?ca_InvalidState ?cm_InvalidState ?kC_InvalidState ?eC_InvalidState ?tC_InvalidState ?hC_InvalidState ?iC_InvalidState ?tI_InvalidState ?lI_InvalidState ?cI_InvalidState ?kI_InvalidState ?lT_InvalidState ?aC_InvalidTree ?xL_InvalidTree ?sa_InvalidTree ?ga_InvalidTree ?gg_InvalidTree ?nb_InvalidTree ?ca_InvalidTree ?cm_InvalidTree ?kC_InvalidTree ?eC_InvalidTree ?tC_InvalidTree ?hC_InvalidTree ?iC_InvalidTree ?tI_InvalidTree ?lI_InvalidTree ?cI_InvalidTree ?kI_InvalidTree ?lT_InvalidTree ?aC_Needed ?xL_Needed ?sa_Needed ?ga_Needed ?gg_Needed ?nb_Needed ?ca_Needed ?cm_Needed ?kC_Needed ?eC_Needed ?tC_Needed ?hC_Needed ?iC_Needed ?tI_Needed ?lI_Needed ?cI_Needed ?kI_Needed ?lT_Needed ?aC_NoSuchName ?xL_NoSuchName ?sa_NoSuchName ?ga_NoSuchName ?gg_NoSuchName ?nb_NoSuchName ?ca_NoSuchName ?cm_NoSuchName ?kC_NoSuchName ?eC_NoSuchName ?tC_NoSuchName ?hC_NoSuchName ?iC_NoSuchName ?tI_NoSuchName ?lI_NoSuchName ?cI_NoSuchName ?kI_NoSuchName ?lT_NoSuchName ?aC_NotOneToOne ?xL_NotOneToOne ?sa_NotOneToOne ?ga_NotOneToOne ?gg_NotOneToOne ?nb_NotOneToOne ?ca_NotOneToOne ?cm_NotOneToOne ?kC_NotOneToOne ?eC_NotOneToOne ?tC_NotOneToOne ?hC_NotOneToOne ?iC_NotOneToOne ?tI_NotOneToOne ?lI_NotOneToOne ?cI_NotOneToOne ?kI_NotOneToOne ?lT_NotOneToOne ?aC_Unreadable ?xL_Unreadable ?sa_Unreadable ?ga_Unreadable ?gg_Unreadable ?nb_Unreadable ?ca_Unreadable ?cm_Unreadable ?kC_Unreadable ?eC_Unreadable ?tC_Unreadable ?hC_Unreadable ?iC_Unreadable ?tI_Unreadable ?lI_Unreadable ?cI_Unreadable ?kI_Unreadable ?lT_Unreadable ?aC_NoBack ?ga_NoBack ?gg_NoBack ?ca_NoBack ?cm_NoBack ?kC_NoBack ?eC_NoBack ?hC_NoBack ?xN_NoBack ?aC_NothingToUndo ?ga_NothingToUndo ?gg_NothingToUndo ?ca_NothingToUndo ?cm_NothingToUndo ?kC_NothingToUndo ?eC_NothingToUndo ?hC_NothingToUndo ?xN_NothingToUndo ?aC_TooMany ?ga_TooMany ?gg_TooMany ?ca_TooMany ?cm_TooMany ?kC_TooMany ?eC_TooMany ?hC_TooMany ?xN_TooMany MI.K06.pure_ok
    (case z_NoneType => first | k_is | rfl)
    (case z_ValueError => first | k_is | rfl)
    (case z_bool => first | k_is | rfl)
    (case z_dict => first | k_is | rfl)
    (case z_enumerate => first | k_is | rfl)
    (case z_int => first | k_is | rfl)
    (case z_isinstance => first | k_is | rfl)
    (case z_len => first | k_is | rfl)
    (case z_list => first | k_is | rfl)
    (case z_max => first | k_is | rfl)
    (case z_min => first | k_is | rfl)
    (case z_range => first | k_is | rfl)
    (case z_str => first | k_is | rfl)
    (case z_tuple => first | k_is | rfl)
    (case a0 => first | k_is | rfl)
    (case l0 => first | k_is | rfl)
    (case c0 => first | k_is | rfl)
    (case k0 => first | k_is | rfl)
    (case a1 => first | k_is | rfl)
    (case l1 => first | k_is | rfl)
    (case c1 => first | k_is | rfl)
    (case k1 => first | k_is | rfl)
    (case a2 => first | k_is | rfl)
    (case l2 => first | k_is | rfl)
    (case c2 => first | k_is | rfl)
    (case k2 => first | k_is | rfl)
    (case a3 => first | k_is | rfl)
    (case l3 => first | k_is | rfl)
    (case c3 => first | k_is | rfl)
    (case k3 => first | k_is | rfl)
    (case a4 => first | k_is | rfl)
    (case l4 => first | k_is | rfl)
    (case c4 => first | k_is | rfl)
    (case k4 => first | k_is | rfl)
    (case a5 => first | k_is | rfl)
    (case l5 => first | k_is | rfl)
    (case c5 => first | k_is | rfl)
    (case k5 => first | k_is | rfl)
    (case a6 => first | k_is | rfl)
    (case l6 => first | k_is | rfl)
    (case c6 => first | k_is | rfl)
    (case k6 => first | k_is | rfl)
    (case a7 => first | k_is | rfl)
    (case l7 => first | k_is | rfl)
    (case c7 => first | k_is | rfl)
    (case k7 => first | k_is | rfl)
    (case a8 => first | k_is | rfl)
    (case l8 => first | k_is | rfl)
    (case c8 => first | k_is | rfl)
    (case k8 => first | k_is | rfl)
    (case aE => first | k_is | rfl)
    (case vE => first | k_is | rfl)
    (case cn => first | k_is | rfl)
    (case ct => first | k_is | rfl)
    (case aC_Drops => first | k_is | rfl)
    (case xL_Drops => first | k_is | rfl)
    (case sa_Drops => first | k_is | rfl)
    (case ga_Drops => first | k_is | rfl)
    (case gg_Drops => first | k_is | rfl)
    (case nb_Drops => first | k_is | rfl)
    (case ca_Drops => first | k_is | rfl)
    (case cm_Drops => first | k_is | rfl)
    (case kC_Drops => first | k_is | rfl)
    (case eC_Drops => first | k_is | rfl)
    (case tC_Drops => first | k_is | rfl)
    (case hC_Drops => first | k_is | rfl)
    (case iC_Drops => first | k_is | rfl)
    (case tI_Drops => first | k_is | rfl)
    (case lI_Drops => first | k_is | rfl)
    (case cI_Drops => first | k_is | rfl)
    (case kI_Drops => first | k_is | rfl)
    (case lT_Drops => first | k_is | rfl)
    (case aC_Failed => first | k_is | rfl)
    (case xL_Failed => first | k_is | rfl)
    (case sa_Failed => first | k_is | rfl)
    (case ga_Failed => first | k_is | rfl)
    (case gg_Failed => first | k_is | rfl)
    (case nb_Failed => first | k_is | rfl)
    (case ca_Failed => first | k_is | rfl)
    (case cm_Failed => first | k_is | rfl)
    (case kC_Failed => first | k_is | rfl)
    (case eC_Failed => first | k_is | rfl)
    (case tC_Failed => first | k_is | rfl)
    (case hC_Failed => first | k_is | rfl)
    (case iC_Failed => first | k_is | rfl)
    (case tI_Failed => first | k_is | rfl)
    (case lI_Failed => first | k_is | rfl)
    (case cI_Failed => first | k_is | rfl)
    (case kI_Failed => first | k_is | rfl)
    (case lT_Failed => first | k_is | rfl)
    (case aC_InvalidCommand => first | k_is | rfl)
    (case xL_InvalidCommand => first | k_is | rfl)
    (case sa_InvalidCommand => first | k_is | rfl)
    (case ga_InvalidCommand => first | k_is | rfl)
    (case gg_InvalidCommand => first | k_is | rfl)
    (case nb_InvalidCommand => first | k_is | rfl)
    (case ca_InvalidCommand => first | k_is | rfl)
    (case cm_InvalidCommand => first | k_is | rfl)
    (case kC_InvalidCommand => first | k_is | rfl)
    (case eC_InvalidCommand => first | k_is | rfl)
    (case tC_InvalidCommand => first | k_is | rfl)
    (case hC_InvalidCommand => first | k_is | rfl)
    (case iC_InvalidCommand => first | k_is | rfl)
    (case tI_InvalidCommand => first | k_is | rfl)
    (case lI_InvalidCommand => first | k_is | rfl)
    (case cI_InvalidCommand => first | k_is | rfl)
    (case kI_InvalidCommand => first | k_is | rfl)
    (case lT_InvalidCommand => first | k_is | rfl)
    (case aC_InvalidCommands => first | k_is | rfl)
    (case xL_InvalidCommands => first | k_is | rfl)
    (case sa_InvalidCommands => first | k_is | rfl)
    (case ga_InvalidCommands => first | k_is | rfl)
    (case gg_InvalidCommands => first | k_is | rfl)
    (case nb_InvalidCommands => first | k_is | rfl)
    (case ca_InvalidCommands => first | k_is | rfl)
    (case cm_InvalidCommands => first | k_is | rfl)
    (case kC_InvalidCommands => first | k_is | rfl)
    (case eC_InvalidCommands => first | k_is | rfl)
    (case tC_InvalidCommands => first | k_is | rfl)
    (case hC_InvalidCommands => first | k_is | rfl)
    (case iC_InvalidCommands => first | k_is | rfl)
    (case tI_InvalidCommands => first | k_is | rfl)
    (case lI_InvalidCommands => first | k_is | rfl)
    (case cI_InvalidCommands => first | k_is | rfl)
    (case kI_InvalidCommands => first | k_is | rfl)
    (case lT_InvalidCommands => first | k_is | rfl)
    (case aC_InvalidCount => first | k_is | rfl)
    (case xL_InvalidCount => first | k_is | rfl)
    (case sa_InvalidCount => first | k_is | rfl)
    (case ga_InvalidCount => first | k_is | rfl)
    (case gg_InvalidCount => first | k_is | rfl)
    (case nb_InvalidCount => first | k_is | rfl)
    (case ca_InvalidCount => first | k_is | rfl)
    (case cm_InvalidCount => first | k_is | rfl)
    (case kC_InvalidCount => first | k_is | rfl)
    (case eC_InvalidCount => first | k_is | rfl)
    (case tC_InvalidCount => first | k_is | rfl)
    (case hC_InvalidCount => first | k_is | rfl)
    (case iC_InvalidCount => first | k_is | rfl)
    (case tI_InvalidCount => first | k_is | rfl)
    (case lI_InvalidCount => first | k_is | rfl)
    (case cI_InvalidCount => first | k_is | rfl)
    (case kI_InvalidCount => first | k_is | rfl)
    (case lT_InvalidCount => first | k_is | rfl)
    (case aC_InvalidFilling => first | k_is | rfl)
    (case xL_InvalidFilling => first | k_is | rfl)
    (case sa_InvalidFilling => first | k_is | rfl)
    (case ga_InvalidFilling => first | k_is | rfl)
    (case gg_InvalidFilling => first | k_is | rfl)
    (case nb_InvalidFilling => first | k_is | rfl)
    (case ca_InvalidFilling => first | k_is | rfl)
    (case cm_InvalidFilling => first | k_is | rfl)
    (case kC_InvalidFilling => first | k_is | rfl)
    (case eC_InvalidFilling => first | k_is | rfl)
    (case tC_InvalidFilling => first | k_is | rfl)
    (case hC_InvalidFilling => first | k_is | rfl)
    (case iC_InvalidFilling => first | k_is | rfl)
    (case tI_InvalidFilling => first | k_is | rfl)
    (case lI_InvalidFilling => first | k_is | rfl)
    (case cI_InvalidFilling => first | k_is | rfl)
    (case kI_InvalidFilling => first | k_is | rfl)
    (case lT_InvalidFilling => first | k_is | rfl)
    (case aC_InvalidLabels => first | k_is | rfl)
    (case xL_InvalidLabels => first | k_is | rfl)
    (case sa_InvalidLabels => first | k_is | rfl)
    (case ga_InvalidLabels => first | k_is | rfl)
    (case gg_InvalidLabels => first | k_is | rfl)
    (case nb_InvalidLabels => first | k_is | rfl)
    (case ca_InvalidLabels => first | k_is | rfl)
    (case cm_InvalidLabels => first | k_is | rfl)
    (case kC_InvalidLabels => first | k_is | rfl)
    (case eC_InvalidLabels => first | k_is | rfl)
    (case tC_InvalidLabels => first | k_is | rfl)
    (case hC_InvalidLabels => first | k_is | rfl)
    (case iC_InvalidLabels => first | k_is | rfl)
    (case tI_InvalidLabels => first | k_is | rfl)
    (case lI_InvalidLabels => first | k_is | rfl)
    (case cI_InvalidLabels => first | k_is | rfl)
    (case kI_InvalidLabels => first | k_is | rfl)
    (case lT_InvalidLabels => first | k_is | rfl)
    (case aC_InvalidLikeness => first | k_is | rfl)
    (case xL_InvalidLikeness => first | k_is | rfl)
    (case sa_InvalidLikeness => first | k_is | rfl)
    (case ga_InvalidLikeness => first | k_is | rfl)
    (case gg_InvalidLikeness => first | k_is | rfl)
    (case nb_InvalidLikeness => first | k_is | rfl)
    (case ca_InvalidLikeness => first | k_is | rfl)
    (case cm_InvalidLikeness => first | k_is | rfl)
    (case kC_InvalidLikeness => first | k_is | rfl)
    (case eC_InvalidLikeness => first | k_is | rfl)
    (case tC_InvalidLikeness => first | k_is | rfl)
    (case hC_InvalidLikeness => first | k_is | rfl)
    (case iC_InvalidLikeness => first | k_is | rfl)
    (case tI_InvalidLikeness => first | k_is | rfl)
    (case lI_InvalidLikeness => first | k_is | rfl)
    (case cI_InvalidLikeness => first | k_is | rfl)
    (case kI_InvalidLikeness => first | k_is | rfl)
    (case lT_InvalidLikeness => first | k_is | rfl)
    (case aC_InvalidList => first | k_is | rfl)
    (case xL_InvalidList => first | k_is | rfl)
    (case sa_InvalidList => first | k_is | rfl)
    (case ga_InvalidList => first | k_is | rfl)
    (case gg_InvalidList => first | k_is | rfl)
    (case nb_InvalidList => first | k_is | rfl)
    (case ca_InvalidList => first | k_is | rfl)
    (case cm_InvalidList => first | k_is | rfl)
    (case kC_InvalidList => first | k_is | rfl)
    (case eC_InvalidList => first | k_is | rfl)
    (case tC_InvalidList => first | k_is | rfl)
    (case hC_InvalidList => first | k_is | rfl)
    (case iC_InvalidList => first | k_is | rfl)
    (case tI_InvalidList => first | k_is | rfl)
    (case lI_InvalidList => first | k_is | rfl)
    (case cI_InvalidList => first | k_is | rfl)
    (case kI_InvalidList => first | k_is | rfl)
    (case lT_InvalidList => first | k_is | rfl)
    (case aC_InvalidName => first | k_is | rfl)
    (case xL_InvalidName => first | k_is | rfl)
    (case sa_InvalidName => first | k_is | rfl)
    (case ga_InvalidName => first | k_is | rfl)
    (case gg_InvalidName => first | k_is | rfl)
    (case nb_InvalidName => first | k_is | rfl)
    (case ca_InvalidName => first | k_is | rfl)
    (case cm_InvalidName => first | k_is | rfl)
    (case kC_InvalidName => first | k_is | rfl)
    (case eC_InvalidName => first | k_is | rfl)
    (case tC_InvalidName => first | k_is | rfl)
    (case hC_InvalidName => first | k_is | rfl)
    (case iC_InvalidName => first | k_is | rfl)
    (case tI_InvalidName => first | k_is | rfl)
    (case lI_InvalidName => first | k_is | rfl)
    (case cI_InvalidName => first | k_is | rfl)
    (case kI_InvalidName => first | k_is | rfl)
    (case lT_InvalidName => first | k_is | rfl)
    (case aC_InvalidNumber => first | k_is | rfl)
    (case xL_InvalidNumber => first | k_is | rfl)
    (case sa_InvalidNumber => first | k_is | rfl)
    (case ga_InvalidNumber => first | k_is | rfl)
    (case gg_InvalidNumber => first | k_is | rfl)
    (case nb_InvalidNumber => first | k_is | rfl)
    (case ca_InvalidNumber => first | k_is | rfl)
    (case cm_InvalidNumber => first | k_is | rfl)
    (case kC_InvalidNumber => first | k_is | rfl)
    (case eC_InvalidNumber => first | k_is | rfl)
    (case tC_InvalidNumber => first | k_is | rfl)
    (case hC_InvalidNumber => first | k_is | rfl)
    (case iC_InvalidNumber => first | k_is | rfl)
    (case tI_InvalidNumber => first | k_is | rfl)
    (case lI_InvalidNumber => first | k_is | rfl)
    (case cI_InvalidNumber => first | k_is | rfl)
    (case kI_InvalidNumber => first | k_is | rfl)
    (case lT_InvalidNumber => first | k_is | rfl)
    (case aC_InvalidPath => first | k_is | rfl)
    (case xL_InvalidPath => first | k_is | rfl)
    (case sa_InvalidPath => first | k_is | rfl)
    (case ga_InvalidPath => first | k_is | rfl)
    (case gg_InvalidPath => first | k_is | rfl)
    (case nb_InvalidPath => first | k_is | rfl)
    (case ca_InvalidPath => first | k_is | rfl)
    (case cm_InvalidPath => first | k_is | rfl)
    (case kC_InvalidPath => first | k_is | rfl)
    (case eC_InvalidPath => first | k_is | rfl)
    (case tC_InvalidPath => first | k_is | rfl)
    (case hC_InvalidPath => first | k_is | rfl)
    (case iC_InvalidPath => first | k_is | rfl)
    (case tI_InvalidPath => first | k_is | rfl)
    (case lI_InvalidPath => first | k_is | rfl)
    (case cI_InvalidPath => first | k_is | rfl)
    (case kI_InvalidPath => first | k_is | rfl)
    (case lT_InvalidPath => first | k_is | rfl)
    (case aC_InvalidPattern => first | k_is | rfl)
    (case xL_InvalidPattern => first | k_is | rfl)
    (case sa_InvalidPattern => first | k_is | rfl)
    (case ga_InvalidPattern => first | k_is | rfl)
    (case gg_InvalidPattern => first | k_is | rfl)
    (case nb_InvalidPattern => first | k_is | rfl)
    (case ca_InvalidPattern => first | k_is | rfl)
    (case cm_InvalidPattern => first | k_is | rfl)
    (case kC_InvalidPattern => first | k_is | rfl)
    (case eC_InvalidPattern => first | k_is | rfl)
    (case tC_InvalidPattern => first | k_is | rfl)
    (case hC_InvalidPattern => first | k_is | rfl)
    (case iC_InvalidPattern => first | k_is | rfl)
    (case tI_InvalidPattern => first | k_is | rfl)
    (case lI_InvalidPattern => first | k_is | rfl)
    (case cI_InvalidPattern => first | k_is | rfl)
    (case kI_InvalidPattern => first | k_is | rfl)
    (case lT_InvalidPattern => first | k_is | rfl)
    (case aC_InvalidRewriting => first | k_is | rfl)
    (case xL_InvalidRewriting => first | k_is | rfl)
    (case sa_InvalidRewriting => first | k_is | rfl)
    (case ga_InvalidRewriting => first | k_is | rfl)
    (case gg_InvalidRewriting => first | k_is | rfl)
    (case nb_InvalidRewriting => first | k_is | rfl)
    (case ca_InvalidRewriting => first | k_is | rfl)
    (case cm_InvalidRewriting => first | k_is | rfl)
    (case kC_InvalidRewriting => first | k_is | rfl)
    (case eC_InvalidRewriting => first | k_is | rfl)
    (case tC_InvalidRewriting => first | k_is | rfl)
    (case hC_InvalidRewriting => first | k_is | rfl)
    (case iC_InvalidRewriting => first | k_is | rfl)
    (case tI_InvalidRewriting => first | k_is | rfl)
    (case lI_InvalidRewriting => first | k_is | rfl)
    (case cI_InvalidRewriting => first | k_is | rfl)
    (case kI_InvalidRewriting => first | k_is | rfl)
    (case lT_InvalidRewriting => first | k_is | rfl)
    (case aC_InvalidScript => first | k_is | rfl)
    (case xL_InvalidScript => first | k_is | rfl)
    (case sa_InvalidScript => first | k_is | rfl)
    (case ga_InvalidScript => first | k_is | rfl)
    (case gg_InvalidScript => first | k_is | rfl)
    (case nb_InvalidScript => first | k_is | rfl)
    (case ca_InvalidScript => first | k_is | rfl)
    (case cm_InvalidScript => first | k_is | rfl)
    (case kC_InvalidScript => first | k_is | rfl)
    (case eC_InvalidScript => first | k_is | rfl)
    (case tC_InvalidScript => first | k_is | rfl)
    (case hC_InvalidScript => first | k_is | rfl)
    (case iC_InvalidScript => first | k_is | rfl)
    (case tI_InvalidScript => first | k_is | rfl)
    (case lI_InvalidScript => first | k_is | rfl)
    (case cI_InvalidScript => first | k_is | rfl)
    (case kI_InvalidScript => first | k_is | rfl)
    (case lT_InvalidScript => first | k_is | rfl)
    (case aC_InvalidState => first | k_is | rfl)
    (case xL_InvalidState => first | k_is | rfl)
    (case sa_InvalidState => first | k_is | rfl)
    (case ga_InvalidState => first | k_is | rfl)
    (case gg_InvalidState => first | k_is | rfl)
    (case nb_InvalidState => first | k_is | rfl)
    (case ca_InvalidState => first | k_is | rfl)
    (case cm_InvalidState => first | k_is | rfl)
    (case kC_InvalidState => first | k_is | rfl)
    (case eC_InvalidState => first | k_is | rfl)
    (case tC_InvalidState => first | k_is | rfl)
    (case hC_InvalidState => first | k_is | rfl)
    (case iC_InvalidState => first | k_is | rfl)
    (case tI_InvalidState => first | k_is | rfl)
    (case lI_InvalidState => first | k_is | rfl)
    (case cI_InvalidState => first | k_is | rfl)
    (case kI_InvalidState => first | k_is | rfl)
    (case lT_InvalidState => first | k_is | rfl)
    (case aC_InvalidTree => first | k_is | rfl)
    (case xL_InvalidTree => first | k_is | rfl)
    (case sa_InvalidTree => first | k_is | rfl)
    (case ga_InvalidTree => first | k_is | rfl)
    (case gg_InvalidTree => first | k_is | rfl)
    (case nb_InvalidTree => first | k_is | rfl)
    (case ca_InvalidTree => first | k_is | rfl)
    (case cm_InvalidTree => first | k_is | rfl)
    (case kC_InvalidTree => first | k_is | rfl)
    (case eC_InvalidTree => first | k_is | rfl)
    (case tC_InvalidTree => first | k_is | rfl)
    (case hC_InvalidTree => first | k_is | rfl)
    (case iC_InvalidTree => first | k_is | rfl)
    (case tI_InvalidTree => first | k_is | rfl)
    (case lI_InvalidTree => first | k_is | rfl)
    (case cI_InvalidTree => first | k_is | rfl)
    (case kI_InvalidTree => first | k_is | rfl)
    (case lT_InvalidTree => first | k_is | rfl)
    (case aC_Needed => first | k_is | rfl)
    (case xL_Needed => first | k_is | rfl)
    (case sa_Needed => first | k_is | rfl)
    (case ga_Needed => first | k_is | rfl)
    (case gg_Needed => first | k_is | rfl)
    (case nb_Needed => first | k_is | rfl)
    (case ca_Needed => first | k_is | rfl)
    (case cm_Needed => first | k_is | rfl)
    (case kC_Needed => first | k_is | rfl)
    (case eC_Needed => first | k_is | rfl)
    (case tC_Needed => first | k_is | rfl)
    (case hC_Needed => first | k_is | rfl)
    (case iC_Needed => first | k_is | rfl)
    (case tI_Needed => first | k_is | rfl)
    (case lI_Needed => first | k_is | rfl)
    (case cI_Needed => first | k_is | rfl)
    (case kI_Needed => first | k_is | rfl)
    (case lT_Needed => first | k_is | rfl)
    (case aC_NoSuchName => first | k_is | rfl)
    (case xL_NoSuchName => first | k_is | rfl)
    (case sa_NoSuchName => first | k_is | rfl)
    (case ga_NoSuchName => first | k_is | rfl)
    (case gg_NoSuchName => first | k_is | rfl)
    (case nb_NoSuchName => first | k_is | rfl)
    (case ca_NoSuchName => first | k_is | rfl)
    (case cm_NoSuchName => first | k_is | rfl)
    (case kC_NoSuchName => first | k_is | rfl)
    (case eC_NoSuchName => first | k_is | rfl)
    (case tC_NoSuchName => first | k_is | rfl)
    (case hC_NoSuchName => first | k_is | rfl)
    (case iC_NoSuchName => first | k_is | rfl)
    (case tI_NoSuchName => first | k_is | rfl)
    (case lI_NoSuchName => first | k_is | rfl)
    (case cI_NoSuchName => first | k_is | rfl)
    (case kI_NoSuchName => first | k_is | rfl)
    (case lT_NoSuchName => first | k_is | rfl)
    (case aC_NotOneToOne => first | k_is | rfl)
    (case xL_NotOneToOne => first | k_is | rfl)
    (case sa_NotOneToOne => first | k_is | rfl)
    (case ga_NotOneToOne => first | k_is | rfl)
    (case gg_NotOneToOne => first | k_is | rfl)
    (case nb_NotOneToOne => first | k_is | rfl)
    (case ca_NotOneToOne => first | k_is | rfl)
    (case cm_NotOneToOne => first | k_is | rfl)
    (case kC_NotOneToOne => first | k_is | rfl)
    (case eC_NotOneToOne => first | k_is | rfl)
    (case tC_NotOneToOne => first | k_is | rfl)
    (case hC_NotOneToOne => first | k_is | rfl)
    (case iC_NotOneToOne => first | k_is | rfl)
    (case tI_NotOneToOne => first | k_is | rfl)
    (case lI_NotOneToOne => first | k_is | rfl)
    (case cI_NotOneToOne => first | k_is | rfl)
    (case kI_NotOneToOne => first | k_is | rfl)
    (case lT_NotOneToOne => first | k_is | rfl)
    (case aC_Unreadable => first | k_is | rfl)
    (case xL_Unreadable => first | k_is | rfl)
    (case sa_Unreadable => first | k_is | rfl)
    (case ga_Unreadable => first | k_is | rfl)
    (case gg_Unreadable => first | k_is | rfl)
    (case nb_Unreadable => first | k_is | rfl)
    (case ca_Unreadable => first | k_is | rfl)
    (case cm_Unreadable => first | k_is | rfl)
    (case kC_Unreadable => first | k_is | rfl)
    (case eC_Unreadable => first | k_is | rfl)
    (case tC_Unreadable => first | k_is | rfl)
    (case hC_Unreadable => first | k_is | rfl)
    (case iC_Unreadable => first | k_is | rfl)
    (case tI_Unreadable => first | k_is | rfl)
    (case lI_Unreadable => first | k_is | rfl)
    (case cI_Unreadable => first | k_is | rfl)
    (case kI_Unreadable => first | k_is | rfl)
    (case lT_Unreadable => first | k_is | rfl)
    (case aC_NoBack => first | k_is | rfl)
    (case ga_NoBack => first | k_is | rfl)
    (case gg_NoBack => first | k_is | rfl)
    (case ca_NoBack => first | k_is | rfl)
    (case cm_NoBack => first | k_is | rfl)
    (case kC_NoBack => first | k_is | rfl)
    (case eC_NoBack => first | k_is | rfl)
    (case hC_NoBack => first | k_is | rfl)
    (case xN_NoBack => k_exc)
    (case aC_NothingToUndo => first | k_is | rfl)
    (case ga_NothingToUndo => first | k_is | rfl)
    (case gg_NothingToUndo => first | k_is | rfl)
    (case ca_NothingToUndo => first | k_is | rfl)
    (case cm_NothingToUndo => first | k_is | rfl)
    (case kC_NothingToUndo => first | k_is | rfl)
    (case eC_NothingToUndo => first | k_is | rfl)
    (case hC_NothingToUndo => first | k_is | rfl)
    (case xN_NothingToUndo => k_exc)
    (case aC_TooMany => first | k_is | rfl)
    (case ga_TooMany => first | k_is | rfl)
    (case gg_TooMany => first | k_is | rfl)
    (case ca_TooMany => first | k_is | rfl)
    (case cm_TooMany => first | k_is | rfl)
    (case kC_TooMany => first | k_is | rfl)
    (case eC_TooMany => first | k_is | rfl)
    (case hC_TooMany => first | k_is | rfl)
    (case xN_TooMany => k_exc)
    (case ka => first | kernel_rfl | rfl)
