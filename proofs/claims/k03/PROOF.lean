import PyProof.Rows.All
import Wide.All
import OpenK.AllK
import Wide.FinOn
import KE.KStateDown
import KE.KNest
import HandS.Head0
import HandS.Head1
import HandS.Head2
import HandS.HeadEnd
import HandS.HeadHook1
import HandS.Words
import KE.KExcInit
import KE.KTryMore
import KE.KIsAll
import PySem.Challenge.RW_bentplane_k03_polynomials_of_one_letter
import HandS.ForMost
import HandS.Style
import HandS.Strs
import HandS.IsInst
import HandS.Wide
import HandS.RaiseMore
import PyProof.ReprRoads
import KE.GoesEnum
import HandS.Rev
import HandS.Zip
import HandS.Star
import HandS.Conv
import HandS.Dict
import HandS.TupAny
import HandS.List
import HandS.Walk
set_option Elab.async false
set_option linter.all false
set_option maxRecDepth 100000
set_option maxHeartbeats 2000000
/-! A head by one run, with facts of one's own about the written part. -/
namespace HX
open PySem PySem.Spec PyProof.Rows L2
/-- what the module's names reach in so many steps, some of it twice -/
def layer (g : Addr → Option Obj) (as : List Addr) : List Addr := as.flatMap fun a => match g a with
  | some o => He.refsO o
  | none => []
def reach (g : Addr → Option Obj) : Nat → List Addr → List Addr
  | 0, as => as
  | n + 1, as => as ++ reach g n (layer g as)
/-- not a table of code objects that is still empty -/
def noTab (g : Addr → Option Obj) (a : Addr) : Bool := match g a with
  | some o => (match o.data with
    | .fields vs => decide (vs.size ≠ 0)
    | _ => true)
  | none => true
def part (n : Nat) (g : Addr → Option Obj) : PySem.W.Frag := He.frG g ((reach g n [mainGlobals]).filter (noTab g))
abbrev Al : Type := He.Al × Bool
def seenX (fa : List He.Fa) (fn : List He.FnD) (ex : PySem.W.Frag → Bool) (K : PySem.W.Frag) : Al := (He.obsE fa fn K, ex K)
def obsX (n : Nat) (fa : List He.Fa) (fn : List He.FnD) (ex : PySem.W.Frag → Bool) (g : Addr → Option Obj) : Al := seenX fa fn ex (part n g)
def hookX (n : Nat) (fa : List He.Fa) (fn : List He.FnD) (ex : PySem.W.Frag → Bool) : PySem.W.Hook where
  α := Al
  obs := fun s => obsX n fa fn ex s.heap.get?
  val := fun _ => (He.valE fn, true)
  says := fun _ h => ∃ K : PySem.W.Frag, K.In h ∧ He.SaysE fa fn K ∧ ex K = true
  of := fun _ _ e => ⟨_, He.frG_in, congrArg (fun z : Al => z.1) e, congrArg (fun z : Al => z.2) e⟩
  keeps := fun _ _ _ ⟨K, hK, c⟩ k => ⟨K, PySem.W.Frag.In.keeps hK k, c⟩
theorem obsX_eq {n : Nat} {fa : List He.Fa} {fn : List He.FnD} {ex : PySem.W.Frag → Bool} {g : Addr → Option Obj} {s : Shared} (h : ∀ a, g a = s.heap.get? a) : obsX n fa fn ex g = (hookX n fa fn ex).obs s := by
  have e : g = s.heap.get? := funext h
  rw [e] <;> rfl
/-- the module's name x is this integer -/
def intB (K : PySem.W.Frag) (x : Str) (i : Int) : Bool := match PySem.W.nsIn K mainGlobals x with
  | some (some (.int j _)) => decide (j = i)
  | _ => false
theorem intB_ok {K : PySem.W.Frag} {x : Str} {i : Int} (h : intB K x i = true) : ∃ t, PySem.W.nsIn K mainGlobals x = some (some (.int i t)) := by
  unfold intB at h
  split at h
  · rename_i j t e
    rw [of_decide_eq_true h] at e
    exact ⟨t, e⟩
  · cases h
/-- the module's name x is this text -/
def strB (K : PySem.W.Frag) (x s : Str) : Bool := match PySem.W.nsIn K mainGlobals x with
  | some (some (.str y _)) => decide (y = s)
  | _ => false
theorem strB_ok {K : PySem.W.Frag} {x s : Str} (h : strB K x s = true) : ∃ t, PySem.W.nsIn K mainGlobals x = some (some (.str s t)) := by
  unfold strB at h
  split at h
  · rename_i y t e
    rw [of_decide_eq_true h] at e
    exact ⟨t, e⟩
  · cases h
/-- the def x has a table of code objects, which stands not in the written part -/
def tabB (K : PySem.W.Frag) (x : Str) : Bool := match PySem.W.tabIn K x with
  | some (_, P) => (K.lookup P).isNone
  | none => false
theorem tabB_ok {K : PySem.W.Frag} {x : Str} (h : tabB K x = true) : ∃ c P, PySem.W.tabIn K x = some (c, P) ∧ K.lookup P = none := by
  unfold tabB at h
  split at h
  · rename_i c P e
    exact ⟨c, P, e, Option.isNone_iff_eq_none.mp h⟩
  · cases h
theorem tab_code {K : PySem.W.Frag} {x : Str} {c P f : Addr} {o : Obj} {fd : FuncData} (h : PySem.W.tabIn K x = some (c, P)) (a : PySem.W.nsIn K mainGlobals x = some (some (.ref f))) (l : K.lookup f = some o) (d : o.data = .func fd) : fd.code = .ref c := by
  obtain ⟨oc, od, dt, sl⟩ := o
  cases d
  unfold PySem.W.tabIn at h
  rw [a] at h
  dsimp only at h
  rw [l] at h
  dsimp only at h
  split at h
  · rename_i c' e
    split at h
    · split at h
      · cases h
        exact e
      · cases h
    · cases h
  · cases h
/-- a run's equation from three: the facts, the functions, the rest each by a run of its own -/
theorem join3 {β : Type} {x : Option SharedT} {A : SharedT → β} {a : β} {n : Nat} {fa : List He.Fa} {fn : List He.FnD} {ex : PySem.W.Frag → Bool} {gt : SharedT → Addr → Option Obj}
    (h0 : x.map A = some a)
    (h1 : x.map (fun s => fa.all fun f => f.ok (part n (gt s))) = some true)
    (h2 : x.map (fun s => (fn.all fun d => (He.Fa.code d.at_ d.qual).ok (part n (gt s)), fn.map fun d => He.fnObs (part n (gt s)) d.at_)) = some (true, fn.map He.FnD.val))
    (h3 : x.map (fun s => ex (part n (gt s))) = some true) :
    x.map (fun s => (A s, obsX n fa fn ex (gt s))) = some (a, (He.valE fn, true)) := by
  cases x with
  | none => cases h0
  | some s =>
    have e0 : A s = a := Option.some.inj h0
    have e1 : (fa.all fun f => f.ok (part n (gt s))) = true := Option.some.inj h1
    have e2 : ((fn.all fun d => (He.Fa.code d.at_ d.qual).ok (part n (gt s))), fn.map fun d => He.fnObs (part n (gt s)) d.at_) = (true, fn.map He.FnD.val) := Option.some.inj h2
    have e3 : ex (part n (gt s)) = true := Option.some.inj h3
    have e4 : (fn.all fun d => (He.Fa.code d.at_ d.qual).ok (part n (gt s))) = true := congrArg (fun z : Bool × List He.FnV => z.1) e2
    have e5 : (fn.map fun d => He.fnObs (part n (gt s)) d.at_) = fn.map He.FnD.val := congrArg (fun z : Bool × List He.FnV => z.2) e2
    show some (A s, ((((fa.all fun f => f.ok (part n (gt s))) && fn.all fun d => (He.Fa.code d.at_ d.qual).ok (part n (gt s))), fn.map fun d => He.fnObs (part n (gt s)) d.at_), ex (part n (gt s)))) = some (a, ((true, fn.map He.FnD.val), true))
    rw [e0, e1, e3, e4, e5]
    rfl
/-- .. and joined with two things that are seen beside -/
theorem join3' {γ : Type} {x : Option SharedT} {A : SharedT → Bool} {B : SharedT → γ} {a : Bool} {b : γ} {O : SharedT → Al} {o : Al}
    (h : x.map (fun s => ((A s, B s), O s)) = some ((a, b), o)) : x.map (fun s => (A s, B s, O s)) = some (a, b, o) := by
  cases x with
  | none => cases h
  | some s =>
    have e := Option.some.inj h
    have e1 : A s = a := congrArg (fun z : (Bool × γ) × Al => z.1.1) e
    have e2 : B s = b := congrArg (fun z : (Bool × γ) × Al => z.1.2) e
    have e3 : O s = o := congrArg (fun z : (Bool × γ) × Al => z.2) e
    show some (A s, B s, O s) = some (a, b, o)
    rw [e1, e2, e3]
end HX
set_option Elab.async false
set_option linter.all false
set_option maxRecDepth 100000
set_option maxHeartbeats 4000000
/-! The ten fields: sums and products of numbers below q, reckoned, and what holds of them. No Python here. -/
namespace Fld
def fields : List Nat := [2, 3, 4, 5, 7, 8, 9, 11, 13, 16]
def chr : Nat → Nat
  | 4 => 2 | 8 => 2 | 16 => 2 | 9 => 3 | q => q
/-- a with w: w^k = w + 1 -/
def up (q a : Nat) : Nat := if 2 * a < q then 2 * a else Nat.xor (2 * a - q) 3
def mul2 (q a b : Nat) : Nat :=
  let a1 := up q a
  let a2 := up q a1
  let a3 := up q a2
  Nat.xor (Nat.xor (if b % 2 = 1 then a else 0) (if b / 2 % 2 = 1 then a1 else 0)) (Nat.xor (if b / 4 % 2 = 1 then a2 else 0) (if b / 8 % 2 = 1 then a3 else 0))
def S (q a b : Nat) : Nat := match q with
  | 4 => Nat.xor a b | 8 => Nat.xor a b | 16 => Nat.xor a b
  | 9 => (a % 3 + b % 3) % 3 + 3 * ((a / 3 + b / 3) % 3)
  | q => (a + b) % q
def M (q a b : Nat) : Nat := match q with
  | 4 => mul2 4 a b | 8 => mul2 8 a b | 16 => mul2 16 a b
  | 9 => (a % 3 * (b % 3) + a / 3 * (b / 3)) % 3 + 3 * ((a % 3 * (b / 3) + a / 3 * (b % 3) + a / 3 * (b / 3)) % 3)
  | q => a * b % q
def below (n : Nat) (p : Nat → Bool) : Bool := (List.range n).all p
theorem of_below {n : Nat} {p : Nat → Bool} (h : below n p = true) {a : Nat} (ha : a < n) : p a = true :=
  List.all_eq_true.mp h a (List.mem_range.mpr ha)
/-- a, a a, .. -/
def pw (q a : Nat) : Nat → Nat
  | 0 => 1
  | n + 1 => M q (pw q a n) a
def inv (q a : Nat) : Nat := ((List.range q).find? fun b => M q a b == 1).getD 0
def ord (q a : Nat) : Nat := ((List.range q).find? fun n => n != 0 && pw q a n == 1).getD 0
/-- the law's sum of digits, from the unit on, k digits more -/
def dsum (p a b unit : Nat) : Nat → Nat
  | 0 => 0
  | k + 1 => (a / unit + b / unit) % p * unit + dsum p a b (unit * p) k
/-- the number of digits -/
def len : Nat → Nat
  | 4 => 2 | 8 => 3 | 16 => 4 | 9 => 2 | _ => 1
def okField (q : Nat) : Bool :=
  decide (1 < q) && decide (q ≤ 16) && decide (1 < chr q) && decide (chr q ≤ q) && decide (chr q ^ len q = q) &&
  below q (fun a => below q fun b => decide (M q a b < q) && decide (S q a b < q) && decide (M q a b = M q b a) && decide (dsum (chr q) a b 1 (len q) = S q a b) &&
    below q fun c => decide (M q c (S q a b) = S q (M q c a) (M q c b)) && decide (M q (M q a b) c = M q a (M q c b))) &&
  below (chr q) (fun a => below (chr q) fun b => decide (M q a b = a * b % chr q)) &&
  below q (fun a => decide (M q 0 a = 0) && decide (M q 1 a = a) && decide (M q a 0 = 0) && decide (M q a 1 = a)) &&
  below (len q) (fun k => decide ((if chr q < q then pw q (chr q) k else chr q ^ k) = chr q ^ k)) &&
  decide (chr q = q ∨ pw q (chr q) (len q) = 1 + chr q) &&
  below q (fun a => decide (a = 0) || (decide (1 ≤ ord q a) && decide (ord q a < q) && decide (pw q a (ord q a) = 1) && (below (ord q a) fun n => decide (n = 0) || decide (pw q a n ≠ 1)) &&
    decide (inv q a < q) && decide (M q a (inv q a) = 1) && below (inv q a) fun b => decide (M q a b ≠ 1))) &&
  below q (fun n => decide (n = 0) || decide (((List.range (q - 1)).filter fun i => n % ord q (i + 1) == 0).length = Nat.gcd n (q - 1)))
theorem all_ok : fields.all okField = true := by decide +kernel
theorem ok {q : Nat} (h : q ∈ fields) : okField q = true := List.all_eq_true.mp all_ok q h

section
variable {q : Nat} (h : q ∈ fields)
include h
theorem gt1 : 1 < q := by
  have o := ok h
  simp only [okField, Bool.and_eq_true, decide_eq_true_eq] at o
  omega
theorem le16 : q ≤ 16 := by
  have o := ok h
  simp only [okField, Bool.and_eq_true, decide_eq_true_eq] at o
  omega
theorem chr_gt : 1 < chr q := by
  have o := ok h
  simp only [okField, Bool.and_eq_true, decide_eq_true_eq] at o
  omega
theorem chr_le : chr q ≤ q := by
  have o := ok h
  simp only [okField, Bool.and_eq_true, decide_eq_true_eq] at o
  omega
theorem chr_len : chr q ^ len q = q := by
  have o := ok h
  simp only [okField, Bool.and_eq_true, decide_eq_true_eq] at o
  omega
theorem two {a b : Nat} (ha : a < q) (hb : b < q) : M q a b < q ∧ S q a b < q ∧ M q a b = M q b a ∧ dsum (chr q) a b 1 (len q) = S q a b := by
  have o := ok h
  unfold okField at o
  simp only [Bool.and_eq_true] at o
  have t := of_below (of_below o.1.1.1.1.1.1.2 ha) hb
  simp only [Bool.and_eq_true, decide_eq_true_eq] at t
  exact ⟨t.1.1.1.1, t.1.1.1.2, t.1.1.2, t.1.2⟩
theorem three {a b c : Nat} (ha : a < q) (hb : b < q) (hc : c < q) : M q c (S q a b) = S q (M q c a) (M q c b) ∧ M q (M q a b) c = M q a (M q c b) := by
  have o := ok h
  unfold okField at o
  simp only [Bool.and_eq_true] at o
  have t := of_below (of_below o.1.1.1.1.1.1.2 ha) hb
  simp only [Bool.and_eq_true] at t
  have u := of_below t.2 hc
  simp only [Bool.and_eq_true, decide_eq_true_eq] at u
  exact u
theorem small {a b : Nat} (ha : a < chr q) (hb : b < chr q) : M q a b = a * b % chr q := by
  have o := ok h
  unfold okField at o
  simp only [Bool.and_eq_true] at o
  have t := of_below (of_below o.1.1.1.1.1.2 ha) hb
  exact of_decide_eq_true t
theorem one {a : Nat} (ha : a < q) : M q 0 a = 0 ∧ M q 1 a = a ∧ M q a 0 = 0 ∧ M q a 1 = a := by
  have o := ok h
  unfold okField at o
  simp only [Bool.and_eq_true] at o
  have t := of_below o.1.1.1.1.2 ha
  simp only [Bool.and_eq_true, decide_eq_true_eq] at t
  exact ⟨t.1.1.1, t.1.1.2, t.1.2, t.2⟩
theorem root {k : Nat} (hk : k < len q) : (if chr q < q then pw q (chr q) k else chr q ^ k) = chr q ^ k := by
  have o := ok h
  unfold okField at o
  simp only [Bool.and_eq_true] at o
  exact of_decide_eq_true (of_below o.1.1.1.2 hk)
theorem next : chr q = q ∨ pw q (chr q) (len q) = 1 + chr q := by
  have o := ok h
  unfold okField at o
  simp only [Bool.and_eq_true] at o
  exact of_decide_eq_true o.1.1.2
theorem unit {a : Nat} (ha : a < q) (h0 : a ≠ 0) : 1 ≤ ord q a ∧ ord q a < q ∧ pw q a (ord q a) = 1 ∧ (∀ n, n < ord q a → n ≠ 0 → pw q a n ≠ 1) ∧ inv q a < q ∧ M q a (inv q a) = 1 ∧ ∀ b, b < inv q a → M q a b ≠ 1 := by
  have o := ok h
  unfold okField at o
  simp only [Bool.and_eq_true] at o
  have t := of_below o.1.2 ha
  rw [Bool.or_eq_true] at t
  rcases t with t | t
  · exact absurd (of_decide_eq_true t) h0
  · simp only [Bool.and_eq_true, decide_eq_true_eq] at t
    refine ⟨t.1.1.1.1.1.1, t.1.1.1.1.1.2, t.1.1.1.1.2, fun n hn n0 => ?_, t.1.1.2, t.1.2, fun b hb => of_decide_eq_true (of_below t.2 hb)⟩
    have u := of_below t.1.1.1.2 hn
    rw [Bool.or_eq_true] at u
    rcases u with u | u
    · exact absurd (of_decide_eq_true u) n0
    · exact of_decide_eq_true u
theorem many {n : Nat} (hn : n < q) (h0 : n ≠ 0) : ((List.range (q - 1)).filter fun i => n % ord q (i + 1) == 0).length = Nat.gcd n (q - 1) := by
  have o := ok h
  unfold okField at o
  simp only [Bool.and_eq_true] at o
  have t := of_below o.2 hn
  rw [Bool.or_eq_true] at t
  rcases t with t | t
  · exact absurd (of_decide_eq_true t) h0
  · exact of_decide_eq_true t

/-! ### powers -/
theorem pw_lt {a : Nat} (ha : a < q) : ∀ n, pw q a n < q
  | 0 => gt1 h
  | n + 1 => (two h (pw_lt ha n) ha).1
theorem assoc {a b c : Nat} (ha : a < q) (hb : b < q) (hc : c < q) : M q (M q a b) c = M q a (M q b c) := by
  rw [(three h ha hb hc).2, (two h hb hc).2.2.1]
theorem pw_add {a : Nat} (ha : a < q) (m : Nat) : ∀ n, pw q a (m + n) = M q (pw q a m) (pw q a n)
  | 0 => ((one h (pw_lt h ha m)).2.2.2).symm
  | n + 1 => by
    show M q (pw q a (m + n)) a = M q (pw q a m) (M q (pw q a n) a)
    rw [pw_add ha m n, assoc h (pw_lt h ha m) (pw_lt h ha n) ha]
theorem pw_sq {a : Nat} (ha : a < q) : ∀ n, pw q (M q a a) n = pw q a (2 * n)
  | 0 => rfl
  | n + 1 => by
    show M q (pw q (M q a a) n) (M q a a) = pw q a (2 * n + 1 + 1)
    rw [pw_sq ha n, ← assoc h (pw_lt h ha _) ha ha]
    rfl
theorem pw_ord {a : Nat} (ha : a < q) (h0 : a ≠ 0) : ∀ k, pw q a (k * ord q a) = 1
  | 0 => by rw [Nat.zero_mul]; rfl
  | k + 1 => by
    rw [Nat.succ_mul, pw_add h ha, pw_ord ha h0 k, (unit h ha h0).2.2.1, (one h (gt1 h)).2.1]
theorem pw_mod {a : Nat} (ha : a < q) (h0 : a ≠ 0) (n : Nat) : pw q a (n % ord q a) = pw q a n := by
  have e : n / ord q a * ord q a + n % ord q a = n := by
    rw [Nat.mul_comm]
    exact Nat.div_add_mod n (ord q a)
  have p := pw_add h ha (n / ord q a * ord q a) (n % ord q a)
  rw [e, pw_ord h ha h0, (one h (pw_lt h ha _)).2.1] at p
  exact p.symm
theorem pw_zero : ∀ n, n ≠ 0 → pw q 0 n = 0
  | 0, z => absurd rfl z
  | n + 1, _ => (one h (pw_lt h (Nat.lt_trans Nat.zero_lt_one (gt1 h)) n)).2.2.1
end
end Fld
set_option Elab.async false
set_option linter.all false
set_option maxRecDepth 100000
set_option maxHeartbeats 0
namespace HY
open PySem PySem.Spec PyProof.Rows L2
open PySem.W
def topS (i : Nat) : Stmt := PySem.Challenge.pw_bentplane_k03_polynomials_of_one_letter.main.body.getD i (.Pass ⟨0, 0, 0, 0⟩)
abbrev sAreNumbers : Stmt := topS 9
abbrev sHouseInit : Stmt := inClass (topS 17) 0
abbrev sIsInteger : Stmt := topS 4
abbrev sIsNumber : Stmt := topS 5
abbrev sIsOneLetter : Stmt := topS 10
abbrev sLAdded : Stmt := topS 31
abbrev sLAny : Stmt := topS 25
abbrev sLAreNumbers : Stmt := topS 28
abbrev sLDeck : Stmt := topS 19
abbrev sLDraw : Stmt := topS 20
abbrev sLField : Stmt := topS 24
abbrev sLIsLetter : Stmt := topS 35
abbrev sLIsNumber : Stmt := topS 27
abbrev sLIsRight : Stmt := topS 36
abbrev sLIsTold : Stmt := topS 37
abbrev sLLetter : Stmt := topS 29
abbrev sLMultiplied : Stmt := topS 32
abbrev sLPick : Stmt := topS 21
abbrev sLQ : Stmt := topS 22
abbrev sLSpoilt : Stmt := topS 26
abbrev sLSum : Stmt := topS 23
abbrev sLTrimmed : Stmt := topS 30
abbrev sLValue : Stmt := topS 34
abbrev sLWithin : Stmt := topS 33
abbrev sLaw : Stmt := topS 38
abbrev sOnePlus : Stmt := topS 12
abbrev sOnePut : Stmt := topS 15
abbrev sOneTimes : Stmt := topS 13
abbrev sOneValue : Stmt := topS 14
abbrev sPlus : Stmt := topS 6
abbrev sTimes : Stmt := topS 7
abbrev sTrimmed : Stmt := topS 11
def keysI (es : List DictEntry) : Bool := es.all fun e => match e.key with
  | .int i _ => e.hash == hashInt i
  | _ => false
def intOf : Value → Option Int
  | .int i _ => some i
  | _ => none
def rowIs (K : PySem.W.Frag) (v : Value) (r : List Nat) : Bool := match v with
  | .ref p => (match K.lookup p with
    | some ⟨.type "tuple", none, .seq its _, _⟩ => decide (its.size ≤ sizeLine) && decide (its.toList.map intOf = r.map fun (n : Nat) => some ((n : Nat) : Int))
    | _ => false)
  | _ => false
def tabIs (K : PySem.W.Frag) (d : Addr) (f : Nat → Nat → Nat → Nat) : Bool := match K.lookup d with
  | some ⟨.type "dict", none, .dict es _, sl⟩ => decide (sl.size = 0) && keysI es.toList && Fld.fields.all fun q => (match findBy Value.isInt es (q : Nat) with
    | some (.ref p) => (match K.lookup p with
      | some ⟨.type "tuple", none, .seq its _, _⟩ => decide (its.size = q) && Fld.below q fun a => rowIs K (its.toList.getD a .none) ((List.range q).map (f q a))
      | _ => false)
    | _ => false)
  | _ => false
def xw : Nat → Nat → Nat
  | 0, n => if n = 3 then 1 else if n = 5 then 2 else if n = 7 then 1 else 0
  | 1, n => if n = 4 then 1 else if n = 7 then 1 else 0
  | _ + 2, n => if n = 6 then 1 else 0
def expIs (K : PySem.W.Frag) (d : Addr) : Bool := match K.lookup d with
  | some ⟨.type "dict", none, .dict es _, sl⟩ => decide (sl.size = 0) && keysI es.toList && [2, 3, 4, 5, 6].all fun n => (match findBy Value.isInt es ((n : Nat) : Int) with
    | some v => rowIs K v [xw 0 (n + 1), xw 1 (n + 1), xw 2 (n + 1)]
    | _ => false)
  | _ => false
def rootIs (K : PySem.W.Frag) (p : Addr) : Bool := match K.lookup p with
  | some ⟨.type "tuple", none, .seq its _, _⟩ => decide (its.size ≤ sizeLine) && (match its.toList with
    | [.str s _, .int i _, b, t] => decide (s = "straight") && decide (i = -1) && rowIs K b [] && rowIs K t []
    | _ => false)
  | _ => false
def nothIs (K : PySem.W.Frag) (p : Addr) : Bool := match K.lookup p with
  | some ⟨.type "tuple", none, .seq its _, _⟩ => decide (its.size ≤ sizeLine) && (match its.toList with
    | [.int i _, b, t, l] => decide (i = -1) && rowIs K b [] && rowIs K t [] && rowIs K l [1, 0, 0, 0, 1, 0]
    | _ => false)
  | _ => false
def ncIs (K : PySem.W.Frag) (C : Addr) : Bool := PySem.W.excInitIn K C [.type "Exception", .type "BaseException", .type "object"] "Exception.__new__" && (PySem.W.excOver K C [.type "Exception", .type "BaseException", .type "object"] && (PySem.W.hasDictIn K C && (decide (PySem.W.findIn K (.ref C) "__setattr__" = some (some (.builtin "object.__setattr__"))) && (decide (PySem.W.subIn K (.ref C) (.type "BaseException") = some true) && (decide (PySem.W.typeIn K (.ref C) = some (.type "type")) && (PySem.W.keepIn K (.ref C) && (decide (PySem.W.takerIn K C "thing" = some none) && decide (PySem.W.exmOne K (.ref C) (.ref C) = some true))))))))
def xfB (K : PySem.W.Frag) (C : Addr) : Bool := decide (PySem.W.findIn K (.ref C) "__getattribute__" = some (some (.builtin "BaseException.__getattribute__"))) && (decide (PySem.W.findIn K (.ref C) "__getattr__" = some none) && (decide (PySem.W.subIn K (.ref C) (.type "BaseException") = some true) && PySem.W.hasDictIn K C))
def ncIs2 (K : PySem.W.Frag) (C : Addr) : Bool := ncIs K C && (xfB K C && decide (PySem.W.findIn K (.ref C) "thing" = some none))
def excB (K : PySem.W.Frag) (D : Addr) : Bool := decide (PySem.W.findIn K (.ref D) "__getattribute__" = some (some (.builtin "BaseException.__getattribute__"))) && (decide (PySem.W.findIn K (.ref D) "__getattr__" = some none) && (decide (PySem.W.subIn K (.ref D) (.type "BaseException") = some true) && (PySem.W.hasDictIn K D && (decide (PySem.W.findIn K (.ref D) "__class__" = some (some (.builtin "object.__class__"))) && (decide (PySem.W.specialIn K (.builtin "object.__class__") "__get__" = some (some (.builtin "getset_descriptor.__get__"))) && (decide (PySem.W.takesIn K (.builtin "object.__class__") = some true) && decide (PySem.W.mroIn K D (.type "object") = some true)))))))
def kinB (K : PySem.W.Frag) (C E B : Addr) : Bool := excB K C && (decide (PySem.W.kitOne K (.ref C) (.ref E) = some true) && (decide (PySem.W.kitOne K (.ref C) (.ref B) = some false) && decide (PySem.W.kitOne K (.ref C) (.type "ValueError") = some false)))
def charIs (K : PySem.W.Frag) (d : Addr) : Bool := !(d == sysModules) && (match K.lookup d with
  | some ⟨.type "dict", none, .dict es _, sl⟩ => decide (sl.size = 0) && keysI es.toList && (es.toList.all fun e => match e.key with
    | .int i _ => Fld.fields.any fun q => decide (i = (q : Int))
    | _ => false) && Fld.fields.all fun q => (match findBy Value.isInt es ((q : Nat) : Int) with
    | some (.int c _) => decide (c = (Fld.chr q : Nat))
    | _ => false)
  | _ => false)
/-- what the head must see of the class House -/
def houB (K : PySem.W.Frag) (C : Addr) : Bool := PySem.W.plainGet K C Str.empty && (PySem.W.hasDictIn K C && (PySem.W.plainOver K C && (decide (PySem.W.findIn K (.ref C) "__setattr__" = some (some (.builtin "object.__setattr__"))) && (decide (PySem.W.findIn K (.ref C) "q" = some none) && (decide (PySem.W.findIn K (.ref C) "steps" = some none) && (decide (PySem.W.findIn K (.ref C) "promised" = some none) && (decide (PySem.W.findIn K (.ref C) "past" = some none) && (decide (PySem.W.findIn K (.ref C) "future" = some none) && (decide (PySem.W.findIn K (.ref C) "__class__" = some (some (.builtin "object.__class__"))) && (decide (PySem.W.specialIn K (.builtin "object.__class__") "__get__" = some (some (.builtin "getset_descriptor.__get__"))) && (decide (PySem.W.takesIn K (.builtin "object.__class__") = some true) && (decide (PySem.W.mroIn K C (.type "object") = some true) && (decide (PySem.W.kitOne K (.ref C) (.type "int") = some false) && (decide (PySem.W.kitOne K (.ref C) (.type "tuple") = some false) && (PySem.W.makesIn K C && PySem.W.keepIn K (.ref C))))))))))))))))
abbrev R : PySem.W.OpenRow := PySem.W.OpenLaw.row PySem.Challenge.rw_bentplane_k03_polynomials_of_one_letter
abbrev qv : Program := PySem.W.view R.prog [38]
def loose0 : List Str := [("_wall" : Str), ("SUMS" : Str), ("PRODUCTS" : Str), ("__name__" : Str), ("is_integer" : Str), ("is_number" : Str), ("plus" : Str), ("times" : Str), ("are_numbers" : Str), ("is_one_letter" : Str), ("trimmed" : Str), ("one_plus" : Str), ("one_times" : Str), ("one_value" : Str), ("one_put" : Str), ("House" : Str), ("_law_deck" : Str), ("_law_draw" : Str), ("_law_pick" : Str), ("_law_q" : Str), ("_law_sum" : Str), ("_law_field" : Str), ("_law_any" : Str), ("_law_spoilt" : Str), ("_law_is_number" : Str), ("_law_are_numbers" : Str), ("_law_letter" : Str), ("_law_trimmed" : Str), ("_law_added" : Str), ("_law_multiplied" : Str), ("_law_within" : Str), ("_law_value" : Str), ("_law_is_letter" : Str), ("_law_is_right" : Str), ("_law_is_told" : Str)]
def loose : List Str := loose0
def fn0 : List He.FnD := [⟨("_law_deck", none), "_law_deck", "_law_deck", defArgs sLDeck, defBody sLDeck, defScope sLDeck⟩, ⟨("_law_draw", none), "_law_draw", "_law_draw", defArgs sLDraw, defBody sLDraw, defScope sLDraw⟩, ⟨("_law_pick", none), "_law_pick", "_law_pick", defArgs sLPick, defBody sLPick, defScope sLPick⟩, ⟨("_law_q", none), "_law_q", "_law_q", defArgs sLQ, defBody sLQ, defScope sLQ⟩, ⟨("_law_sum", none), "_law_sum", "_law_sum", defArgs sLSum, defBody sLSum, defScope sLSum⟩, ⟨("_law_field", none), "_law_field", "_law_field", defArgs sLField, defBody sLField, defScope sLField⟩, ⟨("_law_letter", none), "_law_letter", "_law_letter", defArgs sLLetter, defBody sLLetter, defScope sLLetter⟩, ⟨("_law_trimmed", none), "_law_trimmed", "_law_trimmed", defArgs sLTrimmed, defBody sLTrimmed, defScope sLTrimmed⟩, ⟨("_law_added", none), "_law_added", "_law_added", defArgs sLAdded, defBody sLAdded, defScope sLAdded⟩, ⟨("_law_multiplied", none), "_law_multiplied", "_law_multiplied", defArgs sLMultiplied, defBody sLMultiplied, defScope sLMultiplied⟩, ⟨("_law_within", none), "_law_within", "_law_within", defArgs sLWithin, defBody sLWithin, defScope sLWithin⟩, ⟨("_law_value", none), "_law_value", "_law_value", defArgs sLValue, defBody sLValue, defScope sLValue⟩, ⟨("plus", none), "plus", "plus", defArgs sPlus, defBody sPlus, defScope sPlus⟩, ⟨("trimmed", none), "trimmed", "trimmed", defArgs sTrimmed, defBody sTrimmed, defScope sTrimmed⟩, ⟨("one_plus", none), "one_plus", "one_plus", defArgs sOnePlus, defBody sOnePlus, defScope sOnePlus⟩, ⟨("times", none), "times", "times", defArgs sTimes, defBody sTimes, defScope sTimes⟩, ⟨("one_times", none), "one_times", "one_times", defArgs sOneTimes, defBody sOneTimes, defScope sOneTimes⟩, ⟨("one_put", none), "one_put", "one_put", defArgs sOnePut, defBody sOnePut, defScope sOnePut⟩, ⟨("one_value", none), "one_value", "one_value", defArgs sOneValue, defBody sOneValue, defScope sOneValue⟩, ⟨("_law_is_right", none), "_law_is_right", "_law_is_right", defArgs sLIsRight, defBody sLIsRight, defScope sLIsRight⟩]
def fn1 : List He.FnD := [⟨("is_integer", none), "is_integer", "is_integer", defArgs sIsInteger, defBody sIsInteger, defScope sIsInteger⟩, ⟨("is_number", none), "is_number", "is_number", defArgs sIsNumber, defBody sIsNumber, defScope sIsNumber⟩, ⟨("are_numbers", none), "are_numbers", "are_numbers", defArgs sAreNumbers, defBody sAreNumbers, defScope sAreNumbers⟩, ⟨("is_one_letter", none), "is_one_letter", "is_one_letter", defArgs sIsOneLetter, defBody sIsOneLetter, defScope sIsOneLetter⟩, ⟨("_law_is_number", none), "_law_is_number", "_law_is_number", defArgs sLIsNumber, defBody sLIsNumber, defScope sLIsNumber⟩, ⟨("_law_are_numbers", none), "_law_are_numbers", "_law_are_numbers", defArgs sLAreNumbers, defBody sLAreNumbers, defScope sLAreNumbers⟩, ⟨("_law_is_letter", none), "_law_is_letter", "_law_is_letter", defArgs sLIsLetter, defBody sLIsLetter, defScope sLIsLetter⟩, ⟨("_law_spoilt", none), "_law_spoilt", "_law_spoilt", defArgs sLSpoilt, defBody sLSpoilt, defScope sLSpoilt⟩, ⟨("House", some "__init__"), "__init__", "House.__init__", defArgs sHouseInit, defBody sHouseInit, defScope sHouseInit⟩, ⟨("_law_any", none), "_law_any", "_law_any", defArgs sLAny, defBody sLAny, defScope sLAny⟩, ⟨("_law_is_told", none), "_law_is_told", "_law_is_told", defArgs sLIsTold, defBody sLIsTold, defScope sLIsTold⟩, ⟨("law", none), "law", "law", defArgs sLaw, defBody sLaw, defScope sLaw⟩]
def fn : List He.FnD := fn0 ++ fn1
def fa0 : List He.Fa := [.glo "_law_deck", .keep "_law_deck", .glo "_law_draw", .keep "_law_draw", .glo "_law_pick", .keep "_law_pick", .glo "_law_q", .keep "_law_q", .glo "_law_sum", .keep "_law_sum", .glo "_law_field", .keep "_law_field", .glo "_law_letter", .keep "_law_letter", .glo "_law_trimmed", .keep "_law_trimmed", .glo "_law_added", .keep "_law_added", .glo "_law_multiplied", .keep "_law_multiplied", .glo "_law_within", .keep "_law_within", .glo "_law_value", .keep "_law_value", .glo "plus", .keep "plus", .glo "trimmed", .keep "trimmed", .glo "one_plus", .keep "one_plus", .glo "times", .keep "times", .glo "one_times", .keep "one_times", .glo "one_put", .keep "one_put", .glo "one_value", .keep "one_value", .glo "_law_is_right", .keep "_law_is_right"]
def fa1 : List He.Fa := [.glo "is_integer", .keep "is_integer", .glo "is_number", .keep "is_number", .glo "are_numbers", .keep "are_numbers", .glo "is_one_letter", .keep "is_one_letter", .glo "_law_is_number", .keep "_law_is_number", .glo "_law_are_numbers", .keep "_law_are_numbers", .glo "_law_is_letter", .keep "_law_is_letter", .glo "_law_spoilt", .keep "_law_spoilt", .meth "House" "__init__", .glo "_law_any", .keep "_law_any", .glo "_law_is_told", .keep "_law_is_told", .glo "law", .keep "law", .glo "SUMS", .glo "PRODUCTS", .glo "House", .free "all", .free "bool", .free "enumerate", .free "int", .free "isinstance", .free "len", .free "list", .free "max", .free "range", .free "repr", .free "reversed", .free "tuple", .free "zip"]
def fa : List He.Fa := fa0 ++ fa1
def ex (K : PySem.W.Frag) : Bool := (tabIs K (He.ga K "SUMS") Fld.S) && (tabIs K (He.ga K "PRODUCTS") Fld.M) && (houB K (He.ga K "House"))
abbrev hk : PySem.W.Hook := HX.hookX 5 fa fn ex
def ob (s : PySem.W.SharedT) : HX.Al := HX.obsX 5 fa fn ex (HandSHeadRun.getT s)
theorem ob_eq (s : PySem.W.SharedT) : ob s = hk.obs s.abs := HX.obsX_eq (HandSHeadRun.getT_eq s)
theorem runF0 (w : World) (os : OsState) : (HandSHeadRun.endF (HandSHeadRun.stepQ (HandSHeadRun.denQ HandSHeadRun.tabQ) R.prog (w.withFollow "special-get-raises" false)) 20000 R.prog (w.withFollow "special-get-raises" false) os).map (fun s => (HandSHeadRun.looksF R.prog (boot_heap (w.withFollow "special-get-raises" false).params) s.abs, HandSHeadRun.seenQ qv loose (importedModules R.prog.main.body) (fun s => xlAt qv [] s && recOk R.toRowW.records s) s.abs)) = some (true, PySem.W.openGood qv loose) := by kernel_rfl
theorem runF1 (w : World) (os : OsState) : (HandSHeadRun.endF (HandSHeadRun.stepQ (HandSHeadRun.denQ HandSHeadRun.tabQ) R.prog (w.withFollow "special-get-raises" false)) 20000 R.prog (w.withFollow "special-get-raises" false) os).map (fun s => fa.all fun f => f.ok (HX.part 5 (HandSHeadRun.getT s))) = some true := by kernel_rfl
theorem runF2 (w : World) (os : OsState) : (HandSHeadRun.endF (HandSHeadRun.stepQ (HandSHeadRun.denQ HandSHeadRun.tabQ) R.prog (w.withFollow "special-get-raises" false)) 20000 R.prog (w.withFollow "special-get-raises" false) os).map (fun s => (fn.all fun d => (He.Fa.code d.at_ d.qual).ok (HX.part 5 (HandSHeadRun.getT s)), fn.map fun d => He.fnObs (HX.part 5 (HandSHeadRun.getT s)) d.at_)) = some (true, fn.map He.FnD.val) := by kernel_rfl
theorem runF3 (w : World) (os : OsState) : (HandSHeadRun.endF (HandSHeadRun.stepQ (HandSHeadRun.denQ HandSHeadRun.tabQ) R.prog (w.withFollow "special-get-raises" false)) 20000 R.prog (w.withFollow "special-get-raises" false) os).map (fun s => ex (HX.part 5 (HandSHeadRun.getT s))) = some true := by kernel_rfl
theorem runF (w : World) : HandSHeadRun.RunEq R qv hk ob 20000 loose (w.withFollow "special-get-raises" false) := fun os =>
  HX.join3' (HX.join3 (runF0 w os) (runF1 w os) (runF2 w os) (runF3 w os))
theorem runT0 (w : World) (os : OsState) : (HandSHeadRun.endF (HandSHeadRun.stepQ (HandSHeadRun.denQ HandSHeadRun.tabQ) R.prog (w.withFollow "special-get-raises" true)) 20000 R.prog (w.withFollow "special-get-raises" true) os).map (fun s => (HandSHeadRun.looksF R.prog (boot_heap (w.withFollow "special-get-raises" true).params) s.abs, HandSHeadRun.seenQ qv loose (importedModules R.prog.main.body) (fun s => xlAt qv [] s && recOk R.toRowW.records s) s.abs)) = some (true, PySem.W.openGood qv loose) := by kernel_rfl
theorem runT1 (w : World) (os : OsState) : (HandSHeadRun.endF (HandSHeadRun.stepQ (HandSHeadRun.denQ HandSHeadRun.tabQ) R.prog (w.withFollow "special-get-raises" true)) 20000 R.prog (w.withFollow "special-get-raises" true) os).map (fun s => fa.all fun f => f.ok (HX.part 5 (HandSHeadRun.getT s))) = some true := by kernel_rfl
theorem runT2 (w : World) (os : OsState) : (HandSHeadRun.endF (HandSHeadRun.stepQ (HandSHeadRun.denQ HandSHeadRun.tabQ) R.prog (w.withFollow "special-get-raises" true)) 20000 R.prog (w.withFollow "special-get-raises" true) os).map (fun s => (fn.all fun d => (He.Fa.code d.at_ d.qual).ok (HX.part 5 (HandSHeadRun.getT s)), fn.map fun d => He.fnObs (HX.part 5 (HandSHeadRun.getT s)) d.at_)) = some (true, fn.map He.FnD.val) := by kernel_rfl
theorem runT3 (w : World) (os : OsState) : (HandSHeadRun.endF (HandSHeadRun.stepQ (HandSHeadRun.denQ HandSHeadRun.tabQ) R.prog (w.withFollow "special-get-raises" true)) 20000 R.prog (w.withFollow "special-get-raises" true) os).map (fun s => ex (HX.part 5 (HandSHeadRun.getT s))) = some true := by kernel_rfl
theorem runT (w : World) : HandSHeadRun.RunEq R qv hk ob 20000 loose (w.withFollow "special-get-raises" true) := fun os =>
  HX.join3' (HX.join3 (runT0 w os) (runT1 w os) (runT2 w os) (runT3 w os))
theorem run (w : World) : HandSHeadRun.RunEq R qv hk ob 20000 loose w := PySem.W.byRow2 "special-get-raises" (P := fun w => HandSHeadRun.RunEq R qv hk ob 20000 loose w) runF runT w
end HY
set_option Elab.async false
set_option linter.all false
set_option maxRecDepth 100000
set_option maxHeartbeats 4000000
/-! General rules of mine: repr of data, index of a tuple of ints, a written dict with int keys, defs that know that no repr runs around them. -/
namespace BP
open PySem PySem.Spec PyProof.Rows L2

/-! ### repr of data -/
def rRepr (K : PySem.W.Frag) : List V → Hp → VK → Prop := fun xs H Q =>
  ∃ a d, xs = [.ref a] ∧ Dp K H (.ref a) d ∧ d.showable = true ∧ d.hasDict = false ∧ d.depth ≤ 40 ∧ d.shown.length ≤ sizeLine ∧ Q (.str d.shown) H
section
variable {X : Cx}
theorem call_repr_data (hg : X.A.guards = some []) (hu : X.A.units + 64 < cLine) : CallR X (.builtin "repr") (rRepr X.K) := by
  intro pins s σ H xs us Q I r h
  obtain ⟨a, d, rfl, hd, hs, hn, hdep, hz, q⟩ := h
  obtain ⟨u, rfl, ru⟩ := vals1 r
  have e : u = Value.ref a := ru
  subst e
  obtain ⟨as, rd⟩ := Dp.reads I d _ _ hd rfl
  refine repr_of_reads' rd hs (PyData.noDict_hsm hn) hg (by omega) (fun b o e => e) (fun h' u tk hk => ?_) hz
  exact ⟨.str d.shown, H, I.kept hk, ⟨_, rfl⟩, q⟩
end

/-! ### t.index(n) of a tuple of whole numbers -/
theorem flat_ints (ys : List Int) : (ys.map V.int).all flatV = true := by
  rw [List.all_map]
  exact List.all_eq_true.mpr fun _ _ => rfl
def rTupIx (K : PySem.W.Frag) : V → List V → Hp → VK → Prop := fun x xs H Q =>
  ∃ p, ∃ ys : List Int, ∃ z j, x = .ref p ∧ xs = [.int z] ∧ SqT K H p (ys.map V.int) ∧ ys[j]? = some z ∧ (∀ m, m < j → ys[m]? ≠ some z) ∧ Q (.int (j : Nat)) H
theorem mt_tupIx {X : Cx} : MtR X "tuple.index" (rTupIx X.K) := by
  intro pins s σ H x xs v us Q I rx rs h
  obtain ⟨p, ys, z, j, rfl, rfl, hq, hy, hno, q⟩ := h
  cases rx
  obtain ⟨u, rfl, t, rfl⟩ := vals1 rs
  obtain ⟨its, r, pl, hz⟩ := I.tuple hq
  obtain ⟨⟨cls, dd, dt, sl⟩, ho, hc, n, hd⟩ := pl
  simp only at hc hd
  subst hc hd
  have hl : its.toArray.size = ys.length := by
    rw [List.size_toArray, ← r.length, List.length_map]
  have hj : j < its.toArray.size := by
    rw [hl]
    exact (List.getElem?_eq_some_iff.mp hy).1
  have look : ∀ (m : Nat) (hm : m < its.toArray.size), ∃ y t', ys[m]? = some y ∧ its.toArray[m] = Value.int y t' := by
    intro m hm
    have hm' : m < ys.length := by
      rw [← hl]
      exact hm
    obtain ⟨w, hw, t', hw'⟩ := r.get (i := m) (x := .int ys[m]) (by simp [hm'])
    refine ⟨ys[m], t', List.getElem?_eq_getElem hm', ?_⟩
    have e := (List.getElem?_eq_some_iff.mp hw).2
    rw [← hw', ← e]
    simp
  have ev : ∀ (y : Int) (t' : Tok), eqU (.int z) (Value.int y t') = decide (y = z) := by
    intro y t'
    show eqV (.int y) (.int z) = _
    by_cases e : y = z
    · subst e
      simp [eqV]
    · simp [eqV, e]
  refine call_meets PySem.F.slot_tuple_index ⟨_, ho, rfl⟩ PySem.F.entry_tuple_index (PySem.F.args_tuple_index_2 _ _)
    (TI.tuple_indexAt p its.toArray n dd sl (.int z t) (eqU (.int z)) j hj ?_ ?_)
    ⟨ho, fun w hw => mem_eqAt (x := .int z) ⟨t, rfl⟩ rfl r (flat_ints ys) w (by simpa using hw), ⟨.int (j : Nat), H, I.tok _, ⟨_, rfl⟩, q⟩⟩
  · obtain ⟨y, t', h1, h2⟩ := look j hj
    rw [h2, ev]
    rw [hy] at h1
    cases h1
    exact decide_eq_true rfl
  · intro m hm hmj
    obtain ⟨y, t', h1, h2⟩ := look m hm
    rw [h2, ev]
    exact decide_eq_false fun e => hno m hmj (e ▸ h1)

/-! ### a dict of the module whose keys are whole numbers -/
def keysI (es : List DictEntry) : Bool := es.all fun e => match e.key with
  | .int i _ => e.hash == hashInt i
  | _ => false
def KDI (K : PySem.W.Frag) (d : Addr) (i : Int) (v : V) : Prop :=
  ∃ es n u, K.lookup d = some ⟨.type "dict", none, .dict es n, #[]⟩ ∧ keysI es.toList = true ∧ findBy Value.isInt es i = some u ∧ RelV v u
theorem ix_kint {X : Cx} : IxR X (fun x y H Q => ∃ p i v, x = .ref p ∧ y = .int i ∧ KDI X.K p i v ∧ Q v H) := by
  intro value slice pins s σ H x y v u Q I rx ry h hs
  obtain ⟨p, i, z, rfl, rfl, ⟨es, n, u0, hl, hk, e, ru⟩, q⟩ := h
  obtain rfl : v = Value.ref p := rx
  obtain ⟨t, rfl⟩ := ry
  have hm : s.heap.MapOf (intKind X.prog X.w) p (fun k => findBy Value.isInt es k) := by
    refine ⟨_, es, n, I.kIn _ _ hl, ⟨rfl, rfl, rfl⟩, rfl, fun e he => ?_, fun _ => rfl⟩
    have q := List.all_eq_true.mp hk e (Array.mem_toList_iff.mpr he)
    split at q
    · rename_i i t' ek
      refine ⟨i, ?_, beq_iff_eq.mp q⟩
      rw [ek]
      exact intKind_is X.prog X.w i t'
    · cases q
  exact tail_any hm.typeIs slot_dict_getitem.lookup (wpAny_getItem_of (intKind_is X.prog X.w i t) hm e ⟨z, H, I.tok _, ru, q⟩) hs
end BP
set_option Elab.async false
set_option linter.all false
set_option maxRecDepth 100000
set_option maxHeartbeats 4000000
/-! Defs that are called where no repr is under way: their promise may use that. -/
namespace BP
open PySem PySem.Spec PyProof.Rows L2

section
variable (P : Program) (w : World) (K : PySem.W.Frag) (mg : Str → Option Value) (base : Heap)
/-- as FnOk, but only where no guard is up -/
structure GFn (k : Nat) (f : Addr) (fd : FuncData) (ps : List Str) (sp : Sp) : Prop where
  len : ∀ vs H Q E, sp vs H Q E → vs.length = ps.length
  run : ∀ (A : Around) (outer : List Env) (s : Shared) (H : Hp) (args : Args) (us : List Value) (vs : List V) (Q : VK) (E : XK),
    A.guards = some [] → Room k A → Env0 P w K mg base A outer s H → BindsTo s fd args (ps.zip us) → Vals vs us → sp vs H Q E →
    codeAny (model P w) A (.call (.ref f) args) (CR CX0 outer P w H s Q E) s
end

section
variable {P : Program} {w : World} {K : PySem.W.Frag} {mg : Str → Option Value} {base : Heap}
theorem FnOk.g {k : Nat} {f : Addr} {fd : FuncData} {ps : List Str} {sp : Sp} (F : FnOk P w K mg base CX0 k f fd ps sp) : GFn P w K mg base k f fd ps sp :=
  ⟨F.len, fun A outer s H args us vs Q E _ hr => F.run A outer s H args us vs Q E hr⟩

theorem gfn_of {k : Nat} {f : Addr} {name qual : Str} {params : Arguments} {body : List Stmt} {scope : Scope} {dV kV doc pm cdv ct oc : Value} {an od : Option Addr} {osl : Array (Option Value)} {N ps : List Str} {sp : Sp}
    (look : K.lookup f = some ⟨oc, od, .func (PySem.W.fnOf name qual params body scope dV kV doc pm an cdv ct), osl⟩) (code : PySem.W.codeIn K cdv qual = true) (S : FnScope N ps scope)
    (len : ∀ vs H Q E, sp vs H Q E → vs.length = ps.length)
    (hb : ∀ (A : Around) (outer : List Env) (s : Shared) (H : Hp) (vs : List V) (Q : VK) (E : XK), A.guards = some [] → Room k (A.deeper (envOfC qual scope s.heap.objs.size f cdv)) → sp vs H Q E →
      ∃ t, PSs (cxOf CX0 P w K mg base N qual scope f cdv A outer s H E) body t ∧ t { nx := fun _ H' => Q .non H', rt := Q } (start N vs) H) :
    GFn P w K mg base (k + 1) f (PySem.W.fnOf name qual params body scope dV kV doc pm an cdv ct) ps sp := by
  refine ⟨len, fun A outer s H args us vs Q E hg room env bnd rel want => ?_⟩
  have hl := len _ _ _ _ want
  have inK : K.In s.heap := env.mod.kin.keeps fun b o e => (env.bs b o e).1
  have noLim : s.heap.NoLimit := env.mod.nolimit.keeps fun b o e => (env.bs b o e).1
  have kinds : ∀ y ∈ ps.zip us, scope.names.lookup y.1 = some .local ∨ (scope.names.lookup y.1 = some .cell ∧ ((cellsFrom (s.heap.objs.size + 1) scope.names []).lookup y.1).isSome = true) := by
    intro ⟨n, v⟩ hy
    cases S.par n (List.of_mem_zip hy).1 with
    | inl q => exact .inl q
    | inr q => exact .inr ⟨q, PySem.W.cellsFrom_some _ _ _ (.inl q)⟩
  refine codeAny_call_function room.depth (inK _ _ look) rfl S.co S.gen rfl
    (PySem.W.codeRec_of inK code) (bnd _ _ _ _ ?_)
  refine wpAny_newFunctionEnv_cells S.kind kinds fun env1 he s1 x => ?_
  subst he
  refine ⟨noLim.keeps x.toInCall.keep, codeAny_func ?_⟩
  obtain ⟨t, ht, hq⟩ := hb A outer s H vs Q E hg (room.deeper _) want
  have inv0 : Inv (cxOf CX0 P w K mg base N qual scope f cdv A outer s H E) [] (start N vs) H s1 :=
    inv_start S room.hd env hl rel x
  refine wpAny_mono (ht.run [] s1 (start N vs) H _ inv0 hq) (fun fl s' hs => ?_) fun _ _ z => z
  cases fl with
  | ret u =>
    obtain ⟨v, σ', H', J, rv, q⟩ := hs
    exact ⟨v, H', J.os, J.bare, J.base, J.hok, rv, q⟩
  | next =>
    obtain ⟨σ', H', J, q⟩ := hs
    exact ⟨V.non, H', J.os, J.bare, J.base, J.hok, rfl, q⟩
  | brk =>
    obtain ⟨_, _, _, q⟩ := hs
    exact q.elim
  | cont =>
    obtain ⟨_, _, _, q⟩ := hs
    exact q.elim

/-- by the text's def -/
theorem gok {x qual : Str} {st : Stmt} {f : Addr} {fd : FuncData} {N ps : List Str} {k : Nat} {sp : Sp} (F : Fun K x qual st f fd) (S : FnScope N ps (defScope st)) (len : ∀ vs H Q E, sp vs H Q E → vs.length = ps.length)
    (hb : ∀ (cdv : Value) (A : Around) (outer : List Env) (s : Shared) (H : Hp) (vs : List V) (Q : VK) (E : XK), A.guards = some [] → Room k (A.deeper (envOfC qual (defScope st) s.heap.objs.size f cdv)) → sp vs H Q E →
      ∃ t, PSs (cxOf CX0 P w K mg base N qual (defScope st) f cdv A outer s H E).nox (defBody st) t ∧ t { nx := fun _ H' => Q .non H', rt := Q } (start N vs) H) : GFn P w K mg base (k + 1) f fd ps sp := by
  obtain ⟨oc, od, kV, doc, pm, an, cdv, ct, osl, rfl, lk, cd⟩ := F.ex
  refine gfn_of lk cd S len fun A outer s H vs Q E hg hr want => ?_
  obtain ⟨t, h, q⟩ := hb cdv A outer s H vs Q E hg hr want
  exact ⟨t, h.nox, q⟩
end

section
variable {X : Cx} {k : Nat} {f : Addr} {fd : FuncData} {ps : List Str} {sp : Sp} {E : XK} {x : Str} {p pos : Pos} {e : Expr} {es : List Expr} {t : TA}
theorem pe_callG (F : GFn X.prog X.w X.K X.mg X.base k f fd ps sp) (gd : X.A.guards = some []) (hr : Room k X.A) (hg : Gl X x) (hm : X.mg x = some (.ref f)) (hk : PySem.W.keepIn X.K (.ref f) = true)
    (hb : Binds X.K fd ps []) (hx : Passes CX0 X E)
    (ha : PA X (e :: es) t) (hdb : (x == ("__debug__" : Str)) = false := by decide) (he : starEach (e :: es) X.env = (false, eval e X.env) :: starEach es X.env := by rfl)
    (hpl : (backTo pos (starEach es X.env)).any (·.1) = false := by rfl) :
    PE X (.Call (.Name x p) (e :: es) [] pos) (tCall sp [] E t) := by
  refine ⟨fun pins s σ H Q I h => wpAny_Call_Name_kw (ld_glob I hg hm ?_ hdb)⟩
  have args := ha.run pos pins s σ H _ I h
  refine PySem.W.callWith_K (h₀ := X.base) I.ok.mod.kin hk (thn args fun us s1 h1 => ?_) he hpl
  obtain ⟨vs, H1, I1, r, q⟩ := h1
  refine ⟨I1.kIn, ?_⟩
  have q' : sp vs H1 Q E := by
    have q0 : sp (vs ++ []) H1 Q E := q
    rw [List.append_nil] at q0
    exact q0
  have hl : (us ++ []).length = ps.length := by
    rw [List.append_nil, ← r.length]
    exact F.len _ _ _ _ q'
  have bd := hb s1 us I1.kIn hl
  rw [List.append_nil] at bd
  refine wpAny_call (codeAny_mono (F.run X.A X.stack s1 H1 ⟨us, []⟩ us vs Q E gd hr I1.env0 bd r q') fun res s' hq => ?_)
  match res, hq with
  | .error er, hq => exact hx pins σ H1 s1 er s' I1 hq
  | .ok (.ret u), hq => exact I1.after hq
end

/-! ### the law's own call -/
section
variable {P : Program} {w : World} {K : PySem.W.Frag} {mg mb : Str → Option Value} {k : Nat} {fa a : Addr} {fd : FuncData} {x : Str} {sp : Sp} {s₁ : Shared} {vs : List Value} {ns : List Int}
/-- what the caller of the law wants -/
def Fine (s₀ : Shared) (r : Result) (s' : Shared) : Prop :=
  r = .ok (.ret (.bool true)) ∧ OldK s₀.heap s'.heap ∧ s'.os = s₀.os ∧ AllBare s'.gens
theorem law_core (KX : K.In s₁.heap) (hns : s₁.heap.Ns mainGlobals mg) (hb : s₁.heap.Ns builtinsNs mb) (hbb : ∀ x : Str, x ≠ "__name__" → mb x = bootBuiltins x) (hlim : s₁.heap.NoLimit) (hg : s₁.gens = #[])
    (ha : s₁.heap.get? a = some { cls := .type "list", data := .seq vs.toArray }) (hr : Room k callerA)
    (F : ∀ base : Heap, K.In base → base.Ns mainGlobals mg → GFn P w K mg base k fa fd [x] sp) (hbind : ∀ (s : Shared) (u : Value), BindsTo s fd ⟨[u], []⟩ [(x, u)])
    (H : Hp) (only : Only H) (ok : HOk P w H s₁.heap) (hA : ∀ b, H b ≠ none → b = a) (hK : H a ≠ none → K.lookup a = none)
    (want : sp [.ref a] H (fun v _ => v = .bl true) fun _ _ _ => False) :
    codeAny (model P w) callerA (.call (.ref fa) ⟨[.ref a], []⟩) (Fine s₁) s₁ := by
  have at_a : ∀ {b : Addr} {o : Obj}, s₁.heap.get? b = some o → H b ≠ none → o = { cls := .type "list", data := .seq vs.toArray } := by
    intro b o e n
    rw [hA b n, ha] at e
    exact (Option.some.inj e).symm
  have free : ∀ {b : Addr} {o : Obj} {es : Array DictEntry} {ep : Nat}, s₁.heap.get? b = some o → o.data = .dict es ep → H b = none := by
    intro b o es ep e d
    refine Classical.byContradiction fun n => ?_
    rw [at_a e n] at d
    exact nomatch d
  have keepNs : ∀ {b : Addr} {m : Str → Option Value}, s₁.heap.Ns b m → (hidT s₁.heap H).Ns b m := by
    intro b m z
    obtain ⟨o, es, ep, e, d, r⟩ := z
    exact ⟨o, es, ep, hidT_get e (free e d), d, r⟩
  have KB : K.In (hidT s₁.heap H) := by
    intro b o e
    refine hidT_get (KX b o e) (Classical.byContradiction fun n => ?_)
    have eb := hA b n
    subst eb
    rw [hK n] at e
    cases e
  obtain ⟨mc, lim1, lim2⟩ := hlim
  have M : Mod K mg (hidT s₁.heap H) := ⟨KB, keepNs hns, ⟨mb, keepNs hb, hbb⟩, ⟨mc, keepNs lim1, lim2⟩⟩
  have env : Env0 P w K mg (hidT s₁.heap H) callerA [] s₁ H := by
    refine ⟨rfl, M, fun b o e => of_hidT e, Nat.le_of_eq (hidT_size _ _), trivial, fun b z => ?_, ok, .of_eq hg⟩
    exact absurd (show b ∈ ([] : List Addr) from z) (by simp)
  have run := (F _ KB (keepNs hns)).run callerA [] s₁ H ⟨[.ref a], []⟩ [.ref a] [.ref a] _ _ rfl hr env (hbind s₁ (.ref a)) (.cons rfl .nil) want
  refine codeAny_mono run fun r s' h => ?_
  match r, h with
  | .error e, h => exact False.elim h
  | .ok (.ret u), ⟨v, H', os, bare, un, ok', rv, q⟩ =>
    have q' : v = .bl true := q
    subst q'
    have ru : u = Value.bool true := rv
    subst ru
    refine ⟨rfl, OldK.of_keep fun b o e => ?_, os, bare⟩
    cases hb : H b with
    | none => exact un.keep b o e hb (fun z => absurd (show b ∈ ([] : List Addr) from z) (by simp)) (by simp)
    | some t =>
      cases only b with
      | inl z =>
        rw [hb] at z
        cases z
      | inr z =>
        obtain ⟨ob, xs, z⟩ := z
        have one := (ok b _ z).1
        have two := (ok' b _ (un.frzs b ob _ z)).1
        rw [e] at one
        cases one
        exact two

theorem law_callG (KX : K.In s₁.heap) (hns : s₁.heap.Ns mainGlobals mg) (hb : s₁.heap.Ns builtinsNs mb) (hbb : ∀ x : Str, x ≠ "__name__" → mb x = bootBuiltins x) (hlim : s₁.heap.NoLimit) (hg : s₁.gens = #[])
    (ha : s₁.heap.get? a = some { cls := .type "list", data := .seq vs.toArray }) (hi : IntsAre vs ns) (hl : ns.length ≤ sizeLine) (hr : Room k callerA)
    (F : ∀ base : Heap, K.In base → base.Ns mainGlobals mg → GFn P w K mg base k fa fd [x] sp) (hbind : ∀ (s : Shared) (u : Value), BindsTo s fd ⟨[u], []⟩ [(x, u)])
    (want : ∀ H : Hp, Only H → SqL K H a (ns.map V.int) → sp [.ref a] H (fun v _ => v = .bl true) fun _ _ _ => False) :
    codeAny (model P w) callerA (.call (.ref fa) ⟨[.ref a], []⟩) (Fine s₁) s₁ := by
  have rv := vals_ints hi
  cases hk : K.lookup a with
  | some o =>
    have e := KX a o hk
    rw [ha] at e
    cases e
    have nowhere : ∀ b : Addr, (fun _ => none : Hp) b ≠ none → b = a := fun b z => absurd rfl z
    refine law_core KX hns hb hbb hlim hg ha hr F hbind (fun _ => none) (fun _ => .inl rfl) (fun b u z => nomatch z) nowhere (fun z => absurd rfl z) (want _ (fun _ => .inl rfl) (.inr ?_))
    refine ⟨_, vs.toArray, _, hk, rfl, rfl, rfl, ?_, by simpa using rv⟩
    rw [List.size_toArray, hi.length]
    exact hl
  | none =>
    let H : Hp := upd (fun _ => none) a (.frz { cls := .type "list", data := .seq vs.toArray } (.lst (ns.map V.int)))
    have off : ∀ b, b ≠ a → H b = none := fun b n => upd_ne n
    have on : H a = _ := upd_same
    refine law_core KX hns hb hbb hlim hg ha hr F hbind H (fun b => ?_) (fun b u z => ?_) (fun b z => Classical.byContradiction fun n => z (off b n)) (fun _ => hk) (want H (fun b => ?_) (.inl (.inr ⟨_, on⟩)))
    · by_cases n : b = a
      · subst n
        exact .inr ⟨_, _, on⟩
      · exact .inl (off b n)
    · by_cases n : b = a
      · subst n
        rw [on] at z
        cases z
        refine ⟨ha, ?_, vs, _, rv, ha⟩
        rw [List.length_map]
        exact hl
      · rw [off b n] at z
        cases z
    · by_cases n : b = a
      · subst n
        exact .inr ⟨_, _, on⟩
      · exact .inl (off b n)
end

theorem walkG {l : PySem.W.OpenLaw} {n k : Nat} {q : Program} {loose : List Str} {XP : (Str → Option Value) → Heap → Prop} {YP : World → Heap → Prop} {d : DefRec} {K : Params → PySem.W.Frag} {sp : World → Sp} {x : Str}
    (hn : l.most = some n) (hn2 : n ≤ sizeLine) (hdf : d.params.defaults = []) (hr : Room k callerA) (hY : ∀ (w : World) (h : Heap), YP w h → (K w.params).In h)
    (F : ∀ (w : World) (mg : Str → Option Value) (fa : Addr) (h : Heap), (K w.params).In h → h.Ns mainGlobals mg → mg d.name = some (.ref fa) →
      ∃ fd : FuncData, (∀ (s : Shared) (u : Value), BindsTo s fd ⟨[u], []⟩ [(x, u)]) ∧
        ∀ base : Heap, (K w.params).In base → base.Ns mainGlobals mg → GFn l.prog w (K w.params) mg base k fa fd [x] (sp w))
    (want : ∀ (w : World) (H : Hp) (a : Addr) (ns : List Int), ns.length ≤ n → Only H → SqL (K w.params) H a (ns.map V.int) → sp w [.ref a] H (fun v _ => v = .bl true) fun _ _ _ => False) :
    PySem.W.WalkO q loose XP YP l.row.toRowW d [] (fun f vs => PySem.call f vs) := by
  refine Att.attach_call hn hdf fun w s₀ s₁ mg mb fa o pm cd doc a vs ns G Y ho hd hcd hmg hobj hints hlen hg => ?_
  have KX := hY w _ Y
  obtain ⟨fd, hb, hF⟩ := F w mg fa _ KX G.T.g hmg
  exact law_callG KX G.T.g G.T.b G.T.builtins G.T.nolimit hg hobj hints (Nat.le_trans hlen hn2) hr hF hb (fun H o sq => want w H a ns hlen o sq)
end BP
set_option Elab.async false
set_option linter.all false
set_option maxRecDepth 100000
set_option maxHeartbeats 4000000
/-! Calls by keywords alone. -/
namespace BP
open PySem PySem.Spec PyProof.Rows L2
section
variable {X : Cx} {CX : CXT} {k : Nat} {f : Addr} {fd : FuncData} {ps ks : List Str} {sp : Sp} {E : XK} {x : Str} {p pos : Pos} {kws : List Keyword} {tk : TA} {g : List Value → List Value → List Value} {gV : List V → List V → List V}
theorem pe_callK0 (F : FnOk X.prog X.w X.K X.mg X.base CX k f fd ps sp) (hr : Room k X.A) (hg : Gl X x) (hm : X.mg x = some (.ref f)) (hk : PySem.W.keepIn X.K (.ref f) = true)
    (hb : KBinds X.K fd ps ks g gV) (hx : Passes CX X E) (hkw : PK X kws tk)
    (hall : (backToKw pos (keywordEach kws X.env)).all (·.1.isSome) = true := by rfl)
    (hks : (backToKw pos (keywordEach kws X.env)).filterMap (·.1) = ks := by rfl)
    (hdb : (x == ("__debug__" : Str)) = false := by decide)
    (hpl : ((backTo pos (starEach [] X.env)).any (·.1) || (backToKw pos (keywordEach kws X.env)).any (·.1.isNone)) = false := by rfl) :
    PE X (.Call (.Name x p) [] kws pos) (tCallK sp gV E tNil tk) := by
  refine ⟨fun pins s σ H Q I h => wpAny_Call_Name_kw (ld_glob I hg hm ?_ hdb)⟩
  have run := hkw.run pos pins s σ H _ I h
  refine PySem.W.callWith_KW0 (h₀ := X.base) I.ok.mod.kin hk hall (thn run fun ws s2 hh => ?_) hpl
  obtain ⟨zs, H2, I2, rz, q2⟩ := hh
  refine ⟨I2.kIn, ?_⟩
  rw [hks]
  exact run_fnk (us := []) F hr hb hx I2 .nil rz q2
end
/-- two keywords, the other way round -/
def sw2 {α : Type} : List α → List α → List α
  | [], x :: y :: _ => [y, x]
  | _, _ => []
/-- three keywords: the last two, then the first one -/
def sw3 {α : Type} : List α → List α → List α
  | [], x :: y :: z :: _ => [y, z, x]
  | _, _ => []
/-- three keywords, backwards -/
def rv3 {α : Type} : List α → List α → List α
  | [], x :: y :: z :: _ => [z, y, x]
  | _, _ => []
theorem sw2_rel : ∀ {vs : List V} {us : List Value} {zs : List V} {ws : List Value}, Vals vs us → Vals zs ws → Vals (sw2 vs zs) (sw2 us ws)
  | _, _, _, _, .nil, .cons a (.cons b _) => .cons b (.cons a .nil)
  | _, _, _, _, .nil, .nil => .nil
  | _, _, _, _, .nil, .cons _ .nil => .nil
  | _, _, _, _, .cons _ _, .nil => .nil
  | _, _, _, _, .cons _ _, .cons _ .nil => .nil
  | _, _, _, _, .cons _ _, .cons _ (.cons _ _) => .nil
theorem sw3_rel : ∀ {vs : List V} {us : List Value} {zs : List V} {ws : List Value}, Vals vs us → Vals zs ws → Vals (sw3 vs zs) (sw3 us ws)
  | _, _, _, _, .nil, .cons a (.cons b (.cons c _)) => .cons b (.cons c (.cons a .nil))
  | _, _, _, _, .nil, .nil => .nil
  | _, _, _, _, .nil, .cons _ .nil => .nil
  | _, _, _, _, .nil, .cons _ (.cons _ .nil) => .nil
  | _, _, _, _, .cons _ _, .nil => .nil
  | _, _, _, _, .cons _ _, .cons _ .nil => .nil
  | _, _, _, _, .cons _ _, .cons _ (.cons _ .nil) => .nil
  | _, _, _, _, .cons _ _, .cons _ (.cons _ (.cons _ _)) => .nil
theorem rv3_rel : ∀ {vs : List V} {us : List Value} {zs : List V} {ws : List Value}, Vals vs us → Vals zs ws → Vals (rv3 vs zs) (rv3 us ws)
  | _, _, _, _, .nil, .cons a (.cons b (.cons c _)) => .cons c (.cons b (.cons a .nil))
  | _, _, _, _, .nil, .nil => .nil
  | _, _, _, _, .nil, .cons _ .nil => .nil
  | _, _, _, _, .nil, .cons _ (.cons _ .nil) => .nil
  | _, _, _, _, .cons _ _, .nil => .nil
  | _, _, _, _, .cons _ _, .cons _ .nil => .nil
  | _, _, _, _, .cons _ _, .cons _ (.cons _ .nil) => .nil
  | _, _, _, _, .cons _ _, .cons _ (.cons _ (.cons _ _)) => .nil
section
variable {K : PySem.W.Frag} {x qual : Str} {st : Stmt} {f : Addr} {fd : FuncData}
theorem kb_sw2 {a b : Str} (F : Fun K x qual st f fd)
    (h : ∀ (kV doc pm : Value) (an : Option Addr) (cdv ct u v : Value), bindArgs (PySem.W.fnOf x qual (defArgs st) (defBody st) (defScope st) .none kV doc pm an cdv ct) ⟨[], [(b, u), (a, v)]⟩ = pure [(a, v), (b, u)]) : KBinds K fd [a, b] [b, a] sw2 sw2 := by
  obtain ⟨oc, od, kV, doc, pm, an, cdv, ct, osl, rfl, _⟩ := F.ex
  refine ⟨fun s us ws _ hl => ?_, sw2_rel⟩
  match us, ws, hl with
  | [], u :: v :: r, _ => exact .of_eq (h kV doc pm an cdv ct u v)
theorem kb_sw3 {a b c : Str} (F : Fun K x qual st f fd)
    (h : ∀ (kV doc pm : Value) (an : Option Addr) (cdv ct u v w : Value), bindArgs (PySem.W.fnOf x qual (defArgs st) (defBody st) (defScope st) .none kV doc pm an cdv ct) ⟨[], [(c, u), (a, v), (b, w)]⟩ = pure [(a, v), (b, w), (c, u)]) : KBinds K fd [a, b, c] [c, a, b] sw3 sw3 := by
  obtain ⟨oc, od, kV, doc, pm, an, cdv, ct, osl, rfl, _⟩ := F.ex
  refine ⟨fun s us ws _ hl => ?_, sw3_rel⟩
  match us, ws, hl with
  | [], u :: v :: w :: r, _ => exact .of_eq (h kV doc pm an cdv ct u v w)
theorem kb_rv3 {a b c : Str} (F : Fun K x qual st f fd)
    (h : ∀ (kV doc pm : Value) (an : Option Addr) (cdv ct u v w : Value), bindArgs (PySem.W.fnOf x qual (defArgs st) (defBody st) (defScope st) .none kV doc pm an cdv ct) ⟨[], [(c, u), (b, v), (a, w)]⟩ = pure [(a, w), (b, v), (c, u)]) : KBinds K fd [a, b, c] [c, b, a] rv3 rv3 := by
  obtain ⟨oc, od, kV, doc, pm, an, cdv, ct, osl, rfl, _⟩ := F.ex
  refine ⟨fun s us ws _ hl => ?_, rv3_rel⟩
  match us, ws, hl with
  | [], u :: v :: w :: r, _ => exact .of_eq (h kV doc pm an cdv ct u v w)
end
end BP
set_option Elab.async false
set_option linter.all false
set_option maxRecDepth 100000
set_option maxHeartbeats 4000000
/-! enumerate of a tuple. -/
namespace BP
open PySem PySem.Spec PyProof.Rows L2
theorem meets_enumT {v : Value} {o : Obj} {N : Heap → Prop} (B : Begins v o N) :
    Meets (Builtin.«enumerate.__new__» ⟨[.type "enumerate", v], []⟩) (fun _ R s => N s.heap ∧
      R (.ok (.ret (.ref (s.heap.push o).objs.size))) { s with heap := (s.heap.push o).push { cls := .type "enumerate", data := .fields #[.none, .bool false, .ref s.heap.objs.size, rawInt 0, .none, .none] } }) :=
  .of_wp fun prog w A R s h => by
    obtain ⟨hp, g, d, tk, os⟩ := s
    obtain ⟨h1, h⟩ := h
    have hsub := sub_enumerate
    have q1 : ∀ {A' : Around} {E : Value → Shared → Prop} {Q : Value → Shared → Prop}, Q (.ref hp.objs.size) ⟨hp.push o, g, d, tk, os⟩ → wpAny (model prog w) A' (pyIter v) Q E ⟨hp, g, d, tk, os⟩ := by
      intro A' E Q q
      exact B.iter prog w _ _ ⟨hp, g, d, tk, os⟩ _ h1 q
    wp_walk using q1
    refine wpAny_stack_any fun ss => wpAny_pure ?_
    split
    · rename_i c _ _ _ _ _
      cases (c == Value.type "enumerate")
      · wp_walk using q1
        exact ⟨_, rfl, h⟩
      · wp_walk using q1
        exact ⟨_, rfl, h⟩
    · wp_walk using q1
      exact ⟨_, rfl, h⟩
theorem call_enumT {prog : Program} {w : World} {A : Around} {E : Value → Shared → Prop} {s : Shared} {t : Addr} {items : Array Value} {Q : Value → Shared → Prop} (htup : s.heap.IsTuple t items)
    (h : ∀ g', IsEnum g' (s.heap.objs.size + 1) s.heap.objs.size 0 .none → g'.IsTupleIter s.heap.objs.size t 0 → g'.objs.size = s.heap.objs.size + 2 →
      (∀ b o, s.heap.get? b = some o → g'.get? b = some o) → Q (.ref (s.heap.objs.size + 1)) { s with heap := g' }) :
    wpAny (model prog w) A (call (.type "enumerate") [.ref t]) Q E s := by
  refine callType_new F.called_enumerate (by decide) (F.typeCall_enumerate_1 _) (F.newCall_enumerate_1 _) (fun obj => F.args_object_init_2 obj _) F.entry_enumerate_new (meets_enumT (begins_tuple t items)) ⟨htup, ?_⟩
  have hzz : (s.heap.push { cls := .type "tuple_iterator", data := .fields #[.ref t, .int 0 0] }).objs.size = s.heap.objs.size + 1 := Heap.size_push ..
  show _ ∧ _
  rw [hzz]
  have it0 : (s.heap.push { cls := .type "tuple_iterator", data := .fields #[.ref t, .int 0 0] }).get? s.heap.objs.size = some _ := Heap.get?_push_size _ rfl
  have hee : IsEnum ((s.heap.push { cls := .type "tuple_iterator", data := .fields #[.ref t, .int 0 0] }).push { cls := .type "enumerate", data := .fields #[.none, .bool false, .ref s.heap.objs.size, rawInt 0, .none, .none] }) (s.heap.objs.size + 1) s.heap.objs.size 0 .none := by
    have e := Heap.get?_push_size (s.heap.push { cls := .type "tuple_iterator", data := .fields #[.ref t, .int 0 0] }) (o := { cls := .type "enumerate", data := .fields #[.none, .bool false, .ref s.heap.objs.size, rawInt 0, .none, .none] }) rfl
    rw [hzz] at e
    exact e
  refine ⟨⟨_, hee, rfl⟩, h _ hee ⟨_, Heap.get?_push_of_some _ it0, rfl, rfl⟩ (by rw [Heap.size_push, hzz]) fun b o x => Heap.get?_push_of_some _ (Heap.get?_push_of_some _ x)⟩
/-- the tuple at a as it stands, each item in a new pair -/
def IteT (K : PySem.W.Frag) (a : Addr) : It :=
  ⟨fun i H => ∃ (xs : List V) (x : V), SqT K H a xs ∧ xs[i]? = some x,
   fun i H v H' => ∃ T x, v = .ref T ∧ H T = none ∧ H' = upd H T (.tup [.int (i : Nat), x]) ∧ ∀ xs, SqT K H a xs → xs[i]? = some x,
   fun i H => ∃ xs : List V, SqT K H a xs ∧ xs.length ≤ i⟩
theorem turn_enumT {P : Program} {w : World} {K : PySem.W.Frag} {elts : List Expr} {kk : Nat} {tpos : Pos} (a e it : Addr) (hai : a ≠ it) :
    Turn P w K (.Tuple elts kk tpos) (IteT K a) [e, it] e (fun i h => (∃ od, IsEnum h e it ((i : Nat) : Int) od) ∧ h.IsTupleIter it a i ∧ e ≠ it) where
  mem := by simp
  obj := fun i h ss b hb => by
    obtain ⟨⟨od, hee⟩, ⟨o, hoo, hcc, hdd⟩, _⟩ := ss
    have z : b = e ∨ b = it := by simpa using hb
    cases z with
    | inl z =>
      rw [z]
      exact ⟨_, hee, fun v q => nomatch q⟩
    | inr z =>
      rw [z]
      refine ⟨o, hoo, fun v q => ?_⟩
      rw [hdd] at q
      cases q
  keep := fun i h g' ss k => by
    obtain ⟨⟨od, hee⟩, hin, hnn⟩ := ss
    exact ⟨⟨od, k e (by simp) _ hee⟩, hin.at fun o q => k it (by simp) o q, hnn⟩
  item := by
    intro X hP hw hK hcc i pl0 s σ H E I hfp ss hgo
    subst hP hw hK
    obtain ⟨⟨od, hee⟩, hii, hnn⟩ := ss
    obtain ⟨xs, x, hq, hxx⟩ := hgo
    obtain ⟨ws, rvs, p, hzz⟩ := I.tuple hq
    obtain ⟨u, huu, ruu⟩ := rvs.get hxx
    have helt : e < s.heap.objs.size := Heap.lt_size hee
    have hil : it < s.heap.objs.size := by
      obtain ⟨_, y, _⟩ := hii
      exact Heap.lt_size y
    have hea : e ≠ a := fun z => by
      obtain ⟨o, hoo, hc1, _⟩ := p
      rw [← z, hee] at hoo
      cases hoo
      have h3 : (Value.type "enumerate") = Value.type "tuple" := hc1
      injection h3 with h3
      exact absurd h3 (by decide)
    have hil2 : i < ws.toArray.size := by
      rw [List.size_toArray]
      exact (List.getElem?_eq_some_iff.mp huu).1
    refine wpAny_pyNext_enum_itemD (Draws.tuple (prog := X.prog) (w := X.w) (A := X.A.in1) (I.ok.hd hcc) it a hai ws.toArray) hee ⟨hii, (show s.heap.IsTuple a ws.toArray from p)⟩ hil2 hnn (by simp [hnn, hea]) fun y g' tk hy hoo hst htT hsz hkk => ?_
    have ey : y = u := by
      have e1 : ws[i]? = some y := by simpa using hy
      rw [huu] at e1
      exact (Option.some.inj e1).symm
    subst ey
    refine ⟨_, rfl, wpAny_letOwnedTupleGo_enum (s := { s with heap := g', toks := tk + 1 }) hoo fun h'' he' sb => ?_⟩
    have hT2 := (sb.2 _ (Nat.ne_of_gt helt)).trans htT
    have new : ObjOk X.prog X.w (upd H s.heap.objs.size (.tup [.int (i : Nat), x])) h'' s.heap.objs.size (.tup [.int (i : Nat), x]) :=
      ⟨by show 2 ≤ sizeLine; decide, [.int i tk, y], .cons ⟨_, rfl⟩ (.cons ruu .nil), ⟨_, hT2, rfl, _, rfl⟩⟩
    have far : ∀ b, b ∉ [e, it] → b ≠ e ∧ b ≠ it := fun b hb => ⟨fun z => hb (by simp [z]), fun z => hb (by simp [z])⟩
    have J1 : Inv X pl0 σ (upd H s.heap.objs.size (.tup [.int (i : Nat), x])) { s with heap := h'', toks := tk + 1 } := by
      refine I.turnedNew (ch := [e, it]) (fun b ob hb q => ?_) hfp (Nat.le_refl _) new
      obtain ⟨n1, n2⟩ := far b hb
      exact (sb.2 b n1).trans (hkk b ob n1 n2 q)
    refine ⟨.ref s.heap.objs.size, _, J1, rfl, ⟨_, x, rfl, I.hok.fresh (Nat.le_refl _), rfl, fun ys hy => by rw [I.tuple_inj hy hq]; exact hxx⟩, ⟨⟨y, ?_⟩, hst.1.at fun o q => (sb.2 it (Ne.symm hnn)).trans q, hnn⟩, fun b hb => ?_⟩
    · have e1 : ((i + 1 : Nat) : Int) = (i : Int) + 1 := by omega
      rw [e1]
      exact he'
    · have hb' : b < s.heap.objs.size := by
        have z : b = e ∨ b = it := by simpa using hb
        cases z with
        | inl z => rw [z]; exact helt
        | inr z => rw [z]; exact hil
      rw [upd_ne (Nat.ne_of_lt hb')]
      exact (hfp b hb).1
  done := by
    intro X hP hw hK hcc i pl0 s σ H E I hfp ss hgo
    subst hP hw hK
    obtain ⟨⟨od, hee⟩, hii, hnn⟩ := ss
    obtain ⟨xs, hq, hxx⟩ := hgo
    obtain ⟨ws, rvs, p, hzz⟩ := I.tuple hq
    obtain ⟨f0, f1, f2, f3, f4, f5⟩ := hfp it (by simp)
    have hsq := rvs.length
    have T : s.TypeIs (.ref e) "enumerate" := ⟨_, hee, rfl⟩
    unfold pyNext
    refine wpAny_bind (wpAny_attempt (wpAny_callSpecial?_slot (name := Str.ofString "__next__") T F.slot_enumerate_next
      (wpAny_call_entry F.slot_enumerate_next T F.entry_enumerate_next ?_ (F.args_enumerate_next_1 _))))
    show wpAny _ _ (field (.ref e) 2 >>= _) _ _ _
    refine wpAny_bind (wpAny_field hee rfl (x := .ref it) rfl ?_)
    refine wpAny_bind (wpAny_nextOf_tuple_end (by exact I.ok.hd hcc) hii (show s.heap.IsTuple a ws.toArray from p) (by simp; omega) fun g' x eb hx' => ?_)
    obtain ⟨o, hoo, hcs⟩ := hx'
    refine wpAny_bind (wpAny_isInstance (T := "StopIteration") (b := true) ⟨o, hoo, hcs⟩ isSubtype_stop ?_)
    exact wpAny_pure ⟨rfl, I.turned (t' := s.toks) (fun b o hb q => eb b o hb q) f0 f1 f3 f4 f5⟩
  self := fun A i s Q E ss h => by
    obtain ⟨⟨_, hee⟩, _⟩ := ss
    exact wpAny_pyIter_enum hee h
def iEnumT (K : PySem.W.Frag) (ta : TA) : TI := fun σ H R => ta σ H fun vs H1 => ∃ a xs, vs = [.ref a] ∧ SqT K H1 a xs ∧ R (IteT K a) H1
theorem pi_enumT {X : Cx} {e : Expr} {ta : TA} {p pos tpos : Pos} {elts : List Expr} {kk : Nat} (hgo : Gl X "enumerate") (hmg : X.mg "enumerate" = none) (hargs : PA X [e] ta) (hst : starEach [e] X.env = [(false, eval e X.env)] := by rfl) :
    PI X (.Tuple elts kk tpos) (.Call (.Name "enumerate" p) [e] [] pos) (iEnumT X.K ta) := by
  refine ⟨fun pl0 s σ H R I h => ?_⟩
  refine Call_ (ld_blt I hgo hmg boot_enumerate (PyProof.Rows.callWith_type1 (thn (hargs.run pos pl0 s σ H _ I h) fun us sh1 hh => ?_) hst rfl))
  obtain ⟨vs, H1, J1, r1, a, xs, ex, hq, q⟩ := hh
  subst ex
  cases r1 with
  | cons r rr =>
    cases rr
    cases r
    obtain ⟨ws, rvs, p', hzz⟩ := J1.tuple hq
    have hal : a < sh1.heap.objs.size := by
      obtain ⟨o, hoo, _⟩ := p'
      exact Heap.lt_size hoo
    refine call_enumT (show sh1.heap.IsTuple a ws.toArray from p') fun g' hee hii hsz hkk => wpAny_pyIter_enum hee ?_
    have J2 : Inv X pl0 σ H1 { sh1 with heap := g' } := J1.kept (t' := sh1.toks) hkk
    refine ⟨sh1.heap.objs.size + 1, [sh1.heap.objs.size + 1, sh1.heap.objs.size], _, _, H1, rfl, J2, turn_enumT a (sh1.heap.objs.size + 1) sh1.heap.objs.size (Nat.ne_of_lt hal), ⟨⟨.none, hee⟩, hii, Nat.succ_ne_self _⟩, fun b hb => ?_, q⟩
    have z : b = sh1.heap.objs.size + 1 ∨ b = sh1.heap.objs.size := by simpa using hb
    have hbl : sh1.heap.objs.size ≤ b := by
      cases z with
      | inl z =>
        rw [z]
        exact Nat.le_add_right _ _
      | inr z =>
        rw [z]
        exact Nat.le_refl _
    exact J1.fpOk hbl (J1.hok.fresh hbl)
/-- for k, x in enumerate(t) -/
theorem for_enumT {K : PySem.W.Frag} {a : Addr} {xs : List V} {g : TG} {tb : TS} {D : Ends} {σ : L2.St} {H : Hp} (Inv0 : Nat → L2.St → Hp → Prop) (hst0 : Inv0 0 σ H) (hsq : ∀ i σ H, i ≤ xs.length → Inv0 i σ H → SqT K H a xs)
    (hst : ∀ (i : Nat) (x : V) (σ : L2.St) (H : Hp) (T : Addr), xs[i]? = some x → Inv0 i σ H → H T = none → g (.ref T) σ (upd H T (.tup [.int (i : Nat), x])) fun σ2 H2 => tb { D with nx := Inv0 (i + 1), ct := Inv0 (i + 1), bk := D.nx } σ2 H2)
    (hdd : ∀ σ H, Inv0 xs.length σ H → D.nx σ H) :
    ∃ W : Nat → Nat → L2.St → Hp → Prop, (∃ m, W 0 m σ H) ∧ ∀ i m σ H, W i m σ H →
      ((IteT K a).stop i H ∧ D.nx σ H) ∨ ((IteT K a).go i H ∧ ∃ N : L2.St → Hp → Prop, (∀ σ' H', N σ' H' → ∃ m', m' < m ∧ W (i + 1) m' σ' H') ∧ ∀ x H', (IteT K a).yld i H x H' → g x σ H' fun σ2 H2 => tb { D with nx := N, ct := N, bk := D.nx } σ2 H2) := by
  refine ⟨fun i m σ H => m = xs.length - i ∧ i ≤ xs.length ∧ Inv0 i σ H, ⟨xs.length, by simp, Nat.zero_le _, hst0⟩, ?_⟩
  rintro i m σ H ⟨rfl, hin, p⟩
  have q := hsq i σ H hin p
  by_cases hlt : i < xs.length
  · refine .inr ⟨⟨xs, xs[i], q, by simp [hlt]⟩, Inv0 (i + 1), fun σ' H' p' => ⟨xs.length - (i + 1), by omega, rfl, hlt, p'⟩, fun x H' y => ?_⟩
    obtain ⟨T, z, rfl, nT, rfl, f⟩ := y
    exact hst i z σ H T (f xs q) p nT
  · have e : i = xs.length := by omega
    subst e
    exact .inl ⟨⟨xs, q, Nat.le_refl _⟩, hdd σ H p⟩
end BP
set_option Elab.async false
set_option linter.all false
set_option maxRecDepth 100000
set_option maxHeartbeats 4000000
/-! The numbers of a field as a type of their own, a field in Lean's own sense. No Python here. -/
namespace Fld
def neg (q a : Nat) : Nat := ((List.range q).find? fun b => S q a b == 0).getD 0
def okSum (q : Nat) : Bool := below q fun a => decide (S q a 0 = a) && decide (neg q a < q) && decide (S q a (neg q a) = 0) && (below (neg q a) fun b => decide (S q a b ≠ 0)) &&
  below q fun b => decide (S q a b = S q b a) && below q fun c => decide (S q (S q a b) c = S q a (S q b c))
theorem all_sum : fields.all okSum = true := by decide +kernel
structure El (q : Nat) where
  val : Nat
  lt : val < q
deriving DecidableEq
theorem El.ext {q : Nat} {a b : El q} (h : a.val = b.val) : a = b := by
  cases a
  cases b
  cases h
  rfl
class IsF (q : Nat) : Prop where
  mem : q ∈ fields
section
variable {q : Nat} (h : q ∈ fields)
include h
theorem sum1 {a : Nat} (ha : a < q) : S q a 0 = a ∧ neg q a < q ∧ S q a (neg q a) = 0 ∧ ∀ b, b < neg q a → S q a b ≠ 0 := by
  have t := of_below (List.all_eq_true.mp all_sum q h) ha
  simp only [Bool.and_eq_true, decide_eq_true_eq] at t
  exact ⟨t.1.1.1.1, t.1.1.1.2, t.1.1.2, fun b hb => of_decide_eq_true (of_below t.1.2 hb)⟩
theorem sum3 {a b c : Nat} (ha : a < q) (hb : b < q) (hc : c < q) : S q a b = S q b a ∧ S q (S q a b) c = S q a (S q b c) := by
  have t := of_below (List.all_eq_true.mp all_sum q h) ha
  simp only [Bool.and_eq_true, decide_eq_true_eq] at t
  have u := of_below t.2 hb
  simp only [Bool.and_eq_true, decide_eq_true_eq] at u
  exact ⟨u.1, of_decide_eq_true (of_below u.2 hc)⟩
end
namespace El
variable {q : Nat} [F : IsF q]
def zero : El q := ⟨0, Nat.lt_trans Nat.zero_lt_one (gt1 F.mem)⟩
def one : El q := ⟨1, gt1 F.mem⟩
def add (a b : El q) : El q := ⟨S q a.val b.val, (two F.mem a.lt b.lt).2.1⟩
def mul (a b : El q) : El q := ⟨M q a.val b.val, (two F.mem a.lt b.lt).1⟩
def opp (a : El q) : El q := ⟨neg q a.val, (sum1 F.mem a.lt).2.1⟩
def under (a : El q) : El q := if h : a.val = 0 then zero else ⟨Fld.inv q a.val, (unit F.mem a.lt h).2.2.2.2.1⟩
def nat : Nat → El q
  | 0 => zero
  | n + 1 => add (nat n) one
def npw (a : El q) : Nat → El q
  | 0 => one
  | n + 1 => mul (npw a n) a
def int : Int → El q
  | .ofNat n => nat n
  | .negSucc n => opp (nat (n + 1))
theorem add_zero (a : El q) : add a zero = a := El.ext (sum1 F.mem a.lt).1
theorem add_comm (a b : El q) : add a b = add b a := El.ext (sum3 F.mem a.lt b.lt a.lt).1
theorem add_assoc (a b c : El q) : add (add a b) c = add a (add b c) := El.ext (sum3 F.mem a.lt b.lt c.lt).2
theorem add_opp (a : El q) : add a (opp a) = zero := El.ext (sum1 F.mem a.lt).2.2.1
theorem opp_add (a : El q) : add (opp a) a = zero := by rw [add_comm, add_opp]
theorem mul_comm (a b : El q) : mul a b = mul b a := El.ext (two F.mem a.lt b.lt).2.2.1
theorem mul_one (a : El q) : mul a one = a := El.ext (Fld.one F.mem a.lt).2.2.2
theorem mul_assoc (a b c : El q) : mul (mul a b) c = mul a (mul b c) := El.ext (assoc F.mem a.lt b.lt c.lt)
theorem distrib (a b c : El q) : mul a (add b c) = add (mul a b) (mul a c) := El.ext (three F.mem b.lt c.lt a.lt).1
theorem zero_mul (a : El q) : mul zero a = zero := El.ext (Fld.one F.mem a.lt).1
theorem opp_uniq {a b : El q} (h : add a b = zero) : b = opp a := by
  have e : add (opp a) (add a b) = add (opp a) zero := by rw [h]
  rw [← add_assoc, opp_add, add_zero, add_comm, add_zero] at e
  exact e
theorem opp_zero : opp (zero : El q) = zero := (opp_uniq (add_zero zero)).symm
theorem opp_opp (a : El q) : opp (opp a) = a := (opp_uniq (opp_add a)).symm
theorem int_neg : ∀ i : Int, int (q := q) (-i) = opp (int i)
  | .ofNat 0 => opp_zero.symm
  | .ofNat (n + 1) => rfl
  | .negSucc n => (opp_opp _).symm
theorem zm (a : El q) : mul (opp one) a = opp a := by
  refine opp_uniq ?_
  have e : add a (mul (opp one) a) = mul a (add one (opp one)) := by
    rw [distrib, mul_one, mul_comm a (opp one)]
  rw [e, add_opp, mul_comm, zero_mul]
theorem opp_mul (a b : El q) : mul (opp a) b = opp (mul a b) := by
  rw [← zm a, mul_assoc, zm]
theorem mul_under {a : El q} (h : a ≠ zero) : mul a (under a) = one := by
  have h0 : a.val ≠ 0 := fun z => h (El.ext z)
  unfold under
  rw [dif_neg h0]
  exact El.ext (unit F.mem a.lt h0).2.2.2.2.2.1
instance : Lean.Grind.CommRing (El q) where
  add := add
  mul := mul
  natCast := ⟨nat⟩
  ofNat n := ⟨nat n⟩
  nsmul := ⟨fun n a => mul (nat n) a⟩
  npow := ⟨npw⟩
  neg := opp
  sub a b := add a (opp b)
  intCast := ⟨int⟩
  zsmul := ⟨fun i a => mul (int i) a⟩
  add_zero := add_zero
  add_comm := add_comm
  add_assoc := add_assoc
  mul_assoc := mul_assoc
  mul_one a := by
    show mul a (add zero one) = a
    rw [add_comm, add_zero, mul_one]
  mul_comm := mul_comm
  one_mul a := by
    show mul (add zero one) a = a
    rw [add_comm, add_zero, mul_comm, mul_one]
  left_distrib := distrib
  right_distrib a b c := by
    show mul (add a b) c = add (mul a c) (mul b c)
    rw [mul_comm, distrib, mul_comm c, mul_comm c]
  zero_mul := zero_mul
  mul_zero a := by
    show mul a zero = zero
    rw [mul_comm, zero_mul]
  pow_zero a := by
    show one = add zero one
    rw [add_comm, add_zero]
  pow_succ a n := rfl
  ofNat_succ n := by
    show add (nat n) one = add (nat n) (add zero one)
    rw [add_comm zero, add_zero]
  neg_add_cancel := opp_add
  sub_eq_add_neg a b := rfl
  neg_zsmul i a := by
    show mul (int (-i)) a = opp (mul (int i) a)
    rw [int_neg, opp_mul]
  intCast_neg := int_neg
theorem val_zero : (0 : El q).val = 0 := rfl
theorem val_one : (1 : El q).val = 1 := by
  show S q 0 1 = 1
  rw [(sum3 F.mem (Nat.lt_trans Nat.zero_lt_one (gt1 F.mem)) (gt1 F.mem) (gt1 F.mem)).1]
  exact (sum1 F.mem (gt1 F.mem)).1
theorem one_eq : (1 : El q) = one := El.ext val_one
theorem zero_eq : (0 : El q) = zero := rfl
theorem ne_zero {a : El q} : a ≠ 0 ↔ a.val ≠ 0 := ⟨fun h z => h (El.ext z), fun h z => h (by rw [z]; rfl)⟩
theorem one_ne : (0 : El q) ≠ 1 := fun z => by
  have e := congrArg El.val z
  rw [val_zero, val_one] at e
  cases e
theorem mul_inv {a : El q} (h : a ≠ 0) : a * under a = 1 := (mul_under h).trans one_eq.symm
theorem under_zero : under (0 : El q) = 0 := by
  unfold under
  rw [dif_pos val_zero]
  rfl
theorem inv_inv (a : El q) : under (under a) = a := by
  by_cases h : a = 0
  · rw [h, under_zero, under_zero]
  · have e := mul_inv h
    have h2 : under a ≠ 0 := fun z => by
      rw [z] at e
      exact one_ne (by rw [← e]; grind)
    have e2 := mul_inv h2
    have : a = a * (under a * under (under a)) := by rw [e2]; grind
    grind
def zpw (a : El q) : Int → El q
  | .ofNat n => npw a n
  | .negSucc n => under (npw a (n + 1))
theorem under_one : under (one : El q) = one := by
  have h : (1 : El q) ≠ 0 := fun z => one_ne z.symm
  have e := mul_inv h
  rw [← one_eq]
  have e2 : (1 : El q) * under 1 = under 1 := by grind
  rw [← e2, e]
theorem zpw_neg (a : El q) : ∀ i : Int, zpw a (-i) = under (zpw a i)
  | .ofNat 0 => under_one.symm
  | .ofNat (n + 1) => rfl
  | .negSucc n => (inv_inv _).symm
instance : Lean.Grind.Field (El q) where
  inv := under
  div a b := mul a (under b)
  zpow := ⟨zpw⟩
  div_eq_mul_inv a b := rfl
  zero_ne_one := one_ne
  inv_zero := under_zero
  mul_inv_cancel h := mul_inv h
  zpow_zero a := by
    show one = 1
    exact one_eq.symm
  zpow_succ a n := rfl
  zpow_neg := zpw_neg
example (a b : El q) (h : a ≠ 0) : a * (b / a) = b := by grind
end El
end Fld
set_option Elab.async false
set_option linter.all false
set_option maxRecDepth 100000
set_option maxHeartbeats 4000000
/-! Polynomials of one letter as lists of numbers, straight maps, and rows of pieces as least rows. No Python here. -/
namespace Fld
variable {q : Nat} [F : IsF q]
abbrev Po (q : Nat) := List (El q)
/-- the number of the i-th power -/
def co (f : Po q) (i : Nat) : El q := f.getD i 0
theorem co_nil (i : Nat) : co ([] : Po q) i = 0 := rfl
theorem co_zero (a : El q) (f : Po q) : co (a :: f) 0 = a := rfl
theorem co_succ (a : El q) (f : Po q) (i : Nat) : co (a :: f) (i + 1) = co f i := rfl
theorem co_out {f : Po q} {i : Nat} (h : f.length ≤ i) : co f i = 0 := by
  unfold co
  rw [List.getD_eq_getElem?_getD, List.getElem?_eq_none h]
  rfl
/-- without zeros at the end -/
def trim : Po q → Po q
  | [] => []
  | a :: f => if trim f = [] then (if a = 0 then [] else [a]) else a :: trim f
theorem co_trim : ∀ (f : Po q) (i : Nat), co (trim f) i = co f i
  | [], _ => rfl
  | a :: f, i => by
    have ih := co_trim f
    unfold trim
    by_cases h : trim f = []
    · rw [if_pos h]
      have z : ∀ j, co f j = 0 := fun j => by rw [← ih j, h]; rfl
      by_cases ha : a = 0
      · rw [if_pos ha]
        cases i with
        | zero => rw [co_zero, ha]; rfl
        | succ i => rw [co_succ, z]; rfl
      · rw [if_neg ha]
        cases i with
        | zero => rfl
        | succ i => rw [co_succ, co_succ, z]; rfl
    · rw [if_neg h]
      cases i with
      | zero => rfl
      | succ i => rw [co_succ, co_succ, ih]
theorem trim_nil_iff : ∀ f : Po q, trim f = [] ↔ ∀ i, co f i = 0
  | [] => ⟨fun _ _ => rfl, fun _ => rfl⟩
  | a :: f => by
    have ih := trim_nil_iff f
    unfold trim
    constructor
    · intro h i
      by_cases h1 : trim f = []
      · rw [if_pos h1] at h
        by_cases ha : a = 0
        · cases i with
          | zero => exact ha
          | succ i => exact ih.mp h1 i
        · rw [if_neg ha] at h
          cases h
      · rw [if_neg h1] at h
        cases h
    · intro h
      have h1 : trim f = [] := ih.mpr fun i => h (i + 1)
      rw [if_pos h1, if_pos (show a = 0 from h 0)]
/-- two lists with the same numbers are the same without zeros -/
theorem trim_ext : ∀ {f g : Po q}, (∀ i, co f i = co g i) → trim f = trim g
  | [], g, h => ((trim_nil_iff g).mpr fun i => (h i).symm).symm
  | a :: f, [], h => (trim_nil_iff (a :: f)).mpr h
  | a :: f, b :: g, h => by
    have e : a = b := h 0
    subst e
    have ih : trim f = trim g := trim_ext fun i => h (i + 1)
    unfold trim
    rw [ih]
theorem trim_trim (f : Po q) : trim (trim f) = trim f := trim_ext (co_trim f)
theorem trim_len : ∀ f : Po q, (trim f).length ≤ f.length
  | [] => Nat.le_refl _
  | a :: f => by
    have ih := trim_len f
    unfold trim
    by_cases h : trim f = []
    · rw [if_pos h]
      by_cases ha : a = 0
      · rw [if_pos ha]
        exact Nat.zero_le _
      · rw [if_neg ha]
        exact Nat.succ_le_succ (Nat.zero_le _)
    · rw [if_neg h]
      exact Nat.succ_le_succ ih
theorem trim_of_top : ∀ {f : Po q} {n : Nat}, f.length = n + 1 → co f n ≠ 0 → trim f = f
  | [], _, h, _ => by cases h
  | a :: f, 0, h, h0 => by
    have e : f = [] := List.eq_nil_of_length_eq_zero (Nat.succ.inj h)
    subst e
    unfold trim
    rw [if_pos (show trim ([] : Po q) = [] from rfl), if_neg (show ¬ a = 0 from h0)]
  | a :: f, n + 1, h, h0 => by
    have ih := trim_of_top (f := f) (n := n) (Nat.succ.inj h) h0
    unfold trim
    rw [ih]
    cases f with
    | nil => cases h
    | cons b f => rfl
theorem top_of_trim {f : Po q} (h : trim f = f) {n : Nat} (hl : f.length = n + 1) : co f n ≠ 0 := by
  intro h0
  have key : ∀ (f : Po q) (n : Nat), f.length = n + 1 → co f n = 0 → (trim f).length ≤ n := by
    intro f
    induction f with
    | nil => intro n hl; cases hl
    | cons a f ih =>
      intro n hl h0
      cases n with
      | zero =>
        have e : f = [] := List.eq_nil_of_length_eq_zero (Nat.succ.inj hl)
        subst e
        have ha : a = 0 := h0
        unfold trim
        rw [if_pos (show trim ([] : Po q) = [] from rfl), if_pos ha]
        exact Nat.le_refl _
      | succ n =>
        have l := ih n (Nat.succ.inj hl) h0
        unfold trim
        by_cases h : trim f = []
        · rw [if_pos h]
          by_cases ha : a = 0
          · rw [if_pos ha]
            exact Nat.zero_le _
          · rw [if_neg ha]
            exact Nat.succ_le_succ (Nat.zero_le _)
        · rw [if_neg h]
          exact Nat.succ_le_succ l
  have l := key f n hl h0
  rw [h, hl] at l
  omega
/-- equal, if none has a zero at the end -/
theorem canon_ext {f g : Po q} (hf : trim f = f) (hg : trim g = g) (h : ∀ i, co f i = co g i) : f = g := by
  rw [← hf, ← hg]
  exact trim_ext h

/-! ### sums, multiples -/
def pad : Po q → Po q → Po q
  | [], g => g
  | a :: f, [] => a :: f
  | a :: f, b :: g => (a + b) :: pad f g
theorem co_pad : ∀ (f g : Po q) (i : Nat), co (pad f g) i = co f i + co g i
  | [], g, i => by
    show co g i = 0 + co g i
    grind
  | a :: f, [], i => by
    show co (a :: f) i = co (a :: f) i + 0
    grind
  | a :: f, b :: g, 0 => rfl
  | a :: f, b :: g, i + 1 => co_pad f g i
def pl (f g : Po q) : Po q := trim (pad f g)
theorem co_pl (f g : Po q) (i : Nat) : co (pl f g) i = co f i + co g i := by
  unfold pl
  rw [co_trim, co_pad]
theorem pl_canon (f g : Po q) : trim (pl f g) = pl f g := trim_trim _
def sc (f : Po q) (c : El q) : Po q := trim (f.map fun x => x * c)
theorem co_map (f : Po q) (c : El q) : ∀ i, co (f.map fun x => x * c) i = co f i * c := by
  intro i
  induction f generalizing i with
  | nil =>
    show (0 : El q) = 0 * c
    grind
  | cons a f ih =>
    cases i with
    | zero => rfl
    | succ i => exact ih i
theorem co_sc (f : Po q) (c : El q) (i : Nat) : co (sc f c) i = co f i * c := by
  unfold sc
  rw [co_trim, co_map]
/-- times (e y + k) -/
def ml (g : Po q) (e k : El q) : Po q := pad (g.map fun x => x * k) (0 :: g.map fun x => x * e)
theorem co_ml_zero (g : Po q) (e k : El q) : co (ml g e k) 0 = co g 0 * k := by
  unfold ml
  rw [co_pad, co_map, co_zero]
  grind
theorem co_ml_succ (g : Po q) (e k : El q) (i : Nat) : co (ml g e k) (i + 1) = co g (i + 1) * k + co g i * e := by
  unfold ml
  rw [co_pad, co_map, co_succ, co_map]
/-- f (e y + k), by Horner -/
def sh (e k : El q) : Po q → Po q
  | [] => []
  | a :: f => pad [a] (ml (sh e k f) e k)
theorem co_one_zero (a : El q) : co [a] 0 = a := rfl
theorem co_one_succ (a : El q) (i : Nat) : co [a] (i + 1) = 0 := rfl
theorem co_sh_zero (e k a : El q) (f : Po q) : co (sh e k (a :: f)) 0 = a + co (sh e k f) 0 * k := by
  show co (pad [a] (ml (sh e k f) e k)) 0 = _
  rw [co_pad, co_ml_zero, co_one_zero]
theorem co_sh_succ (e k a : El q) (f : Po q) (i : Nat) : co (sh e k (a :: f)) (i + 1) = co (sh e k f) (i + 1) * k + co (sh e k f) i * e := by
  show co (pad [a] (ml (sh e k f) e k)) (i + 1) = _
  rw [co_pad, co_ml_succ, co_one_succ]
  grind
/-- only the numbers count -/
theorem sh_ext (e k : El q) : ∀ {f g : Po q}, (∀ i, co f i = co g i) → ∀ i, co (sh e k f) i = co (sh e k g) i := by
  have zero : ∀ f : Po q, (∀ i, co f i = 0) → ∀ i, co (sh e k f) i = 0 := by
    intro f
    induction f with
    | nil => intro _ i; rfl
    | cons a f ih =>
      intro h i
      have z := ih fun i => h (i + 1)
      cases i with
      | zero =>
        rw [co_sh_zero, z, show a = 0 from h 0]
        grind
      | succ i =>
        rw [co_sh_succ, z, z]
        grind
  intro f
  induction f with
  | nil =>
    intro g h i
    rw [zero g fun i => (h i).symm]
    rfl
  | cons a f ih =>
    intro g h i
    cases g with
    | nil =>
      rw [zero (a :: f) h]
      rfl
    | cons b g =>
      have z := ih (g := g) fun i => h (i + 1)
      have e0 : a = b := h 0
      cases i with
      | zero => rw [co_sh_zero, co_sh_zero, z, e0]
      | succ i => rw [co_sh_succ, co_sh_succ, z, z]
theorem sh_pad (e k : El q) : ∀ (f g : Po q) (i : Nat), co (sh e k (pad f g)) i = co (sh e k f) i + co (sh e k g) i
  | [], g, i => by
    show co (sh e k g) i = 0 + _
    grind
  | a :: f, [], i => by
    show co (sh e k (a :: f)) i = _ + 0
    grind
  | a :: f, b :: g, 0 => by
    show co (sh e k ((a + b) :: pad f g)) 0 = _
    rw [co_sh_zero, co_sh_zero, co_sh_zero, sh_pad e k f g]
    grind
  | a :: f, b :: g, i + 1 => by
    show co (sh e k ((a + b) :: pad f g)) (i + 1) = _
    rw [co_sh_succ, co_sh_succ, co_sh_succ, sh_pad e k f g, sh_pad e k f g]
    grind
theorem sh_map (e k c : El q) : ∀ (f : Po q) (i : Nat), co (sh e k (f.map fun x => x * c)) i = co (sh e k f) i * c
  | [], i => by
    show (0 : El q) = 0 * c
    grind
  | a :: f, 0 => by
    show co (sh e k (a * c :: f.map fun x => x * c)) 0 = _
    rw [co_sh_zero, co_sh_zero, sh_map e k c f]
    grind
  | a :: f, i + 1 => by
    show co (sh e k (a * c :: f.map fun x => x * c)) (i + 1) = _
    rw [co_sh_succ, co_sh_succ, sh_map e k c f, sh_map e k c f]
    grind
/-- one change of the letter behind another one -/
theorem sh_sh (e k e0 k0 : El q) : ∀ (f : Po q) (i : Nat), co (sh e0 k0 (sh e k f)) i = co (sh (e * e0) (e * k0 + k) f) i
  | [], _ => rfl
  | a :: f, i => by
    have ih := sh_sh e k e0 k0 f
    have one : ∀ j, co (sh e0 k0 [a]) j = co [a] j := by
      intro j
      cases j with
      | zero =>
        rw [co_sh_zero]
        show a + 0 * k0 = a
        grind
      | succ j =>
        rw [co_sh_succ]
        show (0 : El q) * k0 + 0 * e0 = 0
        grind
    have l : ∀ j, co (sh e0 k0 (sh e k (a :: f))) j = co [a] j + co (sh e0 k0 (ml (sh e k f) e k)) j := by
      intro j
      show co (sh e0 k0 (pad [a] (ml (sh e k f) e k))) j = _
      rw [sh_pad, one]
    have m : ∀ j, co (sh e0 k0 (ml (sh e k f) e k)) j = co (sh e0 k0 (sh e k f)) j * k + co (sh e0 k0 (0 :: (sh e k f).map fun x => x * e)) j := by
      intro j
      unfold ml
      rw [sh_pad, sh_map]
    rw [l, m]
    cases i with
    | zero =>
      rw [co_sh_zero, co_sh_zero, sh_map, ih]
      show a + (_ + (0 + _)) = _
      grind
    | succ i =>
      rw [co_sh_succ, co_sh_succ, sh_map, sh_map, ih, ih]
      show (0 : El q) + _ = _
      grind
/-- no number beyond -/
theorem sh_out (e k : El q) : ∀ (f : Po q) (i : Nat), f.length ≤ i → co (sh e k f) i = 0
  | [], _, _ => rfl
  | a :: f, 0, h => by cases h
  | a :: f, i + 1, h => by
    have hl : f.length ≤ i := Nat.le_of_succ_le_succ h
    rw [co_sh_succ, sh_out e k f i hl, sh_out e k f (i + 1) (Nat.le_succ_of_le hl)]
    grind
def epow (e : El q) : Nat → El q
  | 0 => 1
  | n + 1 => epow e n * e
theorem sh_top (e k : El q) : ∀ (f : Po q) (n : Nat), f.length = n + 1 → co (sh e k f) n = co f n * epow e n
  | [], _, h => by cases h
  | a :: f, 0, h => by
    have e0 : f = [] := List.eq_nil_of_length_eq_zero (Nat.succ.inj h)
    subst e0
    rw [co_sh_zero]
    show a + 0 * k = a * 1
    grind
  | a :: f, n + 1, h => by
    have hl : f.length = n + 1 := Nat.succ.inj h
    rw [co_sh_succ, sh_out e k f (n + 1) (by omega), sh_top e k f n hl, co_succ]
    show 0 * k + _ = _ * (epow e n * e)
    grind
theorem epow_ne {e : El q} (h : e ≠ 0) : ∀ n, epow e n ≠ 0
  | 0 => fun z => El.one_ne z.symm
  | n + 1 => fun z => by
    have ih := epow_ne h n
    have z' : epow e n * e = 0 := z
    grind
end Fld
set_option Elab.async false
set_option linter.all false
set_option maxRecDepth 100000
set_option maxHeartbeats 4000000
/-! Straight maps, and rows of pieces that come to least rows. No Python here. -/
namespace Fld
variable {q : Nat} [F : IsF q]
structure Mat (q : Nat) where
  a : El q
  b : El q
  c : El q
  d : El q
  e : El q
  f : El q
deriving DecidableEq
/-- m, then n -/
def thn (m n : Mat q) : Mat q :=
  ⟨n.a * m.a + n.b * m.d, n.a * m.b + n.b * m.e, n.a * m.c + n.b * m.f + n.c, n.d * m.a + n.e * m.d, n.d * m.b + n.e * m.e, n.d * m.c + n.e * m.f + n.f⟩
def same : Mat q := ⟨1, 0, 0, 0, 1, 0⟩
def turn (t : El q) : Mat q := ⟨0, 1, 0, 1, t, 0⟩
def det (m : Mat q) : El q := m.a * m.e - m.b * m.d
theorem Mat.ext' {m n : Mat q} (h1 : m.a = n.a) (h2 : m.b = n.b) (h3 : m.c = n.c) (h4 : m.d = n.d) (h5 : m.e = n.e) (h6 : m.f = n.f) : m = n := by
  cases m
  cases n
  simp only [Mat.mk.injEq]
  exact ⟨h1, h2, h3, h4, h5, h6⟩
theorem thn_assoc (l m n : Mat q) : thn (thn l m) n = thn l (thn m n) := by
  unfold thn
  refine Mat.ext' ?_ ?_ ?_ ?_ ?_ ?_ <;> simp only [] <;> grind
theorem thn_same (m : Mat q) : thn m same = m := by
  unfold thn same
  refine Mat.ext' ?_ ?_ ?_ ?_ ?_ ?_ <;> simp only [] <;> grind
theorem same_thn (m : Mat q) : thn same m = m := by
  unfold thn same
  refine Mat.ext' ?_ ?_ ?_ ?_ ?_ ?_ <;> simp only [] <;> grind
theorem det_thn (m n : Mat q) : det (thn m n) = det m * det n := by
  unfold thn det
  simp only []
  grind
theorem ne_mul {a b : El q} (h : a ≠ 0) (k : b ≠ 0) : a * b ≠ 0 := fun z => by grind
theorem det_ne {m n : Mat q} (h : det m ≠ 0) (k : det n ≠ 0) : det (thn m n) ≠ 0 := by
  rw [det_thn]
  exact ne_mul h k
theorem det_turn (t : El q) : det (turn t) ≠ 0 := by
  unfold det turn
  simp only []
  intro z
  exact El.one_ne (q := q) (by grind)
theorem det_same : det (same : Mat q) ≠ 0 := by
  unfold det same
  simp only []
  intro z
  exact El.one_ne (q := q) (by grind)
/-- d = 0, the others not -/
def Tri (m : Mat q) : Prop := m.d = 0 ∧ m.a ≠ 0 ∧ m.e ≠ 0
theorem Tri.thn {m n : Mat q} (h : Tri m) (k : Tri n) : Tri (thn m n) := by
  obtain ⟨h1, h2, h3⟩ := h
  obtain ⟨k1, k2, k3⟩ := k
  unfold Fld.thn
  refine ⟨?_, ?_, ?_⟩
  · simp only []
    grind
  · simp only []
    intro z
    exact ne_mul k2 h2 (by grind)
  · simp only []
    intro z
    exact ne_mul k3 h3 (by grind)
theorem Tri.det {m : Mat q} (h : Tri m) : det m ≠ 0 := by
  obtain ⟨h1, h2, h3⟩ := h
  unfold Fld.det
  intro z
  exact ne_mul h2 h3 (by grind)
/-- a turn, perhaps none, and a map behind it with d = 0 -/
def tm (l : Mat q) : Option (El q) × Mat q :=
  if l.d = 0 then (none, l) else (some (l.e * El.under l.d), ⟨l.b - l.a * (l.e * El.under l.d), l.a, l.c, 0, l.d, l.f⟩)
def tmap (o : Option (El q)) (b : Mat q) : Mat q := match o with
  | none => b
  | some t => thn (turn t) b
theorem tm_back (l : Mat q) : tmap (tm l).1 (tm l).2 = l := by
  unfold tm
  by_cases h : l.d = 0
  · rw [if_pos h]
    rfl
  · rw [if_neg h]
    have u := El.mul_inv h
    unfold tmap thn turn
    refine Mat.ext' ?_ ?_ ?_ ?_ ?_ ?_ <;> simp only [] <;> grind
theorem tm_tri {l : Mat q} (h : det l ≠ 0) : Tri (tm l).2 := by
  unfold tm
  by_cases h0 : l.d = 0
  · rw [if_pos h0]
    refine ⟨h0, fun z => h ?_, fun z => h ?_⟩
    · unfold det
      rw [h0, z]
      grind
    · unfold det
      rw [h0, z]
      grind
  · rw [if_neg h0]
    have u := El.mul_inv h0
    refine ⟨rfl, fun z => h ?_, h0⟩
    have z' : l.b - l.a * (l.e * El.under l.d) = 0 := z
    unfold det
    grind
theorem tm_tmap {b : Mat q} (h : Tri b) : ∀ o, tm (tmap o b) = (o, b)
  | none => by
    unfold tmap tm
    rw [if_pos h.1]
  | some t => by
    obtain ⟨h1, h2, h3⟩ := h
    have u := El.mul_inv h3
    have e : thn (turn t) b = ⟨b.b, b.a + b.b * t, b.c, b.e, b.e * t, b.f⟩ := by
      unfold thn turn
      refine Mat.ext' ?_ ?_ ?_ ?_ ?_ ?_ <;> simp only [] <;> grind
    show tm (thn (turn t) b) = _
    rw [e]
    unfold tm
    rw [if_neg h3]
    simp only [Prod.mk.injEq, Option.some.injEq]
    refine ⟨by grind, ?_⟩
    refine Mat.ext' ?_ ?_ ?_ ?_ ?_ ?_ <;> simp only [] <;> grind
theorem tmap_thn (o : Option (El q)) (b m : Mat q) : thn (tmap o b) m = tmap o (thn b m) := by
  cases o with
  | none => rfl
  | some t => exact thn_assoc _ _ _
theorem det_tmap {b : Mat q} (h : det b ≠ 0) (o : Option (El q)) : det (tmap o b) ≠ 0 := by
  cases o with
  | none => exact h
  | some t => exact det_ne (det_turn t) h

/-! ### a bend behind a map with d = 0 -/
def ahead (b : Mat q) (f : Po q) : Po q × Mat q :=
  (sc (0 :: 0 :: (trim (sh b.e b.f f)).drop 2) (El.under b.a), ⟨b.a, b.b + co (trim (sh b.e b.f f)) 1, b.c + co (trim (sh b.e b.f f)) 0, 0, b.e, b.f⟩)
theorem co_drop (f : Po q) : ∀ i, co (f.drop 2) i = co f (i + 2) := by
  intro i
  unfold co
  rw [List.getD_eq_getElem?_getD, List.getD_eq_getElem?_getD, List.getElem?_drop, Nat.add_comm]
theorem co_ahead_low (b : Mat q) (f : Po q) : co (ahead b f).1 0 = 0 ∧ co (ahead b f).1 1 = 0 := by
  unfold ahead
  rw [co_sc, co_sc]
  constructor
  · show (0 : El q) * _ = 0
    grind
  · show (0 : El q) * _ = 0
    grind
theorem co_ahead (b : Mat q) (f : Po q) (i : Nat) : co (ahead b f).1 (i + 2) = co (sh b.e b.f f) (i + 2) * El.under b.a := by
  unfold ahead
  rw [co_sc]
  show co ((trim (sh b.e b.f f)).drop 2) i * _ = _
  rw [co_drop, co_trim]
theorem ahead_snd (b : Mat q) (f : Po q) : (ahead b f).2 = ⟨b.a, b.b + co (sh b.e b.f f) 1, b.c + co (sh b.e b.f f) 0, 0, b.e, b.f⟩ := by
  unfold ahead
  rw [co_trim, co_trim]
theorem ahead_canon (b : Mat q) (f : Po q) : trim (ahead b f).1 = (ahead b f).1 := trim_trim _
theorem ahead_tri {b : Mat q} (h : Tri b) (f : Po q) : Tri (ahead b f).2 := ⟨rfl, h.2.1, h.2.2⟩
/-- what a bend is: no zero at the end, no constant, nothing linear -/
def Lo (f : Po q) : Prop := trim f = f ∧ co f 0 = 0 ∧ co f 1 = 0
def IsB (f : Po q) : Prop := Lo f ∧ f ≠ []
theorem ahead_lo (b : Mat q) (f : Po q) : Lo (ahead b f).1 := ⟨ahead_canon b f, co_ahead_low b f⟩
theorem Lo.ext {f g : Po q} (hf : Lo f) (hg : Lo g) (h : ∀ i, co f (i + 2) = co g (i + 2)) : f = g := by
  refine canon_ext hf.1 hg.1 fun i => ?_
  match i with
  | 0 => rw [hf.2.1, hg.2.1]
  | 1 => rw [hf.2.2, hg.2.2]
  | i + 2 => exact h i
theorem Lo.pl {f g : Po q} (hf : Lo f) (hg : Lo g) : Lo (pl f g) := by
  refine ⟨pl_canon f g, ?_, ?_⟩
  · rw [co_pl, hf.2.1, hg.2.1]
    grind
  · rw [co_pl, hf.2.2, hg.2.2]
    grind
theorem nil_of_co {f : Po q} (h : trim f = f) (z : ∀ i, co f i = 0) : f = [] := by
  rw [← h]
  exact (trim_nil_iff f).mpr z
theorem IsB.top {f : Po q} (h : IsB f) : ∃ n, f.length = n + 3 ∧ co f (n + 2) ≠ 0 := by
  obtain ⟨⟨h1, h2, h3⟩, h0⟩ := h
  cases e : f.length with
  | zero => exact absurd (List.eq_nil_of_length_eq_zero e) h0
  | succ n =>
    have t := top_of_trim h1 e
    match n, e, t with
    | 0, e, t => exact absurd h2 t
    | 1, e, t => exact absurd h3 t
    | n + 2, e, t => exact ⟨n, rfl, t⟩
/-- a bend stays one of the same degree -/
theorem ahead_len {b : Mat q} (h : Tri b) {f : Po q} (hf : IsB f) : (ahead b f).1.length = f.length := by
  obtain ⟨n, hl, ht⟩ := hf.top
  have top : co (sh b.e b.f f) (n + 2) ≠ 0 := by
    rw [sh_top b.e b.f f (n + 2) hl]
    exact ne_mul ht (epow_ne h.2.2 _)
  have u : El.under b.a ≠ 0 := fun z => by
    have e := El.mul_inv h.2.1
    rw [z] at e
    exact El.one_ne (by rw [← e]; grind)
  have t2 : co (ahead b f).1 (n + 2) ≠ 0 := by
    rw [co_ahead]
    exact ne_mul top u
  have out : ∀ i, n + 3 ≤ i → co (ahead b f).1 i = 0 := by
    intro i hi
    obtain ⟨j, rfl⟩ : ∃ j, i = j + 2 := ⟨i - 2, by omega⟩
    rw [co_ahead, sh_out b.e b.f f (j + 2) (by omega)]
    grind
  have len1 : n + 2 < (ahead b f).1.length := by
    refine Classical.byContradiction fun z => t2 (co_out (by omega))
  have len2 : (ahead b f).1.length ≤ n + 3 := by
    refine Classical.byContradiction fun z => ?_
    obtain ⟨m, hm⟩ : ∃ m, (ahead b f).1.length = m + 1 := ⟨(ahead b f).1.length - 1, by omega⟩
    exact top_of_trim (ahead_canon b f) hm (out m (by omega))
  omega
theorem ahead_isB {b : Mat q} (h : Tri b) {f : Po q} (hf : IsB f) : IsB (ahead b f).1 := by
  refine ⟨ahead_lo b f, fun z => ?_⟩
  have l := ahead_len h hf
  obtain ⟨n, hl, _⟩ := hf.top
  rw [z, hl] at l
  cases l
/-- one map behind another one -/
theorem ahead_thn {b0 b : Mat q} (h0 : Tri b0) (h : Tri b) (f : Po q) :
    (ahead (thn b0 b) f).1 = (ahead b0 (ahead b f).1).1 ∧ (ahead (thn b0 b) f).2 = thn (ahead b0 (ahead b f).1).2 (ahead b f).2 := by
  obtain ⟨z0, a0, e0⟩ := h0
  obtain ⟨z, a1, e1⟩ := h
  have ua := El.mul_inv a1
  have ua0 := El.mul_inv a0
  -- the change of the letter, in two steps
  have ee : (thn b0 b).e = b.e * b0.e := by
    unfold thn
    simp only []
    grind
  have ef : (thn b0 b).f = b.e * b0.f + b.f := by
    unfold thn
    simp only []
    grind
  have ea : (thn b0 b).a = b.a * b0.a := by
    unfold thn
    simp only []
    grind
  have s1 : ∀ i, co (sh (thn b0 b).e (thn b0 b).f f) i = co (sh b0.e b0.f (sh b.e b.f f)) i := by
    intro i
    rw [ee, ef, sh_sh]
  generalize hp : sh b.e b.f f = p at s1
  have m2 : ∀ i, co (ahead b f).1 (i + 2) = co p (i + 2) * El.under b.a := by
    intro i
    rw [co_ahead, hp]
  have low := co_ahead_low b f
  generalize hm : (ahead b f).1 = m at m2 low
  have parts : ∀ i, co p i = co (pad [co p 0, co p 1] (m.map fun x => x * b.a)) i := by
    intro i
    rw [co_pad, co_map]
    match i with
    | 0 =>
      show co p 0 = co p 0 + co m 0 * b.a
      rw [low.1]
      grind
    | 1 =>
      show co p 1 = co p 1 + co m 1 * b.a
      rw [low.2]
      grind
    | i + 2 =>
      show co p (i + 2) = 0 + co m (i + 2) * b.a
      rw [m2]
      grind
  have s2 : ∀ i, co (sh b0.e b0.f p) i = co (sh b0.e b0.f [co p 0, co p 1]) i + co (sh b0.e b0.f m) i * b.a := by
    intro i
    rw [sh_ext b0.e b0.f parts i, sh_pad, sh_map]
  have t0 : co (sh b0.e b0.f [co p 0, co p 1]) 0 = co p 0 + co p 1 * b0.f := by
    rw [co_sh_zero, co_sh_zero]
    show _ + (_ + 0 * _) * _ = _
    grind
  have t1 : co (sh b0.e b0.f [co p 0, co p 1]) 1 = co p 1 * b0.e := by
    rw [co_sh_succ, co_sh_zero, co_sh_succ]
    show (0 * _ + 0 * _) * _ + (_ + 0 * _) * _ = _
    grind
  have t2 : ∀ i, co (sh b0.e b0.f [co p 0, co p 1]) (i + 2) = 0 := fun i => sh_out _ _ _ _ (by simp)
  have u2 : El.under (b.a * b0.a) = El.under b.a * El.under b0.a := by
    have e := El.mul_inv (ne_mul a1 a0)
    grind
  constructor
  · refine (ahead_lo _ _).ext (ahead_lo _ _) fun i => ?_
    rw [co_ahead, co_ahead, s1, s2, t2, ea, u2]
    grind
  · rw [ahead_snd, ahead_snd, ahead_snd, s1, s1, s2, s2, t0, t1, hp]
    unfold thn
    refine Mat.ext' ?_ ?_ ?_ ?_ ?_ ?_ <;> simp only [] <;> grind
theorem ahead_pl (b : Mat q) (g h : Po q) : (ahead b (pl g h)).1 = pl (ahead b g).1 (ahead b h).1 ∧ (ahead b (pl g h)).2 = (ahead (ahead b g).2 h).2 ∧ (ahead (ahead b g).2 h).1 = (ahead b h).1 := by
  have s : ∀ i, co (sh b.e b.f (pl g h)) i = co (sh b.e b.f g) i + co (sh b.e b.f h) i := by
    intro i
    rw [← sh_pad]
    refine sh_ext _ _ (fun j => ?_) i
    rw [co_pl, co_pad]
  refine ⟨(ahead_lo _ _).ext ((ahead_lo _ _).pl (ahead_lo _ _)) fun i => ?_, ?_, ?_⟩
  · rw [co_pl, co_ahead, co_ahead, co_ahead, s]
    grind
  · rw [ahead_snd, ahead_snd, ahead_snd, s, s]
    refine Mat.ext' ?_ ?_ ?_ ?_ ?_ ?_ <;> simp only [] <;> grind
  · rw [ahead_snd]
    rfl
theorem ahead_nil {b : Mat q} (h : b.d = 0) : (ahead b []).1 = [] ∧ (ahead b []).2 = b := by
  constructor
  · refine nil_of_co (ahead_canon b _) fun i => ?_
    match i with
    | 0 => exact (co_ahead_low b _).1
    | 1 => exact (co_ahead_low b _).2
    | i + 2 =>
      rw [co_ahead]
      show (0 : El q) * _ = 0
      grind
  · rw [ahead_snd]
    show (⟨b.a, b.b + 0, b.c + 0, 0, b.e, b.f⟩ : Mat q) = b
    refine Mat.ext' ?_ ?_ ?_ ?_ ?_ ?_ <;> simp only [] <;> grind
theorem ahead_ne {b : Mat q} (h : Tri b) {f : Po q} (hf : Lo f) (z : (ahead b f).1 = []) : f = [] := by
  refine Classical.byContradiction fun n => ?_
  exact (ahead_isB h ⟨hf, n⟩).2 z

/-! ### states -/
structure Sta (q : Nat) where
  st : List (Option (El q) × Po q)
  last : Mat q
inductive Pc (q : Nat) where
  | mat (m : Mat q)
  | bd (f : Po q)
def put (s : Sta q) (f : Po q) : Sta q := match (tm s.last).1, s.st with
  | none, (t, g) :: r => if pl g (ahead (tm s.last).2 f).1 = [] then ⟨r, tmap t (ahead (tm s.last).2 f).2⟩ else ⟨(t, pl g (ahead (tm s.last).2 f).1) :: r, (ahead (tm s.last).2 f).2⟩
  | n, r => ⟨(n, (ahead (tm s.last).2 f).1) :: r, (ahead (tm s.last).2 f).2⟩
def act (s : Sta q) : Pc q → Sta q
  | .mat m => ⟨s.st, thn s.last m⟩
  | .bd f => put s f
def run (s : Sta q) (l : List (Pc q)) : Sta q := l.foldl act s
def empty : Sta q := ⟨[], same⟩
def tp : Option (El q) → List (Pc q)
  | none => []
  | some t => [.mat (turn t)]
def rowSt : List (Option (El q) × Po q) → List (Pc q)
  | [] => []
  | (t, g) :: r => rowSt r ++ tp t ++ [.bd g]
theorem rowSt_cons (t : Option (El q)) (g : Po q) (r : List (Option (El q) × Po q)) : rowSt ((t, g) :: r) = rowSt r ++ tp t ++ [.bd g] := rfl
def rowOf (s : Sta q) : List (Pc q) := rowSt s.st ++ [.mat s.last]
def Good : List (Option (El q) × Po q) → Prop
  | [] => True
  | (t, g) :: r => IsB g ∧ (r ≠ [] → t ≠ none) ∧ Good r
def Okay (s : Sta q) : Prop := Good s.st ∧ det s.last ≠ 0
def PcOk : Pc q → Prop
  | .mat m => det m ≠ 0
  | .bd f => IsB f
theorem run_app (s : Sta q) (l m : List (Pc q)) : run s (l ++ m) = run (run s l) m := List.foldl_append
theorem put_push {s : Sta q} {f : Po q} (h : (tm s.last).1 ≠ none ∨ s.st = []) : put s f = ⟨((tm s.last).1, (ahead (tm s.last).2 f).1) :: s.st, (ahead (tm s.last).2 f).2⟩ := by
  unfold put
  split
  · rename_i t g r e1 e2
    rcases h with h | h
    · exact absurd e1 h
    · rw [e2] at h
      cases h
  · rename_i e1
    rfl
theorem put_add {s : Sta q} {f : Po q} {t : Option (El q)} {g : Po q} {r : List (Option (El q) × Po q)} (h : (tm s.last).1 = none) (e : s.st = (t, g) :: r) :
    put s f = if pl g (ahead (tm s.last).2 f).1 = [] then ⟨r, tmap t (ahead (tm s.last).2 f).2⟩ else ⟨(t, pl g (ahead (tm s.last).2 f).1) :: r, (ahead (tm s.last).2 f).2⟩ := by
  unfold put
  rw [h, e]
theorem put_ok {s : Sta q} (hs : Okay s) {f : Po q} (hf : IsB f) : Okay (put s f) := by
  obtain ⟨g0, d0⟩ := hs
  have tri := tm_tri d0
  have at' := ahead_tri tri f
  have ab := ahead_isB tri hf
  by_cases h : (tm s.last).1 ≠ none ∨ s.st = []
  · rw [put_push h]
    refine ⟨⟨ab, fun n => ?_, g0⟩, at'.det⟩
    rcases h with h | h
    · exact h
    · exact absurd h n
  · have h1 : (tm s.last).1 = none := Classical.byContradiction fun z => h (.inl z)
    cases e : s.st with
    | nil => exact absurd (.inr e) h
    | cons p r =>
      obtain ⟨t, g⟩ := p
      rw [put_add h1 e]
      rw [e] at g0
      obtain ⟨b0, n0, r0⟩ := g0
      by_cases z : pl g (ahead (tm s.last).2 f).1 = []
      · rw [if_pos z]
        exact ⟨r0, det_tmap at'.det t⟩
      · rw [if_neg z]
        exact ⟨⟨⟨b0.1.pl ab.1, z⟩, n0, r0⟩, at'.det⟩
theorem act_ok {s : Sta q} (hs : Okay s) : ∀ {p : Pc q}, PcOk p → Okay (act s p)
  | .mat m, h => ⟨hs.1, det_ne hs.2 h⟩
  | .bd f, h => put_ok hs h
theorem run_ok : ∀ {l : List (Pc q)} {s : Sta q}, Okay s → (∀ p ∈ l, PcOk p) → Okay (run s l)
  | [], _, hs, _ => hs
  | p :: l, s, hs, h => run_ok (l := l) (act_ok hs (h p (List.mem_cons_self ..))) fun x hx => h x (List.mem_cons_of_mem _ hx)
/-- a map and then a bend: the bend and then the map -/
theorem put_mat {s : Sta q} (hs : Okay s) {b : Mat q} (hb : Tri b) (f : Po q) : put (act s (.mat b)) f = act (put s (ahead b f).1) (.mat (ahead b f).2) := by
  have tri := tm_tri hs.2
  have e : tm (thn s.last b) = ((tm s.last).1, thn (tm s.last).2 b) := by
    have h := tm_tmap (tri.thn hb) (tm s.last).1
    rw [← tmap_thn, tm_back] at h
    exact h
  obtain ⟨a1, a2⟩ := ahead_thn tri hb f
  show put ⟨s.st, thn s.last b⟩ f = _
  by_cases h : (tm s.last).1 ≠ none ∨ s.st = []
  · rw [put_push (s := ⟨s.st, thn s.last b⟩) (by rw [e]; exact h), put_push h]
    simp only []
    rw [e]
    simp only []
    rw [a1, a2]
    rfl
  · have h1 : (tm s.last).1 = none := Classical.byContradiction fun z => h (.inl z)
    cases es : s.st with
    | nil => exact absurd (.inr es) h
    | cons p r =>
      obtain ⟨t, g⟩ := p
      rw [put_add (s := ⟨(t, g) :: r, thn s.last b⟩) (by rw [e]; exact h1) rfl, put_add h1 es]
      simp only []
      rw [e]
      simp only []
      rw [a1, a2]
      by_cases z : pl g (ahead (tm s.last).2 (ahead b f).1).1 = []
      · rw [if_pos z, if_pos z]
        show _ = (⟨r, thn (tmap t _) _⟩ : Sta q)
        rw [tmap_thn]
      · rw [if_neg z, if_neg z]
        rfl
theorem pl_nil_left {g : Po q} (h : trim g = g) : pl [] g = g := h
theorem pl_assoc (f g h : Po q) : pl (pl f g) h = pl f (pl g h) := by
  refine canon_ext (pl_canon _ _) (pl_canon _ _) fun i => ?_
  rw [co_pl, co_pl, co_pl, co_pl]
  grind
theorem pl_nil_right {g : Po q} (h : trim g = g) : pl g [] = g := by
  refine canon_ext (pl_canon _ _) h fun i => ?_
  rw [co_pl, co_nil]
  grind
/-- two bends are their sum -/
theorem put_put {s : Sta q} (hs : Okay s) {g h : Po q} (hg : IsB g) (hh : IsB h) : put (put s g) h = if pl g h = [] then s else put s (pl g h) := by
  have tri := tm_tri hs.2
  obtain ⟨p1, p2, p3⟩ := ahead_pl (tm s.last).2 g h
  have tg := ahead_tri tri g
  have tmg : tm (ahead (tm s.last).2 g).2 = (none, (ahead (tm s.last).2 g).2) := tm_tmap tg none
  have tmt : ∀ t, tm (tmap t (ahead (tm s.last).2 g).2) = (t, (ahead (tm s.last).2 g).2) := fun t => tm_tmap tg t
  have ig := ahead_isB tri hg
  have ih := ahead_isB tri hh
  have back : pl g h = [] → (ahead (ahead (tm s.last).2 g).2 h).2 = (tm s.last).2 := fun z => by
    rw [← p2, z, (ahead_nil tri.1).2]
  have zz : pl (ahead (tm s.last).2 g).1 (ahead (tm s.last).2 h).1 = [] ↔ pl g h = [] := by
    rw [← p1]
    constructor
    · intro z
      exact ahead_ne tri (hg.1.pl hh.1) z
    · intro z
      rw [z, (ahead_nil tri.1).1]
  by_cases c : (tm s.last).1 ≠ none ∨ s.st = []
  · rw [put_push c]
    rw [put_add (t := (tm s.last).1) (g := (ahead (tm s.last).2 g).1) (r := s.st) (by rw [tmg]) rfl]
    simp only []
    rw [tmg]
    simp only []
    rw [p3]
    by_cases z : pl g h = []
    · rw [if_pos (zz.mpr z), if_pos z, back z, tm_back]
    · rw [if_neg (fun y => z (zz.mp y)), if_neg z, put_push c, p1, p2]
  · have h1 : (tm s.last).1 = none := Classical.byContradiction fun z => c (.inl z)
    cases es : s.st with
    | nil => exact absurd (.inr es) c
    | cons p r =>
      obtain ⟨t, g0⟩ := p
      have gd := hs.1
      rw [es] at gd
      obtain ⟨b0, n0, r0⟩ := gd
      have l0 : s = ⟨(t, g0) :: r, tmap none (tm s.last).2⟩ := by
        have e := tm_back s.last
        rw [h1] at e
        rw [e, ← es]
      rw [put_add h1 es]
      -- the direct way
      have direct : pl g h ≠ [] → put s (pl g h) = if pl (pl g0 (ahead (tm s.last).2 g).1) (ahead (tm s.last).2 h).1 = [] then ⟨r, tmap t (ahead (ahead (tm s.last).2 g).2 h).2⟩ else ⟨(t, pl (pl g0 (ahead (tm s.last).2 g).1) (ahead (tm s.last).2 h).1) :: r, (ahead (ahead (tm s.last).2 g).2 h).2⟩ := by
        intro _
        rw [put_add h1 es, p1, p2, pl_assoc]
      have none_way : pl g h = [] → pl (pl g0 (ahead (tm s.last).2 g).1) (ahead (tm s.last).2 h).1 = g0 := by
        intro z
        rw [pl_assoc, zz.mpr z, pl_nil_right b0.1.1]
      by_cases z1 : pl g0 (ahead (tm s.last).2 g).1 = []
      · rw [if_pos z1]
        have e2 : pl (pl g0 (ahead (tm s.last).2 g).1) (ahead (tm s.last).2 h).1 = (ahead (tm s.last).2 h).1 := by
          rw [z1]
          exact ih.1.1
        have c2 : (tm (tmap t (ahead (tm s.last).2 g).2)).1 ≠ none ∨ r = [] := by
          rw [tmt]
          by_cases hr : r = []
          · exact .inr hr
          · exact .inl (n0 hr)
        rw [put_push (s := ⟨r, tmap t (ahead (tm s.last).2 g).2⟩) c2]
        simp only []
        rw [tmt]
        simp only []
        rw [p3]
        by_cases z : pl g h = []
        · rw [if_pos z]
          have e3 := none_way z
          rw [e2] at e3
          rw [e3, back z]
          rw [l0]
          simp only [tmap]
          rw [show tm (tm s.last).2 = (none, (tm s.last).2) from tm_tmap tri none]
        · rw [if_neg z, direct z, e2, if_neg ih.2]
      · rw [if_neg z1]
        rw [put_add (s := ⟨(t, pl g0 (ahead (tm s.last).2 g).1) :: r, (ahead (tm s.last).2 g).2⟩) (by rw [tmg]) rfl]
        simp only []
        rw [tmg]
        simp only []
        rw [p3]
        by_cases z : pl g h = []
        · rw [if_pos z, none_way z, if_neg b0.2, back z]
          exact l0.symm
        · rw [if_neg z, direct z]
theorem run_tp (s : Sta q) (t : Option (El q)) (m : Mat q) : act (run s (tp t)) (.mat m) = act s (.mat (tmap t m)) := by
  cases t with
  | none => rfl
  | some t =>
    show (⟨s.st, thn (thn s.last (turn t)) m⟩ : Sta q) = ⟨s.st, thn s.last (thn (turn t) m)⟩
    rw [thn_assoc]
theorem rowSt_ok : ∀ {r : List (Option (El q) × Po q)}, Good r → ∀ p ∈ rowSt r, PcOk p
  | [], _, p, hp => by cases hp
  | (t, g) :: r, ⟨h1, h2, h3⟩, p, hp => by
    rcases List.mem_append.mp hp with hp | hp
    · rcases List.mem_append.mp hp with hp | hp
      · exact rowSt_ok h3 p hp
      · cases t with
        | none => cases hp
        | some t =>
          rw [List.mem_singleton.mp hp]
          exact det_turn t
    · rw [List.mem_singleton.mp hp]
      exact h1
theorem tp_ok (t : Option (El q)) : ∀ p ∈ tp t, PcOk p := by
  intro p hp
  cases t with
  | none => cases hp
  | some t =>
    rw [List.mem_singleton.mp hp]
    exact det_turn t
/-- THE LEAST ROW DOES THE SAME: behind any state -/
theorem run_act {s t : Sta q} (hs : Okay s) (ht : Okay t) : ∀ {p : Pc q}, PcOk p → run s (rowOf (act t p)) = act (run s (rowOf t)) p
  | .mat m, _ => by
    unfold rowOf
    rw [run_app, run_app]
    show (⟨(run s (rowSt t.st)).st, thn (run s (rowSt t.st)).last (thn t.last m)⟩ : Sta q) = ⟨(run s (rowSt t.st)).st, thn (thn (run s (rowSt t.st)).last t.last) m⟩
    rw [thn_assoc]
  | .bd f, hf => by
    have tri := tm_tri ht.2
    have r1 : run s (rowOf t) = act (run s (rowSt t.st)) (.mat t.last) := by
      unfold rowOf
      rw [run_app]
      rfl
    -- what is left to do behind the bends of t
    have key : ∀ u : Sta q, Okay u → act (act u (.mat t.last)) (.bd f) = act (act (run u (tp (tm t.last).1)) (.bd (ahead (tm t.last).2 f).1)) (.mat (ahead (tm t.last).2 f).2) := by
      intro u hu
      have e : act u (.mat t.last) = act (run u (tp (tm t.last).1)) (.mat (tm t.last).2) := by
        rw [run_tp, tm_back]
      rw [e]
      exact put_mat (run_ok hu (tp_ok _)) tri f
    have okR : Okay (run s (rowSt t.st)) := run_ok hs (rowSt_ok ht.1)
    rw [r1, key _ okR]
    show run s (rowOf (put t f)) = _
    by_cases c : (tm t.last).1 ≠ none ∨ t.st = []
    · rw [put_push c]
      unfold rowOf
      rw [rowSt_cons]
      rw [run_app, run_app, run_app]
      rfl
    · have h1 : (tm t.last).1 = none := Classical.byContradiction fun z => c (.inl z)
      cases es : t.st with
      | nil => exact absurd (.inr es) c
      | cons p r =>
        obtain ⟨t0, g0⟩ := p
        rw [put_add h1 es, h1]
        have gd := ht.1
        rw [es] at gd
        obtain ⟨b0, n0, r0⟩ := gd
        have okr : Okay (run s (rowSt r)) := run_ok hs (rowSt_ok r0)
        have ok2 : Okay (run (run s (rowSt r)) (tp t0)) := run_ok okr (tp_ok _)
        have e1 : run s (rowSt ((t0, g0) :: r)) = act (run (run s (rowSt r)) (tp t0)) (.bd g0) := by
          rw [rowSt_cons]
          rw [run_app, run_app]
          rfl
        have e2 : act (run (run s (rowSt ((t0, g0) :: r))) (tp none)) (.bd (ahead (tm t.last).2 f).1) = put (put (run (run s (rowSt r)) (tp t0)) g0) (ahead (tm t.last).2 f).1 := by
          rw [e1]
          rfl
        rw [e2, put_put ok2 b0 (ahead_isB tri hf)]
        by_cases z : pl g0 (ahead (tm t.last).2 f).1 = []
        · rw [if_pos z, if_pos z, run_tp]
          unfold rowOf
          rw [run_app]
          rfl
        · rw [if_neg z, if_neg z]
          unfold rowOf
          rw [rowSt_cons]
          rw [run_app, run_app, run_app]
          rfl
theorem run_empty {s : Sta q} : run s (rowOf empty) = s := by
  show (⟨s.st, thn s.last same⟩ : Sta q) = s
  rw [thn_same]
theorem empty_ok : Okay (empty : Sta q) := ⟨trivial, det_same⟩
/-- a row, and the row of its step -/
theorem run_run {s : Sta q} (hs : Okay s) {l : List (Pc q)} (hl : ∀ p ∈ l, PcOk p) : run s (rowOf (run empty l)) = run s l := by
  have gen : ∀ (l : List (Pc q)) (t : Sta q), Okay t → (∀ p ∈ l, PcOk p) → run s (rowOf (run t l)) = run (run s (rowOf t)) l := by
    intro l
    induction l with
    | nil => intro t _ _; rfl
    | cons p l ih =>
      intro t ht hl
      show run s (rowOf (run (act t p) l)) = run (act (run s (rowOf t)) p) l
      rw [ih _ (act_ok ht (hl p (List.mem_cons_self ..))) fun x hx => hl x (List.mem_cons_of_mem _ hx), run_act hs ht (hl p (List.mem_cons_self ..))]
  rw [gen l empty empty_ok hl, run_empty]
end Fld
set_option Elab.async false
set_option linter.all false
set_option maxRecDepth 100000
set_option maxHeartbeats 4000000
/-! Data over the layer: lists of numbers, lists of such lists, written tables, the deck of a law's draws. -/
namespace BP
open PySem PySem.Spec PyProof.Rows L2

/-! ### numbers as values -/
abbrev iv (ns : List Nat) : List V := ns.map fun n => V.int (n : Nat)
abbrev dat (ns : List Int) : PyData := .list (ns.map PyData.int)
abbrev datN (ns : List Nat) : PyData := .list (ns.map fun n => PyData.int (n : Nat))
abbrev datR (rows : List (List Nat)) : PyData := .list (rows.map datN)
theorem dpAll_ints {K : PySem.W.Frag} {H : Hp} : ∀ ns : List Int, DpAll K H (ns.map V.int) (ns.map PyData.int)
  | [] => .nil
  | n :: r => .cons (.int n) (dpAll_ints r)
theorem dpAll_nats {K : PySem.W.Frag} {H : Hp} : ∀ ns : List Nat, DpAll K H (iv ns) (ns.map fun n => PyData.int (n : Nat))
  | [] => .nil
  | n :: r => .cons (.int (n : Nat)) (dpAll_nats r)
theorem dp_ints {K : PySem.W.Frag} {H : Hp} {a : Addr} {ns : List Int} (h : SqL K H a (ns.map V.int)) : Dp K H (.ref a) (dat ns) := .lst h (dpAll_ints ns)
theorem dp_nats {K : PySem.W.Frag} {H : Hp} {a : Addr} {ns : List Nat} (h : SqL K H a (iv ns)) : Dp K H (.ref a) (datN ns) := .lst h (dpAll_nats ns)
theorem canLay_ints : ∀ ns : List Int, PyData.canLayAll0 (ns.map PyData.int) = true
  | [] => by simp [PyData.canLayAll0]
  | n :: r => by simp [PyData.canLayAll0, PyData.canLay0, canLay_ints r]
theorem depth_ints : ∀ ns : List Int, PyData.depthAll (ns.map PyData.int) = 0
  | [] => by simp [PyData.depthAll]
  | n :: r => by simp [PyData.depthAll, PyData.depth, depth_ints r]
theorem shaped_ints (ns : List Int) : SeqAt.shaped (dat ns) = true := by
  unfold SeqAt.shaped dat
  simp [PyData.canLay0, canLay_ints, PyData.depth, depth_ints]
theorem shaped_nats (ns : List Nat) : SeqAt.shaped (datN ns) = true := by
  have e : datN ns = dat (ns.map fun (n : Nat) => (n : Int)) := by
    unfold datN dat
    rw [List.map_map]
    rfl
  rw [e]
  exact shaped_ints _
theorem eqv_nil (ns : List Int) : PyData.eqv (dat ns) (dat []) = ns.isEmpty := by
  cases ns with
  | nil => simp [PyData.eqv, PyData.eqvAll]
  | cons n r => simp [PyData.eqv, PyData.eqvAll]
theorem eqvAll_refl : ∀ ns : List Nat, PyData.eqvAll (ns.map fun n => PyData.int (n : Nat)) (ns.map fun n => PyData.int (n : Nat)) = true
  | [] => by simp [PyData.eqvAll]
  | n :: r => by simp [PyData.eqvAll, PyData.eqv, eqvAll_refl r]
theorem eqv_refl_nats (ns : List Nat) : PyData.eqv (datN ns) (datN ns) = true := by
  unfold datN
  simp [PyData.eqv, eqvAll_refl]

/-! ### heaps -/
theorem same_new {H : Hp} {p : Addr} {o : HO} (h : H p = none) : Same H (upd H p o) := fun b x e => by
  rw [upd_ne (ne_of_none e h)]
  exact e
/-- all stands as it stood, but what is at d and at c -/
def But (d c : Addr) (H H' : Hp) : Prop := ∀ b x, b ≠ d → b ≠ c → H b = some x → H' b = some x
theorem But.of {d c : Addr} {H H' : Hp} (h : Same H H') : But d c H H' := fun b x _ _ e => h b x e
theorem But.refl {d c : Addr} {H : Hp} : But d c H H := fun b x _ _ e => e
theorem But.trans {d c : Addr} {H H' H'' : Hp} (h : But d c H H') (k : But d c H' H'') : But d c H H'' := fun b x n m e => k b x n m (h b x n m e)

/-- at D a list of lists of numbers, none of them at c -/
def Rows (c : Addr) (H : Hp) (D : Addr) (rows : List (List Nat)) : Prop :=
  ∃ ps : List Addr, D ≠ c ∧ (∀ p ∈ ps, p ≠ c) ∧ H D = some (.lst (ps.map V.ref)) ∧ ps.length = rows.length ∧ ∀ (i : Nat) (p : Addr) (r : List Nat), ps[i]? = some p → rows[i]? = some r → H p = some (.lst (iv r))
theorem Rows.same {c : Addr} {H H' : Hp} {D : Addr} {rows : List (List Nat)} (h : Rows c H D rows) (s : Same H H') : Rows c H' D rows := by
  obtain ⟨ps, n1, n2, h1, h2, h3⟩ := h
  exact ⟨ps, n1, n2, s _ _ h1, h2, fun i p r a b => s _ _ (h3 i p r a b)⟩
theorem dpAll_rows {K : PySem.W.Frag} {H : Hp} : ∀ (ps : List Addr) (rows : List (List Nat)), ps.length = rows.length → (∀ (i : Nat) (p : Addr) (r : List Nat), ps[i]? = some p → rows[i]? = some r → H p = some (.lst (iv r))) → DpAll K H (ps.map V.ref) (rows.map datN)
  | [], [], _, _ => .nil
  | p :: ps, r :: rows, hl, h => by
    refine .cons (dp_nats (.inl (.inl (h 0 p r rfl rfl)))) (dpAll_rows ps rows (by simpa using hl) fun i p' r' a b => ?_)
    exact h (i + 1) p' r' (by simpa using a) (by simpa using b)
  | [], _ :: _, hl, _ => by simp at hl
  | _ :: _, [], hl, _ => by simp at hl
theorem Rows.dp {K : PySem.W.Frag} {c : Addr} {H : Hp} {D : Addr} {rows : List (List Nat)} (h : Rows c H D rows) : Dp K H (.ref D) (datR rows) := by
  obtain ⟨ps, _, _, h1, h2, h3⟩ := h
  exact .lst (.inl (.inl h1)) (dpAll_rows ps rows h2 h3)
/-- one row is read -/
theorem Rows.row {c : Addr} {H : Hp} {D : Addr} {rows : List (List Nat)} (h : Rows c H D rows) {i : Nat} {r : List Nat} (e : rows[i]? = some r) : ∃ (ps : List Addr) (p : Addr), H D = some (.lst (ps.map V.ref)) ∧ (ps.map V.ref)[i]? = some (.ref p) ∧ H p = some (.lst (iv r)) := by
  obtain ⟨ps, _, _, h1, h2, h3⟩ := h
  have hi : i < ps.length := by
    rw [h2]
    exact (List.getElem?_eq_some_iff.mp e).1
  refine ⟨ps, ps[i], h1, ?_, h3 i _ r (List.getElem?_eq_getElem hi) e⟩
  rw [List.getElem?_map, List.getElem?_eq_getElem hi]
  rfl
/-- the table of f over the numbers below q -/
def tab (f : Nat → Nat → Nat) (q : Nat) : List (List Nat) := (List.range q).map fun a => (List.range q).map (f a)
theorem tab_row {f : Nat → Nat → Nat} {q a : Nat} (h : a < q) : (tab f q)[a]? = some ((List.range q).map (f a)) := by
  unfold tab
  rw [List.getElem?_map, List.getElem?_range h]
  rfl
theorem iv_at {f : Nat → Nat} {q b : Nat} (h : b < q) : (iv ((List.range q).map f))[b]? = some (.int (f b : Nat)) := by
  unfold iv
  rw [List.getElem?_map, List.getElem?_map, List.getElem?_range h]
  rfl

/-! ### written tables -/
def intOf : Value → Option Int
  | .int i _ => some i
  | _ => none
def rowIs (K : PySem.W.Frag) (v : Value) (r : List Nat) : Bool := match v with
  | .ref p => (match K.lookup p with
    | some ⟨.type "tuple", none, .seq its _, _⟩ => decide (its.size ≤ sizeLine) && decide (its.toList.map intOf = r.map fun (n : Nat) => some ((n : Nat) : Int))
    | _ => false)
  | _ => false
def tabIs (K : PySem.W.Frag) (d : Addr) (f : Nat → Nat → Nat → Nat) : Bool := match K.lookup d with
  | some ⟨.type "dict", none, .dict es _, sl⟩ => decide (sl.size = 0) && keysI es.toList && Fld.fields.all fun q => (match findBy Value.isInt es (q : Nat) with
    | some (.ref p) => (match K.lookup p with
      | some ⟨.type "tuple", none, .seq its _, _⟩ => decide (its.size = q) && Fld.below q fun a => rowIs K (its.toList.getD a .none) ((List.range q).map (f q a))
      | _ => false)
    | _ => false)
  | _ => false
theorem vals_of_ints : ∀ {us : List Value} {r : List Nat}, us.map intOf = r.map (fun (n : Nat) => some ((n : Nat) : Int)) → Vals (iv r) us
  | [], [], _ => .nil
  | u :: us, n :: r, h => by
    injection h with h1 h2
    refine .cons ?_ (vals_of_ints h2)
    cases u with
    | int i t => exact ⟨t, by rw [Option.some.inj h1]⟩
    | _ => cases h1
  | [], _ :: _, h => nomatch h
  | _ :: _, [], h => nomatch h
theorem row_is {K : PySem.W.Frag} {v : Value} {r : List Nat} (h : rowIs K v r = true) : ∃ p, v = .ref p ∧ (∀ H, SqT K H p (iv r)) ∧ ∃ o, K.lookup p = some o ∧ o.cls = .type "tuple" ∧ o.dict = none := by
  unfold rowIs at h
  split at h
  · rename_i p
    split at h
    · rename_i its n sl e
      rw [Bool.and_eq_true, decide_eq_true_eq, decide_eq_true_eq] at h
      exact ⟨p, rfl, fun H => .inr ⟨_, its, n, e, rfl, rfl, h.1, vals_of_ints h.2⟩, _, e, rfl, rfl⟩
    · cases h
  · cases h
/-- the table's entry at q: a tuple of the rows -/
def TabAt (K : PySem.W.Frag) (d : Addr) (f : Nat → Nat → Nat → Nat) (q : Nat) : Prop :=
  ∃ p vs, KDI K d (q : Nat) (.ref p) ∧ (∀ H, SqT K H p vs) ∧ ∀ a, a < q → ∃ r, vs[a]? = some (.ref r) ∧ (∀ H, SqT K H r (iv ((List.range q).map (f q a)))) ∧ ∃ o, K.lookup r = some o ∧ o.cls = .type "tuple" ∧ o.dict = none
theorem refs_of {K : PySem.W.Frag} {g : Nat → List Nat} : ∀ (us : List Value) , (∀ a, a < us.length → rowIs K (us.getD a .none) (g a) = true) → ∃ vs, Vals vs us ∧ ∀ a, a < us.length → ∃ r, vs[a]? = some (.ref r) ∧ (∀ H, SqT K H r (iv (g a))) ∧ ∃ o, K.lookup r = some o ∧ o.cls = .type "tuple" ∧ o.dict = none
  | us, h => by
    induction us generalizing g with
    | nil => exact ⟨[], .nil, fun a ha => absurd ha (Nat.not_lt_zero _)⟩
    | cons u us ih =>
      obtain ⟨p, e, hp, ho⟩ := row_is (h 0 (Nat.succ_pos _))
      have e' : u = .ref p := e
      subst e'
      obtain ⟨vs, hv, hr⟩ := ih (g := fun a => g (a + 1)) fun a ha => h (a + 1) (Nat.succ_lt_succ ha)
      refine ⟨V.ref p :: vs, .cons rfl hv, fun a ha => ?_⟩
      cases a with
      | zero => exact ⟨p, rfl, hp, ho⟩
      | succ a => exact hr a (Nat.lt_of_succ_lt_succ ha)
theorem tab_at {K : PySem.W.Frag} {d : Addr} {f : Nat → Nat → Nat → Nat} (h : tabIs K d f = true) {q : Nat} (hq : q ∈ Fld.fields) : TabAt K d f q := by
  unfold tabIs at h
  split at h
  · rename_i es n sl0 e
    rw [Bool.and_eq_true, Bool.and_eq_true, decide_eq_true_eq] at h
    have z : sl0 = #[] := Array.eq_empty_of_size_eq_zero h.1.1
    subst z
    have t := List.all_eq_true.mp h.2 q hq
    split at t
    · rename_i p ep
      split at t
      · rename_i its m sl e2
        rw [Bool.and_eq_true, decide_eq_true_eq] at t
        have hl : its.toList.length = q := by
          rw [Array.length_toList]
          exact t.1
        obtain ⟨vs, hv, hr⟩ := refs_of (K := K) (g := fun a => (List.range q).map (f q a)) its.toList fun a ha => by
          rw [hl] at ha
          exact Fld.of_below t.2 ha
        have sz : its.size ≤ sizeLine := by
          rw [t.1]
          exact Nat.le_trans (Fld.le16 hq) (by decide)
        refine ⟨p, vs, ⟨es, n, _, e, h.1.2, ep, rfl⟩, fun H => .inr ⟨_, its, m, e2, rfl, rfl, sz, hv⟩, fun a ha => hr a ?_⟩
        rw [hl]
        exact ha
      · cases t
    · cases t
  · cases h

/-! ### the deck -/
abbrev kC : Key := Sum.inr "cells"
abbrev kM : Key := Sum.inr "mixed"
abbrev kD : Key := Sum.inr "draws"
theorem st1 : ¬ Str.ofString "cells" = Str.ofString "mixed" := by decide +kernel
theorem st2 : ¬ Str.ofString "cells" = Str.ofString "draws" := by decide +kernel
theorem st3 : ¬ Str.ofString "mixed" = Str.ofString "draws" := by decide +kernel
theorem ne1 : ¬ kC = kM := by decide +kernel
theorem ne2 : ¬ kC = kD := by decide +kernel
theorem ne3 : ¬ kM = kD := by decide +kernel
abbrev deckD (c : Addr) (m n : Int) : List (Key × V) := [(kC, .ref c), (kM, .int m), (kD, .int n)]
theorem deck_C {c : Addr} {m n : Int} : valV (deckD c m n) kC = some (.ref c) := valV_pos rfl
theorem deck_M {c : Addr} {m n : Int} : valV (deckD c m n) kM = some (.int m) := by
  rw [valV_neg ne1]
  exact valV_pos rfl
theorem deck_D {c : Addr} {m n : Int} : valV (deckD c m n) kD = some (.int n) := by
  rw [valV_neg ne2, valV_neg ne3]
  exact valV_pos rfl
theorem deck_put {c : Addr} {m n k : Int} : putK (deckD c m n) kD (.int k) = deckD c m k := by
  unfold putK
  rw [if_pos (by simp)]
  simp [deckD, st2, st3]
theorem deck_merge {c : Addr} {m n : Int} : mergeK [] (deckD c m n) = deckD c m n := by
  have a1 : putK ([] : List (Key × V)) kC (.ref c) = [(kC, .ref c)] := by
    unfold putK
    rw [if_neg (by simp)]
    rfl
  have a2 : putK [(kC, V.ref c)] kM (.int m) = [(kC, .ref c), (kM, .int m)] := by
    unfold putK
    rw [if_neg (by simp [st1])]
    rfl
  have a3 : putK [(kC, V.ref c), (kM, .int m)] kD (.int n) = deckD c m n := by
    unfold putK
    rw [if_neg (by simp [st2, st3])]
    rfl
  show putK (putK (putK [] kC (.ref c)) kM (.int m)) kD (.int n) = _
  rw [a1, a2, a3]
/-- at d the dict of a deck, at c its list of cells -/
def Deck (H : Hp) (d c : Addr) : Prop :=
  ∃ (cells : List Int) (m n : Int), H d = some (.dK (deckD c m n)) ∧ H c = some (.lst (cells.map V.int)) ∧ cells.length ≤ 63 ∧ 0 ≤ m ∧ m < 2147483647
theorem Deck.same {H H' : Hp} {d c : Addr} (h : Deck H d c) (s : Same H H') : Deck H' d c := by
  obtain ⟨cells, m, n, h1, h2, h3⟩ := h
  exact ⟨cells, m, n, s _ _ h1, s _ _ h2, h3⟩
theorem Deck.lst {H : Hp} {d c p : Addr} {xs : List V} (h : Deck H d c) (e : H p = some (.lst xs)) (n : p ≠ c) : p ≠ d := by
  obtain ⟨cells, m, k, h1, _⟩ := h
  exact ne_of e h1 (fun z => by cases z)
theorem Rows.but {H H' : Hp} {d c D : Addr} {rows : List (List Nat)} (h : Rows c H D rows) (k : Deck H d c) (b : But d c H H') : Rows c H' D rows := by
  obtain ⟨ps, n1, n2, h1, h2, h3⟩ := h
  refine ⟨ps, n1, n2, b _ _ (k.lst h1 n1) n1 h1, h2, fun i p r hp hr => ?_⟩
  have np := n2 p (List.mem_of_getElem? hp)
  have e := h3 i p r hp hr
  exact b _ _ (k.lst e np) np e
/-- a new thing is neither -/
theorem Deck.new {H : Hp} {d c p : Addr} (h : Deck H d c) (e : H p = none) : p ≠ d ∧ p ≠ c := by
  obtain ⟨cells, m, k, h1, h2, _⟩ := h
  refine ⟨fun z => ?_, fun z => ?_⟩
  · rw [z, h1] at e
    cases e
  · rw [z, h2] at e
    cases e
end BP
set_option Elab.async false
set_option linter.all false
set_option maxRecDepth 100000
set_option maxHeartbeats 4000000
/-! Numbers of a field and lists of them as the layer's values; what loops make of lists, by their numbers. -/
namespace Fld
variable {q : Nat} [F : IsF q]
theorem co_set (l : Po q) (k : Nat) (x : El q) (h : k < l.length) (j : Nat) : co (l.set k x) j = if j = k then x else co l j := by
  unfold co
  rw [List.getD_eq_getElem?_getD, List.getD_eq_getElem?_getD]
  by_cases e : j = k
  · subst e
    rw [if_pos rfl, List.getElem?_set_self h]
    rfl
  · rw [if_neg e, List.getElem?_set_ne (fun z => e z.symm)]
theorem co_get {l : Po q} {k : Nat} {x : El q} (h : l[k]? = some x) : co l k = x := by
  unfold co
  rw [List.getD_eq_getElem?_getD, h]
  rfl
theorem get_co {l : Po q} {k : Nat} (h : k < l.length) : l[k]? = some (co l k) := by
  unfold co
  rw [List.getD_eq_getElem?_getD, List.getElem?_eq_getElem h]
  rfl
theorem co_take (l : Po q) (n j : Nat) : co (l.take n) j = if j < n then co l j else 0 := by
  unfold co
  rw [List.getD_eq_getElem?_getD, List.getD_eq_getElem?_getD, List.getElem?_take]
  by_cases h : j < n
  · rw [if_pos h, if_pos h]
  · rw [if_neg h, if_neg h]
    rfl
theorem trim_step {l : Po q} {n : Nat} (h : co l n = 0) : trim (l.take (n + 1)) = trim (l.take n) := by
  refine trim_ext fun j => ?_
  rw [co_take, co_take]
  by_cases h1 : j < n
  · rw [if_pos h1, if_pos (by omega)]
  · rw [if_neg h1]
    by_cases h2 : j = n
    · subst h2
      rw [if_pos (by omega), h]
    · rw [if_neg (by omega)]
theorem trim_stop {l : Po q} {n : Nat} (hn : n < l.length) (h : co l n ≠ 0) : trim (l.take (n + 1)) = l.take (n + 1) := by
  refine trim_of_top (n := n) ?_ ?_
  · rw [List.length_take]
    omega
  · rw [co_take, if_pos (by omega)]
    exact h
/-- f times g, number by number: the first i of f -/
def cvs (f g : Po q) : Nat → Nat → El q
  | 0, _ => 0
  | i + 1, n => cvs f g i n + if i ≤ n then co f i * co g (n - i) else 0
theorem cvs_two (f : Po q) (k e : El q) : ∀ m n, cvs f [k, e] m n = (if n < m then co f n * k else 0) + (if 1 ≤ n ∧ n - 1 < m then co f (n - 1) * e else 0)
  | 0, n => by
    rw [if_neg (by omega), if_neg (by omega)]
    show (0 : El q) = 0 + 0
    grind
  | m + 1, n => by
    show cvs f [k, e] m n + (if m ≤ n then co f m * co [k, e] (n - m) else 0) = _
    rw [cvs_two f k e m n]
    by_cases h1 : n < m
    · rw [if_pos h1, if_pos (show n < m + 1 by omega), if_neg (show ¬ m ≤ n by omega)]
      by_cases h2 : 1 ≤ n
      · rw [if_pos ⟨h2, by omega⟩, if_pos ⟨h2, by omega⟩]
        grind
      · rw [if_neg (by omega), if_neg (by omega)]
        grind
    · by_cases h2 : n = m
      · subst h2
        rw [if_neg h1, if_pos (show n < n + 1 by omega), if_pos (Nat.le_refl _), Nat.sub_self]
        show 0 + _ + co f n * k = _
        by_cases h3 : 1 ≤ n
        · rw [if_pos ⟨h3, by omega⟩, if_pos ⟨h3, by omega⟩]
          grind
        · rw [if_neg (by omega), if_neg (by omega)]
          grind
      · by_cases h3 : n = m + 1
        · subst h3
          rw [if_neg h1, if_neg (by omega), if_pos (by omega), if_neg (by omega), if_pos ⟨by omega, by omega⟩]
          have e1 : m + 1 - m = 1 := by omega
          have e2 : m + 1 - 1 = m := by omega
          rw [e1, e2]
          show (0 : El q) + 0 + co f m * e = 0 + co f m * e
          grind
        · rw [if_neg h1, if_neg (by omega), if_pos (by omega), if_neg (by omega), if_neg (by omega)]
          obtain ⟨j, hj⟩ : ∃ j, n - m = j + 2 := ⟨n - m - 2, by omega⟩
          rw [hj]
          show (0 : El q) + 0 + co f m * 0 = 0 + 0
          grind
theorem cvs_ml (f : Po q) (k e : El q) (n : Nat) : cvs f [k, e] f.length n = co (ml f e k) n := by
  rw [cvs_two]
  cases n with
  | zero =>
    rw [co_ml_zero, if_neg (show ¬ (1 ≤ 0 ∧ 0 - 1 < f.length) by omega)]
    by_cases h : 0 < f.length
    · rw [if_pos h]
      grind
    · rw [if_neg h, co_out (by omega)]
      grind
  | succ n =>
    rw [co_ml_succ]
    have e1 : n + 1 - 1 = n := by omega
    rw [e1]
    by_cases h : n + 1 < f.length
    · rw [if_pos h, if_pos ⟨by omega, by omega⟩]
    · rw [if_neg h, co_out (f := f) (i := n + 1) (by omega)]
      by_cases h2 : n < f.length
      · rw [if_pos ⟨by omega, h2⟩]
        grind
      · rw [if_neg (by omega), co_out (by omega)]
        grind
/-- the value at y -/
def ev (y : El q) : Po q → El q
  | [] => 0
  | a :: f => ev y f * y + a
theorem sh_step (e k x : El q) (f : Po q) {t : Po q} (h : ∀ n, co t n = cvs (trim (sh e k f)) [k, e] (trim (sh e k f)).length n) : pl t (trim [x]) = trim (sh e k (x :: f)) := by
  refine canon_ext (pl_canon _ _) (trim_trim _) fun n => ?_
  rw [co_pl, h, co_trim, co_trim, cvs_ml]
  have ex : ∀ j, co (ml (trim (sh e k f)) e k) j = co (ml (sh e k f) e k) j := by
    intro j
    cases j with
    | zero => rw [co_ml_zero, co_ml_zero, co_trim]
    | succ j => rw [co_ml_succ, co_ml_succ, co_trim, co_trim]
  rw [ex]
  show _ = co (pad [x] (ml (sh e k f) e k)) n
  rw [co_pad]
  grind
end Fld
namespace BP
open PySem PySem.Spec PyProof.Rows L2 Fld
section
variable {q : Nat} [F : IsF q]
abbrev vn (x : El q) : V := .int (x.val : Nat)
abbrev vns (l : Po q) : List V := l.map vn
theorem vns_get {l : Po q} {k : Nat} (h : k < l.length) : (vns l)[k]? = some (vn (co l k)) := by
  unfold vns
  rw [List.getElem?_map, get_co h]
  rfl
theorem of_vns {l : Po q} {k : Nat} {x : V} (h : (vns l)[k]? = some x) : k < l.length ∧ x = vn (co l k) := by
  have hk : k < l.length := by
    have := (List.getElem?_eq_some_iff.mp h).1
    rw [List.length_map] at this
    exact this
  rw [vns_get hk] at h
  exact ⟨hk, (Option.some.inj h).symm⟩
theorem vns_set (l : Po q) (k : Nat) (x : El q) : (vns l).set k (vn x) = vns (l.set k x) := by
  unfold vns
  rw [List.map_set]
theorem cut_take (xs : List V) (n : Nat) : cutV xs none (some (n : Int)) = xs.take n := by
  unfold cutV
  rw [HT.sIx_none, HT.sIx_nat]
  rw [List.drop_zero, Nat.sub_zero]
  by_cases h : n ≤ xs.length
  · rw [Nat.min_eq_left h]
  · rw [Nat.min_eq_right (by omega), List.take_length, List.take_of_length_le (by omega)]
theorem ixN_nat {n k : Nat} (h : k < n) : ixN n (k : Int) = some k := by
  unfold ixN
  rw [if_pos (by omega), if_pos (by omega)]
  simp
end
theorem Same.tupS {K : PySem.W.Frag} {H H' : Hp} {a : Addr} {xs : List V} (s : Same H H') (h : SqT K H a xs) : SqT K H' a xs := by
  rcases h with h | h
  · rcases h with h | ⟨o, h⟩
    · exact .inl (.inl (s _ _ h))
    · exact .inl (.inr ⟨o, s _ _ h⟩)
  · exact .inr h
end BP
set_option Elab.async false
set_option linter.all false
set_option maxRecDepth 100000
set_option maxHeartbeats 4000000
namespace K13
open PySem PySem.Spec PyProof.Rows L2 BP
def topS (i : Nat) : Stmt := PySem.Challenge.pw_bentplane_k03_polynomials_of_one_letter.main.body.getD i (.Pass ⟨0, 0, 0, 0⟩)
abbrev sIsInteger : Stmt := topS 4
abbrev nIsInteger : List Str := ["thing"]
abbrev pIsInteger : List Str := ["thing"]
theorem scIsInteger : FnScope nIsInteger pIsInteger (defScope sIsInteger) := ⟨rfl, rfl, rfl, by decide +kernel, rfl, by decide +kernel, by decide +kernel⟩
abbrev sIsNumber : Stmt := topS 5
abbrev nIsNumber : List Str := ["q", "thing"]
abbrev pIsNumber : List Str := ["q", "thing"]
theorem scIsNumber : FnScope nIsNumber pIsNumber (defScope sIsNumber) := ⟨rfl, rfl, rfl, by decide +kernel, rfl, by decide +kernel, by decide +kernel⟩
abbrev sPlus : Stmt := topS 6
abbrev nPlus : List Str := ["q", "a", "b"]
abbrev pPlus : List Str := ["q", "a", "b"]
theorem scPlus : FnScope nPlus pPlus (defScope sPlus) := ⟨rfl, rfl, rfl, by decide +kernel, rfl, by decide +kernel, by decide +kernel⟩
abbrev sTimes : Stmt := topS 7
abbrev nTimes : List Str := ["q", "a", "b"]
abbrev pTimes : List Str := ["q", "a", "b"]
theorem scTimes : FnScope nTimes pTimes (defScope sTimes) := ⟨rfl, rfl, rfl, by decide +kernel, rfl, by decide +kernel, by decide +kernel⟩
abbrev sAreNumbers : Stmt := topS 9
abbrev nAreNumbers : List Str := ["q", "thing", "part"]
abbrev pAreNumbers : List Str := ["q", "thing"]
theorem scAreNumbers : FnScope nAreNumbers pAreNumbers (defScope sAreNumbers) := ⟨rfl, rfl, rfl, by decide +kernel, rfl, by decide +kernel, by decide +kernel⟩
abbrev sIsOneLetter : Stmt := topS 10
abbrev nIsOneLetter : List Str := ["q", "thing"]
abbrev pIsOneLetter : List Str := ["q", "thing"]
theorem scIsOneLetter : FnScope nIsOneLetter pIsOneLetter (defScope sIsOneLetter) := ⟨rfl, rfl, rfl, by decide +kernel, rfl, by decide +kernel, by decide +kernel⟩
abbrev sTrimmed : Stmt := topS 11
abbrev nTrimmed : List Str := ["numbers", "size"]
abbrev pTrimmed : List Str := ["numbers"]
theorem scTrimmed : FnScope nTrimmed pTrimmed (defScope sTrimmed) := ⟨rfl, rfl, rfl, by decide +kernel, rfl, by decide +kernel, by decide +kernel⟩
abbrev sOnePlus : Stmt := topS 12
abbrev nOnePlus : List Str := ["q", "f", "g", "found", "k", "number"]
abbrev pOnePlus : List Str := ["q", "f", "g"]
theorem scOnePlus : FnScope nOnePlus pOnePlus (defScope sOnePlus) := ⟨rfl, rfl, rfl, by decide +kernel, rfl, by decide +kernel, by decide +kernel⟩
abbrev sOneTimes : Stmt := topS 13
abbrev nOneTimes : List Str := ["q", "f", "g", "found", "i", "a", "j", "b"]
abbrev pOneTimes : List Str := ["q", "f", "g"]
theorem scOneTimes : FnScope nOneTimes pOneTimes (defScope sOneTimes) := ⟨rfl, rfl, rfl, by decide +kernel, rfl, by decide +kernel, by decide +kernel⟩
abbrev sOneValue : Stmt := topS 14
abbrev nOneValue : List Str := ["q", "f", "number", "found", "part"]
abbrev pOneValue : List Str := ["q", "f", "number"]
theorem scOneValue : FnScope nOneValue pOneValue (defScope sOneValue) := ⟨rfl, rfl, rfl, by decide +kernel, rfl, by decide +kernel, by decide +kernel⟩
abbrev sOnePut : Stmt := topS 15
abbrev nOnePut : List Str := ["q", "f", "g", "found", "part"]
abbrev pOnePut : List Str := ["q", "f", "g"]
theorem scOnePut : FnScope nOnePut pOnePut (defScope sOnePut) := ⟨rfl, rfl, rfl, by decide +kernel, rfl, by decide +kernel, by decide +kernel⟩
abbrev sHouseInit : Stmt := inClass (topS 17) 0
abbrev nHouseInit : List Str := ["self", "q"]
abbrev pHouseInit : List Str := ["self", "q"]
theorem scHouseInit : FnScope nHouseInit pHouseInit (defScope sHouseInit) := ⟨rfl, rfl, rfl, by decide +kernel, rfl, by decide +kernel, by decide +kernel⟩
abbrev sLDeck : Stmt := topS 19
abbrev nLDeck : List Str := ["_law_script", "_law_mixed", "_law_cell"]
abbrev pLDeck : List Str := ["_law_script"]
theorem scLDeck : FnScope nLDeck pLDeck (defScope sLDeck) := ⟨rfl, rfl, rfl, by decide +kernel, rfl, by decide +kernel, by decide +kernel⟩
abbrev sLDraw : Stmt := topS 20
abbrev nLDraw : List Str := ["_law_deck_here", "_law_many", "_law_number", "_law_cell"]
abbrev pLDraw : List Str := ["_law_deck_here", "_law_many"]
theorem scLDraw : FnScope nLDraw pLDraw (defScope sLDraw) := ⟨rfl, rfl, rfl, by decide +kernel, rfl, by decide +kernel, by decide +kernel⟩
abbrev sLPick : Stmt := topS 21
abbrev nLPick : List Str := ["_law_deck_here", "_law_some"]
abbrev pLPick : List Str := ["_law_deck_here", "_law_some"]
theorem scLPick : FnScope nLPick pLPick (defScope sLPick) := ⟨rfl, rfl, rfl, by decide +kernel, rfl, by decide +kernel, by decide +kernel⟩
abbrev sLQ : Stmt := topS 22
abbrev nLQ : List Str := ["_law_deck_here"]
abbrev pLQ : List Str := ["_law_deck_here"]
theorem scLQ : FnScope nLQ pLQ (defScope sLQ) := ⟨rfl, rfl, rfl, by decide +kernel, rfl, by decide +kernel, by decide +kernel⟩
abbrev sLSum : Stmt := topS 23
abbrev nLSum : List Str := ["_law_p", "_law_q_here", "_law_a", "_law_b", "_law_total", "_law_unit"]
abbrev pLSum : List Str := ["_law_p", "_law_q_here", "_law_a", "_law_b"]
theorem scLSum : FnScope nLSum pLSum (defScope sLSum) := ⟨rfl, rfl, rfl, by decide +kernel, rfl, by decide +kernel, by decide +kernel⟩
abbrev sLField : Stmt := topS 24
abbrev nLField : List Str := ["_law_q_here", "_law_p", "_law_sums", "_law_prods", "_law_powers", "_law_number", "_law_logs", "_law_exponent", "_law_top", "_law_less", "_law_a", "_law_row", "_law_b"]
abbrev pLField : List Str := ["_law_q_here"]
theorem scLField : FnScope nLField pLField (defScope sLField) := ⟨rfl, rfl, rfl, by decide +kernel, rfl, by decide +kernel, by decide +kernel⟩
abbrev sLAny : Stmt := topS 25
abbrev nLAny : List Str := ["_law_deck_here", "_law_deep", "_law_way", "_law_some", "_law_turn"]
abbrev pLAny : List Str := ["_law_deck_here", "_law_deep"]
theorem scLAny : FnScope nLAny pLAny (defScope sLAny) := ⟨rfl, rfl, rfl, by decide +kernel, rfl, by decide +kernel, by decide +kernel⟩
abbrev sLSpoilt : Stmt := topS 26
abbrev nLSpoilt : List Str := ["_law_deck_here", "_law_thing", "_law_at", "_law_way", "_law_strange"]
abbrev pLSpoilt : List Str := ["_law_deck_here", "_law_thing"]
theorem scLSpoilt : FnScope nLSpoilt pLSpoilt (defScope sLSpoilt) := ⟨rfl, rfl, rfl, by decide +kernel, rfl, by decide +kernel, by decide +kernel⟩
abbrev sLIsNumber : Stmt := topS 27
abbrev nLIsNumber : List Str := ["_law_q_here", "_law_thing"]
abbrev pLIsNumber : List Str := ["_law_q_here", "_law_thing"]
theorem scLIsNumber : FnScope nLIsNumber pLIsNumber (defScope sLIsNumber) := ⟨rfl, rfl, rfl, by decide +kernel, rfl, by decide +kernel, by decide +kernel⟩
abbrev sLAreNumbers : Stmt := topS 28
abbrev nLAreNumbers : List Str := ["_law_q_here", "_law_thing", "_law_x"]
abbrev pLAreNumbers : List Str := ["_law_q_here", "_law_thing"]
theorem scLAreNumbers : FnScope nLAreNumbers pLAreNumbers (defScope sLAreNumbers) := ⟨rfl, rfl, rfl, by decide +kernel, rfl, by decide +kernel, by decide +kernel⟩
abbrev sLLetter : Stmt := topS 29
abbrev nLLetter : List Str := ["_law_deck_here", "_law_q_here", "_law_high", "_law_thin", "_law_some", "_law_at"]
abbrev pLLetter : List Str := ["_law_deck_here", "_law_q_here", "_law_high"]
theorem scLLetter : FnScope nLLetter pLLetter (defScope sLLetter) := ⟨rfl, rfl, rfl, by decide +kernel, rfl, by decide +kernel, by decide +kernel⟩
abbrev sLTrimmed : Stmt := topS 30
abbrev nLTrimmed : List Str := ["_law_row", "_law_size"]
abbrev pLTrimmed : List Str := ["_law_row"]
theorem scLTrimmed : FnScope nLTrimmed pLTrimmed (defScope sLTrimmed) := ⟨rfl, rfl, rfl, by decide +kernel, rfl, by decide +kernel, by decide +kernel⟩
abbrev sLAdded : Stmt := topS 31
abbrev nLAdded : List Str := ["_law_field_here", "_law_f", "_law_g", "_law_size", "_law_some", "_law_others", "_law_x", "_law_y"]
abbrev pLAdded : List Str := ["_law_field_here", "_law_f", "_law_g"]
theorem scLAdded : FnScope nLAdded pLAdded (defScope sLAdded) := ⟨rfl, rfl, rfl, by decide +kernel, rfl, by decide +kernel, by decide +kernel⟩
abbrev sLMultiplied : Stmt := topS 32
abbrev nLMultiplied : List Str := ["_law_field_here", "_law_f", "_law_g", "_law_made", "_law_sums", "_law_prods", "_law_at", "_law_x", "_law_place", "_law_y"]
abbrev pLMultiplied : List Str := ["_law_field_here", "_law_f", "_law_g"]
theorem scLMultiplied : FnScope nLMultiplied pLMultiplied (defScope sLMultiplied) := ⟨rfl, rfl, rfl, by decide +kernel, rfl, by decide +kernel, by decide +kernel⟩
abbrev sLWithin : Stmt := topS 33
abbrev nLWithin : List Str := ["_law_field_here", "_law_f", "_law_g", "_law_made", "_law_x"]
abbrev pLWithin : List Str := ["_law_field_here", "_law_f", "_law_g"]
theorem scLWithin : FnScope nLWithin pLWithin (defScope sLWithin) := ⟨rfl, rfl, rfl, by decide +kernel, rfl, by decide +kernel, by decide +kernel⟩
abbrev sLValue : Stmt := topS 34
abbrev nLValue : List Str := ["_law_field_here", "_law_f", "_law_number", "_law_total", "_law_power", "_law_x"]
abbrev pLValue : List Str := ["_law_field_here", "_law_f", "_law_number"]
theorem scLValue : FnScope nLValue pLValue (defScope sLValue) := ⟨rfl, rfl, rfl, by decide +kernel, rfl, by decide +kernel, by decide +kernel⟩
abbrev sLIsLetter : Stmt := topS 35
abbrev nLIsLetter : List Str := ["_law_q_here", "_law_thing"]
abbrev pLIsLetter : List Str := ["_law_q_here", "_law_thing"]
theorem scLIsLetter : FnScope nLIsLetter pLIsLetter (defScope sLIsLetter) := ⟨rfl, rfl, rfl, by decide +kernel, rfl, by decide +kernel, by decide +kernel⟩
abbrev sLIsRight : Stmt := topS 36
abbrev nLIsRight : List Str := ["_law_deck_here", "_law_field_here", "_law_f", "_law_g", "_law_q_here", "_law_due", "_law_other", "_law_number", "_law_turn"]
abbrev pLIsRight : List Str := ["_law_deck_here", "_law_field_here", "_law_f", "_law_g"]
theorem scLIsRight : FnScope nLIsRight pLIsRight (defScope sLIsRight) := ⟨rfl, rfl, rfl, by decide +kernel, rfl, by decide +kernel, by decide +kernel⟩
abbrev sLIsTold : Stmt := topS 37
abbrev nLIsTold : List Str := ["_law_deck_here", "_law_q_here", "_law_f", "_law_thing", "_law_due"]
abbrev pLIsTold : List Str := ["_law_deck_here", "_law_q_here", "_law_f"]
theorem scLIsTold : FnScope nLIsTold pLIsTold (defScope sLIsTold) := ⟨rfl, rfl, rfl, by decide +kernel, rfl, by decide +kernel, by decide +kernel⟩
abbrev sLaw : Stmt := topS 38
abbrev nLaw : List Str := ["_law_script", "_law_deck_here", "_law_turn", "_law_great", "_law_field_here", "_law_q_here", "_law_sizes", "_law_f", "_law_g", "_law_x"]
abbrev pLaw : List Str := ["_law_script"]
theorem scLaw : FnScope nLaw pLaw (defScope sLaw) := ⟨rfl, rfl, rfl, by decide +kernel, rfl, by decide +kernel, by decide +kernel⟩
end K13
set_option Elab.async false
set_option linter.all false
set_option maxRecDepth 100000
set_option maxHeartbeats 4000000
set_option pp.maxSteps 400
namespace BP
open PySem PySem.Spec PyProof.Rows L2 Fld
/-- a def that may be called by its name -/
structure Can (P : Program) (w : World) (K : PySem.W.Frag) (mg : Str → Option Value) (base : Heap) (x : Str) (k : Nat) (ps : List Str) (sp : Sp) (f : Addr) (fd : FuncData) : Prop where
  ok : FnOk P w K mg base CX0 k f fd ps sp
  g : mg x = some (.ref f)
  kp : PySem.W.keepIn K (.ref f) = true
  b : Binds K fd ps []
/-- a promise that asks what is never so: for a call that is never reached -/
theorem never {P : Program} {w : World} {K : PySem.W.Frag} {mg : Str → Option Value} {base : Heap} {k : Nat} {f : Addr} {fd : FuncData} {ps : List Str} : FnOk P w K mg base CX0 k f fd ps (fun _ _ _ _ => False) :=
  ⟨fun _ _ _ _ h => h.elim, fun _ _ _ _ _ _ _ _ _ _ _ _ _ h => h.elim⟩
/-! ### promises over numbers of a field -/
def spE2 (g : ∀ {q : Nat} [IsF q], El q → El q → El q) : Sp := fun vs H Q _ => ∃ (q : Nat) (_ : IsF q) (a b : El q), vs = [.int q, vn a, vn b] ∧ Q (vn (g a b)) H
def spE1 (g : ∀ {q : Nat} [IsF q], El q → El q) : Sp := fun vs H Q _ => ∃ (q : Nat) (_ : IsF q) (a : El q), vs = [.int q, vn a] ∧ Q (vn (g a)) H
def spInvE : Sp := fun vs H Q _ => ∃ (q : Nat) (_ : IsF q) (a : El q), a ≠ 0 ∧ vs = [.int q, vn a] ∧ Q (vn (El.under a)) H
theorem under_val {q : Nat} [F : IsF q] {a : El q} (h : a ≠ 0) : (El.under a).val = Fld.inv q a.val := by
  unfold El.under
  rw [dif_neg (El.ne_zero.mp h)]
/-- a list of numbers, without zeros at the end, as a new tuple -/
def spTrim (K : PySem.W.Frag) : Sp := fun vs H Q _ => ∃ (q : Nat) (_ : IsF q) (a : Addr) (l : Po q), vs = [.ref a] ∧ SqL K H a (vns l) ∧ l.length ≤ 200 ∧ ∀ (p : Addr) (H' : Hp), Same H H' → H p = none → H' p = some (.tup (vns (trim l))) → Q (.ref p) H'
/-- two polynomials and a third one from them, a new tuple -/
def spPl (K : PySem.W.Frag) : Sp := fun vs H Q _ => ∃ (q : Nat) (_ : IsF q) (a b : Addr) (f g : Po q), vs = [.int q, .ref a, .ref b] ∧ SqT K H a (vns f) ∧ SqT K H b (vns g) ∧ f.length ≤ 100 ∧ g.length ≤ 100 ∧
  ∀ (p : Addr) (H' : Hp), Same H H' → H p = none → H' p = some (.tup (vns (pl f g))) → Q (.ref p) H'
def spTm (K : PySem.W.Frag) : Sp := fun vs H Q _ => ∃ (q : Nat) (_ : IsF q) (a b : Addr) (f g : Po q), vs = [.int q, .ref a, .ref b] ∧ SqT K H a (vns f) ∧ SqT K H b (vns g) ∧ f.length ≤ 100 ∧ g.length ≤ 100 ∧
  ∀ (t : Po q) (p : Addr) (H' : Hp), trim t = t → t.length ≤ f.length + g.length → (∀ n, co t n = cvs f g f.length n) → Same H H' → H p = none → H' p = some (.tup (vns t)) → Q (.ref p) H'
def spSc (K : PySem.W.Frag) : Sp := fun vs H Q _ => ∃ (q : Nat) (_ : IsF q) (a : Addr) (f : Po q) (c : El q), vs = [.int q, .ref a, vn c] ∧ SqT K H a (vns f) ∧ f.length ≤ 100 ∧
  ∀ (p : Addr) (H' : Hp), Same H H' → H p = none → H' p = some (.tup (vns (sc f c))) → Q (.ref p) H'
def spEv (K : PySem.W.Frag) : Sp := fun vs H Q _ => ∃ (q : Nat) (_ : IsF q) (a : Addr) (f : Po q) (y : El q), vs = [.int q, .ref a, vn y] ∧ SqT K H a (vns f) ∧ ∀ H', Same H H' → Q (vn (ev y f)) H'
def spSh (K : PySem.W.Frag) : Sp := fun vs H Q _ => ∃ (q : Nat) (_ : IsF q) (a b : Addr) (f : Po q) (k e : El q), vs = [.int q, .ref a, .ref b] ∧ SqT K H a (vns f) ∧ SqT K H b (vns [k, e]) ∧ f.length ≤ 20 ∧
  ∀ (p : Addr) (H' : Hp), Same H H' → H p = none → H' p = some (.tup (vns (trim (sh e k f)))) → Q (.ref p) H'
end BP
theorem BP.none_of {H H' : L2.Hp} {p : PySem.Addr} (s : L2.Same H H') (h : H' p = none) : H p = none := by
  cases e : H p with
  | none => rfl
  | some o =>
    rw [s _ _ e] at h
    cases h
namespace K13
open PySem PySem.Spec PyProof.Rows L2 BP Fld
section
variable {P : Program} {w : World} {K : PySem.W.Frag} {mg : Str → Option Value} {base : Heap}
theorem ok_plus {f d : Addr} {fd : FuncData} {k : Nat} (F : Fun K "plus" "plus" sPlus f fd) (g : mg "SUMS" = some (.ref d)) (T : tabIs K d Fld.S = true) : FnOk P w K mg base CX0 (k + 1) f fd pPlus (spE2 (fun a b => a + b)) := by
  refine F.ok scPlus (fun vs H Q E h => ?_) (fun cdv A outer s H vs Q E hr h => ?_)
  · obtain ⟨q, _, a, b, rfl, _⟩ := h
    rfl
  · obtain ⟨q, FF, a, b, rfl, want⟩ := h
    refine ⟨_, (pss_one (ps_ret (pe_ix ix_tup (pe_ix ix_tup (pe_ix ix_kint (pe_glob (v := .ref d) rfl g rfl) (pv 0) (fun _ _ => rfl)) (pv 1) (fun _ _ => rfl)) (pv 2) (fun _ _ => rfl)))), ?_⟩
    obtain ⟨p, vs, h1, h2, h3⟩ := tab_at T FF.mem
    obtain ⟨r, e, h4, _⟩ := h3 a.val a.lt
    exact ⟨.int q, rfl, d, q, .ref p, rfl, rfl, h1, vn a, rfl, p, vs, (a.val : Nat), .ref r, rfl, rfl, h2 _, atI_nat e, vn b, rfl, r, _, (b.val : Nat), _, rfl, rfl, h4 _, atI_nat (iv_at b.lt), want⟩
theorem ok_times {f d : Addr} {fd : FuncData} {k : Nat} (F : Fun K "times" "times" sTimes f fd) (g : mg "PRODUCTS" = some (.ref d)) (T : tabIs K d Fld.M = true) : FnOk P w K mg base CX0 (k + 1) f fd pTimes (spE2 (fun a b => a * b)) := by
  refine F.ok scTimes (fun vs H Q E h => ?_) (fun cdv A outer s H vs Q E hr h => ?_)
  · obtain ⟨q, _, a, b, rfl, _⟩ := h
    rfl
  · obtain ⟨q, FF, a, b, rfl, want⟩ := h
    refine ⟨_, (pss_one (ps_ret (pe_ix ix_tup (pe_ix ix_tup (pe_ix ix_kint (pe_glob (v := .ref d) rfl g rfl) (pv 0) (fun _ _ => rfl)) (pv 1) (fun _ _ => rfl)) (pv 2) (fun _ _ => rfl)))), ?_⟩
    obtain ⟨p, vs, h1, h2, h3⟩ := tab_at T FF.mem
    obtain ⟨r, e, h4, _⟩ := h3 a.val a.lt
    exact ⟨.int q, rfl, d, q, .ref p, rfl, rfl, h1, vn a, rfl, p, vs, (a.val : Nat), .ref r, rfl, rfl, h2 _, atI_nat e, vn b, rfl, r, _, (b.val : Nat), _, rfl, rfl, h4 _, atI_nat (iv_at b.lt), want⟩
theorem ok_trimmed {f : Addr} {fd : FuncData} {k : Nat} (F : Fun K "trimmed" "trimmed" sTrimmed f fd) (m_len : mg "len" = none) (m_tuple : mg "tuple" = none) : FnOk P w K mg base CX0 (k + 1) f fd pTrimmed (spTrim K) := by
  refine F.ok scTrimmed (fun vs H Q E h => ?_) (fun cdv A outer s H vs Q E hr h => ?_)
  · obtain ⟨q, _, a, l, rfl, _⟩ := h
    rfl
  · obtain ⟨q, FF, a, l, rfl, hl, ln, want⟩ := h
    refine ⟨_, (pss_cons (ps_set (i := 1) scTrimmed.nd rfl (.inl rfl) (pe_callB call_len_seq (by rfl) m_len PySem.boot_len (pa_cons (pv 0) pa_nil)))
      (pss_cons (ps_while PassesOwn.never (PW.pt (pw_and (pt_cmpR op_gt (pv 1) pe_int (nomark _)) (pw_and1 (pt_cmpR op_eq (pe_ix ix_list (pv 0) (pe_op op_sub (pv 1) pe_int) (fun _ _ => rfl)) pe_int (nomark _))))) (pss_one (ps_aug (i := 1) scTrimmed.nd rfl (.inl rfl) pe_int ip_sub)))
      (pss_one (ps_ret (pe_tupleOf rfl m_tuple (pe_slice sl_list (pv 0) po_none (po_some (pv 1)))))))), ?_⟩
    refine ⟨.ref a, rfl, a, vns l, rfl, .inl hl, ?_⟩
    refine while_by (fun σ H' => H' = H ∧ ∃ n : Nat, n ≤ l.length ∧ trim (l.take n) = trim l ∧ σ = [some (.ref a), some (.int n)])
      (fun (σ : L2.St) (_ : Hp) => match σ[1]? with | some (some (V.int m)) => m.toNat | _ => 0) ⟨rfl, l.length, Nat.le_refl _, by rw [List.take_length], ?_⟩ (fun σ H' hW => ?_) (fun σ H' Q1 Q2 imp z => ?_)
    · show [some (V.ref a), some (V.int ((vns l).length : Nat))] = _
      rw [List.length_map]
    · obtain ⟨rfl, n, hn, ht, rfl⟩ := hW
      have fin : trim (l.take n) = l.take n → ∀ (p t : Addr), H' p = none → (upd H' p (.lst (cutV (vns l) none (some (n : Int))))) t = none → Q (.ref t) (upd (upd H' p (.lst (cutV (vns l) none (some (n : Int))))) t (.tup (cutV (vns l) none (some (n : Int))))) := by
        intro hs p t np nt
        have s1 := same_new (o := .lst (cutV (vns l) none (some (n : Int)))) np
        refine want t _ (s1.trans (same_new nt)) (none_of s1 nt) ?_
        rw [upd_same, cut_take, ← ht, hs]
        unfold vns
        rw [List.map_take]
      refine ⟨.int n, rfl, n, 0, rfl, rfl, _, rfl, ?_⟩
      cases n with
      | zero =>
        refine iteF (iteF ?_)
        refine ⟨.ref a, rfl, .int (0 : Nat), rfl, (0 : Nat), rfl, a, vns l, rfl, hl, fun p np => .inl ⟨p, _, rfl, .inl (.inl upd_same), fun t nt => fin rfl p t np nt⟩⟩
      | succ n =>
        rw [decide_eq_true (show (0 : Int) < ((n + 1 : Nat) : Int) by omega)]
        refine iteT ?_
        have ei : ((n + 1 : Nat) : Int) - 1 = (n : Int) := by omega
        refine ⟨.ref a, rfl, .int ((n + 1 : Nat) : Int), rfl, _, 1, rfl, rfl, a, vns l, ((n + 1 : Nat) : Int) - 1, vn (co l n), rfl, rfl, hl, ?_, rfl, _, rfl, ?_⟩
        · rw [ei]
          exact atI_nat (vns_get (by omega))
        · by_cases h0 : co l n = 0
          · rw [h0]
            refine iteT ?_
            refine ⟨_, rfl, _, _, rfl, rfl, ⟨rfl, n, by omega, ?_, ?_⟩, ?_⟩
            · rw [← trim_step h0, ht]
            · show [some (V.ref a), some (V.int (((n + 1 : Nat) : Int) - 1))] = _
              rw [ei]
            · show (((n + 1 : Nat) : Int) - 1).toNat < ((n + 1 : Nat) : Int).toNat
              omega
          · have e0 : decide (vn (co l n) = V.int 0) = false := by
              refine decide_eq_false fun z => h0 (El.ext ?_)
              have z' := V.int.inj z
              show (co l n).val = 0
              omega
            rw [e0]
            refine iteF ?_
            refine ⟨.ref a, rfl, .int ((n + 1 : Nat) : Int), rfl, ((n + 1 : Nat) : Int), rfl, a, vns l, rfl, hl, fun p np => .inl ⟨p, _, rfl, .inl (.inl upd_same), fun t nt => fin (trim_stop (by omega) h0) p t np nt⟩⟩
    · obtain ⟨v, e, i, j, e1, e2, c1, e3, z⟩ := z
      refine ⟨v, e, i, j, e1, e2, c1, e3, ?_⟩
      cases c1 with
      | false => exact imp _ _ z
      | true =>
        obtain ⟨v, e, v2, e0, i, j, e1, e2, p, xs, i2, v3, e4, e5, h1, h2, e6, c, e7, z⟩ := z
        exact ⟨v, e, v2, e0, i, j, e1, e2, p, xs, i2, v3, e4, e5, h1, h2, e6, c, e7, imp _ _ z⟩
end
end K13
set_option Elab.async false
set_option linter.all false
set_option maxRecDepth 100000
set_option maxHeartbeats 4000000
set_option pp.maxSteps 400
/-! t[::-1] of a tuple. -/
namespace BP
open PySem PySem.Spec PyProof.Rows L2 Fld
theorem adjust_rev (n : Nat) : Builtin.Slice.sliceAdjust none none (-1) (n : Int) = ((n : Int) - 1, -1) := rfl
theorem places_rev (n : Nat) : Builtin.Slice.slicePlaces ((n : Int) - 1) (-1) (-1) = n := by
  unfold Builtin.Slice.slicePlaces
  rw [if_neg (by omega)]
  by_cases h : (n : Int) - 1 > -1
  · rw [if_pos h]
    have e : ((n : Int) - 1 - -1 - 1) / (- -1) = (n : Int) - 1 := by
      rw [show (- -1 : Int) = 1 by omega, Int.ediv_one]
      omega
    rw [e]
    omega
  · rw [if_neg h]
    omega
theorem pick_rev (xs : List Value) : ((List.range xs.length).filterMap fun (k : Nat) => xs.toArray[(((xs.length : Nat) : Int) - 1 + (k : Int) * -1).toNat]?).toArray = xs.reverse.toArray := by
  have e : ∀ n, n ≤ xs.length → ((List.range n).filterMap fun (k : Nat) => xs.toArray[(((xs.length : Nat) : Int) - 1 + (k : Int) * -1).toNat]?) = xs.reverse.take n := by
    intro n hn
    induction n with
    | zero => rfl
    | succ n ih =>
      rw [List.range_succ, List.filterMap_append, ih (by omega), List.take_add_one]
      have e1 : (((xs.length : Nat) : Int) - 1 + (n : Int) * -1).toNat = xs.length - 1 - n := by omega
      have e2 : xs.reverse[n]? = xs[xs.length - 1 - n]? := List.getElem?_reverse (by omega)
      have h3 : xs[xs.length - 1 - n]? = some (xs[xs.length - 1 - n]'(by omega)) := List.getElem?_eq_getElem _
      rw [e2, h3]
      congr 1
      show List.filterMap _ [n] = _
      rw [List.filterMap_cons, e1]
      rw [List.getElem?_toArray, h3]
      rfl
  rw [e xs.length (Nat.le_refl _), List.take_of_length_le (by rw [List.length_reverse]; exact Nat.le_refl _)]
section
variable {prog : Program} {w : World} {A : Around} {E : Value → Shared → Prop} {s : Shared}
theorem rev_applied {sl : Addr} {vl vu vs : Value} {n : Nat} {Q : Int × Int × Nat → Shared → Prop} (hs : s.heap.IsSliceOf sl vl vu vs) (pl : IsPart vl none) (pu : IsPart vu none) (pt : IsPart vs (some (-1)))
    (h : Q ((n : Int) - 1, -1, n) s) : wpAny (model prog w) A (Builtin.Slice.sliceApplied (.ref sl) (pure (n : Int))) Q E s := by
  obtain ⟨os, ho, hc, hd⟩ := hs
  unfold Builtin.Slice.sliceApplied Builtin.Slice.sliceFields
  refine wpAny_bind (wpAny_bind (wpAny_field ho hd (x := vl) rfl (wpAny_bind (wpAny_field ho hd (x := vu) rfl (wpAny_bind (wpAny_field ho hd (x := vs) rfl (wpAny_pure (wpAny_bind (HT.slicePart_ pt ?_)))))))))
  show wpAny _ _ (if ((-1 : Int) == 0) = true then _ else _) _ _ s
  rw [if_neg (by decide)]
  refine wpAny_bind (HT.slicePart_ pl (wpAny_bind (HT.slicePart_ pu (wpAny_bind (wpAny_pure ?_)))))
  show wpAny _ _ (pure ((n : Int) - 1, (-1 : Int), Builtin.Slice.slicePlaces ((n : Int) - 1) (-1) (-1))) _ _ s
  rw [places_rev]
  exact wpAny_pure h
theorem get_rev {t sl : Addr} {xs : List Value} {vl vu vs : Value} {Q : Value → Shared → Prop} (ht : IsTup s.heap t xs.toArray) (hs : s.heap.IsSliceOf sl vl vu vs) (pl : IsPart vl none) (pu : IsPart vu none) (pt : IsPart vs (some (-1)))
    (h : Q (.ref s.heap.objs.size) { s with heap := s.heap.push { cls := .type "tuple", data := .seq xs.reverse.toArray } }) (hz : xs.length ≤ sizeLine) : wpAny (model prog w) A (getItem (.ref t) (.ref sl)) Q E s := by
  have hfit : sizeOk (.seq xs.reverse.toArray) := by
    show xs.reverse.toArray.size ≤ sizeLine
    rw [List.size_toArray, List.length_reverse]
    exact hz
  obtain ⟨os, ho, hc, hd⟩ := id hs
  have hT : s.TypeIs (.ref sl) "slice" := ⟨os, ho, hc⟩
  unfold getItem
  (with_reducible refine wpAny_holding ?_); have _here := hT
  refine wpAny_bind (wpAny_sequenceKey ht.typeIs (by decide) (wpAny_bind (wpAny_callSpecial?_slot (name := Str.ofString "__getitem__") ht.typeIs PyProof.Rows.slot_tuple_getitem (wpAny_call_entry PyProof.Rows.slot_tuple_getitem ht.typeIs entry_tuple_getitem ?_ (args_tuple_getitem _ _)))))
  show wpAny _ _ (Builtin.Tuple.tupleItemsOf (Value.ref t) >>= _) _ _ s
  refine wpAny_bind (tupleItemsOf_ ht (wpAny_bind (wpAny_typeOf hT ?_)))
  rw [if_pos (by decide)]
  refine wpAny_bind (rev_applied hs pl pu pt ?_)
  rw [List.size_toArray]
  have hno : ¬ ((((xs.length : Nat) : Int) - 1 == 0 && (-1 : Int) == 1 && xs.length == xs.length) = true) := by
    intro q
    rw [Bool.and_eq_true, Bool.and_eq_true] at q
    exact absurd q.1.2 (by decide)
  show wpAny _ _ (if ((((xs.length : Nat) : Int) - 1 == 0 && (-1 : Int) == 1 && xs.length == xs.length) = true) then _ else _) _ _ s
  rw [if_neg hno, pick_rev]
  exact wpAny_bind (m := Builtin.Tuple.tupleExact _) (wpAny_newObj_type (wpAny_pure ⟨_, rfl, wpAny_pure h⟩) hfit)
end
section
variable {X : Cx} {e : Expr} {te : TE} {k : Nat} {p1 p2 p3 pos : Pos}
def tRevT (K : PySem.W.Frag) (te : TE) : TE := fun σ H Q => te σ H fun x H1 => ∃ a xs, x = .ref a ∧ SqT K H1 a xs ∧ ∀ p, H1 p = none → Q (.ref p) (upd H1 p (.tup xs.reverse))
theorem pe_revT (he : PE X e te) : PE X (.Subscript e (.Slice none none (some (.UnaryOp .USub (.Constant (.int 1) k p1) p2)) p3) pos) (tRevT X.K te) := by
  refine ⟨fun pins s σ H Q I h => Subscript_ (thn (he.run pins s σ H _ I h) fun v s1 ⟨x, H1, I1, r1, a, xs, ex, hx, q⟩ => ?_)⟩
  subst ex
  cases r1
  have minus : PO X (some (.UnaryOp .USub (.Constant (.int 1) k p1) p2)) _ := po_some (pe_un un_neg pe_int)
  have nothing1 := fun (s : Shared) (G : Hp) (J : Inv X pins σ G s) => po_none.run pins s σ G (fun o G' => o = none ∧ G' = G) J ⟨rfl, rfl⟩
  refine wpAny_Slice (thn (nothing1 s1 H1 I1) fun vl s2 ⟨l, H2, I2, pl, el, e2⟩ => ?_)
  subst el e2
  refine thn (nothing1 s2 H2 I2) fun vu s3 ⟨u, H3, I3, pu, eu, e3⟩ => ?_
  subst eu e3
  refine thn (minus.run pins s3 σ H3 (fun o G => o = some (-1) ∧ G = H3) I3 ⟨1, rfl, -1, rfl, rfl, rfl⟩) fun vs s4 ⟨o, H4, I4, pt, eo, e4⟩ => ?_
  subst eo e4
  have I5 : Inv X pins σ H4 { s4 with heap := s4.heap.push { cls := .type "slice", data := .fields #[vl, vu, vs] } } := I4.kept (t' := s4.toks) fun b ob z => Heap.get?_push_of_some _ z
  obtain ⟨its, r, ht, hz⟩ := I5.tuple hx
  refine tail_any (ops := [.ref a, .ref s4.heap.objs.size]) ht.typeIs PyProof.Rows.slot_tuple_getitem.lookup (get_rev ht (Heap.IsSliceOf.new _ vl vu vs) pl pu pt ?_ (by rw [← r.length]; exact hz)) (by with_unfolding_all rfl)
  refine ⟨.ref _, _, I5.laid (t' := s4.toks) (o := .tup xs.reverse) (fun b ob z => Heap.get?_push_of_some _ z) (Nat.le_refl _) ?_, rfl, q _ (I5.hok.fresh (Nat.le_refl _))⟩
  exact ⟨by rw [List.length_reverse]; exact hz, _, r.reverse, IsTup.new _ _⟩
end
end BP
set_option Elab.async false
set_option linter.all false
set_option maxRecDepth 100000
set_option maxHeartbeats 4000000
/-! A tuple that a text writes is known whole: so its methods are known, too. -/
namespace BP
open PySem PySem.Spec PyProof.Rows L2
/-- a written tuple, with its object -/
def tTupF (t : TA) : TE := fun σ H Q => t σ H fun xs H1 => xs.length ≤ sizeLine ∧ ∀ (p : Addr) (b : Obj), b.cls = .type "tuple" → b.dict = none → H1 p = none → Q (.ref p) (upd H1 p (.frz b (.tup xs)))
def tIxT (K : PySem.W.Frag) (to ty : TE) : TE := fun σ H Q => to σ H fun x H1 => ∃ (p : Addr) (b : Obj) (u : HO), x = .ref p ∧ H1 p = some (.frz b u) ∧ b.cls = .type "tuple" ∧ b.dict = none ∧ ty σ H1 fun y H2 => rTupIx K x [y] H2 Q
section
variable {X : Cx}
theorem pe_tupF {es : List Expr} {cx} {at' : Pos} {t : TA} (args : PA X es t) : PE X (.Tuple es cx at') (tTupF t) := by
  constructor
  intro pl s0 σ H0 Q J want
  refine wpAny_Tuple_spliced (thn (args.run at' pl s0 σ H0 _ J want) fun its s1 hh => ?_)
  obtain ⟨vs, H1, J1, rel, fit, k⟩ := hh
  have size : its.length ≤ sizeLine := rel.length ▸ fit
  refine ⟨size, ?_⟩
  have none1 := J1.hok.fresh (Nat.le_refl s1.heap.objs.size)
  have here : (s1.heap.push { cls := .type "tuple", data := .seq its.toArray }).get? s1.heap.objs.size = some { cls := .type "tuple", data := .seq its.toArray } := Heap.get?_push_size _ rfl
  have more : ∀ c o, s1.heap.get? c = some o → (s1.heap.push { cls := .type "tuple", data := .seq its.toArray }).get? c = some o := fun c o z => Heap.get?_push_of_some _ z
  let b : Obj := { cls := .type "tuple", data := .seq its.toArray }
  have new : ObjOk X.prog X.w (upd H1 s1.heap.objs.size (.frz b (.tup vs))) (s1.heap.push b) s1.heap.objs.size (.frz b (.tup vs)) := ⟨here, fit, its, rel, ⟨b, here, rfl, _, rfl⟩⟩
  exact ⟨.ref s1.heap.objs.size, upd H1 s1.heap.objs.size (.frz b (.tup vs)), J1.laid (t' := s1.toks) more (Nat.le_refl _) new, rfl, k s1.heap.objs.size b rfl rfl none1⟩
theorem pe_ixT {o e : Expr} {to ty : TE} {apos cpos : Pos} (ho : PE X o to) (he : PE X e ty) (m : M1 X o "index" apos e cpos) : PE X (.Call (.Attribute o "index" apos) [e] [] cpos) (tIxT X.K to ty) := by
  constructor
  intro pl s0 σ H0 Q J h
  refine wpAny_Call_method m.base m.few m.line PySem.F.plainAttrs_tuple PySem.F.slot_tuple_index PySem.F.type_tuple_index (thn (ho.run pl s0 σ H0 _ J h) fun z s1 hz => ?_)
  obtain ⟨x, H1, J1, rz, p, b, u, ex, hp, hc, hd, q1⟩ := hz
  subst ex
  obtain rfl : z = Value.ref p := rz
  have hob := (J1.hok p _ hp).1
  refine ⟨⟨b, hob, hc⟩, fun c e => ?_, ?_⟩
  · cases e
    exact ⟨b, hob, hd⟩
  · rw [m.trees]
    refine Calls.callWith_builtin rfl (Calls.evalArgs_plain (Calls.spliced_cons (thn (he.run pl s1 σ H1 _ J1 q1) fun y s2 hy => Calls.spliced_nil ?_)))
    obtain ⟨yv, H2, J2, ry, q2⟩ := hy
    exact mt_tupIx pl s2 σ H2 (.ref p) [yv] (.ref p) [y] Q J2 rfl (.cons ry .nil) q2
end
end BP
set_option Elab.async false
set_option linter.all false
set_option maxRecDepth 100000
set_option maxHeartbeats 4000000
namespace BP
open PySem PySem.Spec PyProof.Rows L2
theorem getC {H : Hp} {d c : Addr} {m n : Int} (h : H d = some (.dK (deckD c m n))) : DGet H d (.str "cells") (some (.ref c)) := by
  have g := DGet.k (k := kC) h
  rw [deck_C] at g
  exact g
theorem getM {H : Hp} {d c : Addr} {m n : Int} (h : H d = some (.dK (deckD c m n))) : DGet H d (.str "mixed") (some (.int m)) := by
  have g := DGet.k (k := kM) h
  rw [deck_M] at g
  exact g
theorem getD {H : Hp} {d c : Addr} {m n : Int} (h : H d = some (.dK (deckD c m n))) : DGet H d (.str "draws") (some (.int n)) := by
  have g := DGet.k (k := kD) h
  rw [deck_D] at g
  exact g
theorem putD {H : Hp} {d c : Addr} {m n k : Int} (h : H d = some (.dK (deckD c m n))) : DPut H d (.str "draws") (.int k) (upd H d (.dK (deckD c m k))) := by
  have g := DPut.k (k := kD) (v := .int k) h (by show 3 < sizeLine; decide)
  rw [deck_put] at g
  exact g
theorem modB (i : Int) {j : Int} (h : 0 < j) : 0 ≤ i % j ∧ i % j < j := ⟨Int.emod_nonneg i (by omega), Int.emod_lt_of_pos i h⟩
theorem modN (i : Int) {n : Nat} (h : 0 < n) : ∃ x : Nat, i % (n : Int) = (x : Int) ∧ x < n := by
  obtain ⟨a, b⟩ := modB i (j := (n : Int)) (by omega)
  exact ⟨(i % (n : Int)).toNat, by omega, by omega⟩
theorem cut_ints (ns : List Int) (lo hi : Option Int) : ∃ ms : List Int, cutV (ns.map V.int) lo hi = ms.map V.int ∧ ms.length ≤ ns.length := by
  refine ⟨(ns.drop (HT.sIx ns.length 0 lo)).take (HT.sIx ns.length ns.length hi - HT.sIx ns.length 0 lo), ?_, ?_⟩
  · unfold cutV
    rw [List.length_map, List.map_take, List.map_drop]
  · rw [List.length_take, List.length_drop]
    omega
end BP
namespace K13
open PySem PySem.Spec PyProof.Rows L2 BP Fld
section
variable {P : Program} {w : World} {K : PySem.W.Frag} {mg : Str → Option Value} {base : Heap}
/-! ### the deck is made -/
def spDeck (K : PySem.W.Frag) : Sp := fun vs H Q _ => ∃ (a : Addr) (ns : List Int), vs = [.ref a] ∧ SqL K H a (ns.map V.int) ∧ ns.length ≤ 63 ∧ ∀ (d c : Addr) (H' : Hp), Same H H' → H d = none → H c = none → Deck H' d c → Q (.ref d) H'
theorem ok_deck {f : Addr} {fd : FuncData} {k : Nat} (F : Fun K "_law_deck" "_law_deck" sLDeck f fd) (mi : mg "int" = none) (ml : mg "list" = none) : FnOk P w K mg base CX0 (k + 1) f fd pLDeck (spDeck K) := by
  refine F.ok scLDeck (fun vs H Q E h => ?_) (fun cdv A outer s H vs Q E hr h => ?_)
  · obtain ⟨a, ns, rfl, _⟩ := h
    rfl
  · obtain ⟨a, ns, rfl, hS, hl, want⟩ := h
    refine ⟨_, pss_cons (ps_set (i := 1) scLDeck.nd rfl (.inl rfl) pe_int)
      (pss_cons (ps_for PassesOwn.never rfl (pi_list (pe_slice sl_list (pv 0) po_none (po_some pe_int))) (pg_name (i := 2) scLDeck.nd rfl (.inl rfl))
        (pss_one (ps_set (i := 1) scLDeck.nd rfl (.inl rfl) (pe_op op_mod (pe_callTy call_int1 (by rfl) mi (by decide +kernel) (pa_cons (pe_op op_add (pe_op op_add (pe_op op_mul (pv 1) pe_int) (pe_op op_mod (pe_callTy call_int1 (by rfl) mi (by decide +kernel) (pa_cons (pv 2) pa_nil)) pe_int)) pe_int) pa_nil)) pe_int))))
      (pss_one (ps_ret (pe_disp (pps_cons pe_str (pe_revL (pe_callTy call_list_of (by rfl) ml (by decide +kernel) (pa_cons (pe_slice sl_list (pv 0) po_none (po_some pe_int)) pa_nil))) (pps_cons pe_str (pv 1) (pps_cons pe_str pe_int pps_nil)))
        (by rfl) (by rfl) (fun z => by cases z) (by decide))))), ?_⟩
    obtain ⟨ms, em, lm⟩ := cut_ints ns none (some 63)
    refine ⟨.ref a, rfl, 63, rfl, a, _, rfl, hS, fun p np => ?_⟩
    have s1 : Same H (upd H p (.lst (cutV (ns.map V.int) none (some 63)))) := same_new np
    refine ⟨p, rfl, ⟨_, .inl (.inl upd_same)⟩, for_list (xs := ms.map V.int) (fun i σ H' => H' = upd H p (.lst (cutV (ns.map V.int) none (some 63))) ∧ ∃ (m : Int) (y : Option V), σ = [some (.ref a), some (.int m), y] ∧ 0 ≤ m ∧ m < 2147483647)
      ⟨rfl, 10881033, none, rfl, by decide, by decide⟩ (fun i σ H' _ hW => ?_) (fun i x σ H' hx hW => ?_) (fun σ H' hW => ?_)⟩
    · obtain ⟨rfl, _⟩ := hW
      rw [em]
      exact .inl (.inl upd_same)
    · obtain ⟨rfl, m, y, rfl, m0, m1⟩ := hW
      obtain ⟨n, rfl⟩ : ∃ n : Int, x = .int n := by
        rw [List.getElem?_map] at hx
        cases e : ms[i]? with
        | none =>
          rw [e] at hx
          cases hx
        | some n =>
          rw [e] at hx
          exact ⟨n, (Option.some.inj hx).symm⟩
      refine ⟨.int m, rfl, m, 48271, rfl, rfl, .inl ⟨by omega, by omega⟩, .int n, rfl, .inl ⟨n, rfl, n, 2147483629, rfl, rfl, (by show (0 : Int) < _; decide), _, _, rfl, rfl, _, 41, rfl, rfl, .inl ⟨_, rfl, _, 2147483587, rfl, rfl, (by show (0 : Int) < _; decide), ?_⟩⟩⟩
      obtain ⟨z1, z2⟩ := modB (m * 48271 + n % 2147483629 + 41) (j := 2147483587) (by decide)
      exact ⟨rfl, _, _, rfl, z1, by omega⟩
    · obtain ⟨rfl, m, y, rfl, m0, m1⟩ := hW
      refine fun d nd => ⟨.ref a, rfl, 63, rfl, a, _, rfl, (same_new nd).seq (s1.seq hS), fun q nq => ?_⟩
      have s2 := s1.trans (same_new (o := .dK []) nd)
      have s3 := s2.trans (same_new (o := .lst (cutV (ns.map V.int) none (some 63))) nq)
      refine ⟨q, _, rfl, .inl (.inl (.inl upd_same)), fun l hl' => ⟨l, _, rfl, .inl (.inl upd_same), fun c nc => ?_⟩⟩
      have s4 := s3.trans (same_new (o := .lst (cutV (ns.map V.int) none (some 63))) hl')
      have s5 := s4.trans (same_new (o := .lst (cutV (ns.map V.int) none (some 63)).reverse) nc)
      have hd1 : (upd (upd H p (.lst (cutV (ns.map V.int) none (some 63)))) d (.dK [])) d = some (.dK []) := upd_same
      have hd2 := same_new (o := .lst (cutV (ns.map V.int) none (some 63))) nq _ _ hd1
      have hd3 := same_new (o := .lst (cutV (ns.map V.int) none (some 63))) hl' _ _ hd2
      have ncd : d ≠ c := ne_of_none hd3 nc
      have free_p : ∀ {b : Addr}, (upd H p (.lst (cutV (ns.map V.int) none (some 63)))) b = none → H b = none := by
        intro b hb
        cases e : H b with
        | none => rfl
        | some o =>
          rw [s1 _ _ e] at hb
          cases hb
      have hdn : H d = none := free_p nd
      have hcn : H c = none := by
        cases e : H c with
        | none => rfl
        | some o =>
          rw [s4 _ _ e] at nc
          cases nc
      refine ⟨.int m, rfl, ?_, deckD c m 0, rfl, (by show 3 ≤ 15; decide), ?_⟩
      · rw [upd_ne ncd]
        exact hd3
      · rw [deck_merge]
        refine want d c _ ?_ hdn hcn ?_
        · intro b x e
          rw [upd_ne (ne_of_none e hdn)]
          exact s5 b x e
        · refine ⟨ms.reverse, m, 0, upd_same, ?_, ?_, m0, m1⟩
          · rw [upd_ne ncd.symm, upd_same, em, List.map_reverse]
          · rw [List.length_reverse]
            omega
/-! ### a draw -/
def spDraw : Sp := fun vs H Q _ => ∃ (d c : Addr) (n : Nat), vs = [.ref d, .int n] ∧ Deck H d c ∧ 0 < n ∧ n < 1000000000 ∧ ∀ (x : Nat) (H' : Hp), x < n → But d c H H' → Deck H' d c → Q (.int x) H'
theorem ok_draw {f : Addr} {fd : FuncData} {k : Nat} (F : Fun K "_law_draw" "_law_draw" sLDraw f fd) (mi : mg "int" = none) (mm : mg "max" = none) : FnOk P w K mg base CX0 (k + 1) f fd pLDraw spDraw := by
  refine F.ok scLDraw (fun vs H Q E h => ?_) (fun cdv A outer s H vs Q E hr h => ?_)
  · obtain ⟨d, c, n, rfl, _⟩ := h
    rfl
  · obtain ⟨d, c, n, rfl, ⟨cells, m, k0, hd, hc, hl, m0, m1⟩, n0, n1, want⟩ := h
    have hu := hu_of hr
    refine ⟨_, pss_cons (ps_dput hu (pv 0) pe_str (pe_op op_add (pe_dget hu (pv 0) pe_str (fun _ _ => rfl)) pe_int) rfl)
      (pss_cons (ps_set (i := 2) scLDraw.nd rfl (.inl rfl) (pe_op op_add (pe_dget hu (pv 0) pe_str (fun _ _ => rfl)) (pe_op op_mul pe_int (pe_dget hu (pv 0) pe_str (fun _ _ => rfl)))))
      (pss_cons (ps_if (pt_cmpR (op_neD hr.units) (pe_dget hu (pv 0) pe_str (fun _ _ => rfl)) (pe_lst pa_nil) (nomark _))
        (pss_cons (ps_set (i := 3) scLDraw.nd rfl (.inl rfl) (pe_bm0 PySem.F.plainAttrs_list PySem.F.slot_list_pop PySem.F.type_list_pop mt_pop (pe_dget hu (pv 0) pe_str (fun _ _ => rfl))))
        (pss_cons (ps_if (pt_cmpR op_ge (pv 3) (pe_op op_pow pe_int pe_int) (nomark _))
          (pss_cons (ps_expr (pe_bm PySem.F.plainAttrs_list PySem.F.slot_list_append PySem.F.type_list_append mt_append (pe_dget hu (pv 0) pe_str (fun _ _ => rfl)) (pa_cons (pe_op op_fdivN (pv 3) (pe_callB (call_max2 rfl) (by rfl) mm (by decide +kernel) (pa_cons pe_int (pa_cons (pv 1) pa_nil)))) pa_nil)))
          (pss_one (ps_ret (pe_op op_mod (pe_callTy call_int1 (by rfl) mi (by decide +kernel) (pa_cons (pv 3) pa_nil)) (pv 1))))) pss_nil)
        (pss_one (ps_set (i := 2) scLDraw.nd rfl (.inl rfl) (pe_op op_add (pv 2) (pe_op op_mod (pe_callTy call_int1 (by rfl) mi (by decide +kernel) (pa_cons (pv 3) pa_nil)) pe_int)))))) pss_nil)
      (pss_cons (ps_set (i := 2) scLDraw.nd rfl (.inl rfl) (pe_op op_mod (pe_callTy call_int1 (by rfl) mi (by decide +kernel) (pa_cons (pe_op op_add (pe_op op_mul (pv 2) pe_int) pe_int) pa_nil)) pe_int))
      (pss_cons (ps_set (i := 2) scLDraw.nd rfl (.inl rfl) (pe_op op_mod (pe_callTy call_int1 (by rfl) mi (by decide +kernel) (pa_cons (pe_op op_add (pe_op op_add (pe_op op_mul (pv 2) (pv 2)) (pe_op op_mul pe_int (pe_dget hu (pv 0) pe_str (fun _ _ => rfl)))) pe_int) pa_nil)) pe_int))
      (pss_cons (ps_set (i := 2) scLDraw.nd rfl (.inl rfl) (pe_op op_mod (pe_callTy call_int1 (by rfl) mi (by decide +kernel) (pa_cons (pe_op op_mul (pv 2) pe_int) pa_nil)) pe_int))
      (pss_one (ps_ret (pe_op op_mod (pe_callTy call_int1 (by rfl) mi (by decide +kernel) (pa_cons (pe_op op_fdiv (pv 2) pe_int) pa_nil)) (pv 1))))))))), ?_⟩
    -- draws
    refine ⟨.ref d, rfl, d, .int k0, rfl, getD hd, k0, 1, rfl, rfl, .ref d, rfl, d, _, rfl, putD hd, ?_⟩
    have ndc : d ≠ c := ne_of hd hc (by intro z; cases z)
    generalize k0 + 1 = dr
    have hd1 : (upd H d (.dK (deckD c m dr))) d = some (.dK (deckD c m dr)) := upd_same
    have hc1 : (upd H d (.dK (deckD c m dr))) c = some (.lst (cells.map V.int)) := by
      rw [upd_ne ndc.symm]
      exact hc
    have b1 : But d c H (upd H d (.dK (deckD c m dr))) := fun b x e1 e2 e => by
      rw [upd_ne e1]
      exact e
    generalize upd H d (.dK (deckD c m dr)) = H1 at hd1 hc1 b1 ⊢
    refine ⟨.ref d, rfl, d, .int m, rfl, getM hd1, .ref d, rfl, d, .int dr, rfl, getD hd1, 61473, dr, rfl, rfl, .inl ⟨by decide, by decide⟩, m, _, rfl, rfl, ?_⟩
    have done : ∀ (i : Int) (H' : Hp), But d c H H' → Deck H' d c → Q (.int (i % (n : Int))) H' := by
      intro i H' hb hk
      obtain ⟨x, e, hx⟩ := modN i n0
      rw [e]
      exact want x H' hx hb hk
    -- the cells
    refine ⟨.ref d, rfl, d, .ref c, rfl, getC hd1, Nat.zero_le _, fun p np => ?_⟩
    have sp := same_new (o := .lst []) np
    have hd2 := sp _ _ hd1
    have hc2 := sp _ _ hc1
    have b2 := b1.trans (But.of sp)
    have hp2 : (upd H1 p (.lst [])) p = some (.lst (([] : List Int).map V.int)) := upd_same
    generalize upd H1 p (.lst []) = H2 at hd2 hc2 b2 hp2 ⊢
    refine ⟨dat cells, dat [], dp_ints (.inl (.inl hc2)), dp_ints (.inl (.inl hp2)), shaped_ints _, shaped_ints _, _, rfl, ?_⟩
    rw [eqv_nil]
    cases cells with
    | nil =>
      refine iteF ?_
      obtain ⟨z1, z2⟩ := modB ((m + 61473 * dr) * 39373 + 41) (j := 2147483647) (by decide)
      obtain ⟨z3, z4⟩ := modB ((((m + 61473 * dr) * 39373 + 41) % 2147483647) * (((m + 61473 * dr) * 39373 + 41) % 2147483647) + 52713 * dr + 71) (j := 2147483587) (by decide)
      refine ⟨.int (m + 61473 * dr), rfl, (m + 61473 * dr), 39373, rfl, rfl, .inr ⟨by decide, by decide⟩, _, 41, rfl, rfl, .inl ⟨_, rfl, _, 2147483647, rfl, rfl, (by show (0 : Int) < _; decide), ?_⟩⟩
      refine ⟨.int (((m + 61473 * dr) * 39373 + 41) % 2147483647), rfl, .int (((m + 61473 * dr) * 39373 + 41) % 2147483647), rfl, (((m + 61473 * dr) * 39373 + 41) % 2147483647), (((m + 61473 * dr) * 39373 + 41) % 2147483647), rfl, rfl, .inl ⟨by omega, by omega⟩, .ref d, rfl, d, .int dr, rfl, getD hd2, 52713, dr, rfl, rfl, .inl ⟨by decide, by decide⟩, _, _, rfl, rfl, _, 71, rfl, rfl, .inl ⟨_, rfl, _, 2147483587, rfl, rfl, (by show (0 : Int) < _; decide), ?_⟩⟩
      refine ⟨.int (((((m + 61473 * dr) * 39373 + 41) % 2147483647) * (((m + 61473 * dr) * 39373 + 41) % 2147483647) + 52713 * dr + 71) % 2147483587), rfl, (((((m + 61473 * dr) * 39373 + 41) % 2147483647) * (((m + 61473 * dr) * 39373 + 41) % 2147483647) + 52713 * dr + 71) % 2147483587), 40692, rfl, rfl, .inl ⟨by omega, by omega⟩, .inl ⟨_, rfl, _, 2147483563, rfl, rfl, (by show (0 : Int) < _; decide), ?_⟩⟩
      refine ⟨_, rfl, _, 64, rfl, rfl, ⟨by decide, by decide⟩, .inl ⟨_, rfl, .int n, rfl, _, n, rfl, rfl, (by show (0 : Int) < (n : Int); omega), ?_⟩⟩
      exact done _ _ b2 ⟨[], m, dr, hd2, hc2, Nat.zero_le _, m0, m1⟩
    | cons y0 ys =>
      refine iteT ?_
      obtain ⟨xs, x, ex⟩ : ∃ xs x, y0 :: ys = xs ++ [x] := ⟨(y0 :: ys).dropLast, (y0 :: ys).getLast (by simp), (List.dropLast_concat_getLast (by simp)).symm⟩
      rw [ex] at hc2 hl
      have lx : xs.length ≤ 62 := by
        rw [List.length_append] at hl
        simpa using hl
      have eM : (xs ++ [x]).map V.int = xs.map V.int ++ [.int x] := by simp
      rw [eM] at hc2
      refine ⟨.ref d, rfl, d, .ref c, rfl, getC hd2, .inl ⟨rfl, _, .inl (.inl hc2)⟩, c, _, .int x, rfl, rfl, hc2, ?_, ?_⟩
      · rw [List.length_append, List.getElem?_append_right (by simp)]
        simp
      · rw [List.dropLast_concat]
        have hc3 : (upd H2 c (.lst (xs.map V.int))) c = some (.lst (xs.map V.int)) := upd_same
        have hd3 : (upd H2 c (.lst (xs.map V.int))) d = some (.dK (deckD c m dr)) := by
          rw [upd_ne ndc]
          exact hd2
        have b3 : But d c H (upd H2 c (.lst (xs.map V.int))) := b2.trans fun b z e1 e2 e => by
          rw [upd_ne e2]
          exact e
        generalize upd H2 c (.lst (xs.map V.int)) = H3 at hc3 hd3 b3 ⊢
        refine ⟨.int x, rfl, 10, 18, rfl, rfl, ⟨by decide, by decide, by decide⟩, x, _, rfl, rfl, _, rfl, ite2 (fun _ => ?_) (fun _ => ?_)⟩
        · refine ⟨.ref d, rfl, d, .ref c, rfl, getC hd3, .inl ⟨rfl, _, .inl (.inl hc3)⟩, .int x, rfl, .int n, rfl, 2, n, rfl, x, _, rfl, rfl, ?_, ?_⟩
          · show (if (n : Int) > 2 then (n : Int) else 2) ≠ 0 ∧ (if (n : Int) > 2 then (n : Int) else 2).natAbs < 1073741824
            split <;> omega
          · refine ⟨c, xs.map V.int, _, rfl, rfl, hc3, ?_, ?_⟩
            · rw [List.length_map]
              exact small1000 (by omega)
            · refine ⟨.int x, rfl, .inl ⟨x, rfl, .int n, rfl, x, n, rfl, rfl, (by show (0 : Int) < (n : Int); omega), ?_⟩⟩
              refine done x _ (b3.trans fun b z e1 e2 e => ?_) ⟨xs ++ [x.fdiv (if (n : Int) > 2 then (n : Int) else 2)], m, dr, ?_, ?_, ?_, m0, m1⟩
              · rw [upd_ne e2]
                exact e
              · rw [upd_ne ndc]
                exact hd3
              · rw [upd_same, List.map_append]
                rfl
              · rw [List.length_append]
                show xs.length + 1 ≤ 63
                omega
        · refine ⟨.int (m + 61473 * dr), rfl, .int x, rfl, .inl ⟨x, rfl, x, 2147483629, rfl, rfl, (by show (0 : Int) < _; decide), (m + 61473 * dr), _, rfl, rfl, ?_⟩⟩
          obtain ⟨z1, z2⟩ := modB ((m + 61473 * dr + x % 2147483629) * 39373 + 41) (j := 2147483647) (by decide)
          obtain ⟨z3, z4⟩ := modB ((((m + 61473 * dr + x % 2147483629) * 39373 + 41) % 2147483647) * (((m + 61473 * dr + x % 2147483629) * 39373 + 41) % 2147483647) + 52713 * dr + 71) (j := 2147483587) (by decide)
          refine ⟨.int (m + 61473 * dr + x % 2147483629), rfl, (m + 61473 * dr + x % 2147483629), 39373, rfl, rfl, .inr ⟨by decide, by decide⟩, _, 41, rfl, rfl, .inl ⟨_, rfl, _, 2147483647, rfl, rfl, (by show (0 : Int) < _; decide), ?_⟩⟩
          refine ⟨.int (((m + 61473 * dr + x % 2147483629) * 39373 + 41) % 2147483647), rfl, .int (((m + 61473 * dr + x % 2147483629) * 39373 + 41) % 2147483647), rfl, (((m + 61473 * dr + x % 2147483629) * 39373 + 41) % 2147483647), (((m + 61473 * dr + x % 2147483629) * 39373 + 41) % 2147483647), rfl, rfl, .inl ⟨by omega, by omega⟩, .ref d, rfl, d, .int dr, rfl, getD hd3, 52713, dr, rfl, rfl, .inl ⟨by decide, by decide⟩, _, _, rfl, rfl, _, 71, rfl, rfl, .inl ⟨_, rfl, _, 2147483587, rfl, rfl, (by show (0 : Int) < _; decide), ?_⟩⟩
          refine ⟨.int (((((m + 61473 * dr + x % 2147483629) * 39373 + 41) % 2147483647) * (((m + 61473 * dr + x % 2147483629) * 39373 + 41) % 2147483647) + 52713 * dr + 71) % 2147483587), rfl, (((((m + 61473 * dr + x % 2147483629) * 39373 + 41) % 2147483647) * (((m + 61473 * dr + x % 2147483629) * 39373 + 41) % 2147483647) + 52713 * dr + 71) % 2147483587), 40692, rfl, rfl, .inl ⟨by omega, by omega⟩, .inl ⟨_, rfl, _, 2147483563, rfl, rfl, (by show (0 : Int) < _; decide), ?_⟩⟩
          refine ⟨_, rfl, _, 64, rfl, rfl, ⟨by decide, by decide⟩, .inl ⟨_, rfl, .int n, rfl, _, n, rfl, rfl, (by show (0 : Int) < (n : Int); omega), ?_⟩⟩
          exact done _ _ b3 ⟨xs, m, dr, hd3, hc3, by omega, m0, m1⟩
/-! ### one of some -/
def spPick : Sp := fun vs H Q _ => ∃ (d c l : Addr) (xs : List V), vs = [.ref d, .ref l] ∧ Deck H d c ∧ l ≠ c ∧ H l = some (.lst xs) ∧ 0 < xs.length ∧ xs.length < 1000 ∧ ∀ (x : V) (H' : Hp), x ∈ xs → But d c H H' → Deck H' d c → Q x H'
theorem ok_pick {f fD : Addr} {fd fdD : FuncData} (F : Fun K "_law_pick" "_law_pick" sLPick f fd) (D : BP.Can P w K mg base "_law_draw" 1 pLDraw spDraw fD fdD) (ml : mg "len" = none) : FnOk P w K mg base CX0 2 f fd pLPick spPick := by
  refine F.ok scLPick (fun vs H Q E h => ?_) (fun cdv A outer s H vs Q E hr h => ?_)
  · obtain ⟨d, c, l, xs, rfl, _⟩ := h
    rfl
  · obtain ⟨d, c, l, xs, rfl, hk, nl, hx, x0, x1, want⟩ := h
    refine ⟨_, pss_one (ps_ret (pe_ix ix_list (pv 1) (pe_call D.ok hr (by rfl) D.g D.kp D.b .nil pass0 (pa_cons (pv 0) (pa_cons (pe_callB call_len_seq (by rfl) ml PySem.boot_len (pa_cons (pv 1) pa_nil)) pa_nil))) (fun _ _ => rfl))), ?_⟩
    refine ⟨.ref l, rfl, .ref d, rfl, .ref l, rfl, l, xs, rfl, .inl (.inl (.inl hx)), d, c, xs.length, rfl, hk, x0, by omega, fun x H' hlt hb hk' => ?_⟩
    have hx' := hb _ _ (hk.lst hx nl) nl hx
    exact ⟨l, xs, x, xs[x], rfl, rfl, .inl (.inl hx'), atI_nat (List.getElem?_eq_getElem hlt), want _ H' (List.getElem_mem hlt) hb hk'⟩
/-! ### a field number -/
def spSF : Sp := fun vs H Q _ => ∃ (d c : Addr), vs = [.ref d] ∧ Deck H d c ∧ ∀ (q : Nat) (H' : Hp), q ∈ fields → But d c H H' → Deck H' d c → Q (.int q) H'
theorem in_fields {ls : List Int} {x : V} (hx : x ∈ ls.map V.int) (h : ls.all (fun i => fields.any fun q => decide (i = (q : Int))) = true) : ∃ q : Nat, q ∈ fields ∧ x = .int q := by
  obtain ⟨i, hi, rfl⟩ := List.mem_map.mp hx
  obtain ⟨q, hq, e⟩ := List.any_eq_true.mp (List.all_eq_true.mp h i hi)
  exact ⟨q, hq, by rw [of_decide_eq_true e]⟩
end
end K13
set_option Elab.async false
set_option linter.all false
set_option maxRecDepth 100000
set_option maxHeartbeats 4000000
set_option pp.maxSteps 1000
namespace BP
open PySem PySem.Spec PyProof.Rows L2 Fld
/-- whether the number is in a module's dict with numbers for keys -/
theorem op_in_kint {X : Cx} : OpR X (compareOp .In) (fun x y H Q => ∃ p i es n, x = .int i ∧ y = .ref p ∧ X.K.lookup p = some ⟨.type "dict", none, .dict es n, #[]⟩ ∧ keysI es.toList = true ∧ (p == sysModules) = false ∧ Q (.bl (findBy Value.isInt es i).isSome) H) := by
  intro pins s σ H x y v u Q I rx ry h
  obtain ⟨p, i, es, n, rfl, rfl, hl, hk, low, q⟩ := h
  obtain ⟨t, rfl⟩ := rx
  obtain rfl : u = Value.ref p := ry
  have hm : s.heap.MapOf (intKind X.prog X.w) p (fun k => findBy Value.isInt es k) := by
    refine ⟨_, es, n, I.kIn _ _ hl, ⟨rfl, rfl, rfl⟩, rfl, fun e he => ?_, fun _ => rfl⟩
    have z := List.all_eq_true.mp hk e (Array.mem_toList_iff.mpr he)
    split at z
    · rename_i i' t' ek
      refine ⟨i', ?_, beq_iff_eq.mp z⟩
      rw [ek]
      exact intKind_is X.prog X.w i' t'
    · cases z
  exact wpAny_in_of (intKind_is X.prog X.w i t) low hm ⟨.bl (findBy Value.isInt es i).isSome, H, I.tok _, rfl, q⟩
/-- the module's dict of characteristics: its keys are the fields -/
def charIs (K : PySem.W.Frag) (d : Addr) : Bool := !(d == sysModules) && (match K.lookup d with
  | some ⟨.type "dict", none, .dict es _, sl⟩ => decide (sl.size = 0) && keysI es.toList && (es.toList.all fun e => match e.key with
    | .int i _ => fields.any fun q => decide (i = (q : Int))
    | _ => false) && fields.all fun q => (match findBy Value.isInt es ((q : Nat) : Int) with
    | some (.int c _) => decide (c = (chr q : Nat))
    | _ => false)
  | _ => false)
def isI : V → Bool
  | .int _ => true
  | _ => false
def isB : V → Bool
  | .bl _ => true
  | _ => false
/-- whether the value is a field's number -/
def isFd : V → Bool
  | .int i => fields.any fun q => decide (i = (q : Int))
  | _ => false
def isNm (q : Nat) : V → Bool
  | .int i => decide (0 ≤ i) && decide (i < (q : Int))
  | _ => false
structure CharAt (K : PySem.W.Frag) (d : Addr) : Prop where
  mem : ∃ es n, K.lookup d = some ⟨.type "dict", none, .dict es n, #[]⟩ ∧ keysI es.toList = true ∧ (d == sysModules) = false ∧ ∀ i : Int, (findBy Value.isInt es i).isSome = isFd (.int i)
  at_ : ∀ q ∈ fields, KDI K d (q : Nat) (.int (chr q : Nat))
theorem char_at {K : PySem.W.Frag} {d : Addr} (h : charIs K d = true) : CharAt K d := by
  unfold charIs at h
  rw [Bool.and_eq_true] at h
  obtain ⟨low, h⟩ := h
  have low : (d == sysModules) = false := by simpa using low
  split at h
  · rename_i es n sl e
    simp only [Bool.and_eq_true] at h
    obtain ⟨⟨⟨h1, h2⟩, h3⟩, h4⟩ := h
    have es0 : sl = #[] := Array.eq_empty_of_size_eq_zero (of_decide_eq_true h1)
    subst es0
    refine ⟨⟨es, n, e, h2, low, fun i => ?_⟩, fun q hq => ?_⟩
    · cases hf : isFd (.int i) with
      | true =>
        obtain ⟨q, hq, eq⟩ := List.any_eq_true.mp hf
        have eq := of_decide_eq_true eq
        subst eq
        have z := List.all_eq_true.mp h4 q hq
        split at z
        · rename_i c t f
          rw [f]
          rfl
        · cases z
      | false =>
        unfold findBy
        rw [Option.isSome_map]
        cases hfd : es.find? (fun e => Value.isInt i e.key) with
        | none => rfl
        | some e0 =>
          exfalso
          have p := Array.find?_some hfd
          have m := Array.mem_of_find?_eq_some hfd
          have z := List.all_eq_true.mp h3 e0 (Array.mem_toList_iff.mpr m)
          split at z
          · rename_i j t ek
            rw [ek] at p
            have ej : j = i := by
              simp [Value.isInt] at p
              omega
            rw [ej] at z
            have z : isFd (.int i) = true := z
            rw [hf] at z
            cases z
          · cases z
    · have z := List.all_eq_true.mp h4 q hq
      split at z
      · rename_i c t f
        refine ⟨es, n, _, e, h2, f, ?_⟩
        rw [of_decide_eq_true z]
        exact ⟨t, rfl⟩
      · cases z
  · cases h
/-- a value of any kind: whole numbers and truth values are known, of all else that it is none of them -/
def Wh (K : PySem.W.Frag) (H : Hp) (v : V) : Prop := (∃ i : Int, v = .int i) ∨ (∃ b : Bool, v = .bl b) ∨ (isI v = false ∧ isB v = false ∧ ∃ t, TyX K H v t ∧ PySem.W.kitOne K t (.type "int") = some false)
theorem wh_int {K : PySem.W.Frag} {H : Hp} {v : V} {i : Nat} {σ : L2.St} {Q : VK} (hi : σ[i]? = some (some v)) (h : Wh K H v) (k : Q (.bl (isI v || isB v)) H) : tCB (rIsi K) (tCons (tVar i) (tCons (tC (V.ty "int")) tNil)) σ H Q := by
  refine ⟨v, hi, v, .ty "int", ?_⟩
  rcases h with ⟨j, rfl⟩ | ⟨b, rfl⟩ | ⟨h1, h2, t, ty, e⟩
  · exact ⟨_, _, true, rfl, .ty "int", .base (.int j), kit_ty (by decide +kernel), k⟩
  · exact ⟨_, _, true, rfl, .ty "int", .base (.bl b), kit_ty (by decide +kernel), k⟩
  · rw [h1, h2] at k
    exact ⟨_, _, false, rfl, .ty "int", ty, e, k⟩
/-- .. and not of the truth values -/
theorem wh_bool {K : PySem.W.Frag} {H : Hp} {v : V} {i : Nat} {σ : L2.St} {Q : VK} (hi : σ[i]? = some (some v)) (h : (isI v || isB v) = true) (k : Q (.bl (isB v)) H) : tCB (rIsi K) (tCons (tVar i) (tCons (tC (V.ty "bool")) tNil)) σ H Q := by
  refine ⟨v, hi, v, .ty "bool", ?_⟩
  cases v with
  | int j => exact ⟨_, _, false, rfl, .ty "bool", .base (.int j), kit_ty (by decide +kernel), k⟩
  | bl b => exact ⟨_, _, true, rfl, .ty "bool", .base (.bl b), kit_ty (by decide +kernel), k⟩
  | _ => simp [isI, isB] at h
def spInt (K : PySem.W.Frag) : Sp := fun vs H Q _ => ∃ v, vs = [v] ∧ Wh K H v ∧ Q (.bl (isI v)) H
def spIsFd (K : PySem.W.Frag) : Sp := fun vs H Q _ => ∃ v, vs = [v] ∧ Wh K H v ∧ ∀ H', Same H H' → Q (.bl (isFd v)) H'
def spIsNm (K : PySem.W.Frag) : Sp := fun vs H Q _ => ∃ (q : Nat) (v : V), vs = [.int (q : Nat), v] ∧ Wh K H v ∧ Q (.bl (isNm q v)) H
def spChar : Sp := fun vs H Q _ => ∃ q : Nat, vs = [.int (q : Nat)] ∧ q ∈ fields ∧ Q (.int (chr q : Nat)) H
end BP
namespace K13
open PySem PySem.Spec PyProof.Rows L2 BP Fld
section
variable {P : Program} {w : World} {K : PySem.W.Frag} {mg : Str → Option Value} {base : Heap}
/-- what isinstance of a number, and not of a truth value, comes to -/
theorem int_only {v : V} {i : Nat} {σ : L2.St} {H : Hp} {Q : VK} (hi : σ[i]? = some (some v)) (h : Wh K H v) {tb : TE} (k : isI v = true → tb σ H Q) (k0 : isI v = false → Q (.bl false) H) :
    tAndV (tCB (rIsi K) (tCons (tVar i) (tCons (tC (V.ty "int")) tNil))) (tAndV (tNotV (tCB (rIsi K) (tCons (tVar i) (tCons (tC (V.ty "bool")) tNil)))) tb) σ H Q := by
  refine wh_int hi h ⟨_, rfl, ite2 (fun z => wh_bool hi z ⟨_, rfl, _, rfl, ?_⟩) (fun z => ?_)⟩
  · cases v with
    | int j => exact iteT (k rfl)
    | bl b => exact iteF (k0 rfl)
    | _ => simp [isI, isB] at z
  · refine k0 ?_
    cases hv : isI v with
    | false => rfl
    | true =>
      rw [hv] at z
      exact absurd rfl z
theorem ok_isint {f : Addr} {fd : FuncData} {k : Nat} (F : Fun K "is_integer" "is_integer" sIsInteger f fd) (m_isinstance : mg "isinstance" = none) (m_int : mg "int" = none) (m_bool : mg "bool" = none) : FnOk P w K mg base CX0 (k + 1) f fd pIsInteger (spInt K) := by
  refine F.ok scIsInteger (fun vs H Q E h => ?_) (fun cdv A outer s H vs Q E hr h => ?_)
  · obtain ⟨v, rfl, _⟩ := h
    rfl
  · obtain ⟨v, rfl, hv, want⟩ := h
    refine ⟨_, (pss_one (ps_ret (pe_and (pe_callB call_isi (by rfl) m_isinstance (by decide +kernel) (pa_cons (pv 0) (pa_cons (pe_bltn (v := .ty "int") (by rfl) m_int (by decide +kernel) rfl) pa_nil))) (pe_one (pe_not (pe_callB call_isi (by rfl) m_isinstance (by decide +kernel) (pa_cons (pv 0) (pa_cons (pe_bltn (v := .ty "bool") (by rfl) m_bool (by decide +kernel) rfl) pa_nil)))))))), ?_⟩
    refine wh_int rfl hv ⟨_, rfl, ite2 (fun z => wh_bool rfl z ⟨_, rfl, ?_⟩) (fun z => ?_)⟩
    · cases v with
      | int j => exact want
      | bl b => exact want
      | _ => simp [isI, isB] at z
    · cases hi : isI v with
      | false =>
        rw [hi] at want
        exact want
      | true =>
        rw [hi] at z
        exact absurd rfl z
end
end K13
set_option Elab.async false
set_option linter.all false
set_option maxRecDepth 100000
set_option maxHeartbeats 4000000
set_option pp.maxSteps 1000
theorem L2.Same.rf {H : L2.Hp} : L2.Same H H := fun _ _ z => z
namespace BP
open PySem PySem.Spec PyProof.Rows L2 Fld
structure LH (K : PySem.W.Frag) (C : Addr) : Prop where
  cl : Cls K C
  n1 : NoAttr K C "q"
  n2 : NoAttr K C "steps"
  n3 : NoAttr K C "promised"
  n4 : NoAttr K C "past"
  n5 : NoAttr K C "future"
  ha : PySem.W.findIn K (.ref C) "__class__" = some (some (.builtin "object.__class__"))
  hn : PySem.W.specialIn K (.builtin "object.__class__") "__get__" = some (some (.builtin "getset_descriptor.__get__"))
  ht : PySem.W.takesIn K (.builtin "object.__class__") = some true
  hm : PySem.W.mroIn K C (.type "object") = some true
  ni : PySem.W.kitOne K (.ref C) (.type "int") = some false
theorem putF_len (f : Str) (v : V) : ∀ fs : List (Str × V), (putF f v fs).length ≤ fs.length + 1
  | [] => Nat.le_refl _
  | (g, x) :: r => by
    unfold putF
    split
    · exact Nat.le_succ _
    · exact Nat.succ_le_succ (putF_len f v r)
/-- while a house is made: all else stays, it has so many fields at most -/
def HJ (H0 : Hp) (x C dx : Addr) (n : Nat) (H' : Hp) : Prop := (∀ b o, b ≠ x → H0 b = some o → H' b = some o) ∧ ∃ fs, H' x = some (.ins C dx fs) ∧ fs.length ≤ n
theorem HJ.new {H0 H' : Hp} {x C dx p : Addr} {n : Nat} {o : HO} (h : HJ H0 x C dx n H') (np : H' p = none) : HJ H0 x C dx n (upd H' p o) := by
  obtain ⟨h1, fs, h2, h3⟩ := h
  refine ⟨fun b u nb e => ?_, fs, ?_, h3⟩
  · rw [upd_ne (ne_of_none (h1 b u nb e) np)]
    exact h1 b u nb e
  · rw [upd_ne (ne_of_none h2 np)]
    exact h2
theorem HJ.put {H0 H' : Hp} {x C dx : Addr} {n : Nat} {f : Str} {y : V} {fs : List (Str × V)} (h : HJ H0 x C dx n H') (e : H' x = some (.ins C dx fs)) (l : fs.length ≤ n) : HJ H0 x C dx (n + 1) (upd H' x (.ins C dx (putF f y fs))) := by
  refine ⟨fun b u nb eb => ?_, _, upd_same, Nat.le_trans (putF_len f y fs) (Nat.succ_le_succ l)⟩
  rw [upd_ne nb]
  exact h.1 b u nb eb
def spHI (C : Addr) : Sp := fun vs H Q _ => ∃ (x dx : Addr) (v : V), vs = [.ref x, v] ∧ H x = some (.ins C dx []) ∧ ∀ (fs : List (Str × V)) (H' : Hp), (∀ b o, b ≠ x → H b = some o → H' b = some o) → H' x = some (.ins C dx fs) → Q .non H'
def spQ : Sp := fun vs H Q _ => ∃ (d c : Addr), vs = [.ref d] ∧ Deck H d c ∧ ∀ (q : Nat) (H' : Hp), q ∈ fields → But d c H H' → Deck H' d c → Q (.int (q : Nat)) H'
theorem in_fd (j : Int) : inV (.int j) [V.int 2, .int 3, .int 4, .int 5, .int 7, .int 8, .int 9, .int 11, .int 13, .int 16] = isFd (.int j) := by
  have e : ∀ a : Int, eqV (.int a) (.int j) = decide (j = a) := fun a => by
    by_cases h : j = a
    · subst h
      simp [eqV]
    · have h2 : ¬ a = j := fun z => h z.symm
      simp [eqV, h, h2]
  unfold inV isFd fields
  simp only [List.any_cons, List.any_nil, e]
  rfl
end BP
namespace K13
open PySem PySem.Spec PyProof.Rows L2 BP Fld
section
variable {P : Program} {w : World} {K : PySem.W.Frag} {mg : Str → Option Value} {base : Heap}
theorem ok_isnm {f fINT : Addr} {fd fdINT : FuncData} (F : Fun K "is_number" "is_number" sIsNumber f fd) (INT : BP.Can P w K mg base "is_integer" 1 pIsInteger (spInt K) fINT fdINT) : FnOk P w K mg base CX0 2 f fd pIsNumber (spIsNm K) := by
  refine F.ok scIsNumber (fun vs H Q E h => ?_) (fun cdv A outer s H vs Q E hr h => ?_)
  · obtain ⟨q, v, rfl, _⟩ := h
    rfl
  · obtain ⟨q, v, rfl, hv, want⟩ := h
    refine ⟨_, (pss_one (ps_ret (pe_and (pe_call INT.ok hr (by rfl) INT.g INT.kp INT.b .nil pass0 (pa_cons (pv 1) pa_nil)) (pe_one (pe_chain op_le op_lt pe_int (pv 1) (pv 0)))))), ?_⟩
    refine ⟨v, rfl, v, rfl, hv, _, rfl, ite2 (fun z => ?_) (fun z => ?_)⟩
    · cases v with
      | int j =>
        refine ⟨.int j, rfl, _, _, rfl, rfl, _, rfl, ite2 (fun h0 => ⟨.int (q : Nat), rfl, _, _, rfl, rfl, ?_⟩) (fun h0 => ?_)⟩
        · have e : isNm q (.int j) = decide (j < (q : Int)) := by
            show (decide (0 ≤ j) && decide (j < (q : Int))) = _
            rw [h0]
            rfl
          rw [e] at want
          exact want
        · have e : isNm q (.int j) = false := by
            show (decide (0 ≤ j) && decide (j < (q : Int))) = _
            rw [Bool.eq_false_iff.mpr h0]
            rfl
          rw [e] at want
          exact want
      | _ => simp [isI] at z
    · have e : isNm q v = false := by
        cases v with
        | int j => exact absurd rfl z
        | _ => rfl
      rw [e] at want
      exact want
theorem ok_lisnm {f : Addr} {fd : FuncData} {k : Nat} (F : Fun K "_law_is_number" "_law_is_number" sLIsNumber f fd) (m_isinstance : mg "isinstance" = none) (m_int : mg "int" = none) (m_bool : mg "bool" = none) : FnOk P w K mg base CX0 (k + 1) f fd pLIsNumber (spIsNm K) := by
  refine F.ok scLIsNumber (fun vs H Q E h => ?_) (fun cdv A outer s H vs Q E hr h => ?_)
  · obtain ⟨q, v, rfl, _⟩ := h
    rfl
  · obtain ⟨q, v, rfl, hv, want⟩ := h
    refine ⟨_, (pss_one (ps_ret (pe_and (pe_callB call_isi (by rfl) m_isinstance (by decide +kernel) (pa_cons (pv 1) (pa_cons (pe_bltn (v := .ty "int") (by rfl) m_int (by decide +kernel) rfl) pa_nil))) (pe_and (pe_not (pe_callB call_isi (by rfl) m_isinstance (by decide +kernel) (pa_cons (pv 1) (pa_cons (pe_bltn (v := .ty "bool") (by rfl) m_bool (by decide +kernel) rfl) pa_nil)))) (pe_one (pe_chain op_le op_lt pe_int (pv 1) (pv 0))))))), ?_⟩
    refine int_only rfl hv (fun z => ?_) (fun z => ?_)
    · cases v with
      | int j =>
        refine ⟨.int j, rfl, _, _, rfl, rfl, _, rfl, ite2 (fun h0 => ⟨.int (q : Nat), rfl, _, _, rfl, rfl, ?_⟩) (fun h0 => ?_)⟩
        · have e : isNm q (.int j) = decide (j < (q : Int)) := by
            show (decide (0 ≤ j) && decide (j < (q : Int))) = _
            rw [h0]
            rfl
          rw [e] at want
          exact want
        · have e : isNm q (.int j) = false := by
            show (decide (0 ≤ j) && decide (j < (q : Int))) = _
            rw [Bool.eq_false_iff.mpr h0]
            rfl
          rw [e] at want
          exact want
      | _ => simp [isI] at z
    · have e : isNm q v = false := by
        cases v with
        | int j => simp [isI] at z
        | _ => rfl
      rw [e] at want
      exact want
theorem ok_hinit {C f : Addr} {fd : FuncData} {k : Nat} (F : Fun K "__init__" "House.__init__" sHouseInit f fd) (L : LH K C) : FnOk P w K mg base CX0 (k + 1) f fd pHouseInit (spHI C) := by
  refine F.ok scHouseInit (fun vs H Q E h => ?_) (fun cdv A outer s H vs Q E hr h => ?_)
  · obtain ⟨x, dx, v, rfl, _⟩ := h
    rfl
  · obtain ⟨x, dx, v, rfl, hx, want⟩ := h
    refine ⟨_, (pss_cons (ps_fld (pv 0) (pv 1) rfl)
      (pss_cons (ps_fld (pv 0) pe_dnewK rfl)
      (pss_cons (ps_fld (pv 0) (pe_tup pa_nil) rfl)
      (pss_cons (ps_fld (pv 0) (pe_lst pa_nil) rfl)
      (pss_one (ps_fld (pv 0) (pe_lst pa_nil) rfl)))))), ?_⟩
    have J0 : HJ H x C dx 0 H := ⟨fun b o _ e => e, [], hx, Nat.le_refl _⟩
    obtain ⟨f0, e0, l0⟩ := J0.2
    refine ⟨v, rfl, .ref x, rfl, x, C, dx, f0, rfl, e0, L.cl, L.n1, by omega, ?_⟩
    have J1 := J0.put (f := "q") (y := v) e0 l0
    generalize upd H x (.ins C dx (putF "q" v f0)) = H1 at J1 ⊢
    refine fun p1 np1 => ?_
    have J1 := J1.new (o := .dK []) np1
    generalize upd H1 p1 (.dK []) = H2 at J1 ⊢
    obtain ⟨f1, e1, l1⟩ := J1.2
    refine ⟨.ref x, rfl, x, C, dx, f1, rfl, e1, L.cl, L.n2, by omega, ?_⟩
    have J2 := J1.put (f := "steps") (y := .ref p1) e1 l1
    generalize upd H2 x (.ins C dx (putF "steps" (.ref p1) f1)) = H3 at J2 ⊢
    refine ⟨Nat.zero_le _, fun p2 np2 => ?_⟩
    have J2 := J2.new (o := .tup []) np2
    generalize upd H3 p2 (.tup []) = H4 at J2 ⊢
    obtain ⟨f2, e2, l2⟩ := J2.2
    refine ⟨.ref x, rfl, x, C, dx, f2, rfl, e2, L.cl, L.n3, by omega, ?_⟩
    have J3 := J2.put (f := "promised") (y := .ref p2) e2 l2
    generalize upd H4 x (.ins C dx (putF "promised" (.ref p2) f2)) = H5 at J3 ⊢
    refine ⟨Nat.zero_le _, fun p3 np3 => ?_⟩
    have J3 := J3.new (o := .lst []) np3
    generalize upd H5 p3 (.lst []) = H6 at J3 ⊢
    obtain ⟨f3, e3, l3⟩ := J3.2
    refine ⟨.ref x, rfl, x, C, dx, f3, rfl, e3, L.cl, L.n4, by omega, ?_⟩
    have J4 := J3.put (f := "past") (y := .ref p3) e3 l3
    generalize upd H6 x (.ins C dx (putF "past" (.ref p3) f3)) = H7 at J4 ⊢
    refine ⟨Nat.zero_le _, fun p4 np4 => ?_⟩
    have J4 := J4.new (o := .lst []) np4
    generalize upd H7 p4 (.lst []) = H8 at J4 ⊢
    obtain ⟨f4, e4, l4⟩ := J4.2
    refine ⟨.ref x, rfl, x, C, dx, f4, rfl, e4, L.cl, L.n5, by omega, ?_⟩
    have J5 := J4.put (f := "future") (y := .ref p4) e4 l4
    exact want _ _ J5.1 upd_same
theorem ok_lq {f fDR fPK : Addr} {fd fdDR fdPK : FuncData} (F : Fun K "_law_q" "_law_q" sLQ f fd) (DR : BP.Can P w K mg base "_law_draw" 1 pLDraw spDraw fDR fdDR) (PK : BP.Can P w K mg base "_law_pick" 2 pLPick spPick fPK fdPK) : FnOk P w K mg base CX0 3 f fd pLQ spQ := by
  refine F.ok scLQ (fun vs H Q E h => ?_) (fun cdv A outer s H vs Q E hr h => ?_)
  · obtain ⟨d, c, rfl, _⟩ := h
    rfl
  · obtain ⟨d, c, rfl, hk, want⟩ := h
    refine ⟨_, (pss_cons (ps_if (pt_cmpR op_gt (pe_call DR.ok (hr.mono (show 1 ≤ 2 by decide)) (by rfl) DR.g DR.kp DR.b .nil pass0 (pa_cons (pv 0) (pa_cons pe_int pa_nil))) pe_int (nomark _)) (pss_one (ps_ret (pe_op op_add pe_int (pe_call DR.ok (hr.mono (show 1 ≤ 2 by decide)) (by rfl) DR.g DR.kp DR.b .nil pass0 (pa_cons (pv 0) (pa_cons pe_int pa_nil)))))) pss_nil)
      (pss_one (ps_ret (pe_call PK.ok hr (by rfl) PK.g PK.kp PK.b .nil pass0 (pa_cons (pv 0) (pa_cons (pe_lst (pa_cons pe_int (pa_cons pe_int (pa_cons pe_int (pa_cons pe_int (pa_cons pe_int (pa_cons pe_int (pa_cons pe_int (pa_cons pe_int (pa_cons pe_int (pa_cons pe_int pa_nil))))))))))) pa_nil)))))), ?_⟩
    refine ⟨.ref d, rfl, d, c, 5, rfl, hk, by decide, by decide, fun x H1 hx b1 k1 => ⟨_, _, rfl, rfl, _, rfl, ite2 (fun _ => ?_) (fun _ => ?_)⟩⟩
    · refine ⟨.ref d, rfl, d, c, 4, rfl, k1, by decide, by decide, fun y H2 hy b2 k2 => ⟨_, _, rfl, rfl, ?_⟩⟩
      have w := want (2 + y) H2 ((show ∀ y, y < 4 → 2 + y ∈ fields by decide) y hy) (b1.trans b2) k2
      rw [show (((2 + y : Nat)) : Int) = 2 + (y : Int) by omega] at w
      exact w
    · refine ⟨.ref d, rfl, (by show 10 ≤ sizeLine; decide), fun l nl => ?_⟩
      have s1 := same_new (o := .lst [V.int 16, .int 2, .int 3, .int 4, .int 5, .int 7, .int 8, .int 9, .int 11, .int 13]) nl
      refine ⟨d, c, l, _, rfl, k1.same s1, (k1.new nl).2, upd_same, by decide, by decide, fun y H2 hy b2 k2 => ?_⟩
      have hy : y ∈ [16, 2, 3, 4, 5, 7, 8, 9, 11, 13].map V.int := hy
      obtain ⟨q, hq, rfl⟩ := in_fields hy (by decide)
      exact want q H2 hq (b1.trans ((But.of s1).trans b2)) k2
end
end K13
set_option Elab.async false
set_option linter.all false
set_option maxRecDepth 100000
set_option maxHeartbeats 4000000
set_option pp.maxSteps 400
namespace Fld
theorem pl_comm {q : Nat} [F : IsF q] (f g : Po q) : pl f g = pl g f := by
  refine canon_ext (pl_canon _ _) (pl_canon _ _) fun i => ?_
  rw [co_pl, co_pl]
  grind
theorem trim_pl {q : Nat} [F : IsF q] {l f g : Po q} (h : ∀ j, co l j = co f j + co g j) : trim l = pl f g := by
  refine canon_ext (trim_trim _) (pl_canon _ _) fun i => ?_
  rw [co_trim, co_pl, h]
end Fld
namespace BP
open PySem PySem.Spec PyProof.Rows L2 Fld
theorem yes_kept {σ : L2.St} {H : Hp} {A B : Hp → Prop} (h : A H) : tYes σ H (fun b H3 => if b = true then A H3 else B H3) := by
  show (if true = true then A H else B H)
  rw [if_pos rfl]
  exact h
end BP
namespace K13
open PySem PySem.Spec PyProof.Rows L2 BP Fld
section
variable {P : Program} {w : World} {K : PySem.W.Frag} {mg : Str → Option Value} {base : Heap}
abbrev Plus (P : Program) (w : World) (K : PySem.W.Frag) (mg : Str → Option Value) (base : Heap) := BP.Can P w K mg base "plus" 1 pPlus (spE2 (fun a b => a + b))
abbrev Times (P : Program) (w : World) (K : PySem.W.Frag) (mg : Str → Option Value) (base : Heap) := BP.Can P w K mg base "times" 1 pTimes (spE2 (fun a b => a * b))
abbrev Trimmed (P : Program) (w : World) (K : PySem.W.Frag) (mg : Str → Option Value) (base : Heap) := BP.Can P w K mg base "trimmed" 1 pTrimmed (spTrim K)
def spPlC (K : PySem.W.Frag) (C : Nat → Nat → Prop) : Sp := fun vs H Q _ => ∃ (q : Nat) (_ : IsF q) (a b : Addr) (f g : Po q), vs = [.int q, .ref a, .ref b] ∧ SqT K H a (vns f) ∧ SqT K H b (vns g) ∧ f.length ≤ 100 ∧ g.length ≤ 100 ∧ C f.length g.length ∧
  ∀ (p : Addr) (H' : Hp), Same H H' → H p = none → H' p = some (.tup (vns (pl f g))) → Q (.ref p) H'
theorem ok_one_plusG {f fP fT : Addr} {fd fdP fdT : FuncData} {lv : Nat} {C : Nat → Nat → Prop} {sp0 : Sp} (F : Fun K "one_plus" "one_plus" sOnePlus f fd) (PL : Plus P w K mg base fP fdP) (TR : Trimmed P w K mg base fT fdT) (gF : mg "one_plus" = some (.ref f)) (kF : PySem.W.keepIn K (.ref f) = true) (bF : Binds K fd pOnePlus [])
    (m_len : mg "len" = none) (m_list : mg "list" = none) (m_enumerate : mg "enumerate" = none) (h1 : 1 ≤ lv) (SELF : FnOk P w K mg base CX0 lv f fd pOnePlus sp0)
    (hsp : ∀ (q : Nat) (_ : IsF q) (a b : Addr) (f g : Po q) (H : Hp) (Q : VK) (E : XK), C f.length g.length → f.length < g.length → SqT K H a (vns f) → SqT K H b (vns g) → f.length ≤ 100 → g.length ≤ 100 →
      (∀ (p : Addr) (H' : Hp), Same H H' → H p = none → H' p = some (.tup (vns (pl f g))) → Q (.ref p) H') → sp0 [.int q, .ref b, .ref a] H Q E) :
    FnOk P w K mg base CX0 (lv + 1) f fd pOnePlus (spPlC K C) := by
  refine F.ok scOnePlus (fun vs H Q E h => ?_) (fun cdv A outer s H vs Q E hr h => ?_)
  · obtain ⟨q, _, a, b, l, g, rfl, _⟩ := h
    rfl
  · obtain ⟨q, FF, a, b, l, g, rfl, ha, hb, la, lb, cc, want⟩ := h
    have SF : BP.Can P w K mg base "one_plus" lv pOnePlus sp0 f fd := ⟨SELF, gF, kF, bF⟩
    have hr1 := hr.mono h1
    refine ⟨_, (pss_cons (ps_if (pt_cmpR op_lt (pe_callB call_len_seq (by rfl) m_len PySem.boot_len (pa_cons (pv 1) pa_nil)) (pe_callB call_len_seq (by rfl) m_len PySem.boot_len (pa_cons (pv 2) pa_nil)) (nomark _)) (pss_one (ps_ret (pe_call SF.ok hr (by rfl) SF.g SF.kp SF.b .nil pass0 (pa_cons (pv 0) (pa_cons (pv 2) (pa_cons (pv 1) pa_nil)))))) pss_nil)
      (pss_cons (ps_set (i := 3) scOnePlus.nd rfl (.inl rfl) (pe_callTy call_list_of (by rfl) m_list (by decide +kernel) (pa_cons (pv 1) pa_nil)))
      (pss_cons (ps_for PassesOwn.never rfl (pi_enumT (by rfl) m_enumerate (pa_cons (pv 2) pa_nil)) (pg_tup rfl (pgs_cons (pg_name (i := 4) scOnePlus.nd rfl (.inl rfl)) (pgs_cons (pg_name (i := 5) scOnePlus.nd rfl (.inl rfl)) pgs_nil))) (pss_one (ps_asg (pe_call PL.ok hr1 (by rfl) PL.g PL.kp PL.b .nil pass0 (pa_cons (pv 0) (pa_cons (pe_ix ix_list (pv 3) (pv 4) (fun _ _ => rfl)) (pa_cons (pv 5) pa_nil)))) (pg_sub (pv 3) (pv 4) set_list))))
      (pss_one (ps_ret (pe_call TR.ok hr1 (by rfl) TR.g TR.kp TR.b .nil pass0 (pa_cons (pv 3) pa_nil))))))), ?_⟩
    refine ⟨.ref a, rfl, a, vns l, rfl, .inr ha, .ref b, rfl, b, vns g, rfl, .inr hb, _, _, rfl, rfl, _, rfl, ite2 (fun hlt => ?_) (fun hge => ?_)⟩
    · have lt : l.length < g.length := by
        have := of_decide_eq_true hlt
        rw [List.length_map, List.length_map] at this
        omega
      exact ⟨.int q, rfl, .ref b, rfl, .ref a, rfl, hsp q FF a b l g H Q _ cc lt ha hb la lb want⟩
    · have ge : g.length ≤ l.length := by
        refine Classical.byContradiction fun z => hge (decide_eq_true ?_)
        rw [List.length_map, List.length_map]
        omega
      refine ⟨.ref a, rfl, a, vns l, rfl, .inr ha, fun p np => ?_⟩
      have s1 := same_new (o := .lst (vns l)) np
      refine ⟨.ref b, rfl, b, vns g, rfl, BP.Same.tupS s1 hb, for_enumT (K := K) (a := b) (xs := vns g) (fun i σ H' => Same H H' ∧ (∃ y4 y5, σ = [some (.int q), some (.ref a), some (.ref b), some (.ref p), y4, y5]) ∧ ∃ t : Po q, t.length = l.length ∧ H' p = some (.lst (vns t)) ∧ ∀ j, co t j = co l j + if j < i then co g j else 0)
        ⟨s1, ⟨_, _, rfl⟩, l, rfl, upd_same, fun j => by rw [if_neg (by omega)]; grind⟩ (fun i σ H' _ hW => BP.Same.tupS hW.1 hb) (fun i x σ H' T hx hW nT => ?_) (fun σ H' hW => ?_)⟩
      · obtain ⟨s2, ⟨y4, y5, rfl⟩, t, lt, hp, ht⟩ := hW
        obtain ⟨hi, rfl⟩ := of_vns hx
        have s3 := same_new (o := .tup [V.int (i : Nat), vn (co g i)]) nT
        have hp3 := s3 _ _ hp
        refine ⟨T, _, rfl, .inl (.inl upd_same), rfl, _, [vn (co g i)], rfl, _, [], rfl, rfl, ?_⟩
        generalize upd H' T (.tup [V.int (i : Nat), vn (co g i)]) = H3 at s3 hp3 ⊢
        refine ⟨.int q, rfl, .ref p, rfl, .int (i : Nat), rfl, p, vns t, _, vn (co t i), rfl, rfl, .inl (.inl hp3), atI_nat (vns_get (by omega)), vn (co g i), rfl, q, FF, co t i, co g i, rfl, ?_⟩
        refine ⟨.ref p, rfl, .int (i : Nat), rfl, p, vns t, _, i, rfl, rfl, hp3, ixN_nat (by rw [List.length_map]; omega), ?_⟩
        refine ⟨fun b' x' e => ?_, ⟨_, _, rfl⟩, t.set i (co t i + co g i), ?_, ?_, fun j => ?_⟩
        · rw [upd_ne (ne_of_none e np)]
          exact s3 _ _ (s2 _ _ e)
        · rw [List.length_set, lt]
        · rw [upd_same, vns_set]
        · rw [co_set _ _ _ (by omega)]
          by_cases e : j = i
          · subst e
            rw [if_pos rfl, if_pos (by omega), ht j, if_neg (by omega)]
            grind
          · rw [if_neg e, ht j]
            by_cases h : j < i
            · rw [if_pos h, if_pos (by omega)]
            · rw [if_neg h, if_neg (by omega)]
      · obtain ⟨s2, ⟨y4, y5, rfl⟩, t, lt, hp, ht⟩ := hW
        refine ⟨.ref p, rfl, q, FF, p, t, rfl, .inl (.inl hp), by omega, fun r H3 s3 nr hr3 => ?_⟩
        have et : trim t = pl l g := trim_pl fun j => by
          rw [ht, List.length_map]
          by_cases h : j < g.length
          · rw [if_pos h]
          · rw [if_neg h, co_out (f := g) (by omega)]
        rw [et] at hr3
        exact want r H3 (s2.trans s3) (none_of s2 nr) hr3
theorem ok_one_plus {f fP fT : Addr} {fd fdP fdT : FuncData} (F : Fun K "one_plus" "one_plus" sOnePlus f fd) (PL : Plus P w K mg base fP fdP) (TR : Trimmed P w K mg base fT fdT) (gF : mg "one_plus" = some (.ref f)) (kF : PySem.W.keepIn K (.ref f) = true) (bF : Binds K fd pOnePlus [])
    (m_len : mg "len" = none) (m_list : mg "list" = none) (m_enumerate : mg "enumerate" = none) : FnOk P w K mg base CX0 3 f fd pOnePlus (spPl K) := by
  have ONE : FnOk P w K mg base CX0 2 f fd pOnePlus (spPlC K fun n m => ¬ n < m) :=
    ok_one_plusG (lv := 1) (sp0 := fun _ _ _ _ => False) F PL TR gF kF bF m_len m_list m_enumerate (Nat.le_refl _) never (fun _ _ _ _ _ _ _ _ _ c lt => absurd lt c)
  have TWO : FnOk P w K mg base CX0 3 f fd pOnePlus (spPlC K fun _ _ => True) :=
    ok_one_plusG (lv := 2) F PL TR gF kF bF m_len m_list m_enumerate (by decide) ONE (fun q FF a b f g H Q E _ lt ha hb la lb want =>
      ⟨q, FF, b, a, g, f, rfl, hb, ha, lb, la, by omega, fun p H' s n h => want p H' s n (by rw [pl_comm]; exact h)⟩)
  exact TWO.imp fun vs H Q E h => by
    obtain ⟨q, FF, a, b, f, g, e, ha, hb, la, lb, want⟩ := h
    exact ⟨q, FF, a, b, f, g, e, ha, hb, la, lb, trivial, want⟩
theorem ok_one_value {f fP fT : Addr} {fd fdP fdT : FuncData} (F : Fun K "one_value" "one_value" sOneValue f fd) (TM : Times P w K mg base fP fdP) (PL : Plus P w K mg base fT fdT) (m_reversed : mg "reversed" = none) : FnOk P w K mg base CX0 2 f fd pOneValue (spEv K) := by
  refine F.ok scOneValue (fun vs H Q E h => ?_) (fun cdv A outer s H vs Q E hr h => ?_)
  · obtain ⟨q, _, a, l, c, rfl, _⟩ := h
    rfl
  · obtain ⟨q, FF, a, l, y, rfl, ha, want⟩ := h
    refine ⟨_, (pss_cons (ps_set (i := 3) scOneValue.nd rfl (.inl rfl) pe_int)
      (pss_cons (ps_for PassesOwn.never rfl (RT.pi_revA (by rfl) m_reversed (pv 1)) (pg_name (i := 4) scOneValue.nd rfl (.inl rfl)) (pss_one (ps_set (i := 3) scOneValue.nd rfl (.inl rfl) (pe_call PL.ok hr (by rfl) PL.g PL.kp PL.b .nil pass0 (pa_cons (pv 0) (pa_cons (pe_call TM.ok hr (by rfl) TM.g TM.kp TM.b .nil pass0 (pa_cons (pv 0) (pa_cons (pv 3) (pa_cons (pv 2) pa_nil)))) (pa_cons (pv 4) pa_nil)))))))
      (pss_one (ps_ret (pv 3))))), ?_⟩
    refine ⟨.ref a, rfl, a, vns l, rfl, .inr ⟨ha, RT.for_ItvT (K := K) (a := a) (xs := vns l) (fun i σ H' => H' = H ∧ i ≤ l.length ∧ ∃ y4, σ = [some (.int q), some (.ref a), some (vn y), some (vn (ev y (l.drop (l.length - i)))), y4]) ⟨rfl, Nat.zero_le _, none, ?_⟩ (fun i σ H' hW => by rw [hW.1]; exact ha) (fun i x σ H' hi hx hW => ?_) (fun σ H' hW => ?_)⟩⟩
    · rw [Nat.sub_zero, List.drop_length]
      rfl
    · obtain ⟨rfl, hi', y4, rfl⟩ := hW
      rw [List.length_map] at hi hx
      obtain ⟨hk, rfl⟩ := of_vns hx
      refine ⟨.int q, rfl, .int q, rfl, _, rfl, vn y, rfl, q, FF, _, y, rfl, vn (co l (l.length - 1 - i)), rfl, q, FF, _, _, rfl, rfl, by omega, some (vn (co l (l.length - 1 - i))), ?_⟩
      have e1 : l.length - (i + 1) = l.length - 1 - i := by omega
      have e2 : l.drop (l.length - 1 - i) = co l (l.length - 1 - i) :: l.drop (l.length - i) := by
        have h3 : l.length - i = l.length - 1 - i + 1 := by omega
        rw [h3]
        have g := get_co hk
        rw [List.getElem?_eq_getElem hk] at g
        rw [← Option.some.inj g]
        exact List.drop_eq_getElem_cons hk
      rw [e1, e2]
      rfl
    · obtain ⟨rfl, hi', y4, rfl⟩ := hW
      refine ⟨_, rfl, ?_⟩
      have e : l.drop (l.length - (vns l).length) = l := by
        rw [List.length_map, Nat.sub_self, List.drop_zero]
      rw [e]
      exact want H' (fun _ _ z => z)
theorem ok_one_times {f fP fM fT : Addr} {fd fdP fdM fdT : FuncData} (F : Fun K "one_times" "one_times" sOneTimes f fd) (PL : Plus P w K mg base fP fdP) (TM : Times P w K mg base fM fdM) (TR : Trimmed P w K mg base fT fdT) (m_len : mg "len" = none) (m_enumerate : mg "enumerate" = none) : FnOk P w K mg base CX0 2 f fd pOneTimes (spTm K) := by
  refine F.ok scOneTimes (fun vs H Q E h => ?_) (fun cdv A outer s H vs Q E hr h => ?_)
  · obtain ⟨q, _, a, b, l, g, rfl, _⟩ := h
    rfl
  · obtain ⟨q, FF, a, b, l, g, rfl, ha, hb, la, lb, want⟩ := h
    refine ⟨_, (pss_cons (ps_set (i := 3) scOneTimes.nd rfl (.inl rfl) (pe_op op_rep (pe_lst (pa_cons pe_int pa_nil)) (pe_op op_add (pe_callB call_len_seq (by rfl) m_len PySem.boot_len (pa_cons (pv 1) pa_nil)) (pe_callB call_len_seq (by rfl) m_len PySem.boot_len (pa_cons (pv 2) pa_nil)))))
      (pss_cons (ps_for PassesOwn.never rfl (pi_enumT (by rfl) m_enumerate (pa_cons (pv 1) pa_nil)) (pg_tup rfl (pgs_cons (pg_name (i := 4) scOneTimes.nd rfl (.inl rfl)) (pgs_cons (pg_name (i := 5) scOneTimes.nd rfl (.inl rfl)) pgs_nil))) (pss_one (ps_for PassesOwn.never rfl (pi_enumT (by rfl) m_enumerate (pa_cons (pv 2) pa_nil)) (pg_tup rfl (pgs_cons (pg_name (i := 6) scOneTimes.nd rfl (.inl rfl)) (pgs_cons (pg_name (i := 7) scOneTimes.nd rfl (.inl rfl)) pgs_nil))) (pss_one (ps_asg (pe_call PL.ok hr (by rfl) PL.g PL.kp PL.b .nil pass0 (pa_cons (pv 0) (pa_cons (pe_ix ix_list (pv 3) (pe_op op_add (pv 4) (pv 6)) (fun _ _ => rfl)) (pa_cons (pe_call TM.ok hr (by rfl) TM.g TM.kp TM.b .nil pass0 (pa_cons (pv 0) (pa_cons (pv 5) (pa_cons (pv 7) pa_nil)))) pa_nil)))) (pg_sub (pv 3) (pe_op op_add (pv 4) (pv 6)) set_list))))))
      (pss_one (ps_ret (pe_call TR.ok hr (by rfl) TR.g TR.kp TR.b .nil pass0 (pa_cons (pv 3) pa_nil)))))), ?_⟩
    refine ⟨(by show 1 ≤ sizeLine; decide), fun p0 n0 => ?_⟩
    have s0 := same_new (o := .lst [V.int 0]) n0
    refine ⟨.ref a, rfl, a, vns l, rfl, .inr (BP.Same.tupS s0 ha), .ref b, rfl, b, vns g, rfl, .inr (BP.Same.tupS s0 hb), _, _, rfl, rfl, p0, _, _, rfl, rfl, upd_same, by omega, ?_, ?_, fun p np => ?_⟩
    · rw [List.length_map, List.length_map]
      omega
    · rw [List.length_map, List.length_map]
      show 1 * ((l.length : Int) + (g.length : Int)).toNat ≤ sizeLine
      exact Nat.le_trans (by omega : 1 * ((l.length : Int) + (g.length : Int)).toNat ≤ 200) (by decide)
    · have e0 : (List.replicate (((vns l).length : Int) + ((vns g).length : Int)).toNat [V.int 0]).flatten = vns (List.replicate (l.length + g.length) (0 : El q)) := by
        have : (((vns l).length : Int) + ((vns g).length : Int)).toNat = l.length + g.length := by
          rw [List.length_map, List.length_map]
          omega
        rw [this]
        have rep : ∀ n : Nat, (List.replicate n [V.int 0]).flatten = vns (List.replicate n (0 : El q)) := by
          intro n
          induction n with
          | zero => rfl
          | succ n ih =>
            rw [List.replicate_succ, List.flatten_cons, ih, List.replicate_succ]
            rfl
        exact rep _
      have s1 := s0.trans (same_new (o := .lst (List.replicate (((vns l).length : Int) + ((vns g).length : Int)).toNat [V.int 0]).flatten) np)
      have nH : H p = none := none_of s0 np
      refine ⟨.ref a, rfl, a, vns l, rfl, BP.Same.tupS s1 ha, for_enumT (K := K) (a := a) (xs := vns l) (fun i σ H' => Same H H' ∧ (∃ y4 y5 y6 y7, σ = [some (.int q), some (.ref a), some (.ref b), some (.ref p), y4, y5, y6, y7]) ∧ ∃ t : Po q, t.length = l.length + g.length ∧ H' p = some (.lst (vns t)) ∧ ∀ n, co t n = cvs l g i n)
        ⟨s1, ⟨_, _, _, _, rfl⟩, List.replicate (l.length + g.length) 0, List.length_replicate, by rw [upd_same, e0], fun n => ?_⟩ (fun i σ H' _ hW => BP.Same.tupS hW.1 ha) (fun i x σ H' T hx hW nT => ?_) (fun σ H' hW => ?_)⟩
      · show co _ n = 0
        unfold co
        rw [List.getD_eq_getElem?_getD, List.getElem?_replicate]
        split <;> rfl
      · obtain ⟨s2, ⟨y4, y5, y6, y7, rfl⟩, t, lt, hp, ht⟩ := hW
        obtain ⟨hi, rfl⟩ := of_vns hx
        have s3 := same_new (o := .tup [V.int (i : Nat), vn (co l i)]) nT
        have hp3 := s3 _ _ hp
        have s23 := s2.trans s3
        refine ⟨T, _, rfl, .inl (.inl upd_same), rfl, _, [vn (co l i)], rfl, _, [], rfl, rfl, ?_⟩
        generalize upd H' T (.tup [V.int (i : Nat), vn (co l i)]) = H3 at s3 hp3 s23 ⊢
        refine ⟨.ref b, rfl, b, vns g, rfl, BP.Same.tupS s23 hb, for_enumT (K := K) (a := b) (xs := vns g) (fun j σ H' => Same H H' ∧ (∃ y6 y7, σ = [some (.int q), some (.ref a), some (.ref b), some (.ref p), some (.int (i : Nat)), some (vn (co l i)), y6, y7]) ∧ ∃ t : Po q, t.length = l.length + g.length ∧ H' p = some (.lst (vns t)) ∧
            ∀ n, co t n = cvs l g i n + if i ≤ n ∧ n - i < j then co l i * co g (n - i) else 0)
          ⟨s23, ⟨_, _, rfl⟩, t, lt, hp3, fun n => by rw [ht, if_neg (by omega)]; grind⟩ (fun j σ H' _ hW => BP.Same.tupS hW.1 hb) (fun j x σ H4 T2 hx hW nT2 => ?_) (fun σ H4 hW => ?_)⟩
        · obtain ⟨s4, ⟨y6, y7, rfl⟩, u, lu, hpu, hu⟩ := hW
          obtain ⟨hj, rfl⟩ := of_vns hx
          have s5 := same_new (o := .tup [V.int (j : Nat), vn (co g j)]) nT2
          have hp5 := s5 _ _ hpu
          refine ⟨T2, _, rfl, .inl (.inl upd_same), rfl, _, [vn (co g j)], rfl, _, [], rfl, rfl, ?_⟩
          generalize upd H4 T2 (.tup [V.int (j : Nat), vn (co g j)]) = H5 at s5 hp5 ⊢
          have eij : (i : Int) + (j : Int) = ((i + j : Nat) : Int) := by omega
          refine ⟨.int q, rfl, .ref p, rfl, .int (i : Nat), rfl, .int (j : Nat), rfl, _, _, rfl, rfl, p, vns u, _, vn (co u (i + j)), rfl, rfl, .inl (.inl hp5), ?_, .int q, rfl, vn (co l i), rfl, vn (co g j), rfl, q, FF, co l i, co g j, rfl, q, FF, co u (i + j), co l i * co g j, rfl, ?_⟩
          · rw [eij]
            exact atI_nat (vns_get (by omega))
          · refine ⟨.ref p, rfl, .int (i : Nat), rfl, .int (j : Nat), rfl, _, _, rfl, rfl, p, vns u, _, i + j, rfl, rfl, hp5, ?_, ?_⟩
            · rw [eij]
              exact ixN_nat (by rw [List.length_map]; omega)
            · refine ⟨fun b' x' e => ?_, ⟨_, _, rfl⟩, u.set (i + j) (co u (i + j) + co l i * co g j), ?_, ?_, fun n => ?_⟩
              · rw [upd_ne (ne_of_none e nH)]
                exact s5 _ _ (s4 _ _ e)
              · rw [List.length_set, lu]
              · rw [upd_same, vns_set]
              · rw [co_set _ _ _ (by omega)]
                by_cases e : n = i + j
                · subst e
                  have ej : i + j - i = j := by omega
                  rw [if_pos rfl, hu, ej, if_neg (by omega), if_pos ⟨by omega, by omega⟩]
                  grind
                · rw [if_neg e, hu n]
                  by_cases h : i ≤ n ∧ n - i < j
                  · rw [if_pos h, if_pos ⟨h.1, by omega⟩]
                  · rw [if_neg h, if_neg (by omega)]
        · obtain ⟨s4, ⟨y6, y7, rfl⟩, u, lu, hpu, hu⟩ := hW
          refine ⟨s4, ⟨_, _, _, _, rfl⟩, u, lu, hpu, fun n => ?_⟩
          rw [hu]
          show _ = cvs l g i n + if i ≤ n then co l i * co g (n - i) else 0
          rw [List.length_map]
          by_cases h : i ≤ n
          · rw [if_pos h]
            by_cases h2 : n - i < g.length
            · rw [if_pos ⟨h, h2⟩]
            · rw [if_neg (by omega), co_out (f := g) (by omega)]
              grind
          · rw [if_neg (by omega), if_neg h]
      · obtain ⟨s2, ⟨y4, y5, y6, y7, rfl⟩, t, lt, hp, ht⟩ := hW
        rw [List.length_map] at ht
        refine ⟨.ref p, rfl, q, FF, p, t, rfl, .inl (.inl hp), by omega, fun r H3 s3 nr hr3 => ?_⟩
        exact want (trim t) r H3 (trim_trim t) (Nat.le_trans (trim_len t) (Nat.le_of_eq lt)) (fun n => by rw [co_trim, ht]) (s2.trans s3) (none_of s2 nr) hr3
theorem ok_one_put {f fP fM fT : Addr} {fd fdP fdM fdT : FuncData} (F : Fun K "one_put" "one_put" sOnePut f fd) (OP : BP.Can P w K mg base "one_plus" 3 pOnePlus (spPl K) fP fdP) (OT : BP.Can P w K mg base "one_times" 2 pOneTimes (spTm K) fM fdM) (TR : Trimmed P w K mg base fT fdT) (m_reversed : mg "reversed" = none) : FnOk P w K mg base CX0 4 f fd pOnePut (spSh K) := by
  refine F.ok scOnePut (fun vs H Q E h => ?_) (fun cdv A outer s H vs Q E hr h => ?_)
  · obtain ⟨q, _, a, b, l, k, e, rfl, _⟩ := h
    rfl
  · obtain ⟨q, FF, a, b, l, k, e, rfl, ha, hb, la, want⟩ := h
    have hr1 := hr.mono (show 1 ≤ 3 by decide)
    have hr2 := hr.mono (show 2 ≤ 3 by decide)
    refine ⟨_, (pss_cons (ps_set (i := 3) scOnePut.nd rfl (.inl rfl) (pe_tup pa_nil))
      (pss_cons (ps_for PassesOwn.never rfl (RT.pi_revA (by rfl) m_reversed (pv 1)) (pg_name (i := 4) scOnePut.nd rfl (.inl rfl)) (pss_one (ps_set (i := 3) scOnePut.nd rfl (.inl rfl) (pe_call OP.ok hr (by rfl) OP.g OP.kp OP.b .nil pass0 (pa_cons (pv 0) (pa_cons (pe_call OT.ok hr2 (by rfl) OT.g OT.kp OT.b .nil pass0 (pa_cons (pv 0) (pa_cons (pv 3) (pa_cons (pv 2) pa_nil)))) (pa_cons (pe_call TR.ok hr1 (by rfl) TR.g TR.kp TR.b .nil pass0 (pa_cons (pe_lst (pa_cons (pv 4) pa_nil)) pa_nil)) pa_nil)))))))
      (pss_one (ps_ret (pv 3))))), ?_⟩
    refine ⟨Nat.zero_le _, fun p0 n0 => ?_⟩
    have s0 := same_new (o := .tup []) n0
    refine ⟨.ref a, rfl, a, vns l, rfl, .inr ⟨BP.Same.tupS s0 ha, RT.for_ItvT (K := K) (a := a) (xs := vns l) (fun i σ H' => Same H H' ∧ i ≤ l.length ∧ ∃ p y4, σ = [some (.int q), some (.ref a), some (.ref b), some (.ref p), y4] ∧ H p = none ∧ H' p = some (.tup (vns (trim (sh e k (l.drop (l.length - i)))))))
      ⟨s0, Nat.zero_le _, p0, none, rfl, n0, ?_⟩ (fun i σ H' hW => BP.Same.tupS hW.1 ha) (fun i x σ H' hi hx hW => ?_) (fun σ H' hW => ?_)⟩⟩
    · rw [upd_same, Nat.sub_zero, List.drop_length]
      rfl
    · obtain ⟨s1, hi', p, y4, rfl, np, hp⟩ := hW
      rw [List.length_map] at hi hx
      obtain ⟨hk, rfl⟩ := of_vns hx
      have e1 : l.length - (i + 1) = l.length - 1 - i := by omega
      have e2 : l.drop (l.length - 1 - i) = co l (l.length - 1 - i) :: l.drop (l.length - i) := by
        have h3 : l.length - i = l.length - 1 - i + 1 := by omega
        rw [h3]
        have g := get_co hk
        rw [List.getElem?_eq_getElem hk] at g
        rw [← Option.some.inj g]
        exact List.drop_eq_getElem_cons hk
      generalize hrest : l.drop (l.length - i) = rest at hp e2
      have lrest : rest.length ≤ 20 := by
        rw [← hrest, List.length_drop]
        omega
      have lsh : (trim (sh e k rest)).length ≤ 20 := by
        refine Classical.byContradiction fun z => ?_
        obtain ⟨m, hm⟩ : ∃ m, (trim (sh e k rest)).length = m + 1 := ⟨(trim (sh e k rest)).length - 1, by omega⟩
        refine top_of_trim (trim_trim _) hm ?_
        rw [co_trim]
        exact sh_out e k rest m (by omega)
      refine ⟨.int q, rfl, .int q, rfl, .ref p, rfl, .ref b, rfl, q, FF, p, b, trim (sh e k rest), [k, e], rfl, .inl (.inl hp), BP.Same.tupS s1 hb, by omega, (by show 2 ≤ 100; decide), fun t pt H2 ct lt ht s2 nt hpt => ?_⟩
      refine ⟨vn (co l (l.length - 1 - i)), rfl, (by show 1 ≤ sizeLine; decide), fun pl2 npl => ?_⟩
      have s3 := same_new (o := .lst [vn (co l (l.length - 1 - i))]) npl
      refine ⟨q, FF, pl2, [co l (l.length - 1 - i)], rfl, .inl (.inl upd_same), (by show 1 ≤ 200; decide), fun pu H3 s4 nu hpu => ?_⟩
      have hpt3 := s4 _ _ (s3 _ _ hpt)
      have lt2 : (trim [co l (l.length - 1 - i)]).length ≤ 1 := trim_len _
      have lt3 : t.length ≤ 22 := by
        have z : ([k, e] : Po q).length = 2 := rfl
        omega
      refine ⟨q, FF, pt, pu, t, trim [co l (l.length - 1 - i)], rfl, .inl (.inl hpt3), .inl (.inl hpu), by omega, by omega, fun r H4 s5 nr hr4 => ?_⟩
      have sAll := s1.trans (s2.trans (s3.trans (s4.trans s5)))
      have sB := s1.trans (s2.trans (s3.trans s4))
      refine ⟨sAll, by omega, r, _, rfl, none_of sB nr, ?_⟩
      rw [hr4, e1, e2, sh_step e k _ rest ht]
    · obtain ⟨s1, hi', p, y4, rfl, np, hp⟩ := hW
      have e0 : l.drop (l.length - (vns l).length) = l := by
        rw [List.length_map, Nat.sub_self, List.drop_zero]
      rw [e0] at hp
      exact ⟨_, rfl, want p H' s1 np hp⟩
end
end K13
set_option Elab.async false
set_option linter.all false
set_option maxRecDepth 100000
set_option maxHeartbeats 4000000
set_option pp.maxSteps 1000
namespace BP
open PySem PySem.Spec PyProof.Rows L2 Fld
theorem seq_by {te : TE} {g : TG} {rest : TS} {D : Ends} {σ : L2.St} {H : Hp} (Pv : V → Hp → Prop) (h : ∀ Q : VK, (∀ v H', Pv v H' → Q v H') → te σ H Q) (k : ∀ v H', Pv v H' → g v σ H' (rest D)) : tSeq (tAsg te g) rest D σ H := h _ k
theorem seq_of {te : TE} {g : TG} {rest : TS} {D : Ends} {σ : L2.St} {H : Hp} (h : te σ H fun x H1 => g x σ H1 (rest D)) : tSeq (tAsg te g) rest D σ H := h
theorem but_upd {H H' : Hp} {d c D : Addr} {o : HO} (b : But d c H H') (nD : H D = none) : But d c H (upd H' D o) := fun x z e1 e2 e => by
  rw [upd_ne (ne_of_none e nD)]
  exact b x z e1 e2 e
theorem Deck.off {H : Hp} {d c p : Addr} {o : HO} (h : Deck H d c) (n1 : p ≠ d) (n2 : p ≠ c) : Deck (upd H p o) d c := by
  obtain ⟨cells, m, n, h1, h2, h3⟩ := h
  exact ⟨cells, m, n, by rw [upd_ne n1.symm]; exact h1, by rw [upd_ne n2.symm]; exact h2, h3⟩
theorem wh_i {K : PySem.W.Frag} {H : Hp} (i : Int) : Wh K H (.int i) := .inl ⟨i, rfl⟩
theorem wh_b {K : PySem.W.Frag} {H : Hp} (b : Bool) : Wh K H (.bl b) := .inr (.inl ⟨b, rfl⟩)
theorem wh_s {K : PySem.W.Frag} {H : Hp} (x : Str) : Wh K H (.str x) := .inr (.inr ⟨rfl, rfl, _, .base (.str x), kit_ty (by decide +kernel)⟩)
theorem wh_n {K : PySem.W.Frag} {H : Hp} : Wh K H .non := .inr (.inr ⟨rfl, rfl, _, .base .non, kit_ty (by decide +kernel)⟩)
theorem wh_l {K : PySem.W.Frag} {H : Hp} {a : Addr} {xs : List V} (e : H a = some (.lst xs)) : Wh K H (.ref a) := .inr (.inr ⟨rfl, rfl, _, .base (.lst e), kit_ty (by decide +kernel)⟩)
theorem wh_t {K : PySem.W.Frag} {H : Hp} {a : Addr} {xs : List V} (e : H a = some (.tup xs)) : Wh K H (.ref a) := .inr (.inr ⟨rfl, rfl, _, .base (.tup e), kit_ty (by decide +kernel)⟩)
theorem wh_d {K : PySem.W.Frag} {H : Hp} {a : Addr} {kvs : List (Key × V)} (e : H a = some (.dK kvs)) : Wh K H (.ref a) := .inr (.inr ⟨rfl, rfl, _, .base (.dK e), kit_ty (by decide +kernel)⟩)
theorem wh_h {K : PySem.W.Frag} {H : Hp} {a C dx : Addr} {fs : List (Str × V)} (L : LH K C) (e : H a = some (.ins C dx fs)) : Wh K H (.ref a) := .inr (.inr ⟨rfl, rfl, _, .base (.ins e L.cl L.ha L.hn L.ht L.hm), L.ni⟩)
/-- values that are what they are in every heap -/
def Pls : V → Bool
  | .int _ => true
  | .bl _ => true
  | .str _ => true
  | .non => true
  | _ => false
theorem wh_p {K : PySem.W.Frag} {H : Hp} {v : V} (h : Pls v = true) : Wh K H v := by
  cases v with
  | int i => exact wh_i i
  | bl b => exact wh_b b
  | str x => exact wh_s x
  | non => exact wh_n
  | _ => cases h
def spAny (K : PySem.W.Frag) (m : Nat) : Sp := fun vs H Q _ => ∃ (d c : Addr) (n : Nat), vs = [.ref d, .int (n : Nat)] ∧ n < m ∧ Deck H d c ∧ ∀ (v : V) (H' : Hp), But d c H H' → Deck H' d c → Wh K H' v → Q v H'
end BP
namespace K13
open PySem PySem.Spec PyProof.Rows L2 BP Fld
section
variable {P : Program} {w : World} {K : PySem.W.Frag} {mg : Str → Option Value} {base : Heap}
theorem any_pick {K : PySem.W.Frag} {t : TA} {xs : List V} {σ : L2.St} {d c : Addr} {H : Hp} {Q : VK} (h0 : σ[0]? = some (some (.ref d))) (ht : ∀ (Q' : List V → Hp → Prop), Q' xs H → t σ H Q') (hx : xs.all Pls = true) (l0 : 0 < xs.length) (l1 : xs.length < 1000) (hk : Deck H d c)
    (want : ∀ (v : V) (H' : Hp), But d c H H' → Deck H' d c → Wh K H' v → Q v H') : tCall spPick [] E0 (tCons (tVar 0) (tCons (tLst t) tNil)) σ H Q := by
  refine ⟨.ref d, h0, ht _ ⟨Nat.le_trans (Nat.le_of_lt l1) (by decide), fun l nl => ?_⟩⟩
  show spPick [V.ref d, V.ref l] _ Q E0
  have s1 := same_new (o := .lst xs) nl
  refine ⟨d, c, l, xs, rfl, hk.same s1, (hk.new nl).2, upd_same, l0, l1, fun x H' m b k => ?_⟩
  exact want x H' ((But.of s1).trans b) k (wh_p (List.all_eq_true.mp hx x m))
theorem any_all {f fDR fPK C fI : Addr} {fd fdDR fdPK fdI : FuncData} (F : Fun K "_law_any" "_law_any" sLAny f fd) (gF : mg "_law_any" = some (.ref f)) (kF : PySem.W.keepIn K (.ref f) = true) (bF : Binds K fd pLAny []) (DR : BP.Can P w K mg base "_law_draw" 1 pLDraw spDraw fDR fdDR) (PK : BP.Can P w K mg base "_law_pick" 2 pLPick spPick fPK fdPK)
    (MH : Mk K C fI) (FI : Fun K "__init__" "House.__init__" sHouseInit fI fdI) (LHC : LH K C) (gHO : mg "House" = some (.ref C)) (BHI : Binds K fdI pHouseInit [])
    (m_len : mg "len" = none) (m_range : mg "range" = none) (m_tuple : mg "tuple" = none) : ∀ m, FnOk P w K mg base CX0 (4 + m) f fd pLAny (spAny K m)
  | 0 => ⟨fun _ _ _ _ h => (by obtain ⟨_, _, _, _, z, _⟩ := h; omega), fun _ _ _ _ _ _ _ _ _ _ _ _ _ h => (by obtain ⟨_, _, _, _, z, _⟩ := h; omega)⟩
  | m + 1 => by
    have ANY : BP.Can P w K mg base "_law_any" (4 + m) pLAny (spAny K m) f fd := ⟨any_all F gF kF bF DR PK MH FI LHC gHO BHI m_len m_range m_tuple m, gF, kF, bF⟩
    refine F.ok scLAny (fun vs H Q E h => ?_) (fun cdv A outer s H vs Q E hr h => ?_)
    · obtain ⟨d, c, n, rfl, _⟩ := h
      rfl
    · obtain ⟨d, c, n, rfl, hn, hk, want⟩ := h
      refine ⟨_, (pss_cons (ps_set (i := 2) scLAny.nd rfl (.inl rfl) (pe_call DR.ok (hr.mono (show 1 ≤ 4 + m by omega)) (by rfl) DR.g DR.kp DR.b .nil pass0 (pa_cons (pv 0) (pa_cons pe_int pa_nil))))
      (pss_cons (ps_if (pt_cmpR op_lt (pv 2) pe_int (nomark _)) (pss_one (ps_ret (pe_call PK.ok (hr.mono (show 2 ≤ 4 + m by omega)) (by rfl) PK.g PK.kp PK.b .nil pass0 (pa_cons (pv 0) (pa_cons (pe_lst (pa_cons pe_int (pa_cons pe_int (pa_cons (pe_un un_neg pe_int) (pa_cons pe_int (pa_cons pe_int (pa_cons pe_int (pa_cons (pe_op op_pow pe_int pe_int) (pa_cons (pe_un un_neg (pe_op op_pow pe_int pe_int)) (pa_cons pe_int pa_nil)))))))))) pa_nil))))) pss_nil)
      (pss_cons (ps_if (pt_cmpR op_eq (pv 2) pe_int (nomark _)) (pss_one (ps_ret (pe_call PK.ok (hr.mono (show 2 ≤ 4 + m by omega)) (by rfl) PK.g PK.kp PK.b .nil pass0 (pa_cons (pv 0) (pa_cons (pe_lst (pa_cons pe_str (pa_cons pe_str (pa_cons pe_str (pa_cons pe_str (pa_cons pe_str (pa_cons pe_str (pa_cons pe_str (pa_cons pe_str pa_nil))))))))) pa_nil))))) pss_nil)
      (pss_cons (ps_if (pt_cmpR op_eq (pv 2) pe_int (nomark _)) (pss_one (ps_ret (pe_call PK.ok (hr.mono (show 2 ≤ 4 + m by omega)) (by rfl) PK.g PK.kp PK.b .nil pass0 (pa_cons (pv 0) (pa_cons (pe_lst (pa_cons pe_bl (pa_cons pe_bl (pa_cons pe_non pa_nil)))) pa_nil))))) pss_nil)
      (pss_cons (ps_set (i := 3) scLAny.nd rfl (.inl rfl) (pe_ifExp (pt_cmpR op_gt (pv 1) pe_int (nomark _)) (pe_lc (own := [("_law_turn", 4)]) (g := gName 4) (tt := tYes) rfl scLAny.nd (pi_range1 rfl m_range (pa_cons (pe_call DR.ok (hr.mono (show 1 ≤ 4 + m by omega)) (by rfl) DR.g DR.kp DR.b .nil pass0 (pa_cons (pv 0) (pa_cons pe_int pa_nil))) pa_nil)) (blkOk_by (N := nLAny) (sc := defScope sLAny) (by decide +kernel)) (fun _ _ _ _ _ => (pg_name (i := 4) scLAny.nd rfl (.inl rfl))) (fun _ _ _ _ _ => pts_nil) (fun _ _ _ _ _ => (pe_call ANY.ok hr (by rfl) ANY.g ANY.kp ANY.b .nil pass0 (pa_cons (pv 0) (pa_cons (pe_op op_sub (pv 1) pe_int) pa_nil))))) (pe_lst pa_nil)))
      (pss_cons (ps_if (pt_cmpR op_eq (pv 2) pe_int (nomark _)) (pss_one (ps_ret (pv 3))) pss_nil)
      (pss_cons (ps_if (pt_cmpR op_eq (pv 2) pe_int (nomark _)) (pss_one (ps_ret (pe_make MH (ok_hinit (k := 0) FI LHC) (hr.mono (show 2 ≤ 4 + m by omega)) (by rfl) gHO BHI .nil pass0 (pa_cons (pe_op op_add pe_int (pe_call DR.ok (hr.mono (show 1 ≤ 4 + m by omega)) (by rfl) DR.g DR.kp DR.b .nil pass0 (pa_cons (pv 0) (pa_cons pe_int pa_nil)))) pa_nil)))) pss_nil)
      (pss_one (ps_ret (pe_ifExp (pt_cmpR op_eq (pv 2) pe_int (nomark _)) (pe_disp (pps_cons pe_str (pv 3) (pps_cons pe_int (pe_callB call_len_seq (by rfl) m_len PySem.boot_len (pa_cons (pv 3) pa_nil)) pps_nil)) (by rfl) (by rfl) (fun z => by cases z) (by decide)) (pe_tupleOf rfl m_tuple (pv 3)))))))))))), ?_⟩
      refine ⟨.ref d, rfl, d, c, 9, rfl, hk, by decide, by decide, fun w1 H1 hw1 b1 k1 => ?_⟩
      refine ⟨.int (w1 : Nat), rfl, _, _, rfl, rfl, _, rfl, ite2 (fun _ => ?_) (fun _ => ?_)⟩
      · refine any_pick (xs := [.int 0, .int 1, .int (-1), .int 2, .int 3, .int 6, .int ((10 : Int) ^ (39 : Int).toNat), .int (-((10 : Int) ^ (20 : Int).toNat)), .int 16]) rfl (fun Q' z => ?_) rfl (by decide) (by decide) k1 (fun v H' b k wv => want v H' (b1.trans b) k wv)
        exact ⟨1, rfl, 10, 39, rfl, rfl, ⟨by decide, by decide, by decide⟩, 10, 20, rfl, rfl, ⟨by decide, by decide, by decide⟩, _, rfl, z⟩
      refine ⟨.int (w1 : Nat), rfl, rfl, _, rfl, ite2 (fun _ => ?_) (fun _ => ?_)⟩
      · refine any_pick (xs := [.str "", .str "bend", .str "straight", .str "step", .str "stuck", .str "F", .str "(0, 0, 1)", .str "~"]) rfl (fun Q' z => ?_) rfl (by decide) (by decide) k1 (fun v H' b k wv => want v H' (b1.trans b) k wv)
        exact z
      refine ⟨.int (w1 : Nat), rfl, rfl, _, rfl, ite2 (fun _ => ?_) (fun _ => ?_)⟩
      · refine any_pick (xs := [.bl true, .bl false, .non]) rfl (fun Q' z => ?_) rfl (by decide) (by decide) k1 (fun v H' b k wv => want v H' (b1.trans b) k wv)
        exact z
      show Ends.nx _ [some (.ref d), some (.int (n : Nat)), some (.int (w1 : Nat)), none, none] H1
      dsimp only []
      refine seq_by (fun v H' => ∃ D xs, v = .ref D ∧ But d c H H' ∧ Deck H' d c ∧ H' D = some (.lst xs) ∧ xs.length ≤ 4) (fun Q1 kk => ?_) (fun v H3 ⟨D, xs, ev, b3, k3, e3, l3⟩ => ?_)
      · refine ⟨.int (n : Nat), rfl, _, _, rfl, rfl, _, rfl, ite2 (fun z => ?_) (fun _ => ?_)⟩
        · have zn : 0 < n := by
            have := of_decide_eq_true z
            omega
          refine ⟨.ref d, rfl, d, c, 5, rfl, k1, by decide, by decide, fun t H2 ht b2 k2 => ⟨_, rfl, by omega, by omega, fun D nD => ?_⟩⟩
          rw [show (((t : Nat) : Int)).toNat = t by omega]
          obtain ⟨nDd, nDc⟩ := k2.new nD
          refine lc_range (lo := 0) (n := t) (fun i H' => But d c H2 H' ∧ Deck H' d c ∧ ∃ xs : List V, xs.length = i ∧ H' D = some (.lst xs)) ⟨But.of (same_new nD), k2.same (same_new nD), [], rfl, upd_same⟩ (fun i H4 hi hW => ?_) (fun H4 hW => ?_)
          · obtain ⟨b4, k4, xs, lx, hD⟩ := hW
            refine ⟨rfl, yes_kept ⟨.ref d, rfl, .int (n : Nat), rfl, _, _, rfl, rfl, d, c, n - 1, ?_, by omega, k4, fun v H5 b5 k5 _ => ?_⟩⟩
            · show [V.ref d, V.int ((n : Int) - 1)] = _
              rw [show ((n : Int) - 1) = ((n - 1 : Nat) : Int) by omega]
            · refine ⟨_, b5 _ _ nDd nDc hD, ?_, but_upd (b4.trans b5) nD, k5.off nDd nDc, xs ++ [v], by rw [List.length_append, lx]; rfl, upd_same⟩
              exact Nat.lt_of_lt_of_le (show xs.length < 1000 by omega) (by decide)
          · obtain ⟨b4, k4, xs, lx, hD⟩ := hW
            exact kk _ _ ⟨D, xs, rfl, b1.trans (b2.trans b4), k4, hD, by omega⟩
        · refine ⟨Nat.zero_le _, fun D nD => ?_⟩
          have s1 := same_new (o := .lst []) nD
          exact kk _ _ ⟨D, [], rfl, b1.trans (But.of s1), k1.same s1, upd_same, by decide⟩
      · subst ev
        show tSeq _ _ _ [some (.ref d), some (.int (n : Nat)), some (.int (w1 : Nat)), some (.ref D), none] H3
        refine ⟨.int (w1 : Nat), rfl, rfl, _, rfl, ite2 (fun _ => ?_) (fun _ => ?_)⟩
        · exact ⟨.ref D, rfl, want _ _ b3 k3 (wh_l e3)⟩
        refine ⟨.int (w1 : Nat), rfl, rfl, _, rfl, ite2 (fun _ => ?_) (fun _ => ?_)⟩
        · refine ⟨.ref d, rfl, d, c, 4, rfl, k3, by decide, by decide, fun t H4 ht b4 k4 => ⟨_, _, rfl, rfl, fun x dx nx ndx ne => ?_⟩⟩
          refine ⟨x, dx, _, rfl, upd_same, fun fs H5 h5 e5 => ⟨rfl, ?_⟩⟩
          have s5 : Same H4 H5 := fun b o e => h5 b o (ne_of_none e nx) (by
            rw [upd_ne (ne_of_none e nx), upd_ne (ne_of_none e ndx)]
            exact e)
          exact want _ _ (b3.trans (b4.trans (But.of s5))) (k4.same s5) (wh_h LHC e5)
        show Ends.nx _ [some (.ref d), some (.int (n : Nat)), some (.int (w1 : Nat)), some (.ref D), none] H3
        dsimp only []
        refine ⟨.int (w1 : Nat), rfl, rfl, _, rfl, ite2 (fun _ => ?_) (fun _ => ?_)⟩
        · refine fun p np => ?_
          have s4 := same_new (o := .dK []) np
          refine ⟨.ref D, rfl, .ref D, rfl, D, xs, rfl, .inl (.inl (.inl (s4 _ _ e3))), upd_same, [(.inr "key", .ref D), (.inl 1, .int xs.length)], rfl, (by show (2 : Nat) ≤ 15; decide), ?_⟩
          obtain ⟨n1, n2⟩ := k3.new np
          exact want _ _ (b3.trans (but_upd (But.of s4) np)) ((k3.same s4).off n1 n2) (wh_d upd_same)
        · refine ⟨.ref D, rfl, .inl ⟨D, xs, rfl, .inl (.inl e3), fun q nq => ?_⟩⟩
          have s4 := same_new (o := .tup xs) nq
          exact want _ _ (b3.trans (But.of s4)) (k3.same s4) (wh_t upd_same)
theorem ok_any {f fDR fPK C fI : Addr} {fd fdDR fdPK fdI : FuncData} (F : Fun K "_law_any" "_law_any" sLAny f fd) (gF : mg "_law_any" = some (.ref f)) (kF : PySem.W.keepIn K (.ref f) = true) (bF : Binds K fd pLAny []) (DR : BP.Can P w K mg base "_law_draw" 1 pLDraw spDraw fDR fdDR) (PK : BP.Can P w K mg base "_law_pick" 2 pLPick spPick fPK fdPK)
    (MH : Mk K C fI) (FI : Fun K "__init__" "House.__init__" sHouseInit fI fdI) (LHC : LH K C) (gHO : mg "House" = some (.ref C)) (BHI : Binds K fdI pHouseInit [])
    (m_len : mg "len" = none) (m_range : mg "range" = none) (m_tuple : mg "tuple" = none) : FnOk P w K mg base CX0 8 f fd pLAny (spAny K 4) := by
  exact any_all F gF kF bF DR PK MH FI LHC gHO BHI m_len m_range m_tuple 4
end
end K13
set_option Elab.async false
set_option linter.all false
set_option maxRecDepth 100000
set_option maxHeartbeats 4000000
set_option pp.maxSteps 1000
/-! Values of any kind, told by what isinstance sees of them, tuples down to their parts. -/
namespace BP
open PySem PySem.Spec PyProof.Rows L2 Fld K13
theorem tyX_same {K : PySem.W.Frag} {H H' : Hp} {v : V} {t : Value} (s : Same H H') (h : TyX K H v t) : TyX K H' v t := by
  cases h with
  | base h =>
    cases h with
    | non => exact .base .non
    | bl x => exact .base (.bl x)
    | int i => exact .base (.int i)
    | str x => exact .base (.str x)
    | flt x => exact .base (.flt x)
    | lst e => exact .base (.lst (s _ _ e))
    | frz e => exact .base (.frz (s _ _ e))
    | tup e => exact .base (.tup (s _ _ e))
    | dK e => exact .base (.dK (s _ _ e))
    | dT e => exact .base (.dT (s _ _ e))
    | ins e a b c d f => exact .base (.ins (s _ _ e) a b c d f)
  | byt b => exact .byt b
  | set e => exact .set (s _ _ e)
  | kList e c => exact .kList e c
  | kTuple e c => exact .kTuple e c
  | kDict e c => exact .kDict e c
  | fTuple e => exact .fTuple (s _ _ e)
  | fDict e => exact .fDict (s _ _ e)
theorem wh_same {K : PySem.W.Frag} {H H' : Hp} {v : V} (s : Same H H') (h : Wh K H v) : Wh K H' v := by
  rcases h with h | h | ⟨h1, h2, t, h3, h4⟩
  · exact .inl h
  · exact .inr (.inl h)
  · exact .inr (.inr ⟨h1, h2, t, tyX_same s h3, h4⟩)
def Av (K : PySem.W.Frag) (C d c : Addr) (w : Nat) (H : Hp) : Nat → V → Prop
  | 0 => fun v => Pls v = true ∨ ∃ a, v = .ref a ∧ a ≠ d ∧ a ≠ c ∧ ((∃ xs, H a = some (.lst xs)) ∨ (∃ kvs, H a = some (.dK kvs)) ∨ ∃ dx fs, H a = some (.ins C dx fs))
  | n + 1 => fun v => Av K C d c w H n v ∨ ∃ a xs, v = .ref a ∧ SqT K H a xs ∧ xs.length ≤ w ∧ ∀ x ∈ xs, Av K C d c w H n x
section
variable {K : PySem.W.Frag} {C d c : Addr} {w : Nat} {H H' : Hp}
theorem Av.le {v : V} : ∀ {m n : Nat}, m ≤ n → Av K C d c w H m v → Av K C d c w H n v
  | m, 0, h, z => by
    obtain rfl : m = 0 := by omega
    exact z
  | m, n + 1, h, z => by
    by_cases e : m = n + 1
    · subst e
      exact z
    · exact .inl (Av.le (by omega) z)
theorem Av.wid {w' : Nat} (hw : w ≤ w') : ∀ {n : Nat} {v : V}, Av K C d c w H n v → Av K C d c w' H n v
  | 0, v, z => z
  | n + 1, v, z => by
    rcases z with z | ⟨a, xs, rfl, e, l, h⟩
    · exact .inl (Av.wid hw z)
    · exact .inr ⟨a, xs, rfl, e, Nat.le_trans l hw, fun x hx => Av.wid hw (h x hx)⟩
theorem Av.pls {v : V} {n : Nat} (h : Pls v = true) : Av K C d c w H n v := Av.le (Nat.zero_le n) (.inl h)
theorem Av.lst {a : Addr} {xs : List V} {n : Nat} (e : H a = some (.lst xs)) (n1 : a ≠ d) (n2 : a ≠ c) : Av K C d c w H n (.ref a) := Av.le (Nat.zero_le n) (.inr ⟨a, rfl, n1, n2, .inl ⟨_, e⟩⟩)
theorem Av.dic {a : Addr} {kvs : List (Key × V)} {n : Nat} (e : H a = some (.dK kvs)) (n1 : a ≠ d) (n2 : a ≠ c) : Av K C d c w H n (.ref a) := Av.le (Nat.zero_le n) (.inr ⟨a, rfl, n1, n2, .inr (.inl ⟨_, e⟩)⟩)
theorem Av.hou {a dx : Addr} {fs : List (Str × V)} {n : Nat} (e : H a = some (.ins C dx fs)) (n1 : a ≠ d) (n2 : a ≠ c) : Av K C d c w H n (.ref a) := Av.le (Nat.zero_le n) (.inr ⟨a, rfl, n1, n2, .inr (.inr ⟨_, _, e⟩)⟩)
theorem Av.tup {a : Addr} {xs : List V} {n : Nat} (e : SqT K H a xs) (l : xs.length ≤ w) (h : ∀ x ∈ xs, Av K C d c w H n x) : Av K C d c w H (n + 1) (.ref a) := .inr ⟨a, xs, rfl, e, l, h⟩
theorem sqT_but (k : Deck H d c) (b : But d c H H') {a : Addr} {xs : List V} (h : SqT K H a xs) : SqT K H' a xs := by
  obtain ⟨_, _, _, kd, kc, _⟩ := k
  rcases h with (h | ⟨o, h⟩) | h
  · exact .inl (.inl (b _ _ (ne_of h kd (by intro z; cases z)) (ne_of h kc (by intro z; cases z)) h))
  · exact .inl (.inr ⟨o, b _ _ (ne_of h kd (by intro z; cases z)) (ne_of h kc (by intro z; cases z)) h⟩)
  · exact .inr h
theorem Av.but (k : Deck H d c) (b : But d c H H') : ∀ {n : Nat} {v : V}, Av K C d c w H n v → Av K C d c w H' n v
  | 0, v, z => by
    rcases z with z | ⟨a, rfl, n1, n2, ⟨xs, e⟩ | ⟨kvs, e⟩ | ⟨dx, fs, e⟩⟩
    · exact .inl z
    · exact .inr ⟨a, rfl, n1, n2, .inl ⟨_, b _ _ n1 n2 e⟩⟩
    · exact .inr ⟨a, rfl, n1, n2, .inr (.inl ⟨_, b _ _ n1 n2 e⟩)⟩
    · exact .inr ⟨a, rfl, n1, n2, .inr (.inr ⟨_, _, b _ _ n1 n2 e⟩)⟩
  | n + 1, v, z => by
    rcases z with z | ⟨a, xs, rfl, e, l, h⟩
    · exact .inl (Av.but k b z)
    · exact .inr ⟨a, xs, rfl, sqT_but k b e, l, fun x hx => Av.but k b (h x hx)⟩
theorem Av.same (k : Deck H d c) (s : Same H H') {n : Nat} {v : V} (z : Av K C d c w H n v) : Av K C d c w H' n v := Av.but k (But.of s) z
theorem sqT_updL {D : Addr} {xs ys zs : List V} {a : Addr} (e : H D = some (.lst ys)) (h : SqT K H a xs) : SqT K (upd H D (.lst zs)) a xs := by
  rcases h with (h | ⟨o, h⟩) | h
  · exact .inl (.inl (by rw [upd_ne (ne_of h e (by intro z; cases z))]; exact h))
  · exact .inl (.inr ⟨o, by rw [upd_ne (ne_of h e (by intro z; cases z))]; exact h⟩)
  · exact .inr h
/-- .. while a list grows -/
theorem Av.updL {D : Addr} {ys zs : List V} (e : H D = some (.lst ys)) : ∀ {n : Nat} {v : V}, Av K C d c w H n v → Av K C d c w (upd H D (.lst zs)) n v
  | 0, v, z => by
    rcases z with z | ⟨a, rfl, n1, n2, ⟨xs, h⟩ | ⟨kvs, h⟩ | ⟨dx, fs, h⟩⟩
    · exact .inl z
    · by_cases ea : a = D
      · subst ea
        exact .inr ⟨a, rfl, n1, n2, .inl ⟨_, upd_same⟩⟩
      · exact .inr ⟨a, rfl, n1, n2, .inl ⟨_, by rw [upd_ne ea]; exact h⟩⟩
    · exact .inr ⟨a, rfl, n1, n2, .inr (.inl ⟨_, by rw [upd_ne (ne_of h e (by intro z; cases z))]; exact h⟩)⟩
    · exact .inr ⟨a, rfl, n1, n2, .inr (.inr ⟨_, _, by rw [upd_ne (ne_of h e (by intro z; cases z))]; exact h⟩)⟩
  | n + 1, v, z => by
    rcases z with z | ⟨a, xs, rfl, h, l, k⟩
    · exact .inl (Av.updL e z)
    · exact .inr ⟨a, xs, rfl, sqT_updL e h, l, fun x hx => Av.updL e (k x hx)⟩
theorem sqT_tyX {a : Addr} {xs : List V} (h : SqT K H a xs) : TyX K H (.ref a) (.type "tuple") := by
  rcases h with (h | ⟨o, h⟩) | ⟨o, _, _, h, e, _⟩
  · exact .base (.tup h)
  · exact .fTuple h
  · exact .kTuple h e
theorem Av.wh (L : LH K C) : ∀ {n : Nat} {v : V}, Av K C d c w H n v → Wh K H v
  | 0, v, z => by
    rcases z with z | ⟨a, rfl, n1, n2, ⟨xs, e⟩ | ⟨kvs, e⟩ | ⟨dx, fs, e⟩⟩
    · exact wh_p z
    · exact wh_l e
    · exact wh_d e
    · exact wh_h L e
  | n + 1, v, z => by
    rcases z with z | ⟨a, xs, rfl, e, l, h⟩
    · exact Av.wh L z
    · exact .inr (.inr ⟨rfl, rfl, _, sqT_tyX e, kit_ty (by decide +kernel)⟩)
/-- a tuple's parts, or what is no tuple -/
def Tu (K : PySem.W.Frag) (w : Nat) (H : Hp) (v : V) : Option (List V) → Prop
  | none => ∃ t, TyX K H v t ∧ PySem.W.kitOne K t (.type "tuple") = some false
  | some xs => ∃ a, v = .ref a ∧ SqT K H a xs ∧ xs.length ≤ w ∧ ∀ x ∈ xs, Wh K H x
theorem Av.tu0 (L : LH K C) (nt : PySem.W.kitOne K (.ref C) (.type "tuple") = some false) {v : V} (z : Av K C d c w H 0 v) : Tu K w H v none := by
  rcases z with z | ⟨a, rfl, n1, n2, ⟨xs, e⟩ | ⟨kvs, e⟩ | ⟨dx, fs, e⟩⟩
  · cases v with
    | int i => exact ⟨_, .base (.int i), kit_ty (by decide +kernel)⟩
    | bl b => exact ⟨_, .base (.bl b), kit_ty (by decide +kernel)⟩
    | str x => exact ⟨_, .base (.str x), kit_ty (by decide +kernel)⟩
    | non => exact ⟨_, .base .non, kit_ty (by decide +kernel)⟩
    | _ => cases z
  · exact ⟨_, .base (.lst e), kit_ty (by decide +kernel)⟩
  · exact ⟨_, .base (.dK e), kit_ty (by decide +kernel)⟩
  · exact ⟨_, .base (.ins e L.cl L.ha L.hn L.ht L.hm), nt⟩
/-- no tuple, or a tuple of lower things -/
theorem Av.split (L : LH K C) (nt : PySem.W.kitOne K (.ref C) (.type "tuple") = some false) : ∀ {n : Nat} {v : V}, Av K C d c w H n v → Tu K w H v none ∨ ∃ k a xs, k + 1 ≤ n ∧ v = .ref a ∧ SqT K H a xs ∧ xs.length ≤ w ∧ ∀ x ∈ xs, Av K C d c w H k x
  | 0, v, z => .inl (Av.tu0 L nt z)
  | n + 1, v, z => by
    rcases z with z | ⟨a, xs, rfl, e, l, h⟩
    · rcases Av.split L nt z with h | ⟨k, a, xs, h0, h⟩
      · exact .inl h
      · exact .inr ⟨k, a, xs, by omega, h⟩
    · exact .inr ⟨n, a, xs, Nat.le_refl _, rfl, e, l, h⟩
theorem Av.tu (L : LH K C) (nt : PySem.W.kitOne K (.ref C) (.type "tuple") = some false) {n : Nat} {v : V} (z : Av K C d c w H n v) : ∃ o, Tu K w H v o := by
  rcases Av.split L nt z with h | ⟨k, a, xs, _, rfl, e, l, h⟩
  · exact ⟨none, h⟩
  · exact ⟨some xs, a, rfl, e, l, fun x hx => Av.wh L (h x hx)⟩
theorem Tu.same {v : V} {o : Option (List V)} (s : Same H H') (h : Tu K w H v o) : Tu K w H' v o := by
  cases o with
  | none =>
    obtain ⟨t, h1, h2⟩ := h
    exact ⟨t, tyX_same s h1, h2⟩
  | some xs =>
    obtain ⟨a, rfl, e, l, h⟩ := h
    exact ⟨a, rfl, BP.Same.tupS s e, l, fun x hx => wh_same s (h x hx)⟩
theorem tu_isi {v : V} {o : Option (List V)} {i : Nat} {σ : L2.St} {Q : VK} (hi : σ[i]? = some (some v)) (h : Tu K w H v o) (k : Q (.bl o.isSome) H) : tCB (rIsi K) (tCons (tVar i) (tCons (tC (V.ty "tuple")) tNil)) σ H Q := by
  refine ⟨v, hi, v, .ty "tuple", ?_⟩
  cases o with
  | none =>
    obtain ⟨t, h1, h2⟩ := h
    exact ⟨_, _, false, rfl, .ty "tuple", h1, h2, k⟩
  | some xs =>
    obtain ⟨a, rfl, h1, _⟩ := h
    exact ⟨_, _, true, rfl, .ty "tuple", sqT_tyX h1, kit_ty (by decide +kernel), k⟩
end
section
variable {X : Cx}
/-- a tuple of anything, and the empty one -/
def rEqE (K : PySem.W.Frag) : R2 := fun x y H Q => ∃ a b xs, x = .ref a ∧ y = .ref b ∧ SqT K H a xs ∧ SqT K H b [] ∧ Q (.bl xs.isEmpty) H
def rNeE (K : PySem.W.Frag) : R2 := fun x y H Q => ∃ a b xs, x = .ref a ∧ y = .ref b ∧ SqT K H a xs ∧ SqT K H b [] ∧ Q (.bl (!xs.isEmpty)) H
theorem op_eqE (hu : X.A.units < cLine) : OpR X (compareOp .Eq) (rEqE X.K) := by
  intro pins s σ H x y v u Q I rx ry h
  obtain ⟨a, b, xs, rfl, rfl, ha, hb, q⟩ := h
  cases (show v = Value.ref a from rx)
  cases (show u = Value.ref b from ry)
  obtain ⟨us, r1, p1, _⟩ := I.tuple ha
  obtain ⟨ws, r2, p2, _⟩ := I.tuple hb
  cases r2
  refine SeqAt.eq_tupleAt (e := fun _ => true) p1 p2 hu (fun j h1 h2 => absurd h2 (Nat.not_lt_zero j)) ?_
  have e : ((List.range (min us.toArray.size ([] : List Value).toArray.size)).all (fun _ => true) && us.toArray.size == ([] : List Value).toArray.size) = xs.isEmpty := by
    rw [List.size_toArray, ← r1.length]
    cases xs <;> simp
  rw [e]
  exact ⟨.bl _, H, I, rfl, q⟩
/-- a list of anything, and the empty one -/
def rEqEL (K : PySem.W.Frag) : R2 := fun x y H Q => ∃ a b xs, x = .ref a ∧ y = .ref b ∧ SqL K H a xs ∧ SqL K H b [] ∧ Q (.bl xs.isEmpty) H
theorem op_eqEL (hu : X.A.units < cLine) : OpR X (compareOp .Eq) (rEqEL X.K) := by
  intro pins s σ H x y v u Q I rx ry h
  obtain ⟨a, b, xs, rfl, rfl, ha, hb, q⟩ := h
  cases (show v = Value.ref a from rx)
  cases (show u = Value.ref b from ry)
  obtain ⟨us, r1, p1, _⟩ := I.list ha
  obtain ⟨ws, r2, p2, _⟩ := I.list hb
  cases r2
  cases xs with
  | nil =>
    cases r1
    exact SeqAt.eq_listAt (e := fun _ => true) p1.isList p2.isList rfl hu (fun j h1 h2 => absurd h2 (Nat.not_lt_zero j)) ⟨.bl true, H, I, rfl, q⟩
  | cons z zs =>
    refine SeqAt.eq_list_lengthsAt p1.isList p2.isList ?_ hu ⟨.bl false, H, I, rfl, q⟩
    rw [List.size_toArray, ← r1.length]
    rfl
theorem op_neE (hu : X.A.units < cLine) : OpR X (compareOp .NotEq) (rNeE X.K) := by
  intro pins s σ H x y v u Q I rx ry h
  obtain ⟨a, b, xs, rfl, rfl, ha, hb, q⟩ := h
  cases (show v = Value.ref a from rx)
  cases (show u = Value.ref b from ry)
  obtain ⟨us, r1, p1, _⟩ := I.tuple ha
  obtain ⟨ws, r2, p2, _⟩ := I.tuple hb
  cases r2
  refine SeqAt.RcNeAt.tuples (e := fun _ => true) p1 p2 hu (fun j h1 h2 => absurd h2 (Nat.not_lt_zero j)) _ _ _ _ ?_
  have e : ((List.range (min us.toArray.size ([] : List Value).toArray.size)).all (fun _ => true) && us.toArray.size == ([] : List Value).toArray.size) = xs.isEmpty := by
    rw [List.size_toArray, ← r1.length]
    cases xs <;> simp
  rw [e]
  exact ⟨.bl _, H, I, rfl, q⟩
end
end BP
set_option Elab.async false
set_option linter.all false
set_option maxRecDepth 100000
set_option maxHeartbeats 4000000
set_option pp.maxSteps 1000
namespace BP
open PySem PySem.Spec PyProof.Rows L2 Fld
def arN (q : Nat) : Option (List V) → Bool
  | none => false
  | some xs => xs.all (isNm q)
def nzL : Option V → Bool
  | some v => !decide (v = .int 0)
  | none => true
def iolV (q : Nat) : Option (List V) → Bool
  | none => false
  | some xs => xs.all (isNm q) && (xs.isEmpty || nzL xs.getLast?)
def spAreA (K : PySem.W.Frag) : Sp := fun vs H Q _ => ∃ (q w : Nat) (v : V) (o : Option (List V)), vs = [.int (q : Nat), v] ∧ Tu K w H v o ∧ w ≤ 900 ∧ ∀ H', Same H H' → Q (.bl (arN q o)) H'
def spIolA (K : PySem.W.Frag) : Sp := fun vs H Q _ => ∃ (q w : Nat) (v : V) (o : Option (List V)), vs = [.int (q : Nat), v] ∧ Tu K w H v o ∧ w ≤ 900 ∧ ∀ H', Same H H' → Q (.bl (iolV q o)) H'
theorem same_upd {H H' : Hp} {D : Addr} {o : HO} (s : Same H H') (nD : H D = none) : Same H (upd H' D o) := fun x z e => by
  rw [upd_ne (ne_of_none e nD)]
  exact s x z e
theorem take_snoc {α : Type} {xs : List α} {i : Nat} {x : α} (h : xs[i]? = some x) : xs.take (i + 1) = xs.take i ++ [x] := by
  rw [List.take_add_one, h]
  rfl
theorem all_map_id {xs : List V} {f : V → Bool} : (xs.map f).all id = xs.all f := by
  induction xs with
  | nil => rfl
  | cons x r ih => rw [List.map_cons, List.all_cons, List.all_cons, ih]; rfl
end BP
namespace K13
open PySem PySem.Spec PyProof.Rows L2 BP Fld
section
variable {P : Program} {w : World} {K : PySem.W.Frag} {mg : Str → Option Value} {base : Heap}
theorem ok_aren {f fI : Addr} {fd fdI : FuncData} (F : Fun K "are_numbers" "are_numbers" sAreNumbers f fd) (ISN : BP.Can P w K mg base "is_number" 2 pIsNumber (spIsNm K) fI fdI) (m_tuple : mg "tuple" = none) (m_all : mg "all" = none) (m_isinstance : mg "isinstance" = none) : FnOk P w K mg base CX0 3 f fd pAreNumbers (spAreA K) := by
  refine F.ok scAreNumbers (fun vs H Q E h => ?_) (fun cdv A outer s H vs Q E hr h => ?_)
  · obtain ⟨q, w, v, o, rfl, _⟩ := h
    rfl
  · obtain ⟨q, w, v, o, rfl, ht, hw, want⟩ := h
    refine ⟨_, (pss_one (ps_ret (pe_and (pe_callB call_isi (by rfl) m_isinstance (by decide +kernel) (pa_cons (pv 1) (pa_cons (pe_bltn (v := .ty "tuple") (by rfl) m_tuple (by decide +kernel) rfl) pa_nil))) (pe_one (pe_callB (cr_all (by rfl)) (by rfl) m_all (by decide +kernel) (pa_cons (pe_lc (own := [("part", 2)]) (g := gName 2) (tt := tYes) rfl scAreNumbers.nd (pi_tup (pv 1)) (blkOk_by (N := nAreNumbers) (sc := defScope sAreNumbers) (by decide +kernel)) (fun _ _ _ _ _ => (pg_name (i := 2) scAreNumbers.nd rfl (.inl rfl))) (fun _ _ _ _ _ => pts_nil) (fun _ _ _ _ _ => (pe_call ISN.ok hr (by rfl) ISN.g ISN.kp ISN.b .nil pass0 (pa_cons (pv 0) (pa_cons (pv 2) pa_nil))))) pa_nil)))))), ?_⟩
    refine tu_isi rfl ht ⟨_, rfl, ite2 (fun z => ?_) (fun z => ?_)⟩
    · cases o with
      | none => cases z
      | some xs =>
        obtain ⟨a, rfl, ha, l, hx⟩ := ht
        refine ⟨.ref a, rfl, a, rfl, ⟨_, ha⟩, fun D nD => ?_⟩
        refine lc_tup (K := K) (a := a) (xs := xs) (fun i H' => Same H H' ∧ H' D = some (.lst (((xs.take i).map (isNm q)).map V.bl))) ⟨same_new nD, upd_same⟩ (fun i H' _ hW => BP.Same.tupS hW.1 ha) (fun i x H' hx' hW => ?_) (fun H' hW => ?_)
        · obtain ⟨s1, hD⟩ := hW
          refine ⟨rfl, yes_kept ?_⟩
          refine ⟨.int (q : Nat), rfl, x, rfl, q, x, rfl, wh_same s1 (hx x (List.mem_of_getElem? hx')), _, hD, ?_, same_upd s1 nD, ?_⟩
          · rw [List.length_map, List.length_map, List.length_take]
            exact Nat.lt_of_lt_of_le (show min i xs.length < 1000 by omega) (by decide)
          · rw [upd_same, take_snoc hx', List.map_append, List.map_append]
            rfl
        · obtain ⟨s1, hD⟩ := hW
          refine ⟨D, _, rfl, .inl (.inl hD), ?_⟩
          rw [List.take_length, all_map_id]
          exact want H' s1
    · cases o with
      | none => exact want H Same.rf
      | some xs => exact absurd rfl z
theorem ok_iol {f fI : Addr} {fd fdI : FuncData} (F : Fun K "is_one_letter" "is_one_letter" sIsOneLetter f fd) (AREN : BP.Can P w K mg base "are_numbers" 3 pAreNumbers (spAreA K) fI fdI) (m_len : mg "len" = none) : FnOk P w K mg base CX0 4 f fd pIsOneLetter (spIolA K) := by
  refine F.ok scIsOneLetter (fun vs H Q E h => ?_) (fun cdv A outer s H vs Q E hr h => ?_)
  · obtain ⟨q, w, v, o, rfl, _⟩ := h
    rfl
  · obtain ⟨q, w, v, o, rfl, ht, hw, want⟩ := h
    refine ⟨_, (pss_one (ps_ret (pe_and (pe_call AREN.ok hr (by rfl) AREN.g AREN.kp AREN.b .nil pass0 (pa_cons (pv 0) (pa_cons (pv 1) pa_nil))) (pe_one (pe_or (pe_cmpR op_eq (pe_callB call_len_seq (by rfl) m_len PySem.boot_len (pa_cons (pv 1) pa_nil)) pe_int (nomark _)) (pe_one (pe_cmpR op_ne (pe_ix ix_tup (pv 1) (pe_un un_neg pe_int) (fun _ _ => rfl)) pe_int (nomark _)))))))), ?_⟩
    refine ⟨.int (q : Nat), rfl, v, rfl, q, w, v, o, rfl, ht, hw, fun H1 s1 => ⟨_, rfl, ite2 (fun z => ?_) (fun z => ?_)⟩⟩
    · cases o with
      | none => cases z
      | some xs =>
        obtain ⟨a, rfl, ha, l, hx⟩ := ht.same s1
        have want := want H1 s1
        have ew : iolV q (some xs) = (xs.isEmpty || nzL xs.getLast?) := by
          unfold iolV
          simp only []
          rw [show xs.all (isNm q) = true from z, Bool.true_and]
        rw [ew] at want
        refine ⟨.ref a, rfl, a, xs, rfl, .inr ha, rfl, ?_⟩
        rcases List.eq_nil_or_concat xs with rfl | ⟨ys, y, ex⟩
        · exact ⟨true, rfl, iteT want⟩
        · rw [List.concat_eq_append] at ex
          subst ex
          have ny : ∃ i : Int, y = .int i := by
            have := List.all_eq_true.mp z y (by simp)
            cases y with
            | int i => exact ⟨i, rfl⟩
            | _ => cases this
          obtain ⟨i, rfl⟩ := ny
          have el : decide (V.int ((ys ++ [V.int i]).length : Nat) = V.int 0) = false := by
            refine decide_eq_false fun z => ?_
            have := V.int.inj z
            rw [List.length_append, List.length_singleton] at this
            omega
          refine ⟨false, ?_, iteF ?_⟩
          · rw [← el]
          · refine ⟨.ref a, rfl, 1, rfl, a, _, -1, V.int i, rfl, rfl, ha, ?_, rfl, ?_⟩
            · unfold atI
              have e : ixN (ys ++ [V.int i]).length (-1) = some ys.length := by
                rw [List.length_append, List.length_singleton]
                unfold ixN
                rw [if_neg (by decide), if_pos (by omega)]
                congr 1
                omega
              rw [e]
              show (ys ++ [V.int i])[ys.length]? = _
              rw [List.getElem?_append_right (Nat.le_refl _), Nat.sub_self]
              rfl
            · have en : ((ys ++ [V.int i]).isEmpty || nzL (ys ++ [V.int i]).getLast?) = !decide (V.int i = V.int 0) := by
                simp [nzL]
              rw [en] at want
              exact want
    · have e : iolV q o = false := by
        cases o with
        | none => rfl
        | some xs =>
          show (xs.all (isNm q) && _) = false
          rw [show xs.all (isNm q) = false from Bool.eq_false_iff.mpr z]
          rfl
      have want := want H1 s1
      rw [e] at want
      exact want
end
end K13
set_option Elab.async false
set_option linter.all false
set_option maxRecDepth 100000
set_option maxHeartbeats 4000000
set_option pp.maxSteps 1000
namespace BP
open PySem PySem.Spec PyProof.Rows L2 Fld
theorem filt_all {xs : List V} {f : V → Bool} : (xs.filter fun x => !f x).isEmpty = xs.all f := by
  induction xs with
  | nil => rfl
  | cons x r ih =>
    rw [List.all_cons, List.filter_cons, ← ih]
    cases f x <;> rfl
end BP
namespace K13
open PySem PySem.Spec PyProof.Rows L2 BP Fld
section
variable {P : Program} {w : World} {K : PySem.W.Frag} {mg : Str → Option Value} {base : Heap}
theorem ok_lan {f fI : Addr} {fd fdI : FuncData} (F : Fun K "_law_are_numbers" "_law_are_numbers" sLAreNumbers f fd) (LIN : BP.Can P w K mg base "_law_is_number" 1 pLIsNumber (spIsNm K) fI fdI) (m_tuple : mg "tuple" = none) (m_isinstance : mg "isinstance" = none) : FnOk P w K mg base CX0 2 f fd pLAreNumbers (spAreA K) := by
  refine F.ok scLAreNumbers (fun vs H Q E h => ?_) (fun cdv A outer s H vs Q E hr h => ?_)
  · obtain ⟨q, w, v, o, rfl, _⟩ := h
    rfl
  · obtain ⟨q, w, v, o, rfl, ht, hw, want⟩ := h
    refine ⟨_, (pss_one (ps_ret (pe_and (pe_callB call_isi (by rfl) m_isinstance (by decide +kernel) (pa_cons (pv 1) (pa_cons (pe_bltn (v := .ty "tuple") (by rfl) m_tuple (by decide +kernel) rfl) pa_nil))) (pe_one (pe_cmpR (op_eqEL (Nat.lt_of_le_of_lt (Nat.le_add_right _ 64) hr.units)) (pe_lc (own := [("_law_x", 2)]) (g := gName 2) rfl scLAreNumbers.nd (pi_tup (pv 1)) (blkOk_by (N := nLAreNumbers) (sc := defScope sLAreNumbers) (by decide +kernel)) (fun _ _ _ _ _ => (pg_name (i := 2) scLAreNumbers.nd rfl (.inl rfl))) (fun _ _ _ _ _ => (pts_one (pt_not (pt_val (pe_call LIN.ok hr (by rfl) LIN.g LIN.kp LIN.b .nil pass0 (pa_cons (pv 0) (pa_cons (pv 2) pa_nil))))))) (fun _ _ _ _ _ => (pv 2))) (pe_lst pa_nil) (nomark _)))))), ?_⟩
    refine tu_isi rfl ht ⟨_, rfl, ite2 (fun z => ?_) (fun z => ?_)⟩
    · cases o with
      | none => cases z
      | some xs =>
        obtain ⟨a, rfl, ha, l, hx⟩ := ht
        refine ⟨.ref a, rfl, a, rfl, ⟨_, ha⟩, fun D nD => ?_⟩
        refine lc_tup (K := K) (a := a) (xs := xs) (fun i H' => Same H H' ∧ H' D = some (.lst ((xs.take i).filter fun x => !isNm q x))) ⟨same_new nD, upd_same⟩ (fun i H' _ hW => BP.Same.tupS hW.1 ha) (fun i x H' hx' hW => ?_) (fun H' hW => ?_)
        · obtain ⟨s1, hD⟩ := hW
          refine ⟨rfl, ?_⟩
          refine ⟨.int (q : Nat), rfl, x, rfl, q, x, rfl, wh_same s1 (hx x (List.mem_of_getElem? hx')), _, rfl, ?_⟩
          dsimp only []
          cases hb : isNm q x with
          | true =>
            refine (if_neg (by decide)).mpr ⟨s1, ?_⟩
            rw [take_snoc hx', List.filter_append, List.filter_cons, hb, hD]
            simp
          | false =>
            refine (if_pos (by decide)).mpr ⟨x, rfl, _, hD, ?_, same_upd s1 nD, ?_⟩
            · refine Nat.lt_of_le_of_lt (List.length_filter_le ..) ?_
              rw [List.length_take]
              exact Nat.lt_of_lt_of_le (show min i xs.length < 1000 by omega) (by decide)
            · rw [upd_same, take_snoc hx', List.filter_append, List.filter_cons, hb]
              simp
        · obtain ⟨s1, hD⟩ := hW
          refine ⟨Nat.zero_le _, fun E0 nE => ?_⟩
          have sE := same_new (o := .lst []) nE
          refine ⟨D, E0, _, rfl, rfl, .inl (.inl (sE _ _ hD)), .inl (.inl upd_same), ?_⟩
          rw [List.take_length, filt_all]
          exact want _ (s1.trans sE)
    · cases o with
      | none => exact want H Same.rf
      | some xs => exact absurd rfl z
theorem ok_lil {f fI : Addr} {fd fdI : FuncData} (F : Fun K "_law_is_letter" "_law_is_letter" sLIsLetter f fd) (LAN : BP.Can P w K mg base "_law_are_numbers" 2 pLAreNumbers (spAreA K) fI fdI) : FnOk P w K mg base CX0 3 f fd pLIsLetter (spIolA K) := by
  refine F.ok scLIsLetter (fun vs H Q E h => ?_) (fun cdv A outer s H vs Q E hr h => ?_)
  · obtain ⟨q, w, v, o, rfl, _⟩ := h
    rfl
  · obtain ⟨q, w, v, o, rfl, ht, hw, want⟩ := h
    refine ⟨_, (pss_one (ps_ret (pe_and (pe_call LAN.ok hr (by rfl) LAN.g LAN.kp LAN.b .nil pass0 (pa_cons (pv 0) (pa_cons (pv 1) pa_nil))) (pe_one (pe_or (pe_cmpR (op_eqE (Nat.lt_of_le_of_lt (Nat.le_add_right _ 64) hr.units)) (pv 1) (pe_tup pa_nil) (nomark _)) (pe_one (pe_cmpR op_ne (pe_ix ix_tup (pv 1) (pe_un un_neg pe_int) (fun _ _ => rfl)) pe_int (nomark _)))))))), ?_⟩
    refine ⟨.int (q : Nat), rfl, v, rfl, q, w, v, o, rfl, ht, hw, fun H1 s1 => ⟨_, rfl, ite2 (fun z => ?_) (fun z => ?_)⟩⟩
    · cases o with
      | none => cases z
      | some xs =>
        obtain ⟨a, rfl, ha, l, hx⟩ := ht.same s1
        have ew : iolV q (some xs) = (xs.isEmpty || nzL xs.getLast?) := by
          unfold iolV
          simp only []
          rw [show xs.all (isNm q) = true from z, Bool.true_and]
        refine ⟨.ref a, rfl, Nat.zero_le _, fun T nT => ?_⟩
        have sT := same_new (o := .tup []) nT
        have want := want _ (s1.trans sT)
        rw [ew] at want
        have ha := BP.Same.tupS sT ha
        refine ⟨a, T, xs, rfl, rfl, ha, .inl (.inl upd_same), ?_⟩
        rcases List.eq_nil_or_concat xs with rfl | ⟨ys, y, ex⟩
        · exact ⟨true, rfl, iteT want⟩
        · rw [List.concat_eq_append] at ex
          subst ex
          have ny : ∃ i : Int, y = .int i := by
            have := List.all_eq_true.mp z y (by simp)
            cases y with
            | int i => exact ⟨i, rfl⟩
            | _ => cases this
          obtain ⟨i, rfl⟩ := ny
          refine ⟨false, ?_, iteF ?_⟩
          · simp
          · refine ⟨.ref a, rfl, 1, rfl, a, _, -1, V.int i, rfl, rfl, ha, ?_, rfl, ?_⟩
            · unfold atI
              have e : ixN (ys ++ [V.int i]).length (-1) = some ys.length := by
                rw [List.length_append, List.length_singleton]
                unfold ixN
                rw [if_neg (by decide), if_pos (by omega)]
                congr 1
                omega
              rw [e]
              show (ys ++ [V.int i])[ys.length]? = _
              rw [List.getElem?_append_right (Nat.le_refl _), Nat.sub_self]
              rfl
            · have en : ((ys ++ [V.int i]).isEmpty || nzL (ys ++ [V.int i]).getLast?) = !decide (V.int i = V.int 0) := by
                simp [nzL]
              rw [en] at want
              exact want
    · have e : iolV q o = false := by
        cases o with
        | none => rfl
        | some xs =>
          show (xs.all (isNm q) && _) = false
          rw [show xs.all (isNm q) = false from Bool.eq_false_iff.mpr z]
          rfl
      have want := want H1 s1
      rw [e] at want
      exact want
end
end K13
set_option Elab.async false
set_option linter.all false
set_option maxRecDepth 100000
set_option maxHeartbeats 4000000
set_option pp.maxSteps 1000
namespace BP
open PySem PySem.Spec PyProof.Rows L2 Fld
def spAnyA (K : PySem.W.Frag) (C : Addr) (m : Nat) : Sp := fun vs H Q _ => ∃ (d c : Addr) (n : Nat), vs = [.ref d, .int (n : Nat)] ∧ n < m ∧ Deck H d c ∧ ∀ (v : V) (H' : Hp), But d c H H' → Deck H' d c → Av K C d c 4 H' m v → Q v H'
end BP
namespace K13
open PySem PySem.Spec PyProof.Rows L2 BP Fld
section
variable {P : Program} {w : World} {K : PySem.W.Frag} {mg : Str → Option Value} {base : Heap}
theorem any_pickP {t : TA} {xs : List V} {σ : L2.St} {d c : Addr} {H : Hp} {Q : VK} (h0 : σ[0]? = some (some (.ref d))) (ht : ∀ (Q' : List V → Hp → Prop), Q' xs H → t σ H Q') (hx : xs.all Pls = true) (l0 : 0 < xs.length) (l1 : xs.length < 1000) (hk : Deck H d c)
    (want : ∀ (v : V) (H' : Hp), But d c H H' → Deck H' d c → Pls v = true → Q v H') : tCall spPick [] E0 (tCons (tVar 0) (tCons (tLst t) tNil)) σ H Q := by
  refine ⟨.ref d, h0, ht _ ⟨Nat.le_trans (Nat.le_of_lt l1) (by decide), fun l nl => ?_⟩⟩
  show spPick [V.ref d, V.ref l] _ Q E0
  have s1 := same_new (o := .lst xs) nl
  refine ⟨d, c, l, xs, rfl, hk.same s1, (hk.new nl).2, upd_same, l0, l1, fun x H' m b k => ?_⟩
  exact want x H' ((But.of s1).trans b) k (List.all_eq_true.mp hx x m)
theorem any_av {f fDR fPK C fI : Addr} {fd fdDR fdPK fdI : FuncData} (F : Fun K "_law_any" "_law_any" sLAny f fd) (gF : mg "_law_any" = some (.ref f)) (kF : PySem.W.keepIn K (.ref f) = true) (bF : Binds K fd pLAny []) (DR : BP.Can P w K mg base "_law_draw" 1 pLDraw spDraw fDR fdDR) (PK : BP.Can P w K mg base "_law_pick" 2 pLPick spPick fPK fdPK)
    (MH : Mk K C fI) (FI : Fun K "__init__" "House.__init__" sHouseInit fI fdI) (LHC : LH K C) (gHO : mg "House" = some (.ref C)) (BHI : Binds K fdI pHouseInit [])
    (m_len : mg "len" = none) (m_range : mg "range" = none) (m_tuple : mg "tuple" = none) : ∀ m, FnOk P w K mg base CX0 (4 + m) f fd pLAny (spAnyA K C m)
  | 0 => ⟨fun _ _ _ _ h => (by obtain ⟨_, _, _, _, z, _⟩ := h; omega), fun _ _ _ _ _ _ _ _ _ _ _ _ _ h => (by obtain ⟨_, _, _, _, z, _⟩ := h; omega)⟩
  | m + 1 => by
    have ANY : BP.Can P w K mg base "_law_any" (4 + m) pLAny (spAnyA K C m) f fd := ⟨any_av F gF kF bF DR PK MH FI LHC gHO BHI m_len m_range m_tuple m, gF, kF, bF⟩
    refine F.ok scLAny (fun vs H Q E h => ?_) (fun cdv A outer s H vs Q E hr h => ?_)
    · obtain ⟨d, c, n, rfl, _⟩ := h
      rfl
    · obtain ⟨d, c, n, rfl, hn, hk, want⟩ := h
      refine ⟨_, (pss_cons (ps_set (i := 2) scLAny.nd rfl (.inl rfl) (pe_call DR.ok (hr.mono (show 1 ≤ 4 + m by omega)) (by rfl) DR.g DR.kp DR.b .nil pass0 (pa_cons (pv 0) (pa_cons pe_int pa_nil))))
      (pss_cons (ps_if (pt_cmpR op_lt (pv 2) pe_int (nomark _)) (pss_one (ps_ret (pe_call PK.ok (hr.mono (show 2 ≤ 4 + m by omega)) (by rfl) PK.g PK.kp PK.b .nil pass0 (pa_cons (pv 0) (pa_cons (pe_lst (pa_cons pe_int (pa_cons pe_int (pa_cons (pe_un un_neg pe_int) (pa_cons pe_int (pa_cons pe_int (pa_cons pe_int (pa_cons (pe_op op_pow pe_int pe_int) (pa_cons (pe_un un_neg (pe_op op_pow pe_int pe_int)) (pa_cons pe_int pa_nil)))))))))) pa_nil))))) pss_nil)
      (pss_cons (ps_if (pt_cmpR op_eq (pv 2) pe_int (nomark _)) (pss_one (ps_ret (pe_call PK.ok (hr.mono (show 2 ≤ 4 + m by omega)) (by rfl) PK.g PK.kp PK.b .nil pass0 (pa_cons (pv 0) (pa_cons (pe_lst (pa_cons pe_str (pa_cons pe_str (pa_cons pe_str (pa_cons pe_str (pa_cons pe_str (pa_cons pe_str (pa_cons pe_str (pa_cons pe_str pa_nil))))))))) pa_nil))))) pss_nil)
      (pss_cons (ps_if (pt_cmpR op_eq (pv 2) pe_int (nomark _)) (pss_one (ps_ret (pe_call PK.ok (hr.mono (show 2 ≤ 4 + m by omega)) (by rfl) PK.g PK.kp PK.b .nil pass0 (pa_cons (pv 0) (pa_cons (pe_lst (pa_cons pe_bl (pa_cons pe_bl (pa_cons pe_non pa_nil)))) pa_nil))))) pss_nil)
      (pss_cons (ps_set (i := 3) scLAny.nd rfl (.inl rfl) (pe_ifExp (pt_cmpR op_gt (pv 1) pe_int (nomark _)) (pe_lc (own := [("_law_turn", 4)]) (g := gName 4) (tt := tYes) rfl scLAny.nd (pi_range1 rfl m_range (pa_cons (pe_call DR.ok (hr.mono (show 1 ≤ 4 + m by omega)) (by rfl) DR.g DR.kp DR.b .nil pass0 (pa_cons (pv 0) (pa_cons pe_int pa_nil))) pa_nil)) (blkOk_by (N := nLAny) (sc := defScope sLAny) (by decide +kernel)) (fun _ _ _ _ _ => (pg_name (i := 4) scLAny.nd rfl (.inl rfl))) (fun _ _ _ _ _ => pts_nil) (fun _ _ _ _ _ => (pe_call ANY.ok hr (by rfl) ANY.g ANY.kp ANY.b .nil pass0 (pa_cons (pv 0) (pa_cons (pe_op op_sub (pv 1) pe_int) pa_nil))))) (pe_lst pa_nil)))
      (pss_cons (ps_if (pt_cmpR op_eq (pv 2) pe_int (nomark _)) (pss_one (ps_ret (pv 3))) pss_nil)
      (pss_cons (ps_if (pt_cmpR op_eq (pv 2) pe_int (nomark _)) (pss_one (ps_ret (pe_make MH (ok_hinit (k := 0) FI LHC) (hr.mono (show 2 ≤ 4 + m by omega)) (by rfl) gHO BHI .nil pass0 (pa_cons (pe_op op_add pe_int (pe_call DR.ok (hr.mono (show 1 ≤ 4 + m by omega)) (by rfl) DR.g DR.kp DR.b .nil pass0 (pa_cons (pv 0) (pa_cons pe_int pa_nil)))) pa_nil)))) pss_nil)
      (pss_one (ps_ret (pe_ifExp (pt_cmpR op_eq (pv 2) pe_int (nomark _)) (pe_disp (pps_cons pe_str (pv 3) (pps_cons pe_int (pe_callB call_len_seq (by rfl) m_len PySem.boot_len (pa_cons (pv 3) pa_nil)) pps_nil)) (by rfl) (by rfl) (fun z => by cases z) (by decide)) (pe_tupleOf rfl m_tuple (pv 3)))))))))))), ?_⟩
      refine ⟨.ref d, rfl, d, c, 9, rfl, hk, by decide, by decide, fun w1 H1 hw1 b1 k1 => ?_⟩
      refine ⟨.int (w1 : Nat), rfl, _, _, rfl, rfl, _, rfl, ite2 (fun _ => ?_) (fun _ => ?_)⟩
      · refine any_pickP (xs := [.int 0, .int 1, .int (-1), .int 2, .int 3, .int 6, .int ((10 : Int) ^ (39 : Int).toNat), .int (-((10 : Int) ^ (20 : Int).toNat)), .int 16]) rfl (fun Q' z => ?_) rfl (by decide) (by decide) k1 (fun v H' b k wv => want v H' (b1.trans b) k (Av.pls wv))
        exact ⟨1, rfl, 10, 39, rfl, rfl, ⟨by decide, by decide, by decide⟩, 10, 20, rfl, rfl, ⟨by decide, by decide, by decide⟩, _, rfl, z⟩
      refine ⟨.int (w1 : Nat), rfl, rfl, _, rfl, ite2 (fun _ => ?_) (fun _ => ?_)⟩
      · refine any_pickP (xs := [.str "", .str "bend", .str "straight", .str "step", .str "stuck", .str "F", .str "(0, 0, 1)", .str "~"]) rfl (fun Q' z => ?_) rfl (by decide) (by decide) k1 (fun v H' b k wv => want v H' (b1.trans b) k (Av.pls wv))
        exact z
      refine ⟨.int (w1 : Nat), rfl, rfl, _, rfl, ite2 (fun _ => ?_) (fun _ => ?_)⟩
      · refine any_pickP (xs := [.bl true, .bl false, .non]) rfl (fun Q' z => ?_) rfl (by decide) (by decide) k1 (fun v H' b k wv => want v H' (b1.trans b) k (Av.pls wv))
        exact z
      show Ends.nx _ [some (.ref d), some (.int (n : Nat)), some (.int (w1 : Nat)), none, none] H1
      dsimp only []
      refine seq_by (fun v H' => ∃ D xs, v = .ref D ∧ But d c H H' ∧ Deck H' d c ∧ H' D = some (.lst xs) ∧ xs.length ≤ 4 ∧ D ≠ d ∧ D ≠ c ∧ ∀ x ∈ xs, Av K C d c 4 H' m x) (fun Q1 kk => ?_) (fun v H3 ⟨D, xs, ev, b3, k3, e3, l3, nd3, nc3, hx3⟩ => ?_)
      · refine ⟨.int (n : Nat), rfl, _, _, rfl, rfl, _, rfl, ite2 (fun z => ?_) (fun _ => ?_)⟩
        · have zn : 0 < n := by
            have := of_decide_eq_true z
            omega
          refine ⟨.ref d, rfl, d, c, 5, rfl, k1, by decide, by decide, fun t H2 ht b2 k2 => ⟨_, rfl, by omega, by omega, fun D nD => ?_⟩⟩
          rw [show (((t : Nat) : Int)).toNat = t by omega]
          obtain ⟨nDd, nDc⟩ := k2.new nD
          refine lc_range (lo := 0) (n := t) (fun i H' => But d c H2 H' ∧ Deck H' d c ∧ ∃ xs : List V, xs.length = i ∧ H' D = some (.lst xs) ∧ ∀ x ∈ xs, Av K C d c 4 H' m x) ⟨But.of (same_new nD), k2.same (same_new nD), [], rfl, upd_same, fun x h => by cases h⟩ (fun i H4 hi hW => ?_) (fun H4 hW => ?_)
          · obtain ⟨b4, k4, xs, lx, hD, hx⟩ := hW
            refine ⟨rfl, yes_kept ⟨.ref d, rfl, .int (n : Nat), rfl, _, _, rfl, rfl, d, c, n - 1, ?_, by omega, k4, fun v H5 b5 k5 av => ?_⟩⟩
            · show [V.ref d, V.int ((n : Int) - 1)] = _
              rw [show ((n : Int) - 1) = ((n - 1 : Nat) : Int) by omega]
            · refine ⟨_, b5 _ _ nDd nDc hD, ?_, but_upd (b4.trans b5) nD, k5.off nDd nDc, xs ++ [v], by rw [List.length_append, lx]; rfl, upd_same, fun y hy => ?_⟩
              · exact Nat.lt_of_lt_of_le (show xs.length < 1000 by omega) (by decide)
              · rcases List.mem_append.mp hy with hy | hy
                · exact Av.updL (b5 _ _ nDd nDc hD) (Av.but k4 b5 (hx y hy))
                · rw [List.mem_singleton.mp hy]
                  exact Av.updL (b5 _ _ nDd nDc hD) av
          · obtain ⟨b4, k4, xs, lx, hD, hx⟩ := hW
            exact kk _ _ ⟨D, xs, rfl, b1.trans (b2.trans b4), k4, hD, by omega, nDd, nDc, hx⟩
        · refine ⟨Nat.zero_le _, fun D nD => ?_⟩
          have s1 := same_new (o := .lst []) nD
          obtain ⟨n1, n2⟩ := k1.new nD
          exact kk _ _ ⟨D, [], rfl, b1.trans (But.of s1), k1.same s1, upd_same, by decide, n1, n2, fun x h => by cases h⟩
      · subst ev
        show tSeq _ _ _ [some (.ref d), some (.int (n : Nat)), some (.int (w1 : Nat)), some (.ref D), none] H3
        refine ⟨.int (w1 : Nat), rfl, rfl, _, rfl, ite2 (fun _ => ?_) (fun _ => ?_)⟩
        · exact ⟨.ref D, rfl, want _ _ b3 k3 (Av.lst e3 nd3 nc3)⟩
        refine ⟨.int (w1 : Nat), rfl, rfl, _, rfl, ite2 (fun _ => ?_) (fun _ => ?_)⟩
        · refine ⟨.ref d, rfl, d, c, 4, rfl, k3, by decide, by decide, fun t H4 ht b4 k4 => ⟨_, _, rfl, rfl, fun x dx nx ndx ne => ?_⟩⟩
          refine ⟨x, dx, _, rfl, upd_same, fun fs H5 h5 e5 => ⟨rfl, ?_⟩⟩
          have s5 : Same H4 H5 := fun b o e => h5 b o (ne_of_none e nx) (by
            rw [upd_ne (ne_of_none e nx), upd_ne (ne_of_none e ndx)]
            exact e)
          obtain ⟨n1, n2⟩ := k4.new nx
          exact want _ _ (b3.trans (b4.trans (But.of s5))) (k4.same s5) (Av.hou e5 n1 n2)
        show Ends.nx _ [some (.ref d), some (.int (n : Nat)), some (.int (w1 : Nat)), some (.ref D), none] H3
        dsimp only []
        refine ⟨.int (w1 : Nat), rfl, rfl, _, rfl, ite2 (fun _ => ?_) (fun _ => ?_)⟩
        · refine fun p np => ?_
          have s4 := same_new (o := .dK []) np
          refine ⟨.ref D, rfl, .ref D, rfl, D, xs, rfl, .inl (.inl (.inl (s4 _ _ e3))), upd_same, [(.inr "key", .ref D), (.inl 1, .int xs.length)], rfl, (by show (2 : Nat) ≤ 15; decide), ?_⟩
          obtain ⟨n1, n2⟩ := k3.new np
          exact want _ _ (b3.trans (but_upd (But.of s4) np)) ((k3.same s4).off n1 n2) (Av.dic upd_same n1 n2)
        · refine ⟨.ref D, rfl, .inl ⟨D, xs, rfl, .inl (.inl e3), fun q nq => ?_⟩⟩
          have s4 := same_new (o := .tup xs) nq
          exact want _ _ (b3.trans (But.of s4)) (k3.same s4) (Av.tup (.inl (.inl upd_same)) l3 fun x hx => Av.same k3 s4 (hx3 x hx))
end
end K13
set_option Elab.async false
set_option linter.all false
set_option maxRecDepth 100000
set_option maxHeartbeats 4000000
set_option pp.maxSteps 1000
namespace BP
open PySem PySem.Spec PyProof.Rows L2 Fld
section
variable {K : PySem.W.Frag} {H : Hp} {a b C d c : Addr} {xs ys : List V} {Q : VK} {w : Nat}
theorem catA (ha : SqT K H a xs) (hb : SqT K H b ys) (le : xs.length + ys.length ≤ sizeLine) (k : ∀ (r : Addr) (H' : Hp), Same H H' → SqT K H' r (xs ++ ys) → Q (.ref r) H') : rCatA K (.ref a) (.ref b) H Q := by
  refine ⟨a, b, xs, ys, rfl, rfl, ha, hb, le, fun e => ?_, fun _ e => ?_, fun _ _ p np => ?_⟩
  · refine k b H (fun _ _ z => z) ?_
    rw [e]
    exact hb
  · refine k a H (fun _ _ z => z) ?_
    rw [e, List.append_nil]
    exact ha
  · exact k p _ (same_new np) (.inl (.inl upd_same))
/-- any slice -/
theorem sliceA {lo hi : Option Int} (ha : SqT K H a xs) (k : ∀ (r : Addr) (H' : Hp), Same H H' → SqT K H' r (cutV xs lo hi) → Q (.ref r) H') : rSlA K (.ref a) lo hi H Q := by
  refine ⟨a, xs, rfl, ha, fun e => ?_, fun _ p np => ?_⟩
  · refine k a H (fun _ _ z => z) ?_
    have : cutV xs lo hi = xs := by
      unfold cutV
      rw [e.1, e.2]
      exact List.take_length ..
    rw [this]
    exact ha
  · exact k p _ (same_new np) (.inl (.inl upd_same))
theorem cut_sub {lo hi : Option Int} {x : V} (h : x ∈ cutV xs lo hi) : x ∈ xs := List.mem_of_mem_drop (List.mem_of_mem_take h)
theorem cut_l1 (n : Nat) : (cutV xs none (some (n : Int))).length = min n xs.length := by
  unfold cutV
  rw [HT.sIx_nat, HT.sIx_none, List.length_take, List.length_drop]
  omega
theorem cut_l2 (n : Nat) : (cutV xs (some (n : Int)) none).length = xs.length - min n xs.length := by
  unfold cutV
  rw [HT.sIx_nat, HT.sIx_none, List.length_take, List.length_drop]
  omega
theorem cut_l3 (n m : Nat) : (cutV xs (some (n : Int)) (some (m : Int))).length = min m xs.length - min n xs.length := by
  unfold cutV
  rw [HT.sIx_nat, HT.sIx_nat, List.length_take, List.length_drop]
  omega
def Tl (K : PySem.W.Frag) (te : TE) (σ : L2.St) (H : Hp) (ys : List V) : Prop := ∀ Q : VK, (∀ (r : Addr) (H' : Hp), Same H H' → SqT K H' r ys → Q (.ref r) H') → te σ H Q
theorem tl_cat {ta tb : TE} {σ : L2.St} (hA : Tl K ta σ H xs) (hB : ∀ H', Same H H' → Tl K tb σ H' ys) (le : xs.length + ys.length ≤ 1000) : Tl K (tOp (rCatA K) ta tb) σ H (xs ++ ys) :=
  fun Q k => hA _ fun r H1 s1 h1 => hB H1 s1 _ fun u H2 s2 h2 => catA (BP.Same.tupS s2 h1) h2 (Nat.le_trans le (by decide)) fun p H3 s3 h3 => k p H3 (s1.trans (s2.trans s3)) h3
theorem tl_slice {tl th : TO} {lo hi : Option Int} {i : Nat} {σ : L2.St} (h : σ[i]? = some (some (.ref a))) (ha : SqT K H a xs) (hl : ∀ (H : Hp) (Q : Option Int → Hp → Prop), Q lo H → tl σ H Q) (hh : ∀ (H : Hp) (Q : Option Int → Hp → Prop), Q hi H → th σ H Q) : Tl K (tSl (rSlA K) (tVar i) tl th) σ H (cutV xs lo hi) :=
  fun Q k => ⟨.ref a, h, hl _ _ (hh _ _ (sliceA ha k))⟩
theorem po_no {σ : L2.St} : ∀ (H : Hp) (Q : Option Int → Hp → Prop), Q none H → tNoPart σ H Q := fun H Q z => z
theorem po_at {σ : L2.St} {i n : Nat} (h : σ[i]? = some (some (.int (n : Nat)))) : ∀ (H : Hp) (Q : Option Int → Hp → Prop), Q (some (n : Int)) H → tPart (tVar i) σ H Q := fun H Q z => ⟨_, h, _, rfl, z⟩
theorem po_pl {σ : L2.St} {i n k : Nat} (h : σ[i]? = some (some (.int (n : Nat)))) : ∀ (H : Hp) (Q : Option Int → Hp → Prop), Q (some ((n + k : Nat) : Int)) H → tPart (tOp (rI0 fun i j => V.int (i + j)) (tVar i) (tC (V.int (k : Nat)))) σ H Q := fun H Q z => ⟨_, h, _, _, rfl, rfl, _, rfl, z⟩
theorem seq_if_by {cT : TT} {A : TS} {rest : TS} {D : Ends} {σ : L2.St} (Pt Pf : Hp → Prop) (h : ∀ Q : Bool → Hp → Prop, (∀ H', Pt H' → Q true H') → (∀ H', Pf H' → Q false H') → cT σ H Q) (kt : ∀ H', Pt H' → A { D with nx := rest D } σ H') (kf : ∀ H', Pf H' → rest D σ H') : tSeq (tIfS cT A tNext) rest D σ H :=
  h _ (fun H' p => iteT (kt H' p)) (fun H' p => iteF (kf H' p))
end
def spSp (K : PySem.W.Frag) (C : Addr) (m : Nat) : Sp := fun vs H Q _ => ∃ (d c : Addr) (n w : Nat) (v : V), vs = [.ref d, v] ∧ n < m ∧ w ≤ 800 ∧ Deck H d c ∧ Av K C d c w H n v ∧ ∀ (v' : V) (H' : Hp), But d c H H' → Deck H' d c → Av K C d c (w + 1) H' (n + 1) v' → Q v' H'
end BP
namespace K13
open PySem PySem.Spec PyProof.Rows L2 BP Fld
section
variable {P : Program} {w : World} {K : PySem.W.Frag} {mg : Str → Option Value} {base : Heap}
theorem sp_all {f fDR fPK C : Addr} {fd fdDR fdPK : FuncData} (F : Fun K "_law_spoilt" "_law_spoilt" sLSpoilt f fd) (gF : mg "_law_spoilt" = some (.ref f)) (kF : PySem.W.keepIn K (.ref f) = true) (bF : Binds K fd pLSpoilt []) (DR : BP.Can P w K mg base "_law_draw" 1 pLDraw spDraw fDR fdDR) (PK : BP.Can P w K mg base "_law_pick" 2 pLPick spPick fPK fdPK)
    (LHC : LH K C) (nt : PySem.W.kitOne K (.ref C) (.type "tuple") = some false) (m_len : mg "len" = none) (m_list : mg "list" = none) (m_tuple : mg "tuple" = none) (m_isinstance : mg "isinstance" = none) : ∀ m, FnOk P w K mg base CX0 (4 + m) f fd pLSpoilt (spSp K C m)
  | 0 => ⟨fun _ _ _ _ h => (by obtain ⟨_, _, _, _, _, _, z, _⟩ := h; omega), fun _ _ _ _ _ _ _ _ _ _ _ _ _ h => (by obtain ⟨_, _, _, _, _, _, z, _⟩ := h; omega)⟩
  | m + 1 => by
    have SP : BP.Can P w K mg base "_law_spoilt" (4 + m) pLSpoilt (spSp K C m) f fd := ⟨sp_all F gF kF bF DR PK LHC nt m_len m_list m_tuple m_isinstance m, gF, kF, bF⟩
    refine F.ok scLSpoilt (fun vs H Q E h => ?_) (fun cdv A outer s H vs Q E hr h => ?_)
    · obtain ⟨d, c, n, w, v, rfl, _⟩ := h
      rfl
    · obtain ⟨d, c, n, w, v, rfl, hn, hw, hk, hv, want⟩ := h
      refine ⟨_, (pss_cons (ps_if (PW.pt (pw_and (pt_val (pe_callB call_isi (by rfl) m_isinstance (by decide +kernel) (pa_cons (pv 1) (pa_cons (pe_bltn (v := .ty "tuple") (by rfl) m_tuple (by decide +kernel) rfl) pa_nil)))) (pw_and (pt_cmpR (op_neE (Nat.lt_of_le_of_lt (Nat.le_add_right _ 64) hr.units)) (pv 1) (pe_tup pa_nil) (nomark _)) (pw_and1 (pt_cmpR op_gt (pe_call DR.ok (hr.mono (show 1 ≤ 4 + m by omega)) (by rfl) DR.g DR.kp DR.b .nil pass0 (pa_cons (pv 0) (pa_cons pe_int pa_nil))) pe_int (nomark _)))))) (pss_cons (ps_set (i := 2) scLSpoilt.nd rfl (.inl rfl) (pe_call DR.ok (hr.mono (show 1 ≤ 4 + m by omega)) (by rfl) DR.g DR.kp DR.b .nil pass0 (pa_cons (pv 0) (pa_cons (pe_callB call_len_seq (by rfl) m_len PySem.boot_len (pa_cons (pv 1) pa_nil)) pa_nil))))
        (pss_one (ps_ret (pe_op op_catA (pe_op op_catA (pe_slice sl_tupA (pv 1) po_none (po_some (pv 2))) (pe_tup (pa_cons (pe_call SP.ok hr (by rfl) SP.g SP.kp SP.b .nil pass0 (pa_cons (pv 0) (pa_cons (pe_ix ix_tup (pv 1) (pv 2) (fun _ _ => rfl)) pa_nil))) pa_nil))) (pe_slice sl_tupA (pv 1) (po_some (pe_op op_add (pv 2) pe_int)) po_none))))) pss_nil)
      (pss_cons (ps_set (i := 3) scLSpoilt.nd rfl (.inl rfl) (pe_call DR.ok (hr.mono (show 1 ≤ 4 + m by omega)) (by rfl) DR.g DR.kp DR.b .nil pass0 (pa_cons (pv 0) (pa_cons pe_int pa_nil))))
      (pss_cons (ps_set (i := 4) scLSpoilt.nd rfl (.inl rfl) (pe_call PK.ok (hr.mono (show 2 ≤ 4 + m by omega)) (by rfl) PK.g PK.kp PK.b .nil pass0 (pa_cons (pv 0) (pa_cons (pe_lst (pa_cons pe_int (pa_cons pe_int (pa_cons (pe_un un_neg pe_int) (pa_cons pe_int (pa_cons pe_int (pa_cons pe_bl (pa_cons pe_bl (pa_cons pe_non (pa_cons pe_str (pa_cons pe_str (pa_cons (pe_tup pa_nil) (pa_cons (pe_tup (pa_cons pe_int pa_nil)) (pa_cons (pe_lst (pa_cons pe_int pa_nil)) (pa_cons (pe_op op_pow pe_int pe_int) (pa_cons pe_int (pa_cons pe_int (pa_cons pe_str pa_nil)))))))))))))))))) pa_nil))))
      (pss_cons (ps_if (PW.pt (pw_or (pt_not (pt_val (pe_callB call_isi (by rfl) m_isinstance (by decide +kernel) (pa_cons (pv 1) (pa_cons (pe_bltn (v := .ty "tuple") (by rfl) m_tuple (by decide +kernel) rfl) pa_nil))))) (pw_or (pt_cmpR (op_eqE (Nat.lt_of_le_of_lt (Nat.le_add_right _ 64) hr.units)) (pv 1) (pe_tup pa_nil) (nomark _)) (pw_or1 (pt_cmpR op_eq (pv 3) pe_int (nomark _)))))) (pss_one (ps_ret (pv 4))) pss_nil)
      (pss_cons (ps_set (i := 2) scLSpoilt.nd rfl (.inl rfl) (pe_call DR.ok (hr.mono (show 1 ≤ 4 + m by omega)) (by rfl) DR.g DR.kp DR.b .nil pass0 (pa_cons (pv 0) (pa_cons (pe_callB call_len_seq (by rfl) m_len PySem.boot_len (pa_cons (pv 1) pa_nil)) pa_nil))))
      (pss_cons (ps_if (pt_cmpR op_eq (pv 3) pe_int (nomark _)) (pss_one (ps_ret (pe_callTy call_list_of (by rfl) m_list (by decide +kernel) (pa_cons (pv 1) pa_nil)))) pss_nil)
      (pss_cons (ps_if (pt_cmpR op_eq (pv 3) pe_int (nomark _)) (pss_one (ps_ret (pe_op op_catA (pe_slice sl_tupA (pv 1) po_none (po_some (pv 2))) (pe_slice sl_tupA (pv 1) (po_some (pe_op op_add (pv 2) pe_int)) po_none)))) pss_nil)
      (pss_cons (ps_if (pt_cmpR op_eq (pv 3) pe_int (nomark _)) (pss_one (ps_ret (pe_op op_catA (pe_op op_catA (pe_slice sl_tupA (pv 1) po_none (po_some (pv 2))) (pe_slice sl_tupA (pv 1) (po_some (pv 2)) (po_some (pe_op op_add (pv 2) pe_int)))) (pe_slice sl_tupA (pv 1) (po_some (pv 2)) po_none)))) pss_nil)
      (pss_cons (ps_if (pt_cmpR op_eq (pv 3) pe_int (nomark _)) (pss_one (ps_ret (pe_op op_catA (pe_op op_catA (pe_op op_catA (pe_slice sl_tupA (pv 1) po_none (po_some (pv 2))) (pe_slice sl_tupA (pv 1) (po_some (pe_op op_add (pv 2) pe_int)) (po_some (pe_op op_add (pv 2) pe_int)))) (pe_slice sl_tupA (pv 1) (po_some (pv 2)) (po_some (pe_op op_add (pv 2) pe_int)))) (pe_slice sl_tupA (pv 1) (po_some (pe_op op_add (pv 2) pe_int)) po_none)))) pss_nil)
      (pss_one (ps_ret (pe_op op_catA (pv 1) (pe_tup (pa_cons (pv 4) pa_nil)))))))))))))), ?_⟩
      refine seq_if_by (fun H' => But d c H H' ∧ Deck H' d c ∧ ∃ k a xs, k + 1 ≤ n ∧ v = .ref a ∧ SqT K H' a xs ∧ xs.length ≤ w ∧ 0 < xs.length ∧ ∀ x ∈ xs, Av K C d c w H' k x) (fun H' => But d c H H' ∧ Deck H' d c) (fun Q2 k1 k2 => ?_) (fun H1 h1 => ?_) (fun H1 h1 => ?_)
      · rcases Av.split LHC nt hv with h | ⟨k, a, xs, hk1, rfl, ha, hl, hx⟩
        · exact tu_isi rfl h ⟨_, rfl, iteF (k2 H ⟨But.refl, hk⟩)⟩
        · refine tu_isi (o := some xs) (w := w) rfl ⟨a, rfl, ha, hl, fun x h => Av.wh LHC (hx x h)⟩ ⟨_, rfl, iteT ?_⟩
          refine ⟨.ref a, rfl, Nat.zero_le _, fun T nT => ?_⟩
          have sT := same_new (o := .tup []) nT
          refine ⟨a, T, xs, rfl, rfl, BP.Same.tupS sT ha, .inl (.inl upd_same), _, rfl, ite2 (fun z => ?_) (fun _ => ?_)⟩
          · refine ⟨.ref d, rfl, d, c, 4, rfl, hk.same sT, by decide, by decide, fun x H' hx' b' k' => ⟨_, _, rfl, rfl, _, rfl, ?_⟩⟩
            have bb := (But.of sT).trans b'
            cases hd : decide ((0 : Int) < (x : Nat)) with
            | true =>
              refine k1 H' ⟨bb, k', k, a, xs, hk1, rfl, sqT_but hk bb ha, hl, ?_, fun y hy => Av.but hk bb (hx y hy)⟩
              cases xs with
              | nil => cases z
              | cons y ys => exact Nat.succ_pos _
            | false => exact k2 H' ⟨bb, k'⟩
          · exact k2 _ ⟨But.of sT, hk.same sT⟩
      · obtain ⟨b1, kk1, k, a, xs, hk1, rfl, ha, hl, pos, hx⟩ := h1
        refine ⟨.ref d, rfl, .ref a, rfl, a, xs, rfl, .inr ha, d, c, xs.length, rfl, kk1, pos, by omega, fun i H2 hi b2 kk2 => ?_⟩
        show Ends.nx _ [some (.ref d), some (.ref a), some (.int (i : Nat)), none, none] H2
        dsimp only []
        have ha2 := sqT_but kk1 b2 ha
        have hx2 : ∀ x ∈ xs, Av K C d c w H2 k x := fun x h => Av.but kk1 b2 (hx x h)
        refine tl_slice rfl ha2 po_no (po_at rfl) _ fun r1 H3 s3 hr1 => ?_
        have k3 := kk2.same s3
        refine ⟨.ref d, rfl, .ref a, rfl, .int (i : Nat), rfl, a, xs, (i : Nat), xs[i], rfl, rfl, BP.Same.tupS s3 ha2, atI_nat (List.getElem?_eq_getElem hi), ?_⟩
        refine ⟨d, c, k, w, xs[i], rfl, by omega, hw, k3, Av.same kk2 s3 (hx2 xs[i] (List.getElem_mem hi)), fun v' H4 b4 k4 av => ⟨(by show 1 ≤ sizeLine; decide), fun T nT => ?_⟩⟩
        have sT := same_new (o := .tup [v']) nT
        have b34 : But d c H2 H4 := (But.of s3).trans b4
        have hr14 := sqT_but k3 b4 hr1
        have ha4 := sqT_but kk2 b34 ha2
        have l1 := cut_l1 (xs := xs) i
        have l2 := cut_l2 (xs := xs) (i + 1)
        refine catA (BP.Same.tupS sT hr14) (.inl (.inl upd_same)) (Nat.le_trans (show _ ≤ 1000 by rw [l1]; show _ + 1 ≤ 1000; omega) (by decide)) fun r2 H5 s5 h5 => ?_
        refine tl_slice rfl (BP.Same.tupS (sT.trans s5) ha4) (po_pl (k := 1) rfl) po_no _ fun r3 H6 s6 h6 => ?_
        refine catA (BP.Same.tupS s6 h5) h6 (Nat.le_trans (show _ ≤ 1000 by rw [List.length_append, l1, l2]; show _ + 1 + _ ≤ 1000; omega) (by decide)) fun r4 H7 s7 h7 => ?_
        have sA := sT.trans (s5.trans (s6.trans s7))
        refine want _ H7 (b1.trans (b2.trans (b34.trans (But.of sA)))) (k4.same sA) (Av.tup h7 ?_ fun y hy => ?_)
        · rw [List.length_append, List.length_append, l1, l2]
          show _ + 1 + _ ≤ w + 1
          omega
        · have old : ∀ y ∈ xs, Av K C d c (w + 1) H7 n y := fun y h => Av.le (show k ≤ n by omega) (Av.wid (Nat.le_succ w) (Av.but kk2 (b34.trans (But.of sA)) (hx2 y h)))
          rcases List.mem_append.mp hy with hy | hy
          · rcases List.mem_append.mp hy with hy | hy
            · exact old y (cut_sub hy)
            · rw [List.mem_singleton.mp hy]
              exact Av.le (show k + 1 ≤ n by omega) (Av.same k4 sA av)
          · exact old y (cut_sub hy)
      · obtain ⟨b1, kk1⟩ := h1
        refine ⟨.ref d, rfl, d, c, 6, rfl, kk1, by decide, by decide, fun y H2 hy b2 k2 => ?_⟩
        show Ends.nx _ [some (.ref d), some v, none, some (.int (y : Nat)), none] H2
        dsimp only []
        refine ⟨.ref d, rfl, 1, rfl, Nat.zero_le _, fun T1 n1 => ⟨(by show 1 ≤ sizeLine; decide), fun T2 n2 => ⟨(by show 1 ≤ sizeLine; decide), fun U nU => ⟨10, 39, rfl, rfl, ⟨by decide, by decide, by decide⟩, (by show 17 ≤ sizeLine; decide), fun L nL => ?_⟩⟩⟩⟩
        have sT1 := same_new (o := .tup []) n1
        have sT2 := same_new (o := .tup [.int 0]) n2
        have sU := same_new (o := .lst [.int 0]) nU
        have e1 := sU _ _ (sT2 _ _ (upd_same (H := H2) (a := T1) (o := HO.tup [])))
        have e2 := sU _ _ (upd_same (H := upd H2 T1 (.tup [])) (a := T2) (o := HO.tup [V.int 0]))
        have e3 := upd_same (H := upd (upd H2 T1 (.tup [])) T2 (.tup [V.int 0])) (a := U) (o := HO.lst [V.int 0])
        have s3 := sT1.trans (sT2.trans sU)
        obtain ⟨nUd, nUc⟩ := (k2.same (sT1.trans sT2)).new nU
        have k3 := k2.same s3
        generalize upd (upd (upd H2 T1 (.tup [])) T2 (.tup [V.int 0])) U (.lst [V.int 0]) = H3 at e1 e2 e3 s3 k3 nL ⊢
        have sL := same_new (o := .lst [V.int 0, V.int 1, V.int (-1), V.int 2, V.int 3, V.bl true, V.bl false, V.non, V.str (Str.ofString "0"), V.str (Str.ofString "bend"), V.ref T1, V.ref T2, V.ref U, V.int ((10 : Int) ^ (39 : Int).toNat), V.int 4, V.int 16, V.str (Str.ofString "straight")]) nL
        refine ⟨d, c, L, [V.int 0, V.int 1, V.int (-1), V.int 2, V.int 3, V.bl true, V.bl false, V.non, V.str (Str.ofString "0"), V.str (Str.ofString "bend"), V.ref T1, V.ref T2, V.ref U, V.int ((10 : Int) ^ (39 : Int).toNat), V.int 4, V.int 16, V.str (Str.ofString "straight")], rfl, k3.same sL, (k3.new nL).2, upd_same, (by show 0 < 17; decide), (by show 17 < 1000; decide), fun z H4 hz b4 k4 => ?_⟩
        have b34 : But d c H3 H4 := (But.of sL).trans b4
        have bz := b1.trans (b2.trans ((But.of s3).trans b34))
        have az : Av K C d c (w + 1) H4 1 z := by
          refine Av.but k3 b34 ?_
          simp only [List.mem_cons, List.not_mem_nil, or_false] at hz
          rcases hz with rfl | rfl | rfl | rfl | rfl | rfl | rfl | rfl | rfl | rfl | rfl | rfl | rfl | rfl | rfl | rfl | rfl
          · exact Av.pls rfl
          · exact Av.pls rfl
          · exact Av.pls rfl
          · exact Av.pls rfl
          · exact Av.pls rfl
          · exact Av.pls rfl
          · exact Av.pls rfl
          · exact Av.pls rfl
          · exact Av.pls rfl
          · exact Av.pls rfl
          · exact Av.tup (.inl (.inl e1)) (Nat.zero_le _) fun x h => by cases h
          · exact Av.tup (.inl (.inl e2)) (Nat.succ_le_succ (Nat.zero_le _)) fun x h => by rw [List.mem_singleton.mp h]; exact Av.pls rfl
          · exact Av.lst e3 nUd nUc
          · exact Av.pls rfl
          · exact Av.pls rfl
          · exact Av.pls rfl
          · exact Av.pls rfl
        show Ends.nx _ [some (.ref d), some v, none, some (.int (y : Nat)), some z] H4
        dsimp only []
        have hv4 := Av.but hk bz hv
        refine seq_if_by (fun H' => Same H4 H') (fun H' => Same H4 H' ∧ ∃ k a xs, k + 1 ≤ n ∧ v = .ref a ∧ SqT K H4 a xs ∧ xs.length ≤ w ∧ 0 < xs.length ∧ ∀ x ∈ xs, Av K C d c w H4 k x) (fun Q2 k1 k2 => ?_) (fun H5 s5 => ?_) (fun H5 h5 => ?_)
        · rcases Av.split LHC nt hv4 with h | ⟨k, a, xs, hk1, rfl, ha, hl, hx⟩
          · exact tu_isi rfl h ⟨_, rfl, iteT (k1 H4 Same.rf)⟩
          · refine tu_isi (o := some xs) (w := w) rfl ⟨a, rfl, ha, hl, fun x h => Av.wh LHC (hx x h)⟩ ⟨_, rfl, iteF ?_⟩
            refine ⟨.ref a, rfl, Nat.zero_le _, fun T nT => ?_⟩
            have sT := same_new (o := .tup []) nT
            refine ⟨a, T, xs, rfl, rfl, BP.Same.tupS sT ha, .inl (.inl upd_same), _, rfl, ite2 (fun z => k1 _ sT) (fun z => ?_)⟩
            refine ⟨.int (y : Nat), rfl, rfl, _, rfl, ?_⟩
            cases hd : decide (V.int (y : Nat) = V.int 0) with
            | true => exact k1 _ sT
            | false =>
              refine k2 _ ⟨sT, k, a, xs, hk1, rfl, ha, hl, ?_, hx⟩
              cases xs with
              | nil => exact absurd rfl z
              | cons y ys => exact Nat.succ_pos _
        · exact ⟨z, rfl, want z H5 (bz.trans (But.of s5)) (k4.same s5) (Av.le (by omega) (Av.same k4 s5 az))⟩
        · obtain ⟨s5, k, a, xs, hk1, rfl, ha, hl, pos, hx⟩ := h5
          have ha5 := BP.Same.tupS s5 ha
          refine ⟨.ref d, rfl, .ref a, rfl, a, xs, rfl, .inr ha5, d, c, xs.length, rfl, k4.same s5, pos, by omega, fun i H6 hi b6 k6 => ?_⟩
          have b46 : But d c H4 H6 := (But.of s5).trans b6
          have ha6 := sqT_but k4 b46 ha
          have hx6 : ∀ x ∈ xs, Av K C d c (w + 1) H6 n x := fun x h => Av.le (show k ≤ n by omega) (Av.wid (Nat.le_succ w) (Av.but k4 b46 (hx x h)))
          have az6 : Av K C d c (w + 1) H6 n z := Av.le (show 1 ≤ n by omega) (Av.but k4 b46 az)
          have bw := bz.trans b46
          show Ends.nx _ [some (.ref d), some (.ref a), some (.int (i : Nat)), some (.int (y : Nat)), some z] H6
          dsimp only []
          have l1 := cut_l1 (xs := xs) i
          have l2 := cut_l2 (xs := xs) (i + 1)
          have l2' := cut_l2 (xs := xs) i
          have l3 := cut_l3 (xs := xs) i (i + 1)
          have l3' := cut_l3 (xs := xs) (i + 1) (i + 2)
          have l4 := cut_l2 (xs := xs) (i + 2)
          have fin : ∀ (r : Addr) (H' : Hp) (ys : List V), Same H6 H' → SqT K H' r ys → ys.length ≤ w + 1 → (∀ y ∈ ys, y ∈ xs ∨ y = z) → Q (.ref r) H' := fun r H' ys s h l e =>
            want _ H' (bw.trans (But.of s)) (k6.same s) (Av.tup h l fun y hy => by
              rcases e y hy with m | rfl
              · exact Av.same k6 s (hx6 y m)
              · exact Av.same k6 s az6)
          refine ⟨.int (y : Nat), rfl, rfl, _, rfl, ite2 (fun _ => ?_) (fun _ => ?_)⟩
          · refine ⟨.ref a, rfl, a, xs, rfl, .inr ha6, fun l nl => ?_⟩
            have sl := same_new (o := .lst xs) nl
            obtain ⟨n1, n2⟩ := k6.new nl
            exact want _ _ (bw.trans (But.of sl)) (k6.same sl) (Av.lst upd_same n1 n2)
          refine ⟨.int (y : Nat), rfl, rfl, _, rfl, ite2 (fun _ => ?_) (fun _ => ?_)⟩
          · exact tl_cat (tl_slice rfl ha6 po_no (po_at rfl)) (fun H' s => tl_slice rfl (BP.Same.tupS s ha6) (po_pl (k := 1) rfl) po_no) (by rw [l1, l2]; omega) _ fun r H' s h => fin r H' _ s h (by rw [List.length_append, l1, l2]; omega) fun y hy => .inl ((List.mem_append.mp hy).elim cut_sub cut_sub)
          refine ⟨.int (y : Nat), rfl, rfl, _, rfl, ite2 (fun _ => ?_) (fun _ => ?_)⟩
          · exact tl_cat (tl_cat (tl_slice rfl ha6 po_no (po_at rfl)) (fun H' s => tl_slice rfl (BP.Same.tupS s ha6) (po_at rfl) (po_pl (k := 1) rfl)) (by rw [l1, l3]; omega)) (fun H' s => tl_slice rfl (BP.Same.tupS s ha6) (po_at rfl) po_no) (by rw [List.length_append, l1, l3, l2']; omega) _ fun r H' s h => fin r H' _ s h (by rw [List.length_append, List.length_append, l1, l3, l2']; omega) fun y hy => .inl ((List.mem_append.mp hy).elim (fun hy => (List.mem_append.mp hy).elim cut_sub cut_sub) cut_sub)
          refine ⟨.int (y : Nat), rfl, rfl, _, rfl, ite2 (fun _ => ?_) (fun _ => ?_)⟩
          · exact tl_cat (tl_cat (tl_cat (tl_slice rfl ha6 po_no (po_at rfl)) (fun H' s => tl_slice rfl (BP.Same.tupS s ha6) (po_pl (k := 1) rfl) (po_pl (k := 2) rfl)) (by rw [l1, l3']; omega)) (fun H' s => tl_slice rfl (BP.Same.tupS s ha6) (po_at rfl) (po_pl (k := 1) rfl)) (by rw [List.length_append, l1, l3', l3]; omega)) (fun H' s => tl_slice rfl (BP.Same.tupS s ha6) (po_pl (k := 2) rfl) po_no) (by rw [List.length_append, List.length_append, l1, l3', l3, l4]; omega) _ fun r H' s h => fin r H' _ s h (by rw [List.length_append, List.length_append, List.length_append, l1, l3', l3, l4]; omega) fun y hy => .inl ((List.mem_append.mp hy).elim (fun hy => (List.mem_append.mp hy).elim (fun hy => (List.mem_append.mp hy).elim cut_sub cut_sub) cut_sub) cut_sub)
          refine ⟨.ref a, rfl, z, rfl, (by show 1 ≤ sizeLine; decide), fun T nT => ?_⟩
          have sT := same_new (o := .tup [z]) nT
          refine catA (BP.Same.tupS sT ha6) (.inl (.inl upd_same)) (Nat.le_trans (show xs.length + 1 ≤ 1000 by omega) (by decide)) fun r H' s h => fin r H' _ (sT.trans s) h (by rw [List.length_append]; show xs.length + 1 ≤ w + 1; omega) fun y hy => ?_
          rcases List.mem_append.mp hy with hy | hy
          · exact .inl hy
          · exact .inr (List.mem_singleton.mp hy)
theorem ok_sp {f fDR fPK C : Addr} {fd fdDR fdPK : FuncData} (F : Fun K "_law_spoilt" "_law_spoilt" sLSpoilt f fd) (gF : mg "_law_spoilt" = some (.ref f)) (kF : PySem.W.keepIn K (.ref f) = true) (bF : Binds K fd pLSpoilt []) (DR : BP.Can P w K mg base "_law_draw" 1 pLDraw spDraw fDR fdDR) (PK : BP.Can P w K mg base "_law_pick" 2 pLPick spPick fPK fdPK)
    (LHC : LH K C) (nt : PySem.W.kitOne K (.ref C) (.type "tuple") = some false) (m_len : mg "len" = none) (m_list : mg "list" = none) (m_tuple : mg "tuple" = none) (m_isinstance : mg "isinstance" = none) : FnOk P w K mg base CX0 7 f fd pLSpoilt (spSp K C 3) := by
  exact sp_all F gF kF bF DR PK LHC nt m_len m_list m_tuple m_isinstance 3
end
end K13
set_option Elab.async false
set_option linter.all false
set_option maxRecDepth 100000
set_option maxHeartbeats 4000000
set_option pp.maxSteps 1000
namespace BP
open PySem PySem.Spec PyProof.Rows L2 Fld
structure Sm (d : PyData) (w k : Nat) : Prop where
  lay : d.canLay0 = true
  sh : d.showable = true
  short : d.intsShort 13 = true
  dep : d.depth ≤ k
  wt : d.weight ≤ w
structure SmAll (xs : List PyData) (w k : Nat) : Prop where
  lay : PyData.canLayAll0 xs = true
  sh : PyData.showableAll xs = true
  short : PyData.intsShortAll 13 xs = true
  dep : PyData.depthAll xs ≤ k
  wt : PyData.weightAll xs ≤ w
theorem SmAll.nil {w k : Nat} : SmAll [] w k := ⟨by simp [PyData.canLayAll0], by simp [PyData.showableAll], by simp [PyData.intsShortAll], by simp [PyData.depthAll], by simp [PyData.weightAll]⟩
theorem SmAll.cons {d : PyData} {xs : List PyData} {w w' k : Nat} (h : Sm d w k) (g : SmAll xs w' k) : SmAll (d :: xs) (w + 1 + w') k := by
  obtain ⟨h1, h2, h3, h4, h5⟩ := h
  obtain ⟨g1, g2, g3, g4, g5⟩ := g
  refine ⟨by simp [PyData.canLayAll0, h1, g1], by simp [PyData.showableAll, h2, g2], by simp [PyData.intsShortAll, h3, g3], ?_, ?_⟩
  · simp only [PyData.depthAll]
    omega
  · simp only [PyData.weightAll]
    omega
theorem Sm.tup {xs : List PyData} {w k : Nat} (h : SmAll xs w k) : Sm (.tuple xs) w (k + 1) := by
  obtain ⟨h1, h2, h3, h4, h5⟩ := h
  refine ⟨by simp [PyData.canLay0, h1], by simp [PyData.showable, h2], by simp [PyData.intsShort, h3], ?_, ?_⟩
  · simp only [PyData.depth]
    omega
  · simp only [PyData.weight]
    omega
theorem Sm.more {d : PyData} {w k w' k' : Nat} (h : Sm d w k) (hw : w ≤ w') (hk : k ≤ k') : Sm d w' k' := ⟨h.lay, h.sh, h.short, Nat.le_trans h.dep hk, Nat.le_trans h.wt hw⟩
theorem SmAll.more {d : List PyData} {w k w' k' : Nat} (h : SmAll d w k) (hw : w ≤ w') (hk : k ≤ k') : SmAll d w' k' := ⟨h.lay, h.sh, h.short, Nat.le_trans h.dep hk, Nat.le_trans h.wt hw⟩
theorem Sm.int {i : Int} (h : i.natAbs < 32) : Sm (.int i) 6 0 := by
  have l5 : i.natAbs.log2 ≤ 5 := by
    by_cases h0 : i.natAbs = 0
    · rw [h0]
      decide
    · have := (Nat.log2_lt h0 (k := 5)).mpr h
      omega
  refine ⟨by simp [PyData.canLay0], ?_, ?_, by simp [PyData.depth], ?_⟩
  · simp only [PyData.showable]
    exact decide_eq_true (by omega)
  · simp only [PyData.intsShort]
    exact decide_eq_true (PyData.shown_int_le (Nat.lt_of_lt_of_le h (by decide)))
  · simp only [PyData.weight]
    split <;> omega
theorem rRepr_of {K : PySem.W.Frag} {H : Hp} {a : Addr} {d : PyData} {w k : Nat} {Q : VK} (h : Dp K H (.ref a) d) (s : Sm d w k) (hk : k ≤ 40) (hw : w ≤ 2 ^ 20) (q : Q (.str d.shown) H) : rRepr K [.ref a] H Q :=
  ⟨a, d, rfl, h, s.sh, PyData.hasDict_of_canLay d s.lay, Nat.le_trans s.dep hk, PyData.shown_fits (B := 13) (by decide) (Nat.le_refl _) (PyData.leavesShort_of_canLay0 13 d s.lay s.short) (Nat.le_trans s.wt hw), q⟩
theorem Sm.bl (b : Bool) : Sm (.bool b) 6 0 := ⟨by simp [PyData.canLay0], by simp [PyData.showable], by simp [PyData.intsShort], by simp [PyData.depth], by cases b <;> simp [PyData.weight]⟩
theorem two_bl {K : PySem.W.Frag} {H : Hp} {T : Addr} {b c : Bool} (h : H T = some (.tup [.bl b, .bl c])) : Dp K H (.ref T) (.tuple [.bool b, .bool c]) := .tup (.inl (.inl h)) (.cons (.bl b) (.cons (.bl c) .nil))
theorem sm_bl (b : Bool) : Sm (.tuple [.bool b, .bool b]) 100 1 := (Sm.tup (SmAll.cons (Sm.bl b) (SmAll.cons (Sm.bl b) (SmAll.nil (w := 0) (k := 0))))).more (by decide) (by decide)
def spToldF (K : PySem.W.Frag) : Sp := fun vs H Q _ => ∃ (d c a : Addr) (q : Nat) (xs : List V), vs = [.ref d, .int (q : Nat), .ref a] ∧ Deck H d c ∧ SqT K H a xs ∧ xs.length ≤ 41 ∧ xs.all Pls = true ∧ ∀ H', But d c H H' → Deck H' d c → Q (.bl true) H'
end BP
namespace K13
open PySem PySem.Spec PyProof.Rows L2 BP Fld
section
variable {P : Program} {w : World} {K : PySem.W.Frag} {mg : Str → Option Value} {base : Heap}
theorem ok_any3 {f fDR fPK C fI : Addr} {fd fdDR fdPK fdI : FuncData} (F : Fun K "_law_any" "_law_any" sLAny f fd) (gF : mg "_law_any" = some (.ref f)) (kF : PySem.W.keepIn K (.ref f) = true) (bF : Binds K fd pLAny []) (DR : BP.Can P w K mg base "_law_draw" 1 pLDraw spDraw fDR fdDR) (PK : BP.Can P w K mg base "_law_pick" 2 pLPick spPick fPK fdPK)
    (MH : Mk K C fI) (FI : Fun K "__init__" "House.__init__" sHouseInit fI fdI) (LHC : LH K C) (gHO : mg "House" = some (.ref C)) (BHI : Binds K fdI pHouseInit [])
    (m_len : mg "len" = none) (m_range : mg "range" = none) (m_tuple : mg "tuple" = none) : FnOk P w K mg base CX0 7 f fd pLAny (spAnyA K C 3) := by
  exact any_av F gF kF bF DR PK MH FI LHC gHO BHI m_len m_range m_tuple 3
theorem ok_told {f fIOL fLIL fSP fANY C : Addr} {fd fdIOL fdLIL fdSP fdANY : FuncData} (F : Fun K "_law_is_told" "_law_is_told" sLIsTold f fd) (IOL : BP.Can P w K mg base "is_one_letter" 4 pIsOneLetter (spIolA K) fIOL fdIOL) (LIL : BP.Can P w K mg base "_law_is_letter" 3 pLIsLetter (spIolA K) fLIL fdLIL)
    (SP : BP.Can P w K mg base "_law_spoilt" 7 pLSpoilt (spSp K C 3) fSP fdSP) (ANY : BP.Can P w K mg base "_law_any" 7 pLAny (spAnyA K C 3) fANY fdANY) (LHC : LH K C) (nt : PySem.W.kitOne K (.ref C) (.type "tuple") = some false) (kb_IOL : KBinds K fdIOL pIsOneLetter ["thing", "q"] sw2 sw2)
    (m_repr : mg "repr" = none) (m_list : mg "list" = none) : GFn P w K mg base 8 f fd pLIsTold (spToldF K) := by
  refine gok F scLIsTold (fun vs H Q E h => ?_) (fun cdv A outer s H vs Q E hgd hr h => ?_)
  · obtain ⟨d, c, a, q, xs, rfl, _⟩ := h
    rfl
  · obtain ⟨d, c, a, q, xs, rfl, hk, ha, hl, hp, want⟩ := h
    refine ⟨_, (pss_cons (ps_for PassesOwn.never rfl (pi_list (pe_lst (pa_cons (pv 2) (pa_cons (pe_op op_catA (pv 2) (pe_tup (pa_cons pe_int pa_nil))) (pa_cons (pe_call SP.ok (hr.mono (show 7 ≤ 7 by decide)) (by rfl) SP.g SP.kp SP.b .nil pass0 (pa_cons (pv 0) (pa_cons (pv 2) pa_nil))) (pa_cons (pe_call SP.ok (hr.mono (show 7 ≤ 7 by decide)) (by rfl) SP.g SP.kp SP.b .nil pass0 (pa_cons (pv 0) (pa_cons (pe_call SP.ok (hr.mono (show 7 ≤ 7 by decide)) (by rfl) SP.g SP.kp SP.b .nil pass0 (pa_cons (pv 0) (pa_cons (pv 2) pa_nil))) pa_nil))) (pa_cons (pe_callTy call_list_of (by rfl) m_list (by decide +kernel) (pa_cons (pv 2) pa_nil)) (pa_cons (pe_call ANY.ok (hr.mono (show 7 ≤ 7 by decide)) (by rfl) ANY.g ANY.kp ANY.b .nil pass0 (pa_cons (pv 0) (pa_cons pe_int pa_nil))) pa_nil)))))))) (pg_name (i := 3) scLIsTold.nd rfl (.inl rfl)) (pss_cons (ps_set (i := 4) scLIsTold.nd rfl (.inl rfl) (pe_call LIL.ok (hr.mono (show 3 ≤ 7 by decide)) (by rfl) LIL.g LIL.kp LIL.b .nil pass0 (pa_cons (pv 1) (pa_cons (pv 3) pa_nil))))
        (pss_one (ps_if (pt_cmpR op_ne (pe_callB (call_repr_data hgd hr.units) (by rfl) m_repr (by decide +kernel) (pa_cons (pe_tup (pa_cons (pe_call IOL.ok (hr.mono (show 4 ≤ 7 by decide)) (by rfl) IOL.g IOL.kp IOL.b .nil pass0 (pa_cons (pv 1) (pa_cons (pv 3) pa_nil))) (pa_cons (pe_callK0 IOL.ok (hr.mono (show 4 ≤ 7 by decide)) (by rfl) IOL.g IOL.kp kb_IOL pass0 (pk_cons (pv 3) (pk_cons (pv 1) pk_nil))) pa_nil))) pa_nil)) (pe_callB (call_repr_data hgd hr.units) (by rfl) m_repr (by decide +kernel) (pa_cons (pe_tup (pa_cons (pv 4) (pa_cons (pv 4) pa_nil))) pa_nil)) (nomark _)) (pss_one (ps_ret pe_bl)) pss_nil))))
      (pss_one (ps_ret pe_bl))), ?_⟩
    have avf : ∀ {H'}, SqT K H' a xs → Av K C d c 41 H' 1 (.ref a) := fun h => Av.tup h hl fun x hx => Av.pls (List.all_eq_true.mp hp x hx)
    refine ⟨.ref a, rfl, .ref a, rfl, (by show 1 ≤ sizeLine; decide), fun T nT => ?_⟩
    have sT := same_new (o := .tup [.int 0]) nT
    refine catA (BP.Same.tupS sT ha) (.inl (.inl upd_same)) (Nat.le_trans (show xs.length + 1 ≤ 1000 by omega) (by decide)) fun r1 H1 s1 h1 => ?_
    have sA := sT.trans s1
    have ha1 := BP.Same.tupS sA ha
    have k1 := hk.same sA
    have av1 : Av K C d c 50 H1 1 (.ref r1) := Av.tup h1 (by rw [List.length_append]; show xs.length + 1 ≤ 50; omega) fun x hx => by
      rcases List.mem_append.mp hx with hx | hx
      · exact Av.pls (List.all_eq_true.mp hp x hx)
      · rw [List.mem_singleton.mp hx]
        exact Av.pls rfl
    refine ⟨.ref d, rfl, .ref a, rfl, d, c, 1, 41, .ref a, rfl, by decide, by decide, k1, avf ha1, fun v2 H2 b2 k2 av2 => ?_⟩
    have ha2 := sqT_but k1 b2 ha1
    refine ⟨.ref d, rfl, .ref d, rfl, .ref a, rfl, d, c, 1, 41, .ref a, rfl, by decide, by decide, k2, avf ha2, fun v3 H3 b3 k3 av3 => ⟨d, c, 2, 42, v3, rfl, by decide, by decide, k3, av3, fun v4 H4 b4 k4 av4 => ?_⟩⟩
    have b34 := b3.trans b4
    have ha4 := sqT_but k2 b34 ha2
    refine ⟨.ref a, rfl, a, xs, rfl, .inr ha4, fun l nl => ?_⟩
    have sl := same_new (o := .lst xs) nl
    obtain ⟨nld, nlc⟩ := k4.new nl
    have el := upd_same (H := H4) (a := l) (o := HO.lst xs)
    have k5 := k4.same sl
    have b45 : But d c H4 (upd H4 l (.lst xs)) := But.of sl
    generalize upd H4 l (.lst xs) = H5 at sl el k5 b45 ⊢
    refine ⟨.ref d, rfl, d, c, 2, rfl, by decide, k5, fun v6 H6 b6 k6 av6 => ⟨(by show 6 ≤ sizeLine; decide), fun L nL => ?_⟩⟩
    have b16 : But d c H1 H6 := b2.trans (b34.trans (b45.trans b6))
    have b26 : But d c H2 H6 := b34.trans (b45.trans b6)
    have sL := same_new (o := .lst [.ref a, .ref r1, v2, v4, .ref l, v6]) nL
    have hw : ∀ z ∈ [V.ref a, .ref r1, v2, v4, .ref l, v6], Av K C d c 50 H6 3 z := by
      intro z hz
      simp only [List.mem_cons, List.not_mem_nil, or_false] at hz
      rcases hz with rfl | rfl | rfl | rfl | rfl | rfl
      · exact Av.le (by decide) (Av.wid (by decide) (avf (sqT_but k1 b16 ha1)))
      · exact Av.le (by decide) (Av.but k1 b16 av1)
      · exact Av.le (by decide) (Av.wid (by decide) (Av.but k2 b26 av2))
      · exact Av.wid (by decide) (Av.but k4 (b45.trans b6) av4)
      · exact Av.lst (b6 _ _ nld nlc el) nld nlc
      · exact Av.wid (by decide) av6
    have bb : But d c H H6 := (But.of sA).trans b16
    refine ⟨L, rfl, ⟨_, .inl (.inl upd_same)⟩, for_list (xs := [V.ref a, .ref r1, v2, v4, .ref l, v6]) (fun i σ H' => Same H6 H' ∧ H' L = some (.lst [V.ref a, .ref r1, v2, v4, .ref l, v6]) ∧ ∃ y3 y4 : Option V, σ = [some (.ref d), some (.int (q : Nat)), some (.ref a), y3, y4]) ⟨sL, upd_same, none, none, rfl⟩ (fun i σ H' _ h => .inl (.inl h.2.1)) (fun i z σ H' hz hW => ?_) (fun σ H' hW => ?_)⟩
    · obtain ⟨s7, hLL, y3, y4, rfl⟩ := hW
      obtain ⟨o, ho⟩ := Av.tu LHC nt (Av.same k6 s7 (hw z (List.mem_of_getElem? hz)))
      refine ⟨.int (q : Nat), rfl, z, rfl, q, 50, z, o, rfl, ho, by decide, fun H8 s8 => ?_⟩
      show Ends.nx _ [some (.ref d), some (.int (q : Nat)), some (.ref a), some z, some (.bl (iolV q o))] H8
      dsimp only []
      refine ⟨.int (q : Nat), rfl, z, rfl, q, 50, z, o, rfl, ho.same s8, by decide, fun H9 s9 => ⟨z, rfl, .int (q : Nat), rfl, q, 50, z, o, rfl, ho.same (s8.trans s9), by decide, fun Ha sa => ⟨(by show 2 ≤ sizeLine; decide), fun V1 nV1 => ?_⟩⟩⟩
      dsimp only [tNil]
      refine rRepr_of (two_bl upd_same) (sm_bl (iolV q o)) (by decide) (by decide) ?_
      refine ⟨.bl (iolV q o), rfl, .bl (iolV q o), rfl, (by show 2 ≤ sizeLine; decide), fun V2 nV2 => ?_⟩
      dsimp only [tNil]
      refine rRepr_of (two_bl upd_same) (sm_bl (iolV q o)) (by decide) (by decide) ⟨rfl, _, rfl, ?_⟩
      rw [decide_eq_true rfl]
      have sV := s8.trans (s9.trans (sa.trans ((same_new (o := .tup [.bl (iolV q o), .bl (iolV q o)]) nV1).trans (same_new (o := .tup [.bl (iolV q o), .bl (iolV q o)]) nV2))))
      exact iteF ⟨s7.trans sV, sV _ _ hLL, _, _, rfl⟩
    · obtain ⟨s7, hLL, y3, y4, rfl⟩ := hW
      exact want _ (bb.trans (But.of s7)) (k6.same s7)
end
end K13
set_option Elab.async false
set_option linter.all false
set_option maxRecDepth 100000
set_option maxHeartbeats 4000000
set_option pp.maxSteps 1000
namespace BP
open PySem PySem.Spec PyProof.Rows L2 Fld
theorem trim_snoc {q : Nat} [F : IsF q] {f : Po q} {e : El q} (h : e ≠ 0) : trim (f ++ [e]) = f ++ [e] := by
  refine trim_of_top (n := f.length) (by rw [List.length_append]; rfl) ?_
  have : co (f ++ [e]) f.length = e := by
    unfold co
    rw [List.getD_eq_getElem?_getD, List.getElem?_append_right (Nat.le_refl _), Nat.sub_self]
    rfl
  rw [this]
  exact h
def spLet (K : PySem.W.Frag) : Sp := fun vs H Q _ => ∃ (q : Nat) (_ : IsF q) (d c : Addr) (h : Nat), vs = [.ref d, .int (q : Nat), .int ((h : Int) - 1)] ∧ Deck H d c ∧ h ≤ 41 ∧ ∀ (a : Addr) (f : Po q) (H' : Hp), But d c H H' → Deck H' d c → SqT K H' a (vns f) → f.length = h → trim f = f → Q (.ref a) H'
end BP
namespace K13
open PySem PySem.Spec PyProof.Rows L2 BP Fld
section
variable {P : Program} {w : World} {K : PySem.W.Frag} {mg : Str → Option Value} {base : Heap}
theorem ok_letter {f fDR : Addr} {fd fdDR : FuncData} (F : Fun K "_law_letter" "_law_letter" sLLetter f fd) (DR : BP.Can P w K mg base "_law_draw" 1 pLDraw spDraw fDR fdDR) (m_range : mg "range" = none) (m_tuple : mg "tuple" = none) : FnOk P w K mg base CX0 2 f fd pLLetter (spLet K) := by
  refine F.ok scLLetter (fun vs H Q E h => ?_) (fun cdv A outer s H vs Q E hr h => ?_)
  · obtain ⟨q, _, d, c, h, rfl, _⟩ := h
    rfl
  · obtain ⟨q, FF, d, c, h, rfl, hk, hh, want⟩ := h
    have q16 := le16 FF.mem
    have q1 := gt1 FF.mem
    refine ⟨_, (pss_cons (ps_if (pt_cmpR op_eq (pv 2) (pe_un un_neg pe_int) (nomark _)) (pss_one (ps_ret (pe_tup pa_nil))) pss_nil)
      (pss_cons (ps_set (i := 3) scLLetter.nd rfl (.inr rfl) (pe_call DR.ok hr (by rfl) DR.g DR.kp DR.b .nil pass0 (pa_cons (pv 0) (pa_cons pe_int pa_nil))))
      (pss_cons (ps_setLc (i := 4) (own := [("_law_at", 5)]) (g := gName 5) (tt := tYes) rfl scLLetter.nd rfl rfl (sw_true rfl rfl rfl (by decide +kernel)) (pi_range1 rfl m_range (pa_cons (pv 2) pa_nil)) (blkOk_by (N := nLLetter) (sc := defScope sLLetter) (by decide +kernel)) (fun _ _ _ _ _ => (pg_name (i := 5) scLLetter.nd rfl (.inl rfl))) (fun _ _ _ _ _ => pts_nil) (fun _ _ _ _ _ => (pe_ifExp (PW.pt (pw_and (pt_cmpR op_eq (pv 3) pe_int (nomark _)) (pw_and1 (pt_cmpR op_eq (pe_call DR.ok hr (by rfl) DR.g DR.kp DR.b .nil pass0 (pa_cons (pv 0) (pa_cons pe_int pa_nil))) pe_int (nomark _))))) pe_int (pe_call DR.ok hr (by rfl) DR.g DR.kp DR.b .nil pass0 (pa_cons (pv 0) (pa_cons (pv 1) pa_nil))))))
      (pss_one (ps_ret (pe_op op_catA (pe_tupleOf rfl m_tuple (pv 4)) (pe_tup (pa_cons (pe_op op_add pe_int (pe_call DR.ok hr (by rfl) DR.g DR.kp DR.b .nil pass0 (pa_cons (pv 0) (pa_cons (pe_op op_sub (pv 1) pe_int) pa_nil)))) pa_nil)))))))), ?_⟩
    refine ⟨.int ((h : Int) - 1), rfl, 1, rfl, rfl, _, rfl, ite2 (fun z => ?_) (fun z => ?_)⟩
    · have h0 : h = 0 := by
        have := V.int.inj (of_decide_eq_true z)
        omega
      refine ⟨Nat.zero_le _, fun T nT => ?_⟩
      have sT := same_new (o := .tup []) nT
      exact want T [] _ (But.of sT) (hk.same sT) (.inl (.inl upd_same)) h0.symm rfl
    have h0 : h ≠ 0 := fun e => z (decide_eq_true (by rw [e]; rfl))
    refine ⟨.ref d, rfl, d, c, 2, rfl, hk, by decide, by decide, fun th H1 hth b1 k1 => ?_⟩
    show Ends.nx _ [some (.ref d), some (.int (q : Nat)), some (.int ((h : Int) - 1)), some (.int (th : Nat)), none, none] H1
    dsimp only []
    refine ⟨.int ((h : Int) - 1), rfl, _, rfl, by omega, by omega, fun D nD => ?_⟩
    rw [show ((h : Int) - 1).toNat = h - 1 by omega]
    obtain ⟨nDd, nDc⟩ := k1.new nD
    refine lc_range (lo := 0) (n := h - 1) (fun i H' => But d c H1 H' ∧ Deck H' d c ∧ ∃ xs : Po q, xs.length = i ∧ H' D = some (.lst (vns xs))) ⟨But.of (same_new nD), k1.same (same_new nD), [], rfl, upd_same⟩ (fun i H4 hi hW => ?_) (fun H4 hW => ?_)
    · obtain ⟨b4, k4, xs, lx, hD⟩ := hW
      refine ⟨rfl, yes_kept ?_⟩
      have el : ∀ (x : El q) (H5 : Hp), But d c H4 H5 → Deck H5 d c → ∃ acc, H5 D = some (.lst acc) ∧ acc.length < sizeLine ∧ (But d c H1 (upd H5 D (.lst (acc ++ [vn x]))) ∧ Deck (upd H5 D (.lst (acc ++ [vn x]))) d c ∧ ∃ xs : Po q, xs.length = i + 1 ∧ (upd H5 D (.lst (acc ++ [vn x]))) D = some (.lst (vns xs))) := fun x H5 b5 k5 => by
        refine ⟨_, b5 _ _ nDd nDc hD, ?_, but_upd (b4.trans b5) nD, k5.off nDd nDc, xs ++ [x], by rw [List.length_append, lx]; rfl, ?_⟩
        · unfold vns
          rw [List.length_map]
          exact Nat.lt_of_lt_of_le (show xs.length < 1000 by omega) (by decide)
        · rw [upd_same]
          unfold vns
          rw [List.map_append]
          rfl
      have dr : ∀ H4', But d c H4 H4' → Deck H4' d c → tCall spDraw [] E0 (tCons (tVar 0) (tCons (tVar 1) tNil)) [some (V.ref d), some (V.int (q : Nat)), some (V.int ((h : Int) - 1)), some (V.int (th : Nat)), none, some (V.int (0 + (i : Int)))] H4' fun y H5 => ∃ acc, H5 D = some (.lst acc) ∧ acc.length < sizeLine ∧ (But d c H1 (upd H5 D (.lst (acc ++ [y]))) ∧ Deck (upd H5 D (.lst (acc ++ [y]))) d c ∧ ∃ xs : Po q, xs.length = i + 1 ∧ (upd H5 D (.lst (acc ++ [y]))) D = some (.lst (vns xs))) := fun H4' b' k' =>
        ⟨.ref d, rfl, .int (q : Nat), rfl, d, c, q, rfl, k', by omega, by omega, fun x H6 hx b6 k6 => el ⟨x, hx⟩ H6 (b'.trans b6) k6⟩
      refine ⟨.int (th : Nat), rfl, rfl, _, rfl, ite2 (fun _ => ?_) (fun _ => ?_)⟩
      · refine ⟨.ref d, rfl, d, c, 2, rfl, k4, by decide, by decide, fun r H5 hr5 b5 k5 => ⟨rfl, _, rfl, ite2 (fun _ => ?_) (fun _ => ?_)⟩⟩
        · exact el 0 H5 b5 k5
        · exact dr H5 b5 k5
      · exact iteF (dr H4 But.refl k4)
    · obtain ⟨b4, k4, xs, lx, hD⟩ := hW
      show Ends.nx _ [some (V.ref d), some (V.int (q : Nat)), some (V.int ((h : Int) - 1)), some (V.int (th : Nat)), some (V.ref D), none] H4
      dsimp only []
      refine ⟨.ref D, rfl, .inl ⟨D, _, rfl, .inl (.inl hD), fun T nT => ?_⟩⟩
      have sT := same_new (o := .tup (vns xs)) nT
      have hT := upd_same (H := H4) (a := T) (o := HO.tup (vns xs))
      have k5 := k4.same sT
      have b5 : But d c H (upd H4 T (.tup (vns xs))) := b1.trans (b4.trans (But.of sT))
      generalize upd H4 T (.tup (vns xs)) = H5 at hT k5 b5 ⊢
      refine ⟨.ref d, rfl, .int (q : Nat), rfl, _, _, rfl, rfl, d, c, q - 1, ?_, k5, by omega, by omega, fun y H6 hy b6 k6 => ⟨1, _, rfl, rfl, (by show 1 ≤ sizeLine; decide), fun U nU => ?_⟩⟩
      · show [V.ref d, V.int ((q : Int) - 1)] = _
        rw [show (q : Int) - 1 = ((q - 1 : Nat) : Int) by omega]
      · have e1 : V.int (1 + (y : Int)) = vn (⟨1 + y, by omega⟩ : El q) := by
          show _ = V.int ((1 + y : Nat) : Int)
          rw [Int.natCast_add]
          rfl
        have nz : (⟨1 + y, by omega⟩ : El q) ≠ 0 := El.ne_zero.mpr (by show 1 + y ≠ 0; omega)
        have sU := same_new (o := .tup [V.int (1 + (y : Int))]) nU
        have hT6 : SqT K _ T (vns xs) := BP.Same.tupS sU (sqT_but (K := K) k5 b6 (.inl (.inl hT)))
        refine catA hT6 (.inl (.inl upd_same)) (Nat.le_trans (show _ ≤ 1000 by unfold vns; rw [List.length_map, lx]; show h - 1 + 1 ≤ 1000; omega) (by decide)) fun r H7 s7 h7 => ?_
        have h7 : SqT K H7 r (vns xs ++ [V.int (1 + (y : Int))]) := h7
        rw [e1] at h7
        refine want r (xs ++ [⟨1 + y, by omega⟩]) H7 (b5.trans (b6.trans (But.of (sU.trans s7)))) (k6.same (sU.trans s7)) ?_ (by rw [List.length_append, lx]; show h - 1 + 1 = h; omega) (trim_snoc nz)
        unfold vns
        rw [List.map_append]
        exact h7
end
end K13
set_option Elab.async false
set_option linter.all false
set_option maxRecDepth 100000
set_option maxHeartbeats 4000000
set_option pp.maxSteps 1000
namespace BP
open PySem PySem.Spec PyProof.Rows L2 Fld
/-- a row of numbers, list or tuple, without zeros at the end, as a tuple -/
def spLTr (K : PySem.W.Frag) : Sp := fun vs H Q _ => ∃ (q : Nat) (_ : IsF q) (a : Addr) (l : Po q), vs = [.ref a] ∧ (SqL K H a (vns l) ∨ SqT K H a (vns l)) ∧ l.length ≤ 200 ∧ ∀ (p : Addr) (H' : Hp), Same H H' → SqT K H' p (vns (trim l)) → Q (.ref p) H'
end BP
namespace K13
open PySem PySem.Spec PyProof.Rows L2 BP Fld
section
variable {P : Program} {w : World} {K : PySem.W.Frag} {mg : Str → Option Value} {base : Heap}
theorem ok_ltrimmed {f : Addr} {fd : FuncData} {k : Nat} (F : Fun K "_law_trimmed" "_law_trimmed" sLTrimmed f fd) (m_len : mg "len" = none) (m_tuple : mg "tuple" = none) : FnOk P w K mg base CX0 (k + 1) f fd pLTrimmed (spLTr K) := by
  refine F.ok scLTrimmed (fun vs H Q E h => ?_) (fun cdv A outer s H vs Q E hr h => ?_)
  · obtain ⟨q, _, a, l, rfl, _⟩ := h
    rfl
  · obtain ⟨q, FF, a, l, rfl, hl, ln, want⟩ := h
    refine ⟨_, (pss_cons (ps_set (i := 1) scLTrimmed.nd rfl (.inl rfl) (pe_callB call_len_seq (by rfl) m_len PySem.boot_len (pa_cons (pv 0) pa_nil)))
      (pss_cons (ps_while PassesOwn.never (PW.pt (pw_and (pt_cmpR op_gt (pv 1) pe_int (nomark _)) (pw_and1 (pt_cmpR op_eq (pe_ix (ix_list.or ix_tup) (pv 0) (pe_op op_sub (pv 1) pe_int) (fun _ _ => rfl)) pe_int (nomark _))))) (pss_one (ps_set (i := 1) scLTrimmed.nd rfl (.inl rfl) (pe_op op_sub (pv 1) pe_int))))
      (pss_one (ps_ret (pe_tupleOf rfl m_tuple (pe_slice (sl_list.or sl_tupA) (pv 0) po_none (po_some (pv 1)))))))), ?_⟩
    refine ⟨.ref a, rfl, a, vns l, rfl, hl, ?_⟩
    refine while_by (fun σ H' => H' = H ∧ ∃ n : Nat, n ≤ l.length ∧ trim (l.take n) = trim l ∧ σ = [some (.ref a), some (.int n)])
      (fun (σ : L2.St) (_ : Hp) => match σ[1]? with | some (some (V.int m)) => m.toNat | _ => 0) ⟨rfl, l.length, Nat.le_refl _, by rw [List.take_length], ?_⟩ (fun σ H' hW => ?_) (fun σ H' Q1 Q2 imp z => ?_)
    · show [some (V.ref a), some (V.int ((vns l).length : Nat))] = _
      rw [List.length_map]
    · obtain ⟨rfl, n, hn, ht, rfl⟩ := hW
      have fin : trim (l.take n) = l.take n → tThen (tSl (fun x lo hi H Q => rSlL K x lo hi H Q ∨ rSlA K x lo hi H Q) (tVar 0) tNoPart (tPart (tVar 1))) (kTup K) [some (V.ref a), some (V.int n)] H' Q := by
        intro hs
        refine ⟨.ref a, rfl, .int (n : Nat), rfl, (n : Nat), rfl, ?_⟩
        have ev : cutV (vns l) none (some (n : Int)) = vns (trim l) := by
          rw [cut_take, ← ht, hs]
          unfold vns
          rw [List.map_take]
        rcases hl with hl | hl
        · refine .inl ⟨a, vns l, rfl, hl, fun p np => .inl ⟨p, _, rfl, .inl (.inl upd_same), fun t nt => ?_⟩⟩
          have s1 := same_new (o := .lst (cutV (vns l) none (some (n : Int)))) np
          refine want t _ (s1.trans (same_new nt)) (.inl (.inl ?_))
          rw [upd_same, ev]
        · refine .inr (sliceA hl fun r H2 s2 h2 => .inr ⟨r, _, rfl, h2, ?_⟩)
          rw [ev] at h2
          exact want r H2 s2 h2
      refine ⟨.int n, rfl, n, 0, rfl, rfl, _, rfl, ?_⟩
      cases n with
      | zero =>
        refine iteF (iteF ?_)
        exact fin rfl
      | succ n =>
        rw [decide_eq_true (show (0 : Int) < ((n + 1 : Nat) : Int) by omega)]
        refine iteT ?_
        have ei : ((n + 1 : Nat) : Int) - 1 = (n : Int) := by omega
        refine ⟨.ref a, rfl, .int ((n + 1 : Nat) : Int), rfl, _, 1, rfl, rfl, ?_⟩
        have at_ : atI (vns l) (((n + 1 : Nat) : Int) - 1) = some (vn (co l n)) := by
          rw [ei]
          exact atI_nat (vns_get (by omega))
        have go : ∀ Q2 : VK, Q2 (vn (co l n)) H' → (rIxL K (.ref a) (.int (((n + 1 : Nat) : Int) - 1)) H' Q2 ∨ rIxT K (.ref a) (.int (((n + 1 : Nat) : Int) - 1)) H' Q2) := fun Q2 z => by
          rcases hl with hl | hl
          · exact .inl ⟨a, vns l, _, _, rfl, rfl, hl, at_, z⟩
          · exact .inr ⟨a, vns l, _, _, rfl, rfl, hl, at_, z⟩
        refine go _ ⟨rfl, _, rfl, ?_⟩
        by_cases h0 : co l n = 0
        · rw [h0]
          refine iteT ?_
          refine ⟨_, rfl, _, _, rfl, rfl, ⟨rfl, n, by omega, ?_, ?_⟩, ?_⟩
          · rw [← trim_step h0, ht]
          · show [some (V.ref a), some (V.int (((n + 1 : Nat) : Int) - 1))] = _
            rw [ei]
          · show (((n + 1 : Nat) : Int) - 1).toNat < ((n + 1 : Nat) : Int).toNat
            omega
        · have e0 : decide (vn (co l n) = V.int 0) = false := by
            refine decide_eq_false fun z => h0 (El.ext ?_)
            have z' := V.int.inj z
            show (co l n).val = 0
            omega
          rw [e0]
          refine iteF ?_
          exact fin (trim_stop (by omega) h0)
    · obtain ⟨v, e, i, j, e1, e2, c1, e3, z⟩ := z
      refine ⟨v, e, i, j, e1, e2, c1, e3, ?_⟩
      cases c1 with
      | false => exact imp _ _ z
      | true =>
        obtain ⟨v, e, v2, e0, i, j, e1, e2, z⟩ := z
        refine ⟨v, e, v2, e0, i, j, e1, e2, ?_⟩
        rcases z with ⟨p, xs, i2, v3, e4, e5, h1, h2, e6, c, e7, z⟩ | ⟨p, xs, i2, v3, e4, e5, h1, h2, e6, c, e7, z⟩
        · exact .inl ⟨p, xs, i2, v3, e4, e5, h1, h2, e6, c, e7, imp _ _ z⟩
        · exact .inr ⟨p, xs, i2, v3, e4, e5, h1, h2, e6, c, e7, imp _ _ z⟩
end
end K13
set_option Elab.async false
set_option linter.all false
set_option maxRecDepth 100000
set_option maxHeartbeats 4000000
set_option pp.maxSteps 400
namespace BP
open PySem PySem.Spec PyProof.Rows L2 Fld
theorem pow_lt_of {p k n : Nat} (hp : 1 < p) (h : k < n) : p ^ k < p ^ n := Nat.pow_lt_pow_of_lt hp h
theorem range_snoc {α : Type} (f : Nat → α) (n : Nat) : (List.range (n + 1)).map f = (List.range n).map f ++ [f n] := by
  rw [List.range_succ, List.map_append]
  rfl
/-! ### comprehensions over a range: numbers, and rows of numbers -/
abbrev LcR (n : Nat) (i : Nat) (te : TE) (vs : List Nat) (σ : L2.St) (H1 : Hp) (D : Addr) (Qd : Hp → Prop) : Prop :=
  ∃ W : Nat → Nat → Hp → Prop,
    (∃ m, W 0 m (upd H1 D (.lst []))) ∧
    ∀ k m H, W k m H →
      ((Itr 0 n).stop k H ∧ Qd H) ∨
      ((Itr 0 n).go k H ∧ ∃ Z : Hp → Prop, (∀ H', Z H' → ∃ m', m' < m ∧ W (k + 1) m' H') ∧
        ∀ x H', (Itr 0 n).yld k H x H' → gName i x (wipe σ vs) H' fun σ2 H2 =>
          wipe σ2 vs = wipe σ vs ∧ tYes σ2 H2 fun b H3 =>
            if b = true then te σ2 H3 fun y H4 => ∃ acc, H4 D = some (.lst acc) ∧ acc.length < sizeLine ∧ Z (upd H4 D (.lst (acc ++ [y]))) else Z H3)
theorem lc_ints {n i : Nat} (val : Nat → Nat) (hn : n ≤ 900) {te : TE} {vs : List Nat} {σ : L2.St} {H1 : Hp} {R : Addr} {Qd : Hp → Prop} (nR : H1 R = none) (hw : ∀ v, wipe ((wipe σ vs).set i v) vs = wipe σ vs)
    (hs : ∀ (b : Nat) (H : Hp) (Q : VK), b < n → Same H1 H → (∀ H', Same H H' → Q (.int (val b : Nat)) H') → te ((wipe σ vs).set i (some (.int (0 + (b : Int))))) H Q)
    (hd : ∀ H, Same H1 H → H R = some (.lst (iv ((List.range n).map val))) → Qd H) : LcR n i te vs σ H1 R Qd := by
  refine lc_range (lo := 0) (n := n) (fun j H' => Same H1 H' ∧ H' R = some (.lst (iv ((List.range j).map val)))) ⟨same_new nR, upd_same⟩ (fun b H3 hb hV => ?_) (fun H3 hV => hd H3 hV.1 hV.2)
  obtain ⟨s3, hR⟩ := hV
  refine ⟨hw _, yes_kept (hs b H3 _ hb s3 fun H4 s4 => ⟨_, s4 _ _ hR, ?_, fun b' x e => ?_, ?_⟩)⟩
  · rw [List.length_map, List.length_map, List.length_range]
    exact small1000 (by omega)
  · rw [upd_ne (ne_of_none e nR)]
    exact s4 _ _ (s3 b' x e)
  · rw [upd_same, range_snoc]
    unfold iv
    rw [List.map_append]
    rfl
/-- new rows, all of them apart from what was there -/
def New2 (H1 H : Hp) (D : Addr) (rows : List (List Nat)) : Prop := ∃ ps : List Addr, H1 D = none ∧ H D = some (.lst (ps.map V.ref)) ∧ ps.length = rows.length ∧ ∀ (j : Nat) (p : Addr) (r : List Nat), ps[j]? = some p → rows[j]? = some r → H1 p = none ∧ p ≠ D ∧ H p = some (.lst (iv r))
theorem New2.same {H1 H H' : Hp} {D : Addr} {rows : List (List Nat)} (h : New2 H1 H D rows) (s : Same H H') : New2 H1 H' D rows := by
  obtain ⟨ps, n1, h1, h2, h3⟩ := h
  exact ⟨ps, n1, s _ _ h1, h2, fun i p r a b => ⟨(h3 i p r a b).1, (h3 i p r a b).2.1, s _ _ (h3 i p r a b).2.2⟩⟩
theorem New2.pre {H0 H1 H : Hp} {D : Addr} {rows : List (List Nat)} (h : New2 H1 H D rows) (s : Same H0 H1) : New2 H0 H D rows := by
  obtain ⟨ps, n1, h1, h2, h3⟩ := h
  exact ⟨ps, s.free n1, h1, h2, fun i p r a b => ⟨s.free (h3 i p r a b).1, (h3 i p r a b).2⟩⟩
theorem New2.rows {H1 H : Hp} {D c : Addr} {rows : List (List Nat)} (h : New2 H1 H D rows) {x : HO} (hc : H1 c = some x) : Rows c H D rows := by
  obtain ⟨ps, n1, h1, h2, h3⟩ := h
  refine ⟨ps, fun z => ?_, fun p hp z => ?_, h1, h2, fun i p r a b => (h3 i p r a b).2.2⟩
  · rw [z, hc] at n1
    cases n1
  · obtain ⟨i, hi, e⟩ := List.getElem_of_mem hp
    have hi' : ps[i]? = some p := by rw [List.getElem?_eq_getElem hi, e]
    have hr : rows[i]? = some (rows[i]'(by omega)) := List.getElem?_eq_getElem _
    have := (h3 i p _ hi' hr).1
    rw [z, hc] at this
    cases this
theorem lc_rows {n i : Nat} (row : Nat → List Nat) (hn : n ≤ 900) {te : TE} {vs : List Nat} {σ : L2.St} {H1 : Hp} {D : Addr} {Qd : Hp → Prop} (nD : H1 D = none) (hw : ∀ v, wipe ((wipe σ vs).set i v) vs = wipe σ vs)
    (hs : ∀ (a : Nat) (H : Hp) (Q : VK), a < n → Same H1 H → (∀ (R : Addr) (H' : Hp), Same H H' → H R = none → H' R = some (.lst (iv (row a))) → Q (.ref R) H') → te ((wipe σ vs).set i (some (.int (0 + (a : Int))))) H Q)
    (hd : ∀ H, Same H1 H → New2 H1 H D ((List.range n).map row) → Qd H) : LcR n i te vs σ H1 D Qd := by
  refine lc_range (lo := 0) (n := n) (fun j H' => Same H1 H' ∧ New2 H1 H' D ((List.range j).map row)) ⟨same_new nD, [], nD, upd_same, rfl, fun j p r e _ => by cases e⟩ (fun a H2 ha hW => ?_) (fun H3 hV => hd H3 hV.1 hV.2)
  obtain ⟨s2, ps, _, hD, lp, rows⟩ := hW
  rw [List.length_map, List.length_range] at lp
  refine ⟨hw _, yes_kept (hs a H2 _ ha s2 fun R H3 s3 nR hR => ⟨_, s3 _ _ hD, ?_, fun b' x e => ?_, ps ++ [R], nD, ?_, ?_, fun j p r e er => ?_⟩)⟩
  · rw [List.length_map]
    exact small1000 (by omega)
  · rw [upd_ne (ne_of_none e nD)]
    exact s3 _ _ (s2 b' x e)
  · rw [upd_same, List.map_append]
    rfl
  · rw [List.length_append, List.length_map, List.length_range, lp]
    rfl
  · have nRD : R ≠ D := (ne_of_none hD nR).symm
    have lj : j < a + 1 := by
      have := (List.getElem?_eq_some_iff.mp er).1
      rw [List.length_map, List.length_range] at this
      exact this
    rw [List.getElem?_map, List.getElem?_range lj] at er
    by_cases hj : j < ps.length
    · rw [List.getElem?_append_left hj] at e
      have er' : ((List.range a).map row)[j]? = some r := by
        rw [List.getElem?_map, List.getElem?_range (by omega)]
        exact er
      obtain ⟨a1, a2, a3⟩ := rows j p r e er'
      refine ⟨a1, a2, ?_⟩
      rw [upd_ne a2]
      exact s3 _ _ a3
    · have ej : j = ps.length := by omega
      rw [List.getElem?_append_right (by omega), ej, Nat.sub_self] at e
      obtain rfl := Option.some.inj e
      obtain rfl := Option.some.inj er
      refine ⟨s2.free nR, nRD, ?_⟩
      rw [upd_ne nRD, ej, lp]
      exact hR
def spLSum : Sp := fun vs H Q _ => ∃ q a b : Nat, vs = [.int (chr q : Nat), .int q, .int a, .int b] ∧ q ∈ fields ∧ a < q ∧ b < q ∧ ∀ H', Same H H' → Q (.int (S q a b : Nat)) H'
end BP
namespace K13
open PySem PySem.Spec PyProof.Rows L2 BP Fld
section
variable {P : Program} {w : World} {K : PySem.W.Frag} {mg : Str → Option Value} {base : Heap}
theorem ok_lsum {f : Addr} {fd : FuncData} {k : Nat} (F : Fun K "_law_sum" "_law_sum" sLSum f fd) (m_int : mg "int" = none) : FnOk P w K mg base CX0 (k + 1) f fd pLSum spLSum := by
  refine F.ok scLSum (fun vs H Q E h => ?_) (fun cdv A outer s H vs Q E hr h => ?_)
  · obtain ⟨q, a, b, rfl, _⟩ := h
    rfl
  · obtain ⟨q, i, j, rfl, hq, hi, hj, want⟩ := h
    have q16 := le16 hq
    have p1 := chr_gt hq
    have pq := chr_le hq
    refine ⟨_, (pss_cons (ps_asg (pe_tup (pa_cons pe_int (pa_cons pe_int pa_nil))) (pg_tup rfl (pgs_cons (pg_name (i := 4) scLSum.nd rfl (.inl rfl)) (pgs_cons (pg_name (i := 5) scLSum.nd rfl (.inl rfl)) pgs_nil))))
      (pss_cons (ps_while PassesOwn.never (pt_cmpR op_lt (pv 5) (pv 1) (nomark _)) (pss_cons (ps_set (i := 4) scLSum.nd rfl (.inl rfl) (pe_op op_add (pv 4) (pe_op op_mul (pe_op op_mod (pe_callTy call_int1 (by rfl) m_int (by decide +kernel) (pa_cons (pe_op op_add (pe_op op_fdiv (pv 2) (pv 5)) (pe_op op_fdiv (pv 3) (pv 5))) pa_nil)) (pv 0)) (pv 5))))
        (pss_one (ps_set (i := 5) scLSum.nd rfl (.inl rfl) (pe_op op_mul (pv 5) (pv 0))))))
      (pss_one (ps_ret (pv 4))))), ?_⟩
    refine ⟨(by show 2 ≤ sizeLine; decide), fun T nT => ⟨T, _, rfl, .inl (.inl upd_same), rfl, .int 0, [.int 1], rfl, .int 1, [], rfl, rfl, ?_⟩⟩
    have s3 := same_new (o := .tup [V.int 0, V.int 1]) nT
    generalize upd H T (.tup [V.int 0, V.int 1]) = H3 at s3 ⊢
    refine while_by (fun σ H' => H' = H3 ∧ ∃ (t m : Nat), σ = [some (.int (chr q : Nat)), some (.int q), some (.int i), some (.int j), some (.int t), some (.int (chr q ^ m : Nat))] ∧
        m ≤ len q ∧ t + dsum (chr q) i j (chr q ^ m) (len q - m) = S q i j)
      (fun (σ : L2.St) (_ : Hp) => match σ[5]? with | some (some (V.int m)) => q - m.toNat | _ => 0) ⟨rfl, 0, 0, rfl, Nat.zero_le _, ?_⟩ (fun σ H' hU => ?_) (fun σ H' Q1 Q2 imp z => ?_)
    · rw [Nat.zero_add]
      exact (two hq hi hj).2.2.2
    · obtain ⟨rfl, t, m, rfl, hm, ht⟩ := hU
      have cl := chr_len hq
      refine ⟨_, rfl, .int q, rfl, _, q, rfl, rfl, _, rfl, ite2 (fun h0 => ?_) (fun h0 => ?_)⟩
      · have lt : chr q ^ m < q := by
          have := of_decide_eq_true h0
          omega
        have hm' : m < len q := by
          refine Classical.byContradiction fun z => ?_
          have : m = len q := by omega
          rw [this, cl] at lt
          omega
        have u0 : 0 < chr q ^ m := Nat.pow_pos (by omega)
        generalize hu : chr q ^ m = u at lt u0 ht
        have up1 : chr q ^ (m + 1) = u * chr q := by
          rw [Nat.pow_succ, hu]
        refine ⟨.int t, rfl, _, rfl, .int u, ?_, (i : Int), u, rfl, rfl, ⟨by omega, by omega⟩, _, rfl, .int u, ?_, (j : Int), u, rfl, rfl, ⟨by omega, by omega⟩, _, _, rfl, rfl, .inl ⟨_, rfl, _, rfl, _, (chr q : Nat), rfl, rfl, (by show (0 : Int) < ((chr q : Nat) : Int); omega), .int u, ?_, _, u, rfl, rfl, .inr ⟨by omega, by omega⟩, t, _, rfl, rfl, ?_⟩⟩
        · rw [← hu]; rfl
        · rw [← hu]; rfl
        · rw [← hu]; rfl
        · refine ⟨.int u, ?_, .int (chr q : Nat), rfl, u, (chr q : Nat), rfl, rfl, .inl ⟨by omega, by omega⟩, ⟨rfl, t + (i / u + j / u) % chr q * u, m + 1, ?_, hm', ?_⟩, ?_⟩
          · rw [← hu]; rfl
          · show [some (V.int (chr q : Nat)), some (V.int q), some (V.int i), some (V.int j), some (V.int ((t : Int) + ((i : Int) / (u : Int) + (j : Int) / (u : Int)) % ((chr q : Nat) : Int) * (u : Int))), some (V.int ((u : Int) * ((chr q : Nat) : Int)))] = _
            rw [up1]
            congr 5
          · have e3 : len q - m = (len q - (m + 1)) + 1 := by omega
            rw [e3] at ht
            rw [up1, ← ht]
            show _ = t + ((i / u + j / u) % chr q * u + dsum (chr q) i j (u * chr q) (len q - (m + 1)))
            omega
          · show q - ((u : Int) * ((chr q : Nat) : Int)).toNat < q - (u : Int).toNat
            have : ((u : Int) * ((chr q : Nat) : Int)).toNat = u * chr q := by
              rw [← Int.natCast_mul]
              rfl
            rw [this]
            have : u * 2 ≤ u * chr q := Nat.mul_le_mul_left u p1
            omega
      · have ge : ¬ chr q ^ m < q := fun z => h0 (decide_eq_true (by omega))
        have em : m = len q := by
          refine Classical.byContradiction fun z => ge ?_
          have := pow_lt_of p1 (show m < len q by omega)
          rw [cl] at this
          exact this
        subst em
        have et : t = S q i j := by
          rw [← ht, Nat.sub_self]
          rfl
        subst et
        exact ⟨_, rfl, want _ s3⟩
    · obtain ⟨v, e, v2, e0, i, j, e1, e2, c, e3, z⟩ := z
      exact ⟨v, e, v2, e0, i, j, e1, e2, c, e3, imp _ _ z⟩
end
end K13
set_option Elab.async false
set_option linter.all false
set_option maxRecDepth 100000
set_option maxHeartbeats 4000000
set_option pp.maxSteps 400
namespace Fld
/-! ### powers and logarithms, as the law lays them -/
def pws (q : Nat) : List Nat := (List.range (q - 1)).map (pw q (chr q))
def lgs (q : Nat) : Nat → List Nat
  | 0 => List.replicate q 0
  | k + 1 => (lgs q k).set (pw q (chr q) k) k
def okLog (q : Nat) : Bool :=
  (chr q == q && below q fun a => below q fun b => decide (M q a b = a * b % q)) ||
  (decide (chr q < q) && decide (q % chr q = 0) && decide (0 < q / chr q) &&
    (below q fun n => decide (n / (q / chr q) + n / (q / chr q) * chr q < q) && decide (S q (n * chr q % q) (n / (q / chr q) + n / (q / chr q) * chr q) = M q n (chr q))) &&
    (below q fun a => below q fun b => decide (M q a b = if a * b = 0 then 0 else (pws q ++ pws q).getD ((lgs q (q - 1)).getD a 0 + (lgs q (q - 1)).getD b 0) 0) && decide ((lgs q (q - 1)).getD a 0 + (lgs q (q - 1)).getD b 0 < 2 * (q - 1))))
theorem all_log : fields.all okLog = true := by decide +kernel
theorem chr_cases : fields.all (fun q => q == 9 || q == 4 || q == 8 || q == 16 || chr q == q) = true := by decide +kernel
section
variable {q : Nat} (h : q ∈ fields)
include h
theorem prime_M (e : chr q = q) {a b : Nat} (ha : a < q) (hb : b < q) : M q a b = a * b % q := by
  have o := List.all_eq_true.mp all_log q h
  simp only [okLog, Bool.or_eq_true, Bool.and_eq_true, decide_eq_true_eq] at o
  rcases o with o | o
  · exact of_decide_eq_true (of_below (of_below o.2 ha) hb)
  · omega
theorem log_M (e : chr q < q) {a b : Nat} (ha : a < q) (hb : b < q) : M q a b = (if a * b = 0 then 0 else (pws q ++ pws q).getD ((lgs q (q - 1)).getD a 0 + (lgs q (q - 1)).getD b 0) 0) ∧ (lgs q (q - 1)).getD a 0 + (lgs q (q - 1)).getD b 0 < 2 * (q - 1) := by
  have o := List.all_eq_true.mp all_log q h
  simp only [okLog, Bool.or_eq_true, Bool.and_eq_true, decide_eq_true_eq] at o
  rcases o with o | o
  · have := beq_iff_eq.mp o.1
    omega
  · have t := of_below (of_below o.2 ha) hb
    simp only [Bool.and_eq_true, decide_eq_true_eq] at t
    exact t
theorem next_pw (e : chr q < q) {n : Nat} (hn : n < q) : 0 < q / chr q ∧ n / (q / chr q) + n / (q / chr q) * chr q < q ∧ S q (n * chr q % q) (n / (q / chr q) + n / (q / chr q) * chr q) = M q n (chr q) := by
  have o := List.all_eq_true.mp all_log q h
  simp only [okLog, Bool.or_eq_true, Bool.and_eq_true, decide_eq_true_eq] at o
  rcases o with o | o
  · have := beq_iff_eq.mp o.1
    omega
  · have t := of_below o.1.2 hn
    simp only [Bool.and_eq_true, decide_eq_true_eq] at t
    exact ⟨o.1.1.2, t⟩
theorem chr_is : q = 9 ∨ q = 4 ∨ q = 8 ∨ q = 16 ∨ (chr q = q ∧ q ≠ 9 ∧ q ≠ 4 ∧ q ≠ 8 ∧ q ≠ 16) := by
  have o := List.all_eq_true.mp chr_cases q h
  simp only [Bool.or_eq_true, beq_iff_eq] at o
  by_cases h1 : q = 9
  · exact .inl h1
  by_cases h2 : q = 4
  · exact .inr (.inl h2)
  by_cases h3 : q = 8
  · exact .inr (.inr (.inl h3))
  by_cases h4 : q = 16
  · exact .inr (.inr (.inr (.inl h4)))
  exact .inr (.inr (.inr (.inr ⟨by rcases o with (((o | o) | o) | o) | o <;> omega, h1, h2, h3, h4⟩)))
end
theorem lgs_len (q : Nat) : ∀ k, (lgs q k).length = q
  | 0 => List.length_replicate ..
  | k + 1 => by
    show ((lgs q k).set _ _).length = q
    rw [List.length_set, lgs_len q k]
end Fld
namespace BP
open PySem PySem.Spec PyProof.Rows L2 Fld
/-- the characteristic, as the law tells it -/
theorem te_p {K : PySem.W.Frag} {q : Nat} (hq : q ∈ fields) {r : L2.St} {H : Hp} {Q : VK} (want : ∀ H', Same H H' → Q (.int (chr q : Nat)) H') :
    tIf (tTest (tOp rEq (tVar 0) (tC (V.int 9)))) (tC (V.int 3)) (tIf (tTest (tOp (rIn K false) (tVar 0) (tTup (tCons (tC (V.int 4)) (tCons (tC (V.int 8)) (tCons (tC (V.int 16)) tNil)))))) (tC (V.int 2)) (tVar 0)) (some (V.int q) :: r) H Q := by
  have w0 := want H (fun _ _ z => z)
  refine ⟨.int q, rfl, rfl, _, rfl, ite2 (fun h9 => ?_) (fun h9 => ?_)⟩
  · have e : q = 9 := by
      have := V.int.inj (of_decide_eq_true h9)
      omega
    subst e
    exact w0
  · have n9 : q ≠ 9 := fun z => h9 (by subst z; rfl)
    refine ⟨.int q, rfl, (by show 3 ≤ sizeLine; decide), fun t nt => ⟨t, _, rfl, .inr (.inl (.inl upd_same)), rfl, rfl, _, rfl, ?_⟩⟩
    have s1 := want _ (same_new (o := .tup [V.int 4, V.int 8, V.int 16]) nt)
    rcases chr_is hq with e | e | e | e | ⟨e, _, n4, n8, n16⟩
    · exact absurd e n9
    · subst e
      exact iteT s1
    · subst e
      exact iteT s1
    · subst e
      exact iteT s1
    · have e2 : inV (V.int q) [V.int 4, V.int 8, V.int 16] = false := by
        unfold inV
        simp only [List.any_cons, List.any_nil, eqV, Bool.or_false]
        have b4 : ((4 : Int) == (q : Int)) = false := beq_eq_false_iff_ne.mpr (by omega)
        have b8 : ((8 : Int) == (q : Int)) = false := beq_eq_false_iff_ne.mpr (by omega)
        have b16 : ((16 : Int) == (q : Int)) = false := beq_eq_false_iff_ne.mpr (by omega)
        rw [b4, b8, b16]
        rfl
      show (if (if false = true then !inV (V.int q) [V.int 4, V.int 8, V.int 16] else inV (V.int q) [V.int 4, V.int 8, V.int 16]) = true then _ else _)
      rw [e2]
      refine iteF ⟨.int q, rfl, ?_⟩
      rw [e] at s1
      exact s1
theorem New2.read {H1 H : Hp} {D : Addr} {rows : List (List Nat)} (h : New2 H1 H D rows) {a : Nat} {r : List Nat} (ha : rows[a]? = some r) : ∃ (ps : List Addr) (p : Addr), H D = some (.lst (ps.map V.ref)) ∧ (ps.map V.ref)[a]? = some (.ref p) ∧ H p = some (.lst (iv r)) := by
  obtain ⟨ps, _, h1, h2, h3⟩ := h
  have la : a < ps.length := by
    rw [h2]
    exact (List.getElem?_eq_some_iff.mp ha).1
  have hp : ps[a]? = some (ps[a]'la) := List.getElem?_eq_getElem la
  refine ⟨ps, ps[a]'la, h1, ?_, (h3 a _ r hp ha).2.2⟩
  rw [List.getElem?_map, hp]
  rfl
abbrev fkQ : Key := Sum.inr "q"
abbrev fkP : Key := Sum.inr "plus"
abbrev fkT : Key := Sum.inr "times"
abbrev fkL : Key := Sum.inr "less"
abbrev fdict (q : Nat) (sm pr ls : Addr) : List (Key × V) := [(fkQ, .int q), (fkP, .ref sm), (fkT, .ref pr), (fkL, .ref ls)]
theorem fk1 : ¬ fkQ = fkP := by decide +kernel
theorem fk2 : ¬ fkQ = fkT := by decide +kernel
theorem fk3 : ¬ fkQ = fkL := by decide +kernel
theorem fk5 : ¬ fkP = fkT := by decide +kernel
theorem fk6 : ¬ fkP = fkL := by decide +kernel
theorem fk8 : ¬ fkT = fkL := by decide +kernel
section
variable {q : Nat} {sm pr ls : Addr}
theorem fd_q : valV (fdict q sm pr ls) fkQ = some (.int q) := valV_pos rfl
theorem fd_p : valV (fdict q sm pr ls) fkP = some (.ref sm) := by rw [valV_neg fk1]; exact valV_pos rfl
theorem fd_t : valV (fdict q sm pr ls) fkT = some (.ref pr) := by rw [valV_neg fk2, valV_neg fk5]; exact valV_pos rfl
theorem fd_l : valV (fdict q sm pr ls) fkL = some (.ref ls) := by rw [valV_neg fk3, valV_neg fk6, valV_neg fk8]; exact valV_pos rfl
theorem fd_merge : mergeK [] (fdict q sm pr ls) = fdict q sm pr ls := by
  have a1 : putK ([] : List (Key × V)) fkQ (.int q) = [(fkQ, .int q)] := putK_new _ rfl
  have a2 : putK [(fkQ, V.int q)] fkP (.ref sm) = [(fkQ, .int q), (fkP, .ref sm)] := putK_new _ (by rw [valV_neg fk1]; rfl)
  have a3 : putK [(fkQ, V.int q), (fkP, .ref sm)] fkT (.ref pr) = [(fkQ, .int q), (fkP, .ref sm), (fkT, .ref pr)] := putK_new _ (by rw [valV_neg fk2, valV_neg fk5]; rfl)
  have a4 : putK [(fkQ, V.int q), (fkP, .ref sm), (fkT, .ref pr)] fkL (.ref ls) = fdict q sm pr ls := putK_new _ (by rw [valV_neg fk3, valV_neg fk6, valV_neg fk8]; rfl)
  show putK (putK (putK (putK [] fkQ (.int q)) fkP (.ref sm)) fkT (.ref pr)) fkL (.ref ls) = _
  rw [a1, a2, a3, a4]
end
/-- a new field, apart from all that was there -/
def FieldNew (H0 H : Hp) (F : Addr) (q : Nat) : Prop := ∃ sm pr ls, H F = some (.dK (fdict q sm pr ls)) ∧ H0 F = none ∧ New2 H0 H sm (tab (S q) q) ∧ New2 H0 H pr (tab (M q) q) ∧
  H0 ls = none ∧ H ls = some (.lst (iv ((List.range q).map (neg q))))
def spField : Sp := fun vs H Q _ => ∃ q : Nat, vs = [.int q] ∧ q ∈ fields ∧ ∀ (F : Addr) (H' : Hp), Same H H' → FieldNew H H' F q → Q (.ref F) H'
theorem flat_iv (l : List Nat) : (iv l).all flatV = true := by
  induction l with
  | nil => rfl
  | cons x r ih => exact ih
theorem iv_set (l : List Nat) (k x : Nat) : (iv l).set k (V.int (x : Nat)) = iv (l.set k x) := by
  unfold iv
  rw [List.map_set]
theorem iv_get {l : List Nat} {k : Nat} (h : k < l.length) : (iv l)[k]? = some (V.int (l.getD k 0 : Nat)) := by
  unfold iv
  rw [List.getElem?_map, List.getElem?_eq_getElem h, List.getD_eq_getElem?_getD, List.getElem?_eq_getElem h]
  rfl
theorem idx_of {row : List Nat} {j v : Nat} (hj : j < row.length) (e : row.getD j 0 = v) (no : ∀ m, m < j → row.getD m 0 ≠ v) : (iv row)[j]? = some (V.int (v : Nat)) ∧ eqV (V.int (v : Nat)) (V.int (v : Nat)) = true ∧ ∀ (m : Nat) (z : V), m < j → (iv row)[m]? = some z → eqV z (V.int (v : Nat)) = false := by
  refine ⟨by rw [iv_get hj, e], ?_, fun m z hm hz => ?_⟩
  · show ((v : Int) == (v : Int)) = true
    exact beq_iff_eq.mpr rfl
  · rw [iv_get (by omega)] at hz
    cases hz
    show (((row.getD m 0 : Nat) : Int) == (v : Int)) = false
    exact beq_eq_false_iff_ne.mpr fun z => no m hm (by omega)
theorem map_getD {f : Nat → Nat} {q b : Nat} (h : b < q) : ((List.range q).map f).getD b 0 = f b := by
  rw [List.getD_eq_getElem?_getD, List.getElem?_map, List.getElem?_range h]
  rfl
theorem neg_idx {q a : Nat} (h : q ∈ fields) (ha : a < q) : (iv ((List.range q).map (S q a)))[neg q a]? = some (V.int (0 : Nat)) ∧ eqV (V.int (0 : Nat)) (V.int (0 : Nat)) = true ∧ ∀ (m : Nat) (z : V), m < neg q a → (iv ((List.range q).map (S q a)))[m]? = some z → eqV z (V.int (0 : Nat)) = false := by
  obtain ⟨_, u1, u2, u3⟩ := sum1 h ha
  exact idx_of (by rw [List.length_map, List.length_range]; exact u1) (by rw [map_getD u1, u2]) fun m hm => by rw [map_getD (by omega)]; exact u3 m hm
theorem inv_idx {q a : Nat} (h : q ∈ fields) (ha : a < q) (h0 : a ≠ 0) : (iv ((List.range q).map (M q a)))[inv q a]? = some (V.int (1 : Nat)) ∧ eqV (V.int (1 : Nat)) (V.int (1 : Nat)) = true ∧ ∀ (m : Nat) (z : V), m < inv q a → (iv ((List.range q).map (M q a)))[m]? = some z → eqV z (V.int (1 : Nat)) = false := by
  obtain ⟨_, _, _, _, u1, u2, u3⟩ := unit h ha h0
  exact idx_of (by rw [List.length_map, List.length_range]; exact u1) (by rw [map_getD u1, u2]) fun m hm => by rw [map_getD (by omega)]; exact u3 m hm
theorem inv_zero : fields.all (fun q => inv q 0 == 0) = true := by decide +kernel
theorem inv_row {q : Nat} (h : q ∈ fields) : (List.range q).map (inv q) = 0 :: (List.range (q - 1)).map fun i => inv q (i + 1) := by
  have z := beq_iff_eq.mp (List.all_eq_true.mp inv_zero q h)
  have e : q = (q - 1) + 1 := by have := gt1 h; omega
  rw [show List.range q = List.range ((q - 1) + 1) by rw [← e], List.range_succ_eq_map, List.map_cons, List.map_map, z]
  rfl
theorem rep_iv (q : Nat) : (List.replicate ((q : Int)).toNat [V.int 0]).flatten = iv (List.replicate q 0) := by
  show (List.replicate q [V.int 0]).flatten = _
  induction q with
  | zero => rfl
  | succ n ih =>
    rw [List.replicate_succ, List.flatten_cons, ih]
    rfl
theorem tab_len (f : Nat → Nat → Nat) (q : Nat) : (tab f q).length = q := by
  unfold tab
  rw [List.length_map, List.length_range]
theorem tab_at' {f : Nat → Nat → Nat} {q a : Nat} (h : a < q) : (tab f q)[a]? = some ((List.range q).map (f a)) := tab_row h
end BP
namespace K13
open PySem PySem.Spec PyProof.Rows L2 BP Fld
section
variable {P : Program} {w : World} {K : PySem.W.Frag} {mg : Str → Option Value} {base : Heap}
theorem ok_field {f fS : Addr} {fd fdS : FuncData} (F : Fun K "_law_field" "_law_field" sLField f fd) (SM : BP.Can P w K mg base "_law_sum" 1 pLSum spLSum fS fdS) (m_int : mg "int" = none) (m_range : mg "range" = none) : FnOk P w K mg base CX0 2 f fd pLField spField := by
  refine F.ok scLField (fun vs H Q E h => ?_) (fun cdv A outer s H vs Q E hr h => ?_)
  · obtain ⟨q, rfl, _⟩ := h
    rfl
  · obtain ⟨q, rfl, hq, want⟩ := h
    have q16 := le16 hq
    have q1 := gt1 hq
    have p1 := chr_gt hq
    have pq := chr_le hq
    have ez : ∀ i : Nat, (0 : Int) + (i : Int) = (i : Int) := fun i => by omega
    refine ⟨_, (pss_cons (ps_set (i := 1) scLField.nd rfl (.inr rfl) (pe_ifExp (pt_cmpR op_eq (pv 0) pe_int (nomark _)) pe_int (pe_ifExp (pt_cmpR op_in_seq (pv 0) (pe_tup (pa_cons pe_int (pa_cons pe_int (pa_cons pe_int pa_nil)))) rfl) pe_int (pv 0))))
      (pss_cons (ps_setLc (i := 2) (own := [("_law_a", 10)]) (g := gName 10) (tt := tYes) rfl scLField.nd rfl rfl (sw_true rfl rfl rfl (by decide +kernel)) (pi_range1 rfl m_range (pa_cons (pv 0) pa_nil)) (blkOk_by (N := nLField) (sc := defScope sLField) (by decide +kernel)) (fun _ _ _ _ _ => (pg_name (i := 10) scLField.nd rfl (.inr rfl))) (fun _ _ _ _ _ => pts_nil) (fun _ _ _ _ _ => (pe_lc (own := [("_law_b", 12)]) (g := gName 12) (tt := tYes) rfl scLField.nd (pi_range1 rfl m_range (pa_cons (pv 0) pa_nil)) (blkOk_by (by kernel_rfl)) (fun _ _ _ _ _ => (pg_name (i := 12) scLField.nd rfl (.inl rfl))) (fun _ _ _ _ _ => pts_nil) (fun _ _ _ _ _ => (pe_call SM.ok hr (by rfl) SM.g SM.kp SM.b .nil pass0 (pa_cons (pv 1) (pa_cons (pv 0) (pa_cons (pv 10) (pa_cons (pv 12) pa_nil)))))))))
      (pss_cons (ps_setLc (i := 3) (own := [("_law_a", 10)]) (g := gName 10) (tt := tYes) rfl scLField.nd rfl rfl (sw_true rfl rfl rfl (by decide +kernel)) (pi_range1 rfl m_range (pa_cons (pv 0) pa_nil)) (blkOk_by (N := nLField) (sc := defScope sLField) (by decide +kernel)) (fun _ _ _ _ _ => (pg_name (i := 10) scLField.nd rfl (.inr rfl))) (fun _ _ _ _ _ => pts_nil) (fun _ _ _ _ _ => (pe_lc (own := [("_law_b", 12)]) (g := gName 12) (tt := tYes) rfl scLField.nd (pi_range1 rfl m_range (pa_cons (pv 0) pa_nil)) (blkOk_by (by kernel_rfl)) (fun _ _ _ _ _ => (pg_name (i := 12) scLField.nd rfl (.inl rfl))) (fun _ _ _ _ _ => pts_nil) (fun _ _ _ _ _ => (pe_op op_mod (pe_callTy call_int1 (by rfl) m_int (by decide +kernel) (pa_cons (pe_op op_mul (pv 10) (pv 12)) pa_nil)) (pv 0))))))
      (pss_cons (ps_if (pt_cmpR op_lt (pv 1) (pv 0) (nomark _)) (pss_cons (ps_asg (pe_tup (pa_cons (pe_lst pa_nil) (pa_cons pe_int (pa_cons (pe_op op_rep (pe_lst (pa_cons pe_int pa_nil)) (pv 0)) pa_nil)))) (pg_tup rfl (pgs_cons (pg_name (i := 4) scLField.nd rfl (.inr rfl)) (pgs_cons (pg_name (i := 5) scLField.nd rfl (.inl rfl)) (pgs_cons (pg_name (i := 6) scLField.nd rfl (.inr rfl)) pgs_nil)))))
        (pss_cons (ps_for PassesOwn.never rfl (pi_range1 rfl m_range (pa_cons (pe_op op_sub (pv 0) pe_int) pa_nil)) (pg_name (i := 7) scLField.nd rfl (.inl rfl)) (pss_cons (ps_expr (pe_bm PySem.F.plainAttrs_list PySem.F.slot_list_append PySem.F.type_list_append mt_append (pv 4) (pa_cons (pv 5) pa_nil)))
          (pss_cons (ps_asg (pv 7) (pg_sub (pv 6) (pv 5) set_list))
          (pss_cons (ps_set (i := 8) scLField.nd rfl (.inl rfl) (pe_op op_fdiv (pv 5) (pe_op op_fdiv (pv 0) (pv 1))))
          (pss_one (ps_set (i := 5) scLField.nd rfl (.inl rfl) (pe_ix (r := rIxL K) ix_list (pe_ix (r := rIxL K) ix_list (pv 2) (pe_op op_mod (pe_callTy call_int1 (by rfl) m_int (by decide +kernel) (pa_cons (pe_op op_mul (pv 5) (pv 1)) pa_nil)) (pv 0)) (fun _ _ => rfl)) (pe_op op_add (pv 8) (pe_op op_mul (pv 8) (pv 1))) (fun _ _ => rfl))))))))
        (pss_cons (ps_set (i := 4) scLField.nd rfl (.inr rfl) (pe_op op_cat (pv 4) (pv 4)))
        (pss_one (ps_setLc (i := 3) (own := [("_law_a", 10)]) (g := gName 10) (tt := tYes) rfl scLField.nd rfl rfl (sw_true rfl rfl rfl (by decide +kernel)) (pi_range1 rfl m_range (pa_cons (pv 0) pa_nil)) (blkOk_by (N := nLField) (sc := defScope sLField) (by decide +kernel)) (fun _ _ _ _ _ => (pg_name (i := 10) scLField.nd rfl (.inr rfl))) (fun _ _ _ _ _ => pts_nil) (fun _ _ _ _ _ => (pe_lc (own := [("_law_b", 12)]) (g := gName 12) (tt := tYes) rfl scLField.nd (pi_range1 rfl m_range (pa_cons (pv 0) pa_nil)) (blkOk_by (by kernel_rfl)) (fun _ _ _ _ _ => (pg_name (i := 12) scLField.nd rfl (.inl rfl))) (fun _ _ _ _ _ => pts_nil) (fun _ _ _ _ _ => (pe_ifExp (pt_cmpR op_eq (pe_op op_mul (pv 10) (pv 12)) pe_int (nomark _)) pe_int (pe_ix (r := rIxL K) ix_list (pv 4) (pe_op op_add (pe_ix (r := rIxL K) ix_list (pv 6) (pv 10) (fun _ _ => rfl)) (pe_ix (r := rIxL K) ix_list (pv 6) (pv 12) (fun _ _ => rfl))) (fun _ _ => rfl))))))))))) pss_nil)
      (pss_cons (ps_setLc (i := 9) (own := [("_law_row", 11)]) (te := tBM K "list" (rIndex K) (tVar 11) (tCons (tC (V.int 0)) tNil)) (g := gName 11) (tt := tYes) rfl scLField.nd rfl rfl (sw_true rfl rfl rfl (by decide +kernel)) (pi_list (pv 2)) (blkOk_by (N := nLField) (sc := defScope sLField) (by decide +kernel)) (fun _ _ _ _ _ => (pg_name (i := 11) scLField.nd rfl (.inl rfl))) (fun _ _ _ _ _ => pts_nil) (fun _ _ _ _ _ => (pe_bm PySem.F.plainAttrs_list PySem.F.slot_list_index PySem.F.type_list_index mt_index (pv 11) (pa_cons pe_int pa_nil))))
      (pss_one (ps_ret (pe_disp (pps_cons pe_str (pv 0) (pps_cons pe_str (pv 2) (pps_cons pe_str (pv 3) (pps_cons pe_str (pv 9) pps_nil)))) (by rfl) (by rfl) (fun z => by cases z) (by decide))))))))), ?_⟩
    refine te_p hq fun H0 s0 => ?_
    -- sums
    refine ⟨.int q, rfl, q, rfl, by omega, by omega, fun sm nsm => lc_rows (fun a => (List.range q).map (S q a)) (by omega) nsm (fun _ => rfl) (fun a H2 Q2 ha s2 k2 => ?_) (fun H1 s1 hS => ?_)⟩
    · refine ⟨.int q, rfl, q, rfl, by omega, by omega, fun R nR => lc_ints (S q a) (by omega) nR (fun _ => rfl) (fun b H3 Q3 hb s3 k3 => ?_) (fun H3 s3 hR => k2 R H3 s3 nR hR)⟩
      refine ⟨.int (chr q : Nat), rfl, .int q, rfl, .int (0 + (a : Int)), rfl, .int (0 + (b : Int)), rfl, q, a, b, ?_, hq, ha, hb, k3⟩
      show [V.int (chr q : Nat), V.int q, V.int (0 + (a : Int)), V.int (0 + (b : Int))] = _
      rw [ez, ez]
    have s01 := s0.trans s1
    have hSn : New2 H H1 sm (tab (S q) q) := hS.pre s0
    -- products, as integers
    refine ⟨.int q, rfl, q, rfl, by omega, by omega, fun pr npr => lc_rows (fun a => (List.range q).map fun b => a * b % q) (by omega) npr (fun _ => rfl) (fun a H2 Q2 ha s2 k2 => ?_) (fun H2 s2 hP => ?_)⟩
    · refine ⟨.int q, rfl, q, rfl, by omega, by omega, fun R nR => lc_ints (fun b => a * b % q) (by omega) nR (fun _ => rfl) (fun b H3 Q3 hb s3 k3 => ?_) (fun H3 s3 hR => k2 R H3 s3 nR hR)⟩
      refine ⟨.int (0 + (a : Int)), rfl, .int (0 + (b : Int)), rfl, _, _, rfl, rfl, .inl ⟨by omega, by omega⟩, .inl ⟨_, rfl, .int q, rfl, _, q, rfl, rfl, (by show (0 : Int) < (q : Int); omega), ?_⟩⟩
      have e : (0 + (a : Int)) * (0 + (b : Int)) % (q : Int) = ((a * b % q : Nat) : Int) := by
        rw [ez, ez]
        rfl
      show Q3 (.int ((0 + (a : Int)) * (0 + (b : Int)) % (q : Int))) H3
      rw [e]
      exact k3 H3 fun _ _ z => z
    have s02 := s01.trans s2
    have hS2 := hSn.same s2
    refine ⟨.int (chr q : Nat), rfl, .int q, rfl, (chr q : Nat), q, rfl, rfl, _, rfl, ite2 (fun hlt => ?_) (fun hlt => ?_)⟩
    · have lt : chr q < q := by
        have := of_decide_eq_true hlt
        omega
      refine ⟨Nat.zero_le _, fun pl npl => ⟨(by show 1 ≤ sizeLine; decide), fun z nz => ⟨.int q, rfl, z, q, _, rfl, rfl, upd_same, by omega, by omega, ?_, fun ll nll => ⟨(by show 3 ≤ sizeLine; decide), fun tt ntt => ⟨tt, _, rfl, .inl (.inl upd_same), rfl, .ref pl, [_, _], rfl, .int 1, [_], rfl, .ref ll, [], rfl, rfl, ?_⟩⟩⟩⟩⟩
      · show 1 * (q : Int).toNat ≤ sizeLine
        exact Nat.le_trans (show 1 * (q : Int).toNat ≤ 16 by omega) (by decide)
      rw [rep_iv] at ntt ⊢
      have z1 := same_new (o := .lst ([] : List V)) npl
      have z2 := same_new (o := .lst [V.int 0]) nz
      have z3 := same_new (o := .lst (iv (List.replicate q 0))) nll
      have z4 := same_new (o := .tup [V.ref pl, .int 1, .ref ll]) ntt
      have hpl := z4 _ _ (z3 _ _ (z2 _ _ (upd_same (H := H2) (a := pl) (o := HO.lst []))))
      have hll := z4 _ _ (upd_same (H := (upd (upd H2 pl (.lst [])) z (.lst [V.int 0]))) (a := ll) (o := HO.lst (iv (List.replicate q 0))))
      have z14 := z1.trans (z2.trans (z3.trans z4))
      have nll0 : H2 ll = none := (z1.trans z2).free nll
      have npq : pl ≠ ll := ne_of_none (z2 _ _ upd_same) nll
      generalize upd (upd (upd (upd H2 pl (.lst [])) z (.lst [V.int 0])) ll (.lst (iv (List.replicate q 0)))) tt (.tup [V.ref pl, .int 1, .ref ll]) = H5 at hpl hll z14 ⊢
      have hn : ((q : Int) - 1).toNat = q - 1 := by omega
      refine ⟨.int q, rfl, q, 1, rfl, rfl, _, rfl, by omega, by omega, for_range (lo := 0) (n := ((q : Int) - 1).toNat) (fun k σ H' => Same H2 H' ∧ H' pl = some (.lst (iv ((List.range k).map (pw q (chr q))))) ∧ H' ll = some (.lst (iv (lgs q k))) ∧
          ∃ y7 y8, σ = [some (.int q), some (.int (chr q : Nat)), some (.ref sm), some (.ref pr), some (.ref pl), some (.int (pw q (chr q) k : Nat)), some (.ref ll), y7, y8, none, none, none, none])
        ⟨z14, hpl, hll, _, _, rfl⟩ (fun k σ H6 hk hW => ?_) (fun σ H6 hW => ?_)⟩
      · obtain ⟨s6, hp6, hl6, y7, y8, rfl⟩ := hW
        have nlt := pw_lt hq lt k
        obtain ⟨np1, np2, np3⟩ := next_pw hq lt nlt
        generalize hn' : pw q (chr q) k = n at nlt np1 np2 np3
        have g16 : q / chr q ≤ 16 := Nat.le_trans (Nat.div_le_self _ _) q16
        have t16 : n / (q / chr q) ≤ 16 := Nat.le_trans (Nat.div_le_self _ _) (by omega)
        have t0 : (0 : Int) ≤ ((n / (q / chr q) : Nat) : Int) := Int.natCast_nonneg _
        refine ⟨.ref pl, rfl, .inl ⟨rfl, _, .inl (.inl hp6)⟩, .int (n : Nat), (by rw [← hn']; rfl), pl, _, _, rfl, rfl, hp6, ?_, ?_⟩
        · rw [List.length_map, List.length_map, List.length_range]
          exact small1000 (by omega)
        have ep : iv ((List.range k).map (pw q (chr q))) ++ [V.int (n : Nat)] = iv ((List.range (k + 1)).map (pw q (chr q))) := by
          rw [range_snoc]
          unfold iv
          rw [List.map_append, hn']
          rfl
        rw [ep]
        refine ⟨.int (0 + (k : Int)), rfl, .ref ll, rfl, .int (n : Nat), (by rw [← hn']; rfl), ll, _, _, n, rfl, rfl, (by rw [upd_ne npq.symm]; exact hl6), ixN_nat (by rw [List.length_map, lgs_len]; omega), ?_⟩
        have el : (iv (lgs q k)).set n (V.int (0 + (k : Int))) = iv (lgs q (k + 1)) := by
          rw [ez, iv_set]
          show iv ((lgs q k).set n k) = iv ((lgs q k).set (pw q (chr q) k) k)
          rw [hn']
        rw [el]
        have s7 : Same H2 (upd (upd H6 pl (.lst (iv ((List.range (k + 1)).map (pw q (chr q)))))) ll (.lst (iv (lgs q (k + 1))))) := fun c o e => by
          rw [upd_ne (ne_of_none e nll0), upd_ne (ne_of_none e npl)]
          exact s6 _ _ e
        have hp7 : (upd (upd H6 pl (.lst (iv ((List.range (k + 1)).map (pw q (chr q)))))) ll (.lst (iv (lgs q (k + 1))))) pl = some (.lst (iv ((List.range (k + 1)).map (pw q (chr q))))) := by
          rw [upd_ne npq]
          exact upd_same
        have hl7 : (upd (upd H6 pl (.lst (iv ((List.range (k + 1)).map (pw q (chr q)))))) ll (.lst (iv (lgs q (k + 1))))) ll = some (.lst (iv (lgs q (k + 1)))) := upd_same
        generalize upd (upd H6 pl (.lst (iv ((List.range (k + 1)).map (pw q (chr q)))))) ll (.lst (iv (lgs q (k + 1)))) = H7 at s7 hp7 hl7 ⊢
        refine ⟨.int (n : Nat), (by rw [← hn']; rfl), .int q, rfl, .int (chr q : Nat), rfl, q, (chr q : Nat), rfl, rfl, ⟨by omega, by omega⟩, (n : Nat), ((q / chr q : Nat) : Int), rfl, rfl, ⟨by omega, by omega⟩, ?_⟩
        obtain ⟨xs, p, hx1, hx2, hx3⟩ := (hS2.same s7).read (tab_at' (f := S q) (a := n * chr q % q) (Nat.mod_lt _ (by omega)))
        refine ⟨.ref sm, rfl, .int (n : Nat), (by rw [← hn']; rfl), .int (chr q : Nat), rfl, _, _, rfl, rfl, .inl ⟨by omega, by omega⟩, .inl ⟨_, rfl, .int q, rfl, _, q, rfl, rfl, (by show (0 : Int) < (q : Int); omega), sm, _, ((n * chr q % q : Nat) : Int), .ref p, rfl, rfl, .inl (.inl hx1), atI_nat hx2, ?_⟩⟩
        refine ⟨.int ((n / (q / chr q) : Nat) : Int), rfl, .int ((n / (q / chr q) : Nat) : Int), rfl, .int (chr q : Nat), rfl, _, _, rfl, rfl, .inl ⟨?_, by omega⟩, _, _, rfl, rfl, p, _, ((n / (q / chr q) + n / (q / chr q) * chr q : Nat) : Int), V.int (pw q (chr q) (k + 1) : Nat), rfl, rfl, .inl (.inl hx3), ?_, ?_⟩
        · omega
        · have e := atI_nat (iv_at (f := S q (n * chr q % q)) np2)
          rw [np3] at e
          show atI _ _ = some (V.int ((M q (pw q (chr q) k) (chr q) : Nat) : Int))
          rw [hn']
          exact e
        · exact ⟨s7, hp7, hl7, _, _, rfl⟩
      · obtain ⟨s6, hp6, hl6, y7, y8, rfl⟩ := hW
        rw [hn] at hp6 hl6
        rw [hn]
        refine ⟨.ref pl, rfl, .ref pl, rfl, pl, pl, _, _, rfl, rfl, hp6, hp6, ?_, fun p2 np2 => ?_⟩
        · rw [List.length_map, List.length_map, List.length_range]
          exact Nat.le_trans (show q - 1 + (q - 1) ≤ 32 by omega) (by decide)
        have s7 := same_new (o := .lst (iv ((List.range (q - 1)).map (pw q (chr q))) ++ iv ((List.range (q - 1)).map (pw q (chr q))))) np2
        have hp7 : (upd H6 p2 (.lst (iv ((List.range (q - 1)).map (pw q (chr q))) ++ iv ((List.range (q - 1)).map (pw q (chr q)))))) p2 = some (.lst (iv (pws q ++ pws q))) := by
          rw [upd_same]
          unfold pws iv
          rw [List.map_append]
        have hl7 := s7 _ _ hl6
        have s27 := s6.trans s7
        generalize upd H6 p2 (.lst (iv ((List.range (q - 1)).map (pw q (chr q))) ++ iv ((List.range (q - 1)).map (pw q (chr q))))) = H7 at s7 hp7 hl7 s27 ⊢
        refine ⟨.int q, rfl, q, rfl, by omega, by omega, fun pr npr => lc_rows (fun a => (List.range q).map (M q a)) (by omega) npr (fun _ => rfl) (fun a H8 Q2 ha s8 k2 => ?_) (fun H8 s8 hP => ?_)⟩
        · refine ⟨.int q, rfl, q, rfl, by omega, by omega, fun R nR => lc_ints (M q a) (by omega) nR (fun _ => rfl) (fun b H9 Q3 hb s9 k3 => ?_) (fun H9 s9 hR => k2 R H9 s9 nR hR)⟩
          obtain ⟨l1, l2⟩ := log_M hq lt ha hb
          have s89 := s8.trans s9
          refine ⟨.int (0 + (a : Int)), rfl, .int (0 + (b : Int)), rfl, _, _, rfl, rfl, .inl ⟨by omega, by omega⟩, rfl, _, rfl, ite2 (fun h0 => ?_) (fun h0 => ?_)⟩
          · have e0 : a * b = 0 := by
              have e : (0 + (a : Int)) * (0 + (b : Int)) = 0 := V.int.inj (of_decide_eq_true h0)
              rw [ez, ez] at e
              exact Int.ofNat.inj e
            have := k3 H9 fun _ _ z => z
            rw [l1, if_pos e0] at this
            exact this
          · have e0 : ¬ a * b = 0 := fun z => h0 (decide_eq_true (by
              show V.int ((0 + (a : Int)) * (0 + (b : Int))) = V.int 0
              rw [ez, ez]
              exact congrArg (fun n : Nat => V.int (n : Int)) z))
            have la : (iv (lgs q (q - 1)))[a]? = some (V.int ((lgs q (q - 1)).getD a 0 : Nat)) := iv_get (by rw [lgs_len]; exact ha)
            have lb : (iv (lgs q (q - 1)))[b]? = some (V.int ((lgs q (q - 1)).getD b 0 : Nat)) := iv_get (by rw [lgs_len]; exact hb)
            refine ⟨.ref p2, rfl, .ref ll, rfl, .int (0 + (a : Int)), rfl, ll, _, _, _, rfl, rfl, .inl (.inl (s89 _ _ hl7)), (by rw [ez]; exact atI_nat la), .ref ll, rfl, .int (0 + (b : Int)), rfl, ll, _, _, _, rfl, rfl, .inl (.inl (s89 _ _ hl7)), (by rw [ez]; exact atI_nat lb), _, _, rfl, rfl, p2, _, (((lgs q (q - 1)).getD a 0 + (lgs q (q - 1)).getD b 0 : Nat) : Int), V.int (M q a b : Nat), rfl, rfl, .inl (.inl (s89 _ _ hp7)), ?_, k3 H9 fun _ _ z => z⟩
            rw [l1, if_neg e0]
            refine atI_nat (iv_get ?_)
            unfold pws
            rw [List.length_append, List.length_map, List.length_range]
            omega
        · have hPn : New2 H H8 pr (tab (M q) q) := hP.pre (s02.trans s27)
          have hS8 := hS2.same (s27.trans s8)
          have s08 := s02.trans (s27.trans s8)
          obtain ⟨xs, _, hD1, lx, hrow⟩ := id hS8
          -- less
          refine ⟨.ref sm, rfl, sm, rfl, ⟨_, .inl (.inl hD1)⟩, fun ls nls => lc_list (K := K) (a := sm) (xs := xs.map V.ref) (fun i H' => Same H8 H' ∧ H' ls = some (.lst (iv ((List.range i).map (neg q))))) ⟨same_new nls, upd_same⟩ (fun i H' _ hW => .inl (.inl (hW.1 _ _ hD1))) (fun i x H' hx hW => ?_) (fun HL hW => ?_)⟩
          · obtain ⟨sL, hL⟩ := hW
            have hi : i < q := by
              have := (List.getElem?_eq_some_iff.mp hx).1
              rw [List.length_map, lx, tab_len] at this
              exact this
            obtain ⟨xs', p, r1, r2, r3⟩ := (hS8.same sL).read (tab_at' (f := S q) hi)
            have ex : xs'.map V.ref = xs.map V.ref := by
              rw [sL _ _ hD1] at r1
              exact (HO.lst.inj (Option.some.inj r1)).symm
            rw [ex, hx] at r2
            obtain rfl := Option.some.inj r2
            obtain ⟨n1, n2, n3⟩ := neg_idx hq hi
            refine ⟨rfl, yes_kept ?_⟩
            refine ⟨.ref p, rfl, .inl ⟨rfl, _, .inl (.inl r3)⟩, p, _, .int 0, neg q i, _, rfl, rfl, .inl (.inl r3), rfl, flat_iv _, n1, n2, n3, _, hL, ?_, fun b x e => ?_, ?_⟩
            · rw [List.length_map, List.length_map, List.length_range]
              exact small1000 (by omega)
            · rw [upd_ne (ne_of_none e nls)]
              exact sL b x e
            · rw [upd_same, range_snoc]
              unfold iv
              rw [List.map_append]
              rfl
          obtain ⟨sL, hL⟩ := hW
          rw [List.length_map, lx, tab_len] at hL
          have nls0 : H ls = none := s08.free nls
          -- the dict
          intro d nd
          have sd := same_new (o := .dK ([] : List (Key × V))) nd
          have nd0 : H d = none := (s08.trans sL).free nd
          have hdu := upd_same (H := HL) (a := d) (o := HO.dK [])
          have sAll : Same H8 (upd HL d (.dK [])) := sL.trans sd
          have hLu := sd _ _ hL
          refine ⟨.int q, rfl, .ref sm, rfl, .ref pr, rfl, .ref ls, rfl, ?_⟩
          generalize upd HL d (.dK []) = HE at hdu sAll hLu ⊢
          refine ⟨hdu, fdict q sm pr ls, rfl, (by show 4 ≤ 15; decide), ?_⟩
          rw [fd_merge]
          have kp : ∀ c o, HE c = some o → c ≠ d → (upd HE d (.dK (fdict q sm pr ls))) c = some o := fun c o e n => by
            rw [upd_ne n]
            exact e
          have n2 : ∀ {D' : Addr} {rows : List (List Nat)}, New2 H HE D' rows → New2 H (upd HE d (.dK (fdict q sm pr ls))) D' rows := by
            intro D' rows h
            obtain ⟨ps, a1, a2, a3, a4⟩ := h
            exact ⟨ps, a1, kp _ _ a2 (ne_of a2 hdu (by intro z; cases z)), a3, fun j p r e1 e2 => ⟨(a4 j p r e1 e2).1, (a4 j p r e1 e2).2.1, kp _ _ (a4 j p r e1 e2).2.2 (ne_of (a4 j p r e1 e2).2.2 hdu (by intro z; cases z))⟩⟩
          refine want d _ (fun c o e => kp c o (sAll _ _ (s08 _ _ e)) (ne_of_none e nd0)) ⟨sm, pr, ls, upd_same, nd0, n2 (hS8.same sAll), n2 (hPn.same sAll), nls0, kp _ _ hLu (ne_of hLu hdu (by intro z; cases z))⟩
    · have ep : chr q = q := by
        refine Classical.byContradiction fun z => hlt (decide_eq_true (by omega))
      have hPn : New2 H H2 pr (tab (M q) q) := by
        have e : tab (M q) q = (List.range q).map fun a => (List.range q).map fun b => a * b % q := by
          refine List.map_congr_left fun a ha => List.map_congr_left fun b hb => ?_
          exact prime_M hq ep (List.mem_range.mp ha) (List.mem_range.mp hb)
        rw [e]
        exact hP.pre s01
      obtain ⟨xs, _, hD1, lx, hrow⟩ := id hS2
      -- less
      refine ⟨.ref sm, rfl, sm, rfl, ⟨_, .inl (.inl hD1)⟩, fun ls nls => lc_list (K := K) (a := sm) (xs := xs.map V.ref) (fun i H' => Same H2 H' ∧ H' ls = some (.lst (iv ((List.range i).map (neg q))))) ⟨same_new nls, upd_same⟩ (fun i H' _ hW => .inl (.inl (hW.1 _ _ hD1))) (fun i x H' hx hW => ?_) (fun HL hW => ?_)⟩
      · obtain ⟨sL, hL⟩ := hW
        have hi : i < q := by
          have := (List.getElem?_eq_some_iff.mp hx).1
          rw [List.length_map, lx, tab_len] at this
          exact this
        obtain ⟨xs', p, r1, r2, r3⟩ := (hS2.same sL).read (tab_at' (f := S q) hi)
        have ex : xs'.map V.ref = xs.map V.ref := by
          rw [sL _ _ hD1] at r1
          exact (HO.lst.inj (Option.some.inj r1)).symm
        rw [ex, hx] at r2
        obtain rfl := Option.some.inj r2
        obtain ⟨n1, n2, n3⟩ := neg_idx hq hi
        refine ⟨rfl, yes_kept ?_⟩
        refine ⟨.ref p, rfl, .inl ⟨rfl, _, .inl (.inl r3)⟩, p, _, .int 0, neg q i, _, rfl, rfl, .inl (.inl r3), rfl, flat_iv _, n1, n2, n3, _, hL, ?_, fun b x e => ?_, ?_⟩
        · rw [List.length_map, List.length_map, List.length_range]
          exact small1000 (by omega)
        · rw [upd_ne (ne_of_none e nls)]
          exact sL b x e
        · rw [upd_same, range_snoc]
          unfold iv
          rw [List.map_append]
          rfl
      obtain ⟨sL, hL⟩ := hW
      rw [List.length_map, lx, tab_len] at hL
      have nls0 : H ls = none := s02.free nls
      -- the dict
      intro d nd
      have sd := same_new (o := .dK ([] : List (Key × V))) nd
      have nd0 : H d = none := (s02.trans sL).free nd
      have hdu := upd_same (H := HL) (a := d) (o := HO.dK [])
      have sAll : Same H2 (upd HL d (.dK [])) := sL.trans sd
      have hLu := sd _ _ hL
      refine ⟨.int q, rfl, .ref sm, rfl, .ref pr, rfl, .ref ls, rfl, ?_⟩
      generalize upd HL d (.dK []) = HE at hdu sAll hLu ⊢
      refine ⟨hdu, fdict q sm pr ls, rfl, (by show 4 ≤ 15; decide), ?_⟩
      rw [fd_merge]
      have kp : ∀ c o, HE c = some o → c ≠ d → (upd HE d (.dK (fdict q sm pr ls))) c = some o := fun c o e n => by
        rw [upd_ne n]
        exact e
      have n2 : ∀ {D' : Addr} {rows : List (List Nat)}, New2 H HE D' rows → New2 H (upd HE d (.dK (fdict q sm pr ls))) D' rows := by
        intro D' rows h
        obtain ⟨ps, a1, a2, a3, a4⟩ := h
        exact ⟨ps, a1, kp _ _ a2 (ne_of a2 hdu (by intro z; cases z)), a3, fun j p r e1 e2 => ⟨(a4 j p r e1 e2).1, (a4 j p r e1 e2).2.1, kp _ _ (a4 j p r e1 e2).2.2 (ne_of (a4 j p r e1 e2).2.2 hdu (by intro z; cases z))⟩⟩
      refine want d _ (fun c o e => kp c o (sAll _ _ (s02 _ _ e)) (ne_of_none e nd0)) ⟨sm, pr, ls, upd_same, nd0, n2 (hS2.same sAll), n2 (hPn.same sAll), nls0, kp _ _ hLu (ne_of hLu hdu (by intro z; cases z))⟩
end
end K13
set_option Elab.async false
set_option linter.all false
set_option maxRecDepth 100000
set_option maxHeartbeats 4000000
set_option pp.maxSteps 1000
namespace BP
open PySem PySem.Spec PyProof.Rows L2 Fld
def RowsT (H : Hp) (D : Addr) (rows : List (List Nat)) : Prop := ∃ ps : List Addr, H D = some (.lst (ps.map V.ref)) ∧ ps.length = rows.length ∧ ∀ (j : Nat) (p : Addr) (r : List Nat), ps[j]? = some p → rows[j]? = some r → H p = some (.lst (iv r))
def FieldV (H : Hp) (F : Addr) (q : Nat) : Prop := ∃ sm pr ls, H F = some (.dK (fdict q sm pr ls)) ∧ RowsT H sm (tab (S q) q) ∧ RowsT H pr (tab (M q) q) ∧ H ls = some (.lst (iv ((List.range q).map (neg q))))
theorem RowsT.same {H H' : Hp} {D : Addr} {rows : List (List Nat)} (h : RowsT H D rows) (s : Same H H') : RowsT H' D rows := by
  obtain ⟨ps, h1, h2, h3⟩ := h
  exact ⟨ps, s _ _ h1, h2, fun j p r a b => s _ _ (h3 j p r a b)⟩
theorem FieldV.same {H H' : Hp} {F : Addr} {q : Nat} (h : FieldV H F q) (s : Same H H') : FieldV H' F q := by
  obtain ⟨sm, pr, ls, h1, h2, h3, h4⟩ := h
  exact ⟨sm, pr, ls, s _ _ h1, h2.same s, h3.same s, s _ _ h4⟩
section
variable {H : Hp} {F : Addr} {q : Nat} {Q : V → Prop}
theorem FieldV.num (h : FieldV H F q) (k : Q (.int q)) : ∃ a v, V.ref F = .ref a ∧ DGet H a (.str "q") (some v) ∧ Q v := by
  obtain ⟨sm, pr, ls, h1, _⟩ := h
  have g := DGet.k (k := fkQ) h1
  rw [fd_q] at g
  exact ⟨F, _, rfl, g, k⟩
theorem FieldV.plus (h : FieldV H F q) (k : ∀ sm, RowsT H sm (tab (S q) q) → Q (.ref sm)) : ∃ a v, V.ref F = .ref a ∧ DGet H a (.str "plus") (some v) ∧ Q v := by
  obtain ⟨sm, pr, ls, h1, h2, _⟩ := h
  have g := DGet.k (k := fkP) h1
  rw [fd_p] at g
  exact ⟨F, _, rfl, g, k sm h2⟩
theorem FieldV.times (h : FieldV H F q) (k : ∀ pr, RowsT H pr (tab (M q) q) → Q (.ref pr)) : ∃ a v, V.ref F = .ref a ∧ DGet H a (.str "times") (some v) ∧ Q v := by
  obtain ⟨sm, pr, ls, h1, _, h2, _⟩ := h
  have g := DGet.k (k := fkT) h1
  rw [fd_t] at g
  exact ⟨F, _, rfl, g, k pr h2⟩
theorem FieldV.less (h : FieldV H F q) (k : ∀ ls, H ls = some (.lst (iv ((List.range q).map (neg q)))) → Q (.ref ls)) : ∃ a v, V.ref F = .ref a ∧ DGet H a (.str "less") (some v) ∧ Q v := by
  obtain ⟨sm, pr, ls, h1, _, _, h2⟩ := h
  have g := DGet.k (k := fkL) h1
  rw [fd_l] at g
  exact ⟨F, _, rfl, g, k ls h2⟩
end
section
variable {K : PySem.W.Frag} {H : Hp} {q : Nat} [FF : IsF q] {Q : V → Prop} {D p : Addr}
theorem rowR {f : Nat → Nat → Nat} (h : RowsT H D (tab f q)) (a : El q) (k : ∀ p, H p = some (.lst (iv ((List.range q).map (f a.val)))) → Q (.ref p)) : ∃ p xs i v, V.ref D = .ref p ∧ vn a = .int i ∧ SqL K H p xs ∧ atI xs i = some v ∧ Q v := by
  obtain ⟨ps, h1, h2, h3⟩ := h
  have la : a.val < ps.length := by
    rw [h2, tab_len]
    exact a.lt
  have hp : ps[a.val]? = some (ps[a.val]'la) := List.getElem?_eq_getElem la
  refine ⟨D, _, _, _, rfl, rfl, .inl (.inl h1), atI_nat (j := a.val) ?_, k (ps[a.val]'la) (h3 a.val _ _ hp (tab_row a.lt))⟩
  rw [List.getElem?_map, hp]
  rfl
theorem celR {f : Nat → Nat} (h : H p = some (.lst (iv ((List.range q).map f)))) (b : El q) (k : Q (.int (f b.val : Nat))) : ∃ p' xs i v, V.ref p = .ref p' ∧ vn b = .int i ∧ SqL K H p' xs ∧ atI xs i = some v ∧ Q v :=
  ⟨p, _, _, _, rfl, rfl, .inl (.inl h), atI_nat (iv_at b.lt), k⟩
theorem celS {a : El q} (h : H p = some (.lst (iv ((List.range q).map (S q a.val))))) (b : El q) (k : Q (vn (a + b))) : ∃ p' xs i v, V.ref p = .ref p' ∧ vn b = .int i ∧ SqL K H p' xs ∧ atI xs i = some v ∧ Q v := celR h b k
theorem celM {a : El q} (h : H p = some (.lst (iv ((List.range q).map (M q a.val))))) (b : El q) (k : Q (vn (a * b))) : ∃ p' xs i v, V.ref p = .ref p' ∧ vn b = .int i ∧ SqL K H p' xs ∧ atI xs i = some v ∧ Q v := celR h b k
theorem celN (h : H p = some (.lst (iv ((List.range q).map (neg q))))) (b : El q) (k : Q (vn (-b))) : ∃ p' xs i v, V.ref p = .ref p' ∧ vn b = .int i ∧ SqL K H p' xs ∧ atI xs i = some v ∧ Q v := celR h b k
end
def Yl (te : TE) (σ : L2.St) (H : Hp) (v : V) : Prop := ∀ Q : VK, Q v H → te σ H Q
section
variable {σ : L2.St} {H : Hp} {K : PySem.W.Frag} {t1 t2 t3 : TE}
theorem yl_var {i : Nat} {v : V} (h : σ[i]? = some (some v)) : Yl (tVar i) σ H v := fun _ k => ⟨v, h, k⟩
theorem yl_c {v : V} : Yl (tC v) σ H v := fun _ k => k
theorem yl_at {D : Addr} {xs : List V} {j : Nat} {v : V} (h1 : Yl t1 σ H (.ref D)) (h2 : Yl t2 σ H (.int (j : Nat))) (hD : SqL K H D xs) (e : xs[j]? = some v) : Yl (tOp (rIxL K) t1 t2) σ H v :=
  fun _ k => h1 _ (h2 _ ⟨D, xs, _, v, rfl, rfl, hD, atI_nat e, k⟩)
variable {q : Nat} [FF : IsF q]
theorem yl_cell {f : Nat → Nat → Nat} {D : Addr} {a b : El q} (h1 : Yl t1 σ H (.ref D)) (h2 : Yl t2 σ H (vn a)) (h3 : Yl t3 σ H (vn b)) (hD : RowsT H D (tab f q)) : Yl (tOp (rIxL K) (tOp (rIxL K) t1 t2) t3) σ H (.int (f a.val b.val : Nat)) :=
  fun _ k => h1 _ (h2 _ (rowR hD a fun p hp => h3 _ (celR hp b k)))
theorem yl_S {D : Addr} {a b : El q} (h1 : Yl t1 σ H (.ref D)) (h2 : Yl t2 σ H (vn a)) (h3 : Yl t3 σ H (vn b)) (hD : RowsT H D (tab (S q) q)) : Yl (tOp (rIxL K) (tOp (rIxL K) t1 t2) t3) σ H (vn (a + b)) := yl_cell h1 h2 h3 hD
theorem yl_M {D : Addr} {a b : El q} (h1 : Yl t1 σ H (.ref D)) (h2 : Yl t2 σ H (vn a)) (h3 : Yl t3 σ H (vn b)) (hD : RowsT H D (tab (M q) q)) : Yl (tOp (rIxL K) (tOp (rIxL K) t1 t2) t3) σ H (vn (a * b)) := yl_cell h1 h2 h3 hD
theorem yl_N {D : Addr} {b : El q} (h1 : Yl t1 σ H (.ref D)) (h2 : Yl t2 σ H (vn b)) (hD : H D = some (.lst (iv ((List.range q).map (neg q))))) : Yl (tOp (rIxL K) t1 t2) σ H (vn (-b)) := fun _ k => h1 _ (h2 _ (celN hD b k))
end
/-- the field and the deck, apart from one another -/
def FieldAt (d c : Addr) (H : Hp) (F : Addr) (q : Nat) : Prop := ∃ sm pr ls, H F = some (.dK (fdict q sm pr ls)) ∧ F ≠ d ∧ Rows c H sm (tab (S q) q) ∧ Rows c H pr (tab (M q) q) ∧ ls ≠ c ∧ H ls = some (.lst (iv ((List.range q).map (neg q))))
theorem FieldAt.v {d c F : Addr} {H : Hp} {q : Nat} (h : FieldAt d c H F q) : FieldV H F q := by
  obtain ⟨sm, pr, ls, h1, _, ⟨ps, _, _, a1, a2, a3⟩, ⟨rs, _, _, b1, b2, b3⟩, _, h4⟩ := h
  exact ⟨sm, pr, ls, h1, ⟨ps, a1, a2, a3⟩, ⟨rs, b1, b2, b3⟩, h4⟩
theorem FieldAt.but {d c F : Addr} {H H' : Hp} {q : Nat} (h : FieldAt d c H F q) (k : Deck H d c) (b : But d c H H') : FieldAt d c H' F q := by
  obtain ⟨sm, pr, ls, h1, n1, h2, h3, n4, h4⟩ := h
  have nc : F ≠ c := by
    obtain ⟨_, _, _, _, kc, _⟩ := k
    exact ne_of h1 kc (by intro z; cases z)
  exact ⟨sm, pr, ls, b _ _ n1 nc h1, n1, h2.but k b, h3.but k b, n4, b _ _ (k.lst h4 n4) n4 h4⟩
theorem FieldAt.same {d c F : Addr} {H H' : Hp} {q : Nat} (h : FieldAt d c H F q) (s : Same H H') : FieldAt d c H' F q := by
  obtain ⟨sm, pr, ls, h1, n1, h2, h3, n4, h4⟩ := h
  exact ⟨sm, pr, ls, s _ _ h1, n1, h2.same s, h3.same s, n4, s _ _ h4⟩
theorem FieldNew.at {d c F : Addr} {H0 H : Hp} {q : Nat} (h : FieldNew H0 H F q) (k : Deck H0 d c) : FieldAt d c H F q := by
  obtain ⟨sm, pr, ls, h1, n1, h2, h3, n4, h4⟩ := h
  obtain ⟨_, _, _, kd, kc, _⟩ := k
  have nn : ∀ {a : Addr} {x : HO} {b : Addr}, H0 a = none → H0 b = some x → a ≠ b := fun e f z => by
    rw [z, f] at e
    cases e
  exact ⟨sm, pr, ls, h1, nn n1 kd, h2.rows kc, h3.rows kc, nn n4 kc, h4⟩
end BP
set_option Elab.async false
set_option linter.all false
set_option maxRecDepth 100000
set_option maxHeartbeats 4000000
set_option pp.maxSteps 1000
namespace BP
open PySem PySem.Spec PyProof.Rows L2 Fld
def spLVal (K : PySem.W.Frag) : Sp := fun vs H Q _ => ∃ (q : Nat) (_ : IsF q) (F a : Addr) (f : Po q) (y : El q), vs = [.ref F, .ref a, vn y] ∧ FieldV H F q ∧ SqT K H a (vns f) ∧ ∀ H', Same H H' → Q (vn (ev y f)) H'
end BP
namespace K13
open PySem PySem.Spec PyProof.Rows L2 BP Fld
section
variable {P : Program} {w : World} {K : PySem.W.Frag} {mg : Str → Option Value} {base : Heap}
theorem ok_lvalue {f : Addr} {fd : FuncData} {k : Nat} (F : Fun K "_law_value" "_law_value" sLValue f fd) : FnOk P w K mg base CX0 (k + 1) f fd pLValue (spLVal K) := by
  refine F.ok scLValue (fun vs H Q E h => ?_) (fun cdv A outer s H vs Q E hr h => ?_)
  · obtain ⟨q, _, F, a, f, y, rfl, _⟩ := h
    rfl
  · obtain ⟨q, FF, F, a, f, y, rfl, hF, ha, want⟩ := h
    have hu := hu_of hr
    refine ⟨_, (pss_cons (ps_asg (pe_tup (pa_cons pe_int (pa_cons pe_int pa_nil))) (pg_tup rfl (pgs_cons (pg_name (i := 3) scLValue.nd rfl (.inl rfl)) (pgs_cons (pg_name (i := 4) scLValue.nd rfl (.inl rfl)) pgs_nil))))
      (pss_cons (ps_for PassesOwn.never rfl (pi_tup (pv 1)) (pg_name (i := 5) scLValue.nd rfl (.inl rfl)) (pss_cons (ps_set (i := 3) scLValue.nd rfl (.inl rfl) (pe_ix ix_list (pe_ix ix_list (pe_dget hu (pv 0) pe_str (fun _ _ => rfl)) (pv 3) (fun _ _ => rfl)) (pe_ix ix_list (pe_ix ix_list (pe_dget hu (pv 0) pe_str (fun _ _ => rfl)) (pv 5) (fun _ _ => rfl)) (pv 4) (fun _ _ => rfl)) (fun _ _ => rfl)))
        (pss_one (ps_set (i := 4) scLValue.nd rfl (.inl rfl) (pe_ix ix_list (pe_ix ix_list (pe_dget hu (pv 0) pe_str (fun _ _ => rfl)) (pv 4) (fun _ _ => rfl)) (pv 2) (fun _ _ => rfl))))))
      (pss_one (ps_ret (pv 3))))), ?_⟩
    refine ⟨(by show 2 ≤ sizeLine; decide), fun T nT => ⟨T, _, rfl, .inl (.inl upd_same), rfl, .int 0, [.int 1], rfl, .int 1, [], rfl, rfl, ?_⟩⟩
    have sT := same_new (o := .tup [V.int 0, V.int 1]) nT
    have hF1 := hF.same sT
    have ha1 := BP.Same.tupS sT ha
    generalize upd H T (.tup [V.int 0, V.int 1]) = H1 at sT hF1 ha1 ⊢
    show Ends.nx _ [some (.ref F), some (.ref a), some (vn y), some (.int 0), some (.int 1), none] H1
    dsimp only []
    refine ⟨.ref a, rfl, a, rfl, ⟨_, ha1⟩, for_tup (xs := vns f) (fun i σ H' => H' = H1 ∧ ∃ (t p : El q) (y5 : Option V), t + p * ev y (f.drop i) = ev y f ∧ σ = [some (.ref F), some (.ref a), some (vn y), some (vn t), some (vn p), y5]) ⟨rfl, 0, 1, none, ?_, ?_⟩ (fun i σ H' _ hW => ?_) (fun i x σ H' hx hW => ?_) (fun σ H' hW => ?_)⟩
    · rw [List.drop_zero]
      grind
    · rw [show vn (0 : El q) = .int 0 from rfl, show vn (1 : El q) = .int 1 by show V.int ((1 : El q).val : Nat) = _; rw [El.val_one]; rfl]
    · rw [hW.1]
      exact ha1
    · obtain ⟨rfl, t, p, y5, ht, rfl⟩ := hW
      obtain ⟨hi, rfl⟩ := of_vns hx
      have hd : f.drop i = co f i :: f.drop (i + 1) := by
        rw [List.drop_eq_getElem_cons hi]
        congr 1
        unfold co
        rw [List.getD_eq_getElem?_getD, List.getElem?_eq_getElem hi]
        rfl
      rw [hd] at ht
      have ht : t + p * (ev y (f.drop (i + 1)) * y + co f i) = ev y f := ht
      refine ⟨.ref F, rfl, hF1.plus fun sm hs => ⟨vn t, rfl, rowR hs t fun p1 h1 => ⟨.ref F, rfl, hF1.times fun pr hp => ⟨vn (co f i), rfl, rowR hp (co f i) fun p2 h2 => ⟨vn p, rfl, celM h2 p (celS h1 (co f i * p) ?_)⟩⟩⟩⟩⟩
      show Ends.nx _ [some (.ref F), some (.ref a), some (vn y), some (vn (t + co f i * p)), some (vn p), some (vn (co f i))] H'
      dsimp only []
      refine ⟨.ref F, rfl, hF1.times fun pr hp => ⟨vn p, rfl, rowR hp p fun p3 h3 => ⟨vn y, rfl, celM h3 y ⟨rfl, t + co f i * p, p * y, _, ?_, rfl⟩⟩⟩⟩
      rw [← ht]
      grind
    · obtain ⟨rfl, t, p, y5, ht, rfl⟩ := hW
      have hl : (vns f).length = f.length := List.length_map ..
      rw [hl, List.drop_length] at ht
      have e : t = ev y f := by
        rw [← ht]
        show t = t + p * 0
        grind
      subst e
      exact ⟨vn (ev y f), rfl, want _ sT⟩
end
end K13
set_option Elab.async false
set_option linter.all false
set_option maxRecDepth 100000
set_option maxHeartbeats 4000000
set_option pp.maxSteps 1000
namespace Fld
variable {q : Nat} [F : IsF q]
/-- numbers up to a length -/
def upto (n : Nat) (φ : Nat → El q) : Po q := (List.range n).map φ
theorem upto_len (n : Nat) (φ : Nat → El q) : (upto n φ).length = n := by
  unfold upto
  rw [List.length_map, List.length_range]
theorem co_upto (n : Nat) (φ : Nat → El q) (i : Nat) : co (upto n φ) i = if i < n then φ i else 0 := by
  unfold co upto
  rw [List.getD_eq_getElem?_getD, List.getElem?_map]
  by_cases h : i < n
  · rw [if_pos h, List.getElem?_range h]
    rfl
  · rw [if_neg h, List.getElem?_eq_none (by rw [List.length_range]; omega)]
    rfl
theorem upto_take (n : Nat) (φ : Nat → El q) {i : Nat} (h : i < n) : (upto n φ).take (i + 1) = (upto n φ).take i ++ [φ i] := by
  have e : (upto n φ)[i]? = some (φ i) := by
    unfold upto
    rw [List.getElem?_map, List.getElem?_range h]
    rfl
  rw [List.take_add_one, e]
  rfl
/-- a list made longer with zeros -/
def padz (g : Po q) (n : Nat) : Po q := g ++ List.replicate (n - g.length) 0
theorem padz_len {g : Po q} {n : Nat} (h : g.length ≤ n) : (padz g n).length = n := by
  unfold padz
  rw [List.length_append, List.length_replicate]
  omega
theorem co_padz (g : Po q) (n i : Nat) : co (padz g n) i = co g i := by
  unfold co padz
  by_cases h : i < g.length
  · rw [List.getD_eq_getElem?_getD, List.getD_eq_getElem?_getD, List.getElem?_append_left h]
  · rw [List.getD_eq_getElem?_getD, List.getD_eq_getElem?_getD, List.getElem?_append_right (by omega), List.getElem?_eq_none (l := g) (by omega), List.getElem?_replicate]
    split <;> rfl
end Fld
namespace BP
open PySem PySem.Spec PyProof.Rows L2 Fld
section
variable {q : Nat} [FF : IsF q] {σ : L2.St} {H : Hp} {K : PySem.W.Frag} {t1 t2 : TE}
theorem vn_zero : vn (0 : El q) = .int 0 := rfl
theorem Same.lstS {H' : Hp} {a : Addr} {xs : List V} (s : Same H H') (h : SqL K H a xs) : SqL K H' a xs := by
  rcases h with (h | ⟨o, h⟩) | h
  · exact .inl (.inl (s _ _ h))
  · exact .inl (.inr ⟨o, s _ _ h⟩)
  · exact .inr h
theorem vns_padz (g : Po q) (n : Nat) : vns g ++ (List.replicate (n - g.length) [V.int 0]).flatten = vns (padz g n) := by
  have e : ∀ k : Nat, (List.replicate k [V.int 0]).flatten = vns (List.replicate k (0 : El q)) := by
    intro k
    induction k with
    | zero => rfl
    | succ k ih =>
      rw [List.replicate_succ, List.flatten_cons, ih]
      unfold vns
      rw [List.replicate_succ, List.map_cons, vn_zero]
      rfl
  rw [e]
  unfold vns padz
  rw [List.map_append]
/-- a comprehension whose n-th item is the number φ n -/
theorem lc_upto {J : It} {n : Nat} {G : Hp → Prop} {Y : Nat → Hp → V → Hp → Prop} (w : Walk J n G Y) {g : TG} {te : TE} {vs : List Nat} {H1 : Hp} {D : Addr} {Qd : Hp → Prop} (φ : Nat → El q) (nD : H1 D = none) (le : n ≤ 1000) (hG : ∀ H', Same H1 H' → G H')
    (hs : ∀ (i : Nat) (x : V) (H H' : Hp) (Q : L2.St → Hp → Prop), i < n → Same H1 H → Y i H x H' → (∀ σ2 H2, wipe σ2 vs = wipe σ vs → Same H H2 → Yl te σ2 H2 (vn (φ i)) → Q σ2 H2) → g x (wipe σ vs) H' Q) (k : ∀ H', Same H1 H' → H' D = some (.lst (vns (upto n φ))) → Qd H') :
    ∃ W : Nat → Nat → Hp → Prop, (∃ m, W 0 m (upd H1 D (.lst []))) ∧ ∀ i m H, W i m H →
      (J.stop i H ∧ Qd H) ∨ (J.go i H ∧ ∃ Nx : Hp → Prop, (∀ H', Nx H' → ∃ m', m' < m ∧ W (i + 1) m' H') ∧ ∀ x H', J.yld i H x H' → g x (wipe σ vs) H' fun σ2 H2 => wipe σ2 vs = wipe σ vs ∧ tYes σ2 H2 fun b H3 =>
        if b = true then te σ2 H3 fun y H4 => ∃ acc, H4 D = some (.lst acc) ∧ acc.length < sizeLine ∧ Nx (upd H4 D (.lst (acc ++ [y]))) else Nx H3) := by
  refine lc_it w (fun i H' => Same H1 H' ∧ H' D = some (.lst (vns ((upto n φ).take i)))) ⟨same_new nD, upd_same⟩ (fun i H' _ h => hG H' h.1) (fun i x H H' hi h y => ?_) (fun H' h => ?_)
  · obtain ⟨s1, hD⟩ := h
    refine hs i x H H' _ hi s1 y fun σ2 H2 e1 s2 te2 => ⟨e1, yes_kept (te2 _ ⟨_, s2 _ _ hD, ?_, fun b z e => ?_, ?_⟩)⟩
    · rw [List.length_map]
      refine Nat.lt_of_le_of_lt (List.length_take_le ..) (Nat.lt_of_lt_of_le (show i < 1000 by omega) (by decide))
    · rw [upd_ne (ne_of_none e nD)]
      exact s2 _ _ (s1 b z e)
    · rw [upd_same, upto_take n φ hi]
      unfold vns
      rw [List.map_append]
      rfl
  · obtain ⟨s1, hD⟩ := h
    rw [List.take_of_length_le (by rw [upto_len]; exact Nat.le_refl _)] at hD
    exact k H' s1 hD
theorem vns_at {g : Po q} {i : Nat} {x : V} (h : (vns g)[i]? = some x) : i < g.length ∧ x = vn (co g i) := of_vns h
/-- pairs of two lists, of one length, put together -/
theorem lc_zip {a b : Addr} {n i1 i2 : Nat} {g h : Po q} {te : TE} {vs : List Nat} {H1 : Hp} {D : Addr} {Qd : Hp → Prop} (φ : Nat → El q) (nD : H1 D = none) (le : n ≤ 1000) (lg : g.length = n) (lh : h.length = n) (ha : H1 a = some (.lst (vns g))) (hb : H1 b = some (.lst (vns h)))
    (hw : ∀ x y : V, wipe (((wipe σ vs).set i1 (some x)).set i2 (some y)) vs = wipe σ vs) (hs : ∀ (i : Nat) (H2 : Hp), i < n → Same H1 H2 → Yl te (((wipe σ vs).set i1 (some (vn (co g i)))).set i2 (some (vn (co h i)))) H2 (vn (φ i))) (k : ∀ H', Same H1 H' → H' D = some (.lst (vns (upto n φ))) → Qd H') :
    ∃ W : Nat → Nat → Hp → Prop, (∃ m, W 0 m (upd H1 D (.lst []))) ∧ ∀ i m H, W i m H →
      ((Itz K a b).stop i H ∧ Qd H) ∨ ((Itz K a b).go i H ∧ ∃ Nx : Hp → Prop, (∀ H', Nx H' → ∃ m', m' < m ∧ W (i + 1) m' H') ∧ ∀ x H', (Itz K a b).yld i H x H' → gTup K 2 (gCons (gName i1) (gCons (gName i2) gNil)) x (wipe σ vs) H' fun σ2 H2 => wipe σ2 vs = wipe σ vs ∧ tYes σ2 H2 fun b H3 =>
        if b = true then te σ2 H3 fun y H4 => ∃ acc, H4 D = some (.lst acc) ∧ acc.length < sizeLine ∧ Nx (upd H4 D (.lst (acc ++ [y]))) else Nx H3) := by
  refine lc_upto (walk_zip (K := K) (a := a) (b := b) (xs := vns g) (ys := vns h) (n := n) (by unfold vns; rw [List.length_map, List.length_map, lg, lh, Nat.min_self])) φ nD le (fun H' s => ⟨.inl (.inl (s _ _ ha)), .inl (.inl (s _ _ hb))⟩) (fun i x H H' Q hi s y kk => ?_) k
  obtain ⟨T, v1, v2, rfl, nT, rfl, ev1, ev2⟩ := y
  obtain ⟨_, rfl⟩ := vns_at ev1
  obtain ⟨_, rfl⟩ := vns_at ev2
  have sT := same_new (o := .tup [vn (co g i), vn (co h i)]) nT
  refine ⟨T, _, rfl, .inl (.inl upd_same), rfl, _, [_], rfl, _, [], rfl, rfl, ?_⟩
  exact kk _ _ (hw _ _) sT (hs i _ hi (s.trans sT))
theorem yl_zeros {i j : Nat} {L : Addr} {N : Nat} {g : Po q} {Q : VK} (hj : σ[j]? = some (some (.int (N : Nat)))) (hi : σ[i]? = some (some (.ref L))) (hL : SqL K H L (vns g) ∨ SqT K H L (vns g)) (le : g.length ≤ N) (lN : N ≤ 1000) (k : ∀ p H', Same H H' → H' p = some (.lst (List.replicate (N - g.length) [V.int 0]).flatten) → Q (.ref p) H') :
    tOp rRep (tLst (tCons (tC (V.int 0)) tNil)) (tOp (rI0 fun i j => V.int (i - j)) (tVar j) (tCB (fun xs H Q => ∃ p ys, xs = [V.ref p] ∧ (SqL K H p ys ∨ SqT K H p ys) ∧ Q (V.int (ys.length : Nat)) H) (tCons (tVar i) tNil))) σ H Q := by
  refine ⟨(by show 1 ≤ sizeLine; decide), fun p1 n1 => ?_⟩
  have s1 := same_new (o := .lst [V.int 0]) n1
  have ek : ((N : Int) - ((vns g).length : Nat)).toNat = N - g.length := by
    unfold vns
    rw [List.length_map]
    omega
  refine ⟨.int (N : Nat), hj, .ref L, hi, L, vns g, rfl, hL.imp (BP.Same.lstS s1) (BP.Same.tupS s1), _, _, rfl, rfl, p1, _, _, rfl, rfl, upd_same, ?_, ?_, ?_, fun p2 n2 => ?_⟩
  · unfold vns
    rw [List.length_map]
    omega
  · unfold vns
    rw [List.length_map]
    omega
  · rw [ek]
    exact Nat.le_trans (show 1 * (N - g.length) ≤ 1000 by omega) (by decide)
  · rw [ek]
    exact k p2 _ (s1.trans (same_new n2)) upd_same
theorem cat_lists {a b : Addr} {g : Po q} {N : Nat} {Q : VK} (ha : H a = some (.lst (vns g))) (hb : H b = some (.lst (List.replicate (N - g.length) [V.int 0]).flatten)) (le : g.length ≤ N) (lN : N ≤ 1000) (k : ∀ p, H p = none → Q (.ref p) (upd H p (.lst (vns (padz g N))))) : rCat (.ref a) (.ref b) H Q := by
  refine ⟨a, b, _, _, rfl, rfl, ha, hb, ?_, fun p np => ?_⟩
  · rw [← List.length_append, vns_padz]
    unfold vns
    rw [List.length_map, padz_len le]
    exact Nat.le_trans lN (by decide)
  · rw [vns_padz]
    exact k p np
end
def spLAdd (K : PySem.W.Frag) : Sp := fun vs H Q _ => ∃ (q : Nat) (_ : IsF q) (F a b : Addr) (f g : Po q), vs = [.ref F, .ref a, .ref b] ∧ FieldV H F q ∧ SqT K H a (vns f) ∧ SqT K H b (vns g) ∧ f.length ≤ 200 ∧ g.length ≤ 200 ∧ ∀ (r : Addr) (H' : Hp), Same H H' → SqT K H' r (vns (pl f g)) → Q (.ref r) H'
end BP
namespace K13
open PySem PySem.Spec PyProof.Rows L2 BP Fld
section
variable {P : Program} {w : World} {K : PySem.W.Frag} {mg : Str → Option Value} {base : Heap}
theorem ok_added {f fLT : Addr} {fd fdLT : FuncData} (F : Fun K "_law_added" "_law_added" sLAdded f fd) (LTR : BP.Can P w K mg base "_law_trimmed" 1 pLTrimmed (spLTr K) fLT fdLT) (m_len : mg "len" = none) (m_max : mg "max" = none) (m_list : mg "list" = none) (m_zip : mg "zip" = none) : FnOk P w K mg base CX0 2 f fd pLAdded (spLAdd K) := by
  refine F.ok scLAdded (fun vs H Q E h => ?_) (fun cdv A outer s H vs Q E hr h => ?_)
  · obtain ⟨q, _, F, a, b, f, g, rfl, _⟩ := h
    rfl
  · obtain ⟨q, FF, F, a, b, f, g, rfl, hF, ha, hb, lf, lg, want⟩ := h
    have hu := hu_of hr
    refine ⟨_, (pss_cons (ps_set (i := 3) scLAdded.nd rfl (.inl rfl) (pe_callB (call_max2 rfl) (by rfl) m_max (by decide +kernel) (pa_cons (pe_callB call_len_seq (by rfl) m_len PySem.boot_len (pa_cons (pv 1) pa_nil)) (pa_cons (pe_callB call_len_seq (by rfl) m_len PySem.boot_len (pa_cons (pv 2) pa_nil)) pa_nil))))
      (pss_cons (ps_par (i := 4) (j := 5) (by rfl) scLAdded.nd rfl rfl (by decide) rfl rfl (pa_cons (pe_op op_cat (pe_callTy call_list_of (by rfl) m_list (by decide +kernel) (pa_cons (pv 1) pa_nil)) (pe_op op_rep (pe_lst (pa_cons pe_int pa_nil)) (pe_op op_sub (pv 3) (pe_callB call_len_seq (by rfl) m_len PySem.boot_len (pa_cons (pv 1) pa_nil))))) (pa_cons (pe_op op_cat (pe_callTy call_list_of (by rfl) m_list (by decide +kernel) (pa_cons (pv 2) pa_nil)) (pe_op op_rep (pe_lst (pa_cons pe_int pa_nil)) (pe_op op_sub (pv 3) (pe_callB call_len_seq (by rfl) m_len PySem.boot_len (pa_cons (pv 2) pa_nil))))) pa_nil)) (by rfl))
      (pss_one (ps_ret (pe_call LTR.ok (hr.mono (show 1 ≤ 1 by decide)) (by rfl) LTR.g LTR.kp LTR.b .nil pass0 (pa_cons (pe_lc (own := [("_law_x", 6), ("_law_y", 7)]) (g := gTup K 2 (gCons (gName 6) (gCons (gName 7) gNil))) (tt := tYes) rfl scLAdded.nd (pi_zip (by rfl) m_zip (pa_cons (pv 4) (pa_cons (pv 5) pa_nil))) (blkOk_by (N := nLAdded) (sc := defScope sLAdded) (by decide +kernel)) (fun _ _ _ _ _ => (pg_tup rfl (pgs_cons (pg_name (i := 6) scLAdded.nd rfl (.inl rfl)) (pgs_cons (pg_name (i := 7) scLAdded.nd rfl (.inl rfl)) pgs_nil)))) (fun _ _ _ _ _ => pts_nil) (fun _ _ _ _ _ => (pe_ix (r := rIxL K) ix_list (pe_ix (r := rIxL K) ix_list (pe_dget hu (pv 0) pe_str (fun _ _ => rfl)) (pv 6) (fun _ _ => rfl)) (pv 7) (fun _ _ => rfl)))) pa_nil)))))), ?_⟩
    have lvf : (vns f).length = f.length := List.length_map ..
    have lvg : (vns g).length = g.length := List.length_map ..
    refine ⟨.ref a, rfl, a, vns f, rfl, .inr ha, .ref b, rfl, b, vns g, rfl, .inr hb, _, _, rfl, ?_⟩
    rw [lvf, lvg]
    obtain ⟨N, eN, nf, ng, nn⟩ : ∃ N : Nat, (if ((g.length : Nat) : Int) > (f.length : Nat) then ((g.length : Nat) : Int) else ((f.length : Nat) : Int)) = (N : Int) ∧ f.length ≤ N ∧ g.length ≤ N ∧ N ≤ 200 := by
      split
      · exact ⟨g.length, rfl, by omega, by omega, lg⟩
      · exact ⟨f.length, rfl, by omega, by omega, lf⟩
    rw [eN]
    show Ends.nx _ [some (.ref F), some (.ref a), some (.ref b), some (.int (N : Nat)), none, none, none, none] H
    dsimp only []
    refine ⟨.ref a, rfl, a, vns f, rfl, .inr ha, fun l nl => ?_⟩
    have sl := same_new (o := .lst (vns f)) nl
    refine yl_zeros (i := 1) (j := 3) (g := f) rfl rfl (.inr (BP.Same.tupS sl ha)) nf (by omega) fun p H2 s2 hp => ?_
    refine cat_lists (s2 _ _ upd_same) hp nf (by omega) fun u nu => ?_
    have su := same_new (o := .lst (vns (padz f N))) nu
    have s3 := sl.trans (s2.trans su)
    have hu' := upd_same (H := H2) (a := u) (o := HO.lst (vns (padz f N)))
    generalize upd H2 u (.lst (vns (padz f N))) = H3 at s3 hu' ⊢
    refine ⟨.ref b, rfl, b, vns g, rfl, .inr (BP.Same.tupS s3 hb), fun l2 nl2 => ?_⟩
    have sl2 := same_new (o := .lst (vns g)) nl2
    refine yl_zeros (i := 2) (j := 3) (g := g) rfl rfl (.inr (BP.Same.tupS (s3.trans sl2) hb)) ng (by omega) fun p2 H4 s4 hp2 => ?_
    refine cat_lists (s4 _ _ upd_same) hp2 ng (by omega) fun u2 nu2 => ⟨_, _, rfl, ?_⟩
    have su2 := same_new (o := .lst (vns (padz g N))) nu2
    have s35 := sl2.trans (s4.trans su2)
    have hu2 := upd_same (H := H4) (a := u2) (o := HO.lst (vns (padz g N)))
    generalize upd H4 u2 (.lst (vns (padz g N))) = H5 at s35 hu2 ⊢
    have s5 := s3.trans s35
    have hF5 := hF.same s5
    show Ends.nx _ [some (.ref F), some (.ref a), some (.ref b), some (.int (N : Nat)), some (.ref u), some (.ref u2), none, none] H5
    dsimp only []
    refine ⟨.ref u, rfl, .ref u2, rfl, u, u2, _, _, rfl, .inl (.inl (s35 _ _ hu')), .inl (.inl hu2), fun D nD => ?_⟩
    refine lc_zip (n := N) (g := padz f N) (h := padz g N) (fun i => co (padz f N) i + co (padz g N) i) nD (by omega) (padz_len nf) (padz_len ng) (s35 _ _ hu') hu2 (fun _ _ => rfl) (fun i H6 hi s6 Q6 k6 => ?_) (fun H6 s6 hD => ?_)
    · exact ⟨.ref F, rfl, (hF5.same s6).plus fun sm h => ⟨_, rfl, rowR h _ fun p hp => ⟨_, rfl, celS hp _ k6⟩⟩⟩
    · refine ⟨q, FF, D, _, rfl, .inl (.inl (.inl hD)), by rw [upto_len]; exact nn, fun r H7 s7 h7 => ?_⟩
      have et : trim (upto N fun i => co (padz f N) i + co (padz g N) i) = pl f g := by
        refine trim_pl fun j => ?_
        rw [co_upto, co_padz, co_padz]
        by_cases hj : j < N
        · rw [if_pos hj]
        · rw [if_neg hj, co_out (by omega), co_out (by omega)]
          grind
      rw [et] at h7
      exact want r H7 (s5.trans (s6.trans s7)) h7
end
end K13
set_option Elab.async false
set_option linter.all false
set_option maxRecDepth 100000
set_option maxHeartbeats 4000000
set_option pp.maxSteps 1000
namespace BP
open PySem PySem.Spec PyProof.Rows L2 Fld
def spLMul (K : PySem.W.Frag) : Sp := fun vs H Q _ => ∃ (q : Nat) (_ : IsF q) (F a b : Addr) (f g : Po q), vs = [.ref F, .ref a, .ref b] ∧ FieldV H F q ∧ SqT K H a (vns f) ∧ SqT K H b (vns g) ∧ f.length ≤ 100 ∧ g.length ≤ 100 ∧ ∀ (t : Po q) (r : Addr) (H' : Hp), trim t = t → t.length ≤ f.length + g.length → (∀ n, co t n = cvs f g f.length n) → Same H H' → SqT K H' r (vns t) → Q (.ref r) H'
end BP
namespace K13
open PySem PySem.Spec PyProof.Rows L2 BP Fld
section
variable {P : Program} {w : World} {K : PySem.W.Frag} {mg : Str → Option Value} {base : Heap}
theorem ok_multiplied {f fLT : Addr} {fd fdLT : FuncData} (F : Fun K "_law_multiplied" "_law_multiplied" sLMultiplied f fd) (LTR : BP.Can P w K mg base "_law_trimmed" 1 pLTrimmed (spLTr K) fLT fdLT) (m_len : mg "len" = none) (m_enumerate : mg "enumerate" = none) : FnOk P w K mg base CX0 2 f fd pLMultiplied (spLMul K) := by
  refine F.ok scLMultiplied (fun vs H Q E h => ?_) (fun cdv A outer s H vs Q E hr h => ?_)
  · obtain ⟨q, _, F, a, b, l, g, rfl, _⟩ := h
    rfl
  · obtain ⟨q, FF, F, a, b, l, g, rfl, hF, ha, hb, la, lb, want⟩ := h
    obtain ⟨sm, pr, ls, h1, h2, h3, _⟩ := hF
    have hu := hu_of hr
    refine ⟨_, (pss_cons (ps_par3 (i := 3) (j := 4) (l := 5) rfl scLMultiplied.nd rfl rfl rfl (by decide) (by decide) (by decide) rfl rfl rfl (pa_cons (pe_op op_rep (pe_lst (pa_cons pe_int pa_nil)) (pe_op op_add (pe_callB call_len_seq (by rfl) m_len PySem.boot_len (pa_cons (pv 1) pa_nil)) (pe_callB call_len_seq (by rfl) m_len PySem.boot_len (pa_cons (pv 2) pa_nil)))) (pa_cons (pe_dget hu (pv 0) pe_str (fun _ _ => rfl)) (pa_cons (pe_dget hu (pv 0) pe_str (fun _ _ => rfl)) pa_nil))) (by rfl))
      (pss_cons (ps_for PassesOwn.never rfl (pi_enumT (by rfl) m_enumerate (pa_cons (pv 1) pa_nil)) (pg_tup rfl (pgs_cons (pg_name (i := 6) scLMultiplied.nd rfl (.inl rfl)) (pgs_cons (pg_name (i := 7) scLMultiplied.nd rfl (.inl rfl)) pgs_nil))) (pss_one (ps_for PassesOwn.never rfl (pi_enumT (by rfl) m_enumerate (pa_cons (pv 2) pa_nil)) (pg_tup rfl (pgs_cons (pg_name (i := 8) scLMultiplied.nd rfl (.inl rfl)) (pgs_cons (pg_name (i := 9) scLMultiplied.nd rfl (.inl rfl)) pgs_nil))) (pss_one (ps_asg (pe_ix (r := rIxL K) ix_list (pe_ix (r := rIxL K) ix_list (pv 4) (pe_ix (r := rIxL K) ix_list (pv 3) (pe_op op_add (pv 6) (pv 8)) (fun _ _ => rfl)) (fun _ _ => rfl)) (pe_ix (r := rIxL K) ix_list (pe_ix (r := rIxL K) ix_list (pv 5) (pv 7) (fun _ _ => rfl)) (pv 9) (fun _ _ => rfl)) (fun _ _ => rfl)) (pg_sub (pv 3) (pe_op op_add (pv 6) (pv 8)) set_list))))))
      (pss_one (ps_ret (pe_call LTR.ok hr (by rfl) LTR.g LTR.kp LTR.b .nil pass0 (pa_cons (pv 3) pa_nil)))))), ?_⟩
    refine ⟨(by show 1 ≤ sizeLine; decide), fun p0 n0 => ?_⟩
    have s0 := same_new (o := .lst [V.int 0]) n0
    refine ⟨.ref a, rfl, a, vns l, rfl, .inr (BP.Same.tupS s0 ha), .ref b, rfl, b, vns g, rfl, .inr (BP.Same.tupS s0 hb), _, _, rfl, rfl, p0, _, _, rfl, rfl, upd_same, by omega, ?_, ?_, fun p np => ?_⟩
    · rw [List.length_map, List.length_map]
      omega
    · rw [List.length_map, List.length_map]
      show 1 * ((l.length : Int) + (g.length : Int)).toNat ≤ sizeLine
      exact Nat.le_trans (by omega : 1 * ((l.length : Int) + (g.length : Int)).toNat ≤ 200) (by decide)
    · have e0 : (List.replicate (((vns l).length : Int) + ((vns g).length : Int)).toNat [V.int 0]).flatten = vns (List.replicate (l.length + g.length) (0 : El q)) := by
        have : (((vns l).length : Int) + ((vns g).length : Int)).toNat = l.length + g.length := by
          rw [List.length_map, List.length_map]
          omega
        rw [this]
        have rep : ∀ n : Nat, (List.replicate n [V.int 0]).flatten = vns (List.replicate n (0 : El q)) := by
          intro n
          induction n with
          | zero => rfl
          | succ n ih =>
            rw [List.replicate_succ, List.flatten_cons, ih, List.replicate_succ]
            rfl
        exact rep _
      have s1 := s0.trans (same_new (o := .lst (List.replicate (((vns l).length : Int) + ((vns g).length : Int)).toNat [V.int 0]).flatten) np)
      have nH : H p = none := none_of s0 np
      have gP : DGet (upd (upd H p0 (.lst [V.int 0])) p (.lst (List.replicate (((vns l).length : Int) + ((vns g).length : Int)).toNat [V.int 0]).flatten)) F (.str "plus") (some (.ref sm)) := by
        have g := DGet.k (k := fkP) (s1 _ _ h1)
        rw [fd_p] at g
        exact g
      have gT : DGet (upd (upd H p0 (.lst [V.int 0])) p (.lst (List.replicate (((vns l).length : Int) + ((vns g).length : Int)).toNat [V.int 0]).flatten)) F (.str "times") (some (.ref pr)) := by
        have g := DGet.k (k := fkT) (s1 _ _ h1)
        rw [fd_t] at g
        exact g
      refine ⟨.ref F, rfl, F, .ref sm, rfl, gP, .ref F, rfl, F, .ref pr, rfl, gT, _, _, _, rfl, ?_⟩
      show Ends.nx _ [some (.ref F), some (.ref a), some (.ref b), some (.ref p), some (.ref sm), some (.ref pr), none, none, none, none] (upd (upd H p0 (.lst [V.int 0])) p (.lst (List.replicate (((vns l).length : Int) + ((vns g).length : Int)).toNat [V.int 0]).flatten))
      dsimp only []
      refine ⟨.ref a, rfl, a, vns l, rfl, BP.Same.tupS s1 ha, for_enumT (K := K) (a := a) (xs := vns l) (fun i σ H' => Same H H' ∧ (∃ y4 y5 y6 y7, σ = [some (.ref F), some (.ref a), some (.ref b), some (.ref p), some (.ref sm), some (.ref pr), y4, y5, y6, y7]) ∧ ∃ t : Po q, t.length = l.length + g.length ∧ H' p = some (.lst (vns t)) ∧ ∀ n, co t n = cvs l g i n)
        ⟨s1, ⟨_, _, _, _, rfl⟩, List.replicate (l.length + g.length) 0, List.length_replicate, by rw [upd_same, e0], fun n => ?_⟩ (fun i σ H' _ hW => BP.Same.tupS hW.1 ha) (fun i x σ H' T hx hW nT => ?_) (fun σ H' hW => ?_)⟩
      · show co _ n = 0
        unfold co
        rw [List.getD_eq_getElem?_getD, List.getElem?_replicate]
        split <;> rfl
      · obtain ⟨s2, ⟨y4, y5, y6, y7, rfl⟩, t, lt, hp, ht⟩ := hW
        obtain ⟨hi, rfl⟩ := of_vns hx
        have s3 := same_new (o := .tup [V.int (i : Nat), vn (co l i)]) nT
        have hp3 := s3 _ _ hp
        have s23 := s2.trans s3
        refine ⟨T, _, rfl, .inl (.inl upd_same), rfl, _, [vn (co l i)], rfl, _, [], rfl, rfl, ?_⟩
        generalize upd H' T (.tup [V.int (i : Nat), vn (co l i)]) = H3 at s3 hp3 s23 ⊢
        refine ⟨.ref b, rfl, b, vns g, rfl, BP.Same.tupS s23 hb, for_enumT (K := K) (a := b) (xs := vns g) (fun j σ H' => Same H H' ∧ (∃ y6 y7, σ = [some (.ref F), some (.ref a), some (.ref b), some (.ref p), some (.ref sm), some (.ref pr), some (.int (i : Nat)), some (vn (co l i)), y6, y7]) ∧ ∃ t : Po q, t.length = l.length + g.length ∧ H' p = some (.lst (vns t)) ∧
            ∀ n, co t n = cvs l g i n + if i ≤ n ∧ n - i < j then co l i * co g (n - i) else 0)
          ⟨s23, ⟨_, _, rfl⟩, t, lt, hp3, fun n => by rw [ht, if_neg (by omega)]; grind⟩ (fun j σ H' _ hW => BP.Same.tupS hW.1 hb) (fun j x σ H4 T2 hx hW nT2 => ?_) (fun σ H4 hW => ?_)⟩
        · obtain ⟨s4, ⟨y6, y7, rfl⟩, u, lu, hpu, hu⟩ := hW
          obtain ⟨hj, rfl⟩ := of_vns hx
          have s5 := same_new (o := .tup [V.int (j : Nat), vn (co g j)]) nT2
          have hp5 := s5 _ _ hpu
          refine ⟨T2, _, rfl, .inl (.inl upd_same), rfl, _, [vn (co g j)], rfl, _, [], rfl, rfl, ?_⟩
          generalize upd H4 T2 (.tup [V.int (j : Nat), vn (co g j)]) = H5 at s5 hp5 ⊢
          have eij : (i : Int) + (j : Int) = ((i + j : Nat) : Int) := by omega
          have hs5 := h2.same (s4.trans s5)
          have ht5 := h3.same (s4.trans s5)
          refine ⟨.ref sm, rfl, .ref p, rfl, .int (i : Nat), rfl, .int (j : Nat), rfl, _, _, rfl, rfl, p, vns u, _, vn (co u (i + j)), rfl, rfl, .inl (.inl hp5), ?_, rowR hs5 (co u (i + j)) fun p1 g1 => ⟨.ref pr, rfl, vn (co l i), rfl, rowR ht5 (co l i) fun p2 g2 => ⟨vn (co g j), rfl, celM g2 (co g j) (celS g1 (co l i * co g j) ?_)⟩⟩⟩
          · rw [eij]
            exact atI_nat (vns_get (by omega))
          · refine ⟨.ref p, rfl, .int (i : Nat), rfl, .int (j : Nat), rfl, _, _, rfl, rfl, p, vns u, _, i + j, rfl, rfl, hp5, ?_, ?_⟩
            · rw [eij]
              exact ixN_nat (by rw [List.length_map]; omega)
            · refine ⟨fun b' x' e => ?_, ⟨_, _, rfl⟩, u.set (i + j) (co u (i + j) + co l i * co g j), ?_, ?_, fun n => ?_⟩
              · rw [upd_ne (ne_of_none e nH)]
                exact s5 _ _ (s4 _ _ e)
              · rw [List.length_set, lu]
              · rw [upd_same, vns_set]
              · rw [co_set _ _ _ (by omega)]
                by_cases e : n = i + j
                · subst e
                  have ej : i + j - i = j := by omega
                  rw [if_pos rfl, hu, ej, if_neg (by omega), if_pos ⟨by omega, by omega⟩]
                  grind
                · rw [if_neg e, hu n]
                  by_cases h : i ≤ n ∧ n - i < j
                  · rw [if_pos h, if_pos ⟨h.1, by omega⟩]
                  · rw [if_neg h, if_neg (by omega)]
        · obtain ⟨s4, ⟨y6, y7, rfl⟩, u, lu, hpu, hu⟩ := hW
          refine ⟨s4, ⟨_, _, _, _, rfl⟩, u, lu, hpu, fun n => ?_⟩
          rw [hu]
          show _ = cvs l g i n + if i ≤ n then co l i * co g (n - i) else 0
          rw [List.length_map]
          by_cases h : i ≤ n
          · rw [if_pos h]
            by_cases h2 : n - i < g.length
            · rw [if_pos ⟨h, h2⟩]
            · rw [if_neg (by omega), co_out (f := g) (by omega)]
              grind
          · rw [if_neg (by omega), if_neg h]
      · obtain ⟨s2, ⟨y4, y5, y6, y7, rfl⟩, t, lt, hp, ht⟩ := hW
        rw [List.length_map] at ht
        refine ⟨.ref p, rfl, q, FF, p, t, rfl, .inl (.inl (.inl hp)), by omega, fun r H3 s3 hr3 => ?_⟩
        exact want (trim t) r H3 (trim_trim t) (Nat.le_trans (trim_len t) (Nat.le_of_eq lt)) (fun n => by rw [co_trim, ht]) (s2.trans s3) hr3
end
end K13
set_option Elab.async false
set_option linter.all false
set_option maxRecDepth 100000
set_option maxHeartbeats 4000000
set_option pp.maxSteps 1000
/-! Products and one polynomial put into another one. -/
namespace Fld
variable {q : Nat} [F : IsF q]
theorem cvs_out {f g : Po q} : ∀ {k n : Nat}, k ≤ f.length → f.length + g.length ≤ n + 1 → cvs f g k n = 0
  | 0, _, _, _ => rfl
  | k + 1, n, h, l => by
    show cvs f g k n + (if k ≤ n then co f k * co g (n - k) else 0) = 0
    rw [cvs_out (by omega) l]
    by_cases hk : k ≤ n
    · rw [if_pos hk, co_out (f := g) (by omega)]
      grind
    · rw [if_neg hk]
      grind
/-- the product -/
def tmP (f g : Po q) : Po q := trim (upto (f.length + g.length) fun n => cvs f g f.length n)
theorem co_tmP (f g : Po q) (n : Nat) : co (tmP f g) n = cvs f g f.length n := by
  unfold tmP
  rw [co_trim, co_upto]
  by_cases h : n < f.length + g.length
  · rw [if_pos h]
  · rw [if_neg h, cvs_out (Nat.le_refl _) (by omega)]
theorem tmP_eq {f g t : Po q} (h : trim t = t) (e : ∀ n, co t n = cvs f g f.length n) : t = tmP f g := canon_ext h (trim_trim _) fun n => by rw [e, co_tmP]
theorem len_of_co {t : Po q} {N : Nat} (h : trim t = t) (e : ∀ n, N ≤ n → co t n = 0) : t.length ≤ N := by
  refine Nat.le_of_not_lt fun l => ?_
  have h2 : trim (t.take N) = trim t := trim_ext fun n => by
    by_cases hn : n < N
    · unfold co
      rw [List.getD_eq_getElem?_getD, List.getD_eq_getElem?_getD, List.getElem?_take_of_lt hn]
    · rw [e n (by omega)]
      exact co_out (by rw [List.length_take]; omega)
  have h3 := trim_len (t.take N)
  rw [h2, h, List.length_take] at h3
  omega
theorem tmP_len (f g : Po q) : (tmP f g).length ≤ f.length + g.length - 1 := len_of_co (trim_trim _) fun n h => by rw [co_tmP]; exact cvs_out (Nat.le_refl _) (by omega)
theorem tmP_nil (g : Po q) : tmP [] g = [] := by
  have h : (tmP ([] : Po q) g).length ≤ 0 := len_of_co (trim_trim _) fun n _ => by rw [co_tmP]; rfl
  exact List.eq_nil_of_length_eq_zero (by omega)
/-- the second one put into the first one -/
def wi (f g : Po q) : Po q := f.foldr (fun x m => pl (tmP m g) [x]) []
theorem pl_trim1 (t : Po q) (x : El q) : pl t (trim [x]) = pl t [x] := canon_ext (pl_canon _ _) (pl_canon _ _) fun n => by rw [co_pl, co_pl, co_trim]
theorem pl1_len (t : Po q) (x : El q) : (pl t [x]).length ≤ max t.length 1 := len_of_co (pl_canon _ _) fun n h => by
  rw [co_pl, co_out (f := t) (by omega), co_out (f := [x]) (by show 1 ≤ n; omega)]
  grind
theorem wi_len (g : Po q) : ∀ f : Po q, (wi f g).length ≤ (f.length - 1) * (g.length - 1) + 1
  | [] => Nat.zero_le _
  | x :: f => by
    show (pl (tmP (wi f g) g) [x]).length ≤ _
    refine Nat.le_trans (pl1_len _ _) ?_
    cases f with
    | nil =>
      rw [show wi ([] : Po q) g = [] from rfl, tmP_nil]
      show max 0 1 ≤ _
      omega
    | cons y f =>
      have h1 := tmP_len (wi (y :: f) g) g
      have h2 := wi_len g (y :: f)
      have e : (x :: y :: f).length - 1 = ((y :: f).length - 1) + 1 := rfl
      rw [e, Nat.add_mul, Nat.one_mul]
      omega
end Fld
set_option Elab.async false
set_option linter.all false
set_option maxRecDepth 100000
set_option maxHeartbeats 4000000
set_option pp.maxSteps 1000
namespace BP
open PySem PySem.Spec PyProof.Rows L2 Fld
def spLWi (K : PySem.W.Frag) : Sp := fun vs H Q _ => ∃ (q : Nat) (_ : IsF q) (F a b : Addr) (f g : Po q), vs = [.ref F, .ref a, .ref b] ∧ FieldV H F q ∧ SqT K H a (vns f) ∧ SqT K H b (vns g) ∧ f.length ≤ 100 ∧ g.length ≤ 100 ∧ (f.length - 1) * (g.length - 1) ≤ 90 ∧ ∀ (r : Addr) (H' : Hp), Same H H' → SqT K H' r (vns (wi f g)) → Q (.ref r) H'
theorem wi_drop {q : Nat} [F : IsF q] {f g : Po q} {i : Nat} (h : i < f.length) : wi (f.drop i) g = pl (tmP (wi (f.drop (i + 1)) g) g) [co f i] := by
  have hd : f.drop i = co f i :: f.drop (i + 1) := by
    rw [List.drop_eq_getElem_cons h]
    congr 1
    unfold co
    rw [List.getD_eq_getElem?_getD, List.getElem?_eq_getElem h]
    rfl
  rw [hd]
  rfl
theorem wi_small {q : Nat} [F : IsF q] {f g : Po q} (h : (f.length - 1) * (g.length - 1) ≤ 90) (i : Nat) : (wi (f.drop i) g).length ≤ 91 := by
  refine Nat.le_trans (wi_len g (f.drop i)) (Nat.succ_le_succ (Nat.le_trans (Nat.mul_le_mul_right _ ?_) h))
  rw [List.length_drop]
  omega
end BP
namespace K13
open PySem PySem.Spec PyProof.Rows L2 BP Fld
section
variable {P : Program} {w : World} {K : PySem.W.Frag} {mg : Str → Option Value} {base : Heap}
theorem ok_within {f fAD fMU : Addr} {fd fdAD fdMU : FuncData} (F : Fun K "_law_within" "_law_within" sLWithin f fd) (ADD : BP.Can P w K mg base "_law_added" 2 pLAdded (spLAdd K) fAD fdAD) (MUL : BP.Can P w K mg base "_law_multiplied" 2 pLMultiplied (spLMul K) fMU fdMU) : FnOk P w K mg base CX0 3 f fd pLWithin (spLWi K) := by
  refine F.ok scLWithin (fun vs H Q E h => ?_) (fun cdv A outer s H vs Q E hr h => ?_)
  · obtain ⟨q, _, F, a, b, l, g, rfl, _⟩ := h
    rfl
  · obtain ⟨q, FF, F, a, b, l, g, rfl, hF, ha, hb, la, lb, lab, want⟩ := h
    refine ⟨_, (pss_cons (ps_set (i := 3) scLWithin.nd rfl (.inl rfl) (pe_tup pa_nil))
      (pss_cons (ps_for PassesOwn.never rfl (pi_tup (pe_revT (pv 1))) (pg_name (i := 4) scLWithin.nd rfl (.inl rfl)) (pss_one (ps_set (i := 3) scLWithin.nd rfl (.inl rfl) (pe_call ADD.ok (hr.mono (show 2 ≤ 2 by decide)) (by rfl) ADD.g ADD.kp ADD.b .nil pass0 (pa_cons (pv 0) (pa_cons (pe_call MUL.ok (hr.mono (show 2 ≤ 2 by decide)) (by rfl) MUL.g MUL.kp MUL.b .nil pass0 (pa_cons (pv 0) (pa_cons (pv 3) (pa_cons (pv 2) pa_nil)))) (pa_cons (pe_tup (pa_cons (pv 4) pa_nil)) pa_nil)))))))
      (pss_one (ps_ret (pv 3))))), ?_⟩
    refine ⟨Nat.zero_le _, fun T nT => ?_⟩
    have sT := same_new (o := .tup []) nT
    show Ends.nx _ [some (.ref F), some (.ref a), some (.ref b), some (.ref T), none] (upd H T (.tup []))
    dsimp only []
    refine ⟨.ref a, rfl, a, vns l, rfl, BP.Same.tupS sT ha, fun R nR => ?_⟩
    have sR := same_new (o := .tup (vns l).reverse) nR
    have lr : (vns l).reverse.length = l.length := by
      rw [List.length_reverse]
      exact List.length_map ..
    refine ⟨R, rfl, ⟨_, .inl (.inl upd_same)⟩, for_tup (xs := (vns l).reverse) (fun i σ H' => Same H H' ∧ H' R = some (.tup (vns l).reverse) ∧ ∃ (m : Addr) (y4 : Option V), SqT K H' m (vns (wi (l.drop (l.length - i)) g)) ∧ σ = [some (.ref F), some (.ref a), some (.ref b), some (.ref m), y4]) ⟨sT.trans sR, upd_same, T, none, ?_, rfl⟩ (fun i σ H' _ hW => .inl (.inl hW.2.1)) (fun i x σ H' hx hW => ?_) (fun σ H' hW => ?_)⟩
    · rw [Nat.sub_zero, List.drop_length]
      exact .inl (.inl (sR _ _ upd_same))
    · obtain ⟨s1, hR, m, y4, hm, rfl⟩ := hW
      have hi : i < l.length := by
        have := (List.getElem?_eq_some_iff.mp hx).1
        rw [lr] at this
        exact this
      have ej : l.length - 1 - i < l.length := by omega
      have ex : x = vn (co l (l.length - 1 - i)) := by
        rw [List.getElem?_reverse (by rw [show (vns l).length = l.length from List.length_map ..]; exact hi), show (vns l).length = l.length from List.length_map .., vns_get ej] at hx
        exact (Option.some.inj hx).symm
      subst ex
      have e1 : l.length - (i + 1) = l.length - 1 - i := by omega
      have e2 : l.length - 1 - i + 1 = l.length - i := by omega
      have wd := wi_drop (g := g) ej
      rw [e2] at wd
      have ws := wi_small (f := l) lab (l.length - i)
      refine ⟨.ref F, rfl, .ref F, rfl, .ref m, rfl, .ref b, rfl, q, FF, F, m, b, wi (l.drop (l.length - i)) g, g, rfl, hF.same s1, hm, BP.Same.tupS s1 hb, by omega, lb, fun t r H2 ht lt ct s2 h2 => ?_⟩
      refine ⟨vn (co l (l.length - 1 - i)), rfl, (by show 1 ≤ sizeLine; decide), fun T2 nT2 => ?_⟩
      have sT2 := same_new (o := .tup [vn (co l (l.length - 1 - i))]) nT2
      have et := tmP_eq ht ct
      refine ⟨q, FF, F, r, T2, t, [co l (l.length - 1 - i)], rfl, hF.same (s1.trans (s2.trans sT2)), BP.Same.tupS sT2 h2, .inl (.inl upd_same), by omega, (by show 1 ≤ 200; decide), fun r2 H3 s3 h3 => ?_⟩
      have sA := s2.trans (sT2.trans s3)
      refine ⟨s1.trans sA, sA _ _ hR, r2, _, ?_, rfl⟩
      rw [e1, wd, ← et]
      exact h3
    · obtain ⟨s1, hR, m, y4, hm, rfl⟩ := hW
      rw [lr, Nat.sub_self, List.drop_zero] at hm
      exact ⟨.ref m, rfl, want m H' s1 hm⟩
end
end K13
set_option Elab.async false
set_option linter.all false
set_option maxRecDepth 100000
set_option maxHeartbeats 4000000
set_option pp.maxSteps 1000
namespace BP
open PySem PySem.Spec PyProof.Rows L2 Fld
def spPut (K : PySem.W.Frag) : Sp := fun vs H Q _ => ∃ (q : Nat) (_ : IsF q) (a b : Addr) (f g : Po q), vs = [.int q, .ref a, .ref b] ∧ SqT K H a (vns f) ∧ SqT K H b (vns g) ∧ f.length ≤ 41 ∧ g.length ≤ 41 ∧ (f.length - 1) * (g.length - 1) ≤ 40 ∧ ∀ (r : Addr) (H' : Hp), Same H H' → SqT K H' r (vns (wi f g)) → Q (.ref r) H'
theorem wi_small2 {q : Nat} [F : IsF q] {f g : Po q} (h : (f.length - 1) * (g.length - 1) ≤ 40) (i : Nat) : (wi (f.drop i) g).length ≤ 41 := by
  refine Nat.le_trans (wi_len g (f.drop i)) (Nat.succ_le_succ (Nat.le_trans (Nat.mul_le_mul_right _ ?_) h))
  rw [List.length_drop]
  omega
end BP
namespace K13
open PySem PySem.Spec PyProof.Rows L2 BP Fld
section
variable {P : Program} {w : World} {K : PySem.W.Frag} {mg : Str → Option Value} {base : Heap}
theorem ok_one_putW {f fP fM fT : Addr} {fd fdP fdM fdT : FuncData} (F : Fun K "one_put" "one_put" sOnePut f fd) (OP : BP.Can P w K mg base "one_plus" 3 pOnePlus (spPl K) fP fdP) (OT : BP.Can P w K mg base "one_times" 2 pOneTimes (spTm K) fM fdM) (TR : Trimmed P w K mg base fT fdT) (m_reversed : mg "reversed" = none) : FnOk P w K mg base CX0 4 f fd pOnePut (spPut K) := by
  refine F.ok scOnePut (fun vs H Q E h => ?_) (fun cdv A outer s H vs Q E hr h => ?_)
  · obtain ⟨q, _, a, b, l, g, rfl, _⟩ := h
    rfl
  · obtain ⟨q, FF, a, b, l, g, rfl, ha, hb, la, lb, lab, want⟩ := h
    have hr1 := hr.mono (show 1 ≤ 3 by decide)
    have hr2 := hr.mono (show 2 ≤ 3 by decide)
    refine ⟨_, (pss_cons (ps_set (i := 3) scOnePut.nd rfl (.inl rfl) (pe_tup pa_nil))
      (pss_cons (ps_for PassesOwn.never rfl (RT.pi_revA (by rfl) m_reversed (pv 1)) (pg_name (i := 4) scOnePut.nd rfl (.inl rfl)) (pss_one (ps_set (i := 3) scOnePut.nd rfl (.inl rfl) (pe_call OP.ok hr (by rfl) OP.g OP.kp OP.b .nil pass0 (pa_cons (pv 0) (pa_cons (pe_call OT.ok hr2 (by rfl) OT.g OT.kp OT.b .nil pass0 (pa_cons (pv 0) (pa_cons (pv 3) (pa_cons (pv 2) pa_nil)))) (pa_cons (pe_call TR.ok hr1 (by rfl) TR.g TR.kp TR.b .nil pass0 (pa_cons (pe_lst (pa_cons (pv 4) pa_nil)) pa_nil)) pa_nil)))))))
      (pss_one (ps_ret (pv 3))))), ?_⟩
    refine ⟨Nat.zero_le _, fun p0 n0 => ?_⟩
    have s0 := same_new (o := .tup []) n0
    refine ⟨.ref a, rfl, a, vns l, rfl, .inr ⟨BP.Same.tupS s0 ha, RT.for_ItvT (K := K) (a := a) (xs := vns l) (fun i σ H' => Same H H' ∧ i ≤ l.length ∧ ∃ p y4, σ = [some (.int q), some (.ref a), some (.ref b), some (.ref p), y4] ∧ SqT K H' p (vns (wi (l.drop (l.length - i)) g)))
      ⟨s0, Nat.zero_le _, p0, none, rfl, ?_⟩ (fun i σ H' hW => BP.Same.tupS hW.1 ha) (fun i x σ H' hi hx hW => ?_) (fun σ H' hW => ?_)⟩⟩
    · rw [Nat.sub_zero, List.drop_length]
      exact .inl (.inl upd_same)
    · obtain ⟨s1, hi', p, y4, rfl, hp⟩ := hW
      rw [List.length_map] at hi hx
      obtain ⟨hk, rfl⟩ := of_vns hx
      have e1 : l.length - (i + 1) = l.length - 1 - i := by omega
      have e2 : l.length - 1 - i + 1 = l.length - i := by omega
      have wd := wi_drop (g := g) hk
      rw [e2] at wd
      have ws := wi_small2 (f := l) lab (l.length - i)
      refine ⟨.int q, rfl, .int q, rfl, .ref p, rfl, .ref b, rfl, q, FF, p, b, wi (l.drop (l.length - i)) g, g, rfl, hp, BP.Same.tupS s1 hb, by omega, by omega, fun t pt H2 ct lt ht s2 nt hpt => ?_⟩
      refine ⟨vn (co l (l.length - 1 - i)), rfl, (by show 1 ≤ sizeLine; decide), fun pl2 npl => ?_⟩
      have s3 := same_new (o := .lst [vn (co l (l.length - 1 - i))]) npl
      refine ⟨q, FF, pl2, [co l (l.length - 1 - i)], rfl, .inl (.inl upd_same), (by show 1 ≤ 200; decide), fun pu H3 s4 nu hpu => ?_⟩
      have hpt3 := s4 _ _ (s3 _ _ hpt)
      have lt2 : (trim [co l (l.length - 1 - i)]).length ≤ 1 := trim_len _
      have et := tmP_eq ct ht
      refine ⟨q, FF, pt, pu, t, trim [co l (l.length - 1 - i)], rfl, .inl (.inl hpt3), .inl (.inl hpu), by omega, by omega, fun r H4 s5 nr hr4 => ?_⟩
      have sAll := s1.trans (s2.trans (s3.trans (s4.trans s5)))
      refine ⟨sAll, by omega, r, _, rfl, .inl (.inl ?_)⟩
      rw [hr4, e1, wd, pl_trim1, et]
    · obtain ⟨s1, hi', p, y4, rfl, hp⟩ := hW
      have e0 : l.drop (l.length - (vns l).length) = l := by
        rw [List.length_map, Nat.sub_self, List.drop_zero]
      rw [e0] at hp
      exact ⟨_, rfl, want p H' s1 hp⟩
end
end K13
set_option Elab.async false
set_option linter.all false
set_option maxRecDepth 100000
set_option maxHeartbeats 4000000
set_option pp.maxSteps 1000
namespace Fld
variable {q : Nat} [F : IsF q]
/-- the sum of the first n of some numbers -/
def sm (φ : Nat → El q) : Nat → El q
  | 0 => 0
  | n + 1 => sm φ n + φ n
theorem sm_congr {φ ψ : Nat → El q} : ∀ {n : Nat}, (∀ i, i < n → φ i = ψ i) → sm φ n = sm ψ n
  | 0, _ => rfl
  | n + 1, h => by
    show sm φ n + φ n = sm ψ n + ψ n
    rw [sm_congr fun i hi => h i (by omega), h n (by omega)]
theorem sm_front (φ : Nat → El q) : ∀ n : Nat, sm φ (n + 1) = φ 0 + sm (fun i => φ (i + 1)) n
  | 0 => by
    show 0 + φ 0 = φ 0 + 0
    grind
  | n + 1 => by
    have h := sm_front φ n
    show sm φ (n + 1) + φ (n + 1) = φ 0 + (sm (fun i => φ (i + 1)) n + φ (n + 1))
    rw [h]
    grind
theorem sm_rev (φ : Nat → El q) : ∀ n : Nat, sm φ n = sm (fun i => φ (n - 1 - i)) n
  | 0 => rfl
  | n + 1 => by
    have h := sm_rev φ n
    rw [sm_front (fun i => φ (n + 1 - 1 - i)) n]
    show sm φ n + φ n = φ (n + 1 - 1 - 0) + _
    rw [h, show n + 1 - 1 - 0 = n by omega, sm_congr (ψ := fun i => φ (n + 1 - 1 - (i + 1))) fun i hi => by
      show φ (n - 1 - i) = φ (n + 1 - 1 - (i + 1))
      congr 1
      omega]
    grind
theorem sm_zero {φ : Nat → El q} {m : Nat} : ∀ {n : Nat}, m ≤ n → (∀ i, m ≤ i → i < n → φ i = 0) → sm φ n = sm φ m
  | 0, h, _ => by
    obtain rfl : m = 0 := by omega
    rfl
  | n + 1, h, z => by
    by_cases e : m = n + 1
    · subst e
      rfl
    · show sm φ n + φ n = _
      rw [sm_zero (by omega) fun i h1 h2 => z i h1 (by omega), z n (by omega) (by omega)]
      grind
theorem cvs_sm (f g : Po q) (n : Nat) : ∀ k : Nat, cvs f g k n = sm (fun i => if i ≤ n then co f i * co g (n - i) else 0) k
  | 0 => rfl
  | k + 1 => by
    show cvs f g k n + _ = sm _ k + _
    rw [cvs_sm f g n k]
theorem cvs_full (f g : Po q) (n : Nat) : cvs f g f.length n = sm (fun i => if i ≤ n then co f i * co g (n - i) else 0) (n + 1) := by
  rw [cvs_sm]
  by_cases h : f.length ≤ n + 1
  · refine (sm_zero h fun i h1 h2 => ?_).symm
    rw [if_pos (by omega), co_out (f := f) h1]
    grind
  · refine sm_zero (by omega) fun i h1 h2 => ?_
    rw [if_neg (by omega)]
theorem cvs_comm (f g : Po q) (n : Nat) : cvs f g f.length n = cvs g f g.length n := by
  rw [cvs_full, cvs_full, sm_rev]
  refine sm_congr fun i hi => ?_
  have e : n + 1 - 1 - i = n - i := by omega
  rw [e, if_pos (by omega), if_pos (by omega), show n - (n - i) = i by omega]
  grind
theorem tmP_comm (f g : Po q) : tmP f g = tmP g f := canon_ext (trim_trim _) (trim_trim _) fun n => by rw [co_tmP, co_tmP, cvs_comm]
end Fld
set_option Elab.async false
set_option linter.all false
set_option maxRecDepth 100000
set_option maxHeartbeats 4000000
set_option pp.maxSteps 1000
namespace BP
open PySem PySem.Spec PyProof.Rows L2 Fld
section
variable {q : Nat} [FF : IsF q] {K : PySem.W.Frag} {σ : L2.St} {H : Hp}
def poD (f : Po q) : PyData := .tuple (f.map fun x => PyData.int (x.val : Nat))
theorem dpAll_po : ∀ f : Po q, DpAll K H (vns f) (f.map fun x => PyData.int (x.val : Nat))
  | [] => .nil
  | x :: f => .cons (.int _) (dpAll_po f)
theorem dp_po {a : Addr} {f : Po q} (h : SqT K H a (vns f)) : Dp K H (.ref a) (poD f) := .tup h (dpAll_po f)
theorem el32 (x : El q) : ((x.val : Nat) : Int).natAbs < 32 := by
  have h1 := x.lt
  have h2 := le16 FF.mem
  omega
theorem sm_els : ∀ f : Po q, SmAll (f.map fun (x : El q) => PyData.int (x.val : Nat)) (7 * f.length) 0
  | [] => .nil
  | x :: f => (SmAll.cons (Sm.int (el32 x)) (sm_els f)).more (by rw [List.length_cons]; omega) (Nat.le_refl _)
theorem sm_poD (f : Po q) : Sm (poD f) (7 * f.length) 1 := Sm.tup (sm_els f)
theorem sm_pair {f g : Po q} (lf : f.length ≤ 200) (lg : g.length ≤ 200) : Sm (.tuple [poD f, poD g]) 4000 2 :=
  (Sm.tup (SmAll.cons (sm_poD f) (SmAll.cons (sm_poD g) (SmAll.nil (w := 0) (k := 1))))).more (by omega) (Nat.le_refl _)
theorem tl_var {i : Nat} {a : Addr} {xs : List V} (h : σ[i]? = some (some (.ref a))) (ha : SqT K H a xs) : Tl K (tVar i) σ H xs := fun _ k => ⟨.ref a, h, k a H Same.rf ha⟩
/-- repr((A, B)) != repr((C, D)) where both pairs are one -/
theorem ask_pair {A B C D : TE} {f g : Po q} (hA : Tl K A σ H (vns f)) (hB : ∀ H', Same H H' → Tl K B σ H' (vns g)) (hC : ∀ H', Same H H' → Tl K C σ H' (vns f)) (hD : ∀ H', Same H H' → Tl K D σ H' (vns g)) (lf : f.length ≤ 200) (lg : g.length ≤ 200)
    {Q : Bool → Hp → Prop} (kk : ∀ H', Same H H' → Q false H') : tTest (tOp rNe (tCB (rRepr K) (tCons (tTup (tCons A (tCons B tNil))) tNil)) (tCB (rRepr K) (tCons (tTup (tCons C (tCons D tNil))) tNil))) σ H Q := by
  refine hA _ fun a H1 s1 h1 => hB H1 s1 _ fun b H2 s2 h2 => ⟨(by show 2 ≤ sizeLine; decide), fun T nT => ?_⟩
  have sT := same_new (o := .tup [.ref a, .ref b]) nT
  dsimp only [tNil]
  refine rRepr_of (.tup (.inl (.inl upd_same)) (.cons (dp_po (BP.Same.tupS (s2.trans sT) h1)) (.cons (dp_po (BP.Same.tupS sT h2)) .nil))) (sm_pair lf lg) (by decide) (by decide) ?_
  have s3 := s1.trans (s2.trans sT)
  refine hC _ s3 _ fun c H3 s4 h3 => hD H3 (s3.trans s4) _ fun d H4 s5 h4 => ⟨(by show 2 ≤ sizeLine; decide), fun U nU => ?_⟩
  have sU := same_new (o := .tup [.ref c, .ref d]) nU
  dsimp only [tNil]
  refine rRepr_of (.tup (.inl (.inl upd_same)) (.cons (dp_po (BP.Same.tupS (s5.trans sU) h3)) (.cons (dp_po (BP.Same.tupS sU h4)) .nil))) (sm_pair lf lg) (by decide) (by decide) ⟨rfl, _, rfl, ?_⟩
  rw [decide_eq_true rfl]
  exact kk _ (s3.trans (s4.trans (s5.trans sU)))
theorem ifs_pair {A B C D : TE} {f g : Po q} {E : Ends} (hA : Tl K A σ H (vns f)) (hB : ∀ H', Same H H' → Tl K B σ H' (vns g)) (hC : ∀ H', Same H H' → Tl K C σ H' (vns f)) (hD : ∀ H', Same H H' → Tl K D σ H' (vns g)) (lf : f.length ≤ 200) (lg : g.length ≤ 200)
    (kk : ∀ H', Same H H' → E.nx σ H') : tIfS (tTest (tOp rNe (tCB (rRepr K) (tCons (tTup (tCons A (tCons B tNil))) tNil)) (tCB (rRepr K) (tCons (tTup (tCons C (tCons D tNil))) tNil)))) (tRet (tC (V.bl false))) tNext E σ H :=
  ask_pair hA hB hC hD lf lg fun H' s => iteF (kk H' s)
theorem seq_pair {A B C D : TE} {f g : Po q} {rest : TS} {E : Ends} (hA : Tl K A σ H (vns f)) (hB : ∀ H', Same H H' → Tl K B σ H' (vns g)) (hC : ∀ H', Same H H' → Tl K C σ H' (vns f)) (hD : ∀ H', Same H H' → Tl K D σ H' (vns g)) (lf : f.length ≤ 200) (lg : g.length ≤ 200)
    (kk : ∀ H', Same H H' → rest E σ H') : tSeq (tIfS (tTest (tOp rNe (tCB (rRepr K) (tCons (tTup (tCons A (tCons B tNil))) tNil)) (tCB (rRepr K) (tCons (tTup (tCons C (tCons D tNil))) tNil)))) (tRet (tC (V.bl false))) tNext) rest E σ H :=
  ask_pair hA hB hC hD lf lg fun H' s => iteF (kk H' s)
end
end BP
set_option Elab.async false
set_option linter.all false
set_option maxRecDepth 100000
set_option maxHeartbeats 4000000
set_option pp.maxSteps 1000
namespace BP
open PySem PySem.Spec PyProof.Rows L2 Fld
theorem tSeq_by {t rest : TS} {D : Ends} {σ : L2.St} {H : Hp} (I : L2.St → Hp → Prop) (k : ∀ σ' H', I σ' H' → rest D σ' H') (h : ∀ nx : L2.St → Hp → Prop, (∀ σ' H', I σ' H' → nx σ' H') → t { D with nx := nx } σ H) : tSeq t rest D σ H := h _ k
theorem seq_for_by {K : PySem.W.Frag} {te : TE} {g : TG} {tb rest : TS} {D : Ends} {σ : L2.St} {H : Hp} (P : Addr → Hp → Prop) (h : ∀ Q : VK, (∀ L H', P L H' → Q (.ref L) H') → te σ H Q) (k : ∀ L H', P L H' → (∃ xs, SqL K H' L xs) ∧ tFor (fun _ H R => R (Itl K L) H) g tb { D with nx := rest D } σ H') : tSeq (tFor (iList K te) g tb) rest D σ H :=
  h _ fun L H' p => ⟨L, rfl, (k L H' p).1, (k L H' p).2⟩
theorem rg_po {q : Nat} [F : IsF q] : ∀ n : Nat, n ≤ q → ∃ l : Po q, vns l = (List.range n).map fun i => V.int (0 + ((i : Nat) : Int))
  | 0, _ => ⟨[], rfl⟩
  | n + 1, h => by
    obtain ⟨l, hl⟩ := rg_po (q := q) n (by omega)
    refine ⟨l ++ [⟨n, by omega⟩], ?_⟩
    rw [List.range_succ, List.map_append, ← hl]
    unfold vns
    rw [List.map_append]
    show _ ++ [V.int ((n : Nat) : Int)] = _ ++ [V.int (0 + ((n : Nat) : Int))]
    rw [Int.zero_add]
theorem nat_prod {m n : Nat} (h : ((m : Int) - 1) * ((n : Int) - 1) ≤ 40) : (m - 1) * (n - 1) ≤ 40 := by
  cases m with
  | zero => rw [Nat.zero_sub, Nat.zero_mul]; exact Nat.zero_le _
  | succ m =>
    cases n with
    | zero => rw [Nat.zero_sub, Nat.mul_zero]; exact Nat.zero_le _
    | succ n =>
      rw [show ((m + 1 : Nat) : Int) - 1 = (m : Int) by omega, show ((n + 1 : Nat) : Int) - 1 = (n : Int) by omega, ← Int.natCast_mul] at h
      show m * n ≤ 40
      omega
def spRightF (K : PySem.W.Frag) : Sp := fun vs H Q _ => ∃ (q : Nat) (_ : IsF q) (d c F a b : Addr) (f g : Po q), vs = [.ref d, .ref F, .ref a, .ref b] ∧ Deck H d c ∧ FieldAt d c H F q ∧ SqT K H a (vns f) ∧ SqT K H b (vns g) ∧ f.length ≤ 41 ∧ g.length ≤ 41 ∧ ∀ H', But d c H H' → Deck H' d c → Q (.bl true) H'
end BP
namespace K13
open PySem PySem.Spec PyProof.Rows L2 BP Fld
section
variable {P : Program} {w : World} {K : PySem.W.Frag} {mg : Str → Option Value} {base : Heap}
theorem ok_right {f fDR fADD fMUL fWI fVAL fOP1 fOT fOPUT fOV : Addr} {fd fdDR fdADD fdMUL fdWI fdVAL fdOP1 fdOT fdOPUT fdOV : FuncData} (F : Fun K "_law_is_right" "_law_is_right" sLIsRight f fd) (DR : BP.Can P w K mg base "_law_draw" 1 pLDraw spDraw fDR fdDR) (ADD : BP.Can P w K mg base "_law_added" 2 pLAdded (spLAdd K) fADD fdADD) (MUL : BP.Can P w K mg base "_law_multiplied" 2 pLMultiplied (spLMul K) fMUL fdMUL) (WI : BP.Can P w K mg base "_law_within" 3 pLWithin (spLWi K) fWI fdWI) (VAL : BP.Can P w K mg base "_law_value" 1 pLValue (spLVal K) fVAL fdVAL) (OP1 : BP.Can P w K mg base "one_plus" 3 pOnePlus (spPl K) fOP1 fdOP1) (OT : BP.Can P w K mg base "one_times" 2 pOneTimes (spTm K) fOT fdOT) (OPUT : BP.Can P w K mg base "one_put" 4 pOnePut (spPut K) fOPUT fdOPUT) (OV : BP.Can P w K mg base "one_value" 2 pOneValue (spEv K) fOV fdOV) (kb_OP1 : KBinds K fdOP1 pOnePlus ["g", "f", "q"] rv3 rv3) (kb_OT : KBinds K fdOT pOneTimes ["g", "q", "f"] sw3 sw3) (kb_OPUT : KBinds K fdOPUT pOnePut ["g", "f", "q"] rv3 rv3) (kb_OV : KBinds K fdOV pOneValue ["number", "f", "q"] rv3 rv3) (m_repr : mg "repr" = none) (m_len : mg "len" = none) (m_list : mg "list" = none) (m_range : mg "range" = none) : GFn P w K mg base 5 f fd pLIsRight (spRightF K) := by
  refine gok F scLIsRight (fun vs H Q E h => ?_) (fun cdv A outer s H vs Q E hgd hr h => ?_)
  · obtain ⟨q, _, d, c, F, a, b, f, g, rfl, _⟩ := h
    rfl
  · obtain ⟨q, FF, d, c, F, a, b, f, g, rfl, hk, hF, ha, hb, lf, lg, want⟩ := h
    have q16 := le16 FF.mem
    have q1 := gt1 FF.mem
    have hu := hu_of hr
    have lvf : (vns f).length = f.length := List.length_map ..
    have lvg : (vns g).length = g.length := List.length_map ..
    refine ⟨_, (pss_cons (ps_set (i := 4) scLIsRight.nd rfl (.inr rfl) (pe_dget hu (pv 1) pe_str (fun _ _ => rfl)))
      (pss_cons (ps_set (i := 5) scLIsRight.nd rfl (.inl rfl) (pe_call ADD.ok (hr.mono (show 2 ≤ 4 by decide)) (by rfl) ADD.g ADD.kp ADD.b .nil pass0 (pa_cons (pv 1) (pa_cons (pv 2) (pa_cons (pv 3) pa_nil)))))
      (pss_cons (ps_if (pt_cmpR op_ne (pe_callB (call_repr_data hgd hr.units) (by rfl) m_repr (by decide +kernel) (pa_cons (pe_tup (pa_cons (pe_call OP1.ok (hr.mono (show 3 ≤ 4 by decide)) (by rfl) OP1.g OP1.kp OP1.b .nil pass0 (pa_cons (pv 4) (pa_cons (pv 2) (pa_cons (pv 3) pa_nil)))) (pa_cons (pe_callK0 OP1.ok (hr.mono (show 3 ≤ 4 by decide)) (by rfl) OP1.g OP1.kp kb_OP1 pass0 (pk_cons (pv 2) (pk_cons (pv 3) (pk_cons (pv 4) pk_nil)))) pa_nil))) pa_nil)) (pe_callB (call_repr_data hgd hr.units) (by rfl) m_repr (by decide +kernel) (pa_cons (pe_tup (pa_cons (pv 5) (pa_cons (pv 5) pa_nil))) pa_nil)) (nomark _)) (pss_one (ps_ret pe_bl)) pss_nil)
      (pss_cons (ps_if (pt_cmpR op_le (pe_op op_add (pe_callB call_len_seq (by rfl) m_len PySem.boot_len (pa_cons (pv 2) pa_nil)) (pe_callB call_len_seq (by rfl) m_len PySem.boot_len (pa_cons (pv 3) pa_nil))) pe_int (nomark _)) (pss_cons (ps_set (i := 5) scLIsRight.nd rfl (.inl rfl) (pe_call MUL.ok (hr.mono (show 2 ≤ 4 by decide)) (by rfl) MUL.g MUL.kp MUL.b .nil pass0 (pa_cons (pv 1) (pa_cons (pv 2) (pa_cons (pv 3) pa_nil)))))
        (pss_one (ps_if (pt_cmpR op_ne (pe_callB (call_repr_data hgd hr.units) (by rfl) m_repr (by decide +kernel) (pa_cons (pe_tup (pa_cons (pe_call OT.ok (hr.mono (show 2 ≤ 4 by decide)) (by rfl) OT.g OT.kp OT.b .nil pass0 (pa_cons (pv 4) (pa_cons (pv 2) (pa_cons (pv 3) pa_nil)))) (pa_cons (pe_callK0 OT.ok (hr.mono (show 2 ≤ 4 by decide)) (by rfl) OT.g OT.kp kb_OT pass0 (pk_cons (pv 2) (pk_cons (pv 4) (pk_cons (pv 3) pk_nil)))) pa_nil))) pa_nil)) (pe_callB (call_repr_data hgd hr.units) (by rfl) m_repr (by decide +kernel) (pa_cons (pe_tup (pa_cons (pv 5) (pa_cons (pv 5) pa_nil))) pa_nil)) (nomark _)) (pss_one (ps_ret pe_bl)) pss_nil))) pss_nil)
      (pss_cons (ps_if (pt_cmpR op_le (pe_op op_mul (pe_op op_sub (pe_callB call_len_seq (by rfl) m_len PySem.boot_len (pa_cons (pv 2) pa_nil)) pe_int) (pe_op op_sub (pe_callB call_len_seq (by rfl) m_len PySem.boot_len (pa_cons (pv 3) pa_nil)) pe_int)) pe_int (nomark _)) (pss_cons (ps_par (i := 5) (j := 6) (by rfl) scLIsRight.nd rfl rfl (by decide) rfl rfl (pa_cons (pe_call WI.ok (hr.mono (show 3 ≤ 4 by decide)) (by rfl) WI.g WI.kp WI.b .nil pass0 (pa_cons (pv 1) (pa_cons (pv 2) (pa_cons (pv 3) pa_nil)))) (pa_cons (pe_call WI.ok (hr.mono (show 3 ≤ 4 by decide)) (by rfl) WI.g WI.kp WI.b .nil pass0 (pa_cons (pv 1) (pa_cons (pv 3) (pa_cons (pv 2) pa_nil)))) pa_nil)) (by rfl))
        (pss_one (ps_if (pt_cmpR op_ne (pe_callB (call_repr_data hgd hr.units) (by rfl) m_repr (by decide +kernel) (pa_cons (pe_tup (pa_cons (pe_call OPUT.ok (hr.mono (show 4 ≤ 4 by decide)) (by rfl) OPUT.g OPUT.kp OPUT.b .nil pass0 (pa_cons (pv 4) (pa_cons (pv 2) (pa_cons (pv 3) pa_nil)))) (pa_cons (pe_callK0 OPUT.ok (hr.mono (show 4 ≤ 4 by decide)) (by rfl) OPUT.g OPUT.kp kb_OPUT pass0 (pk_cons (pv 2) (pk_cons (pv 3) (pk_cons (pv 4) pk_nil)))) pa_nil))) pa_nil)) (pe_callB (call_repr_data hgd hr.units) (by rfl) m_repr (by decide +kernel) (pa_cons (pe_tup (pa_cons (pv 5) (pa_cons (pv 6) pa_nil))) pa_nil)) (nomark _)) (pss_one (ps_ret pe_bl)) pss_nil))) pss_nil)
      (pss_cons (ps_for PassesOwn.never rfl (pi_list (pe_ifExp (pt_cmpR op_le (pv 4) pe_int (nomark _)) (pe_listRg rfl rfl m_list (prg_1 rfl m_range (pv 4))) (pe_lc (own := [("_law_turn", 8)]) (g := gName 8) (tt := tYes) rfl scLIsRight.nd (pi_range1 rfl m_range (pa_cons pe_int pa_nil)) (blkOk_by (N := nLIsRight) (sc := defScope sLIsRight) (by decide +kernel)) (fun _ _ _ _ _ => (pg_name (i := 8) scLIsRight.nd rfl (.inl rfl))) (fun _ _ _ _ _ => pts_nil) (fun _ _ _ _ _ => (pe_call DR.ok (hr.mono (show 1 ≤ 4 by decide)) (by rfl) DR.g DR.kp DR.b .nil pass0 (pa_cons (pv 0) (pa_cons (pv 4) pa_nil))))))) (pg_name (i := 7) scLIsRight.nd rfl (.inl rfl)) (pss_cons (ps_set (i := 5) scLIsRight.nd rfl (.inl rfl) (pe_tup (pa_cons (pe_call VAL.ok (hr.mono (show 1 ≤ 4 by decide)) (by rfl) VAL.g VAL.kp VAL.b .nil pass0 (pa_cons (pv 1) (pa_cons (pv 2) (pa_cons (pv 7) pa_nil)))) (pa_cons (pe_call VAL.ok (hr.mono (show 1 ≤ 4 by decide)) (by rfl) VAL.g VAL.kp VAL.b .nil pass0 (pa_cons (pv 1) (pa_cons (pv 3) (pa_cons (pv 7) pa_nil)))) pa_nil))))
        (pss_one (ps_if (pt_cmpR op_ne (pe_callB (call_repr_data hgd hr.units) (by rfl) m_repr (by decide +kernel) (pa_cons (pe_tup (pa_cons (pe_call OV.ok (hr.mono (show 2 ≤ 4 by decide)) (by rfl) OV.g OV.kp OV.b .nil pass0 (pa_cons (pv 4) (pa_cons (pv 2) (pa_cons (pv 7) pa_nil)))) (pa_cons (pe_callK0 OV.ok (hr.mono (show 2 ≤ 4 by decide)) (by rfl) OV.g OV.kp kb_OV pass0 (pk_cons (pv 7) (pk_cons (pv 3) (pk_cons (pv 4) pk_nil)))) pa_nil))) pa_nil)) (pe_callB (call_repr_data hgd hr.units) (by rfl) m_repr (by decide +kernel) (pa_cons (pv 5) pa_nil)) (nomark _)) (pss_one (ps_ret pe_bl)) pss_nil))))
      (pss_one (ps_ret pe_bl)))))))), ?_⟩
    refine ⟨.ref F, rfl, hF.v.num ?_⟩
    show Ends.nx _ [some (.ref d), some (.ref F), some (.ref a), some (.ref b), some (.int q), none, none, none, none] H
    dsimp only []
    refine ⟨.ref F, rfl, .ref a, rfl, .ref b, rfl, q, FF, F, a, b, f, g, rfl, hF.v, ha, hb, by omega, by omega, fun r H1 s1 h1 => ?_⟩
    show Ends.nx _ [some (.ref d), some (.ref F), some (.ref a), some (.ref b), some (.int q), some (.ref r), none, none, none] H1
    dsimp only []
    have lpl : (pl f g).length ≤ 200 := len_of_co (pl_canon _ _) fun n h => by rw [co_pl, co_out (f := f) (by omega), co_out (f := g) (by omega)]; grind
    refine seq_pair (K := K) (f := pl f g) (g := pl f g) (fun Q k => ⟨.int q, rfl, .ref a, rfl, .ref b, rfl, q, FF, a, b, f, g, rfl, BP.Same.tupS s1 ha, BP.Same.tupS s1 hb, by omega, by omega, fun p H' s _ e => k p H' s (.inl (.inl e))⟩)
      (fun H2 s2 Q k => ⟨.ref a, rfl, .ref b, rfl, .int q, rfl, q, FF, b, a, g, f, rfl, BP.Same.tupS (s1.trans s2) hb, BP.Same.tupS (s1.trans s2) ha, by omega, by omega, fun p H' s _ e => k p H' s (.inl (.inl (by rw [pl_comm f g]; exact e)))⟩)
      (fun H2 s2 => tl_var rfl (BP.Same.tupS s2 h1)) (fun H2 s2 => tl_var rfl (BP.Same.tupS s2 h1)) lpl lpl fun H2 s2 => ?_
    have s12 := s1.trans s2
    refine tSeq_by (fun σ' H' => Same H H' ∧ ∃ y5 : Option V, σ' = [some (.ref d), some (.ref F), some (.ref a), some (.ref b), some (.int q), y5, none, none, none]) (fun σ' H3 hI => ?_) (fun nx hnx => ?_)
    · obtain ⟨s3, y5, rfl⟩ := hI
      refine tSeq_by (fun σ' H' => Same H H' ∧ ∃ y5 y6 : Option V, σ' = [some (.ref d), some (.ref F), some (.ref a), some (.ref b), some (.int q), y5, y6, none, none]) (fun σ' H4 hI => ?_) (fun nx hnx => ?_)
      · obtain ⟨s4, y5, y6, rfl⟩ := hI
        have k4 := hk.same s4
        have hF4 := hF.same s4
        refine seq_for_by (K := K) (fun L H' => But d c H4 H' ∧ Deck H' d c ∧ ∃ l : Po q, H' L = some (.lst (vns l))) (fun Q2 k2 => ?_) (fun L H5 p5 => ?_)
        · refine ⟨.int q, rfl, _, _, rfl, rfl, _, rfl, ite2 (fun _ => ?_) (fun _ => ?_)⟩
          · refine ⟨.int q, rfl, q, rfl, RgOk.of_le (by omega) (by omega) (by omega) (by omega), fun L nL => ?_⟩
            obtain ⟨l, hl⟩ := rg_po (q := q) q (Nat.le_refl q)
            have e : rgV 0 (q : Int) = vns l := by
              rw [hl]
              unfold rgV
              rw [show ((q : Int) - 0).toNat = q by omega]
            rw [e]
            have sL := same_new (o := .lst (vns l)) nL
            exact k2 L _ ⟨But.of sL, k4.same sL, l, upd_same⟩
          · refine ⟨3, rfl, by decide, by decide, fun D nD => ?_⟩
            obtain ⟨nDd, nDc⟩ := k4.new nD
            refine lc_range (lo := 0) (n := 3) (fun i H' => But d c H4 H' ∧ Deck H' d c ∧ ∃ xs : Po q, xs.length = i ∧ H' D = some (.lst (vns xs))) ⟨But.of (same_new nD), k4.same (same_new nD), [], rfl, upd_same⟩ (fun i H6 hi hW => ?_) (fun H6 hW => ?_)
            · obtain ⟨b6, k6, xs, lx, hD⟩ := hW
              refine ⟨rfl, yes_kept ⟨.ref d, rfl, .int q, rfl, d, c, q, rfl, k6, by omega, by omega, fun x H7 hx b7 k7 => ?_⟩⟩
              refine ⟨_, b7 _ _ nDd nDc hD, ?_, but_upd (b6.trans b7) nD, k7.off nDd nDc, xs ++ [⟨x, hx⟩], by rw [List.length_append, lx]; rfl, ?_⟩
              · unfold vns
                rw [List.length_map]
                exact Nat.lt_of_lt_of_le (show xs.length < 1000 by omega) (by decide)
              · rw [upd_same]
                unfold vns
                rw [List.map_append]
                rfl
            · obtain ⟨b6, k6, xs, lx, hD⟩ := hW
              exact k2 D H6 ⟨b6, k6, xs, hD⟩
        · obtain ⟨b5, k5, l, hL⟩ := p5
          have hF5 := hF4.but k4 b5
          have ha5 := sqT_but k4 b5 (BP.Same.tupS (K := K) s4 ha)
          have hb5 := sqT_but k4 b5 (BP.Same.tupS (K := K) s4 hb)
          refine ⟨⟨_, .inl (.inl hL)⟩, for_list (xs := vns l) (fun i σ H' => Same H5 H' ∧ ∃ y5 y7 : Option V, σ = [some (.ref d), some (.ref F), some (.ref a), some (.ref b), some (.int q), y5, y6, y7, none]) ⟨Same.rf, y5, none, rfl⟩ (fun i σ H' _ h => .inl (.inl (h.1 _ _ hL))) (fun i z σ H' hz hW => ?_) (fun σ H' hW => ?_)⟩
          · obtain ⟨s6, y5, y7, rfl⟩ := hW
            obtain ⟨hi, rfl⟩ := of_vns hz
            generalize co l i = x
            refine ⟨.ref F, rfl, .ref a, rfl, vn x, rfl, q, FF, F, a, f, x, rfl, hF5.v.same s6, BP.Same.tupS s6 ha5, fun H7 s7 => ⟨.ref F, rfl, .ref b, rfl, vn x, rfl, q, FF, F, b, g, x, rfl, hF5.v.same (s6.trans s7), BP.Same.tupS (s6.trans s7) hb5, fun H8 s8 => ⟨(by show 2 ≤ sizeLine; decide), fun T nT => ?_⟩⟩⟩
            have sT := same_new (o := .tup (vns [ev x f, ev x g])) nT
            have hT := upd_same (H := H8) (a := T) (o := HO.tup (vns [ev x f, ev x g]))
            show Ends.nx _ [some (.ref d), some (.ref F), some (.ref a), some (.ref b), some (.int q), some (.ref T), y6, some (vn x), none] (upd H8 T (.tup (vns [ev x f, ev x g])))
            dsimp only []
            have s9 := s6.trans (s7.trans (s8.trans sT))
            generalize upd H8 T (.tup (vns [ev x f, ev x g])) = H9 at s9 hT ⊢
            refine ⟨.int q, rfl, .ref a, rfl, vn x, rfl, q, FF, a, f, x, rfl, BP.Same.tupS s9 ha5, fun Ha sa => ⟨vn x, rfl, .ref b, rfl, .int q, rfl, q, FF, b, g, x, rfl, BP.Same.tupS (s9.trans sa) hb5, fun Hb sb => ⟨(by show 2 ≤ sizeLine; decide), fun U nU => ?_⟩⟩⟩
            have sU := same_new (o := .tup (vns [ev x f, ev x g])) nU
            dsimp only [tNil]
            refine rRepr_of (dp_po (f := [ev x f, ev x g]) (.inl (.inl upd_same))) (sm_poD _) (by decide) (by show 7 * 2 ≤ 2 ^ 20; decide) ?_
            refine ⟨.ref T, rfl, ?_⟩
            dsimp only [tNil]
            refine rRepr_of (dp_po (f := [ev x f, ev x g]) (.inl (.inl (sU _ _ (sb _ _ (sa _ _ hT)))))) (sm_poD _) (by decide) (by show 7 * 2 ≤ 2 ^ 20; decide) ⟨rfl, _, rfl, ?_⟩
            rw [decide_eq_true rfl]
            exact iteF ⟨s9.trans (sa.trans (sb.trans sU)), _, _, rfl⟩
          · obtain ⟨s6, y5, y7, rfl⟩ := hW
            exact want _ ((But.of s4).trans (b5.trans (But.of s6))) (k5.same s6)
      · have ha3 := BP.Same.tupS s3 ha
        have hb3 := BP.Same.tupS s3 hb
        refine ⟨.ref a, rfl, a, vns f, rfl, .inr ha3, _, _, rfl, rfl, .ref b, rfl, b, vns g, rfl, .inr hb3, _, _, rfl, rfl, _, _, rfl, rfl, .inl ⟨by omega, by omega⟩, _, _, rfl, rfl, _, rfl, ite2 (fun z => ?_) (fun _ => ?_)⟩
        · have lab : (f.length - 1) * (g.length - 1) ≤ 40 := by
            have z := of_decide_eq_true z
            rw [lvf, lvg] at z
            exact nat_prod z
          refine ⟨.ref F, rfl, .ref a, rfl, .ref b, rfl, q, FF, F, a, b, f, g, rfl, hF.v.same s3, ha3, hb3, by omega, by omega, by omega, fun r5 H5 s5 h5 => ⟨.ref F, rfl, .ref b, rfl, .ref a, rfl, q, FF, F, b, a, g, f, rfl, hF.v.same (s3.trans s5), BP.Same.tupS s5 hb3, BP.Same.tupS s5 ha3, by omega, by omega, by rw [Nat.mul_comm]; omega, fun r6 H6 s6 h6 => ⟨_, _, rfl, ?_⟩⟩⟩
          show Ends.nx _ [some (.ref d), some (.ref F), some (.ref a), some (.ref b), some (.int q), some (.ref r5), some (.ref r6), none, none] H6
          dsimp only []
          have s36 := s3.trans (s5.trans s6)
          have lba : (g.length - 1) * (f.length - 1) ≤ 40 := by rw [Nat.mul_comm]; exact lab
          refine ifs_pair (K := K) (f := wi f g) (g := wi g f) (fun Q k => ⟨.int q, rfl, .ref a, rfl, .ref b, rfl, q, FF, a, b, f, g, rfl, BP.Same.tupS s36 ha, BP.Same.tupS s36 hb, lf, lg, lab, k⟩)
            (fun H7 s7 Q k => ⟨.ref a, rfl, .ref b, rfl, .int q, rfl, q, FF, b, a, g, f, rfl, BP.Same.tupS (s36.trans s7) hb, BP.Same.tupS (s36.trans s7) ha, lg, lf, lba, k⟩)
            (fun H7 s7 => tl_var rfl (BP.Same.tupS (s6.trans s7) h5)) (fun H7 s7 => tl_var rfl (BP.Same.tupS s7 h6)) ?_ ?_ fun H7 s7 => hnx _ _ ⟨s36.trans s7, _, _, rfl⟩
          · have := wi_small2 lab 0
            rw [List.drop_zero] at this
            omega
          · have := wi_small2 lba 0
            rw [List.drop_zero] at this
            omega
        · exact hnx _ _ ⟨s3, _, _, rfl⟩
    · refine ⟨.ref a, rfl, a, vns f, rfl, .inr (BP.Same.tupS s12 ha), .ref b, rfl, b, vns g, rfl, .inr (BP.Same.tupS s12 hb), _, _, rfl, rfl, _, _, rfl, rfl, _, rfl, ite2 (fun z => ?_) (fun _ => ?_)⟩
      · refine ⟨.ref F, rfl, .ref a, rfl, .ref b, rfl, q, FF, F, a, b, f, g, rfl, hF.v.same s12, BP.Same.tupS s12 ha, BP.Same.tupS s12 hb, by omega, by omega, fun t r2 H3 ht lt ct s3 h3 => ?_⟩
        show Ends.nx _ [some (.ref d), some (.ref F), some (.ref a), some (.ref b), some (.int q), some (.ref r2), none, none, none] H3
        dsimp only []
        have s13 := s12.trans s3
        have et := tmP_eq ht ct
        refine ifs_pair (K := K) (f := t) (g := t) (fun Q k => ⟨.int q, rfl, .ref a, rfl, .ref b, rfl, q, FF, a, b, f, g, rfl, BP.Same.tupS s13 ha, BP.Same.tupS s13 hb, by omega, by omega, fun t' p H' ht' _ ct' s _ e => k p H' s (.inl (.inl (by rw [et, ← tmP_eq ht' ct']; exact e)))⟩)
          (fun H4 s4 Q k => ⟨.ref a, rfl, .int q, rfl, .ref b, rfl, q, FF, b, a, g, f, rfl, BP.Same.tupS (s13.trans s4) hb, BP.Same.tupS (s13.trans s4) ha, by omega, by omega, fun t' p H' ht' _ ct' s _ e => k p H' s (.inl (.inl (by rw [et, tmP_comm, ← tmP_eq ht' ct']; exact e)))⟩)
          (fun H4 s4 => tl_var rfl (BP.Same.tupS s4 h3)) (fun H4 s4 => tl_var rfl (BP.Same.tupS s4 h3)) (by omega) (by omega) fun H4 s4 => hnx _ _ ⟨s13.trans s4, _, rfl⟩
      · exact hnx _ _ ⟨s12, _, rfl⟩
end
end K13
set_option Elab.async false
set_option linter.all false
set_option maxRecDepth 100000
set_option maxHeartbeats 4000000
set_option pp.maxSteps 1000
namespace BP
open PySem PySem.Spec PyProof.Rows L2 Fld
def spLaw (K : PySem.W.Frag) : Sp := fun vs H Q _ => ∃ (a : Addr) (ns : List Int), vs = [.ref a] ∧ SqL K H a (ns.map V.int) ∧ ns.length ≤ 63 ∧ ∀ H', Q (.bl true) H'
theorem pls_vns {q : Nat} [F : IsF q] (f : Po q) : (vns f).all Pls = true := List.all_eq_true.mpr fun x hx => by
  obtain ⟨e, _, rfl⟩ := List.mem_map.mp hx
  rfl
theorem cut_drop1 (xs : List V) (n : Nat) : cutV xs (some (n : Int)) none = xs.drop n := by
  unfold cutV
  rw [HT.sIx_nat, HT.sIx_none]
  by_cases h : n ≤ xs.length
  · rw [Nat.min_eq_left h]
    exact List.take_of_length_le (by rw [List.length_drop]; exact Nat.le_refl _)
  · rw [Nat.min_eq_right (by omega), List.drop_eq_nil_of_le (Nat.le_refl _), List.drop_eq_nil_of_le (by omega)]
    exact List.take_nil
def LS (a0 d c : Addr) (σ : L2.St) (H : Hp) : Prop := Deck H d c ∧ ∃ y2 y3 y4 y5 y6 y7 y8 y9 : Option V, σ = [some (.ref a0), some (.ref d), y2, y3, y4, y5, y6, y7, y8, y9]
end BP
namespace K13
open PySem PySem.Spec PyProof.Rows L2 BP Fld
section
variable {P : Program} {w : World} {K : PySem.W.Frag} {mg : Str → Option Value} {base : Heap}
theorem ok_law {f fDK fDR fPK fLQ fFLD fLE fLTR fIR fIT : Addr} {fd fdDK fdDR fdPK fdLQ fdFLD fdLE fdLTR fdIR fdIT : FuncData} (F : Fun K "law" "law" sLaw f fd) (DK : BP.Can P w K mg base "_law_deck" 1 pLDeck (spDeck K) fDK fdDK) (DR : BP.Can P w K mg base "_law_draw" 1 pLDraw spDraw fDR fdDR) (PK : BP.Can P w K mg base "_law_pick" 2 pLPick spPick fPK fdPK)
    (LQ : BP.Can P w K mg base "_law_q" 3 pLQ spQ fLQ fdLQ) (FLD : BP.Can P w K mg base "_law_field" 2 pLField spField fFLD fdFLD) (LE : BP.Can P w K mg base "_law_letter" 2 pLLetter (spLet K) fLE fdLE) (LTR : BP.Can P w K mg base "_law_trimmed" 1 pLTrimmed (spLTr K) fLTR fdLTR)
    (IR : GFn P w K mg base 5 fIR fdIR pLIsRight (spRightF K)) (gIR : mg "_law_is_right" = some (.ref fIR)) (kIR : PySem.W.keepIn K (.ref fIR) = true) (bIR : Binds K fdIR pLIsRight [])
    (IT : GFn P w K mg base 8 fIT fdIT pLIsTold (spToldF K)) (gIT : mg "_law_is_told" = some (.ref fIT)) (kIT : PySem.W.keepIn K (.ref fIT) = true) (bIT : Binds K fdIT pLIsTold [])
    (m_range : mg "range" = none) (m_tuple : mg "tuple" = none) (m_len : mg "len" = none) : GFn P w K mg base 9 f fd pLaw (spLaw K) := by
  refine gok F scLaw (fun vs H Q E h => ?_) (fun cdv A outer s H vs Q E hgd hr h => ?_)
  · obtain ⟨a, ns, rfl, _⟩ := h
    rfl
  · obtain ⟨a0, ns, rfl, ha, hn, want⟩ := h
    have hu := hu_of hr
    refine ⟨_, (pss_cons (ps_set (i := 1) scLaw.nd rfl (.inl rfl) (pe_call DK.ok (hr.mono (show 1 ≤ 8 by decide)) (by rfl) DK.g DK.kp DK.b .nil pass0 (pa_cons (pv 0) pa_nil)))
      (pss_cons (ps_for PassesOwn.never rfl (pi_range1 rfl m_range (pa_cons pe_int pa_nil)) (pg_name (i := 2) scLaw.nd rfl (.inl rfl)) (pss_cons (ps_set (i := 3) scLaw.nd rfl (.inl rfl) (pe_call DR.ok (hr.mono (show 1 ≤ 8 by decide)) (by rfl) DR.g DR.kp DR.b .nil pass0 (pa_cons (pv 1) (pa_cons pe_int pa_nil))))
        (pss_cons (ps_set (i := 4) scLaw.nd rfl (.inr rfl) (pe_call FLD.ok (hr.mono (show 2 ≤ 8 by decide)) (by rfl) FLD.g FLD.kp FLD.b .nil pass0 (pa_cons (pe_call LQ.ok (hr.mono (show 3 ≤ 8 by decide)) (by rfl) LQ.g LQ.kp LQ.b .nil pass0 (pa_cons (pv 1) pa_nil)) pa_nil)))
        (pss_cons (ps_par (i := 5) (j := 6) (by rfl) scLaw.nd rfl rfl (by decide) rfl rfl (pa_cons (pe_dget hu (pv 4) pe_str (fun _ _ => rfl)) (pa_cons (pe_tup (pa_cons (pe_op op_sub (pe_call DR.ok (hr.mono (show 1 ≤ 8 by decide)) (by rfl) DR.g DR.kp DR.b .nil pass0 (pa_cons (pv 1) (pa_cons pe_int pa_nil))) pe_int) (pa_cons (pe_op op_sub (pe_call DR.ok (hr.mono (show 1 ≤ 8 by decide)) (by rfl) DR.g DR.kp DR.b .nil pass0 (pa_cons (pv 1) (pa_cons pe_int pa_nil))) pe_int) pa_nil))) pa_nil)) (by rfl))
        (pss_cons (ps_if (pt_cmpR op_eq (pv 3) pe_int (nomark _)) (pss_one (ps_set (i := 6) scLaw.nd rfl (.inl rfl) (pe_call PK.ok (hr.mono (show 2 ≤ 8 by decide)) (by rfl) PK.g PK.kp PK.b .nil pass0 (pa_cons (pv 1) (pa_cons (pe_lst (pa_cons (pe_tup (pa_cons pe_int (pa_cons pe_int pa_nil))) (pa_cons (pe_tup (pa_cons pe_int (pa_cons pe_int pa_nil))) (pa_cons (pe_tup (pa_cons pe_int (pa_cons pe_int pa_nil))) (pa_cons (pe_tup (pa_cons pe_int (pa_cons pe_int pa_nil))) (pa_cons (pe_tup (pa_cons pe_int (pa_cons pe_int pa_nil))) (pa_cons (pe_tup (pa_cons pe_int (pa_cons pe_int pa_nil))) (pa_cons (pe_tup (pa_cons pe_int (pa_cons pe_int pa_nil))) (pa_cons (pe_tup (pa_cons pe_int (pa_cons pe_int pa_nil))) (pa_cons (pe_tup (pa_cons pe_int (pa_cons (pe_un un_neg pe_int) pa_nil))) (pa_cons (pe_tup (pa_cons pe_int (pa_cons pe_int pa_nil))) pa_nil))))))))))) pa_nil))))) pss_nil)
        (pss_cons (ps_par (i := 7) (j := 8) (by rfl) scLaw.nd rfl rfl (by decide) rfl rfl (pa_cons (pe_call LE.ok (hr.mono (show 2 ≤ 8 by decide)) (by rfl) LE.g LE.kp LE.b .nil pass0 (pa_cons (pv 1) (pa_cons (pv 5) (pa_cons (pe_ix ix_tup (pv 6) pe_int (fun _ _ => rfl)) pa_nil)))) (pa_cons (pe_call LE.ok (hr.mono (show 2 ≤ 8 by decide)) (by rfl) LE.g LE.kp LE.b .nil pass0 (pa_cons (pv 1) (pa_cons (pv 5) (pa_cons (pe_ix ix_tup (pv 6) pe_int (fun _ _ => rfl)) pa_nil)))) pa_nil)) (by rfl))
        (pss_cons (ps_if (pt_cmpR op_eq (pe_call DR.ok (hr.mono (show 1 ≤ 8 by decide)) (by rfl) DR.g DR.kp DR.b .nil pass0 (pa_cons (pv 1) (pa_cons pe_int pa_nil))) pe_int (nomark _)) (pss_cons (ps_set (i := 8) scLaw.nd rfl (.inl rfl) (pe_tupleOf rfl m_tuple (pe_lc (own := [("_law_x", 9)]) (g := gName 9) (tt := tYes) rfl scLaw.nd (pi_tup (pv 7)) (blkOk_by (N := nLaw) (sc := defScope sLaw) (by decide +kernel)) (fun _ _ _ _ _ => (pg_name (i := 9) scLaw.nd rfl (.inl rfl))) (fun _ _ _ _ _ => pts_nil) (fun _ _ _ _ _ => (pe_ix (r := rIxL K) ix_list (pe_dget hu (pv 4) pe_str (fun _ _ => rfl)) (pv 9) (fun _ _ => rfl))))))
          (pss_one (ps_if (PW.pt (pw_and (pt_cmpR op_eq (pe_call DR.ok (hr.mono (show 1 ≤ 8 by decide)) (by rfl) DR.g DR.kp DR.b .nil pass0 (pa_cons (pv 1) (pa_cons pe_int pa_nil))) pe_int (nomark _)) (pw_and1 (pt_cmpR (op_neE (Nat.lt_of_le_of_lt (Nat.le_add_right _ 64) hr.units)) (pv 8) (pe_tup pa_nil) (nomark _))))) (pss_one (ps_set (i := 8) scLaw.nd rfl (.inl rfl) (pe_call LTR.ok (hr.mono (show 1 ≤ 8 by decide)) (by rfl) LTR.g LTR.kp LTR.b .nil pass0 (pa_cons (pe_op op_catA (pe_tup (pa_cons (pe_call DR.ok (hr.mono (show 1 ≤ 8 by decide)) (by rfl) DR.g DR.kp DR.b .nil pass0 (pa_cons (pv 1) (pa_cons (pv 5) pa_nil))) pa_nil)) (pe_slice sl_tupA (pv 8) (po_some pe_int) po_none)) pa_nil)))) pss_nil))) pss_nil)
        (pss_one (ps_if (PW.pt (pw_or (pt_not (pt_val (pe_callG IR hgd (hr.mono (show 5 ≤ 8 by decide)) (by rfl) gIR kIR bIR pass0 (pa_cons (pv 1) (pa_cons (pv 4) (pa_cons (pv 7) (pa_cons (pv 8) pa_nil))))))) (pw_or1 (pt_not (pt_val (pe_callG IT hgd (hr.mono (show 8 ≤ 8 by decide)) (by rfl) gIT kIT bIT pass0 (pa_cons (pv 1) (pa_cons (pv 5) (pa_cons (pe_ifExp (pt_cmpR op_lt (pe_callB call_len_seq (by rfl) m_len PySem.boot_len (pa_cons (pv 7) pa_nil)) pe_int (nomark _)) (pv 7) (pe_slice sl_tupA (pv 8) po_none (po_some pe_int))) pa_nil))))))))) (pss_one (ps_ret pe_bl)) pss_nil)))))))))
      (pss_one (ps_ret pe_bl)))), ?_⟩
    refine ⟨.ref a0, rfl, a0, ns, rfl, ha, hn, fun d c H1 s1 nd nc k1 => ?_⟩
    show Ends.nx _ [some (.ref a0), some (.ref d), none, none, none, none, none, none, none, none] H1
    dsimp only []
    refine ⟨6, rfl, by decide, by decide, for_range (lo := 0) (n := 6) (fun _ σ H' => LS a0 d c σ H') ⟨k1, none, none, none, none, none, none, none, none, rfl⟩ (fun i σ H' _ hW => ?_) (fun σ H0 hW => want H0)⟩
    obtain ⟨k, y2, y3, y4, y5, y6, y7, y8, y9, rfl⟩ := hW
    refine ⟨.ref d, rfl, d, c, 8, rfl, k, by decide, by decide, fun gr Ha _ ba ka => ?_⟩
    show Ends.nx _ [some (.ref a0), some (.ref d), some (.int (0 + (i : Int))), some (.int (gr : Nat)), y4, y5, y6, y7, y8, y9] Ha
    dsimp only []
    refine ⟨.ref d, rfl, d, c, rfl, ka, fun q Hb hq bb kb => ⟨q, rfl, hq, fun F Hc sc fn => ?_⟩⟩
    have FF : IsF q := ⟨hq⟩
    have q16 := le16 hq
    have q1 := gt1 hq
    have hF := fn.at kb
    have kc := kb.same sc
    show Ends.nx _ [some (.ref a0), some (.ref d), some (.int (0 + (i : Int))), some (.int (gr : Nat)), some (.ref F), y5, y6, y7, y8, y9] Hc
    dsimp only []
    refine ⟨.ref F, rfl, hF.v.num ⟨.ref d, rfl, d, c, 8, rfl, kc, by decide, by decide, fun x1 Hd hx1 bd kd => ⟨_, _, rfl, rfl, .ref d, rfl, d, c, 8, rfl, kd, by decide, by decide, fun x2 He hx2 be ke => ⟨_, _, rfl, rfl, (by show 2 ≤ sizeLine; decide), fun S nS => ⟨_, _, rfl, ?_⟩⟩⟩⟩⟩
    have sS := same_new (o := .tup [.int ((x1 : Int) - 1), .int ((x2 : Int) - 1)]) nS
    have hS := upd_same (H := He) (a := S) (o := HO.tup [V.int ((x1 : Int) - 1), V.int ((x2 : Int) - 1)])
    have kf := ke.same sS
    have hFf := ((hF.but kc bd).but kd be).same sS
    show Ends.nx _ [some (.ref a0), some (.ref d), some (.int (0 + (i : Int))), some (.int (gr : Nat)), some (.ref F), some (.int (q : Nat)), some (.ref S), y7, y8, y9] (upd He S (.tup [V.int ((x1 : Int) - 1), V.int ((x2 : Int) - 1)]))
    dsimp only []
    generalize upd He S (.tup [V.int ((x1 : Int) - 1), V.int ((x2 : Int) - 1)]) = Hf at hS kf hFf ⊢
    refine tSeq_by (fun σ' H' => But d c Hf H' ∧ Deck H' d c ∧ ∃ (S' : Addr) (h1 h2 : Nat), SqT K H' S' [.int ((h1 : Int) - 1), .int ((h2 : Int) - 1)] ∧ h1 ≤ 41 ∧ h2 ≤ 41 ∧ σ' = [some (.ref a0), some (.ref d), some (.int (0 + (i : Int))), some (.int (gr : Nat)), some (.ref F), some (.int (q : Nat)), some (.ref S'), y7, y8, y9]) (fun σ' Hg hI => ?_) (fun nx hnx => ?_)
    · obtain ⟨bg, kg, S', h1, h2, hS', l1, l2, rfl⟩ := hI
      have hFg := hFf.but kf bg
      refine ⟨.ref d, rfl, .int (q : Nat), rfl, .ref S', rfl, S', _, 0, V.int ((h1 : Int) - 1), rfl, rfl, hS', rfl, q, FF, d, c, h1, rfl, kg, l1, fun a f Hh bh kh ha lf tf => ⟨.ref d, rfl, .int (q : Nat), rfl, .ref S', rfl, S', _, 1, V.int ((h2 : Int) - 1), rfl, rfl, sqT_but kg bh hS', rfl, q, FF, d, c, h2, rfl, kh, l2, fun b g Hi bi ki hb lg tg => ⟨_, _, rfl, ?_⟩⟩⟩
      have ha1 := sqT_but kh bi ha
      have hFi := (hFg.but kg bh).but kh bi
      show Ends.nx _ [some (.ref a0), some (.ref d), some (.int (0 + (i : Int))), some (.int (gr : Nat)), some (.ref F), some (.int (q : Nat)), some (.ref S'), some (.ref a), some (.ref b), y9] Hi
      dsimp only []
      refine tSeq_by (fun σ' H' => But d c Hi H' ∧ Deck H' d c ∧ ∃ (b' : Addr) (g' : Po q), SqT K H' b' (vns g') ∧ g'.length ≤ 41 ∧ σ' = [some (.ref a0), some (.ref d), some (.int (0 + (i : Int))), some (.int (gr : Nat)), some (.ref F), some (.int (q : Nat)), some (.ref S'), some (.ref a), some (.ref b'), y9]) (fun σ' Hj hI => ?_) (fun nx hnx => ?_)
      · obtain ⟨bj, kj, b', g', hb', lg', rfl⟩ := hI
        have haj := sqT_but ki bj ha1
        have hFj := hFi.but ki bj
        refine ⟨.ref d, rfl, .ref F, rfl, .ref a, rfl, .ref b', rfl, q, FF, d, c, F, a, b', f, g', rfl, kj, hFj, haj, hb', by omega, lg', fun Hk bk kk => ⟨true, rfl, iteF ?_⟩⟩
        have hak := sqT_but kj bk haj
        have hbk := sqT_but kj bk hb'
        refine ⟨.ref d, rfl, .int (q : Nat), rfl, .ref a, rfl, a, vns f, rfl, .inr hak, _, _, rfl, rfl, _, rfl, ite2 (fun _ => ?_) (fun _ => ?_)⟩
        · exact ⟨.ref a, rfl, d, c, a, q, vns f, rfl, kk, hak, (by show ((f.map vn).length ≤ 41); rw [List.length_map]; omega), pls_vns f, fun H' b k => ⟨true, rfl, iteF ⟨k, _, _, _, _, _, _, _, _, rfl⟩⟩⟩
        · refine tl_slice (i := 8) (xs := vns g') rfl hbk po_no (hi := some 36) (fun H Q z => ⟨36, rfl, z⟩) _ fun r H2 s2 h2 => ?_
          exact ⟨d, c, r, q, _, rfl, kk.same s2, h2, Nat.le_trans (cutV_length _ _ _) (by show ((g'.map vn).length ≤ 41); rw [List.length_map]; omega), List.all_eq_true.mpr fun x hx => List.all_eq_true.mp (pls_vns g') x (cut_sub hx), fun H' b k => ⟨true, rfl, iteF ⟨k, _, _, _, _, _, _, _, _, rfl⟩⟩⟩
      · refine ⟨.ref d, rfl, d, c, 4, rfl, ki, by decide, by decide, fun x Hj _ bj kj => ⟨rfl, _, rfl, ite2 (fun _ => ?_) (fun _ => hnx _ _ ⟨bj, kj, b, g, sqT_but ki bj hb, by omega, rfl⟩)⟩⟩
        have haj := sqT_but ki bj ha1
        have hFj := hFi.but ki bj
        refine ⟨.ref a, rfl, a, rfl, ⟨_, haj⟩, fun D nD => ?_⟩
        refine lc_tup (K := K) (a := a) (xs := vns f) (fun i H' => Same Hj H' ∧ H' D = some (.lst (vns ((f.take i).map fun x => -x)))) ⟨same_new nD, upd_same⟩ (fun i H' _ hW => BP.Same.tupS hW.1 haj) (fun j x H' hx hW => ?_) (fun H' hW => ?_)
        · obtain ⟨s1', hD⟩ := hW
          obtain ⟨hj, rfl⟩ := of_vns hx
          refine ⟨rfl, yes_kept ⟨.ref F, rfl, (hFj.same s1').v.less fun ls hls => ⟨vn (co f j), rfl, celN hls (co f j) ⟨_, hD, ?_, same_upd s1' nD, ?_⟩⟩⟩⟩
          · unfold vns
            rw [List.length_map, List.length_map, List.length_take]
            exact Nat.lt_of_lt_of_le (show min j f.length < 1000 by omega) (by decide)
          · have e : f.take (j + 1) = f.take j ++ [co f j] := take_snoc (by rw [get_co hj])
            rw [upd_same, e, List.map_append]
            unfold vns
            rw [List.map_append]
            rfl
        · obtain ⟨s1', hD⟩ := hW
          have lvf : (vns f).length = f.length := List.length_map ..
          rw [lvf, List.take_length] at hD
          refine .inl ⟨D, _, rfl, .inl (.inl hD), fun T nT => ?_⟩
          have sT := s1'.trans (same_new (o := .tup (vns (f.map fun x => -x))) nT)
          have hT := upd_same (H := H') (a := T) (o := HO.tup (vns (f.map fun x => -x)))
          show Ends.nx _ [some (.ref a0), some (.ref d), some (.int (0 + (i : Int))), some (.int (gr : Nat)), some (.ref F), some (.int (q : Nat)), some (.ref S'), some (.ref a), some (.ref T), y9] (upd H' T (.tup (vns (f.map fun x => -x))))
          dsimp only []
          generalize upd H' T (.tup (vns (f.map fun x => -x))) = Hl at sT hT ⊢
          have kl := kj.same sT
          have bl := bj.trans (But.of sT)
          have lT : (f.map fun x => -x).length ≤ 41 := by rw [List.length_map]; omega
          have out : ∀ H2, But d c Hl H2 → Deck H2 d c → nx [some (.ref a0), some (.ref d), some (.int (0 + (i : Int))), some (.int (gr : Nat)), some (.ref F), some (.int (q : Nat)), some (.ref S'), some (.ref a), some (.ref T), y9] H2 := fun H2 b2 k2 => hnx _ _ ⟨bl.trans b2, k2, T, f.map fun x => -x, sqT_but kl b2 (.inl (.inl hT)), lT, rfl⟩
          refine ⟨.ref d, rfl, d, c, 2, rfl, kl, by decide, by decide, fun x2' Hm _ bm km => ⟨rfl, _, rfl, ite2 (fun _ => ?_) (fun _ => iteF (out Hm bm km))⟩⟩
          have hTm : SqT K Hm T (vns (f.map fun x => -x)) := sqT_but kl bm (.inl (.inl hT))
          refine ⟨.ref T, rfl, Nat.zero_le _, fun U nU => ?_⟩
          have sU := same_new (o := .tup []) nU
          refine ⟨T, U, _, rfl, rfl, BP.Same.tupS sU hTm, .inl (.inl upd_same), _, rfl, ite2 (fun _ => ?_) (fun _ => out _ (bm.trans (But.of sU)) (km.same sU))⟩
          have kU := km.same sU
          have hTU := BP.Same.tupS sU hTm
          have bU : But d c Hl _ := bm.trans (But.of sU)
          refine ⟨.ref d, rfl, .int (q : Nat), rfl, d, c, q, rfl, kU, by omega, by omega, fun y Hn hy bn kn => ⟨(by show 1 ≤ sizeLine; decide), fun U2 nU2 => ?_⟩⟩
          have sU2 := same_new (o := .tup [V.int (y : Nat)]) nU2
          have hTn := BP.Same.tupS sU2 (sqT_but kU bn hTU)
          refine tl_slice (i := 8) (xs := vns (f.map fun x => -x)) (lo := some 1) rfl hTn (fun H Q z => ⟨1, rfl, z⟩) po_no _ fun r Ho s8 h8 => ?_
          have ec : cutV (vns (f.map fun x => -x)) (some 1) none = vns ((f.map fun x => -x).drop 1) := by
            rw [show (some (1 : Int)) = some ((1 : Nat) : Int) from rfl, cut_drop1]
            unfold vns
            rw [List.map_drop]
          rw [ec] at h8
          have lG : (vns ((f.map fun x => -x).drop 1)).length ≤ 41 := by
            unfold vns
            rw [List.length_map, List.length_drop]
            omega
          refine catA (BP.Same.tupS s8 (.inl (.inl upd_same))) h8 (Nat.le_trans (show 1 + _ ≤ 1000 by omega) (by decide)) fun r2 Hp' s9 h9 => ?_
          have e9 : [V.int (y : Nat)] ++ vns ((f.map fun x => -x).drop 1) = vns ((⟨y, hy⟩ : El q) :: (f.map fun x => -x).drop 1) := rfl
          have h9 : SqT K Hp' r2 ([V.int (y : Nat)] ++ vns ((f.map fun x => -x).drop 1)) := h9
          rw [e9] at h9
          have l9 : ((⟨y, hy⟩ : El q) :: (f.map fun x => -x).drop 1).length ≤ 42 := by
            rw [List.length_cons, List.length_drop]
            omega
          refine ⟨q, FF, r2, _, rfl, .inr h9, by omega, fun p Hq sq hp => ?_⟩
          have sA := sU2.trans (s8.trans (s9.trans sq))
          refine hnx _ _ ⟨bl.trans (bU.trans (bn.trans (But.of sA))), kn.same sA, p, _, hp, ?_, rfl⟩
          refine Nat.le_trans (trim_len _) ?_
          rw [List.length_cons, List.length_drop, List.length_map]
          omega
    · refine ⟨.int (gr : Nat), rfl, rfl, _, rfl, ite2 (fun _ => ?_) (fun _ => hnx _ _ ⟨But.refl, kf, S, x1, x2, .inl (.inl hS), by omega, by omega, rfl⟩)⟩
      have s0 : Same Hf Hf := Same.rf
      refine ⟨.ref d, rfl, ?_⟩
      refine ⟨(by show 2 ≤ sizeLine; decide), fun T1 n1 => ?_⟩
      have t1 := same_new (o := .tup [V.int 20, V.int 20]) n1
      have e1 : (upd Hf T1 (.tup [V.int 20, V.int 20])) T1 = some (.tup [V.int 20, V.int 20]) := upd_same
      have s0 := s0.trans t1
      generalize upd Hf T1 (.tup [V.int 20, V.int 20]) = G1 at s0 e1 ⊢
      refine ⟨(by show 2 ≤ sizeLine; decide), fun T2 n2 => ?_⟩
      have t2 := same_new (o := .tup [V.int 40, V.int 0]) n2
      have e2 : (upd G1 T2 (.tup [V.int 40, V.int 0])) T2 = some (.tup [V.int 40, V.int 0]) := upd_same
      have e1 := t2 _ _ e1
      have s0 := s0.trans t2
      generalize upd G1 T2 (.tup [V.int 40, V.int 0]) = G2 at s0 e1 e2 ⊢
      refine ⟨(by show 2 ≤ sizeLine; decide), fun T3 n3 => ?_⟩
      have t3 := same_new (o := .tup [V.int 0, V.int 40]) n3
      have e3 : (upd G2 T3 (.tup [V.int 0, V.int 40])) T3 = some (.tup [V.int 0, V.int 40]) := upd_same
      have e1 := t3 _ _ e1
      have e2 := t3 _ _ e2
      have s0 := s0.trans t3
      generalize upd G2 T3 (.tup [V.int 0, V.int 40]) = G3 at s0 e1 e2 e3 ⊢
      refine ⟨(by show 2 ≤ sizeLine; decide), fun T4 n4 => ?_⟩
      have t4 := same_new (o := .tup [V.int 8, V.int 5]) n4
      have e4 : (upd G3 T4 (.tup [V.int 8, V.int 5])) T4 = some (.tup [V.int 8, V.int 5]) := upd_same
      have e1 := t4 _ _ e1
      have e2 := t4 _ _ e2
      have e3 := t4 _ _ e3
      have s0 := s0.trans t4
      generalize upd G3 T4 (.tup [V.int 8, V.int 5]) = G4 at s0 e1 e2 e3 e4 ⊢
      refine ⟨(by show 2 ≤ sizeLine; decide), fun T5 n5 => ?_⟩
      have t5 := same_new (o := .tup [V.int 5, V.int 8]) n5
      have e5 : (upd G4 T5 (.tup [V.int 5, V.int 8])) T5 = some (.tup [V.int 5, V.int 8]) := upd_same
      have e1 := t5 _ _ e1
      have e2 := t5 _ _ e2
      have e3 := t5 _ _ e3
      have e4 := t5 _ _ e4
      have s0 := s0.trans t5
      generalize upd G4 T5 (.tup [V.int 5, V.int 8]) = G5 at s0 e1 e2 e3 e4 e5 ⊢
      refine ⟨(by show 2 ≤ sizeLine; decide), fun T6 n6 => ?_⟩
      have t6 := same_new (o := .tup [V.int 40, V.int 1]) n6
      have e6 : (upd G5 T6 (.tup [V.int 40, V.int 1])) T6 = some (.tup [V.int 40, V.int 1]) := upd_same
      have e1 := t6 _ _ e1
      have e2 := t6 _ _ e2
      have e3 := t6 _ _ e3
      have e4 := t6 _ _ e4
      have e5 := t6 _ _ e5
      have s0 := s0.trans t6
      generalize upd G5 T6 (.tup [V.int 40, V.int 1]) = G6 at s0 e1 e2 e3 e4 e5 e6 ⊢
      refine ⟨(by show 2 ≤ sizeLine; decide), fun T7 n7 => ?_⟩
      have t7 := same_new (o := .tup [V.int 1, V.int 40]) n7
      have e7 : (upd G6 T7 (.tup [V.int 1, V.int 40])) T7 = some (.tup [V.int 1, V.int 40]) := upd_same
      have e1 := t7 _ _ e1
      have e2 := t7 _ _ e2
      have e3 := t7 _ _ e3
      have e4 := t7 _ _ e4
      have e5 := t7 _ _ e5
      have e6 := t7 _ _ e6
      have s0 := s0.trans t7
      generalize upd G6 T7 (.tup [V.int 1, V.int 40]) = G7 at s0 e1 e2 e3 e4 e5 e6 e7 ⊢
      refine ⟨(by show 2 ≤ sizeLine; decide), fun T8 n8 => ?_⟩
      have t8 := same_new (o := .tup [V.int 20, V.int 2]) n8
      have e8 : (upd G7 T8 (.tup [V.int 20, V.int 2])) T8 = some (.tup [V.int 20, V.int 2]) := upd_same
      have e1 := t8 _ _ e1
      have e2 := t8 _ _ e2
      have e3 := t8 _ _ e3
      have e4 := t8 _ _ e4
      have e5 := t8 _ _ e5
      have e6 := t8 _ _ e6
      have e7 := t8 _ _ e7
      have s0 := s0.trans t8
      generalize upd G7 T8 (.tup [V.int 20, V.int 2]) = G8 at s0 e1 e2 e3 e4 e5 e6 e7 e8 ⊢
      refine ⟨1, rfl, (by show 2 ≤ sizeLine; decide), fun T9 n9 => ?_⟩
      have t9 := same_new (o := .tup [V.int 40, V.int (-1)]) n9
      have e9 : (upd G8 T9 (.tup [V.int 40, V.int (-1)])) T9 = some (.tup [V.int 40, V.int (-1)]) := upd_same
      have e1 := t9 _ _ e1
      have e2 := t9 _ _ e2
      have e3 := t9 _ _ e3
      have e4 := t9 _ _ e4
      have e5 := t9 _ _ e5
      have e6 := t9 _ _ e6
      have e7 := t9 _ _ e7
      have e8 := t9 _ _ e8
      have s0 := s0.trans t9
      generalize upd G8 T9 (.tup [V.int 40, V.int (-1)]) = G9 at s0 e1 e2 e3 e4 e5 e6 e7 e8 e9 ⊢
      refine ⟨(by show 2 ≤ sizeLine; decide), fun T10 n10 => ?_⟩
      have t10 := same_new (o := .tup [V.int 39, V.int 1]) n10
      have e10 : (upd G9 T10 (.tup [V.int 39, V.int 1])) T10 = some (.tup [V.int 39, V.int 1]) := upd_same
      have e1 := t10 _ _ e1
      have e2 := t10 _ _ e2
      have e3 := t10 _ _ e3
      have e4 := t10 _ _ e4
      have e5 := t10 _ _ e5
      have e6 := t10 _ _ e6
      have e7 := t10 _ _ e7
      have e8 := t10 _ _ e8
      have e9 := t10 _ _ e9
      have s0 := s0.trans t10
      generalize upd G9 T10 (.tup [V.int 39, V.int 1]) = G10 at s0 e1 e2 e3 e4 e5 e6 e7 e8 e9 e10 ⊢
      refine ⟨(by show 10 ≤ sizeLine; decide), fun L nL => ?_⟩
      have sL := same_new (o := .lst [V.ref T1, V.ref T2, V.ref T3, V.ref T4, V.ref T5, V.ref T6, V.ref T7, V.ref T8, V.ref T9, V.ref T10]) nL
      have k10 := kf.same s0
      refine ⟨d, c, L, [V.ref T1, V.ref T2, V.ref T3, V.ref T4, V.ref T5, V.ref T6, V.ref T7, V.ref T8, V.ref T9, V.ref T10], rfl, k10.same sL, (k10.new nL).2, upd_same, (by show 0 < 10; decide), (by show 10 < 1000; decide), fun z Hz hz bz kz => ?_⟩
      have bL : But d c G10 Hz := (But.of sL).trans bz
      have bA : But d c Hf Hz := (But.of s0).trans bL
      simp only [List.mem_cons, List.not_mem_nil, or_false] at hz
      rcases hz with rfl | rfl | rfl | rfl | rfl | rfl | rfl | rfl | rfl | rfl
      · exact hnx _ _ ⟨bA, kz, T1, 21, 21, sqT_but k10 bL (.inl (.inl e1)), by decide, by decide, rfl⟩
      · exact hnx _ _ ⟨bA, kz, T2, 41, 1, sqT_but k10 bL (.inl (.inl e2)), by decide, by decide, rfl⟩
      · exact hnx _ _ ⟨bA, kz, T3, 1, 41, sqT_but k10 bL (.inl (.inl e3)), by decide, by decide, rfl⟩
      · exact hnx _ _ ⟨bA, kz, T4, 9, 6, sqT_but k10 bL (.inl (.inl e4)), by decide, by decide, rfl⟩
      · exact hnx _ _ ⟨bA, kz, T5, 6, 9, sqT_but k10 bL (.inl (.inl e5)), by decide, by decide, rfl⟩
      · exact hnx _ _ ⟨bA, kz, T6, 41, 2, sqT_but k10 bL (.inl (.inl e6)), by decide, by decide, rfl⟩
      · exact hnx _ _ ⟨bA, kz, T7, 2, 41, sqT_but k10 bL (.inl (.inl e7)), by decide, by decide, rfl⟩
      · exact hnx _ _ ⟨bA, kz, T8, 21, 3, sqT_but k10 bL (.inl (.inl e8)), by decide, by decide, rfl⟩
      · exact hnx _ _ ⟨bA, kz, T9, 41, 0, sqT_but k10 bL (.inl (.inl e9)), by decide, by decide, rfl⟩
      · exact hnx _ _ ⟨bA, kz, T10, 40, 2, sqT_but k10 bL (.inl (.inl e10)), by decide, by decide, rfl⟩
end
end K13
set_option Elab.async false
set_option linter.all false
set_option maxRecDepth 100000
set_option maxHeartbeats 8000000
set_option pp.maxSteps 3
namespace BP
open PySem PySem.Spec PyProof.Rows L2 Fld
/-- what the head must see of the class House -/
def houB (K : PySem.W.Frag) (C : Addr) : Bool := PySem.W.plainGet K C Str.empty && (PySem.W.hasDictIn K C && (PySem.W.plainOver K C && (decide (PySem.W.findIn K (.ref C) "__setattr__" = some (some (.builtin "object.__setattr__"))) && (decide (PySem.W.findIn K (.ref C) "q" = some none) && (decide (PySem.W.findIn K (.ref C) "steps" = some none) && (decide (PySem.W.findIn K (.ref C) "promised" = some none) && (decide (PySem.W.findIn K (.ref C) "past" = some none) && (decide (PySem.W.findIn K (.ref C) "future" = some none) && (decide (PySem.W.findIn K (.ref C) "__class__" = some (some (.builtin "object.__class__"))) && (decide (PySem.W.specialIn K (.builtin "object.__class__") "__get__" = some (some (.builtin "getset_descriptor.__get__"))) && (decide (PySem.W.takesIn K (.builtin "object.__class__") = some true) && (decide (PySem.W.mroIn K C (.type "object") = some true) && (decide (PySem.W.kitOne K (.ref C) (.type "int") = some false) && (decide (PySem.W.kitOne K (.ref C) (.type "tuple") = some false) && (PySem.W.makesIn K C && PySem.W.keepIn K (.ref C))))))))))))))))
theorem hou_ok {K : PySem.W.Frag} {C : Addr} (h : houB K C = true) : LH K C ∧ PySem.W.makesIn K C = true ∧ PySem.W.keepIn K (.ref C) = true ∧ PySem.W.kitOne K (.ref C) (.type "tuple") = some false := by
  unfold houB at h
  simp only [Bool.and_eq_true, decide_eq_true_eq] at h
  obtain ⟨c1, c2, c3, c4, n1, n2, n3, n4, n5, ha, hn, ht, hm, ni, nt, h1, h2⟩ := h
  exact ⟨⟨⟨c1, c2, c3, c4⟩, n1, n2, n3, n4, n5, ha, hn, ht, hm, ni⟩, h1, h2, nt⟩
end BP
namespace K13
open PySem PySem.Spec PyProof.Rows L2 BP Fld
/-! What the top has written. -/
theorem all_mk {l : PySem.W.OpenLaw} {w : World} {K : PySem.W.Frag} {h : Heap} {mg : Str → Option Value} {fa : Addr} (X : K.In h) (G : h.Ns mainGlobals mg) (hfa : mg "law" = some (.ref fa))
    {dS : Addr} (aS : PySem.W.nsIn K mainGlobals "SUMS" = some (some (.ref dS))) (tS : tabIs K dS Fld.S = true)
    {dP : Addr} (aP : PySem.W.nsIn K mainGlobals "PRODUCTS" = some (some (.ref dP))) (tP : tabIs K dP Fld.M = true)
    {CH : Addr} (aHO : PySem.W.nsIn K mainGlobals "House" = some (some (.ref CH))) (tHO : houB K CH = true)
    {f0 : Addr} {od0 an0 : Option Addr} {sl0 : Array (Option Value)} {oc0 kV0 dc0 pm0 cd0 ct0 : Value}
    {f1 : Addr} {od1 an1 : Option Addr} {sl1 : Array (Option Value)} {oc1 kV1 dc1 pm1 cd1 ct1 : Value}
    {f2 : Addr} {od2 an2 : Option Addr} {sl2 : Array (Option Value)} {oc2 kV2 dc2 pm2 cd2 ct2 : Value}
    {f3 : Addr} {od3 an3 : Option Addr} {sl3 : Array (Option Value)} {oc3 kV3 dc3 pm3 cd3 ct3 : Value}
    {f4 : Addr} {od4 an4 : Option Addr} {sl4 : Array (Option Value)} {oc4 kV4 dc4 pm4 cd4 ct4 : Value}
    {f5 : Addr} {od5 an5 : Option Addr} {sl5 : Array (Option Value)} {oc5 kV5 dc5 pm5 cd5 ct5 : Value}
    {f6 : Addr} {od6 an6 : Option Addr} {sl6 : Array (Option Value)} {oc6 kV6 dc6 pm6 cd6 ct6 : Value}
    {f7 : Addr} {od7 an7 : Option Addr} {sl7 : Array (Option Value)} {oc7 kV7 dc7 pm7 cd7 ct7 : Value}
    {f8 : Addr} {od8 an8 : Option Addr} {sl8 : Array (Option Value)} {oc8 kV8 dc8 pm8 cd8 ct8 : Value}
    {f9 : Addr} {od9 an9 : Option Addr} {sl9 : Array (Option Value)} {oc9 kV9 dc9 pm9 cd9 ct9 : Value}
    {f10 : Addr} {od10 an10 : Option Addr} {sl10 : Array (Option Value)} {oc10 kV10 dc10 pm10 cd10 ct10 : Value}
    {f11 : Addr} {od11 an11 : Option Addr} {sl11 : Array (Option Value)} {oc11 kV11 dc11 pm11 cd11 ct11 : Value}
    {f12 : Addr} {od12 an12 : Option Addr} {sl12 : Array (Option Value)} {oc12 kV12 dc12 pm12 cd12 ct12 : Value}
    {f13 : Addr} {od13 an13 : Option Addr} {sl13 : Array (Option Value)} {oc13 kV13 dc13 pm13 cd13 ct13 : Value}
    {f14 : Addr} {od14 an14 : Option Addr} {sl14 : Array (Option Value)} {oc14 kV14 dc14 pm14 cd14 ct14 : Value}
    {f15 : Addr} {od15 an15 : Option Addr} {sl15 : Array (Option Value)} {oc15 kV15 dc15 pm15 cd15 ct15 : Value}
    {f16 : Addr} {od16 an16 : Option Addr} {sl16 : Array (Option Value)} {oc16 kV16 dc16 pm16 cd16 ct16 : Value}
    {f17 : Addr} {od17 an17 : Option Addr} {sl17 : Array (Option Value)} {oc17 kV17 dc17 pm17 cd17 ct17 : Value}
    {f18 : Addr} {od18 an18 : Option Addr} {sl18 : Array (Option Value)} {oc18 kV18 dc18 pm18 cd18 ct18 : Value}
    {f19 : Addr} {od19 an19 : Option Addr} {sl19 : Array (Option Value)} {oc19 kV19 dc19 pm19 cd19 ct19 : Value}
    {f20 : Addr} {od20 an20 : Option Addr} {sl20 : Array (Option Value)} {oc20 kV20 dc20 pm20 cd20 ct20 : Value}
    {f21 : Addr} {od21 an21 : Option Addr} {sl21 : Array (Option Value)} {oc21 kV21 dc21 pm21 cd21 ct21 : Value}
    {f22 : Addr} {od22 an22 : Option Addr} {sl22 : Array (Option Value)} {oc22 kV22 dc22 pm22 cd22 ct22 : Value}
    {f23 : Addr} {od23 an23 : Option Addr} {sl23 : Array (Option Value)} {oc23 kV23 dc23 pm23 cd23 ct23 : Value}
    {f24 : Addr} {od24 an24 : Option Addr} {sl24 : Array (Option Value)} {oc24 kV24 dc24 pm24 cd24 ct24 : Value}
    {f25 : Addr} {od25 an25 : Option Addr} {sl25 : Array (Option Value)} {oc25 kV25 dc25 pm25 cd25 ct25 : Value}
    {f26 : Addr} {od26 an26 : Option Addr} {sl26 : Array (Option Value)} {oc26 kV26 dc26 pm26 cd26 ct26 : Value}
    {f27 : Addr} {od27 an27 : Option Addr} {sl27 : Array (Option Value)} {oc27 kV27 dc27 pm27 cd27 ct27 : Value}
    {f28 : Addr} {od28 an28 : Option Addr} {sl28 : Array (Option Value)} {oc28 kV28 dc28 pm28 cd28 ct28 : Value}
    {f29 : Addr} {od29 an29 : Option Addr} {sl29 : Array (Option Value)} {oc29 kV29 dc29 pm29 cd29 ct29 : Value}
    {f30 : Addr} {od30 an30 : Option Addr} {sl30 : Array (Option Value)} {oc30 kV30 dc30 pm30 cd30 ct30 : Value}
    {f31 : Addr} {od31 an31 : Option Addr} {sl31 : Array (Option Value)} {oc31 kV31 dc31 pm31 cd31 ct31 : Value}
    (a0 : PySem.W.nsIn K mainGlobals "_law_deck" = some (some (.ref f0))) (l0 : K.lookup f0 = some ⟨oc0, od0, .func (PySem.W.fnOf "_law_deck" "_law_deck" (defArgs sLDeck) (defBody sLDeck) (defScope sLDeck) .none kV0 dc0 pm0 an0 cd0 ct0), sl0⟩) (e0 : PySem.W.codeIn K cd0 "_law_deck" = true) (k0 : PySem.W.keepIn K (.ref f0) = true)
    (a1 : PySem.W.nsIn K mainGlobals "_law_draw" = some (some (.ref f1))) (l1 : K.lookup f1 = some ⟨oc1, od1, .func (PySem.W.fnOf "_law_draw" "_law_draw" (defArgs sLDraw) (defBody sLDraw) (defScope sLDraw) .none kV1 dc1 pm1 an1 cd1 ct1), sl1⟩) (e1 : PySem.W.codeIn K cd1 "_law_draw" = true) (k1 : PySem.W.keepIn K (.ref f1) = true)
    (a2 : PySem.W.nsIn K mainGlobals "_law_pick" = some (some (.ref f2))) (l2 : K.lookup f2 = some ⟨oc2, od2, .func (PySem.W.fnOf "_law_pick" "_law_pick" (defArgs sLPick) (defBody sLPick) (defScope sLPick) .none kV2 dc2 pm2 an2 cd2 ct2), sl2⟩) (e2 : PySem.W.codeIn K cd2 "_law_pick" = true) (k2 : PySem.W.keepIn K (.ref f2) = true)
    (a3 : PySem.W.nsIn K mainGlobals "_law_q" = some (some (.ref f3))) (l3 : K.lookup f3 = some ⟨oc3, od3, .func (PySem.W.fnOf "_law_q" "_law_q" (defArgs sLQ) (defBody sLQ) (defScope sLQ) .none kV3 dc3 pm3 an3 cd3 ct3), sl3⟩) (e3 : PySem.W.codeIn K cd3 "_law_q" = true) (k3 : PySem.W.keepIn K (.ref f3) = true)
    (a4 : PySem.W.nsIn K mainGlobals "_law_sum" = some (some (.ref f4))) (l4 : K.lookup f4 = some ⟨oc4, od4, .func (PySem.W.fnOf "_law_sum" "_law_sum" (defArgs sLSum) (defBody sLSum) (defScope sLSum) .none kV4 dc4 pm4 an4 cd4 ct4), sl4⟩) (e4 : PySem.W.codeIn K cd4 "_law_sum" = true) (k4 : PySem.W.keepIn K (.ref f4) = true)
    (a5 : PySem.W.nsIn K mainGlobals "_law_field" = some (some (.ref f5))) (l5 : K.lookup f5 = some ⟨oc5, od5, .func (PySem.W.fnOf "_law_field" "_law_field" (defArgs sLField) (defBody sLField) (defScope sLField) .none kV5 dc5 pm5 an5 cd5 ct5), sl5⟩) (e5 : PySem.W.codeIn K cd5 "_law_field" = true) (k5 : PySem.W.keepIn K (.ref f5) = true)
    (a6 : PySem.W.nsIn K mainGlobals "_law_letter" = some (some (.ref f6))) (l6 : K.lookup f6 = some ⟨oc6, od6, .func (PySem.W.fnOf "_law_letter" "_law_letter" (defArgs sLLetter) (defBody sLLetter) (defScope sLLetter) .none kV6 dc6 pm6 an6 cd6 ct6), sl6⟩) (e6 : PySem.W.codeIn K cd6 "_law_letter" = true) (k6 : PySem.W.keepIn K (.ref f6) = true)
    (a7 : PySem.W.nsIn K mainGlobals "_law_trimmed" = some (some (.ref f7))) (l7 : K.lookup f7 = some ⟨oc7, od7, .func (PySem.W.fnOf "_law_trimmed" "_law_trimmed" (defArgs sLTrimmed) (defBody sLTrimmed) (defScope sLTrimmed) .none kV7 dc7 pm7 an7 cd7 ct7), sl7⟩) (e7 : PySem.W.codeIn K cd7 "_law_trimmed" = true) (k7 : PySem.W.keepIn K (.ref f7) = true)
    (a8 : PySem.W.nsIn K mainGlobals "_law_added" = some (some (.ref f8))) (l8 : K.lookup f8 = some ⟨oc8, od8, .func (PySem.W.fnOf "_law_added" "_law_added" (defArgs sLAdded) (defBody sLAdded) (defScope sLAdded) .none kV8 dc8 pm8 an8 cd8 ct8), sl8⟩) (e8 : PySem.W.codeIn K cd8 "_law_added" = true) (k8 : PySem.W.keepIn K (.ref f8) = true)
    (a9 : PySem.W.nsIn K mainGlobals "_law_multiplied" = some (some (.ref f9))) (l9 : K.lookup f9 = some ⟨oc9, od9, .func (PySem.W.fnOf "_law_multiplied" "_law_multiplied" (defArgs sLMultiplied) (defBody sLMultiplied) (defScope sLMultiplied) .none kV9 dc9 pm9 an9 cd9 ct9), sl9⟩) (e9 : PySem.W.codeIn K cd9 "_law_multiplied" = true) (k9 : PySem.W.keepIn K (.ref f9) = true)
    (a10 : PySem.W.nsIn K mainGlobals "_law_within" = some (some (.ref f10))) (l10 : K.lookup f10 = some ⟨oc10, od10, .func (PySem.W.fnOf "_law_within" "_law_within" (defArgs sLWithin) (defBody sLWithin) (defScope sLWithin) .none kV10 dc10 pm10 an10 cd10 ct10), sl10⟩) (e10 : PySem.W.codeIn K cd10 "_law_within" = true) (k10 : PySem.W.keepIn K (.ref f10) = true)
    (a11 : PySem.W.nsIn K mainGlobals "_law_value" = some (some (.ref f11))) (l11 : K.lookup f11 = some ⟨oc11, od11, .func (PySem.W.fnOf "_law_value" "_law_value" (defArgs sLValue) (defBody sLValue) (defScope sLValue) .none kV11 dc11 pm11 an11 cd11 ct11), sl11⟩) (e11 : PySem.W.codeIn K cd11 "_law_value" = true) (k11 : PySem.W.keepIn K (.ref f11) = true)
    (a12 : PySem.W.nsIn K mainGlobals "plus" = some (some (.ref f12))) (l12 : K.lookup f12 = some ⟨oc12, od12, .func (PySem.W.fnOf "plus" "plus" (defArgs sPlus) (defBody sPlus) (defScope sPlus) .none kV12 dc12 pm12 an12 cd12 ct12), sl12⟩) (e12 : PySem.W.codeIn K cd12 "plus" = true) (k12 : PySem.W.keepIn K (.ref f12) = true)
    (a13 : PySem.W.nsIn K mainGlobals "trimmed" = some (some (.ref f13))) (l13 : K.lookup f13 = some ⟨oc13, od13, .func (PySem.W.fnOf "trimmed" "trimmed" (defArgs sTrimmed) (defBody sTrimmed) (defScope sTrimmed) .none kV13 dc13 pm13 an13 cd13 ct13), sl13⟩) (e13 : PySem.W.codeIn K cd13 "trimmed" = true) (k13 : PySem.W.keepIn K (.ref f13) = true)
    (a14 : PySem.W.nsIn K mainGlobals "one_plus" = some (some (.ref f14))) (l14 : K.lookup f14 = some ⟨oc14, od14, .func (PySem.W.fnOf "one_plus" "one_plus" (defArgs sOnePlus) (defBody sOnePlus) (defScope sOnePlus) .none kV14 dc14 pm14 an14 cd14 ct14), sl14⟩) (e14 : PySem.W.codeIn K cd14 "one_plus" = true) (k14 : PySem.W.keepIn K (.ref f14) = true)
    (a15 : PySem.W.nsIn K mainGlobals "times" = some (some (.ref f15))) (l15 : K.lookup f15 = some ⟨oc15, od15, .func (PySem.W.fnOf "times" "times" (defArgs sTimes) (defBody sTimes) (defScope sTimes) .none kV15 dc15 pm15 an15 cd15 ct15), sl15⟩) (e15 : PySem.W.codeIn K cd15 "times" = true) (k15 : PySem.W.keepIn K (.ref f15) = true)
    (a16 : PySem.W.nsIn K mainGlobals "one_times" = some (some (.ref f16))) (l16 : K.lookup f16 = some ⟨oc16, od16, .func (PySem.W.fnOf "one_times" "one_times" (defArgs sOneTimes) (defBody sOneTimes) (defScope sOneTimes) .none kV16 dc16 pm16 an16 cd16 ct16), sl16⟩) (e16 : PySem.W.codeIn K cd16 "one_times" = true) (k16 : PySem.W.keepIn K (.ref f16) = true)
    (a17 : PySem.W.nsIn K mainGlobals "one_put" = some (some (.ref f17))) (l17 : K.lookup f17 = some ⟨oc17, od17, .func (PySem.W.fnOf "one_put" "one_put" (defArgs sOnePut) (defBody sOnePut) (defScope sOnePut) .none kV17 dc17 pm17 an17 cd17 ct17), sl17⟩) (e17 : PySem.W.codeIn K cd17 "one_put" = true) (k17 : PySem.W.keepIn K (.ref f17) = true)
    (a18 : PySem.W.nsIn K mainGlobals "one_value" = some (some (.ref f18))) (l18 : K.lookup f18 = some ⟨oc18, od18, .func (PySem.W.fnOf "one_value" "one_value" (defArgs sOneValue) (defBody sOneValue) (defScope sOneValue) .none kV18 dc18 pm18 an18 cd18 ct18), sl18⟩) (e18 : PySem.W.codeIn K cd18 "one_value" = true) (k18 : PySem.W.keepIn K (.ref f18) = true)
    (a19 : PySem.W.nsIn K mainGlobals "_law_is_right" = some (some (.ref f19))) (l19 : K.lookup f19 = some ⟨oc19, od19, .func (PySem.W.fnOf "_law_is_right" "_law_is_right" (defArgs sLIsRight) (defBody sLIsRight) (defScope sLIsRight) .none kV19 dc19 pm19 an19 cd19 ct19), sl19⟩) (e19 : PySem.W.codeIn K cd19 "_law_is_right" = true) (k19 : PySem.W.keepIn K (.ref f19) = true)
    (a20 : PySem.W.nsIn K mainGlobals "is_integer" = some (some (.ref f20))) (l20 : K.lookup f20 = some ⟨oc20, od20, .func (PySem.W.fnOf "is_integer" "is_integer" (defArgs sIsInteger) (defBody sIsInteger) (defScope sIsInteger) .none kV20 dc20 pm20 an20 cd20 ct20), sl20⟩) (e20 : PySem.W.codeIn K cd20 "is_integer" = true) (k20 : PySem.W.keepIn K (.ref f20) = true)
    (a21 : PySem.W.nsIn K mainGlobals "is_number" = some (some (.ref f21))) (l21 : K.lookup f21 = some ⟨oc21, od21, .func (PySem.W.fnOf "is_number" "is_number" (defArgs sIsNumber) (defBody sIsNumber) (defScope sIsNumber) .none kV21 dc21 pm21 an21 cd21 ct21), sl21⟩) (e21 : PySem.W.codeIn K cd21 "is_number" = true) (k21 : PySem.W.keepIn K (.ref f21) = true)
    (a22 : PySem.W.nsIn K mainGlobals "are_numbers" = some (some (.ref f22))) (l22 : K.lookup f22 = some ⟨oc22, od22, .func (PySem.W.fnOf "are_numbers" "are_numbers" (defArgs sAreNumbers) (defBody sAreNumbers) (defScope sAreNumbers) .none kV22 dc22 pm22 an22 cd22 ct22), sl22⟩) (e22 : PySem.W.codeIn K cd22 "are_numbers" = true) (k22 : PySem.W.keepIn K (.ref f22) = true)
    (a23 : PySem.W.nsIn K mainGlobals "is_one_letter" = some (some (.ref f23))) (l23 : K.lookup f23 = some ⟨oc23, od23, .func (PySem.W.fnOf "is_one_letter" "is_one_letter" (defArgs sIsOneLetter) (defBody sIsOneLetter) (defScope sIsOneLetter) .none kV23 dc23 pm23 an23 cd23 ct23), sl23⟩) (e23 : PySem.W.codeIn K cd23 "is_one_letter" = true) (k23 : PySem.W.keepIn K (.ref f23) = true)
    (a24 : PySem.W.nsIn K mainGlobals "_law_is_number" = some (some (.ref f24))) (l24 : K.lookup f24 = some ⟨oc24, od24, .func (PySem.W.fnOf "_law_is_number" "_law_is_number" (defArgs sLIsNumber) (defBody sLIsNumber) (defScope sLIsNumber) .none kV24 dc24 pm24 an24 cd24 ct24), sl24⟩) (e24 : PySem.W.codeIn K cd24 "_law_is_number" = true) (k24 : PySem.W.keepIn K (.ref f24) = true)
    (a25 : PySem.W.nsIn K mainGlobals "_law_are_numbers" = some (some (.ref f25))) (l25 : K.lookup f25 = some ⟨oc25, od25, .func (PySem.W.fnOf "_law_are_numbers" "_law_are_numbers" (defArgs sLAreNumbers) (defBody sLAreNumbers) (defScope sLAreNumbers) .none kV25 dc25 pm25 an25 cd25 ct25), sl25⟩) (e25 : PySem.W.codeIn K cd25 "_law_are_numbers" = true) (k25 : PySem.W.keepIn K (.ref f25) = true)
    (a26 : PySem.W.nsIn K mainGlobals "_law_is_letter" = some (some (.ref f26))) (l26 : K.lookup f26 = some ⟨oc26, od26, .func (PySem.W.fnOf "_law_is_letter" "_law_is_letter" (defArgs sLIsLetter) (defBody sLIsLetter) (defScope sLIsLetter) .none kV26 dc26 pm26 an26 cd26 ct26), sl26⟩) (e26 : PySem.W.codeIn K cd26 "_law_is_letter" = true) (k26 : PySem.W.keepIn K (.ref f26) = true)
    (a27 : PySem.W.nsIn K mainGlobals "_law_spoilt" = some (some (.ref f27))) (l27 : K.lookup f27 = some ⟨oc27, od27, .func (PySem.W.fnOf "_law_spoilt" "_law_spoilt" (defArgs sLSpoilt) (defBody sLSpoilt) (defScope sLSpoilt) .none kV27 dc27 pm27 an27 cd27 ct27), sl27⟩) (e27 : PySem.W.codeIn K cd27 "_law_spoilt" = true) (k27 : PySem.W.keepIn K (.ref f27) = true)
    (a28 : PySem.W.findIn K (.ref CH) "__init__" = some (some (.ref f28))) (l28 : K.lookup f28 = some ⟨oc28, od28, .func (PySem.W.fnOf "__init__" "House.__init__" (defArgs sHouseInit) (defBody sHouseInit) (defScope sHouseInit) .none kV28 dc28 pm28 an28 cd28 ct28), sl28⟩) (e28 : PySem.W.codeIn K cd28 "House.__init__" = true) (k28 : PySem.W.keepIn K (.ref f28) = true) (i28 : PySem.W.isFn K (.ref f28) = true)
    (a29 : PySem.W.nsIn K mainGlobals "_law_any" = some (some (.ref f29))) (l29 : K.lookup f29 = some ⟨oc29, od29, .func (PySem.W.fnOf "_law_any" "_law_any" (defArgs sLAny) (defBody sLAny) (defScope sLAny) .none kV29 dc29 pm29 an29 cd29 ct29), sl29⟩) (e29 : PySem.W.codeIn K cd29 "_law_any" = true) (k29 : PySem.W.keepIn K (.ref f29) = true)
    (a30 : PySem.W.nsIn K mainGlobals "_law_is_told" = some (some (.ref f30))) (l30 : K.lookup f30 = some ⟨oc30, od30, .func (PySem.W.fnOf "_law_is_told" "_law_is_told" (defArgs sLIsTold) (defBody sLIsTold) (defScope sLIsTold) .none kV30 dc30 pm30 an30 cd30 ct30), sl30⟩) (e30 : PySem.W.codeIn K cd30 "_law_is_told" = true) (k30 : PySem.W.keepIn K (.ref f30) = true)
    (a31 : PySem.W.nsIn K mainGlobals "law" = some (some (.ref f31))) (l31 : K.lookup f31 = some ⟨oc31, od31, .func (PySem.W.fnOf "law" "law" (defArgs sLaw) (defBody sLaw) (defScope sLaw) .none kV31 dc31 pm31 an31 cd31 ct31), sl31⟩) (e31 : PySem.W.codeIn K cd31 "law" = true) (k31 : PySem.W.keepIn K (.ref f31) = true)
    (z0 : PySem.W.nsIn K mainGlobals "all" = some none)
    (z1 : PySem.W.nsIn K mainGlobals "bool" = some none)
    (z2 : PySem.W.nsIn K mainGlobals "enumerate" = some none)
    (z3 : PySem.W.nsIn K mainGlobals "int" = some none)
    (z4 : PySem.W.nsIn K mainGlobals "isinstance" = some none)
    (z5 : PySem.W.nsIn K mainGlobals "len" = some none)
    (z6 : PySem.W.nsIn K mainGlobals "list" = some none)
    (z7 : PySem.W.nsIn K mainGlobals "max" = some none)
    (z8 : PySem.W.nsIn K mainGlobals "range" = some none)
    (z9 : PySem.W.nsIn K mainGlobals "repr" = some none)
    (z10 : PySem.W.nsIn K mainGlobals "reversed" = some none)
    (z11 : PySem.W.nsIn K mainGlobals "tuple" = some none)
    (z12 : PySem.W.nsIn K mainGlobals "zip" = some none)
    : ∃ fd : FuncData, (∀ (s : Shared) (v : Value), BindsTo s fd ⟨[v], []⟩ [("_law_script", v)]) ∧ ∀ base : Heap, K.In base → base.Ns mainGlobals mg → GFn l.prog w K mg base 9 fa fd ["_law_script"] (spLaw K) := by
  have e := hfa.symm.trans (PySem.W.mg_of X G a31)
  cases e
  have F0 := fun_mk (st := sLDeck) l0 e0 k0
  have b0 := F0.binds (ps := pLDeck) fun _ _ _ _ _ _ us hl => match us, hl with | [_], _ => rfl
  have g0 := PySem.W.mg_of X G a0
  have F1 := fun_mk (st := sLDraw) l1 e1 k1
  have b1 := F1.binds (ps := pLDraw) fun _ _ _ _ _ _ us hl => match us, hl with | [_, _], _ => rfl
  have g1 := PySem.W.mg_of X G a1
  have F2 := fun_mk (st := sLPick) l2 e2 k2
  have b2 := F2.binds (ps := pLPick) fun _ _ _ _ _ _ us hl => match us, hl with | [_, _], _ => rfl
  have g2 := PySem.W.mg_of X G a2
  have F3 := fun_mk (st := sLQ) l3 e3 k3
  have b3 := F3.binds (ps := pLQ) fun _ _ _ _ _ _ us hl => match us, hl with | [_], _ => rfl
  have g3 := PySem.W.mg_of X G a3
  have F4 := fun_mk (st := sLSum) l4 e4 k4
  have b4 := F4.binds (ps := pLSum) fun _ _ _ _ _ _ us hl => match us, hl with | [_, _, _, _], _ => rfl
  have g4 := PySem.W.mg_of X G a4
  have F5 := fun_mk (st := sLField) l5 e5 k5
  have b5 := F5.binds (ps := pLField) fun _ _ _ _ _ _ us hl => match us, hl with | [_], _ => rfl
  have g5 := PySem.W.mg_of X G a5
  have F6 := fun_mk (st := sLLetter) l6 e6 k6
  have b6 := F6.binds (ps := pLLetter) fun _ _ _ _ _ _ us hl => match us, hl with | [_, _, _], _ => rfl
  have g6 := PySem.W.mg_of X G a6
  have F7 := fun_mk (st := sLTrimmed) l7 e7 k7
  have b7 := F7.binds (ps := pLTrimmed) fun _ _ _ _ _ _ us hl => match us, hl with | [_], _ => rfl
  have g7 := PySem.W.mg_of X G a7
  have F8 := fun_mk (st := sLAdded) l8 e8 k8
  have b8 := F8.binds (ps := pLAdded) fun _ _ _ _ _ _ us hl => match us, hl with | [_, _, _], _ => rfl
  have g8 := PySem.W.mg_of X G a8
  have F9 := fun_mk (st := sLMultiplied) l9 e9 k9
  have b9 := F9.binds (ps := pLMultiplied) fun _ _ _ _ _ _ us hl => match us, hl with | [_, _, _], _ => rfl
  have g9 := PySem.W.mg_of X G a9
  have F10 := fun_mk (st := sLWithin) l10 e10 k10
  have b10 := F10.binds (ps := pLWithin) fun _ _ _ _ _ _ us hl => match us, hl with | [_, _, _], _ => rfl
  have g10 := PySem.W.mg_of X G a10
  have F11 := fun_mk (st := sLValue) l11 e11 k11
  have b11 := F11.binds (ps := pLValue) fun _ _ _ _ _ _ us hl => match us, hl with | [_, _, _], _ => rfl
  have g11 := PySem.W.mg_of X G a11
  have F12 := fun_mk (st := sPlus) l12 e12 k12
  have b12 := F12.binds (ps := pPlus) fun _ _ _ _ _ _ us hl => match us, hl with | [_, _, _], _ => rfl
  have g12 := PySem.W.mg_of X G a12
  have F13 := fun_mk (st := sTrimmed) l13 e13 k13
  have b13 := F13.binds (ps := pTrimmed) fun _ _ _ _ _ _ us hl => match us, hl with | [_], _ => rfl
  have g13 := PySem.W.mg_of X G a13
  have F14 := fun_mk (st := sOnePlus) l14 e14 k14
  have b14 := F14.binds (ps := pOnePlus) fun _ _ _ _ _ _ us hl => match us, hl with | [_, _, _], _ => rfl
  have g14 := PySem.W.mg_of X G a14
  have F15 := fun_mk (st := sTimes) l15 e15 k15
  have b15 := F15.binds (ps := pTimes) fun _ _ _ _ _ _ us hl => match us, hl with | [_, _, _], _ => rfl
  have g15 := PySem.W.mg_of X G a15
  have F16 := fun_mk (st := sOneTimes) l16 e16 k16
  have b16 := F16.binds (ps := pOneTimes) fun _ _ _ _ _ _ us hl => match us, hl with | [_, _, _], _ => rfl
  have g16 := PySem.W.mg_of X G a16
  have F17 := fun_mk (st := sOnePut) l17 e17 k17
  have b17 := F17.binds (ps := pOnePut) fun _ _ _ _ _ _ us hl => match us, hl with | [_, _, _], _ => rfl
  have g17 := PySem.W.mg_of X G a17
  have F18 := fun_mk (st := sOneValue) l18 e18 k18
  have b18 := F18.binds (ps := pOneValue) fun _ _ _ _ _ _ us hl => match us, hl with | [_, _, _], _ => rfl
  have g18 := PySem.W.mg_of X G a18
  have F19 := fun_mk (st := sLIsRight) l19 e19 k19
  have b19 := F19.binds (ps := pLIsRight) fun _ _ _ _ _ _ us hl => match us, hl with | [_, _, _, _], _ => rfl
  have g19 := PySem.W.mg_of X G a19
  have F20 := fun_mk (st := sIsInteger) l20 e20 k20
  have b20 := F20.binds (ps := pIsInteger) fun _ _ _ _ _ _ us hl => match us, hl with | [_], _ => rfl
  have g20 := PySem.W.mg_of X G a20
  have F21 := fun_mk (st := sIsNumber) l21 e21 k21
  have b21 := F21.binds (ps := pIsNumber) fun _ _ _ _ _ _ us hl => match us, hl with | [_, _], _ => rfl
  have g21 := PySem.W.mg_of X G a21
  have F22 := fun_mk (st := sAreNumbers) l22 e22 k22
  have b22 := F22.binds (ps := pAreNumbers) fun _ _ _ _ _ _ us hl => match us, hl with | [_, _], _ => rfl
  have g22 := PySem.W.mg_of X G a22
  have F23 := fun_mk (st := sIsOneLetter) l23 e23 k23
  have b23 := F23.binds (ps := pIsOneLetter) fun _ _ _ _ _ _ us hl => match us, hl with | [_, _], _ => rfl
  have g23 := PySem.W.mg_of X G a23
  have F24 := fun_mk (st := sLIsNumber) l24 e24 k24
  have b24 := F24.binds (ps := pLIsNumber) fun _ _ _ _ _ _ us hl => match us, hl with | [_, _], _ => rfl
  have g24 := PySem.W.mg_of X G a24
  have F25 := fun_mk (st := sLAreNumbers) l25 e25 k25
  have b25 := F25.binds (ps := pLAreNumbers) fun _ _ _ _ _ _ us hl => match us, hl with | [_, _], _ => rfl
  have g25 := PySem.W.mg_of X G a25
  have F26 := fun_mk (st := sLIsLetter) l26 e26 k26
  have b26 := F26.binds (ps := pLIsLetter) fun _ _ _ _ _ _ us hl => match us, hl with | [_, _], _ => rfl
  have g26 := PySem.W.mg_of X G a26
  have F27 := fun_mk (st := sLSpoilt) l27 e27 k27
  have b27 := F27.binds (ps := pLSpoilt) fun _ _ _ _ _ _ us hl => match us, hl with | [_, _], _ => rfl
  have g27 := PySem.W.mg_of X G a27
  have F28 := fun_mk (st := sHouseInit) l28 e28 k28
  have b28 := F28.binds (ps := pHouseInit) fun _ _ _ _ _ _ us hl => match us, hl with | [_, _], _ => rfl
  have F29 := fun_mk (st := sLAny) l29 e29 k29
  have b29 := F29.binds (ps := pLAny) fun _ _ _ _ _ _ us hl => match us, hl with | [_, _], _ => rfl
  have g29 := PySem.W.mg_of X G a29
  have F30 := fun_mk (st := sLIsTold) l30 e30 k30
  have b30 := F30.binds (ps := pLIsTold) fun _ _ _ _ _ _ us hl => match us, hl with | [_, _, _], _ => rfl
  have g30 := PySem.W.mg_of X G a30
  have F31 := fun_mk (st := sLaw) l31 e31 k31
  have g31 := PySem.W.mg_of X G a31
  have m0 := PySem.W.mg_none_of X G z0
  have m1 := PySem.W.mg_none_of X G z1
  have m2 := PySem.W.mg_none_of X G z2
  have m3 := PySem.W.mg_none_of X G z3
  have m4 := PySem.W.mg_none_of X G z4
  have m5 := PySem.W.mg_none_of X G z5
  have m6 := PySem.W.mg_none_of X G z6
  have m7 := PySem.W.mg_none_of X G z7
  have m8 := PySem.W.mg_none_of X G z8
  have m9 := PySem.W.mg_none_of X G z9
  have m10 := PySem.W.mg_none_of X G z10
  have m11 := PySem.W.mg_none_of X G z11
  have m12 := PySem.W.mg_none_of X G z12
  have gS := PySem.W.mg_of X G aS
  have gP := PySem.W.mg_of X G aP
  have gHO := PySem.W.mg_of X G aHO
  obtain ⟨LHH, hoM, hoK, hoT⟩ := hou_ok tHO
  have kb0 := kb_rv3 (a := "q") (b := "f") (c := "g") F14 fun _ _ _ _ _ _ _ _ _ => rfl
  have kb1 := kb_sw3 (a := "q") (b := "f") (c := "g") F16 fun _ _ _ _ _ _ _ _ _ => rfl
  have kb2 := kb_rv3 (a := "q") (b := "f") (c := "g") F17 fun _ _ _ _ _ _ _ _ _ => rfl
  have kb3 := kb_rv3 (a := "q") (b := "f") (c := "number") F18 fun _ _ _ _ _ _ _ _ _ => rfl
  have kb4 := kb_sw2 (a := "q") (b := "thing") F23 fun _ _ _ _ _ _ _ _ => rfl
  refine ⟨PySem.W.fnOf "law" "law" (defArgs sLaw) (defBody sLaw) (defScope sLaw) .none kV31 dc31 pm31 an31 cd31 ct31, fun s v => .of_eq rfl, fun base _ _ => ?_⟩
  have O0 := ok_deck (P := l.prog) (w := w) (K := K) (mg := mg) (base := base) (k := 0) F0 m3 m6
  have O1 := ok_draw (P := l.prog) (w := w) (K := K) (mg := mg) (base := base) (k := 0) F1 m3 m7
  have O2 := ok_pick (P := l.prog) (w := w) (K := K) (mg := mg) (base := base) F2 ⟨O1, g1, k1, b1⟩ m5
  have O3 := ok_lq (P := l.prog) (w := w) (K := K) (mg := mg) (base := base) F3 ⟨O1, g1, k1, b1⟩ ⟨O2, g2, k2, b2⟩
  have O4 := ok_lsum (P := l.prog) (w := w) (K := K) (mg := mg) (base := base) (k := 0) F4 m3
  have O5 := ok_field (P := l.prog) (w := w) (K := K) (mg := mg) (base := base) F5 ⟨O4, g4, k4, b4⟩ m3 m8
  have O6 := ok_letter (P := l.prog) (w := w) (K := K) (mg := mg) (base := base) F6 ⟨O1, g1, k1, b1⟩ m8 m11
  have O7 := ok_ltrimmed (P := l.prog) (w := w) (K := K) (mg := mg) (base := base) (k := 0) F7 m5 m11
  have O8 := ok_added (P := l.prog) (w := w) (K := K) (mg := mg) (base := base) F8 ⟨O7, g7, k7, b7⟩ m5 m7 m6 m12
  have O9 := ok_multiplied (P := l.prog) (w := w) (K := K) (mg := mg) (base := base) F9 ⟨O7, g7, k7, b7⟩ m5 m2
  have O10 := ok_within (P := l.prog) (w := w) (K := K) (mg := mg) (base := base) F10 ⟨O8, g8, k8, b8⟩ ⟨O9, g9, k9, b9⟩
  have O11 := ok_lvalue (P := l.prog) (w := w) (K := K) (mg := mg) (base := base) (k := 0) F11 
  have O12 := ok_plus (P := l.prog) (w := w) (K := K) (mg := mg) (base := base) (k := 0) F12 gS tS
  have O13 := ok_trimmed (P := l.prog) (w := w) (K := K) (mg := mg) (base := base) (k := 0) F13 m5 m11
  have O14 := ok_one_plus (P := l.prog) (w := w) (K := K) (mg := mg) (base := base) F14 ⟨O12, g12, k12, b12⟩ ⟨O13, g13, k13, b13⟩ g14 k14 b14 m5 m6 m2
  have O15 := ok_times (P := l.prog) (w := w) (K := K) (mg := mg) (base := base) (k := 0) F15 gP tP
  have O16 := ok_one_times (P := l.prog) (w := w) (K := K) (mg := mg) (base := base) F16 ⟨O12, g12, k12, b12⟩ ⟨O15, g15, k15, b15⟩ ⟨O13, g13, k13, b13⟩ m5 m2
  have O17 := ok_one_putW (P := l.prog) (w := w) (K := K) (mg := mg) (base := base) F17 ⟨O14, g14, k14, b14⟩ ⟨O16, g16, k16, b16⟩ ⟨O13, g13, k13, b13⟩ m10
  have O18 := ok_one_value (P := l.prog) (w := w) (K := K) (mg := mg) (base := base) F18 ⟨O15, g15, k15, b15⟩ ⟨O12, g12, k12, b12⟩ m10
  have O19 := ok_right (P := l.prog) (w := w) (K := K) (mg := mg) (base := base) F19 ⟨O1, g1, k1, b1⟩ ⟨O8, g8, k8, b8⟩ ⟨O9, g9, k9, b9⟩ ⟨O10, g10, k10, b10⟩ ⟨O11, g11, k11, b11⟩ ⟨O14, g14, k14, b14⟩ ⟨O16, g16, k16, b16⟩ ⟨O17, g17, k17, b17⟩ ⟨O18, g18, k18, b18⟩ kb0 kb1 kb2 kb3 m9 m5 m6 m8
  have O20 := ok_isint (P := l.prog) (w := w) (K := K) (mg := mg) (base := base) (k := 0) F20 m4 m3 m1
  have O21 := ok_isnm (P := l.prog) (w := w) (K := K) (mg := mg) (base := base) F21 ⟨O20, g20, k20, b20⟩
  have O22 := ok_aren (P := l.prog) (w := w) (K := K) (mg := mg) (base := base) F22 ⟨O21, g21, k21, b21⟩ m11 m0 m4
  have O23 := ok_iol (P := l.prog) (w := w) (K := K) (mg := mg) (base := base) F23 ⟨O22, g22, k22, b22⟩ m5
  have O24 := ok_lisnm (P := l.prog) (w := w) (K := K) (mg := mg) (base := base) (k := 0) F24 m4 m3 m1
  have O25 := ok_lan (P := l.prog) (w := w) (K := K) (mg := mg) (base := base) F25 ⟨O24, g24, k24, b24⟩ m11 m4
  have O26 := ok_lil (P := l.prog) (w := w) (K := K) (mg := mg) (base := base) F26 ⟨O25, g25, k25, b25⟩
  have O27 := ok_sp (P := l.prog) (w := w) (K := K) (mg := mg) (base := base) F27 g27 k27 b27 ⟨O1, g1, k1, b1⟩ ⟨O2, g2, k2, b2⟩ LHH hoT m5 m6 m11 m4
  have O28 := ok_hinit (P := l.prog) (w := w) (K := K) (mg := mg) (base := base) (k := 0) F28 LHH
  have O29 := ok_any3 (P := l.prog) (w := w) (K := K) (mg := mg) (base := base) F29 g29 k29 b29 ⟨O1, g1, k1, b1⟩ ⟨O2, g2, k2, b2⟩ ⟨hoM, a28, i28, hoK⟩ F28 LHH gHO b28 m5 m8 m11
  have O30 := ok_told (P := l.prog) (w := w) (K := K) (mg := mg) (base := base) F30 ⟨O23, g23, k23, b23⟩ ⟨O26, g26, k26, b26⟩ ⟨O27, g27, k27, b27⟩ ⟨O29, g29, k29, b29⟩ LHH hoT kb4 m9 m6
  exact ok_law F31 ⟨O0, g0, k0, b0⟩ ⟨O1, g1, k1, b1⟩ ⟨O2, g2, k2, b2⟩ ⟨O3, g3, k3, b3⟩ ⟨O5, g5, k5, b5⟩ ⟨O6, g6, k6, b6⟩ ⟨O7, g7, k7, b7⟩ O19 g19 k19 b19 O30 g30 k30 b30 m8 m11 m5
end K13
set_option Elab.async false
set_option linter.all false
set_option maxRecDepth 100000
set_option maxHeartbeats 2000000
namespace HX
open PySem PySem.Spec PyProof.Rows L2
/-- a law: F gives the written part, the function object, the promise over every base -/
theorem walkGE {l : PySem.W.OpenLaw} {n k : Nat} {q : Program} {loose : List Str} {XP : (Str → Option Value) → Heap → Prop} {YP : World → Heap → Prop} {d : DefRec} {x : Str}
    (hn : l.most = some n) (hn2 : n ≤ sizeLine) (hdf : d.params.defaults = []) (hr : Room k callerA)
    (F : ∀ (w : World) (mg : Str → Option Value) (fa : Addr) (h : Heap), YP w h → h.Ns mainGlobals mg → mg d.name = some (.ref fa) →
      ∃ (K : PySem.W.Frag) (sp : Sp), K.In h ∧ (∀ (H : Hp) (a : Addr) (ns : List Int), ns.length ≤ n → Only H → SqL K H a (ns.map V.int) → sp [.ref a] H (fun v _ => v = .bl true) fun _ _ _ => False) ∧
        ∃ fd : FuncData, (∀ (s : Shared) (u : Value), BindsTo s fd ⟨[u], []⟩ [(x, u)]) ∧ ∀ base : Heap, K.In base → base.Ns mainGlobals mg → BP.GFn l.prog w K mg base k fa fd [x] sp) :
    PySem.W.WalkO q loose XP YP l.row.toRowW d [] (fun f vs => PySem.call f vs) := by
  refine Att.attach_call hn hdf fun w s₀ s₁ mg mb fa o pm cd doc a vs ns G Y ho hd hcd hmg hobj hints hlen hg => ?_
  obtain ⟨K, sp, KX, hsp, fd, hb, hF⟩ := F w mg fa _ Y G.T.g hmg
  exact BP.law_callG KX G.T.g G.T.b G.T.builtins G.T.nolimit hg hobj hints (Nat.le_trans hlen hn2) hr hF hb (fun H o sq => hsp H a ns hlen o sq)
end HX
set_option Elab.async false
set_option linter.all false
set_option maxRecDepth 100000
set_option maxHeartbeats 0
namespace HY
open PySem PySem.Spec PyProof.Rows L2 BP Fld K13 BP
theorem facts {w : World} {K : PySem.W.Frag} {h : Heap} {mg : Str → Option Value} {f : Addr} (X : K.In h) (G : h.Ns mainGlobals mg) (hfa : mg ("law" : Str) = some (.ref f)) (c : He.SaysE fa fn K) (x : ex K = true) :
    ∃ fd : FuncData, (∀ (s : Shared) (v : Value), BindsTo s fd ⟨[v], []⟩ [("_law_script", v)]) ∧ ∀ base : Heap, K.In base → base.Ns mainGlobals mg → GFn PySem.Challenge.rw_bentplane_k03_polynomials_of_one_letter.prog w K mg base 9 f fd ["_law_script"] (spLaw K) := by
  unfold ex at x
  obtain ⟨x, x2⟩ := He.ba x
  obtain ⟨x0, x1⟩ := He.ba x
  obtain ⟨oc0, od0, sl0, kV0, dc0, pm0, an0, cd0, ct0, l0, e0⟩ := c.def_ 0 rfl
  obtain ⟨oc1, od1, sl1, kV1, dc1, pm1, an1, cd1, ct1, l1, e1⟩ := c.def_ 1 rfl
  obtain ⟨oc2, od2, sl2, kV2, dc2, pm2, an2, cd2, ct2, l2, e2⟩ := c.def_ 2 rfl
  obtain ⟨oc3, od3, sl3, kV3, dc3, pm3, an3, cd3, ct3, l3, e3⟩ := c.def_ 3 rfl
  obtain ⟨oc4, od4, sl4, kV4, dc4, pm4, an4, cd4, ct4, l4, e4⟩ := c.def_ 4 rfl
  obtain ⟨oc5, od5, sl5, kV5, dc5, pm5, an5, cd5, ct5, l5, e5⟩ := c.def_ 5 rfl
  obtain ⟨oc6, od6, sl6, kV6, dc6, pm6, an6, cd6, ct6, l6, e6⟩ := c.def_ 6 rfl
  obtain ⟨oc7, od7, sl7, kV7, dc7, pm7, an7, cd7, ct7, l7, e7⟩ := c.def_ 7 rfl
  obtain ⟨oc8, od8, sl8, kV8, dc8, pm8, an8, cd8, ct8, l8, e8⟩ := c.def_ 8 rfl
  obtain ⟨oc9, od9, sl9, kV9, dc9, pm9, an9, cd9, ct9, l9, e9⟩ := c.def_ 9 rfl
  obtain ⟨oc10, od10, sl10, kV10, dc10, pm10, an10, cd10, ct10, l10, e10⟩ := c.def_ 10 rfl
  obtain ⟨oc11, od11, sl11, kV11, dc11, pm11, an11, cd11, ct11, l11, e11⟩ := c.def_ 11 rfl
  obtain ⟨oc12, od12, sl12, kV12, dc12, pm12, an12, cd12, ct12, l12, e12⟩ := c.def_ 12 rfl
  obtain ⟨oc13, od13, sl13, kV13, dc13, pm13, an13, cd13, ct13, l13, e13⟩ := c.def_ 13 rfl
  obtain ⟨oc14, od14, sl14, kV14, dc14, pm14, an14, cd14, ct14, l14, e14⟩ := c.def_ 14 rfl
  obtain ⟨oc15, od15, sl15, kV15, dc15, pm15, an15, cd15, ct15, l15, e15⟩ := c.def_ 15 rfl
  obtain ⟨oc16, od16, sl16, kV16, dc16, pm16, an16, cd16, ct16, l16, e16⟩ := c.def_ 16 rfl
  obtain ⟨oc17, od17, sl17, kV17, dc17, pm17, an17, cd17, ct17, l17, e17⟩ := c.def_ 17 rfl
  obtain ⟨oc18, od18, sl18, kV18, dc18, pm18, an18, cd18, ct18, l18, e18⟩ := c.def_ 18 rfl
  obtain ⟨oc19, od19, sl19, kV19, dc19, pm19, an19, cd19, ct19, l19, e19⟩ := c.def_ 19 rfl
  obtain ⟨oc20, od20, sl20, kV20, dc20, pm20, an20, cd20, ct20, l20, e20⟩ := c.def_ 20 rfl
  obtain ⟨oc21, od21, sl21, kV21, dc21, pm21, an21, cd21, ct21, l21, e21⟩ := c.def_ 21 rfl
  obtain ⟨oc22, od22, sl22, kV22, dc22, pm22, an22, cd22, ct22, l22, e22⟩ := c.def_ 22 rfl
  obtain ⟨oc23, od23, sl23, kV23, dc23, pm23, an23, cd23, ct23, l23, e23⟩ := c.def_ 23 rfl
  obtain ⟨oc24, od24, sl24, kV24, dc24, pm24, an24, cd24, ct24, l24, e24⟩ := c.def_ 24 rfl
  obtain ⟨oc25, od25, sl25, kV25, dc25, pm25, an25, cd25, ct25, l25, e25⟩ := c.def_ 25 rfl
  obtain ⟨oc26, od26, sl26, kV26, dc26, pm26, an26, cd26, ct26, l26, e26⟩ := c.def_ 26 rfl
  obtain ⟨oc27, od27, sl27, kV27, dc27, pm27, an27, cd27, ct27, l27, e27⟩ := c.def_ 27 rfl
  obtain ⟨oc28, od28, sl28, kV28, dc28, pm28, an28, cd28, ct28, l28, e28⟩ := c.def_ 28 rfl
  obtain ⟨oc29, od29, sl29, kV29, dc29, pm29, an29, cd29, ct29, l29, e29⟩ := c.def_ 29 rfl
  obtain ⟨oc30, od30, sl30, kV30, dc30, pm30, an30, cd30, ct30, l30, e30⟩ := c.def_ 30 rfl
  obtain ⟨oc31, od31, sl31, kV31, dc31, pm31, an31, cd31, ct31, l31, e31⟩ := c.def_ 31 rfl
  obtain ⟨a28, m28⟩ := He.ba (c.fact 56 rfl)
  obtain ⟨i28, k28⟩ := He.ba m28
  exact K13.all_mk X G hfa (He.eqO_ok (c.fact 63 rfl)) x0 (He.eqO_ok (c.fact 64 rfl)) x1 (He.eqO_ok (c.fact 65 rfl)) x2 (He.eqO_ok (c.fact 0 rfl)) l0 e0 (He.keep_ok (x := "_law_deck") (c.fact 1 rfl)) (He.eqO_ok (c.fact 2 rfl)) l1 e1 (He.keep_ok (x := "_law_draw") (c.fact 3 rfl)) (He.eqO_ok (c.fact 4 rfl)) l2 e2 (He.keep_ok (x := "_law_pick") (c.fact 5 rfl)) (He.eqO_ok (c.fact 6 rfl)) l3 e3 (He.keep_ok (x := "_law_q") (c.fact 7 rfl)) (He.eqO_ok (c.fact 8 rfl)) l4 e4 (He.keep_ok (x := "_law_sum") (c.fact 9 rfl)) (He.eqO_ok (c.fact 10 rfl)) l5 e5 (He.keep_ok (x := "_law_field") (c.fact 11 rfl)) (He.eqO_ok (c.fact 12 rfl)) l6 e6 (He.keep_ok (x := "_law_letter") (c.fact 13 rfl)) (He.eqO_ok (c.fact 14 rfl)) l7 e7 (He.keep_ok (x := "_law_trimmed") (c.fact 15 rfl)) (He.eqO_ok (c.fact 16 rfl)) l8 e8 (He.keep_ok (x := "_law_added") (c.fact 17 rfl)) (He.eqO_ok (c.fact 18 rfl)) l9 e9 (He.keep_ok (x := "_law_multiplied") (c.fact 19 rfl)) (He.eqO_ok (c.fact 20 rfl)) l10 e10 (He.keep_ok (x := "_law_within") (c.fact 21 rfl)) (He.eqO_ok (c.fact 22 rfl)) l11 e11 (He.keep_ok (x := "_law_value") (c.fact 23 rfl)) (He.eqO_ok (c.fact 24 rfl)) l12 e12 (He.keep_ok (x := "plus") (c.fact 25 rfl)) (He.eqO_ok (c.fact 26 rfl)) l13 e13 (He.keep_ok (x := "trimmed") (c.fact 27 rfl)) (He.eqO_ok (c.fact 28 rfl)) l14 e14 (He.keep_ok (x := "one_plus") (c.fact 29 rfl)) (He.eqO_ok (c.fact 30 rfl)) l15 e15 (He.keep_ok (x := "times") (c.fact 31 rfl)) (He.eqO_ok (c.fact 32 rfl)) l16 e16 (He.keep_ok (x := "one_times") (c.fact 33 rfl)) (He.eqO_ok (c.fact 34 rfl)) l17 e17 (He.keep_ok (x := "one_put") (c.fact 35 rfl)) (He.eqO_ok (c.fact 36 rfl)) l18 e18 (He.keep_ok (x := "one_value") (c.fact 37 rfl)) (He.eqO_ok (c.fact 38 rfl)) l19 e19 (He.keep_ok (x := "_law_is_right") (c.fact 39 rfl)) (He.eqO_ok (c.fact 40 rfl)) l20 e20 (He.keep_ok (x := "is_integer") (c.fact 41 rfl)) (He.eqO_ok (c.fact 42 rfl)) l21 e21 (He.keep_ok (x := "is_number") (c.fact 43 rfl)) (He.eqO_ok (c.fact 44 rfl)) l22 e22 (He.keep_ok (x := "are_numbers") (c.fact 45 rfl)) (He.eqO_ok (c.fact 46 rfl)) l23 e23 (He.keep_ok (x := "is_one_letter") (c.fact 47 rfl)) (He.eqO_ok (c.fact 48 rfl)) l24 e24 (He.keep_ok (x := "_law_is_number") (c.fact 49 rfl)) (He.eqO_ok (c.fact 50 rfl)) l25 e25 (He.keep_ok (x := "_law_are_numbers") (c.fact 51 rfl)) (He.eqO_ok (c.fact 52 rfl)) l26 e26 (He.keep_ok (x := "_law_is_letter") (c.fact 53 rfl)) (He.eqO_ok (c.fact 54 rfl)) l27 e27 (He.keep_ok (x := "_law_spoilt") (c.fact 55 rfl)) (He.eqO_ok a28) l28 e28 k28 i28 (He.eqO_ok (c.fact 57 rfl)) l29 e29 (He.keep_ok (x := "_law_any") (c.fact 58 rfl)) (He.eqO_ok (c.fact 59 rfl)) l30 e30 (He.keep_ok (x := "_law_is_told") (c.fact 60 rfl)) (He.eqO_ok (c.fact 61 rfl)) l31 e31 (He.keep_ok (x := "law") (c.fact 62 rfl)) (He.eqO_ok (c.fact 66 rfl)) (He.eqO_ok (c.fact 67 rfl)) (He.eqO_ok (c.fact 68 rfl)) (He.eqO_ok (c.fact 69 rfl)) (He.eqO_ok (c.fact 70 rfl)) (He.eqO_ok (c.fact 71 rfl)) (He.eqO_ok (c.fact 72 rfl)) (He.eqO_ok (c.fact 73 rfl)) (He.eqO_ok (c.fact 74 rfl)) (He.eqO_ok (c.fact 75 rfl)) (He.eqO_ok (c.fact 76 rfl)) (He.eqO_ok (c.fact 77 rfl)) (He.eqO_ok (c.fact 78 rfl))
end HY
open PySem PySem.W PyProof.Rows
theorem PySem.Challenge.cw_bentplane_k03_polynomials_of_one_letter_holds : PySem.Challenge.rw_bentplane_k03_polynomials_of_one_letter.Holds := by
  w_on; o_law
  refine HandSHeadRun.head_any (r := OpenLaw.row PySem.Challenge.rw_bentplane_k03_polynomials_of_one_letter) (q := HY.qv) (H := HY.hk) (ob := HY.ob) (M := 20000) (loose := HY.loose) (d := HandSHeadRun.topDef (OpenLaw.row PySem.Challenge.rw_bentplane_k03_polynomials_of_one_letter).prog 38) (kwd := []) HY.ob_eq
    (by kernel_rfl) (fun s => by kernel_rfl) HY.run (by kernel_rfl) (by kernel_rfl) (by kernel_rfl) (by rfl) (by first | assumption | decide +kernel) (by decide +kernel) ⟨rfl, rfl, rfl, rfl, rfl, by decide +kernel⟩ ?hw ?hc
  case hw => w_witness2
  case hc =>
    refine HX.walkGE (l := PySem.Challenge.rw_bentplane_k03_polynomials_of_one_letter) (n := 63) (k := 9) (x := "_law_script") rfl (by decide) (by kernel_rfl) ⟨rfl, by decide, by decide⟩ ?F
    intro w mg fa h Y G hmg0
    obtain ⟨K, KX, c, x⟩ := Y
    have hmg : mg ("law" : PySem.Str) = some (.ref fa) := by
      have e : (HandSHeadRun.topDef (OpenLaw.row PySem.Challenge.rw_bentplane_k03_polynomials_of_one_letter).prog 38).name = ("law" : PySem.Str) := by kernel_rfl
      rw [← e]
      exact hmg0
    exact ⟨K, BP.spLaw K, KX, fun H a ns hl _ hS => ⟨a, ns, rfl, hS, hl, fun _ => rfl⟩, HY.facts KX G hmg c x⟩
