import PyProof.Rows.All
import Wide.All
import OpenK.AllK
import Wide.FinOn
import KE.KStateDown
import HandS.Head0
import HandS.Head1
import HandS.Head2
import HandS.HeadEnd
import HandS.HeadHook1
import HandS.HeadHook2
import HandS.Words
import KE.KExcInit
import KE.KTryMore
import KE.KIsAll
import PySem.Challenge.RW_bentplane_k38_places_behind_a_place
import HandS.ForMost
import HandS.Style
import HandS.Strs
import HandS.IsInst
import HandS.Wide
import HandS.RaiseMore
import PyProof.ReprRoads
import KE.GoesEnum
import HandS.Rev
import HandS.Zip
import HandS.Star
import HandS.Conv
import HandS.Walk
import HandS.TupAny
import HandS.TupMul
import KE.SortKeyHeap
import HandS.SortKw
import HandS.List
import HandS.NoneIn
import HandS.TupSets
import KE.KeyNested
import PyProof.TupleIter
import PyProof.WalksMore
import HandS.TupLe
import PyProof.ReprBulk
import KE.SortData
set_option Elab.async false
set_option linter.all false
set_option maxRecDepth 100000
set_option maxHeartbeats 2000000
/-! A head by one run, with facts of one's own about the written part. -/
namespace HX
open PySem PySem.Spec PyProof.Rows L2
/-- what the module's names reach in so many steps, some of it twice -/
def layer (g : Addr → Option Obj) (as : List Addr) : List Addr := as.flatMap fun a => match g a with
  | some o => He.refsO o
  | none => []
def reach (g : Addr → Option Obj) : Nat → List Addr → List Addr
  | 0, as => as
  | n + 1, as => as ++ reach g n (layer g as)
def part (n : Nat) (g : Addr → Option Obj) : PySem.W.Frag := He.frG g (reach g n [mainGlobals])
abbrev Al : Type := He.Al × (Bool × He.AlD)
/-- fd: the defs with defaults -/
def seenX (fa : List He.Fa) (fn : List He.FnD) (fd : List He.DefD) (ex : PySem.W.Frag → Bool) (K : PySem.W.Frag) : Al := (He.obsE fa fn K, (ex K, He.obsD [] fd K))
def obsX (n : Nat) (fa : List He.Fa) (fn : List He.FnD) (fd : List He.DefD) (ex : PySem.W.Frag → Bool) (g : Addr → Option Obj) : Al := seenX fa fn fd ex (part n g)
def hookX (n : Nat) (fa : List He.Fa) (fn : List He.FnD) (fd : List He.DefD) (ex : PySem.W.Frag → Bool) : PySem.W.Hook where
  α := Al
  obs := fun s => obsX n fa fn fd ex s.heap.get?
  val := fun _ => (He.valE fn, (true, He.valD fd))
  says := fun _ h => ∃ K : PySem.W.Frag, K.In h ∧ He.SaysE fa fn K ∧ ex K = true ∧ He.SaysD [] fd K
  of := fun _ _ e => ⟨_, He.frG_in, congrArg (fun z : Al => z.1) e, congrArg (fun z : Al => z.2.1) e, congrArg (fun z : Al => z.2.2) e⟩
  keeps := fun _ _ _ ⟨K, hK, c⟩ k => ⟨K, PySem.W.Frag.In.keeps hK k, c⟩
theorem obsX_eq {n : Nat} {fa : List He.Fa} {fn : List He.FnD} {fd : List He.DefD} {ex : PySem.W.Frag → Bool} {g : Addr → Option Obj} {s : Shared} (h : ∀ a, g a = s.heap.get? a) : obsX n fa fn fd ex g = (hookX n fa fn fd ex).obs s := by
  have e : g = s.heap.get? := funext h
  rw [e] <;> rfl
/-- the module's name x is this integer -/
def intB (K : PySem.W.Frag) (x : Str) (i : Int) : Bool := match PySem.W.nsIn K mainGlobals x with
  | some (some (.int j _)) => decide (j = i)
  | _ => false
theorem intB_ok {K : PySem.W.Frag} {x : Str} {i : Int} (h : intB K x i = true) : ∃ t, PySem.W.nsIn K mainGlobals x = some (some (.int i t)) := by
  unfold intB at h
  split at h
  · rename_i j t e
    rw [of_decide_eq_true h] at e
    exact ⟨t, e⟩
  · cases h
/-- the module's name x is this text -/
def strB (K : PySem.W.Frag) (x s : Str) : Bool := match PySem.W.nsIn K mainGlobals x with
  | some (some (.str y _)) => decide (y = s)
  | _ => false
theorem strB_ok {K : PySem.W.Frag} {x s : Str} (h : strB K x s = true) : ∃ t, PySem.W.nsIn K mainGlobals x = some (some (.str s t)) := by
  unfold strB at h
  split at h
  · rename_i y t e
    rw [of_decide_eq_true h] at e
    exact ⟨t, e⟩
  · cases h
/-- a run's equation from three: the facts, the functions, the rest each by a run of its own -/
theorem join3 {β : Type} {x : Option SharedT} {A : SharedT → β} {a : β} {n : Nat} {fa : List He.Fa} {fn : List He.FnD} {fd : List He.DefD} {ex : PySem.W.Frag → Bool} {gt : SharedT → Addr → Option Obj}
    (h0 : x.map A = some a)
    (h1 : x.map (fun s => fa.all fun f => f.ok (part n (gt s))) = some true)
    (h2 : x.map (fun s => (fn.all fun d => (He.Fa.code d.at_ d.qual).ok (part n (gt s)), fn.map fun d => He.fnObs (part n (gt s)) d.at_)) = some (true, fn.map He.FnD.val))
    (h3 : x.map (fun s => ex (part n (gt s))) = some true)
    (h4 : x.map (fun s => He.obsD [] fd (part n (gt s))) = some (He.valD fd)) :
    x.map (fun s => (A s, obsX n fa fn fd ex (gt s))) = some (a, (He.valE fn, (true, He.valD fd))) := by
  cases x with
  | none => cases h0
  | some s =>
    have e0 : A s = a := Option.some.inj h0
    have e1 : (fa.all fun f => f.ok (part n (gt s))) = true := Option.some.inj h1
    have e2 : ((fn.all fun d => (He.Fa.code d.at_ d.qual).ok (part n (gt s))), fn.map fun d => He.fnObs (part n (gt s)) d.at_) = (true, fn.map He.FnD.val) := Option.some.inj h2
    have e3 : ex (part n (gt s)) = true := Option.some.inj h3
    have e4 : (fn.all fun d => (He.Fa.code d.at_ d.qual).ok (part n (gt s))) = true := congrArg (fun z : Bool × List He.FnV => z.1) e2
    have e5 : (fn.map fun d => He.fnObs (part n (gt s)) d.at_) = fn.map He.FnD.val := congrArg (fun z : Bool × List He.FnV => z.2) e2
    have e6 : He.obsD [] fd (part n (gt s)) = He.valD fd := Option.some.inj h4
    show some (A s, ((((fa.all fun f => f.ok (part n (gt s))) && fn.all fun d => (He.Fa.code d.at_ d.qual).ok (part n (gt s))), fn.map fun d => He.fnObs (part n (gt s)) d.at_), (ex (part n (gt s)), He.obsD [] fd (part n (gt s))))) = some (a, ((true, fn.map He.FnD.val), (true, He.valD fd)))
    rw [e0, e1, e3, e4, e5, e6]
    rfl
/-- .. and joined with two things that are seen beside -/
theorem join3' {γ : Type} {x : Option SharedT} {A : SharedT → Bool} {B : SharedT → γ} {a : Bool} {b : γ} {O : SharedT → Al} {o : Al}
    (h : x.map (fun s => ((A s, B s), O s)) = some ((a, b), o)) : x.map (fun s => (A s, B s, O s)) = some (a, b, o) := by
  cases x with
  | none => cases h
  | some s =>
    have e := Option.some.inj h
    have e1 : A s = a := congrArg (fun z : (Bool × γ) × Al => z.1.1) e
    have e2 : B s = b := congrArg (fun z : (Bool × γ) × Al => z.1.2) e
    have e3 : O s = o := congrArg (fun z : (Bool × γ) × Al => z.2) e
    show some (A s, B s, O s) = some (a, b, o)
    rw [e1, e2, e3]
end HX
set_option Elab.async false
set_option linter.all false
set_option maxRecDepth 100000
set_option maxHeartbeats 4000000
/-! The ten fields: sums and products of numbers below q, reckoned, and what holds of them. No Python here. -/
namespace Fld
def fields : List Nat := [2, 3, 4, 5, 7, 8, 9, 11, 13, 16]
def chr : Nat → Nat
  | 4 => 2 | 8 => 2 | 16 => 2 | 9 => 3 | q => q
/-- a with w: w^k = w + 1 -/
def up (q a : Nat) : Nat := if 2 * a < q then 2 * a else Nat.xor (2 * a - q) 3
def mul2 (q a b : Nat) : Nat :=
  let a1 := up q a
  let a2 := up q a1
  let a3 := up q a2
  Nat.xor (Nat.xor (if b % 2 = 1 then a else 0) (if b / 2 % 2 = 1 then a1 else 0)) (Nat.xor (if b / 4 % 2 = 1 then a2 else 0) (if b / 8 % 2 = 1 then a3 else 0))
def S (q a b : Nat) : Nat := match q with
  | 4 => Nat.xor a b | 8 => Nat.xor a b | 16 => Nat.xor a b
  | 9 => (a % 3 + b % 3) % 3 + 3 * ((a / 3 + b / 3) % 3)
  | q => (a + b) % q
def M (q a b : Nat) : Nat := match q with
  | 4 => mul2 4 a b | 8 => mul2 8 a b | 16 => mul2 16 a b
  | 9 => (a % 3 * (b % 3) + a / 3 * (b / 3)) % 3 + 3 * ((a % 3 * (b / 3) + a / 3 * (b % 3) + a / 3 * (b / 3)) % 3)
  | q => a * b % q
def below (n : Nat) (p : Nat → Bool) : Bool := (List.range n).all p
theorem of_below {n : Nat} {p : Nat → Bool} (h : below n p = true) {a : Nat} (ha : a < n) : p a = true :=
  List.all_eq_true.mp h a (List.mem_range.mpr ha)
/-- a, a a, .. -/
def pw (q a : Nat) : Nat → Nat
  | 0 => 1
  | n + 1 => M q (pw q a n) a
def inv (q a : Nat) : Nat := ((List.range q).find? fun b => M q a b == 1).getD 0
def ord (q a : Nat) : Nat := ((List.range q).find? fun n => n != 0 && pw q a n == 1).getD 0
/-- the law's sum of digits, from the unit on, k digits more -/
def dsum (p a b unit : Nat) : Nat → Nat
  | 0 => 0
  | k + 1 => (a / unit + b / unit) % p * unit + dsum p a b (unit * p) k
/-- the number of digits -/
def len : Nat → Nat
  | 4 => 2 | 8 => 3 | 16 => 4 | 9 => 2 | _ => 1
def okField (q : Nat) : Bool :=
  decide (1 < q) && decide (q ≤ 16) && decide (1 < chr q) && decide (chr q ≤ q) && decide (chr q ^ len q = q) &&
  below q (fun a => below q fun b => decide (M q a b < q) && decide (S q a b < q) && decide (M q a b = M q b a) && decide (dsum (chr q) a b 1 (len q) = S q a b) &&
    below q fun c => decide (M q c (S q a b) = S q (M q c a) (M q c b)) && decide (M q (M q a b) c = M q a (M q c b))) &&
  below (chr q) (fun a => below (chr q) fun b => decide (M q a b = a * b % chr q)) &&
  below q (fun a => decide (M q 0 a = 0) && decide (M q 1 a = a) && decide (M q a 0 = 0) && decide (M q a 1 = a)) &&
  below (len q) (fun k => decide ((if chr q < q then pw q (chr q) k else chr q ^ k) = chr q ^ k)) &&
  decide (chr q = q ∨ pw q (chr q) (len q) = 1 + chr q) &&
  below q (fun a => decide (a = 0) || (decide (1 ≤ ord q a) && decide (ord q a < q) && decide (pw q a (ord q a) = 1) && (below (ord q a) fun n => decide (n = 0) || decide (pw q a n ≠ 1)) &&
    decide (inv q a < q) && decide (M q a (inv q a) = 1) && below (inv q a) fun b => decide (M q a b ≠ 1))) &&
  below q (fun n => decide (n = 0) || decide (((List.range (q - 1)).filter fun i => n % ord q (i + 1) == 0).length = Nat.gcd n (q - 1)))
theorem all_ok : fields.all okField = true := by decide +kernel
theorem ok {q : Nat} (h : q ∈ fields) : okField q = true := List.all_eq_true.mp all_ok q h

section
variable {q : Nat} (h : q ∈ fields)
include h
theorem gt1 : 1 < q := by
  have o := ok h
  simp only [okField, Bool.and_eq_true, decide_eq_true_eq] at o
  omega
theorem le16 : q ≤ 16 := by
  have o := ok h
  simp only [okField, Bool.and_eq_true, decide_eq_true_eq] at o
  omega
theorem chr_gt : 1 < chr q := by
  have o := ok h
  simp only [okField, Bool.and_eq_true, decide_eq_true_eq] at o
  omega
theorem chr_le : chr q ≤ q := by
  have o := ok h
  simp only [okField, Bool.and_eq_true, decide_eq_true_eq] at o
  omega
theorem chr_len : chr q ^ len q = q := by
  have o := ok h
  simp only [okField, Bool.and_eq_true, decide_eq_true_eq] at o
  omega
theorem two {a b : Nat} (ha : a < q) (hb : b < q) : M q a b < q ∧ S q a b < q ∧ M q a b = M q b a ∧ dsum (chr q) a b 1 (len q) = S q a b := by
  have o := ok h
  unfold okField at o
  simp only [Bool.and_eq_true] at o
  have t := of_below (of_below o.1.1.1.1.1.1.2 ha) hb
  simp only [Bool.and_eq_true, decide_eq_true_eq] at t
  exact ⟨t.1.1.1.1, t.1.1.1.2, t.1.1.2, t.1.2⟩
theorem three {a b c : Nat} (ha : a < q) (hb : b < q) (hc : c < q) : M q c (S q a b) = S q (M q c a) (M q c b) ∧ M q (M q a b) c = M q a (M q c b) := by
  have o := ok h
  unfold okField at o
  simp only [Bool.and_eq_true] at o
  have t := of_below (of_below o.1.1.1.1.1.1.2 ha) hb
  simp only [Bool.and_eq_true] at t
  have u := of_below t.2 hc
  simp only [Bool.and_eq_true, decide_eq_true_eq] at u
  exact u
theorem small {a b : Nat} (ha : a < chr q) (hb : b < chr q) : M q a b = a * b % chr q := by
  have o := ok h
  unfold okField at o
  simp only [Bool.and_eq_true] at o
  have t := of_below (of_below o.1.1.1.1.1.2 ha) hb
  exact of_decide_eq_true t
theorem one {a : Nat} (ha : a < q) : M q 0 a = 0 ∧ M q 1 a = a ∧ M q a 0 = 0 ∧ M q a 1 = a := by
  have o := ok h
  unfold okField at o
  simp only [Bool.and_eq_true] at o
  have t := of_below o.1.1.1.1.2 ha
  simp only [Bool.and_eq_true, decide_eq_true_eq] at t
  exact ⟨t.1.1.1, t.1.1.2, t.1.2, t.2⟩
theorem root {k : Nat} (hk : k < len q) : (if chr q < q then pw q (chr q) k else chr q ^ k) = chr q ^ k := by
  have o := ok h
  unfold okField at o
  simp only [Bool.and_eq_true] at o
  exact of_decide_eq_true (of_below o.1.1.1.2 hk)
theorem next : chr q = q ∨ pw q (chr q) (len q) = 1 + chr q := by
  have o := ok h
  unfold okField at o
  simp only [Bool.and_eq_true] at o
  exact of_decide_eq_true o.1.1.2
theorem unit {a : Nat} (ha : a < q) (h0 : a ≠ 0) : 1 ≤ ord q a ∧ ord q a < q ∧ pw q a (ord q a) = 1 ∧ (∀ n, n < ord q a → n ≠ 0 → pw q a n ≠ 1) ∧ inv q a < q ∧ M q a (inv q a) = 1 ∧ ∀ b, b < inv q a → M q a b ≠ 1 := by
  have o := ok h
  unfold okField at o
  simp only [Bool.and_eq_true] at o
  have t := of_below o.1.2 ha
  rw [Bool.or_eq_true] at t
  rcases t with t | t
  · exact absurd (of_decide_eq_true t) h0
  · simp only [Bool.and_eq_true, decide_eq_true_eq] at t
    refine ⟨t.1.1.1.1.1.1, t.1.1.1.1.1.2, t.1.1.1.1.2, fun n hn n0 => ?_, t.1.1.2, t.1.2, fun b hb => of_decide_eq_true (of_below t.2 hb)⟩
    have u := of_below t.1.1.1.2 hn
    rw [Bool.or_eq_true] at u
    rcases u with u | u
    · exact absurd (of_decide_eq_true u) n0
    · exact of_decide_eq_true u
theorem many {n : Nat} (hn : n < q) (h0 : n ≠ 0) : ((List.range (q - 1)).filter fun i => n % ord q (i + 1) == 0).length = Nat.gcd n (q - 1) := by
  have o := ok h
  unfold okField at o
  simp only [Bool.and_eq_true] at o
  have t := of_below o.2 hn
  rw [Bool.or_eq_true] at t
  rcases t with t | t
  · exact absurd (of_decide_eq_true t) h0
  · exact of_decide_eq_true t

/-! ### powers -/
theorem pw_lt {a : Nat} (ha : a < q) : ∀ n, pw q a n < q
  | 0 => gt1 h
  | n + 1 => (two h (pw_lt ha n) ha).1
theorem assoc {a b c : Nat} (ha : a < q) (hb : b < q) (hc : c < q) : M q (M q a b) c = M q a (M q b c) := by
  rw [(three h ha hb hc).2, (two h hb hc).2.2.1]
theorem pw_add {a : Nat} (ha : a < q) (m : Nat) : ∀ n, pw q a (m + n) = M q (pw q a m) (pw q a n)
  | 0 => ((one h (pw_lt h ha m)).2.2.2).symm
  | n + 1 => by
    show M q (pw q a (m + n)) a = M q (pw q a m) (M q (pw q a n) a)
    rw [pw_add ha m n, assoc h (pw_lt h ha m) (pw_lt h ha n) ha]
theorem pw_sq {a : Nat} (ha : a < q) : ∀ n, pw q (M q a a) n = pw q a (2 * n)
  | 0 => rfl
  | n + 1 => by
    show M q (pw q (M q a a) n) (M q a a) = pw q a (2 * n + 1 + 1)
    rw [pw_sq ha n, ← assoc h (pw_lt h ha _) ha ha]
    rfl
theorem pw_ord {a : Nat} (ha : a < q) (h0 : a ≠ 0) : ∀ k, pw q a (k * ord q a) = 1
  | 0 => by rw [Nat.zero_mul]; rfl
  | k + 1 => by
    rw [Nat.succ_mul, pw_add h ha, pw_ord ha h0 k, (unit h ha h0).2.2.1, (one h (gt1 h)).2.1]
theorem pw_mod {a : Nat} (ha : a < q) (h0 : a ≠ 0) (n : Nat) : pw q a (n % ord q a) = pw q a n := by
  have e : n / ord q a * ord q a + n % ord q a = n := by
    rw [Nat.mul_comm]
    exact Nat.div_add_mod n (ord q a)
  have p := pw_add h ha (n / ord q a * ord q a) (n % ord q a)
  rw [e, pw_ord h ha h0, (one h (pw_lt h ha _)).2.1] at p
  exact p.symm
theorem pw_zero : ∀ n, n ≠ 0 → pw q 0 n = 0
  | 0, z => absurd rfl z
  | n + 1, _ => (one h (pw_lt h (Nat.lt_trans Nat.zero_lt_one (gt1 h)) n)).2.2.1
end
end Fld
set_option Elab.async false
set_option linter.all false
set_option maxRecDepth 100000
set_option maxHeartbeats 0
namespace HY
open PySem PySem.Spec PyProof.Rows L2
open PySem.W
def topS (i : Nat) : Stmt := PySem.Challenge.pw_bentplane_k38_places_behind_a_place.main.body.getD i (.Pass ⟨0, 0, 0, 0⟩)
abbrev sAhead : Stmt := topS 55
abbrev sAreBeside : Stmt := topS 58
abbrev sAreNumbers : Stmt := topS 15
abbrev sBehind : Stmt := topS 60
abbrev sBendAhead : Stmt := topS 32
abbrev sBendsUpTo : Stmt := topS 61
abbrev sDepth : Stmt := topS 57
abbrev sInverse : Stmt := topS 13
abbrev sIsBend : Stmt := topS 39
abbrev sIsInteger : Stmt := topS 7
abbrev sIsNumber : Stmt := topS 8
abbrev sIsOneLetter : Stmt := topS 16
abbrev sIsPlace : Stmt := topS 48
abbrev sIsStep : Stmt := topS 41
abbrev sIsStraight : Stmt := topS 38
abbrev sLAhead : Stmt := topS 66
abbrev sLAreBeside : Stmt := topS 73
abbrev sLBehind : Stmt := topS 71
abbrev sLBends : Stmt := topS 70
abbrev sLDeck : Stmt := topS 63
abbrev sLDraw : Stmt := topS 64
abbrev sLGoesOn : Stmt := topS 74
abbrev sLMany : Stmt := topS 72
abbrev sLPick : Stmt := topS 65
abbrev sLSomeBend : Stmt := topS 68
abbrev sLSomeField : Stmt := topS 67
abbrev sLSomePlace : Stmt := topS 69
abbrev sLaw : Stmt := topS 75
abbrev sLeastRowAddToLastBend : Stmt := inClass (topS 30) 4
abbrev sLeastRowAsStep : Stmt := inClass (topS 30) 1
abbrev sLeastRowInit : Stmt := inClass (topS 30) 0
abbrev sLeastRowPutBend : Stmt := inClass (topS 30) 3
abbrev sLeastRowPutPiece : Stmt := inClass (topS 30) 2
abbrev sLookAtPlaces : Stmt := topS 49
abbrev sLookAtSteps : Stmt := topS 42
abbrev sManyBehind : Stmt := topS 59
abbrev sMinus : Stmt := topS 10
abbrev sOnePlus : Stmt := topS 18
abbrev sOnePut : Stmt := topS 21
abbrev sOneScaled : Stmt := topS 19
abbrev sOneTimes : Stmt := topS 20
abbrev sOpposite : Stmt := topS 12
abbrev sPlaceAhead : Stmt := topS 54
abbrev sPlaceByStep : Stmt := topS 52
abbrev sPlaceDepth : Stmt := topS 56
abbrev sPlaceOf : Stmt := topS 53
abbrev sPlaceStep : Stmt := topS 50
abbrev sPlus : Stmt := topS 9
abbrev sProduct : Stmt := topS 43
abbrev sRowByStep : Stmt := topS 34
abbrev sStepAndRow : Stmt := topS 33
abbrev sStepOfPlace : Stmt := topS 51
abbrev sStepThen : Stmt := topS 35
abbrev sStraightDeterminant : Stmt := topS 26
abbrev sStraightStep : Stmt := topS 36
abbrev sStraightThen : Stmt := topS 27
abbrev sSummed : Stmt := topS 25
abbrev sTimes : Stmt := topS 11
abbrev sTrimmed : Stmt := topS 17
abbrev sTurnAndMap : Stmt := topS 31
abbrev sTurnBy : Stmt := topS 24
def keysI (es : List DictEntry) : Bool := es.all fun e => match e.key with
  | .int i _ => e.hash == hashInt i
  | _ => false
def intOf : Value → Option Int
  | .int i _ => some i
  | _ => none
def rowIs (K : PySem.W.Frag) (v : Value) (r : List Nat) : Bool := match v with
  | .ref p => (match K.lookup p with
    | some ⟨.type "tuple", none, .seq its _, _⟩ => decide (its.size ≤ sizeLine) && decide (its.toList.map intOf = r.map fun (n : Nat) => some ((n : Nat) : Int))
    | _ => false)
  | _ => false
def tabIs (K : PySem.W.Frag) (d : Addr) (f : Nat → Nat → Nat → Nat) : Bool := match K.lookup d with
  | some ⟨.type "dict", none, .dict es _, sl⟩ => decide (sl.size = 0) && keysI es.toList && Fld.fields.all fun q => (match findBy Value.isInt es (q : Nat) with
    | some (.ref p) => (match K.lookup p with
      | some ⟨.type "tuple", none, .seq its _, _⟩ => decide (its.size = q) && Fld.below q fun a => rowIs K (its.toList.getD a .none) ((List.range q).map (f q a))
      | _ => false)
    | _ => false)
  | _ => false
def xw : Nat → Nat → Nat
  | 0, n => if n = 3 then 1 else if n = 5 then 2 else if n = 7 then 1 else 0
  | 1, n => if n = 4 then 1 else if n = 7 then 1 else 0
  | _ + 2, n => if n = 6 then 1 else 0
def expIs (K : PySem.W.Frag) (d : Addr) : Bool := match K.lookup d with
  | some ⟨.type "dict", none, .dict es _, sl⟩ => decide (sl.size = 0) && keysI es.toList && [2, 3, 4, 5, 6].all fun n => (match findBy Value.isInt es ((n : Nat) : Int) with
    | some v => rowIs K v [xw 0 (n + 1), xw 1 (n + 1), xw 2 (n + 1)]
    | _ => false)
  | _ => false
def rootIs (K : PySem.W.Frag) (p : Addr) : Bool := match K.lookup p with
  | some ⟨.type "tuple", none, .seq its _, _⟩ => decide (its.size ≤ sizeLine) && (match its.toList with
    | [.str s _, .int i _, b, t] => decide (s = "straight") && decide (i = -1) && rowIs K b [] && rowIs K t []
    | _ => false)
  | _ => false
def nothIs (K : PySem.W.Frag) (p : Addr) : Bool := match K.lookup p with
  | some ⟨.type "tuple", none, .seq its _, _⟩ => decide (its.size ≤ sizeLine) && (match its.toList with
    | [.int i _, b, t, l] => decide (i = -1) && rowIs K b [] && rowIs K t [] && rowIs K l [1, 0, 0, 0, 1, 0]
    | _ => false)
  | _ => false
def ncIs (K : PySem.W.Frag) (C : Addr) : Bool := PySem.W.excInitIn K C [.type "Exception", .type "BaseException", .type "object"] "Exception.__new__" && (PySem.W.excOver K C [.type "Exception", .type "BaseException", .type "object"] && (PySem.W.hasDictIn K C && (decide (PySem.W.findIn K (.ref C) "__setattr__" = some (some (.builtin "object.__setattr__"))) && (decide (PySem.W.subIn K (.ref C) (.type "BaseException") = some true) && (decide (PySem.W.typeIn K (.ref C) = some (.type "type")) && (PySem.W.keepIn K (.ref C) && (decide (PySem.W.takerIn K C "thing" = some none) && decide (PySem.W.exmOne K (.ref C) (.ref C) = some true))))))))
def xfB (K : PySem.W.Frag) (C : Addr) : Bool := decide (PySem.W.findIn K (.ref C) "__getattribute__" = some (some (.builtin "BaseException.__getattribute__"))) && (decide (PySem.W.findIn K (.ref C) "__getattr__" = some none) && (decide (PySem.W.subIn K (.ref C) (.type "BaseException") = some true) && PySem.W.hasDictIn K C))
def ncIs2 (K : PySem.W.Frag) (C : Addr) : Bool := ncIs K C && (xfB K C && decide (PySem.W.findIn K (.ref C) "thing" = some none))
def excB (K : PySem.W.Frag) (D : Addr) : Bool := decide (PySem.W.findIn K (.ref D) "__getattribute__" = some (some (.builtin "BaseException.__getattribute__"))) && (decide (PySem.W.findIn K (.ref D) "__getattr__" = some none) && (decide (PySem.W.subIn K (.ref D) (.type "BaseException") = some true) && (PySem.W.hasDictIn K D && (decide (PySem.W.findIn K (.ref D) "__class__" = some (some (.builtin "object.__class__"))) && (decide (PySem.W.specialIn K (.builtin "object.__class__") "__get__" = some (some (.builtin "getset_descriptor.__get__"))) && (decide (PySem.W.takesIn K (.builtin "object.__class__") = some true) && decide (PySem.W.mroIn K D (.type "object") = some true)))))))
def kinB (K : PySem.W.Frag) (C E B : Addr) : Bool := excB K C && (decide (PySem.W.kitOne K (.ref C) (.ref E) = some true) && (decide (PySem.W.kitOne K (.ref C) (.ref B) = some false) && decide (PySem.W.kitOne K (.ref C) (.type "ValueError") = some false)))
def charIs (K : PySem.W.Frag) (d : Addr) : Bool := !(d == sysModules) && (match K.lookup d with
  | some ⟨.type "dict", none, .dict es _, sl⟩ => decide (sl.size = 0) && keysI es.toList && (es.toList.all fun e => match e.key with
    | .int i _ => Fld.fields.any fun q => decide (i = (q : Int))
    | _ => false) && Fld.fields.all fun q => (match findBy Value.isInt es ((q : Nat) : Int) with
    | some (.int c _) => decide (c = (Fld.chr q : Nat))
    | _ => false)
  | _ => false)
/-- what the head must see of the class House -/
def houB (K : PySem.W.Frag) (C : Addr) : Bool := PySem.W.plainGet K C Str.empty && (PySem.W.hasDictIn K C && (PySem.W.plainOver K C && (decide (PySem.W.findIn K (.ref C) "__setattr__" = some (some (.builtin "object.__setattr__"))) && (decide (PySem.W.findIn K (.ref C) "q" = some none) && (decide (PySem.W.findIn K (.ref C) "steps" = some none) && (decide (PySem.W.findIn K (.ref C) "promised" = some none) && (decide (PySem.W.findIn K (.ref C) "past" = some none) && (decide (PySem.W.findIn K (.ref C) "future" = some none) && (decide (PySem.W.findIn K (.ref C) "__class__" = some (some (.builtin "object.__class__"))) && (decide (PySem.W.specialIn K (.builtin "object.__class__") "__get__" = some (some (.builtin "getset_descriptor.__get__"))) && (decide (PySem.W.takesIn K (.builtin "object.__class__") = some true) && (decide (PySem.W.mroIn K C (.type "object") = some true) && (decide (PySem.W.kitOne K (.ref C) (.type "int") = some false) && (decide (PySem.W.kitOne K (.ref C) (.type "tuple") = some false) && (decide (PySem.W.kitOne K (.ref C) (.type "str") = some false) && (PySem.W.makesIn K C && PySem.W.keepIn K (.ref C)))))))))))))))))
abbrev R : PySem.W.OpenRow := PySem.W.OpenLaw.row PySem.Challenge.rw_bentplane_k38_places_behind_a_place
abbrev qv : Program := PySem.W.view R.prog [75]
def loose0 : List Str := [("__name__" : Str), ("PlaneError" : Str), ("BadStep" : Str), ("BadPlace" : Str), ("SUMS" : Str), ("PRODUCTS" : Str), ("is_integer" : Str), ("is_number" : Str), ("plus" : Str), ("minus" : Str), ("times" : Str), ("opposite" : Str), ("inverse" : Str), ("are_numbers" : Str), ("is_one_letter" : Str), ("trimmed" : Str), ("one_plus" : Str), ("one_scaled" : Str), ("one_times" : Str), ("one_put" : Str), ("SAME" : Str), ("turn_by" : Str), ("summed" : Str), ("straight_determinant" : Str), ("straight_then" : Str), ("NO_TURN" : Str), ("LeastRow" : Str), ("turn_and_map" : Str), ("bend_ahead" : Str), ("step_and_row" : Str), ("row_by_step" : Str), ("step_then" : Str), ("straight_step" : Str), ("is_straight" : Str), ("is_bend" : Str), ("is_step" : Str), ("look_at_steps" : Str), ("product" : Str), ("STRAIGHT" : Str), ("BENT" : Str)]
def loose1 : List Str := [("ROOT" : Str), ("is_place" : Str), ("look_at_places" : Str), ("place_step" : Str), ("step_of_place" : Str), ("place_by_step" : Str), ("place_of" : Str), ("place_ahead" : Str), ("ahead" : Str), ("place_depth" : Str), ("depth" : Str), ("are_beside" : Str), ("many_behind" : Str), ("behind" : Str), ("bends_up_to" : Str), ("_law_deck" : Str), ("_law_draw" : Str), ("_law_pick" : Str), ("_law_ahead" : Str), ("_law_some_field" : Str), ("_law_some_bend" : Str), ("_law_some_place" : Str), ("_law_bends" : Str), ("_law_behind" : Str), ("_law_many" : Str), ("_law_are_beside" : Str), ("_law_goes_on" : Str)]
def loose : List Str := loose0 ++ loose1
def fn0 : List He.FnD := [⟨("_law_deck", none), "_law_deck", "_law_deck", defArgs sLDeck, defBody sLDeck, defScope sLDeck⟩, ⟨("_law_draw", none), "_law_draw", "_law_draw", defArgs sLDraw, defBody sLDraw, defScope sLDraw⟩, ⟨("_law_pick", none), "_law_pick", "_law_pick", defArgs sLPick, defBody sLPick, defScope sLPick⟩, ⟨("_law_some_field", none), "_law_some_field", "_law_some_field", defArgs sLSomeField, defBody sLSomeField, defScope sLSomeField⟩, ⟨("_law_some_bend", none), "_law_some_bend", "_law_some_bend", defArgs sLSomeBend, defBody sLSomeBend, defScope sLSomeBend⟩, ⟨("_law_some_place", none), "_law_some_place", "_law_some_place", defArgs sLSomePlace, defBody sLSomePlace, defScope sLSomePlace⟩, ⟨("is_integer", none), "is_integer", "is_integer", defArgs sIsInteger, defBody sIsInteger, defScope sIsInteger⟩, ⟨("is_number", none), "is_number", "is_number", defArgs sIsNumber, defBody sIsNumber, defScope sIsNumber⟩, ⟨("are_numbers", none), "are_numbers", "are_numbers", defArgs sAreNumbers, defBody sAreNumbers, defScope sAreNumbers⟩, ⟨("is_one_letter", none), "is_one_letter", "is_one_letter", defArgs sIsOneLetter, defBody sIsOneLetter, defScope sIsOneLetter⟩, ⟨("is_bend", none), "is_bend", "is_bend", defArgs sIsBend, defBody sIsBend, defScope sIsBend⟩, ⟨("is_place", none), "is_place", "is_place", defArgs sIsPlace, defBody sIsPlace, defScope sIsPlace⟩, ⟨("look_at_places", none), "look_at_places", "look_at_places", defArgs sLookAtPlaces, defBody sLookAtPlaces, defScope sLookAtPlaces⟩, ⟨("many_behind", none), "many_behind", "many_behind", defArgs sManyBehind, defBody sManyBehind, defScope sManyBehind⟩, ⟨("_law_many", none), "_law_many", "_law_many", defArgs sLMany, defBody sLMany, defScope sLMany⟩, ⟨("_law_bends", none), "_law_bends", "_law_bends", defArgs sLBends, defBody sLBends, defScope sLBends⟩, ⟨("_law_behind", none), "_law_behind", "_law_behind", defArgs sLBehind, defBody sLBehind, defScope sLBehind⟩, ⟨("bends_up_to", none), "bends_up_to", "bends_up_to", defArgs sBendsUpTo, defBody sBendsUpTo, defScope sBendsUpTo⟩, ⟨("behind", none), "behind", "behind", defArgs sBehind, defBody sBehind, defScope sBehind⟩, ⟨("place_ahead", none), "place_ahead", "place_ahead", defArgs sPlaceAhead, defBody sPlaceAhead, defScope sPlaceAhead⟩]
def fn1 : List He.FnD := [⟨("ahead", none), "ahead", "ahead", defArgs sAhead, defBody sAhead, defScope sAhead⟩, ⟨("opposite", none), "opposite", "opposite", defArgs sOpposite, defBody sOpposite, defScope sOpposite⟩, ⟨("minus", none), "minus", "minus", defArgs sMinus, defBody sMinus, defScope sMinus⟩, ⟨("times", none), "times", "times", defArgs sTimes, defBody sTimes, defScope sTimes⟩, ⟨("straight_determinant", none), "straight_determinant", "straight_determinant", defArgs sStraightDeterminant, defBody sStraightDeterminant, defScope sStraightDeterminant⟩, ⟨("is_straight", none), "is_straight", "is_straight", defArgs sIsStraight, defBody sIsStraight, defScope sIsStraight⟩, ⟨("is_step", none), "is_step", "is_step", defArgs sIsStep, defBody sIsStep, defScope sIsStep⟩, ⟨("look_at_steps", none), "look_at_steps", "look_at_steps", defArgs sLookAtSteps, defBody sLookAtSteps, defScope sLookAtSteps⟩, ⟨("inverse", none), "inverse", "inverse", defArgs sInverse, defBody sInverse, defScope sInverse⟩, ⟨("turn_and_map", none), "turn_and_map", "turn_and_map", defArgs sTurnAndMap, defBody sTurnAndMap, defScope sTurnAndMap⟩, ⟨("place_by_step", none), "place_by_step", "place_by_step", defArgs sPlaceByStep, defBody sPlaceByStep, defScope sPlaceByStep⟩, ⟨("place_of", none), "place_of", "place_of", defArgs sPlaceOf, defBody sPlaceOf, defScope sPlaceOf⟩, ⟨("turn_by", none), "turn_by", "turn_by", defArgs sTurnBy, defBody sTurnBy, defScope sTurnBy⟩, ⟨("straight_step", none), "straight_step", "straight_step", defArgs sStraightStep, defBody sStraightStep, defScope sStraightStep⟩, ⟨("place_step", none), "place_step", "place_step", defArgs sPlaceStep, defBody sPlaceStep, defScope sPlaceStep⟩, ⟨("step_of_place", none), "step_of_place", "step_of_place", defArgs sStepOfPlace, defBody sStepOfPlace, defScope sStepOfPlace⟩, ⟨("_law_ahead", none), "_law_ahead", "_law_ahead", defArgs sLAhead, defBody sLAhead, defScope sLAhead⟩, ⟨("are_beside", none), "are_beside", "are_beside", defArgs sAreBeside, defBody sAreBeside, defScope sAreBeside⟩, ⟨("place_depth", none), "place_depth", "place_depth", defArgs sPlaceDepth, defBody sPlaceDepth, defScope sPlaceDepth⟩, ⟨("depth", none), "depth", "depth", defArgs sDepth, defBody sDepth, defScope sDepth⟩]
def fn2 : List He.FnD := [⟨("_law_are_beside", none), "_law_are_beside", "_law_are_beside", defArgs sLAreBeside, defBody sLAreBeside, defScope sLAreBeside⟩, ⟨("LeastRow", some "__init__"), "__init__", "LeastRow.__init__", defArgs sLeastRowInit, defBody sLeastRowInit, defScope sLeastRowInit⟩, ⟨("plus", none), "plus", "plus", defArgs sPlus, defBody sPlus, defScope sPlus⟩, ⟨("summed", none), "summed", "summed", defArgs sSummed, defBody sSummed, defScope sSummed⟩, ⟨("straight_then", none), "straight_then", "straight_then", defArgs sStraightThen, defBody sStraightThen, defScope sStraightThen⟩, ⟨("trimmed", none), "trimmed", "trimmed", defArgs sTrimmed, defBody sTrimmed, defScope sTrimmed⟩, ⟨("one_plus", none), "one_plus", "one_plus", defArgs sOnePlus, defBody sOnePlus, defScope sOnePlus⟩, ⟨("one_times", none), "one_times", "one_times", defArgs sOneTimes, defBody sOneTimes, defScope sOneTimes⟩, ⟨("one_put", none), "one_put", "one_put", defArgs sOnePut, defBody sOnePut, defScope sOnePut⟩, ⟨("one_scaled", none), "one_scaled", "one_scaled", defArgs sOneScaled, defBody sOneScaled, defScope sOneScaled⟩, ⟨("bend_ahead", none), "bend_ahead", "bend_ahead", defArgs sBendAhead, defBody sBendAhead, defScope sBendAhead⟩, ⟨("LeastRow", some "add_to_last_bend"), "add_to_last_bend", "LeastRow.add_to_last_bend", defArgs sLeastRowAddToLastBend, defBody sLeastRowAddToLastBend, defScope sLeastRowAddToLastBend⟩, ⟨("LeastRow", some "put_bend"), "put_bend", "LeastRow.put_bend", defArgs sLeastRowPutBend, defBody sLeastRowPutBend, defScope sLeastRowPutBend⟩, ⟨("LeastRow", some "put_piece"), "put_piece", "LeastRow.put_piece", defArgs sLeastRowPutPiece, defBody sLeastRowPutPiece, defScope sLeastRowPutPiece⟩, ⟨("LeastRow", some "as_step"), "as_step", "LeastRow.as_step", defArgs sLeastRowAsStep, defBody sLeastRowAsStep, defScope sLeastRowAsStep⟩, ⟨("step_and_row", none), "step_and_row", "step_and_row", defArgs sStepAndRow, defBody sStepAndRow, defScope sStepAndRow⟩, ⟨("row_by_step", none), "row_by_step", "row_by_step", defArgs sRowByStep, defBody sRowByStep, defScope sRowByStep⟩, ⟨("step_then", none), "step_then", "step_then", defArgs sStepThen, defBody sStepThen, defScope sStepThen⟩, ⟨("product", none), "product", "product", defArgs sProduct, defBody sProduct, defScope sProduct⟩, ⟨("_law_goes_on", none), "_law_goes_on", "_law_goes_on", defArgs sLGoesOn, defBody sLGoesOn, defScope sLGoesOn⟩]
def fn3 : List He.FnD := [⟨("law", none), "law", "law", defArgs sLaw, defBody sLaw, defScope sLaw⟩]
def fn : List He.FnD := fn0 ++ fn1 ++ fn2 ++ fn3
def fa0 : List He.Fa := [.glo "_law_deck", .keep "_law_deck", .glo "_law_draw", .keep "_law_draw", .glo "_law_pick", .keep "_law_pick", .glo "_law_some_field", .keep "_law_some_field", .glo "_law_some_bend", .keep "_law_some_bend", .glo "_law_some_place", .keep "_law_some_place", .glo "is_integer", .keep "is_integer", .glo "is_number", .keep "is_number", .glo "are_numbers", .keep "are_numbers", .glo "is_one_letter", .keep "is_one_letter", .glo "is_bend", .keep "is_bend", .glo "is_place", .keep "is_place", .glo "look_at_places", .keep "look_at_places", .glo "many_behind", .keep "many_behind", .glo "_law_many", .keep "_law_many", .glo "_law_bends", .keep "_law_bends", .glo "_law_behind", .keep "_law_behind", .glo "bends_up_to", .keep "bends_up_to", .glo "behind", .keep "behind", .glo "place_ahead", .keep "place_ahead"]
def fa1 : List He.Fa := [.glo "ahead", .keep "ahead", .glo "opposite", .keep "opposite", .glo "minus", .keep "minus", .glo "times", .keep "times", .glo "straight_determinant", .keep "straight_determinant", .glo "is_straight", .keep "is_straight", .glo "is_step", .keep "is_step", .glo "look_at_steps", .keep "look_at_steps", .glo "inverse", .keep "inverse", .glo "turn_and_map", .keep "turn_and_map", .glo "place_by_step", .keep "place_by_step", .glo "place_of", .keep "place_of", .glo "turn_by", .keep "turn_by", .glo "straight_step", .keep "straight_step", .glo "place_step", .keep "place_step", .glo "step_of_place", .keep "step_of_place", .glo "_law_ahead", .keep "_law_ahead", .glo "are_beside", .keep "are_beside", .glo "place_depth", .keep "place_depth", .glo "depth", .keep "depth"]
def fa2 : List He.Fa := [.glo "_law_are_beside", .keep "_law_are_beside", .meth "LeastRow" "__init__", .glo "plus", .keep "plus", .glo "summed", .keep "summed", .glo "straight_then", .keep "straight_then", .glo "trimmed", .keep "trimmed", .glo "one_plus", .keep "one_plus", .glo "one_times", .keep "one_times", .glo "one_put", .keep "one_put", .glo "one_scaled", .keep "one_scaled", .glo "bend_ahead", .keep "bend_ahead", .meth "LeastRow" "add_to_last_bend", .meth "LeastRow" "put_bend", .meth "LeastRow" "put_piece", .meth "LeastRow" "as_step", .glo "step_and_row", .keep "step_and_row", .glo "row_by_step", .keep "row_by_step", .glo "step_then", .keep "step_then", .glo "product", .keep "product", .glo "_law_goes_on", .keep "_law_goes_on", .glo "law", .keep "law", .glo "LeastRow", .cls "LeastRow", .noat "LeastRow" "q"]
def fa3 : List He.Fa := [.noat "LeastRow" "turns", .noat "LeastRow" "bends", .noat "LeastRow" "last", .mkr "LeastRow", .glo "SUMS", .glo "PRODUCTS", .glo "ROOT", .glo "SAME", .free "all", .free "bool", .free "enumerate", .free "int", .free "isinstance", .free "len", .free "list", .free "max", .free "min", .free "range", .free "repr", .free "reversed", .free "set", .free "sorted", .free "tuple", .free "zip"]
def fa : List He.Fa := fa0 ++ fa1 ++ fa2 ++ fa3
def fdl : List He.DefD := []
def ex (K : PySem.W.Frag) : Bool := (tabIs K (He.ga K "SUMS") Fld.S) && (tabIs K (He.ga K "PRODUCTS") Fld.M) && (rootIs K (He.ga K "ROOT")) && (rowIs K (.ref (He.ga K "SAME")) [1, 0, 0, 0, 1, 0]) && (HX.intB K "NO_TURN" (-1)) && (HX.strB K "STRAIGHT" "straight") && (HX.strB K "BENT" "bent")
abbrev hk : PySem.W.Hook := HX.hookX 5 fa fn fdl ex
def ob (s : PySem.W.SharedT) : HX.Al := HX.obsX 5 fa fn fdl ex (HandSHeadRun.getT s)
theorem ob_eq (s : PySem.W.SharedT) : ob s = hk.obs s.abs := HX.obsX_eq (HandSHeadRun.getT_eq s)
theorem runF0 (w : World) (os : OsState) : (HandSHeadRun.endF (HandSHeadRun.stepQ (HandSHeadRun.denQ HandSHeadRun.tabQ) R.prog (w.withFollow "special-get-raises" false)) 20000 R.prog (w.withFollow "special-get-raises" false) os).map (fun s => (HandSHeadRun.looksF R.prog (boot_heap (w.withFollow "special-get-raises" false).params) s.abs, HandSHeadRun.seenQ qv loose (importedModules R.prog.main.body) (fun s => xlAt qv [] s && recOk R.toRowW.records s) s.abs)) = some (true, PySem.W.openGood qv loose) := by kernel_rfl
theorem runF1 (w : World) (os : OsState) : (HandSHeadRun.endF (HandSHeadRun.stepQ (HandSHeadRun.denQ HandSHeadRun.tabQ) R.prog (w.withFollow "special-get-raises" false)) 20000 R.prog (w.withFollow "special-get-raises" false) os).map (fun s => fa.all fun f => f.ok (HX.part 5 (HandSHeadRun.getT s))) = some true := by kernel_rfl
theorem runF2 (w : World) (os : OsState) : (HandSHeadRun.endF (HandSHeadRun.stepQ (HandSHeadRun.denQ HandSHeadRun.tabQ) R.prog (w.withFollow "special-get-raises" false)) 20000 R.prog (w.withFollow "special-get-raises" false) os).map (fun s => (fn.all fun d => (He.Fa.code d.at_ d.qual).ok (HX.part 5 (HandSHeadRun.getT s)), fn.map fun d => He.fnObs (HX.part 5 (HandSHeadRun.getT s)) d.at_)) = some (true, fn.map He.FnD.val) := by kernel_rfl
theorem runF3 (w : World) (os : OsState) : (HandSHeadRun.endF (HandSHeadRun.stepQ (HandSHeadRun.denQ HandSHeadRun.tabQ) R.prog (w.withFollow "special-get-raises" false)) 20000 R.prog (w.withFollow "special-get-raises" false) os).map (fun s => ex (HX.part 5 (HandSHeadRun.getT s))) = some true := by kernel_rfl
theorem runF4 (w : World) (os : OsState) : (HandSHeadRun.endF (HandSHeadRun.stepQ (HandSHeadRun.denQ HandSHeadRun.tabQ) R.prog (w.withFollow "special-get-raises" false)) 20000 R.prog (w.withFollow "special-get-raises" false) os).map (fun s => He.obsD [] fdl (HX.part 5 (HandSHeadRun.getT s))) = some (He.valD fdl) := by kernel_rfl
theorem runF (w : World) : HandSHeadRun.RunEq R qv hk ob 20000 loose (w.withFollow "special-get-raises" false) := fun os =>
  HX.join3' (HX.join3 (runF0 w os) (runF1 w os) (runF2 w os) (runF3 w os) (runF4 w os))
theorem runT0 (w : World) (os : OsState) : (HandSHeadRun.endF (HandSHeadRun.stepQ (HandSHeadRun.denQ HandSHeadRun.tabQ) R.prog (w.withFollow "special-get-raises" true)) 20000 R.prog (w.withFollow "special-get-raises" true) os).map (fun s => (HandSHeadRun.looksF R.prog (boot_heap (w.withFollow "special-get-raises" true).params) s.abs, HandSHeadRun.seenQ qv loose (importedModules R.prog.main.body) (fun s => xlAt qv [] s && recOk R.toRowW.records s) s.abs)) = some (true, PySem.W.openGood qv loose) := by kernel_rfl
theorem runT1 (w : World) (os : OsState) : (HandSHeadRun.endF (HandSHeadRun.stepQ (HandSHeadRun.denQ HandSHeadRun.tabQ) R.prog (w.withFollow "special-get-raises" true)) 20000 R.prog (w.withFollow "special-get-raises" true) os).map (fun s => fa.all fun f => f.ok (HX.part 5 (HandSHeadRun.getT s))) = some true := by kernel_rfl
theorem runT2 (w : World) (os : OsState) : (HandSHeadRun.endF (HandSHeadRun.stepQ (HandSHeadRun.denQ HandSHeadRun.tabQ) R.prog (w.withFollow "special-get-raises" true)) 20000 R.prog (w.withFollow "special-get-raises" true) os).map (fun s => (fn.all fun d => (He.Fa.code d.at_ d.qual).ok (HX.part 5 (HandSHeadRun.getT s)), fn.map fun d => He.fnObs (HX.part 5 (HandSHeadRun.getT s)) d.at_)) = some (true, fn.map He.FnD.val) := by kernel_rfl
theorem runT3 (w : World) (os : OsState) : (HandSHeadRun.endF (HandSHeadRun.stepQ (HandSHeadRun.denQ HandSHeadRun.tabQ) R.prog (w.withFollow "special-get-raises" true)) 20000 R.prog (w.withFollow "special-get-raises" true) os).map (fun s => ex (HX.part 5 (HandSHeadRun.getT s))) = some true := by kernel_rfl
theorem runT4 (w : World) (os : OsState) : (HandSHeadRun.endF (HandSHeadRun.stepQ (HandSHeadRun.denQ HandSHeadRun.tabQ) R.prog (w.withFollow "special-get-raises" true)) 20000 R.prog (w.withFollow "special-get-raises" true) os).map (fun s => He.obsD [] fdl (HX.part 5 (HandSHeadRun.getT s))) = some (He.valD fdl) := by kernel_rfl
theorem runT (w : World) : HandSHeadRun.RunEq R qv hk ob 20000 loose (w.withFollow "special-get-raises" true) := fun os =>
  HX.join3' (HX.join3 (runT0 w os) (runT1 w os) (runT2 w os) (runT3 w os) (runT4 w os))
theorem run (w : World) : HandSHeadRun.RunEq R qv hk ob 20000 loose w := PySem.W.byRow2 "special-get-raises" (P := fun w => HandSHeadRun.RunEq R qv hk ob 20000 loose w) runF runT w
end HY
set_option Elab.async false
set_option linter.all false
set_option maxRecDepth 100000
set_option maxHeartbeats 4000000
/-! General rules of mine: repr of data, index of a tuple of ints, a written dict with int keys, defs that know that no repr runs around them. -/
namespace BP
open PySem PySem.Spec PyProof.Rows L2

/-! ### repr of data -/
def rRepr (K : PySem.W.Frag) : List V → Hp → VK → Prop := fun xs H Q =>
  ∃ a d, xs = [.ref a] ∧ Dp K H (.ref a) d ∧ d.showable = true ∧ d.hasDict = false ∧ d.depth ≤ 40 ∧ d.shown.length ≤ sizeLine ∧ Q (.str d.shown) H
section
variable {X : Cx}
theorem call_repr_data (hg : X.A.guards = some []) (hu : X.A.units + 64 < cLine) : CallR X (.builtin "repr") (rRepr X.K) := by
  intro pins s σ H xs us Q I r h
  obtain ⟨a, d, rfl, hd, hs, hn, hdep, hz, q⟩ := h
  obtain ⟨u, rfl, ru⟩ := vals1 r
  have e : u = Value.ref a := ru
  subst e
  obtain ⟨as, rd⟩ := Dp.reads I d _ _ hd rfl
  refine repr_of_reads' rd hs (PyData.noDict_hsm hn) hg (by omega) (fun b o e => e) (fun h' u tk hk => ?_) hz
  exact ⟨.str d.shown, H, I.kept hk, ⟨_, rfl⟩, q⟩
end

/-! ### t.index(n) of a tuple of whole numbers -/
theorem flat_ints (ys : List Int) : (ys.map V.int).all flatV = true := by
  rw [List.all_map]
  exact List.all_eq_true.mpr fun _ _ => rfl
def rTupIx (K : PySem.W.Frag) : V → List V → Hp → VK → Prop := fun x xs H Q =>
  ∃ p, ∃ ys : List Int, ∃ z j, x = .ref p ∧ xs = [.int z] ∧ SqT K H p (ys.map V.int) ∧ ys[j]? = some z ∧ (∀ m, m < j → ys[m]? ≠ some z) ∧ Q (.int (j : Nat)) H
theorem mt_tupIx {X : Cx} : MtR X "tuple.index" (rTupIx X.K) := by
  intro pins s σ H x xs v us Q I rx rs h
  obtain ⟨p, ys, z, j, rfl, rfl, hq, hy, hno, q⟩ := h
  cases rx
  obtain ⟨u, rfl, t, rfl⟩ := vals1 rs
  obtain ⟨its, r, pl, hz⟩ := I.tuple hq
  obtain ⟨⟨cls, dd, dt, sl⟩, ho, hc, n, hd⟩ := pl
  simp only at hc hd
  subst hc hd
  have hl : its.toArray.size = ys.length := by
    rw [List.size_toArray, ← r.length, List.length_map]
  have hj : j < its.toArray.size := by
    rw [hl]
    exact (List.getElem?_eq_some_iff.mp hy).1
  have look : ∀ (m : Nat) (hm : m < its.toArray.size), ∃ y t', ys[m]? = some y ∧ its.toArray[m] = Value.int y t' := by
    intro m hm
    have hm' : m < ys.length := by
      rw [← hl]
      exact hm
    obtain ⟨w, hw, t', hw'⟩ := r.get (i := m) (x := .int ys[m]) (by simp [hm'])
    refine ⟨ys[m], t', List.getElem?_eq_getElem hm', ?_⟩
    have e := (List.getElem?_eq_some_iff.mp hw).2
    rw [← hw', ← e]
    simp
  have ev : ∀ (y : Int) (t' : Tok), eqU (.int z) (Value.int y t') = decide (y = z) := by
    intro y t'
    show eqV (.int y) (.int z) = _
    by_cases e : y = z
    · subst e
      simp [eqV]
    · simp [eqV, e]
  refine call_meets PySem.F.slot_tuple_index ⟨_, ho, rfl⟩ PySem.F.entry_tuple_index (PySem.F.args_tuple_index_2 _ _)
    (TI.tuple_indexAt p its.toArray n dd sl (.int z t) (eqU (.int z)) j hj ?_ ?_)
    ⟨ho, fun w hw => mem_eqAt (x := .int z) ⟨t, rfl⟩ rfl r (flat_ints ys) w (by simpa using hw), ⟨.int (j : Nat), H, I.tok _, ⟨_, rfl⟩, q⟩⟩
  · obtain ⟨y, t', h1, h2⟩ := look j hj
    rw [h2, ev]
    rw [hy] at h1
    cases h1
    exact decide_eq_true rfl
  · intro m hm hmj
    obtain ⟨y, t', h1, h2⟩ := look m hm
    rw [h2, ev]
    exact decide_eq_false fun e => hno m hmj (e ▸ h1)

/-! ### a dict of the module whose keys are whole numbers -/
def keysI (es : List DictEntry) : Bool := es.all fun e => match e.key with
  | .int i _ => e.hash == hashInt i
  | _ => false
def KDI (K : PySem.W.Frag) (d : Addr) (i : Int) (v : V) : Prop :=
  ∃ es n u, K.lookup d = some ⟨.type "dict", none, .dict es n, #[]⟩ ∧ keysI es.toList = true ∧ findBy Value.isInt es i = some u ∧ RelV v u
theorem ix_kint {X : Cx} : IxR X (fun x y H Q => ∃ p i v, x = .ref p ∧ y = .int i ∧ KDI X.K p i v ∧ Q v H) := by
  intro value slice pins s σ H x y v u Q I rx ry h hs
  obtain ⟨p, i, z, rfl, rfl, ⟨es, n, u0, hl, hk, e, ru⟩, q⟩ := h
  obtain rfl : v = Value.ref p := rx
  obtain ⟨t, rfl⟩ := ry
  have hm : s.heap.MapOf (intKind X.prog X.w) p (fun k => findBy Value.isInt es k) := by
    refine ⟨_, es, n, I.kIn _ _ hl, ⟨rfl, rfl, rfl⟩, rfl, fun e he => ?_, fun _ => rfl⟩
    have q := List.all_eq_true.mp hk e (Array.mem_toList_iff.mpr he)
    split at q
    · rename_i i t' ek
      refine ⟨i, ?_, beq_iff_eq.mp q⟩
      rw [ek]
      exact intKind_is X.prog X.w i t'
    · cases q
  exact tail_any hm.typeIs slot_dict_getitem.lookup (wpAny_getItem_of (intKind_is X.prog X.w i t) hm e ⟨z, H, I.tok _, ru, q⟩) hs
end BP
set_option Elab.async false
set_option linter.all false
set_option maxRecDepth 100000
set_option maxHeartbeats 4000000
/-! Defs that are called where no repr is under way: their promise may use that. -/
namespace BP
open PySem PySem.Spec PyProof.Rows L2

section
variable (P : Program) (w : World) (K : PySem.W.Frag) (mg : Str → Option Value) (base : Heap)
/-- as FnOk, but only where no guard is up -/
structure GFn (k : Nat) (f : Addr) (fd : FuncData) (ps : List Str) (sp : Sp) : Prop where
  len : ∀ vs H Q E, sp vs H Q E → vs.length = ps.length
  run : ∀ (A : Around) (outer : List Env) (s : Shared) (H : Hp) (args : Args) (us : List Value) (vs : List V) (Q : VK) (E : XK),
    A.guards = some [] → Room k A → Env0 P w K mg base A outer s H → BindsTo s fd args (ps.zip us) → Vals vs us → sp vs H Q E →
    codeAny (model P w) A (.call (.ref f) args) (CR CX0 outer P w H s Q E) s
end

section
variable {P : Program} {w : World} {K : PySem.W.Frag} {mg : Str → Option Value} {base : Heap}
theorem FnOk.g {k : Nat} {f : Addr} {fd : FuncData} {ps : List Str} {sp : Sp} (F : FnOk P w K mg base CX0 k f fd ps sp) : GFn P w K mg base k f fd ps sp :=
  ⟨F.len, fun A outer s H args us vs Q E _ hr => F.run A outer s H args us vs Q E hr⟩

theorem gfn_of {k : Nat} {f : Addr} {name qual : Str} {params : Arguments} {body : List Stmt} {scope : Scope} {dV kV doc pm cdv ct oc : Value} {an od : Option Addr} {osl : Array (Option Value)} {N ps : List Str} {sp : Sp}
    (look : K.lookup f = some ⟨oc, od, .func (PySem.W.fnOf name qual params body scope dV kV doc pm an cdv ct), osl⟩) (code : PySem.W.codeIn K cdv qual = true) (S : FnScope N ps scope)
    (len : ∀ vs H Q E, sp vs H Q E → vs.length = ps.length)
    (hb : ∀ (A : Around) (outer : List Env) (s : Shared) (H : Hp) (vs : List V) (Q : VK) (E : XK), A.guards = some [] → Room k (A.deeper (envOfC qual scope s.heap.objs.size f cdv)) → sp vs H Q E →
      ∃ t, PSs (cxOf CX0 P w K mg base N qual scope f cdv A outer s H E) body t ∧ t { nx := fun _ H' => Q .non H', rt := Q } (start N vs) H) :
    GFn P w K mg base (k + 1) f (PySem.W.fnOf name qual params body scope dV kV doc pm an cdv ct) ps sp := by
  refine ⟨len, fun A outer s H args us vs Q E hg room env bnd rel want => ?_⟩
  have hl := len _ _ _ _ want
  have inK : K.In s.heap := env.mod.kin.keeps fun b o e => (env.bs b o e).1
  have noLim : s.heap.NoLimit := env.mod.nolimit.keeps fun b o e => (env.bs b o e).1
  have kinds : ∀ y ∈ ps.zip us, scope.names.lookup y.1 = some .local ∨ (scope.names.lookup y.1 = some .cell ∧ ((cellsFrom (s.heap.objs.size + 1) scope.names []).lookup y.1).isSome = true) := by
    intro ⟨n, v⟩ hy
    cases S.par n (List.of_mem_zip hy).1 with
    | inl q => exact .inl q
    | inr q => exact .inr ⟨q, PySem.W.cellsFrom_some _ _ _ (.inl q)⟩
  refine codeAny_call_function room.depth (inK _ _ look) rfl S.co S.gen rfl
    (PySem.W.codeRec_of inK code) (bnd _ _ _ _ ?_)
  refine wpAny_newFunctionEnv_cells S.kind kinds fun env1 he s1 x => ?_
  subst he
  refine ⟨noLim.keeps x.toInCall.keep, codeAny_func ?_⟩
  obtain ⟨t, ht, hq⟩ := hb A outer s H vs Q E hg (room.deeper _) want
  have inv0 : Inv (cxOf CX0 P w K mg base N qual scope f cdv A outer s H E) [] (start N vs) H s1 :=
    inv_start S room.hd env hl rel x
  refine wpAny_mono (ht.run [] s1 (start N vs) H _ inv0 hq) (fun fl s' hs => ?_) fun _ _ z => z
  cases fl with
  | ret u =>
    obtain ⟨v, σ', H', J, rv, q⟩ := hs
    exact ⟨v, H', J.os, J.bare, J.base, J.hok, rv, q⟩
  | next =>
    obtain ⟨σ', H', J, q⟩ := hs
    exact ⟨V.non, H', J.os, J.bare, J.base, J.hok, rfl, q⟩
  | brk =>
    obtain ⟨_, _, _, q⟩ := hs
    exact q.elim
  | cont =>
    obtain ⟨_, _, _, q⟩ := hs
    exact q.elim

/-- by the text's def -/
theorem gok {x qual : Str} {st : Stmt} {f : Addr} {fd : FuncData} {N ps : List Str} {k : Nat} {sp : Sp} (F : Fun K x qual st f fd) (S : FnScope N ps (defScope st)) (len : ∀ vs H Q E, sp vs H Q E → vs.length = ps.length)
    (hb : ∀ (cdv : Value) (A : Around) (outer : List Env) (s : Shared) (H : Hp) (vs : List V) (Q : VK) (E : XK), A.guards = some [] → Room k (A.deeper (envOfC qual (defScope st) s.heap.objs.size f cdv)) → sp vs H Q E →
      ∃ t, PSs (cxOf CX0 P w K mg base N qual (defScope st) f cdv A outer s H E).nox (defBody st) t ∧ t { nx := fun _ H' => Q .non H', rt := Q } (start N vs) H) : GFn P w K mg base (k + 1) f fd ps sp := by
  obtain ⟨oc, od, kV, doc, pm, an, cdv, ct, osl, rfl, lk, cd⟩ := F.ex
  refine gfn_of lk cd S len fun A outer s H vs Q E hg hr want => ?_
  obtain ⟨t, h, q⟩ := hb cdv A outer s H vs Q E hg hr want
  exact ⟨t, h.nox, q⟩
end

section
variable {X : Cx} {k : Nat} {f : Addr} {fd : FuncData} {ps : List Str} {sp : Sp} {E : XK} {x : Str} {p pos : Pos} {e : Expr} {es : List Expr} {t : TA}
theorem pe_callG (F : GFn X.prog X.w X.K X.mg X.base k f fd ps sp) (gd : X.A.guards = some []) (hr : Room k X.A) (hg : Gl X x) (hm : X.mg x = some (.ref f)) (hk : PySem.W.keepIn X.K (.ref f) = true)
    (hb : Binds X.K fd ps []) (hx : Passes CX0 X E)
    (ha : PA X (e :: es) t) (hdb : (x == ("__debug__" : Str)) = false := by decide) (he : starEach (e :: es) X.env = (false, eval e X.env) :: starEach es X.env := by rfl)
    (hpl : (backTo pos (starEach es X.env)).any (·.1) = false := by rfl) :
    PE X (.Call (.Name x p) (e :: es) [] pos) (tCall sp [] E t) := by
  refine ⟨fun pins s σ H Q I h => wpAny_Call_Name_kw (ld_glob I hg hm ?_ hdb)⟩
  have args := ha.run pos pins s σ H _ I h
  refine PySem.W.callWith_K (h₀ := X.base) I.ok.mod.kin hk (thn args fun us s1 h1 => ?_) he hpl
  obtain ⟨vs, H1, I1, r, q⟩ := h1
  refine ⟨I1.kIn, ?_⟩
  have q' : sp vs H1 Q E := by
    have q0 : sp (vs ++ []) H1 Q E := q
    rw [List.append_nil] at q0
    exact q0
  have hl : (us ++ []).length = ps.length := by
    rw [List.append_nil, ← r.length]
    exact F.len _ _ _ _ q'
  have bd := hb s1 us I1.kIn hl
  rw [List.append_nil] at bd
  refine wpAny_call (codeAny_mono (F.run X.A X.stack s1 H1 ⟨us, []⟩ us vs Q E gd hr I1.env0 bd r q') fun res s' hq => ?_)
  match res, hq with
  | .error er, hq => exact hx pins σ H1 s1 er s' I1 hq
  | .ok (.ret u), hq => exact I1.after hq
end

/-! ### the law's own call -/
section
variable {P : Program} {w : World} {K : PySem.W.Frag} {mg mb : Str → Option Value} {k : Nat} {fa a : Addr} {fd : FuncData} {x : Str} {sp : Sp} {s₁ : Shared} {vs : List Value} {ns : List Int}
/-- what the caller of the law wants -/
def Fine (s₀ : Shared) (r : Result) (s' : Shared) : Prop :=
  r = .ok (.ret (.bool true)) ∧ OldK s₀.heap s'.heap ∧ s'.os = s₀.os ∧ AllBare s'.gens
theorem law_core (KX : K.In s₁.heap) (hns : s₁.heap.Ns mainGlobals mg) (hb : s₁.heap.Ns builtinsNs mb) (hbb : ∀ x : Str, x ≠ "__name__" → mb x = bootBuiltins x) (hlim : s₁.heap.NoLimit) (hg : s₁.gens = #[])
    (ha : s₁.heap.get? a = some { cls := .type "list", data := .seq vs.toArray }) (hr : Room k callerA)
    (F : ∀ base : Heap, K.In base → base.Ns mainGlobals mg → GFn P w K mg base k fa fd [x] sp) (hbind : ∀ (s : Shared) (u : Value), BindsTo s fd ⟨[u], []⟩ [(x, u)])
    (H : Hp) (only : Only H) (ok : HOk P w H s₁.heap) (hA : ∀ b, H b ≠ none → b = a) (hK : H a ≠ none → K.lookup a = none)
    (want : sp [.ref a] H (fun v _ => v = .bl true) fun _ _ _ => False) :
    codeAny (model P w) callerA (.call (.ref fa) ⟨[.ref a], []⟩) (Fine s₁) s₁ := by
  have at_a : ∀ {b : Addr} {o : Obj}, s₁.heap.get? b = some o → H b ≠ none → o = { cls := .type "list", data := .seq vs.toArray } := by
    intro b o e n
    rw [hA b n, ha] at e
    exact (Option.some.inj e).symm
  have free : ∀ {b : Addr} {o : Obj} {es : Array DictEntry} {ep : Nat}, s₁.heap.get? b = some o → o.data = .dict es ep → H b = none := by
    intro b o es ep e d
    refine Classical.byContradiction fun n => ?_
    rw [at_a e n] at d
    exact nomatch d
  have keepNs : ∀ {b : Addr} {m : Str → Option Value}, s₁.heap.Ns b m → (hidT s₁.heap H).Ns b m := by
    intro b m z
    obtain ⟨o, es, ep, e, d, r⟩ := z
    exact ⟨o, es, ep, hidT_get e (free e d), d, r⟩
  have KB : K.In (hidT s₁.heap H) := by
    intro b o e
    refine hidT_get (KX b o e) (Classical.byContradiction fun n => ?_)
    have eb := hA b n
    subst eb
    rw [hK n] at e
    cases e
  obtain ⟨mc, lim1, lim2⟩ := hlim
  have M : Mod K mg (hidT s₁.heap H) := ⟨KB, keepNs hns, ⟨mb, keepNs hb, hbb⟩, ⟨mc, keepNs lim1, lim2⟩⟩
  have env : Env0 P w K mg (hidT s₁.heap H) callerA [] s₁ H := by
    refine ⟨rfl, M, fun b o e => of_hidT e, Nat.le_of_eq (hidT_size _ _), trivial, fun b z => ?_, ok, .of_eq hg⟩
    exact absurd (show b ∈ ([] : List Addr) from z) (by simp)
  have run := (F _ KB (keepNs hns)).run callerA [] s₁ H ⟨[.ref a], []⟩ [.ref a] [.ref a] _ _ rfl hr env (hbind s₁ (.ref a)) (.cons rfl .nil) want
  refine codeAny_mono run fun r s' h => ?_
  match r, h with
  | .error e, h => exact False.elim h
  | .ok (.ret u), ⟨v, H', os, bare, un, ok', rv, q⟩ =>
    have q' : v = .bl true := q
    subst q'
    have ru : u = Value.bool true := rv
    subst ru
    refine ⟨rfl, OldK.of_keep fun b o e => ?_, os, bare⟩
    cases hb : H b with
    | none => exact un.keep b o e hb (fun z => absurd (show b ∈ ([] : List Addr) from z) (by simp)) (by simp)
    | some t =>
      cases only b with
      | inl z =>
        rw [hb] at z
        cases z
      | inr z =>
        obtain ⟨ob, xs, z⟩ := z
        have one := (ok b _ z).1
        have two := (ok' b _ (un.frzs b ob _ z)).1
        rw [e] at one
        cases one
        exact two

theorem law_callG (KX : K.In s₁.heap) (hns : s₁.heap.Ns mainGlobals mg) (hb : s₁.heap.Ns builtinsNs mb) (hbb : ∀ x : Str, x ≠ "__name__" → mb x = bootBuiltins x) (hlim : s₁.heap.NoLimit) (hg : s₁.gens = #[])
    (ha : s₁.heap.get? a = some { cls := .type "list", data := .seq vs.toArray }) (hi : IntsAre vs ns) (hl : ns.length ≤ sizeLine) (hr : Room k callerA)
    (F : ∀ base : Heap, K.In base → base.Ns mainGlobals mg → GFn P w K mg base k fa fd [x] sp) (hbind : ∀ (s : Shared) (u : Value), BindsTo s fd ⟨[u], []⟩ [(x, u)])
    (want : ∀ H : Hp, Only H → SqL K H a (ns.map V.int) → sp [.ref a] H (fun v _ => v = .bl true) fun _ _ _ => False) :
    codeAny (model P w) callerA (.call (.ref fa) ⟨[.ref a], []⟩) (Fine s₁) s₁ := by
  have rv := vals_ints hi
  cases hk : K.lookup a with
  | some o =>
    have e := KX a o hk
    rw [ha] at e
    cases e
    have nowhere : ∀ b : Addr, (fun _ => none : Hp) b ≠ none → b = a := fun b z => absurd rfl z
    refine law_core KX hns hb hbb hlim hg ha hr F hbind (fun _ => none) (fun _ => .inl rfl) (fun b u z => nomatch z) nowhere (fun z => absurd rfl z) (want _ (fun _ => .inl rfl) (.inr ?_))
    refine ⟨_, vs.toArray, _, hk, rfl, rfl, rfl, ?_, by simpa using rv⟩
    rw [List.size_toArray, hi.length]
    exact hl
  | none =>
    let H : Hp := upd (fun _ => none) a (.frz { cls := .type "list", data := .seq vs.toArray } (.lst (ns.map V.int)))
    have off : ∀ b, b ≠ a → H b = none := fun b n => upd_ne n
    have on : H a = _ := upd_same
    refine law_core KX hns hb hbb hlim hg ha hr F hbind H (fun b => ?_) (fun b u z => ?_) (fun b z => Classical.byContradiction fun n => z (off b n)) (fun _ => hk) (want H (fun b => ?_) (.inl (.inr ⟨_, on⟩)))
    · by_cases n : b = a
      · subst n
        exact .inr ⟨_, _, on⟩
      · exact .inl (off b n)
    · by_cases n : b = a
      · subst n
        rw [on] at z
        cases z
        refine ⟨ha, ?_, vs, _, rv, ha⟩
        rw [List.length_map]
        exact hl
      · rw [off b n] at z
        cases z
    · by_cases n : b = a
      · subst n
        exact .inr ⟨_, _, on⟩
      · exact .inl (off b n)
end

theorem walkG {l : PySem.W.OpenLaw} {n k : Nat} {q : Program} {loose : List Str} {XP : (Str → Option Value) → Heap → Prop} {YP : World → Heap → Prop} {d : DefRec} {K : Params → PySem.W.Frag} {sp : World → Sp} {x : Str}
    (hn : l.most = some n) (hn2 : n ≤ sizeLine) (hdf : d.params.defaults = []) (hr : Room k callerA) (hY : ∀ (w : World) (h : Heap), YP w h → (K w.params).In h)
    (F : ∀ (w : World) (mg : Str → Option Value) (fa : Addr) (h : Heap), (K w.params).In h → h.Ns mainGlobals mg → mg d.name = some (.ref fa) →
      ∃ fd : FuncData, (∀ (s : Shared) (u : Value), BindsTo s fd ⟨[u], []⟩ [(x, u)]) ∧
        ∀ base : Heap, (K w.params).In base → base.Ns mainGlobals mg → GFn l.prog w (K w.params) mg base k fa fd [x] (sp w))
    (want : ∀ (w : World) (H : Hp) (a : Addr) (ns : List Int), ns.length ≤ n → Only H → SqL (K w.params) H a (ns.map V.int) → sp w [.ref a] H (fun v _ => v = .bl true) fun _ _ _ => False) :
    PySem.W.WalkO q loose XP YP l.row.toRowW d [] (fun f vs => PySem.call f vs) := by
  refine Att.attach_call hn hdf fun w s₀ s₁ mg mb fa o pm cd doc a vs ns G Y ho hd hcd hmg hobj hints hlen hg => ?_
  have KX := hY w _ Y
  obtain ⟨fd, hb, hF⟩ := F w mg fa _ KX G.T.g hmg
  exact law_callG KX G.T.g G.T.b G.T.builtins G.T.nolimit hg hobj hints (Nat.le_trans hlen hn2) hr hF hb (fun H o sq => want w H a ns hlen o sq)
end BP
set_option Elab.async false
set_option linter.all false
set_option maxRecDepth 100000
set_option maxHeartbeats 4000000
/-! Calls by keywords alone. -/
namespace BP
open PySem PySem.Spec PyProof.Rows L2
section
variable {X : Cx} {CX : CXT} {k : Nat} {f : Addr} {fd : FuncData} {ps ks : List Str} {sp : Sp} {E : XK} {x : Str} {p pos : Pos} {kws : List Keyword} {tk : TA} {g : List Value → List Value → List Value} {gV : List V → List V → List V}
theorem pe_callK0 (F : FnOk X.prog X.w X.K X.mg X.base CX k f fd ps sp) (hr : Room k X.A) (hg : Gl X x) (hm : X.mg x = some (.ref f)) (hk : PySem.W.keepIn X.K (.ref f) = true)
    (hb : KBinds X.K fd ps ks g gV) (hx : Passes CX X E) (hkw : PK X kws tk)
    (hall : (backToKw pos (keywordEach kws X.env)).all (·.1.isSome) = true := by rfl)
    (hks : (backToKw pos (keywordEach kws X.env)).filterMap (·.1) = ks := by rfl)
    (hdb : (x == ("__debug__" : Str)) = false := by decide)
    (hpl : ((backTo pos (starEach [] X.env)).any (·.1) || (backToKw pos (keywordEach kws X.env)).any (·.1.isNone)) = false := by rfl) :
    PE X (.Call (.Name x p) [] kws pos) (tCallK sp gV E tNil tk) := by
  refine ⟨fun pins s σ H Q I h => wpAny_Call_Name_kw (ld_glob I hg hm ?_ hdb)⟩
  have run := hkw.run pos pins s σ H _ I h
  refine PySem.W.callWith_KW0 (h₀ := X.base) I.ok.mod.kin hk hall (thn run fun ws s2 hh => ?_) hpl
  obtain ⟨zs, H2, I2, rz, q2⟩ := hh
  refine ⟨I2.kIn, ?_⟩
  rw [hks]
  exact run_fnk (us := []) F hr hb hx I2 .nil rz q2
end
/-- two keywords, the other way round -/
def sw2 {α : Type} : List α → List α → List α
  | [], x :: y :: _ => [y, x]
  | _, _ => []
/-- three keywords: the last two, then the first one -/
def sw3 {α : Type} : List α → List α → List α
  | [], x :: y :: z :: _ => [y, z, x]
  | _, _ => []
/-- three keywords, backwards -/
def rv3 {α : Type} : List α → List α → List α
  | [], x :: y :: z :: _ => [z, y, x]
  | _, _ => []
theorem sw2_rel : ∀ {vs : List V} {us : List Value} {zs : List V} {ws : List Value}, Vals vs us → Vals zs ws → Vals (sw2 vs zs) (sw2 us ws)
  | _, _, _, _, .nil, .cons a (.cons b _) => .cons b (.cons a .nil)
  | _, _, _, _, .nil, .nil => .nil
  | _, _, _, _, .nil, .cons _ .nil => .nil
  | _, _, _, _, .cons _ _, .nil => .nil
  | _, _, _, _, .cons _ _, .cons _ .nil => .nil
  | _, _, _, _, .cons _ _, .cons _ (.cons _ _) => .nil
theorem sw3_rel : ∀ {vs : List V} {us : List Value} {zs : List V} {ws : List Value}, Vals vs us → Vals zs ws → Vals (sw3 vs zs) (sw3 us ws)
  | _, _, _, _, .nil, .cons a (.cons b (.cons c _)) => .cons b (.cons c (.cons a .nil))
  | _, _, _, _, .nil, .nil => .nil
  | _, _, _, _, .nil, .cons _ .nil => .nil
  | _, _, _, _, .nil, .cons _ (.cons _ .nil) => .nil
  | _, _, _, _, .cons _ _, .nil => .nil
  | _, _, _, _, .cons _ _, .cons _ .nil => .nil
  | _, _, _, _, .cons _ _, .cons _ (.cons _ .nil) => .nil
  | _, _, _, _, .cons _ _, .cons _ (.cons _ (.cons _ _)) => .nil
theorem rv3_rel : ∀ {vs : List V} {us : List Value} {zs : List V} {ws : List Value}, Vals vs us → Vals zs ws → Vals (rv3 vs zs) (rv3 us ws)
  | _, _, _, _, .nil, .cons a (.cons b (.cons c _)) => .cons c (.cons b (.cons a .nil))
  | _, _, _, _, .nil, .nil => .nil
  | _, _, _, _, .nil, .cons _ .nil => .nil
  | _, _, _, _, .nil, .cons _ (.cons _ .nil) => .nil
  | _, _, _, _, .cons _ _, .nil => .nil
  | _, _, _, _, .cons _ _, .cons _ .nil => .nil
  | _, _, _, _, .cons _ _, .cons _ (.cons _ .nil) => .nil
  | _, _, _, _, .cons _ _, .cons _ (.cons _ (.cons _ _)) => .nil
section
variable {K : PySem.W.Frag} {x qual : Str} {st : Stmt} {f : Addr} {fd : FuncData}
theorem kb_sw2 {a b : Str} (F : Fun K x qual st f fd)
    (h : ∀ (kV doc pm : Value) (an : Option Addr) (cdv ct u v : Value), bindArgs (PySem.W.fnOf x qual (defArgs st) (defBody st) (defScope st) .none kV doc pm an cdv ct) ⟨[], [(b, u), (a, v)]⟩ = pure [(a, v), (b, u)]) : KBinds K fd [a, b] [b, a] sw2 sw2 := by
  obtain ⟨oc, od, kV, doc, pm, an, cdv, ct, osl, rfl, _⟩ := F.ex
  refine ⟨fun s us ws _ hl => ?_, sw2_rel⟩
  match us, ws, hl with
  | [], u :: v :: r, _ => exact .of_eq (h kV doc pm an cdv ct u v)
theorem kb_sw3 {a b c : Str} (F : Fun K x qual st f fd)
    (h : ∀ (kV doc pm : Value) (an : Option Addr) (cdv ct u v w : Value), bindArgs (PySem.W.fnOf x qual (defArgs st) (defBody st) (defScope st) .none kV doc pm an cdv ct) ⟨[], [(c, u), (a, v), (b, w)]⟩ = pure [(a, v), (b, w), (c, u)]) : KBinds K fd [a, b, c] [c, a, b] sw3 sw3 := by
  obtain ⟨oc, od, kV, doc, pm, an, cdv, ct, osl, rfl, _⟩ := F.ex
  refine ⟨fun s us ws _ hl => ?_, sw3_rel⟩
  match us, ws, hl with
  | [], u :: v :: w :: r, _ => exact .of_eq (h kV doc pm an cdv ct u v w)
theorem kb_rv3 {a b c : Str} (F : Fun K x qual st f fd)
    (h : ∀ (kV doc pm : Value) (an : Option Addr) (cdv ct u v w : Value), bindArgs (PySem.W.fnOf x qual (defArgs st) (defBody st) (defScope st) .none kV doc pm an cdv ct) ⟨[], [(c, u), (b, v), (a, w)]⟩ = pure [(a, w), (b, v), (c, u)]) : KBinds K fd [a, b, c] [c, b, a] rv3 rv3 := by
  obtain ⟨oc, od, kV, doc, pm, an, cdv, ct, osl, rfl, _⟩ := F.ex
  refine ⟨fun s us ws _ hl => ?_, rv3_rel⟩
  match us, ws, hl with
  | [], u :: v :: w :: r, _ => exact .of_eq (h kV doc pm an cdv ct u v w)
end
end BP
set_option Elab.async false
set_option linter.all false
set_option maxRecDepth 100000
set_option maxHeartbeats 4000000
/-! enumerate of a tuple. -/
namespace BP
open PySem PySem.Spec PyProof.Rows L2
theorem meets_enumT {v : Value} {o : Obj} {N : Heap → Prop} (B : Begins v o N) :
    Meets (Builtin.«enumerate.__new__» ⟨[.type "enumerate", v], []⟩) (fun _ R s => N s.heap ∧
      R (.ok (.ret (.ref (s.heap.push o).objs.size))) { s with heap := (s.heap.push o).push { cls := .type "enumerate", data := .fields #[.none, .bool false, .ref s.heap.objs.size, rawInt 0, .none, .none] } }) :=
  .of_wp fun prog w A R s h => by
    obtain ⟨hp, g, d, tk, os⟩ := s
    obtain ⟨h1, h⟩ := h
    have hsub := sub_enumerate
    have q1 : ∀ {A' : Around} {E : Value → Shared → Prop} {Q : Value → Shared → Prop}, Q (.ref hp.objs.size) ⟨hp.push o, g, d, tk, os⟩ → wpAny (model prog w) A' (pyIter v) Q E ⟨hp, g, d, tk, os⟩ := by
      intro A' E Q q
      exact B.iter prog w _ _ ⟨hp, g, d, tk, os⟩ _ h1 q
    wp_walk using q1
    refine wpAny_stack_any fun ss => wpAny_pure ?_
    split
    · rename_i c _ _ _ _ _
      cases (c == Value.type "enumerate")
      · wp_walk using q1
        exact ⟨_, rfl, h⟩
      · wp_walk using q1
        exact ⟨_, rfl, h⟩
    · wp_walk using q1
      exact ⟨_, rfl, h⟩
theorem call_enumT {prog : Program} {w : World} {A : Around} {E : Value → Shared → Prop} {s : Shared} {t : Addr} {items : Array Value} {Q : Value → Shared → Prop} (htup : s.heap.IsTuple t items)
    (h : ∀ g', IsEnum g' (s.heap.objs.size + 1) s.heap.objs.size 0 .none → g'.IsTupleIter s.heap.objs.size t 0 → g'.objs.size = s.heap.objs.size + 2 →
      (∀ b o, s.heap.get? b = some o → g'.get? b = some o) → Q (.ref (s.heap.objs.size + 1)) { s with heap := g' }) :
    wpAny (model prog w) A (call (.type "enumerate") [.ref t]) Q E s := by
  refine callType_new F.called_enumerate (by decide) (F.typeCall_enumerate_1 _) (F.newCall_enumerate_1 _) (fun obj => F.args_object_init_2 obj _) F.entry_enumerate_new (meets_enumT (begins_tuple t items)) ⟨htup, ?_⟩
  have hzz : (s.heap.push { cls := .type "tuple_iterator", data := .fields #[.ref t, .int 0 0] }).objs.size = s.heap.objs.size + 1 := Heap.size_push ..
  show _ ∧ _
  rw [hzz]
  have it0 : (s.heap.push { cls := .type "tuple_iterator", data := .fields #[.ref t, .int 0 0] }).get? s.heap.objs.size = some _ := Heap.get?_push_size _ rfl
  have hee : IsEnum ((s.heap.push { cls := .type "tuple_iterator", data := .fields #[.ref t, .int 0 0] }).push { cls := .type "enumerate", data := .fields #[.none, .bool false, .ref s.heap.objs.size, rawInt 0, .none, .none] }) (s.heap.objs.size + 1) s.heap.objs.size 0 .none := by
    have e := Heap.get?_push_size (s.heap.push { cls := .type "tuple_iterator", data := .fields #[.ref t, .int 0 0] }) (o := { cls := .type "enumerate", data := .fields #[.none, .bool false, .ref s.heap.objs.size, rawInt 0, .none, .none] }) rfl
    rw [hzz] at e
    exact e
  refine ⟨⟨_, hee, rfl⟩, h _ hee ⟨_, Heap.get?_push_of_some _ it0, rfl, rfl⟩ (by rw [Heap.size_push, hzz]) fun b o x => Heap.get?_push_of_some _ (Heap.get?_push_of_some _ x)⟩
/-- the tuple at a as it stands, each item in a new pair -/
def IteT (K : PySem.W.Frag) (a : Addr) : It :=
  ⟨fun i H => ∃ (xs : List V) (x : V), SqT K H a xs ∧ xs[i]? = some x,
   fun i H v H' => ∃ T x, v = .ref T ∧ H T = none ∧ H' = upd H T (.tup [.int (i : Nat), x]) ∧ ∀ xs, SqT K H a xs → xs[i]? = some x,
   fun i H => ∃ xs : List V, SqT K H a xs ∧ xs.length ≤ i⟩
theorem turn_enumT {P : Program} {w : World} {K : PySem.W.Frag} {elts : List Expr} {kk : Nat} {tpos : Pos} (a e it : Addr) (hai : a ≠ it) :
    Turn P w K (.Tuple elts kk tpos) (IteT K a) [e, it] e (fun i h => (∃ od, IsEnum h e it ((i : Nat) : Int) od) ∧ h.IsTupleIter it a i ∧ e ≠ it) where
  mem := by simp
  obj := fun i h ss b hb => by
    obtain ⟨⟨od, hee⟩, ⟨o, hoo, hcc, hdd⟩, _⟩ := ss
    have z : b = e ∨ b = it := by simpa using hb
    cases z with
    | inl z =>
      rw [z]
      exact ⟨_, hee, fun v q => nomatch q⟩
    | inr z =>
      rw [z]
      refine ⟨o, hoo, fun v q => ?_⟩
      rw [hdd] at q
      cases q
  keep := fun i h g' ss k => by
    obtain ⟨⟨od, hee⟩, hin, hnn⟩ := ss
    exact ⟨⟨od, k e (by simp) _ hee⟩, hin.at fun o q => k it (by simp) o q, hnn⟩
  item := by
    intro X hP hw hK hcc i pl0 s σ H E I hfp ss hgo
    subst hP hw hK
    obtain ⟨⟨od, hee⟩, hii, hnn⟩ := ss
    obtain ⟨xs, x, hq, hxx⟩ := hgo
    obtain ⟨ws, rvs, p, hzz⟩ := I.tuple hq
    obtain ⟨u, huu, ruu⟩ := rvs.get hxx
    have helt : e < s.heap.objs.size := Heap.lt_size hee
    have hil : it < s.heap.objs.size := by
      obtain ⟨_, y, _⟩ := hii
      exact Heap.lt_size y
    have hea : e ≠ a := fun z => by
      obtain ⟨o, hoo, hc1, _⟩ := p
      rw [← z, hee] at hoo
      cases hoo
      have h3 : (Value.type "enumerate") = Value.type "tuple" := hc1
      injection h3 with h3
      exact absurd h3 (by decide)
    have hil2 : i < ws.toArray.size := by
      rw [List.size_toArray]
      exact (List.getElem?_eq_some_iff.mp huu).1
    refine wpAny_pyNext_enum_itemD (Draws.tuple (prog := X.prog) (w := X.w) (A := X.A.in1) (I.ok.hd hcc) it a hai ws.toArray) hee ⟨hii, (show s.heap.IsTuple a ws.toArray from p)⟩ hil2 hnn (by simp [hnn, hea]) fun y g' tk hy hoo hst htT hsz hkk => ?_
    have ey : y = u := by
      have e1 : ws[i]? = some y := by simpa using hy
      rw [huu] at e1
      exact (Option.some.inj e1).symm
    subst ey
    refine ⟨_, rfl, wpAny_letOwnedTupleGo_enum (s := { s with heap := g', toks := tk + 1 }) hoo fun h'' he' sb => ?_⟩
    have hT2 := (sb.2 _ (Nat.ne_of_gt helt)).trans htT
    have new : ObjOk X.prog X.w (upd H s.heap.objs.size (.tup [.int (i : Nat), x])) h'' s.heap.objs.size (.tup [.int (i : Nat), x]) :=
      ⟨by show 2 ≤ sizeLine; decide, [.int i tk, y], .cons ⟨_, rfl⟩ (.cons ruu .nil), ⟨_, hT2, rfl, _, rfl⟩⟩
    have far : ∀ b, b ∉ [e, it] → b ≠ e ∧ b ≠ it := fun b hb => ⟨fun z => hb (by simp [z]), fun z => hb (by simp [z])⟩
    have J1 : Inv X pl0 σ (upd H s.heap.objs.size (.tup [.int (i : Nat), x])) { s with heap := h'', toks := tk + 1 } := by
      refine I.turnedNew (ch := [e, it]) (fun b ob hb q => ?_) hfp (Nat.le_refl _) new
      obtain ⟨n1, n2⟩ := far b hb
      exact (sb.2 b n1).trans (hkk b ob n1 n2 q)
    refine ⟨.ref s.heap.objs.size, _, J1, rfl, ⟨_, x, rfl, I.hok.fresh (Nat.le_refl _), rfl, fun ys hy => by rw [I.tuple_inj hy hq]; exact hxx⟩, ⟨⟨y, ?_⟩, hst.1.at fun o q => (sb.2 it (Ne.symm hnn)).trans q, hnn⟩, fun b hb => ?_⟩
    · have e1 : ((i + 1 : Nat) : Int) = (i : Int) + 1 := by omega
      rw [e1]
      exact he'
    · have hb' : b < s.heap.objs.size := by
        have z : b = e ∨ b = it := by simpa using hb
        cases z with
        | inl z => rw [z]; exact helt
        | inr z => rw [z]; exact hil
      rw [upd_ne (Nat.ne_of_lt hb')]
      exact (hfp b hb).1
  done := by
    intro X hP hw hK hcc i pl0 s σ H E I hfp ss hgo
    subst hP hw hK
    obtain ⟨⟨od, hee⟩, hii, hnn⟩ := ss
    obtain ⟨xs, hq, hxx⟩ := hgo
    obtain ⟨ws, rvs, p, hzz⟩ := I.tuple hq
    obtain ⟨f0, f1, f2, f3, f4, f5⟩ := hfp it (by simp)
    have hsq := rvs.length
    have T : s.TypeIs (.ref e) "enumerate" := ⟨_, hee, rfl⟩
    unfold pyNext
    refine wpAny_bind (wpAny_attempt (wpAny_callSpecial?_slot (name := Str.ofString "__next__") T F.slot_enumerate_next
      (wpAny_call_entry F.slot_enumerate_next T F.entry_enumerate_next ?_ (F.args_enumerate_next_1 _))))
    show wpAny _ _ (field (.ref e) 2 >>= _) _ _ _
    refine wpAny_bind (wpAny_field hee rfl (x := .ref it) rfl ?_)
    refine wpAny_bind (wpAny_nextOf_tuple_end (by exact I.ok.hd hcc) hii (show s.heap.IsTuple a ws.toArray from p) (by simp; omega) fun g' x eb hx' => ?_)
    obtain ⟨o, hoo, hcs⟩ := hx'
    refine wpAny_bind (wpAny_isInstance (T := "StopIteration") (b := true) ⟨o, hoo, hcs⟩ isSubtype_stop ?_)
    exact wpAny_pure ⟨rfl, I.turned (t' := s.toks) (fun b o hb q => eb b o hb q) f0 f1 f3 f4 f5⟩
  self := fun A i s Q E ss h => by
    obtain ⟨⟨_, hee⟩, _⟩ := ss
    exact wpAny_pyIter_enum hee h
def iEnumT (K : PySem.W.Frag) (ta : TA) : TI := fun σ H R => ta σ H fun vs H1 => ∃ a xs, vs = [.ref a] ∧ SqT K H1 a xs ∧ R (IteT K a) H1
theorem pi_enumT {X : Cx} {e : Expr} {ta : TA} {p pos tpos : Pos} {elts : List Expr} {kk : Nat} (hgo : Gl X "enumerate") (hmg : X.mg "enumerate" = none) (hargs : PA X [e] ta) (hst : starEach [e] X.env = [(false, eval e X.env)] := by rfl) :
    PI X (.Tuple elts kk tpos) (.Call (.Name "enumerate" p) [e] [] pos) (iEnumT X.K ta) := by
  refine ⟨fun pl0 s σ H R I h => ?_⟩
  refine Call_ (ld_blt I hgo hmg boot_enumerate (PyProof.Rows.callWith_type1 (thn (hargs.run pos pl0 s σ H _ I h) fun us sh1 hh => ?_) hst rfl))
  obtain ⟨vs, H1, J1, r1, a, xs, ex, hq, q⟩ := hh
  subst ex
  cases r1 with
  | cons r rr =>
    cases rr
    cases r
    obtain ⟨ws, rvs, p', hzz⟩ := J1.tuple hq
    have hal : a < sh1.heap.objs.size := by
      obtain ⟨o, hoo, _⟩ := p'
      exact Heap.lt_size hoo
    refine call_enumT (show sh1.heap.IsTuple a ws.toArray from p') fun g' hee hii hsz hkk => wpAny_pyIter_enum hee ?_
    have J2 : Inv X pl0 σ H1 { sh1 with heap := g' } := J1.kept (t' := sh1.toks) hkk
    refine ⟨sh1.heap.objs.size + 1, [sh1.heap.objs.size + 1, sh1.heap.objs.size], _, _, H1, rfl, J2, turn_enumT a (sh1.heap.objs.size + 1) sh1.heap.objs.size (Nat.ne_of_lt hal), ⟨⟨.none, hee⟩, hii, Nat.succ_ne_self _⟩, fun b hb => ?_, q⟩
    have z : b = sh1.heap.objs.size + 1 ∨ b = sh1.heap.objs.size := by simpa using hb
    have hbl : sh1.heap.objs.size ≤ b := by
      cases z with
      | inl z =>
        rw [z]
        exact Nat.le_add_right _ _
      | inr z =>
        rw [z]
        exact Nat.le_refl _
    exact J1.fpOk hbl (J1.hok.fresh hbl)
/-- for k, x in enumerate(t) -/
theorem for_enumT {K : PySem.W.Frag} {a : Addr} {xs : List V} {g : TG} {tb : TS} {D : Ends} {σ : L2.St} {H : Hp} (Inv0 : Nat → L2.St → Hp → Prop) (hst0 : Inv0 0 σ H) (hsq : ∀ i σ H, i ≤ xs.length → Inv0 i σ H → SqT K H a xs)
    (hst : ∀ (i : Nat) (x : V) (σ : L2.St) (H : Hp) (T : Addr), xs[i]? = some x → Inv0 i σ H → H T = none → g (.ref T) σ (upd H T (.tup [.int (i : Nat), x])) fun σ2 H2 => tb { D with nx := Inv0 (i + 1), ct := Inv0 (i + 1), bk := D.nx } σ2 H2)
    (hdd : ∀ σ H, Inv0 xs.length σ H → D.nx σ H) :
    ∃ W : Nat → Nat → L2.St → Hp → Prop, (∃ m, W 0 m σ H) ∧ ∀ i m σ H, W i m σ H →
      ((IteT K a).stop i H ∧ D.nx σ H) ∨ ((IteT K a).go i H ∧ ∃ N : L2.St → Hp → Prop, (∀ σ' H', N σ' H' → ∃ m', m' < m ∧ W (i + 1) m' σ' H') ∧ ∀ x H', (IteT K a).yld i H x H' → g x σ H' fun σ2 H2 => tb { D with nx := N, ct := N, bk := D.nx } σ2 H2) := by
  refine ⟨fun i m σ H => m = xs.length - i ∧ i ≤ xs.length ∧ Inv0 i σ H, ⟨xs.length, by simp, Nat.zero_le _, hst0⟩, ?_⟩
  rintro i m σ H ⟨rfl, hin, p⟩
  have q := hsq i σ H hin p
  by_cases hlt : i < xs.length
  · refine .inr ⟨⟨xs, xs[i], q, by simp [hlt]⟩, Inv0 (i + 1), fun σ' H' p' => ⟨xs.length - (i + 1), by omega, rfl, hlt, p'⟩, fun x H' y => ?_⟩
    obtain ⟨T, z, rfl, nT, rfl, f⟩ := y
    exact hst i z σ H T (f xs q) p nT
  · have e : i = xs.length := by omega
    subst e
    exact .inl ⟨⟨xs, q, Nat.le_refl _⟩, hdd σ H p⟩
end BP
set_option Elab.async false
set_option linter.all false
set_option maxRecDepth 100000
set_option maxHeartbeats 4000000
/-! The numbers of a field as a type of their own, a field in Lean's own sense. No Python here. -/
namespace Fld
def neg (q a : Nat) : Nat := ((List.range q).find? fun b => S q a b == 0).getD 0
def okSum (q : Nat) : Bool := below q fun a => decide (S q a 0 = a) && decide (neg q a < q) && decide (S q a (neg q a) = 0) && (below (neg q a) fun b => decide (S q a b ≠ 0)) &&
  below q fun b => decide (S q a b = S q b a) && below q fun c => decide (S q (S q a b) c = S q a (S q b c))
theorem all_sum : fields.all okSum = true := by decide +kernel
structure El (q : Nat) where
  val : Nat
  lt : val < q
deriving DecidableEq
theorem El.ext {q : Nat} {a b : El q} (h : a.val = b.val) : a = b := by
  cases a
  cases b
  cases h
  rfl
class IsF (q : Nat) : Prop where
  mem : q ∈ fields
section
variable {q : Nat} (h : q ∈ fields)
include h
theorem sum1 {a : Nat} (ha : a < q) : S q a 0 = a ∧ neg q a < q ∧ S q a (neg q a) = 0 ∧ ∀ b, b < neg q a → S q a b ≠ 0 := by
  have t := of_below (List.all_eq_true.mp all_sum q h) ha
  simp only [Bool.and_eq_true, decide_eq_true_eq] at t
  exact ⟨t.1.1.1.1, t.1.1.1.2, t.1.1.2, fun b hb => of_decide_eq_true (of_below t.1.2 hb)⟩
theorem sum3 {a b c : Nat} (ha : a < q) (hb : b < q) (hc : c < q) : S q a b = S q b a ∧ S q (S q a b) c = S q a (S q b c) := by
  have t := of_below (List.all_eq_true.mp all_sum q h) ha
  simp only [Bool.and_eq_true, decide_eq_true_eq] at t
  have u := of_below t.2 hb
  simp only [Bool.and_eq_true, decide_eq_true_eq] at u
  exact ⟨u.1, of_decide_eq_true (of_below u.2 hc)⟩
end
namespace El
variable {q : Nat} [F : IsF q]
def zero : El q := ⟨0, Nat.lt_trans Nat.zero_lt_one (gt1 F.mem)⟩
def one : El q := ⟨1, gt1 F.mem⟩
def add (a b : El q) : El q := ⟨S q a.val b.val, (two F.mem a.lt b.lt).2.1⟩
def mul (a b : El q) : El q := ⟨M q a.val b.val, (two F.mem a.lt b.lt).1⟩
def opp (a : El q) : El q := ⟨neg q a.val, (sum1 F.mem a.lt).2.1⟩
def under (a : El q) : El q := if h : a.val = 0 then zero else ⟨Fld.inv q a.val, (unit F.mem a.lt h).2.2.2.2.1⟩
def nat : Nat → El q
  | 0 => zero
  | n + 1 => add (nat n) one
def npw (a : El q) : Nat → El q
  | 0 => one
  | n + 1 => mul (npw a n) a
def int : Int → El q
  | .ofNat n => nat n
  | .negSucc n => opp (nat (n + 1))
theorem add_zero (a : El q) : add a zero = a := El.ext (sum1 F.mem a.lt).1
theorem add_comm (a b : El q) : add a b = add b a := El.ext (sum3 F.mem a.lt b.lt a.lt).1
theorem add_assoc (a b c : El q) : add (add a b) c = add a (add b c) := El.ext (sum3 F.mem a.lt b.lt c.lt).2
theorem add_opp (a : El q) : add a (opp a) = zero := El.ext (sum1 F.mem a.lt).2.2.1
theorem opp_add (a : El q) : add (opp a) a = zero := by rw [add_comm, add_opp]
theorem mul_comm (a b : El q) : mul a b = mul b a := El.ext (two F.mem a.lt b.lt).2.2.1
theorem mul_one (a : El q) : mul a one = a := El.ext (Fld.one F.mem a.lt).2.2.2
theorem mul_assoc (a b c : El q) : mul (mul a b) c = mul a (mul b c) := El.ext (assoc F.mem a.lt b.lt c.lt)
theorem distrib (a b c : El q) : mul a (add b c) = add (mul a b) (mul a c) := El.ext (three F.mem b.lt c.lt a.lt).1
theorem zero_mul (a : El q) : mul zero a = zero := El.ext (Fld.one F.mem a.lt).1
theorem opp_uniq {a b : El q} (h : add a b = zero) : b = opp a := by
  have e : add (opp a) (add a b) = add (opp a) zero := by rw [h]
  rw [← add_assoc, opp_add, add_zero, add_comm, add_zero] at e
  exact e
theorem opp_zero : opp (zero : El q) = zero := (opp_uniq (add_zero zero)).symm
theorem opp_opp (a : El q) : opp (opp a) = a := (opp_uniq (opp_add a)).symm
theorem int_neg : ∀ i : Int, int (q := q) (-i) = opp (int i)
  | .ofNat 0 => opp_zero.symm
  | .ofNat (n + 1) => rfl
  | .negSucc n => (opp_opp _).symm
theorem zm (a : El q) : mul (opp one) a = opp a := by
  refine opp_uniq ?_
  have e : add a (mul (opp one) a) = mul a (add one (opp one)) := by
    rw [distrib, mul_one, mul_comm a (opp one)]
  rw [e, add_opp, mul_comm, zero_mul]
theorem opp_mul (a b : El q) : mul (opp a) b = opp (mul a b) := by
  rw [← zm a, mul_assoc, zm]
theorem mul_under {a : El q} (h : a ≠ zero) : mul a (under a) = one := by
  have h0 : a.val ≠ 0 := fun z => h (El.ext z)
  unfold under
  rw [dif_neg h0]
  exact El.ext (unit F.mem a.lt h0).2.2.2.2.2.1
instance : Lean.Grind.CommRing (El q) where
  add := add
  mul := mul
  natCast := ⟨nat⟩
  ofNat n := ⟨nat n⟩
  nsmul := ⟨fun n a => mul (nat n) a⟩
  npow := ⟨npw⟩
  neg := opp
  sub a b := add a (opp b)
  intCast := ⟨int⟩
  zsmul := ⟨fun i a => mul (int i) a⟩
  add_zero := add_zero
  add_comm := add_comm
  add_assoc := add_assoc
  mul_assoc := mul_assoc
  mul_one a := by
    show mul a (add zero one) = a
    rw [add_comm, add_zero, mul_one]
  mul_comm := mul_comm
  one_mul a := by
    show mul (add zero one) a = a
    rw [add_comm, add_zero, mul_comm, mul_one]
  left_distrib := distrib
  right_distrib a b c := by
    show mul (add a b) c = add (mul a c) (mul b c)
    rw [mul_comm, distrib, mul_comm c, mul_comm c]
  zero_mul := zero_mul
  mul_zero a := by
    show mul a zero = zero
    rw [mul_comm, zero_mul]
  pow_zero a := by
    show one = add zero one
    rw [add_comm, add_zero]
  pow_succ a n := rfl
  ofNat_succ n := by
    show add (nat n) one = add (nat n) (add zero one)
    rw [add_comm zero, add_zero]
  neg_add_cancel := opp_add
  sub_eq_add_neg a b := rfl
  neg_zsmul i a := by
    show mul (int (-i)) a = opp (mul (int i) a)
    rw [int_neg, opp_mul]
  intCast_neg := int_neg
theorem val_zero : (0 : El q).val = 0 := rfl
theorem val_one : (1 : El q).val = 1 := by
  show S q 0 1 = 1
  rw [(sum3 F.mem (Nat.lt_trans Nat.zero_lt_one (gt1 F.mem)) (gt1 F.mem) (gt1 F.mem)).1]
  exact (sum1 F.mem (gt1 F.mem)).1
theorem one_eq : (1 : El q) = one := El.ext val_one
theorem zero_eq : (0 : El q) = zero := rfl
theorem ne_zero {a : El q} : a ≠ 0 ↔ a.val ≠ 0 := ⟨fun h z => h (El.ext z), fun h z => h (by rw [z]; rfl)⟩
theorem one_ne : (0 : El q) ≠ 1 := fun z => by
  have e := congrArg El.val z
  rw [val_zero, val_one] at e
  cases e
theorem mul_inv {a : El q} (h : a ≠ 0) : a * under a = 1 := (mul_under h).trans one_eq.symm
theorem under_zero : under (0 : El q) = 0 := by
  unfold under
  rw [dif_pos val_zero]
  rfl
theorem inv_inv (a : El q) : under (under a) = a := by
  by_cases h : a = 0
  · rw [h, under_zero, under_zero]
  · have e := mul_inv h
    have h2 : under a ≠ 0 := fun z => by
      rw [z] at e
      exact one_ne (by rw [← e]; grind)
    have e2 := mul_inv h2
    have : a = a * (under a * under (under a)) := by rw [e2]; grind
    grind
def zpw (a : El q) : Int → El q
  | .ofNat n => npw a n
  | .negSucc n => under (npw a (n + 1))
theorem under_one : under (one : El q) = one := by
  have h : (1 : El q) ≠ 0 := fun z => one_ne z.symm
  have e := mul_inv h
  rw [← one_eq]
  have e2 : (1 : El q) * under 1 = under 1 := by grind
  rw [← e2, e]
theorem zpw_neg (a : El q) : ∀ i : Int, zpw a (-i) = under (zpw a i)
  | .ofNat 0 => under_one.symm
  | .ofNat (n + 1) => rfl
  | .negSucc n => (inv_inv _).symm
instance : Lean.Grind.Field (El q) where
  inv := under
  div a b := mul a (under b)
  zpow := ⟨zpw⟩
  div_eq_mul_inv a b := rfl
  zero_ne_one := one_ne
  inv_zero := under_zero
  mul_inv_cancel h := mul_inv h
  zpow_zero a := by
    show one = 1
    exact one_eq.symm
  zpow_succ a n := rfl
  zpow_neg := zpw_neg
example (a b : El q) (h : a ≠ 0) : a * (b / a) = b := by grind
end El
end Fld
set_option Elab.async false
set_option linter.all false
set_option maxRecDepth 100000
set_option maxHeartbeats 4000000
/-! Polynomials of one letter as lists of numbers, straight maps, and rows of pieces as least rows. No Python here. -/
namespace Fld
variable {q : Nat} [F : IsF q]
abbrev Po (q : Nat) := List (El q)
/-- the number of the i-th power -/
def co (f : Po q) (i : Nat) : El q := f.getD i 0
theorem co_nil (i : Nat) : co ([] : Po q) i = 0 := rfl
theorem co_zero (a : El q) (f : Po q) : co (a :: f) 0 = a := rfl
theorem co_succ (a : El q) (f : Po q) (i : Nat) : co (a :: f) (i + 1) = co f i := rfl
theorem co_out {f : Po q} {i : Nat} (h : f.length ≤ i) : co f i = 0 := by
  unfold co
  rw [List.getD_eq_getElem?_getD, List.getElem?_eq_none h]
  rfl
/-- without zeros at the end -/
def trim : Po q → Po q
  | [] => []
  | a :: f => if trim f = [] then (if a = 0 then [] else [a]) else a :: trim f
theorem co_trim : ∀ (f : Po q) (i : Nat), co (trim f) i = co f i
  | [], _ => rfl
  | a :: f, i => by
    have ih := co_trim f
    unfold trim
    by_cases h : trim f = []
    · rw [if_pos h]
      have z : ∀ j, co f j = 0 := fun j => by rw [← ih j, h]; rfl
      by_cases ha : a = 0
      · rw [if_pos ha]
        cases i with
        | zero => rw [co_zero, ha]; rfl
        | succ i => rw [co_succ, z]; rfl
      · rw [if_neg ha]
        cases i with
        | zero => rfl
        | succ i => rw [co_succ, co_succ, z]; rfl
    · rw [if_neg h]
      cases i with
      | zero => rfl
      | succ i => rw [co_succ, co_succ, ih]
theorem trim_nil_iff : ∀ f : Po q, trim f = [] ↔ ∀ i, co f i = 0
  | [] => ⟨fun _ _ => rfl, fun _ => rfl⟩
  | a :: f => by
    have ih := trim_nil_iff f
    unfold trim
    constructor
    · intro h i
      by_cases h1 : trim f = []
      · rw [if_pos h1] at h
        by_cases ha : a = 0
        · cases i with
          | zero => exact ha
          | succ i => exact ih.mp h1 i
        · rw [if_neg ha] at h
          cases h
      · rw [if_neg h1] at h
        cases h
    · intro h
      have h1 : trim f = [] := ih.mpr fun i => h (i + 1)
      rw [if_pos h1, if_pos (show a = 0 from h 0)]
/-- two lists with the same numbers are the same without zeros -/
theorem trim_ext : ∀ {f g : Po q}, (∀ i, co f i = co g i) → trim f = trim g
  | [], g, h => ((trim_nil_iff g).mpr fun i => (h i).symm).symm
  | a :: f, [], h => (trim_nil_iff (a :: f)).mpr h
  | a :: f, b :: g, h => by
    have e : a = b := h 0
    subst e
    have ih : trim f = trim g := trim_ext fun i => h (i + 1)
    unfold trim
    rw [ih]
theorem trim_trim (f : Po q) : trim (trim f) = trim f := trim_ext (co_trim f)
theorem trim_len : ∀ f : Po q, (trim f).length ≤ f.length
  | [] => Nat.le_refl _
  | a :: f => by
    have ih := trim_len f
    unfold trim
    by_cases h : trim f = []
    · rw [if_pos h]
      by_cases ha : a = 0
      · rw [if_pos ha]
        exact Nat.zero_le _
      · rw [if_neg ha]
        exact Nat.succ_le_succ (Nat.zero_le _)
    · rw [if_neg h]
      exact Nat.succ_le_succ ih
theorem trim_of_top : ∀ {f : Po q} {n : Nat}, f.length = n + 1 → co f n ≠ 0 → trim f = f
  | [], _, h, _ => by cases h
  | a :: f, 0, h, h0 => by
    have e : f = [] := List.eq_nil_of_length_eq_zero (Nat.succ.inj h)
    subst e
    unfold trim
    rw [if_pos (show trim ([] : Po q) = [] from rfl), if_neg (show ¬ a = 0 from h0)]
  | a :: f, n + 1, h, h0 => by
    have ih := trim_of_top (f := f) (n := n) (Nat.succ.inj h) h0
    unfold trim
    rw [ih]
    cases f with
    | nil => cases h
    | cons b f => rfl
theorem top_of_trim {f : Po q} (h : trim f = f) {n : Nat} (hl : f.length = n + 1) : co f n ≠ 0 := by
  intro h0
  have key : ∀ (f : Po q) (n : Nat), f.length = n + 1 → co f n = 0 → (trim f).length ≤ n := by
    intro f
    induction f with
    | nil => intro n hl; cases hl
    | cons a f ih =>
      intro n hl h0
      cases n with
      | zero =>
        have e : f = [] := List.eq_nil_of_length_eq_zero (Nat.succ.inj hl)
        subst e
        have ha : a = 0 := h0
        unfold trim
        rw [if_pos (show trim ([] : Po q) = [] from rfl), if_pos ha]
        exact Nat.le_refl _
      | succ n =>
        have l := ih n (Nat.succ.inj hl) h0
        unfold trim
        by_cases h : trim f = []
        · rw [if_pos h]
          by_cases ha : a = 0
          · rw [if_pos ha]
            exact Nat.zero_le _
          · rw [if_neg ha]
            exact Nat.succ_le_succ (Nat.zero_le _)
        · rw [if_neg h]
          exact Nat.succ_le_succ l
  have l := key f n hl h0
  rw [h, hl] at l
  omega
/-- equal, if none has a zero at the end -/
theorem canon_ext {f g : Po q} (hf : trim f = f) (hg : trim g = g) (h : ∀ i, co f i = co g i) : f = g := by
  rw [← hf, ← hg]
  exact trim_ext h

/-! ### sums, multiples -/
def pad : Po q → Po q → Po q
  | [], g => g
  | a :: f, [] => a :: f
  | a :: f, b :: g => (a + b) :: pad f g
theorem co_pad : ∀ (f g : Po q) (i : Nat), co (pad f g) i = co f i + co g i
  | [], g, i => by
    show co g i = 0 + co g i
    grind
  | a :: f, [], i => by
    show co (a :: f) i = co (a :: f) i + 0
    grind
  | a :: f, b :: g, 0 => rfl
  | a :: f, b :: g, i + 1 => co_pad f g i
def pl (f g : Po q) : Po q := trim (pad f g)
theorem co_pl (f g : Po q) (i : Nat) : co (pl f g) i = co f i + co g i := by
  unfold pl
  rw [co_trim, co_pad]
theorem pl_canon (f g : Po q) : trim (pl f g) = pl f g := trim_trim _
def sc (f : Po q) (c : El q) : Po q := trim (f.map fun x => x * c)
theorem co_map (f : Po q) (c : El q) : ∀ i, co (f.map fun x => x * c) i = co f i * c := by
  intro i
  induction f generalizing i with
  | nil =>
    show (0 : El q) = 0 * c
    grind
  | cons a f ih =>
    cases i with
    | zero => rfl
    | succ i => exact ih i
theorem co_sc (f : Po q) (c : El q) (i : Nat) : co (sc f c) i = co f i * c := by
  unfold sc
  rw [co_trim, co_map]
/-- times (e y + k) -/
def ml (g : Po q) (e k : El q) : Po q := pad (g.map fun x => x * k) (0 :: g.map fun x => x * e)
theorem co_ml_zero (g : Po q) (e k : El q) : co (ml g e k) 0 = co g 0 * k := by
  unfold ml
  rw [co_pad, co_map, co_zero]
  grind
theorem co_ml_succ (g : Po q) (e k : El q) (i : Nat) : co (ml g e k) (i + 1) = co g (i + 1) * k + co g i * e := by
  unfold ml
  rw [co_pad, co_map, co_succ, co_map]
/-- f (e y + k), by Horner -/
def sh (e k : El q) : Po q → Po q
  | [] => []
  | a :: f => pad [a] (ml (sh e k f) e k)
theorem co_one_zero (a : El q) : co [a] 0 = a := rfl
theorem co_one_succ (a : El q) (i : Nat) : co [a] (i + 1) = 0 := rfl
theorem co_sh_zero (e k a : El q) (f : Po q) : co (sh e k (a :: f)) 0 = a + co (sh e k f) 0 * k := by
  show co (pad [a] (ml (sh e k f) e k)) 0 = _
  rw [co_pad, co_ml_zero, co_one_zero]
theorem co_sh_succ (e k a : El q) (f : Po q) (i : Nat) : co (sh e k (a :: f)) (i + 1) = co (sh e k f) (i + 1) * k + co (sh e k f) i * e := by
  show co (pad [a] (ml (sh e k f) e k)) (i + 1) = _
  rw [co_pad, co_ml_succ, co_one_succ]
  grind
/-- only the numbers count -/
theorem sh_ext (e k : El q) : ∀ {f g : Po q}, (∀ i, co f i = co g i) → ∀ i, co (sh e k f) i = co (sh e k g) i := by
  have zero : ∀ f : Po q, (∀ i, co f i = 0) → ∀ i, co (sh e k f) i = 0 := by
    intro f
    induction f with
    | nil => intro _ i; rfl
    | cons a f ih =>
      intro h i
      have z := ih fun i => h (i + 1)
      cases i with
      | zero =>
        rw [co_sh_zero, z, show a = 0 from h 0]
        grind
      | succ i =>
        rw [co_sh_succ, z, z]
        grind
  intro f
  induction f with
  | nil =>
    intro g h i
    rw [zero g fun i => (h i).symm]
    rfl
  | cons a f ih =>
    intro g h i
    cases g with
    | nil =>
      rw [zero (a :: f) h]
      rfl
    | cons b g =>
      have z := ih (g := g) fun i => h (i + 1)
      have e0 : a = b := h 0
      cases i with
      | zero => rw [co_sh_zero, co_sh_zero, z, e0]
      | succ i => rw [co_sh_succ, co_sh_succ, z, z]
theorem sh_pad (e k : El q) : ∀ (f g : Po q) (i : Nat), co (sh e k (pad f g)) i = co (sh e k f) i + co (sh e k g) i
  | [], g, i => by
    show co (sh e k g) i = 0 + _
    grind
  | a :: f, [], i => by
    show co (sh e k (a :: f)) i = _ + 0
    grind
  | a :: f, b :: g, 0 => by
    show co (sh e k ((a + b) :: pad f g)) 0 = _
    rw [co_sh_zero, co_sh_zero, co_sh_zero, sh_pad e k f g]
    grind
  | a :: f, b :: g, i + 1 => by
    show co (sh e k ((a + b) :: pad f g)) (i + 1) = _
    rw [co_sh_succ, co_sh_succ, co_sh_succ, sh_pad e k f g, sh_pad e k f g]
    grind
theorem sh_map (e k c : El q) : ∀ (f : Po q) (i : Nat), co (sh e k (f.map fun x => x * c)) i = co (sh e k f) i * c
  | [], i => by
    show (0 : El q) = 0 * c
    grind
  | a :: f, 0 => by
    show co (sh e k (a * c :: f.map fun x => x * c)) 0 = _
    rw [co_sh_zero, co_sh_zero, sh_map e k c f]
    grind
  | a :: f, i + 1 => by
    show co (sh e k (a * c :: f.map fun x => x * c)) (i + 1) = _
    rw [co_sh_succ, co_sh_succ, sh_map e k c f, sh_map e k c f]
    grind
/-- one change of the letter behind another one -/
theorem sh_sh (e k e0 k0 : El q) : ∀ (f : Po q) (i : Nat), co (sh e0 k0 (sh e k f)) i = co (sh (e * e0) (e * k0 + k) f) i
  | [], _ => rfl
  | a :: f, i => by
    have ih := sh_sh e k e0 k0 f
    have one : ∀ j, co (sh e0 k0 [a]) j = co [a] j := by
      intro j
      cases j with
      | zero =>
        rw [co_sh_zero]
        show a + 0 * k0 = a
        grind
      | succ j =>
        rw [co_sh_succ]
        show (0 : El q) * k0 + 0 * e0 = 0
        grind
    have l : ∀ j, co (sh e0 k0 (sh e k (a :: f))) j = co [a] j + co (sh e0 k0 (ml (sh e k f) e k)) j := by
      intro j
      show co (sh e0 k0 (pad [a] (ml (sh e k f) e k))) j = _
      rw [sh_pad, one]
    have m : ∀ j, co (sh e0 k0 (ml (sh e k f) e k)) j = co (sh e0 k0 (sh e k f)) j * k + co (sh e0 k0 (0 :: (sh e k f).map fun x => x * e)) j := by
      intro j
      unfold ml
      rw [sh_pad, sh_map]
    rw [l, m]
    cases i with
    | zero =>
      rw [co_sh_zero, co_sh_zero, sh_map, ih]
      show a + (_ + (0 + _)) = _
      grind
    | succ i =>
      rw [co_sh_succ, co_sh_succ, sh_map, sh_map, ih, ih]
      show (0 : El q) + _ = _
      grind
/-- no number beyond -/
theorem sh_out (e k : El q) : ∀ (f : Po q) (i : Nat), f.length ≤ i → co (sh e k f) i = 0
  | [], _, _ => rfl
  | a :: f, 0, h => by cases h
  | a :: f, i + 1, h => by
    have hl : f.length ≤ i := Nat.le_of_succ_le_succ h
    rw [co_sh_succ, sh_out e k f i hl, sh_out e k f (i + 1) (Nat.le_succ_of_le hl)]
    grind
def epow (e : El q) : Nat → El q
  | 0 => 1
  | n + 1 => epow e n * e
theorem sh_top (e k : El q) : ∀ (f : Po q) (n : Nat), f.length = n + 1 → co (sh e k f) n = co f n * epow e n
  | [], _, h => by cases h
  | a :: f, 0, h => by
    have e0 : f = [] := List.eq_nil_of_length_eq_zero (Nat.succ.inj h)
    subst e0
    rw [co_sh_zero]
    show a + 0 * k = a * 1
    grind
  | a :: f, n + 1, h => by
    have hl : f.length = n + 1 := Nat.succ.inj h
    rw [co_sh_succ, sh_out e k f (n + 1) (by omega), sh_top e k f n hl, co_succ]
    show 0 * k + _ = _ * (epow e n * e)
    grind
theorem epow_ne {e : El q} (h : e ≠ 0) : ∀ n, epow e n ≠ 0
  | 0 => fun z => El.one_ne z.symm
  | n + 1 => fun z => by
    have ih := epow_ne h n
    have z' : epow e n * e = 0 := z
    grind
end Fld
set_option Elab.async false
set_option linter.all false
set_option maxRecDepth 100000
set_option maxHeartbeats 4000000
/-! Straight maps, and rows of pieces that come to least rows. No Python here. -/
namespace Fld
variable {q : Nat} [F : IsF q]
structure Mat (q : Nat) where
  a : El q
  b : El q
  c : El q
  d : El q
  e : El q
  f : El q
deriving DecidableEq
/-- m, then n -/
def thn (m n : Mat q) : Mat q :=
  ⟨n.a * m.a + n.b * m.d, n.a * m.b + n.b * m.e, n.a * m.c + n.b * m.f + n.c, n.d * m.a + n.e * m.d, n.d * m.b + n.e * m.e, n.d * m.c + n.e * m.f + n.f⟩
def same : Mat q := ⟨1, 0, 0, 0, 1, 0⟩
def turn (t : El q) : Mat q := ⟨0, 1, 0, 1, t, 0⟩
def det (m : Mat q) : El q := m.a * m.e - m.b * m.d
theorem Mat.ext' {m n : Mat q} (h1 : m.a = n.a) (h2 : m.b = n.b) (h3 : m.c = n.c) (h4 : m.d = n.d) (h5 : m.e = n.e) (h6 : m.f = n.f) : m = n := by
  cases m
  cases n
  simp only [Mat.mk.injEq]
  exact ⟨h1, h2, h3, h4, h5, h6⟩
theorem thn_assoc (l m n : Mat q) : thn (thn l m) n = thn l (thn m n) := by
  unfold thn
  refine Mat.ext' ?_ ?_ ?_ ?_ ?_ ?_ <;> simp only [] <;> grind
theorem thn_same (m : Mat q) : thn m same = m := by
  unfold thn same
  refine Mat.ext' ?_ ?_ ?_ ?_ ?_ ?_ <;> simp only [] <;> grind
theorem same_thn (m : Mat q) : thn same m = m := by
  unfold thn same
  refine Mat.ext' ?_ ?_ ?_ ?_ ?_ ?_ <;> simp only [] <;> grind
theorem det_thn (m n : Mat q) : det (thn m n) = det m * det n := by
  unfold thn det
  simp only []
  grind
theorem ne_mul {a b : El q} (h : a ≠ 0) (k : b ≠ 0) : a * b ≠ 0 := fun z => by grind
theorem det_ne {m n : Mat q} (h : det m ≠ 0) (k : det n ≠ 0) : det (thn m n) ≠ 0 := by
  rw [det_thn]
  exact ne_mul h k
theorem det_turn (t : El q) : det (turn t) ≠ 0 := by
  unfold det turn
  simp only []
  intro z
  exact El.one_ne (q := q) (by grind)
theorem det_same : det (same : Mat q) ≠ 0 := by
  unfold det same
  simp only []
  intro z
  exact El.one_ne (q := q) (by grind)
/-- d = 0, the others not -/
def Tri (m : Mat q) : Prop := m.d = 0 ∧ m.a ≠ 0 ∧ m.e ≠ 0
theorem Tri.thn {m n : Mat q} (h : Tri m) (k : Tri n) : Tri (thn m n) := by
  obtain ⟨h1, h2, h3⟩ := h
  obtain ⟨k1, k2, k3⟩ := k
  unfold Fld.thn
  refine ⟨?_, ?_, ?_⟩
  · simp only []
    grind
  · simp only []
    intro z
    exact ne_mul k2 h2 (by grind)
  · simp only []
    intro z
    exact ne_mul k3 h3 (by grind)
theorem Tri.det {m : Mat q} (h : Tri m) : det m ≠ 0 := by
  obtain ⟨h1, h2, h3⟩ := h
  unfold Fld.det
  intro z
  exact ne_mul h2 h3 (by grind)
/-- a turn, perhaps none, and a map behind it with d = 0 -/
def tm (l : Mat q) : Option (El q) × Mat q :=
  if l.d = 0 then (none, l) else (some (l.e * El.under l.d), ⟨l.b - l.a * (l.e * El.under l.d), l.a, l.c, 0, l.d, l.f⟩)
def tmap (o : Option (El q)) (b : Mat q) : Mat q := match o with
  | none => b
  | some t => thn (turn t) b
theorem tm_back (l : Mat q) : tmap (tm l).1 (tm l).2 = l := by
  unfold tm
  by_cases h : l.d = 0
  · rw [if_pos h]
    rfl
  · rw [if_neg h]
    have u := El.mul_inv h
    unfold tmap thn turn
    refine Mat.ext' ?_ ?_ ?_ ?_ ?_ ?_ <;> simp only [] <;> grind
theorem tm_tri {l : Mat q} (h : det l ≠ 0) : Tri (tm l).2 := by
  unfold tm
  by_cases h0 : l.d = 0
  · rw [if_pos h0]
    refine ⟨h0, fun z => h ?_, fun z => h ?_⟩
    · unfold det
      rw [h0, z]
      grind
    · unfold det
      rw [h0, z]
      grind
  · rw [if_neg h0]
    have u := El.mul_inv h0
    refine ⟨rfl, fun z => h ?_, h0⟩
    have z' : l.b - l.a * (l.e * El.under l.d) = 0 := z
    unfold det
    grind
theorem tm_tmap {b : Mat q} (h : Tri b) : ∀ o, tm (tmap o b) = (o, b)
  | none => by
    unfold tmap tm
    rw [if_pos h.1]
  | some t => by
    obtain ⟨h1, h2, h3⟩ := h
    have u := El.mul_inv h3
    have e : thn (turn t) b = ⟨b.b, b.a + b.b * t, b.c, b.e, b.e * t, b.f⟩ := by
      unfold thn turn
      refine Mat.ext' ?_ ?_ ?_ ?_ ?_ ?_ <;> simp only [] <;> grind
    show tm (thn (turn t) b) = _
    rw [e]
    unfold tm
    rw [if_neg h3]
    simp only [Prod.mk.injEq, Option.some.injEq]
    refine ⟨by grind, ?_⟩
    refine Mat.ext' ?_ ?_ ?_ ?_ ?_ ?_ <;> simp only [] <;> grind
theorem tmap_thn (o : Option (El q)) (b m : Mat q) : thn (tmap o b) m = tmap o (thn b m) := by
  cases o with
  | none => rfl
  | some t => exact thn_assoc _ _ _
theorem det_tmap {b : Mat q} (h : det b ≠ 0) (o : Option (El q)) : det (tmap o b) ≠ 0 := by
  cases o with
  | none => exact h
  | some t => exact det_ne (det_turn t) h

/-! ### a bend behind a map with d = 0 -/
def ahead (b : Mat q) (f : Po q) : Po q × Mat q :=
  (sc (0 :: 0 :: (trim (sh b.e b.f f)).drop 2) (El.under b.a), ⟨b.a, b.b + co (trim (sh b.e b.f f)) 1, b.c + co (trim (sh b.e b.f f)) 0, 0, b.e, b.f⟩)
theorem co_drop (f : Po q) : ∀ i, co (f.drop 2) i = co f (i + 2) := by
  intro i
  unfold co
  rw [List.getD_eq_getElem?_getD, List.getD_eq_getElem?_getD, List.getElem?_drop, Nat.add_comm]
theorem co_ahead_low (b : Mat q) (f : Po q) : co (ahead b f).1 0 = 0 ∧ co (ahead b f).1 1 = 0 := by
  unfold ahead
  rw [co_sc, co_sc]
  constructor
  · show (0 : El q) * _ = 0
    grind
  · show (0 : El q) * _ = 0
    grind
theorem co_ahead (b : Mat q) (f : Po q) (i : Nat) : co (ahead b f).1 (i + 2) = co (sh b.e b.f f) (i + 2) * El.under b.a := by
  unfold ahead
  rw [co_sc]
  show co ((trim (sh b.e b.f f)).drop 2) i * _ = _
  rw [co_drop, co_trim]
theorem ahead_snd (b : Mat q) (f : Po q) : (ahead b f).2 = ⟨b.a, b.b + co (sh b.e b.f f) 1, b.c + co (sh b.e b.f f) 0, 0, b.e, b.f⟩ := by
  unfold ahead
  rw [co_trim, co_trim]
theorem ahead_canon (b : Mat q) (f : Po q) : trim (ahead b f).1 = (ahead b f).1 := trim_trim _
theorem ahead_tri {b : Mat q} (h : Tri b) (f : Po q) : Tri (ahead b f).2 := ⟨rfl, h.2.1, h.2.2⟩
/-- what a bend is: no zero at the end, no constant, nothing linear -/
def Lo (f : Po q) : Prop := trim f = f ∧ co f 0 = 0 ∧ co f 1 = 0
def IsB (f : Po q) : Prop := Lo f ∧ f ≠ []
theorem ahead_lo (b : Mat q) (f : Po q) : Lo (ahead b f).1 := ⟨ahead_canon b f, co_ahead_low b f⟩
theorem Lo.ext {f g : Po q} (hf : Lo f) (hg : Lo g) (h : ∀ i, co f (i + 2) = co g (i + 2)) : f = g := by
  refine canon_ext hf.1 hg.1 fun i => ?_
  match i with
  | 0 => rw [hf.2.1, hg.2.1]
  | 1 => rw [hf.2.2, hg.2.2]
  | i + 2 => exact h i
theorem Lo.pl {f g : Po q} (hf : Lo f) (hg : Lo g) : Lo (pl f g) := by
  refine ⟨pl_canon f g, ?_, ?_⟩
  · rw [co_pl, hf.2.1, hg.2.1]
    grind
  · rw [co_pl, hf.2.2, hg.2.2]
    grind
theorem nil_of_co {f : Po q} (h : trim f = f) (z : ∀ i, co f i = 0) : f = [] := by
  rw [← h]
  exact (trim_nil_iff f).mpr z
theorem IsB.top {f : Po q} (h : IsB f) : ∃ n, f.length = n + 3 ∧ co f (n + 2) ≠ 0 := by
  obtain ⟨⟨h1, h2, h3⟩, h0⟩ := h
  cases e : f.length with
  | zero => exact absurd (List.eq_nil_of_length_eq_zero e) h0
  | succ n =>
    have t := top_of_trim h1 e
    match n, e, t with
    | 0, e, t => exact absurd h2 t
    | 1, e, t => exact absurd h3 t
    | n + 2, e, t => exact ⟨n, rfl, t⟩
/-- a bend stays one of the same degree -/
theorem ahead_len {b : Mat q} (h : Tri b) {f : Po q} (hf : IsB f) : (ahead b f).1.length = f.length := by
  obtain ⟨n, hl, ht⟩ := hf.top
  have top : co (sh b.e b.f f) (n + 2) ≠ 0 := by
    rw [sh_top b.e b.f f (n + 2) hl]
    exact ne_mul ht (epow_ne h.2.2 _)
  have u : El.under b.a ≠ 0 := fun z => by
    have e := El.mul_inv h.2.1
    rw [z] at e
    exact El.one_ne (by rw [← e]; grind)
  have t2 : co (ahead b f).1 (n + 2) ≠ 0 := by
    rw [co_ahead]
    exact ne_mul top u
  have out : ∀ i, n + 3 ≤ i → co (ahead b f).1 i = 0 := by
    intro i hi
    obtain ⟨j, rfl⟩ : ∃ j, i = j + 2 := ⟨i - 2, by omega⟩
    rw [co_ahead, sh_out b.e b.f f (j + 2) (by omega)]
    grind
  have len1 : n + 2 < (ahead b f).1.length := by
    refine Classical.byContradiction fun z => t2 (co_out (by omega))
  have len2 : (ahead b f).1.length ≤ n + 3 := by
    refine Classical.byContradiction fun z => ?_
    obtain ⟨m, hm⟩ : ∃ m, (ahead b f).1.length = m + 1 := ⟨(ahead b f).1.length - 1, by omega⟩
    exact top_of_trim (ahead_canon b f) hm (out m (by omega))
  omega
theorem ahead_isB {b : Mat q} (h : Tri b) {f : Po q} (hf : IsB f) : IsB (ahead b f).1 := by
  refine ⟨ahead_lo b f, fun z => ?_⟩
  have l := ahead_len h hf
  obtain ⟨n, hl, _⟩ := hf.top
  rw [z, hl] at l
  cases l
/-- one map behind another one -/
theorem ahead_thn {b0 b : Mat q} (h0 : Tri b0) (h : Tri b) (f : Po q) :
    (ahead (thn b0 b) f).1 = (ahead b0 (ahead b f).1).1 ∧ (ahead (thn b0 b) f).2 = thn (ahead b0 (ahead b f).1).2 (ahead b f).2 := by
  obtain ⟨z0, a0, e0⟩ := h0
  obtain ⟨z, a1, e1⟩ := h
  have ua := El.mul_inv a1
  have ua0 := El.mul_inv a0
  -- the change of the letter, in two steps
  have ee : (thn b0 b).e = b.e * b0.e := by
    unfold thn
    simp only []
    grind
  have ef : (thn b0 b).f = b.e * b0.f + b.f := by
    unfold thn
    simp only []
    grind
  have ea : (thn b0 b).a = b.a * b0.a := by
    unfold thn
    simp only []
    grind
  have s1 : ∀ i, co (sh (thn b0 b).e (thn b0 b).f f) i = co (sh b0.e b0.f (sh b.e b.f f)) i := by
    intro i
    rw [ee, ef, sh_sh]
  generalize hp : sh b.e b.f f = p at s1
  have m2 : ∀ i, co (ahead b f).1 (i + 2) = co p (i + 2) * El.under b.a := by
    intro i
    rw [co_ahead, hp]
  have low := co_ahead_low b f
  generalize hm : (ahead b f).1 = m at m2 low
  have parts : ∀ i, co p i = co (pad [co p 0, co p 1] (m.map fun x => x * b.a)) i := by
    intro i
    rw [co_pad, co_map]
    match i with
    | 0 =>
      show co p 0 = co p 0 + co m 0 * b.a
      rw [low.1]
      grind
    | 1 =>
      show co p 1 = co p 1 + co m 1 * b.a
      rw [low.2]
      grind
    | i + 2 =>
      show co p (i + 2) = 0 + co m (i + 2) * b.a
      rw [m2]
      grind
  have s2 : ∀ i, co (sh b0.e b0.f p) i = co (sh b0.e b0.f [co p 0, co p 1]) i + co (sh b0.e b0.f m) i * b.a := by
    intro i
    rw [sh_ext b0.e b0.f parts i, sh_pad, sh_map]
  have t0 : co (sh b0.e b0.f [co p 0, co p 1]) 0 = co p 0 + co p 1 * b0.f := by
    rw [co_sh_zero, co_sh_zero]
    show _ + (_ + 0 * _) * _ = _
    grind
  have t1 : co (sh b0.e b0.f [co p 0, co p 1]) 1 = co p 1 * b0.e := by
    rw [co_sh_succ, co_sh_zero, co_sh_succ]
    show (0 * _ + 0 * _) * _ + (_ + 0 * _) * _ = _
    grind
  have t2 : ∀ i, co (sh b0.e b0.f [co p 0, co p 1]) (i + 2) = 0 := fun i => sh_out _ _ _ _ (by simp)
  have u2 : El.under (b.a * b0.a) = El.under b.a * El.under b0.a := by
    have e := El.mul_inv (ne_mul a1 a0)
    grind
  constructor
  · refine (ahead_lo _ _).ext (ahead_lo _ _) fun i => ?_
    rw [co_ahead, co_ahead, s1, s2, t2, ea, u2]
    grind
  · rw [ahead_snd, ahead_snd, ahead_snd, s1, s1, s2, s2, t0, t1, hp]
    unfold thn
    refine Mat.ext' ?_ ?_ ?_ ?_ ?_ ?_ <;> simp only [] <;> grind
theorem ahead_pl (b : Mat q) (g h : Po q) : (ahead b (pl g h)).1 = pl (ahead b g).1 (ahead b h).1 ∧ (ahead b (pl g h)).2 = (ahead (ahead b g).2 h).2 ∧ (ahead (ahead b g).2 h).1 = (ahead b h).1 := by
  have s : ∀ i, co (sh b.e b.f (pl g h)) i = co (sh b.e b.f g) i + co (sh b.e b.f h) i := by
    intro i
    rw [← sh_pad]
    refine sh_ext _ _ (fun j => ?_) i
    rw [co_pl, co_pad]
  refine ⟨(ahead_lo _ _).ext ((ahead_lo _ _).pl (ahead_lo _ _)) fun i => ?_, ?_, ?_⟩
  · rw [co_pl, co_ahead, co_ahead, co_ahead, s]
    grind
  · rw [ahead_snd, ahead_snd, ahead_snd, s, s]
    refine Mat.ext' ?_ ?_ ?_ ?_ ?_ ?_ <;> simp only [] <;> grind
  · rw [ahead_snd]
    rfl
theorem ahead_nil {b : Mat q} (h : b.d = 0) : (ahead b []).1 = [] ∧ (ahead b []).2 = b := by
  constructor
  · refine nil_of_co (ahead_canon b _) fun i => ?_
    match i with
    | 0 => exact (co_ahead_low b _).1
    | 1 => exact (co_ahead_low b _).2
    | i + 2 =>
      rw [co_ahead]
      show (0 : El q) * _ = 0
      grind
  · rw [ahead_snd]
    show (⟨b.a, b.b + 0, b.c + 0, 0, b.e, b.f⟩ : Mat q) = b
    refine Mat.ext' ?_ ?_ ?_ ?_ ?_ ?_ <;> simp only [] <;> grind
theorem ahead_ne {b : Mat q} (h : Tri b) {f : Po q} (hf : Lo f) (z : (ahead b f).1 = []) : f = [] := by
  refine Classical.byContradiction fun n => ?_
  exact (ahead_isB h ⟨hf, n⟩).2 z

/-! ### states -/
structure Sta (q : Nat) where
  st : List (Option (El q) × Po q)
  last : Mat q
inductive Pc (q : Nat) where
  | mat (m : Mat q)
  | bd (f : Po q)
def put (s : Sta q) (f : Po q) : Sta q := match (tm s.last).1, s.st with
  | none, (t, g) :: r => if pl g (ahead (tm s.last).2 f).1 = [] then ⟨r, tmap t (ahead (tm s.last).2 f).2⟩ else ⟨(t, pl g (ahead (tm s.last).2 f).1) :: r, (ahead (tm s.last).2 f).2⟩
  | n, r => ⟨(n, (ahead (tm s.last).2 f).1) :: r, (ahead (tm s.last).2 f).2⟩
def act (s : Sta q) : Pc q → Sta q
  | .mat m => ⟨s.st, thn s.last m⟩
  | .bd f => put s f
def run (s : Sta q) (l : List (Pc q)) : Sta q := l.foldl act s
def empty : Sta q := ⟨[], same⟩
def tp : Option (El q) → List (Pc q)
  | none => []
  | some t => [.mat (turn t)]
def rowSt : List (Option (El q) × Po q) → List (Pc q)
  | [] => []
  | (t, g) :: r => rowSt r ++ tp t ++ [.bd g]
theorem rowSt_cons (t : Option (El q)) (g : Po q) (r : List (Option (El q) × Po q)) : rowSt ((t, g) :: r) = rowSt r ++ tp t ++ [.bd g] := rfl
def rowOf (s : Sta q) : List (Pc q) := rowSt s.st ++ [.mat s.last]
def Good : List (Option (El q) × Po q) → Prop
  | [] => True
  | (t, g) :: r => IsB g ∧ (r ≠ [] → t ≠ none) ∧ Good r
def Okay (s : Sta q) : Prop := Good s.st ∧ det s.last ≠ 0
def PcOk : Pc q → Prop
  | .mat m => det m ≠ 0
  | .bd f => IsB f
theorem run_app (s : Sta q) (l m : List (Pc q)) : run s (l ++ m) = run (run s l) m := List.foldl_append
theorem put_push {s : Sta q} {f : Po q} (h : (tm s.last).1 ≠ none ∨ s.st = []) : put s f = ⟨((tm s.last).1, (ahead (tm s.last).2 f).1) :: s.st, (ahead (tm s.last).2 f).2⟩ := by
  unfold put
  split
  · rename_i t g r e1 e2
    rcases h with h | h
    · exact absurd e1 h
    · rw [e2] at h
      cases h
  · rename_i e1
    rfl
theorem put_add {s : Sta q} {f : Po q} {t : Option (El q)} {g : Po q} {r : List (Option (El q) × Po q)} (h : (tm s.last).1 = none) (e : s.st = (t, g) :: r) :
    put s f = if pl g (ahead (tm s.last).2 f).1 = [] then ⟨r, tmap t (ahead (tm s.last).2 f).2⟩ else ⟨(t, pl g (ahead (tm s.last).2 f).1) :: r, (ahead (tm s.last).2 f).2⟩ := by
  unfold put
  rw [h, e]
theorem put_ok {s : Sta q} (hs : Okay s) {f : Po q} (hf : IsB f) : Okay (put s f) := by
  obtain ⟨g0, d0⟩ := hs
  have tri := tm_tri d0
  have at' := ahead_tri tri f
  have ab := ahead_isB tri hf
  by_cases h : (tm s.last).1 ≠ none ∨ s.st = []
  · rw [put_push h]
    refine ⟨⟨ab, fun n => ?_, g0⟩, at'.det⟩
    rcases h with h | h
    · exact h
    · exact absurd h n
  · have h1 : (tm s.last).1 = none := Classical.byContradiction fun z => h (.inl z)
    cases e : s.st with
    | nil => exact absurd (.inr e) h
    | cons p r =>
      obtain ⟨t, g⟩ := p
      rw [put_add h1 e]
      rw [e] at g0
      obtain ⟨b0, n0, r0⟩ := g0
      by_cases z : pl g (ahead (tm s.last).2 f).1 = []
      · rw [if_pos z]
        exact ⟨r0, det_tmap at'.det t⟩
      · rw [if_neg z]
        exact ⟨⟨⟨b0.1.pl ab.1, z⟩, n0, r0⟩, at'.det⟩
theorem act_ok {s : Sta q} (hs : Okay s) : ∀ {p : Pc q}, PcOk p → Okay (act s p)
  | .mat m, h => ⟨hs.1, det_ne hs.2 h⟩
  | .bd f, h => put_ok hs h
theorem run_ok : ∀ {l : List (Pc q)} {s : Sta q}, Okay s → (∀ p ∈ l, PcOk p) → Okay (run s l)
  | [], _, hs, _ => hs
  | p :: l, s, hs, h => run_ok (l := l) (act_ok hs (h p (List.mem_cons_self ..))) fun x hx => h x (List.mem_cons_of_mem _ hx)
/-- a map and then a bend: the bend and then the map -/
theorem put_mat {s : Sta q} (hs : Okay s) {b : Mat q} (hb : Tri b) (f : Po q) : put (act s (.mat b)) f = act (put s (ahead b f).1) (.mat (ahead b f).2) := by
  have tri := tm_tri hs.2
  have e : tm (thn s.last b) = ((tm s.last).1, thn (tm s.last).2 b) := by
    have h := tm_tmap (tri.thn hb) (tm s.last).1
    rw [← tmap_thn, tm_back] at h
    exact h
  obtain ⟨a1, a2⟩ := ahead_thn tri hb f
  show put ⟨s.st, thn s.last b⟩ f = _
  by_cases h : (tm s.last).1 ≠ none ∨ s.st = []
  · rw [put_push (s := ⟨s.st, thn s.last b⟩) (by rw [e]; exact h), put_push h]
    simp only []
    rw [e]
    simp only []
    rw [a1, a2]
    rfl
  · have h1 : (tm s.last).1 = none := Classical.byContradiction fun z => h (.inl z)
    cases es : s.st with
    | nil => exact absurd (.inr es) h
    | cons p r =>
      obtain ⟨t, g⟩ := p
      rw [put_add (s := ⟨(t, g) :: r, thn s.last b⟩) (by rw [e]; exact h1) rfl, put_add h1 es]
      simp only []
      rw [e]
      simp only []
      rw [a1, a2]
      by_cases z : pl g (ahead (tm s.last).2 (ahead b f).1).1 = []
      · rw [if_pos z, if_pos z]
        show _ = (⟨r, thn (tmap t _) _⟩ : Sta q)
        rw [tmap_thn]
      · rw [if_neg z, if_neg z]
        rfl
theorem pl_nil_left {g : Po q} (h : trim g = g) : pl [] g = g := h
theorem pl_assoc (f g h : Po q) : pl (pl f g) h = pl f (pl g h) := by
  refine canon_ext (pl_canon _ _) (pl_canon _ _) fun i => ?_
  rw [co_pl, co_pl, co_pl, co_pl]
  grind
theorem pl_nil_right {g : Po q} (h : trim g = g) : pl g [] = g := by
  refine canon_ext (pl_canon _ _) h fun i => ?_
  rw [co_pl, co_nil]
  grind
/-- two bends are their sum -/
theorem put_put {s : Sta q} (hs : Okay s) {g h : Po q} (hg : IsB g) (hh : IsB h) : put (put s g) h = if pl g h = [] then s else put s (pl g h) := by
  have tri := tm_tri hs.2
  obtain ⟨p1, p2, p3⟩ := ahead_pl (tm s.last).2 g h
  have tg := ahead_tri tri g
  have tmg : tm (ahead (tm s.last).2 g).2 = (none, (ahead (tm s.last).2 g).2) := tm_tmap tg none
  have tmt : ∀ t, tm (tmap t (ahead (tm s.last).2 g).2) = (t, (ahead (tm s.last).2 g).2) := fun t => tm_tmap tg t
  have ig := ahead_isB tri hg
  have ih := ahead_isB tri hh
  have back : pl g h = [] → (ahead (ahead (tm s.last).2 g).2 h).2 = (tm s.last).2 := fun z => by
    rw [← p2, z, (ahead_nil tri.1).2]
  have zz : pl (ahead (tm s.last).2 g).1 (ahead (tm s.last).2 h).1 = [] ↔ pl g h = [] := by
    rw [← p1]
    constructor
    · intro z
      exact ahead_ne tri (hg.1.pl hh.1) z
    · intro z
      rw [z, (ahead_nil tri.1).1]
  by_cases c : (tm s.last).1 ≠ none ∨ s.st = []
  · rw [put_push c]
    rw [put_add (t := (tm s.last).1) (g := (ahead (tm s.last).2 g).1) (r := s.st) (by rw [tmg]) rfl]
    simp only []
    rw [tmg]
    simp only []
    rw [p3]
    by_cases z : pl g h = []
    · rw [if_pos (zz.mpr z), if_pos z, back z, tm_back]
    · rw [if_neg (fun y => z (zz.mp y)), if_neg z, put_push c, p1, p2]
  · have h1 : (tm s.last).1 = none := Classical.byContradiction fun z => c (.inl z)
    cases es : s.st with
    | nil => exact absurd (.inr es) c
    | cons p r =>
      obtain ⟨t, g0⟩ := p
      have gd := hs.1
      rw [es] at gd
      obtain ⟨b0, n0, r0⟩ := gd
      have l0 : s = ⟨(t, g0) :: r, tmap none (tm s.last).2⟩ := by
        have e := tm_back s.last
        rw [h1] at e
        rw [e, ← es]
      rw [put_add h1 es]
      -- the direct way
      have direct : pl g h ≠ [] → put s (pl g h) = if pl (pl g0 (ahead (tm s.last).2 g).1) (ahead (tm s.last).2 h).1 = [] then ⟨r, tmap t (ahead (ahead (tm s.last).2 g).2 h).2⟩ else ⟨(t, pl (pl g0 (ahead (tm s.last).2 g).1) (ahead (tm s.last).2 h).1) :: r, (ahead (ahead (tm s.last).2 g).2 h).2⟩ := by
        intro _
        rw [put_add h1 es, p1, p2, pl_assoc]
      have none_way : pl g h = [] → pl (pl g0 (ahead (tm s.last).2 g).1) (ahead (tm s.last).2 h).1 = g0 := by
        intro z
        rw [pl_assoc, zz.mpr z, pl_nil_right b0.1.1]
      by_cases z1 : pl g0 (ahead (tm s.last).2 g).1 = []
      · rw [if_pos z1]
        have e2 : pl (pl g0 (ahead (tm s.last).2 g).1) (ahead (tm s.last).2 h).1 = (ahead (tm s.last).2 h).1 := by
          rw [z1]
          exact ih.1.1
        have c2 : (tm (tmap t (ahead (tm s.last).2 g).2)).1 ≠ none ∨ r = [] := by
          rw [tmt]
          by_cases hr : r = []
          · exact .inr hr
          · exact .inl (n0 hr)
        rw [put_push (s := ⟨r, tmap t (ahead (tm s.last).2 g).2⟩) c2]
        simp only []
        rw [tmt]
        simp only []
        rw [p3]
        by_cases z : pl g h = []
        · rw [if_pos z]
          have e3 := none_way z
          rw [e2] at e3
          rw [e3, back z]
          rw [l0]
          simp only [tmap]
          rw [show tm (tm s.last).2 = (none, (tm s.last).2) from tm_tmap tri none]
        · rw [if_neg z, direct z, e2, if_neg ih.2]
      · rw [if_neg z1]
        rw [put_add (s := ⟨(t, pl g0 (ahead (tm s.last).2 g).1) :: r, (ahead (tm s.last).2 g).2⟩) (by rw [tmg]) rfl]
        simp only []
        rw [tmg]
        simp only []
        rw [p3]
        by_cases z : pl g h = []
        · rw [if_pos z, none_way z, if_neg b0.2, back z]
          exact l0.symm
        · rw [if_neg z, direct z]
theorem run_tp (s : Sta q) (t : Option (El q)) (m : Mat q) : act (run s (tp t)) (.mat m) = act s (.mat (tmap t m)) := by
  cases t with
  | none => rfl
  | some t =>
    show (⟨s.st, thn (thn s.last (turn t)) m⟩ : Sta q) = ⟨s.st, thn s.last (thn (turn t) m)⟩
    rw [thn_assoc]
theorem rowSt_ok : ∀ {r : List (Option (El q) × Po q)}, Good r → ∀ p ∈ rowSt r, PcOk p
  | [], _, p, hp => by cases hp
  | (t, g) :: r, ⟨h1, h2, h3⟩, p, hp => by
    rcases List.mem_append.mp hp with hp | hp
    · rcases List.mem_append.mp hp with hp | hp
      · exact rowSt_ok h3 p hp
      · cases t with
        | none => cases hp
        | some t =>
          rw [List.mem_singleton.mp hp]
          exact det_turn t
    · rw [List.mem_singleton.mp hp]
      exact h1
theorem tp_ok (t : Option (El q)) : ∀ p ∈ tp t, PcOk p := by
  intro p hp
  cases t with
  | none => cases hp
  | some t =>
    rw [List.mem_singleton.mp hp]
    exact det_turn t
/-- THE LEAST ROW DOES THE SAME: behind any state -/
theorem run_act {s t : Sta q} (hs : Okay s) (ht : Okay t) : ∀ {p : Pc q}, PcOk p → run s (rowOf (act t p)) = act (run s (rowOf t)) p
  | .mat m, _ => by
    unfold rowOf
    rw [run_app, run_app]
    show (⟨(run s (rowSt t.st)).st, thn (run s (rowSt t.st)).last (thn t.last m)⟩ : Sta q) = ⟨(run s (rowSt t.st)).st, thn (thn (run s (rowSt t.st)).last t.last) m⟩
    rw [thn_assoc]
  | .bd f, hf => by
    have tri := tm_tri ht.2
    have r1 : run s (rowOf t) = act (run s (rowSt t.st)) (.mat t.last) := by
      unfold rowOf
      rw [run_app]
      rfl
    -- what is left to do behind the bends of t
    have key : ∀ u : Sta q, Okay u → act (act u (.mat t.last)) (.bd f) = act (act (run u (tp (tm t.last).1)) (.bd (ahead (tm t.last).2 f).1)) (.mat (ahead (tm t.last).2 f).2) := by
      intro u hu
      have e : act u (.mat t.last) = act (run u (tp (tm t.last).1)) (.mat (tm t.last).2) := by
        rw [run_tp, tm_back]
      rw [e]
      exact put_mat (run_ok hu (tp_ok _)) tri f
    have okR : Okay (run s (rowSt t.st)) := run_ok hs (rowSt_ok ht.1)
    rw [r1, key _ okR]
    show run s (rowOf (put t f)) = _
    by_cases c : (tm t.last).1 ≠ none ∨ t.st = []
    · rw [put_push c]
      unfold rowOf
      rw [rowSt_cons]
      rw [run_app, run_app, run_app]
      rfl
    · have h1 : (tm t.last).1 = none := Classical.byContradiction fun z => c (.inl z)
      cases es : t.st with
      | nil => exact absurd (.inr es) c
      | cons p r =>
        obtain ⟨t0, g0⟩ := p
        rw [put_add h1 es, h1]
        have gd := ht.1
        rw [es] at gd
        obtain ⟨b0, n0, r0⟩ := gd
        have okr : Okay (run s (rowSt r)) := run_ok hs (rowSt_ok r0)
        have ok2 : Okay (run (run s (rowSt r)) (tp t0)) := run_ok okr (tp_ok _)
        have e1 : run s (rowSt ((t0, g0) :: r)) = act (run (run s (rowSt r)) (tp t0)) (.bd g0) := by
          rw [rowSt_cons]
          rw [run_app, run_app]
          rfl
        have e2 : act (run (run s (rowSt ((t0, g0) :: r))) (tp none)) (.bd (ahead (tm t.last).2 f).1) = put (put (run (run s (rowSt r)) (tp t0)) g0) (ahead (tm t.last).2 f).1 := by
          rw [e1]
          rfl
        rw [e2, put_put ok2 b0 (ahead_isB tri hf)]
        by_cases z : pl g0 (ahead (tm t.last).2 f).1 = []
        · rw [if_pos z, if_pos z, run_tp]
          unfold rowOf
          rw [run_app]
          rfl
        · rw [if_neg z, if_neg z]
          unfold rowOf
          rw [rowSt_cons]
          rw [run_app, run_app, run_app]
          rfl
theorem run_empty {s : Sta q} : run s (rowOf empty) = s := by
  show (⟨s.st, thn s.last same⟩ : Sta q) = s
  rw [thn_same]
theorem empty_ok : Okay (empty : Sta q) := ⟨trivial, det_same⟩
/-- a row, and the row of its step -/
theorem run_run {s : Sta q} (hs : Okay s) {l : List (Pc q)} (hl : ∀ p ∈ l, PcOk p) : run s (rowOf (run empty l)) = run s l := by
  have gen : ∀ (l : List (Pc q)) (t : Sta q), Okay t → (∀ p ∈ l, PcOk p) → run s (rowOf (run t l)) = run (run s (rowOf t)) l := by
    intro l
    induction l with
    | nil => intro t _ _; rfl
    | cons p l ih =>
      intro t ht hl
      show run s (rowOf (run (act t p) l)) = run (act (run s (rowOf t)) p) l
      rw [ih _ (act_ok ht (hl p (List.mem_cons_self ..))) fun x hx => hl x (List.mem_cons_of_mem _ hx), run_act hs ht (hl p (List.mem_cons_self ..))]
  rw [gen l empty empty_ok hl, run_empty]
end Fld
set_option Elab.async false
set_option linter.all false
set_option maxRecDepth 100000
set_option maxHeartbeats 4000000
/-! Data over the layer: lists of numbers, lists of such lists, written tables, the deck of a law's draws. -/
namespace BP
open PySem PySem.Spec PyProof.Rows L2

/-! ### numbers as values -/
abbrev iv (ns : List Nat) : List V := ns.map fun n => V.int (n : Nat)
abbrev dat (ns : List Int) : PyData := .list (ns.map PyData.int)
abbrev datN (ns : List Nat) : PyData := .list (ns.map fun n => PyData.int (n : Nat))
abbrev datR (rows : List (List Nat)) : PyData := .list (rows.map datN)
theorem dpAll_ints {K : PySem.W.Frag} {H : Hp} : ∀ ns : List Int, DpAll K H (ns.map V.int) (ns.map PyData.int)
  | [] => .nil
  | n :: r => .cons (.int n) (dpAll_ints r)
theorem dpAll_nats {K : PySem.W.Frag} {H : Hp} : ∀ ns : List Nat, DpAll K H (iv ns) (ns.map fun n => PyData.int (n : Nat))
  | [] => .nil
  | n :: r => .cons (.int (n : Nat)) (dpAll_nats r)
theorem dp_ints {K : PySem.W.Frag} {H : Hp} {a : Addr} {ns : List Int} (h : SqL K H a (ns.map V.int)) : Dp K H (.ref a) (dat ns) := .lst h (dpAll_ints ns)
theorem dp_nats {K : PySem.W.Frag} {H : Hp} {a : Addr} {ns : List Nat} (h : SqL K H a (iv ns)) : Dp K H (.ref a) (datN ns) := .lst h (dpAll_nats ns)
theorem canLay_ints : ∀ ns : List Int, PyData.canLayAll0 (ns.map PyData.int) = true
  | [] => by simp [PyData.canLayAll0]
  | n :: r => by simp [PyData.canLayAll0, PyData.canLay0, canLay_ints r]
theorem depth_ints : ∀ ns : List Int, PyData.depthAll (ns.map PyData.int) = 0
  | [] => by simp [PyData.depthAll]
  | n :: r => by simp [PyData.depthAll, PyData.depth, depth_ints r]
theorem shaped_ints (ns : List Int) : SeqAt.shaped (dat ns) = true := by
  unfold SeqAt.shaped dat
  simp [PyData.canLay0, canLay_ints, PyData.depth, depth_ints]
theorem shaped_nats (ns : List Nat) : SeqAt.shaped (datN ns) = true := by
  have e : datN ns = dat (ns.map fun (n : Nat) => (n : Int)) := by
    unfold datN dat
    rw [List.map_map]
    rfl
  rw [e]
  exact shaped_ints _
theorem eqv_nil (ns : List Int) : PyData.eqv (dat ns) (dat []) = ns.isEmpty := by
  cases ns with
  | nil => simp [PyData.eqv, PyData.eqvAll]
  | cons n r => simp [PyData.eqv, PyData.eqvAll]
theorem eqvAll_refl : ∀ ns : List Nat, PyData.eqvAll (ns.map fun n => PyData.int (n : Nat)) (ns.map fun n => PyData.int (n : Nat)) = true
  | [] => by simp [PyData.eqvAll]
  | n :: r => by simp [PyData.eqvAll, PyData.eqv, eqvAll_refl r]
theorem eqv_refl_nats (ns : List Nat) : PyData.eqv (datN ns) (datN ns) = true := by
  unfold datN
  simp [PyData.eqv, eqvAll_refl]

/-! ### heaps -/
theorem same_new {H : Hp} {p : Addr} {o : HO} (h : H p = none) : Same H (upd H p o) := fun b x e => by
  rw [upd_ne (ne_of_none e h)]
  exact e
/-- all stands as it stood, but what is at d and at c -/
def But (d c : Addr) (H H' : Hp) : Prop := ∀ b x, b ≠ d → b ≠ c → H b = some x → H' b = some x
theorem But.of {d c : Addr} {H H' : Hp} (h : Same H H') : But d c H H' := fun b x _ _ e => h b x e
theorem But.refl {d c : Addr} {H : Hp} : But d c H H := fun b x _ _ e => e
theorem But.trans {d c : Addr} {H H' H'' : Hp} (h : But d c H H') (k : But d c H' H'') : But d c H H'' := fun b x n m e => k b x n m (h b x n m e)

/-- at D a list of lists of numbers, none of them at c -/
def Rows (c : Addr) (H : Hp) (D : Addr) (rows : List (List Nat)) : Prop :=
  ∃ ps : List Addr, D ≠ c ∧ (∀ p ∈ ps, p ≠ c) ∧ H D = some (.lst (ps.map V.ref)) ∧ ps.length = rows.length ∧ ∀ (i : Nat) (p : Addr) (r : List Nat), ps[i]? = some p → rows[i]? = some r → H p = some (.lst (iv r))
theorem Rows.same {c : Addr} {H H' : Hp} {D : Addr} {rows : List (List Nat)} (h : Rows c H D rows) (s : Same H H') : Rows c H' D rows := by
  obtain ⟨ps, n1, n2, h1, h2, h3⟩ := h
  exact ⟨ps, n1, n2, s _ _ h1, h2, fun i p r a b => s _ _ (h3 i p r a b)⟩
theorem dpAll_rows {K : PySem.W.Frag} {H : Hp} : ∀ (ps : List Addr) (rows : List (List Nat)), ps.length = rows.length → (∀ (i : Nat) (p : Addr) (r : List Nat), ps[i]? = some p → rows[i]? = some r → H p = some (.lst (iv r))) → DpAll K H (ps.map V.ref) (rows.map datN)
  | [], [], _, _ => .nil
  | p :: ps, r :: rows, hl, h => by
    refine .cons (dp_nats (.inl (.inl (h 0 p r rfl rfl)))) (dpAll_rows ps rows (by simpa using hl) fun i p' r' a b => ?_)
    exact h (i + 1) p' r' (by simpa using a) (by simpa using b)
  | [], _ :: _, hl, _ => by simp at hl
  | _ :: _, [], hl, _ => by simp at hl
theorem Rows.dp {K : PySem.W.Frag} {c : Addr} {H : Hp} {D : Addr} {rows : List (List Nat)} (h : Rows c H D rows) : Dp K H (.ref D) (datR rows) := by
  obtain ⟨ps, _, _, h1, h2, h3⟩ := h
  exact .lst (.inl (.inl h1)) (dpAll_rows ps rows h2 h3)
/-- one row is read -/
theorem Rows.row {c : Addr} {H : Hp} {D : Addr} {rows : List (List Nat)} (h : Rows c H D rows) {i : Nat} {r : List Nat} (e : rows[i]? = some r) : ∃ (ps : List Addr) (p : Addr), H D = some (.lst (ps.map V.ref)) ∧ (ps.map V.ref)[i]? = some (.ref p) ∧ H p = some (.lst (iv r)) := by
  obtain ⟨ps, _, _, h1, h2, h3⟩ := h
  have hi : i < ps.length := by
    rw [h2]
    exact (List.getElem?_eq_some_iff.mp e).1
  refine ⟨ps, ps[i], h1, ?_, h3 i _ r (List.getElem?_eq_getElem hi) e⟩
  rw [List.getElem?_map, List.getElem?_eq_getElem hi]
  rfl
/-- the table of f over the numbers below q -/
def tab (f : Nat → Nat → Nat) (q : Nat) : List (List Nat) := (List.range q).map fun a => (List.range q).map (f a)
theorem tab_row {f : Nat → Nat → Nat} {q a : Nat} (h : a < q) : (tab f q)[a]? = some ((List.range q).map (f a)) := by
  unfold tab
  rw [List.getElem?_map, List.getElem?_range h]
  rfl
theorem iv_at {f : Nat → Nat} {q b : Nat} (h : b < q) : (iv ((List.range q).map f))[b]? = some (.int (f b : Nat)) := by
  unfold iv
  rw [List.getElem?_map, List.getElem?_map, List.getElem?_range h]
  rfl

/-! ### written tables -/
def intOf : Value → Option Int
  | .int i _ => some i
  | _ => none
def rowIs (K : PySem.W.Frag) (v : Value) (r : List Nat) : Bool := match v with
  | .ref p => (match K.lookup p with
    | some ⟨.type "tuple", none, .seq its _, _⟩ => decide (its.size ≤ sizeLine) && decide (its.toList.map intOf = r.map fun (n : Nat) => some ((n : Nat) : Int))
    | _ => false)
  | _ => false
def tabIs (K : PySem.W.Frag) (d : Addr) (f : Nat → Nat → Nat → Nat) : Bool := match K.lookup d with
  | some ⟨.type "dict", none, .dict es _, sl⟩ => decide (sl.size = 0) && keysI es.toList && Fld.fields.all fun q => (match findBy Value.isInt es (q : Nat) with
    | some (.ref p) => (match K.lookup p with
      | some ⟨.type "tuple", none, .seq its _, _⟩ => decide (its.size = q) && Fld.below q fun a => rowIs K (its.toList.getD a .none) ((List.range q).map (f q a))
      | _ => false)
    | _ => false)
  | _ => false
theorem vals_of_ints : ∀ {us : List Value} {r : List Nat}, us.map intOf = r.map (fun (n : Nat) => some ((n : Nat) : Int)) → Vals (iv r) us
  | [], [], _ => .nil
  | u :: us, n :: r, h => by
    injection h with h1 h2
    refine .cons ?_ (vals_of_ints h2)
    cases u with
    | int i t => exact ⟨t, by rw [Option.some.inj h1]⟩
    | _ => cases h1
  | [], _ :: _, h => nomatch h
  | _ :: _, [], h => nomatch h
theorem row_is {K : PySem.W.Frag} {v : Value} {r : List Nat} (h : rowIs K v r = true) : ∃ p, v = .ref p ∧ (∀ H, SqT K H p (iv r)) ∧ ∃ o, K.lookup p = some o ∧ o.cls = .type "tuple" ∧ o.dict = none := by
  unfold rowIs at h
  split at h
  · rename_i p
    split at h
    · rename_i its n sl e
      rw [Bool.and_eq_true, decide_eq_true_eq, decide_eq_true_eq] at h
      exact ⟨p, rfl, fun H => .inr ⟨_, its, n, e, rfl, rfl, h.1, vals_of_ints h.2⟩, _, e, rfl, rfl⟩
    · cases h
  · cases h
/-- the table's entry at q: a tuple of the rows -/
def TabAt (K : PySem.W.Frag) (d : Addr) (f : Nat → Nat → Nat → Nat) (q : Nat) : Prop :=
  ∃ p vs, KDI K d (q : Nat) (.ref p) ∧ (∀ H, SqT K H p vs) ∧ ∀ a, a < q → ∃ r, vs[a]? = some (.ref r) ∧ (∀ H, SqT K H r (iv ((List.range q).map (f q a)))) ∧ ∃ o, K.lookup r = some o ∧ o.cls = .type "tuple" ∧ o.dict = none
theorem refs_of {K : PySem.W.Frag} {g : Nat → List Nat} : ∀ (us : List Value) , (∀ a, a < us.length → rowIs K (us.getD a .none) (g a) = true) → ∃ vs, Vals vs us ∧ ∀ a, a < us.length → ∃ r, vs[a]? = some (.ref r) ∧ (∀ H, SqT K H r (iv (g a))) ∧ ∃ o, K.lookup r = some o ∧ o.cls = .type "tuple" ∧ o.dict = none
  | us, h => by
    induction us generalizing g with
    | nil => exact ⟨[], .nil, fun a ha => absurd ha (Nat.not_lt_zero _)⟩
    | cons u us ih =>
      obtain ⟨p, e, hp, ho⟩ := row_is (h 0 (Nat.succ_pos _))
      have e' : u = .ref p := e
      subst e'
      obtain ⟨vs, hv, hr⟩ := ih (g := fun a => g (a + 1)) fun a ha => h (a + 1) (Nat.succ_lt_succ ha)
      refine ⟨V.ref p :: vs, .cons rfl hv, fun a ha => ?_⟩
      cases a with
      | zero => exact ⟨p, rfl, hp, ho⟩
      | succ a => exact hr a (Nat.lt_of_succ_lt_succ ha)
theorem tab_at {K : PySem.W.Frag} {d : Addr} {f : Nat → Nat → Nat → Nat} (h : tabIs K d f = true) {q : Nat} (hq : q ∈ Fld.fields) : TabAt K d f q := by
  unfold tabIs at h
  split at h
  · rename_i es n sl0 e
    rw [Bool.and_eq_true, Bool.and_eq_true, decide_eq_true_eq] at h
    have z : sl0 = #[] := Array.eq_empty_of_size_eq_zero h.1.1
    subst z
    have t := List.all_eq_true.mp h.2 q hq
    split at t
    · rename_i p ep
      split at t
      · rename_i its m sl e2
        rw [Bool.and_eq_true, decide_eq_true_eq] at t
        have hl : its.toList.length = q := by
          rw [Array.length_toList]
          exact t.1
        obtain ⟨vs, hv, hr⟩ := refs_of (K := K) (g := fun a => (List.range q).map (f q a)) its.toList fun a ha => by
          rw [hl] at ha
          exact Fld.of_below t.2 ha
        have sz : its.size ≤ sizeLine := by
          rw [t.1]
          exact Nat.le_trans (Fld.le16 hq) (by decide)
        refine ⟨p, vs, ⟨es, n, _, e, h.1.2, ep, rfl⟩, fun H => .inr ⟨_, its, m, e2, rfl, rfl, sz, hv⟩, fun a ha => hr a ?_⟩
        rw [hl]
        exact ha
      · cases t
    · cases t
  · cases h

/-! ### the deck -/
abbrev kC : Key := Sum.inr "cells"
abbrev kM : Key := Sum.inr "mixed"
abbrev kD : Key := Sum.inr "draws"
theorem st1 : ¬ Str.ofString "cells" = Str.ofString "mixed" := by decide +kernel
theorem st2 : ¬ Str.ofString "cells" = Str.ofString "draws" := by decide +kernel
theorem st3 : ¬ Str.ofString "mixed" = Str.ofString "draws" := by decide +kernel
theorem ne1 : ¬ kC = kM := by decide +kernel
theorem ne2 : ¬ kC = kD := by decide +kernel
theorem ne3 : ¬ kM = kD := by decide +kernel
abbrev deckD (c : Addr) (m n : Int) : List (Key × V) := [(kC, .ref c), (kM, .int m), (kD, .int n)]
theorem deck_C {c : Addr} {m n : Int} : valV (deckD c m n) kC = some (.ref c) := valV_pos rfl
theorem deck_M {c : Addr} {m n : Int} : valV (deckD c m n) kM = some (.int m) := by
  rw [valV_neg ne1]
  exact valV_pos rfl
theorem deck_D {c : Addr} {m n : Int} : valV (deckD c m n) kD = some (.int n) := by
  rw [valV_neg ne2, valV_neg ne3]
  exact valV_pos rfl
theorem deck_put {c : Addr} {m n k : Int} : putK (deckD c m n) kD (.int k) = deckD c m k := by
  unfold putK
  rw [if_pos (by simp)]
  simp [deckD, st2, st3]
theorem deck_merge {c : Addr} {m n : Int} : mergeK [] (deckD c m n) = deckD c m n := by
  have a1 : putK ([] : List (Key × V)) kC (.ref c) = [(kC, .ref c)] := by
    unfold putK
    rw [if_neg (by simp)]
    rfl
  have a2 : putK [(kC, V.ref c)] kM (.int m) = [(kC, .ref c), (kM, .int m)] := by
    unfold putK
    rw [if_neg (by simp [st1])]
    rfl
  have a3 : putK [(kC, V.ref c), (kM, .int m)] kD (.int n) = deckD c m n := by
    unfold putK
    rw [if_neg (by simp [st2, st3])]
    rfl
  show putK (putK (putK [] kC (.ref c)) kM (.int m)) kD (.int n) = _
  rw [a1, a2, a3]
/-- at d the dict of a deck, at c its list of cells -/
def Deck (H : Hp) (d c : Addr) : Prop :=
  ∃ (cells : List Int) (m n : Int), H d = some (.dK (deckD c m n)) ∧ H c = some (.lst (cells.map V.int)) ∧ cells.length ≤ 63 ∧ 0 ≤ m ∧ m < 2147483647
theorem Deck.same {H H' : Hp} {d c : Addr} (h : Deck H d c) (s : Same H H') : Deck H' d c := by
  obtain ⟨cells, m, n, h1, h2, h3⟩ := h
  exact ⟨cells, m, n, s _ _ h1, s _ _ h2, h3⟩
theorem Deck.lst {H : Hp} {d c p : Addr} {xs : List V} (h : Deck H d c) (e : H p = some (.lst xs)) (n : p ≠ c) : p ≠ d := by
  obtain ⟨cells, m, k, h1, _⟩ := h
  exact ne_of e h1 (fun z => by cases z)
theorem Rows.but {H H' : Hp} {d c D : Addr} {rows : List (List Nat)} (h : Rows c H D rows) (k : Deck H d c) (b : But d c H H') : Rows c H' D rows := by
  obtain ⟨ps, n1, n2, h1, h2, h3⟩ := h
  refine ⟨ps, n1, n2, b _ _ (k.lst h1 n1) n1 h1, h2, fun i p r hp hr => ?_⟩
  have np := n2 p (List.mem_of_getElem? hp)
  have e := h3 i p r hp hr
  exact b _ _ (k.lst e np) np e
/-- a new thing is neither -/
theorem Deck.new {H : Hp} {d c p : Addr} (h : Deck H d c) (e : H p = none) : p ≠ d ∧ p ≠ c := by
  obtain ⟨cells, m, k, h1, h2, _⟩ := h
  refine ⟨fun z => ?_, fun z => ?_⟩
  · rw [z, h1] at e
    cases e
  · rw [z, h2] at e
    cases e
end BP
set_option Elab.async false
set_option linter.all false
set_option maxRecDepth 100000
set_option maxHeartbeats 4000000
/-! Numbers of a field and lists of them as the layer's values; what loops make of lists, by their numbers. -/
namespace Fld
variable {q : Nat} [F : IsF q]
theorem co_set (l : Po q) (k : Nat) (x : El q) (h : k < l.length) (j : Nat) : co (l.set k x) j = if j = k then x else co l j := by
  unfold co
  rw [List.getD_eq_getElem?_getD, List.getD_eq_getElem?_getD]
  by_cases e : j = k
  · subst e
    rw [if_pos rfl, List.getElem?_set_self h]
    rfl
  · rw [if_neg e, List.getElem?_set_ne (fun z => e z.symm)]
theorem co_get {l : Po q} {k : Nat} {x : El q} (h : l[k]? = some x) : co l k = x := by
  unfold co
  rw [List.getD_eq_getElem?_getD, h]
  rfl
theorem get_co {l : Po q} {k : Nat} (h : k < l.length) : l[k]? = some (co l k) := by
  unfold co
  rw [List.getD_eq_getElem?_getD, List.getElem?_eq_getElem h]
  rfl
theorem co_take (l : Po q) (n j : Nat) : co (l.take n) j = if j < n then co l j else 0 := by
  unfold co
  rw [List.getD_eq_getElem?_getD, List.getD_eq_getElem?_getD, List.getElem?_take]
  by_cases h : j < n
  · rw [if_pos h, if_pos h]
  · rw [if_neg h, if_neg h]
    rfl
theorem trim_step {l : Po q} {n : Nat} (h : co l n = 0) : trim (l.take (n + 1)) = trim (l.take n) := by
  refine trim_ext fun j => ?_
  rw [co_take, co_take]
  by_cases h1 : j < n
  · rw [if_pos h1, if_pos (by omega)]
  · rw [if_neg h1]
    by_cases h2 : j = n
    · subst h2
      rw [if_pos (by omega), h]
    · rw [if_neg (by omega)]
theorem trim_stop {l : Po q} {n : Nat} (hn : n < l.length) (h : co l n ≠ 0) : trim (l.take (n + 1)) = l.take (n + 1) := by
  refine trim_of_top (n := n) ?_ ?_
  · rw [List.length_take]
    omega
  · rw [co_take, if_pos (by omega)]
    exact h
/-- f times g, number by number: the first i of f -/
def cvs (f g : Po q) : Nat → Nat → El q
  | 0, _ => 0
  | i + 1, n => cvs f g i n + if i ≤ n then co f i * co g (n - i) else 0
theorem cvs_two (f : Po q) (k e : El q) : ∀ m n, cvs f [k, e] m n = (if n < m then co f n * k else 0) + (if 1 ≤ n ∧ n - 1 < m then co f (n - 1) * e else 0)
  | 0, n => by
    rw [if_neg (by omega), if_neg (by omega)]
    show (0 : El q) = 0 + 0
    grind
  | m + 1, n => by
    show cvs f [k, e] m n + (if m ≤ n then co f m * co [k, e] (n - m) else 0) = _
    rw [cvs_two f k e m n]
    by_cases h1 : n < m
    · rw [if_pos h1, if_pos (show n < m + 1 by omega), if_neg (show ¬ m ≤ n by omega)]
      by_cases h2 : 1 ≤ n
      · rw [if_pos ⟨h2, by omega⟩, if_pos ⟨h2, by omega⟩]
        grind
      · rw [if_neg (by omega), if_neg (by omega)]
        grind
    · by_cases h2 : n = m
      · subst h2
        rw [if_neg h1, if_pos (show n < n + 1 by omega), if_pos (Nat.le_refl _), Nat.sub_self]
        show 0 + _ + co f n * k = _
        by_cases h3 : 1 ≤ n
        · rw [if_pos ⟨h3, by omega⟩, if_pos ⟨h3, by omega⟩]
          grind
        · rw [if_neg (by omega), if_neg (by omega)]
          grind
      · by_cases h3 : n = m + 1
        · subst h3
          rw [if_neg h1, if_neg (by omega), if_pos (by omega), if_neg (by omega), if_pos ⟨by omega, by omega⟩]
          have e1 : m + 1 - m = 1 := by omega
          have e2 : m + 1 - 1 = m := by omega
          rw [e1, e2]
          show (0 : El q) + 0 + co f m * e = 0 + co f m * e
          grind
        · rw [if_neg h1, if_neg (by omega), if_pos (by omega), if_neg (by omega), if_neg (by omega)]
          obtain ⟨j, hj⟩ : ∃ j, n - m = j + 2 := ⟨n - m - 2, by omega⟩
          rw [hj]
          show (0 : El q) + 0 + co f m * 0 = 0 + 0
          grind
theorem cvs_ml (f : Po q) (k e : El q) (n : Nat) : cvs f [k, e] f.length n = co (ml f e k) n := by
  rw [cvs_two]
  cases n with
  | zero =>
    rw [co_ml_zero, if_neg (show ¬ (1 ≤ 0 ∧ 0 - 1 < f.length) by omega)]
    by_cases h : 0 < f.length
    · rw [if_pos h]
      grind
    · rw [if_neg h, co_out (by omega)]
      grind
  | succ n =>
    rw [co_ml_succ]
    have e1 : n + 1 - 1 = n := by omega
    rw [e1]
    by_cases h : n + 1 < f.length
    · rw [if_pos h, if_pos ⟨by omega, by omega⟩]
    · rw [if_neg h, co_out (f := f) (i := n + 1) (by omega)]
      by_cases h2 : n < f.length
      · rw [if_pos ⟨by omega, h2⟩]
        grind
      · rw [if_neg (by omega), co_out (by omega)]
        grind
/-- the value at y -/
def ev (y : El q) : Po q → El q
  | [] => 0
  | a :: f => ev y f * y + a
theorem sh_step (e k x : El q) (f : Po q) {t : Po q} (h : ∀ n, co t n = cvs (trim (sh e k f)) [k, e] (trim (sh e k f)).length n) : pl t (trim [x]) = trim (sh e k (x :: f)) := by
  refine canon_ext (pl_canon _ _) (trim_trim _) fun n => ?_
  rw [co_pl, h, co_trim, co_trim, cvs_ml]
  have ex : ∀ j, co (ml (trim (sh e k f)) e k) j = co (ml (sh e k f) e k) j := by
    intro j
    cases j with
    | zero => rw [co_ml_zero, co_ml_zero, co_trim]
    | succ j => rw [co_ml_succ, co_ml_succ, co_trim, co_trim]
  rw [ex]
  show _ = co (pad [x] (ml (sh e k f) e k)) n
  rw [co_pad]
  grind
end Fld
namespace BP
open PySem PySem.Spec PyProof.Rows L2 Fld
section
variable {q : Nat} [F : IsF q]
abbrev vn (x : El q) : V := .int (x.val : Nat)
abbrev vns (l : Po q) : List V := l.map vn
theorem vns_get {l : Po q} {k : Nat} (h : k < l.length) : (vns l)[k]? = some (vn (co l k)) := by
  unfold vns
  rw [List.getElem?_map, get_co h]
  rfl
theorem of_vns {l : Po q} {k : Nat} {x : V} (h : (vns l)[k]? = some x) : k < l.length ∧ x = vn (co l k) := by
  have hk : k < l.length := by
    have := (List.getElem?_eq_some_iff.mp h).1
    rw [List.length_map] at this
    exact this
  rw [vns_get hk] at h
  exact ⟨hk, (Option.some.inj h).symm⟩
theorem vns_set (l : Po q) (k : Nat) (x : El q) : (vns l).set k (vn x) = vns (l.set k x) := by
  unfold vns
  rw [List.map_set]
theorem cut_take (xs : List V) (n : Nat) : cutV xs none (some (n : Int)) = xs.take n := by
  unfold cutV
  rw [HT.sIx_none, HT.sIx_nat]
  rw [List.drop_zero, Nat.sub_zero]
  by_cases h : n ≤ xs.length
  · rw [Nat.min_eq_left h]
  · rw [Nat.min_eq_right (by omega), List.take_length, List.take_of_length_le (by omega)]
theorem ixN_nat {n k : Nat} (h : k < n) : ixN n (k : Int) = some k := by
  unfold ixN
  rw [if_pos (by omega), if_pos (by omega)]
  simp
end
theorem Same.tupS {K : PySem.W.Frag} {H H' : Hp} {a : Addr} {xs : List V} (s : Same H H') (h : SqT K H a xs) : SqT K H' a xs := by
  rcases h with h | h
  · rcases h with h | ⟨o, h⟩
    · exact .inl (.inl (s _ _ h))
    · exact .inl (.inr ⟨o, s _ _ h⟩)
  · exact .inr h
end BP
set_option Elab.async false
set_option linter.all false
set_option maxRecDepth 100000
set_option maxHeartbeats 4000000
namespace K13
open PySem PySem.Spec PyProof.Rows L2 BP
def topS (i : Nat) : Stmt := PySem.Challenge.pw_bentplane_k38_places_behind_a_place.main.body.getD i (.Pass ⟨0, 0, 0, 0⟩)
abbrev sIsInteger : Stmt := topS 7
abbrev nIsInteger : List Str := ["thing"]
abbrev pIsInteger : List Str := ["thing"]
theorem scIsInteger : FnScope nIsInteger pIsInteger (defScope sIsInteger) := ⟨rfl, rfl, rfl, by decide +kernel, rfl, by decide +kernel, by decide +kernel⟩
abbrev sIsNumber : Stmt := topS 8
abbrev nIsNumber : List Str := ["q", "thing"]
abbrev pIsNumber : List Str := ["q", "thing"]
theorem scIsNumber : FnScope nIsNumber pIsNumber (defScope sIsNumber) := ⟨rfl, rfl, rfl, by decide +kernel, rfl, by decide +kernel, by decide +kernel⟩
abbrev sPlus : Stmt := topS 9
abbrev nPlus : List Str := ["q", "a", "b"]
abbrev pPlus : List Str := ["q", "a", "b"]
theorem scPlus : FnScope nPlus pPlus (defScope sPlus) := ⟨rfl, rfl, rfl, by decide +kernel, rfl, by decide +kernel, by decide +kernel⟩
abbrev sMinus : Stmt := topS 10
abbrev nMinus : List Str := ["q", "a", "b"]
abbrev pMinus : List Str := ["q", "a", "b"]
theorem scMinus : FnScope nMinus pMinus (defScope sMinus) := ⟨rfl, rfl, rfl, by decide +kernel, rfl, by decide +kernel, by decide +kernel⟩
abbrev sTimes : Stmt := topS 11
abbrev nTimes : List Str := ["q", "a", "b"]
abbrev pTimes : List Str := ["q", "a", "b"]
theorem scTimes : FnScope nTimes pTimes (defScope sTimes) := ⟨rfl, rfl, rfl, by decide +kernel, rfl, by decide +kernel, by decide +kernel⟩
abbrev sOpposite : Stmt := topS 12
abbrev nOpposite : List Str := ["q", "a"]
abbrev pOpposite : List Str := ["q", "a"]
theorem scOpposite : FnScope nOpposite pOpposite (defScope sOpposite) := ⟨rfl, rfl, rfl, by decide +kernel, rfl, by decide +kernel, by decide +kernel⟩
abbrev sInverse : Stmt := topS 13
abbrev nInverse : List Str := ["q", "a"]
abbrev pInverse : List Str := ["q", "a"]
theorem scInverse : FnScope nInverse pInverse (defScope sInverse) := ⟨rfl, rfl, rfl, by decide +kernel, rfl, by decide +kernel, by decide +kernel⟩
abbrev sAreNumbers : Stmt := topS 15
abbrev nAreNumbers : List Str := ["q", "thing", "part"]
abbrev pAreNumbers : List Str := ["q", "thing"]
theorem scAreNumbers : FnScope nAreNumbers pAreNumbers (defScope sAreNumbers) := ⟨rfl, rfl, rfl, by decide +kernel, rfl, by decide +kernel, by decide +kernel⟩
abbrev sIsOneLetter : Stmt := topS 16
abbrev nIsOneLetter : List Str := ["q", "thing"]
abbrev pIsOneLetter : List Str := ["q", "thing"]
theorem scIsOneLetter : FnScope nIsOneLetter pIsOneLetter (defScope sIsOneLetter) := ⟨rfl, rfl, rfl, by decide +kernel, rfl, by decide +kernel, by decide +kernel⟩
abbrev sTrimmed : Stmt := topS 17
abbrev nTrimmed : List Str := ["numbers", "size"]
abbrev pTrimmed : List Str := ["numbers"]
theorem scTrimmed : FnScope nTrimmed pTrimmed (defScope sTrimmed) := ⟨rfl, rfl, rfl, by decide +kernel, rfl, by decide +kernel, by decide +kernel⟩
abbrev sOnePlus : Stmt := topS 18
abbrev nOnePlus : List Str := ["q", "f", "g", "found", "k", "number"]
abbrev pOnePlus : List Str := ["q", "f", "g"]
theorem scOnePlus : FnScope nOnePlus pOnePlus (defScope sOnePlus) := ⟨rfl, rfl, rfl, by decide +kernel, rfl, by decide +kernel, by decide +kernel⟩
abbrev sOneScaled : Stmt := topS 19
abbrev nOneScaled : List Str := ["q", "f", "number", "part"]
abbrev pOneScaled : List Str := ["q", "f", "number"]
theorem scOneScaled : FnScope nOneScaled pOneScaled (defScope sOneScaled) := ⟨rfl, rfl, rfl, by decide +kernel, rfl, by decide +kernel, by decide +kernel⟩
abbrev sOneTimes : Stmt := topS 20
abbrev nOneTimes : List Str := ["q", "f", "g", "found", "i", "a", "j", "b"]
abbrev pOneTimes : List Str := ["q", "f", "g"]
theorem scOneTimes : FnScope nOneTimes pOneTimes (defScope sOneTimes) := ⟨rfl, rfl, rfl, by decide +kernel, rfl, by decide +kernel, by decide +kernel⟩
abbrev sOnePut : Stmt := topS 21
abbrev nOnePut : List Str := ["q", "f", "g", "found", "part"]
abbrev pOnePut : List Str := ["q", "f", "g"]
theorem scOnePut : FnScope nOnePut pOnePut (defScope sOnePut) := ⟨rfl, rfl, rfl, by decide +kernel, rfl, by decide +kernel, by decide +kernel⟩
abbrev sTurnBy : Stmt := topS 24
abbrev nTurnBy : List Str := ["number"]
abbrev pTurnBy : List Str := ["number"]
theorem scTurnBy : FnScope nTurnBy pTurnBy (defScope sTurnBy) := ⟨rfl, rfl, rfl, by decide +kernel, rfl, by decide +kernel, by decide +kernel⟩
abbrev sSummed : Stmt := topS 25
abbrev nSummed : List Str := ["q", "a", "x", "b", "y", "c"]
abbrev pSummed : List Str := ["q", "a", "x", "b", "y", "c"]
theorem scSummed : FnScope nSummed pSummed (defScope sSummed) := ⟨rfl, rfl, rfl, by decide +kernel, rfl, by decide +kernel, by decide +kernel⟩
abbrev sStraightDeterminant : Stmt := topS 26
abbrev nStraightDeterminant : List Str := ["q", "numbers", "a", "b", "_", "d", "e"]
abbrev pStraightDeterminant : List Str := ["q", "numbers"]
theorem scStraightDeterminant : FnScope nStraightDeterminant pStraightDeterminant (defScope sStraightDeterminant) := ⟨rfl, rfl, rfl, by decide +kernel, rfl, by decide +kernel, by decide +kernel⟩
abbrev sStraightThen : Stmt := topS 27
abbrev nStraightThen : List Str := ["q", "one", "other", "a", "b", "c", "d", "e", "f", "first", "second"]
abbrev pStraightThen : List Str := ["q", "one", "other"]
theorem scStraightThen : FnScope nStraightThen pStraightThen (defScope sStraightThen) := ⟨rfl, rfl, rfl, by decide +kernel, rfl, by decide +kernel, by decide +kernel⟩
abbrev sLeastRowInit : Stmt := inClass (topS 30) 0
abbrev nLeastRowInit : List Str := ["self", "q", "step", "start", "bends", "turns", "last"]
abbrev pLeastRowInit : List Str := ["self", "q", "step"]
theorem scLeastRowInit : FnScope nLeastRowInit pLeastRowInit (defScope sLeastRowInit) := ⟨rfl, rfl, rfl, by decide +kernel, rfl, by decide +kernel, by decide +kernel⟩
abbrev sLeastRowAsStep : Stmt := inClass (topS 30) 1
abbrev nLeastRowAsStep : List Str := ["self"]
abbrev pLeastRowAsStep : List Str := ["self"]
theorem scLeastRowAsStep : FnScope nLeastRowAsStep pLeastRowAsStep (defScope sLeastRowAsStep) := ⟨rfl, rfl, rfl, by decide +kernel, rfl, by decide +kernel, by decide +kernel⟩
abbrev sLeastRowPutPiece : Stmt := inClass (topS 30) 2
abbrev nLeastRowPutPiece : List Str := ["self", "piece", "sort", "map_or_bend"]
abbrev pLeastRowPutPiece : List Str := ["self", "piece"]
theorem scLeastRowPutPiece : FnScope nLeastRowPutPiece pLeastRowPutPiece (defScope sLeastRowPutPiece) := ⟨rfl, rfl, rfl, by decide +kernel, rfl, by decide +kernel, by decide +kernel⟩
abbrev sLeastRowPutBend : Stmt := inClass (topS 30) 3
abbrev nLeastRowPutBend : List Str := ["self", "bend", "number", "bent_map", "moved_bend"]
abbrev pLeastRowPutBend : List Str := ["self", "bend"]
theorem scLeastRowPutBend : FnScope nLeastRowPutBend pLeastRowPutBend (defScope sLeastRowPutBend) := ⟨rfl, rfl, rfl, by decide +kernel, rfl, by decide +kernel, by decide +kernel⟩
abbrev sLeastRowAddToLastBend : Stmt := inClass (topS 30) 4
abbrev nLeastRowAddToLastBend : List Str := ["self", "bend", "added", "number"]
abbrev pLeastRowAddToLastBend : List Str := ["self", "bend"]
theorem scLeastRowAddToLastBend : FnScope nLeastRowAddToLastBend pLeastRowAddToLastBend (defScope sLeastRowAddToLastBend) := ⟨rfl, rfl, rfl, by decide +kernel, rfl, by decide +kernel, by decide +kernel⟩
abbrev sTurnAndMap : Stmt := topS 31
abbrev nTurnAndMap : List Str := ["q", "straight", "a", "b", "c", "d", "e", "f", "number"]
abbrev pTurnAndMap : List Str := ["q", "straight"]
theorem scTurnAndMap : FnScope nTurnAndMap pTurnAndMap (defScope sTurnAndMap) := ⟨rfl, rfl, rfl, by decide +kernel, rfl, by decide +kernel, by decide +kernel⟩
abbrev sBendAhead : Stmt := topS 32
abbrev nBendAhead : List Str := ["q", "bent_map", "bend", "a", "b", "c", "_", "e", "f", "parts", "moved_bend", "constant", "linear"]
abbrev pBendAhead : List Str := ["q", "bent_map", "bend"]
theorem scBendAhead : FnScope nBendAhead pBendAhead (defScope sBendAhead) := ⟨rfl, rfl, rfl, by decide +kernel, rfl, by decide +kernel, by decide +kernel⟩
abbrev sStepAndRow : Stmt := topS 33
abbrev nStepAndRow : List Str := ["q", "step", "row", "found", "piece"]
abbrev pStepAndRow : List Str := ["q", "step", "row"]
theorem scStepAndRow : FnScope nStepAndRow pStepAndRow (defScope sStepAndRow) := ⟨rfl, rfl, rfl, by decide +kernel, rfl, by decide +kernel, by decide +kernel⟩
abbrev sRowByStep : Stmt := topS 34
abbrev nRowByStep : List Str := ["step", "start", "bends", "turns", "last", "row", "number", "bend"]
abbrev pRowByStep : List Str := ["step"]
theorem scRowByStep : FnScope nRowByStep pRowByStep (defScope sRowByStep) := ⟨rfl, rfl, rfl, by decide +kernel, rfl, by decide +kernel, by decide +kernel⟩
abbrev sStepThen : Stmt := topS 35
abbrev nStepThen : List Str := ["q", "one", "other"]
abbrev pStepThen : List Str := ["q", "one", "other"]
theorem scStepThen : FnScope nStepThen pStepThen (defScope sStepThen) := ⟨rfl, rfl, rfl, by decide +kernel, rfl, by decide +kernel, by decide +kernel⟩
abbrev sStraightStep : Stmt := topS 36
abbrev nStraightStep : List Str := ["straight"]
abbrev pStraightStep : List Str := ["straight"]
theorem scStraightStep : FnScope nStraightStep pStraightStep (defScope sStraightStep) := ⟨rfl, rfl, rfl, by decide +kernel, rfl, by decide +kernel, by decide +kernel⟩
abbrev sIsStraight : Stmt := topS 38
abbrev nIsStraight : List Str := ["q", "thing"]
abbrev pIsStraight : List Str := ["q", "thing"]
theorem scIsStraight : FnScope nIsStraight pIsStraight (defScope sIsStraight) := ⟨rfl, rfl, rfl, by decide +kernel, rfl, by decide +kernel, by decide +kernel⟩
abbrev sIsBend : Stmt := topS 39
abbrev nIsBend : List Str := ["q", "thing"]
abbrev pIsBend : List Str := ["q", "thing"]
theorem scIsBend : FnScope nIsBend pIsBend (defScope sIsBend) := ⟨rfl, rfl, rfl, by decide +kernel, rfl, by decide +kernel, by decide +kernel⟩
abbrev sIsStep : Stmt := topS 41
abbrev nIsStep : List Str := ["q", "thing", "start", "bends", "turns", "last", "bend"]
abbrev pIsStep : List Str := ["q", "thing"]
theorem scIsStep : FnScope nIsStep pIsStep (defScope sIsStep) := ⟨rfl, rfl, rfl, by decide +kernel, rfl, by decide +kernel, by decide +kernel⟩
abbrev sLookAtSteps : Stmt := topS 42
abbrev nLookAtSteps : List Str := ["q", "things", "thing"]
abbrev pLookAtSteps : List Str := ["q", "things"]
theorem scLookAtSteps : FnScope nLookAtSteps pLookAtSteps (defScope sLookAtSteps) := ⟨rfl, rfl, rfl, by decide +kernel, rfl, by decide +kernel, by decide +kernel⟩
abbrev sProduct : Stmt := topS 43
abbrev nProduct : List Str := ["q", "one", "other"]
abbrev pProduct : List Str := ["q", "one", "other"]
theorem scProduct : FnScope nProduct pProduct (defScope sProduct) := ⟨rfl, rfl, rfl, by decide +kernel, rfl, by decide +kernel, by decide +kernel⟩
abbrev sIsPlace : Stmt := topS 48
abbrev nIsPlace : List Str := ["q", "thing", "sort", "start", "bends", "turns", "bend"]
abbrev pIsPlace : List Str := ["q", "thing"]
theorem scIsPlace : FnScope nIsPlace pIsPlace (defScope sIsPlace) := ⟨rfl, rfl, rfl, by decide +kernel, rfl, by decide +kernel, by decide +kernel⟩
abbrev sLookAtPlaces : Stmt := topS 49
abbrev nLookAtPlaces : List Str := ["q", "things", "thing"]
abbrev pLookAtPlaces : List Str := ["q", "things"]
theorem scLookAtPlaces : FnScope nLookAtPlaces pLookAtPlaces (defScope sLookAtPlaces) := ⟨rfl, rfl, rfl, by decide +kernel, rfl, by decide +kernel, by decide +kernel⟩
abbrev sPlaceStep : Stmt := topS 50
abbrev nPlaceStep : List Str := ["place", "sort", "start", "bends", "turns"]
abbrev pPlaceStep : List Str := ["place"]
theorem scPlaceStep : FnScope nPlaceStep pPlaceStep (defScope sPlaceStep) := ⟨rfl, rfl, rfl, by decide +kernel, rfl, by decide +kernel, by decide +kernel⟩
abbrev sStepOfPlace : Stmt := topS 51
abbrev nStepOfPlace : List Str := ["q", "place"]
abbrev pStepOfPlace : List Str := ["q", "place"]
theorem scStepOfPlace : FnScope nStepOfPlace pStepOfPlace (defScope sStepOfPlace) := ⟨rfl, rfl, rfl, by decide +kernel, rfl, by decide +kernel, by decide +kernel⟩
abbrev sPlaceByStep : Stmt := topS 52
abbrev nPlaceByStep : List Str := ["q", "step", "sort", "start", "bends", "turns", "last", "number", "_"]
abbrev pPlaceByStep : List Str := ["q", "step", "sort"]
theorem scPlaceByStep : FnScope nPlaceByStep pPlaceByStep (defScope sPlaceByStep) := ⟨rfl, rfl, rfl, by decide +kernel, rfl, by decide +kernel, by decide +kernel⟩
abbrev sPlaceOf : Stmt := topS 53
abbrev nPlaceOf : List Str := ["q", "step", "sort"]
abbrev pPlaceOf : List Str := ["q", "step", "sort"]
theorem scPlaceOf : FnScope nPlaceOf pPlaceOf (defScope sPlaceOf) := ⟨rfl, rfl, rfl, by decide +kernel, rfl, by decide +kernel, by decide +kernel⟩
abbrev sPlaceAhead : Stmt := topS 54
abbrev nPlaceAhead : List Str := ["place", "sort", "start", "bends", "turns"]
abbrev pPlaceAhead : List Str := ["place"]
theorem scPlaceAhead : FnScope nPlaceAhead pPlaceAhead (defScope sPlaceAhead) := ⟨rfl, rfl, rfl, by decide +kernel, rfl, by decide +kernel, by decide +kernel⟩
abbrev sAhead : Stmt := topS 55
abbrev nAhead : List Str := ["q", "place"]
abbrev pAhead : List Str := ["q", "place"]
theorem scAhead : FnScope nAhead pAhead (defScope sAhead) := ⟨rfl, rfl, rfl, by decide +kernel, rfl, by decide +kernel, by decide +kernel⟩
abbrev sPlaceDepth : Stmt := topS 56
abbrev nPlaceDepth : List Str := ["place", "sort", "_", "bends"]
abbrev pPlaceDepth : List Str := ["place"]
theorem scPlaceDepth : FnScope nPlaceDepth pPlaceDepth (defScope sPlaceDepth) := ⟨rfl, rfl, rfl, by decide +kernel, rfl, by decide +kernel, by decide +kernel⟩
abbrev sDepth : Stmt := topS 57
abbrev nDepth : List Str := ["q", "place"]
abbrev pDepth : List Str := ["q", "place"]
theorem scDepth : FnScope nDepth pDepth (defScope sDepth) := ⟨rfl, rfl, rfl, by decide +kernel, rfl, by decide +kernel, by decide +kernel⟩
abbrev sAreBeside : Stmt := topS 58
abbrev nAreBeside : List Str := ["q", "one", "other"]
abbrev pAreBeside : List Str := ["q", "one", "other"]
theorem scAreBeside : FnScope nAreBeside pAreBeside (defScope sAreBeside) := ⟨rfl, rfl, rfl, by decide +kernel, rfl, by decide +kernel, by decide +kernel⟩
abbrev sManyBehind : Stmt := topS 59
abbrev nManyBehind : List Str := ["q", "place", "degree", "found", "_"]
abbrev pManyBehind : List Str := ["q", "place", "degree"]
theorem scManyBehind : FnScope nManyBehind pManyBehind (defScope sManyBehind) := ⟨rfl, rfl, rfl, by decide +kernel, rfl, by decide +kernel, by decide +kernel⟩
abbrev sBehind : Stmt := topS 60
abbrev nBehind : List Str := ["q", "place", "degree", "sort", "start", "bends", "turns", "bend", "number"]
abbrev pBehind : List Str := ["q", "place", "degree"]
theorem scBehind : FnScope nBehind pBehind (defScope sBehind) := ⟨rfl, rfl, rfl, by decide +kernel, rfl, by decide +kernel, by decide +kernel⟩
abbrev sBendsUpTo : Stmt := topS 61
abbrev nBendsUpTo : List Str := ["q", "degree", "heads", "found", "_", "head", "number"]
abbrev pBendsUpTo : List Str := ["q", "degree"]
theorem scBendsUpTo : FnScope nBendsUpTo pBendsUpTo (defScope sBendsUpTo) := ⟨rfl, rfl, rfl, by decide +kernel, rfl, by decide +kernel, by decide +kernel⟩
abbrev sLDeck : Stmt := topS 63
abbrev nLDeck : List Str := ["_law_script", "_law_mixed", "_law_cell"]
abbrev pLDeck : List Str := ["_law_script"]
theorem scLDeck : FnScope nLDeck pLDeck (defScope sLDeck) := ⟨rfl, rfl, rfl, by decide +kernel, rfl, by decide +kernel, by decide +kernel⟩
abbrev sLDraw : Stmt := topS 64
abbrev nLDraw : List Str := ["_law_deck_here", "_law_many_here", "_law_number", "_law_cell"]
abbrev pLDraw : List Str := ["_law_deck_here", "_law_many_here"]
theorem scLDraw : FnScope nLDraw pLDraw (defScope sLDraw) := ⟨rfl, rfl, rfl, by decide +kernel, rfl, by decide +kernel, by decide +kernel⟩
abbrev sLPick : Stmt := topS 65
abbrev nLPick : List Str := ["_law_deck_here", "_law_some"]
abbrev pLPick : List Str := ["_law_deck_here", "_law_some"]
theorem scLPick : FnScope nLPick pLPick (defScope sLPick) := ⟨rfl, rfl, rfl, by decide +kernel, rfl, by decide +kernel, by decide +kernel⟩
abbrev sLAhead : Stmt := topS 66
abbrev nLAhead : List Str := ["_law_place", "_law_sort", "_law_start", "_law_bends_here", "_law_turns"]
abbrev pLAhead : List Str := ["_law_place"]
theorem scLAhead : FnScope nLAhead pLAhead (defScope sLAhead) := ⟨rfl, rfl, rfl, by decide +kernel, rfl, by decide +kernel, by decide +kernel⟩
abbrev sLSomeField : Stmt := topS 67
abbrev nLSomeField : List Str := ["_law_deck_here"]
abbrev pLSomeField : List Str := ["_law_deck_here"]
theorem scLSomeField : FnScope nLSomeField pLSomeField (defScope sLSomeField) := ⟨rfl, rfl, rfl, by decide +kernel, rfl, by decide +kernel, by decide +kernel⟩
abbrev sLSomeBend : Stmt := topS 68
abbrev nLSomeBend : List Str := ["_law_deck_here", "_law_q", "_law_most", "_law_degree", "_law_some", "_law_at"]
abbrev pLSomeBend : List Str := ["_law_deck_here", "_law_q", "_law_most"]
theorem scLSomeBend : FnScope nLSomeBend pLSomeBend (defScope sLSomeBend) := ⟨rfl, rfl, rfl, by decide +kernel, rfl, by decide +kernel, by decide +kernel⟩
abbrev sLSomePlace : Stmt := topS 69
abbrev nLSomePlace : List Str := ["_law_deck_here", "_law_q", "_law_place", "_law_many_here", "_law_level", "_law_sort", "_law_start", "_law_bends_here", "_law_turns"]
abbrev pLSomePlace : List Str := ["_law_deck_here", "_law_q", "_law_place", "_law_many_here"]
theorem scLSomePlace : FnScope nLSomePlace pLSomePlace (defScope sLSomePlace) := ⟨rfl, rfl, rfl, by decide +kernel, rfl, by decide +kernel, by decide +kernel⟩
abbrev sLBends : Stmt := topS 70
abbrev nLBends : List Str := ["_law_q", "_law_most", "_law_found", "_law_rows", "_law_degree", "_law_grown", "_law_row", "_law_number"]
abbrev pLBends : List Str := ["_law_q", "_law_most"]
theorem scLBends : FnScope nLBends pLBends (defScope sLBends) := ⟨rfl, rfl, rfl, by decide +kernel, rfl, by decide +kernel, by decide +kernel⟩
abbrev sLBehind : Stmt := topS 71
abbrev nLBehind : List Str := ["_law_q", "_law_place", "_law_degree", "_law_sort", "_law_start", "_law_bends_here", "_law_turns", "_law_number", "_law_bend"]
abbrev pLBehind : List Str := ["_law_q", "_law_place", "_law_degree"]
theorem scLBehind : FnScope nLBehind pLBehind (defScope sLBehind) := ⟨rfl, rfl, rfl, by decide +kernel, rfl, by decide +kernel, by decide +kernel⟩
abbrev sLMany : Stmt := topS 72
abbrev nLMany : List Str := ["_law_q", "_law_place", "_law_degree", "_law_many_here", "_law_turn"]
abbrev pLMany : List Str := ["_law_q", "_law_place", "_law_degree"]
theorem scLMany : FnScope nLMany pLMany (defScope sLMany) := ⟨rfl, rfl, rfl, by decide +kernel, rfl, by decide +kernel, by decide +kernel⟩
abbrev sLAreBeside : Stmt := topS 73
abbrev nLAreBeside : List Str := ["_law_q", "_law_place", "_law_found", "_law_at", "_law_far", "_law_told"]
abbrev pLAreBeside : List Str := ["_law_q", "_law_place", "_law_found", "_law_at"]
theorem scLAreBeside : FnScope nLAreBeside pLAreBeside (defScope sLAreBeside) := ⟨rfl, rfl, rfl, by decide +kernel, rfl, by decide +kernel, by decide +kernel⟩
abbrev sLGoesOn : Stmt := topS 74
abbrev nLGoesOn : List Str := ["_law_q", "_law_place", "_law_far", "_law_piece"]
abbrev pLGoesOn : List Str := ["_law_q", "_law_place", "_law_far"]
theorem scLGoesOn : FnScope nLGoesOn pLGoesOn (defScope sLGoesOn) := ⟨rfl, rfl, rfl, by decide +kernel, rfl, by decide +kernel, by decide +kernel⟩
abbrev sLaw : Stmt := topS 75
abbrev nLaw : List Str := ["_law_script", "_law_deck_here", "_law_q", "_law_root", "_law_most", "_law_place", "_law_degree", "_law_near", "_law_due", "_law_turn"]
abbrev pLaw : List Str := ["_law_script"]
theorem scLaw : FnScope nLaw pLaw (defScope sLaw) := ⟨rfl, rfl, rfl, by decide +kernel, rfl, by decide +kernel, by decide +kernel⟩
end K13
set_option Elab.async false
set_option linter.all false
set_option maxRecDepth 100000
set_option maxHeartbeats 4000000
set_option pp.maxSteps 400
namespace BP
open PySem PySem.Spec PyProof.Rows L2 Fld
/-- a def that may be called by its name -/
structure Can (P : Program) (w : World) (K : PySem.W.Frag) (mg : Str → Option Value) (base : Heap) (x : Str) (k : Nat) (ps : List Str) (sp : Sp) (f : Addr) (fd : FuncData) : Prop where
  ok : FnOk P w K mg base CX0 k f fd ps sp
  g : mg x = some (.ref f)
  kp : PySem.W.keepIn K (.ref f) = true
  b : Binds K fd ps []
/-- a promise that asks what is never so: for a call that is never reached -/
theorem never {P : Program} {w : World} {K : PySem.W.Frag} {mg : Str → Option Value} {base : Heap} {k : Nat} {f : Addr} {fd : FuncData} {ps : List Str} : FnOk P w K mg base CX0 k f fd ps (fun _ _ _ _ => False) :=
  ⟨fun _ _ _ _ h => h.elim, fun _ _ _ _ _ _ _ _ _ _ _ _ _ h => h.elim⟩
/-! ### promises over numbers of a field -/
def spE2 (g : ∀ {q : Nat} [IsF q], El q → El q → El q) : Sp := fun vs H Q _ => ∃ (q : Nat) (_ : IsF q) (a b : El q), vs = [.int q, vn a, vn b] ∧ Q (vn (g a b)) H
def spE1 (g : ∀ {q : Nat} [IsF q], El q → El q) : Sp := fun vs H Q _ => ∃ (q : Nat) (_ : IsF q) (a : El q), vs = [.int q, vn a] ∧ Q (vn (g a)) H
def spInvE : Sp := fun vs H Q _ => ∃ (q : Nat) (_ : IsF q) (a : El q), a ≠ 0 ∧ vs = [.int q, vn a] ∧ Q (vn (El.under a)) H
theorem under_val {q : Nat} [F : IsF q] {a : El q} (h : a ≠ 0) : (El.under a).val = Fld.inv q a.val := by
  unfold El.under
  rw [dif_neg (El.ne_zero.mp h)]
/-- a list of numbers, without zeros at the end, as a new tuple -/
def spTrim (K : PySem.W.Frag) : Sp := fun vs H Q _ => ∃ (q : Nat) (_ : IsF q) (a : Addr) (l : Po q), vs = [.ref a] ∧ SqL K H a (vns l) ∧ l.length ≤ 200 ∧ ∀ (p : Addr) (H' : Hp), Same H H' → H p = none → H' p = some (.tup (vns (trim l))) → Q (.ref p) H'
/-- two polynomials and a third one from them, a new tuple -/
def spPl (K : PySem.W.Frag) : Sp := fun vs H Q _ => ∃ (q : Nat) (_ : IsF q) (a b : Addr) (f g : Po q), vs = [.int q, .ref a, .ref b] ∧ SqT K H a (vns f) ∧ SqT K H b (vns g) ∧ f.length ≤ 100 ∧ g.length ≤ 100 ∧
  ∀ (p : Addr) (H' : Hp), Same H H' → H p = none → H' p = some (.tup (vns (pl f g))) → Q (.ref p) H'
def spTm (K : PySem.W.Frag) : Sp := fun vs H Q _ => ∃ (q : Nat) (_ : IsF q) (a b : Addr) (f g : Po q), vs = [.int q, .ref a, .ref b] ∧ SqT K H a (vns f) ∧ SqT K H b (vns g) ∧ f.length ≤ 100 ∧ g.length ≤ 100 ∧
  ∀ (t : Po q) (p : Addr) (H' : Hp), trim t = t → t.length ≤ f.length + g.length → (∀ n, co t n = cvs f g f.length n) → Same H H' → H p = none → H' p = some (.tup (vns t)) → Q (.ref p) H'
def spSc (K : PySem.W.Frag) : Sp := fun vs H Q _ => ∃ (q : Nat) (_ : IsF q) (a : Addr) (f : Po q) (c : El q), vs = [.int q, .ref a, vn c] ∧ SqT K H a (vns f) ∧ f.length ≤ 100 ∧
  ∀ (p : Addr) (H' : Hp), Same H H' → H p = none → H' p = some (.tup (vns (sc f c))) → Q (.ref p) H'
def spEv (K : PySem.W.Frag) : Sp := fun vs H Q _ => ∃ (q : Nat) (_ : IsF q) (a : Addr) (f : Po q) (y : El q), vs = [.int q, .ref a, vn y] ∧ SqT K H a (vns f) ∧ ∀ H', Same H H' → Q (vn (ev y f)) H'
def spSh (K : PySem.W.Frag) : Sp := fun vs H Q _ => ∃ (q : Nat) (_ : IsF q) (a b : Addr) (f : Po q) (k e : El q), vs = [.int q, .ref a, .ref b] ∧ SqT K H a (vns f) ∧ SqT K H b (vns [k, e]) ∧ f.length ≤ 20 ∧
  ∀ (p : Addr) (H' : Hp), Same H H' → H p = none → H' p = some (.tup (vns (trim (sh e k f)))) → Q (.ref p) H'
end BP
theorem BP.none_of {H H' : L2.Hp} {p : PySem.Addr} (s : L2.Same H H') (h : H' p = none) : H p = none := by
  cases e : H p with
  | none => rfl
  | some o =>
    rw [s _ _ e] at h
    cases h
namespace K13
open PySem PySem.Spec PyProof.Rows L2 BP Fld
section
variable {P : Program} {w : World} {K : PySem.W.Frag} {mg : Str → Option Value} {base : Heap}
theorem ok_plus {f d : Addr} {fd : FuncData} {k : Nat} (F : Fun K "plus" "plus" sPlus f fd) (g : mg "SUMS" = some (.ref d)) (T : tabIs K d Fld.S = true) : FnOk P w K mg base CX0 (k + 1) f fd pPlus (spE2 (fun a b => a + b)) := by
  refine F.ok scPlus (fun vs H Q E h => ?_) (fun cdv A outer s H vs Q E hr h => ?_)
  · obtain ⟨q, _, a, b, rfl, _⟩ := h
    rfl
  · obtain ⟨q, FF, a, b, rfl, want⟩ := h
    refine ⟨_, (pss_one (ps_ret (pe_ix ix_tup (pe_ix ix_tup (pe_ix ix_kint (pe_glob (v := .ref d) rfl g rfl) (pv 0) (fun _ _ => rfl)) (pv 1) (fun _ _ => rfl)) (pv 2) (fun _ _ => rfl)))), ?_⟩
    obtain ⟨p, vs, h1, h2, h3⟩ := tab_at T FF.mem
    obtain ⟨r, e, h4, _⟩ := h3 a.val a.lt
    exact ⟨.int q, rfl, d, q, .ref p, rfl, rfl, h1, vn a, rfl, p, vs, (a.val : Nat), .ref r, rfl, rfl, h2 _, atI_nat e, vn b, rfl, r, _, (b.val : Nat), _, rfl, rfl, h4 _, atI_nat (iv_at b.lt), want⟩
theorem ok_times {f d : Addr} {fd : FuncData} {k : Nat} (F : Fun K "times" "times" sTimes f fd) (g : mg "PRODUCTS" = some (.ref d)) (T : tabIs K d Fld.M = true) : FnOk P w K mg base CX0 (k + 1) f fd pTimes (spE2 (fun a b => a * b)) := by
  refine F.ok scTimes (fun vs H Q E h => ?_) (fun cdv A outer s H vs Q E hr h => ?_)
  · obtain ⟨q, _, a, b, rfl, _⟩ := h
    rfl
  · obtain ⟨q, FF, a, b, rfl, want⟩ := h
    refine ⟨_, (pss_one (ps_ret (pe_ix ix_tup (pe_ix ix_tup (pe_ix ix_kint (pe_glob (v := .ref d) rfl g rfl) (pv 0) (fun _ _ => rfl)) (pv 1) (fun _ _ => rfl)) (pv 2) (fun _ _ => rfl)))), ?_⟩
    obtain ⟨p, vs, h1, h2, h3⟩ := tab_at T FF.mem
    obtain ⟨r, e, h4, _⟩ := h3 a.val a.lt
    exact ⟨.int q, rfl, d, q, .ref p, rfl, rfl, h1, vn a, rfl, p, vs, (a.val : Nat), .ref r, rfl, rfl, h2 _, atI_nat e, vn b, rfl, r, _, (b.val : Nat), _, rfl, rfl, h4 _, atI_nat (iv_at b.lt), want⟩
theorem ok_opposite {f d : Addr} {fd : FuncData} {k : Nat} (F : Fun K "opposite" "opposite" sOpposite f fd) (g : mg "SUMS" = some (.ref d)) (T : tabIs K d Fld.S = true) : FnOk P w K mg base CX0 (k + 1) f fd pOpposite (spE1 (fun a => -a)) := by
  refine F.ok scOpposite (fun vs H Q E h => ?_) (fun cdv A outer s H vs Q E hr h => ?_)
  · obtain ⟨q, _, a, rfl, _⟩ := h
    rfl
  · obtain ⟨q, FF, a, rfl, want⟩ := h
    refine ⟨_, (pss_one (ps_ret (pe_bm PySem.F.plainAttrs_tuple PySem.F.slot_tuple_index PySem.F.type_tuple_index mt_tupIx (pe_ix ix_tup (pe_ix ix_kint (pe_glob (v := .ref d) rfl g rfl) (pv 0) (fun _ _ => rfl)) (pv 1) (fun _ _ => rfl)) (pa_cons pe_int pa_nil)))), ?_⟩
    obtain ⟨p, vs, h1, h2, h3⟩ := tab_at T FF.mem
    obtain ⟨r, e, h4, o, ho⟩ := h3 a.val a.lt
    obtain ⟨_, u1, u2, u3⟩ := sum1 FF.mem a.lt
    have ew : iv ((List.range q).map (S q a.val)) = (((List.range q).map (S q a.val)).map fun n => ((n : Nat) : Int)).map V.int := by
      rw [List.map_map]
      rfl
    refine ⟨.int q, rfl, d, q, .ref p, rfl, rfl, h1, vn a, rfl, p, vs, (a.val : Nat), .ref r, rfl, rfl, h2 _, atI_nat e, .inr (.inl ⟨rfl, o, ho⟩), ?_⟩
    refine ⟨r, ((List.range q).map (S q a.val)).map fun n => ((n : Nat) : Int), 0, neg q a.val, rfl, rfl, ?_, ?_, fun m hm hx => ?_, want⟩
    · rw [← ew]
      exact h4 _
    · rw [List.getElem?_map, List.getElem?_map, List.getElem?_range u1]
      show some ((S q a.val (neg q a.val) : Nat) : Int) = some 0
      rw [u2]
      rfl
    · rw [List.getElem?_map, List.getElem?_map, List.getElem?_range (Nat.lt_trans hm u1)] at hx
      have hx' : ((S q a.val m : Nat) : Int) = 0 := Option.some.inj hx
      exact u3 m hm (by omega)
theorem ok_inverse {f d : Addr} {fd : FuncData} {k : Nat} (F : Fun K "inverse" "inverse" sInverse f fd) (g : mg "PRODUCTS" = some (.ref d)) (T : tabIs K d Fld.M = true) : FnOk P w K mg base CX0 (k + 1) f fd pInverse spInvE := by
  refine F.ok scInverse (fun vs H Q E h => ?_) (fun cdv A outer s H vs Q E hr h => ?_)
  · obtain ⟨q, _, a, _, rfl, _⟩ := h
    rfl
  · obtain ⟨q, FF, a, h0, rfl, want⟩ := h
    refine ⟨_, (pss_one (ps_ret (pe_bm PySem.F.plainAttrs_tuple PySem.F.slot_tuple_index PySem.F.type_tuple_index mt_tupIx (pe_ix ix_tup (pe_ix ix_kint (pe_glob (v := .ref d) rfl g rfl) (pv 0) (fun _ _ => rfl)) (pv 1) (fun _ _ => rfl)) (pa_cons pe_int pa_nil)))), ?_⟩
    obtain ⟨p, vs, h1, h2, h3⟩ := tab_at T FF.mem
    obtain ⟨r, e, h4, o, ho⟩ := h3 a.val a.lt
    obtain ⟨_, _, _, _, u1, u2, u3⟩ := unit FF.mem a.lt (El.ne_zero.mp h0)
    have ew : iv ((List.range q).map (M q a.val)) = (((List.range q).map (M q a.val)).map fun n => ((n : Nat) : Int)).map V.int := by
      rw [List.map_map]
      rfl
    refine ⟨.int q, rfl, d, q, .ref p, rfl, rfl, h1, vn a, rfl, p, vs, (a.val : Nat), .ref r, rfl, rfl, h2 _, atI_nat e, .inr (.inl ⟨rfl, o, ho⟩), ?_⟩
    have want' : Q (.int (Fld.inv q a.val : Nat)) H := by
      rw [← under_val h0]
      exact want
    refine ⟨r, ((List.range q).map (M q a.val)).map fun n => ((n : Nat) : Int), 1, Fld.inv q a.val, rfl, rfl, ?_, ?_, fun m hm hx => ?_, want'⟩
    · rw [← ew]
      exact h4 _
    · rw [List.getElem?_map, List.getElem?_map, List.getElem?_range u1]
      show some ((M q a.val (Fld.inv q a.val) : Nat) : Int) = some 1
      rw [u2]
      rfl
    · rw [List.getElem?_map, List.getElem?_map, List.getElem?_range (Nat.lt_trans hm u1)] at hx
      have hx' : ((M q a.val m : Nat) : Int) = 1 := Option.some.inj hx
      exact u3 m hm (by omega)
theorem ok_minus {f d fO : Addr} {fd fdO : FuncData} (F : Fun K "minus" "minus" sMinus f fd) (O : BP.Can P w K mg base "opposite" 1 pOpposite (spE1 (fun a => -a)) fO fdO) (g : mg "SUMS" = some (.ref d)) (T : tabIs K d Fld.S = true) : FnOk P w K mg base CX0 2 f fd pMinus (spE2 (fun a b => a - b)) := by
  refine F.ok scMinus (fun vs H Q E h => ?_) (fun cdv A outer s H vs Q E hr h => ?_)
  · obtain ⟨q, _, a, b, rfl, _⟩ := h
    rfl
  · obtain ⟨q, FF, a, b, rfl, want⟩ := h
    refine ⟨_, (pss_one (ps_ret (pe_ix ix_tup (pe_ix ix_tup (pe_ix ix_kint (pe_glob (v := .ref d) rfl g rfl) (pv 0) (fun _ _ => rfl)) (pv 1) (fun _ _ => rfl)) (pe_call O.ok hr (by rfl) O.g O.kp O.b .nil pass0 (pa_cons (pv 0) (pa_cons (pv 2) pa_nil))) (fun _ _ => rfl)))), ?_⟩
    obtain ⟨p, vs, h1, h2, h3⟩ := tab_at T FF.mem
    obtain ⟨r, e, h4, _⟩ := h3 a.val a.lt
    refine ⟨.int q, rfl, d, q, .ref p, rfl, rfl, h1, vn a, rfl, p, vs, (a.val : Nat), .ref r, rfl, rfl, h2 _, atI_nat e, .int q, rfl, vn b, rfl, q, FF, b, rfl, ?_⟩
    exact ⟨r, _, ((-b : El q).val : Nat), _, rfl, rfl, h4 _, atI_nat (iv_at (-b : El q).lt), want⟩
theorem ok_trimmed {f : Addr} {fd : FuncData} {k : Nat} (F : Fun K "trimmed" "trimmed" sTrimmed f fd) (m_len : mg "len" = none) (m_tuple : mg "tuple" = none) : FnOk P w K mg base CX0 (k + 1) f fd pTrimmed (spTrim K) := by
  refine F.ok scTrimmed (fun vs H Q E h => ?_) (fun cdv A outer s H vs Q E hr h => ?_)
  · obtain ⟨q, _, a, l, rfl, _⟩ := h
    rfl
  · obtain ⟨q, FF, a, l, rfl, hl, ln, want⟩ := h
    refine ⟨_, (pss_cons (ps_set (i := 1) scTrimmed.nd rfl (.inl rfl) (pe_callB call_len_seq (by rfl) m_len PySem.boot_len (pa_cons (pv 0) pa_nil)))
      (pss_cons (ps_while PassesOwn.never (PW.pt (pw_and (pt_cmpR op_gt (pv 1) pe_int (nomark _)) (pw_and1 (pt_cmpR op_eq (pe_ix ix_list (pv 0) (pe_op op_sub (pv 1) pe_int) (fun _ _ => rfl)) pe_int (nomark _))))) (pss_one (ps_aug (i := 1) scTrimmed.nd rfl (.inl rfl) pe_int ip_sub)))
      (pss_one (ps_ret (pe_tupleOf rfl m_tuple (pe_slice sl_list (pv 0) po_none (po_some (pv 1)))))))), ?_⟩
    refine ⟨.ref a, rfl, a, vns l, rfl, .inl hl, ?_⟩
    refine while_by (fun σ H' => H' = H ∧ ∃ n : Nat, n ≤ l.length ∧ trim (l.take n) = trim l ∧ σ = [some (.ref a), some (.int n)])
      (fun (σ : L2.St) (_ : Hp) => match σ[1]? with | some (some (V.int m)) => m.toNat | _ => 0) ⟨rfl, l.length, Nat.le_refl _, by rw [List.take_length], ?_⟩ (fun σ H' hW => ?_) (fun σ H' Q1 Q2 imp z => ?_)
    · show [some (V.ref a), some (V.int ((vns l).length : Nat))] = _
      rw [List.length_map]
    · obtain ⟨rfl, n, hn, ht, rfl⟩ := hW
      have fin : trim (l.take n) = l.take n → ∀ (p t : Addr), H' p = none → (upd H' p (.lst (cutV (vns l) none (some (n : Int))))) t = none → Q (.ref t) (upd (upd H' p (.lst (cutV (vns l) none (some (n : Int))))) t (.tup (cutV (vns l) none (some (n : Int))))) := by
        intro hs p t np nt
        have s1 := same_new (o := .lst (cutV (vns l) none (some (n : Int)))) np
        refine want t _ (s1.trans (same_new nt)) (none_of s1 nt) ?_
        rw [upd_same, cut_take, ← ht, hs]
        unfold vns
        rw [List.map_take]
      refine ⟨.int n, rfl, n, 0, rfl, rfl, _, rfl, ?_⟩
      cases n with
      | zero =>
        refine iteF (iteF ?_)
        refine ⟨.ref a, rfl, .int (0 : Nat), rfl, (0 : Nat), rfl, a, vns l, rfl, hl, fun p np => .inl ⟨p, _, rfl, .inl (.inl upd_same), fun t nt => fin rfl p t np nt⟩⟩
      | succ n =>
        rw [decide_eq_true (show (0 : Int) < ((n + 1 : Nat) : Int) by omega)]
        refine iteT ?_
        have ei : ((n + 1 : Nat) : Int) - 1 = (n : Int) := by omega
        refine ⟨.ref a, rfl, .int ((n + 1 : Nat) : Int), rfl, _, 1, rfl, rfl, a, vns l, ((n + 1 : Nat) : Int) - 1, vn (co l n), rfl, rfl, hl, ?_, rfl, _, rfl, ?_⟩
        · rw [ei]
          exact atI_nat (vns_get (by omega))
        · by_cases h0 : co l n = 0
          · rw [h0]
            refine iteT ?_
            refine ⟨_, rfl, _, _, rfl, rfl, ⟨rfl, n, by omega, ?_, ?_⟩, ?_⟩
            · rw [← trim_step h0, ht]
            · show [some (V.ref a), some (V.int (((n + 1 : Nat) : Int) - 1))] = _
              rw [ei]
            · show (((n + 1 : Nat) : Int) - 1).toNat < ((n + 1 : Nat) : Int).toNat
              omega
          · have e0 : decide (vn (co l n) = V.int 0) = false := by
              refine decide_eq_false fun z => h0 (El.ext ?_)
              have z' := V.int.inj z
              show (co l n).val = 0
              omega
            rw [e0]
            refine iteF ?_
            refine ⟨.ref a, rfl, .int ((n + 1 : Nat) : Int), rfl, ((n + 1 : Nat) : Int), rfl, a, vns l, rfl, hl, fun p np => .inl ⟨p, _, rfl, .inl (.inl upd_same), fun t nt => fin (trim_stop (by omega) h0) p t np nt⟩⟩
    · obtain ⟨v, e, i, j, e1, e2, c1, e3, z⟩ := z
      refine ⟨v, e, i, j, e1, e2, c1, e3, ?_⟩
      cases c1 with
      | false => exact imp _ _ z
      | true =>
        obtain ⟨v, e, v2, e0, i, j, e1, e2, p, xs, i2, v3, e4, e5, h1, h2, e6, c, e7, z⟩ := z
        exact ⟨v, e, v2, e0, i, j, e1, e2, p, xs, i2, v3, e4, e5, h1, h2, e6, c, e7, imp _ _ z⟩
end
end K13
set_option Elab.async false
set_option linter.all false
set_option maxRecDepth 100000
set_option maxHeartbeats 4000000
set_option pp.maxSteps 400
namespace Fld
theorem pl_comm {q : Nat} [F : IsF q] (f g : Po q) : pl f g = pl g f := by
  refine canon_ext (pl_canon _ _) (pl_canon _ _) fun i => ?_
  rw [co_pl, co_pl]
  grind
theorem trim_pl {q : Nat} [F : IsF q] {l f g : Po q} (h : ∀ j, co l j = co f j + co g j) : trim l = pl f g := by
  refine canon_ext (trim_trim _) (pl_canon _ _) fun i => ?_
  rw [co_trim, co_pl, h]
end Fld
namespace BP
open PySem PySem.Spec PyProof.Rows L2 Fld
theorem yes_kept {σ : L2.St} {H : Hp} {A B : Hp → Prop} (h : A H) : tYes σ H (fun b H3 => if b = true then A H3 else B H3) := by
  show (if true = true then A H else B H)
  rw [if_pos rfl]
  exact h
end BP
namespace K13
open PySem PySem.Spec PyProof.Rows L2 BP Fld
section
variable {P : Program} {w : World} {K : PySem.W.Frag} {mg : Str → Option Value} {base : Heap}
abbrev Plus (P : Program) (w : World) (K : PySem.W.Frag) (mg : Str → Option Value) (base : Heap) := BP.Can P w K mg base "plus" 1 pPlus (spE2 (fun a b => a + b))
abbrev Times (P : Program) (w : World) (K : PySem.W.Frag) (mg : Str → Option Value) (base : Heap) := BP.Can P w K mg base "times" 1 pTimes (spE2 (fun a b => a * b))
abbrev Trimmed (P : Program) (w : World) (K : PySem.W.Frag) (mg : Str → Option Value) (base : Heap) := BP.Can P w K mg base "trimmed" 1 pTrimmed (spTrim K)
def spPlC (K : PySem.W.Frag) (C : Nat → Nat → Prop) : Sp := fun vs H Q _ => ∃ (q : Nat) (_ : IsF q) (a b : Addr) (f g : Po q), vs = [.int q, .ref a, .ref b] ∧ SqT K H a (vns f) ∧ SqT K H b (vns g) ∧ f.length ≤ 100 ∧ g.length ≤ 100 ∧ C f.length g.length ∧
  ∀ (p : Addr) (H' : Hp), Same H H' → H p = none → H' p = some (.tup (vns (pl f g))) → Q (.ref p) H'
theorem ok_one_plusG {f fP fT : Addr} {fd fdP fdT : FuncData} {lv : Nat} {C : Nat → Nat → Prop} {sp0 : Sp} (F : Fun K "one_plus" "one_plus" sOnePlus f fd) (PL : Plus P w K mg base fP fdP) (TR : Trimmed P w K mg base fT fdT) (gF : mg "one_plus" = some (.ref f)) (kF : PySem.W.keepIn K (.ref f) = true) (bF : Binds K fd pOnePlus [])
    (m_len : mg "len" = none) (m_list : mg "list" = none) (m_enumerate : mg "enumerate" = none) (h1 : 1 ≤ lv) (SELF : FnOk P w K mg base CX0 lv f fd pOnePlus sp0)
    (hsp : ∀ (q : Nat) (_ : IsF q) (a b : Addr) (f g : Po q) (H : Hp) (Q : VK) (E : XK), C f.length g.length → f.length < g.length → SqT K H a (vns f) → SqT K H b (vns g) → f.length ≤ 100 → g.length ≤ 100 →
      (∀ (p : Addr) (H' : Hp), Same H H' → H p = none → H' p = some (.tup (vns (pl f g))) → Q (.ref p) H') → sp0 [.int q, .ref b, .ref a] H Q E) :
    FnOk P w K mg base CX0 (lv + 1) f fd pOnePlus (spPlC K C) := by
  refine F.ok scOnePlus (fun vs H Q E h => ?_) (fun cdv A outer s H vs Q E hr h => ?_)
  · obtain ⟨q, _, a, b, l, g, rfl, _⟩ := h
    rfl
  · obtain ⟨q, FF, a, b, l, g, rfl, ha, hb, la, lb, cc, want⟩ := h
    have SF : BP.Can P w K mg base "one_plus" lv pOnePlus sp0 f fd := ⟨SELF, gF, kF, bF⟩
    have hr1 := hr.mono h1
    refine ⟨_, (pss_cons (ps_if (pt_cmpR op_lt (pe_callB call_len_seq (by rfl) m_len PySem.boot_len (pa_cons (pv 1) pa_nil)) (pe_callB call_len_seq (by rfl) m_len PySem.boot_len (pa_cons (pv 2) pa_nil)) (nomark _)) (pss_one (ps_ret (pe_call SF.ok hr (by rfl) SF.g SF.kp SF.b .nil pass0 (pa_cons (pv 0) (pa_cons (pv 2) (pa_cons (pv 1) pa_nil)))))) pss_nil)
      (pss_cons (ps_set (i := 3) scOnePlus.nd rfl (.inl rfl) (pe_callTy call_list_of (by rfl) m_list (by decide +kernel) (pa_cons (pv 1) pa_nil)))
      (pss_cons (ps_for PassesOwn.never rfl (pi_enumT (by rfl) m_enumerate (pa_cons (pv 2) pa_nil)) (pg_tup rfl (pgs_cons (pg_name (i := 4) scOnePlus.nd rfl (.inl rfl)) (pgs_cons (pg_name (i := 5) scOnePlus.nd rfl (.inl rfl)) pgs_nil))) (pss_one (ps_asg (pe_call PL.ok hr1 (by rfl) PL.g PL.kp PL.b .nil pass0 (pa_cons (pv 0) (pa_cons (pe_ix ix_list (pv 3) (pv 4) (fun _ _ => rfl)) (pa_cons (pv 5) pa_nil)))) (pg_sub (pv 3) (pv 4) set_list))))
      (pss_one (ps_ret (pe_call TR.ok hr1 (by rfl) TR.g TR.kp TR.b .nil pass0 (pa_cons (pv 3) pa_nil))))))), ?_⟩
    refine ⟨.ref a, rfl, a, vns l, rfl, .inr ha, .ref b, rfl, b, vns g, rfl, .inr hb, _, _, rfl, rfl, _, rfl, ite2 (fun hlt => ?_) (fun hge => ?_)⟩
    · have lt : l.length < g.length := by
        have := of_decide_eq_true hlt
        rw [List.length_map, List.length_map] at this
        omega
      exact ⟨.int q, rfl, .ref b, rfl, .ref a, rfl, hsp q FF a b l g H Q _ cc lt ha hb la lb want⟩
    · have ge : g.length ≤ l.length := by
        refine Classical.byContradiction fun z => hge (decide_eq_true ?_)
        rw [List.length_map, List.length_map]
        omega
      refine ⟨.ref a, rfl, a, vns l, rfl, .inr ha, fun p np => ?_⟩
      have s1 := same_new (o := .lst (vns l)) np
      refine ⟨.ref b, rfl, b, vns g, rfl, BP.Same.tupS s1 hb, for_enumT (K := K) (a := b) (xs := vns g) (fun i σ H' => Same H H' ∧ (∃ y4 y5, σ = [some (.int q), some (.ref a), some (.ref b), some (.ref p), y4, y5]) ∧ ∃ t : Po q, t.length = l.length ∧ H' p = some (.lst (vns t)) ∧ ∀ j, co t j = co l j + if j < i then co g j else 0)
        ⟨s1, ⟨_, _, rfl⟩, l, rfl, upd_same, fun j => by rw [if_neg (by omega)]; grind⟩ (fun i σ H' _ hW => BP.Same.tupS hW.1 hb) (fun i x σ H' T hx hW nT => ?_) (fun σ H' hW => ?_)⟩
      · obtain ⟨s2, ⟨y4, y5, rfl⟩, t, lt, hp, ht⟩ := hW
        obtain ⟨hi, rfl⟩ := of_vns hx
        have s3 := same_new (o := .tup [V.int (i : Nat), vn (co g i)]) nT
        have hp3 := s3 _ _ hp
        refine ⟨T, _, rfl, .inl (.inl upd_same), rfl, _, [vn (co g i)], rfl, _, [], rfl, rfl, ?_⟩
        generalize upd H' T (.tup [V.int (i : Nat), vn (co g i)]) = H3 at s3 hp3 ⊢
        refine ⟨.int q, rfl, .ref p, rfl, .int (i : Nat), rfl, p, vns t, _, vn (co t i), rfl, rfl, .inl (.inl hp3), atI_nat (vns_get (by omega)), vn (co g i), rfl, q, FF, co t i, co g i, rfl, ?_⟩
        refine ⟨.ref p, rfl, .int (i : Nat), rfl, p, vns t, _, i, rfl, rfl, hp3, ixN_nat (by rw [List.length_map]; omega), ?_⟩
        refine ⟨fun b' x' e => ?_, ⟨_, _, rfl⟩, t.set i (co t i + co g i), ?_, ?_, fun j => ?_⟩
        · rw [upd_ne (ne_of_none e np)]
          exact s3 _ _ (s2 _ _ e)
        · rw [List.length_set, lt]
        · rw [upd_same, vns_set]
        · rw [co_set _ _ _ (by omega)]
          by_cases e : j = i
          · subst e
            rw [if_pos rfl, if_pos (by omega), ht j, if_neg (by omega)]
            grind
          · rw [if_neg e, ht j]
            by_cases h : j < i
            · rw [if_pos h, if_pos (by omega)]
            · rw [if_neg h, if_neg (by omega)]
      · obtain ⟨s2, ⟨y4, y5, rfl⟩, t, lt, hp, ht⟩ := hW
        refine ⟨.ref p, rfl, q, FF, p, t, rfl, .inl (.inl hp), by omega, fun r H3 s3 nr hr3 => ?_⟩
        have et : trim t = pl l g := trim_pl fun j => by
          rw [ht, List.length_map]
          by_cases h : j < g.length
          · rw [if_pos h]
          · rw [if_neg h, co_out (f := g) (by omega)]
        rw [et] at hr3
        exact want r H3 (s2.trans s3) (none_of s2 nr) hr3
theorem ok_one_plus {f fP fT : Addr} {fd fdP fdT : FuncData} (F : Fun K "one_plus" "one_plus" sOnePlus f fd) (PL : Plus P w K mg base fP fdP) (TR : Trimmed P w K mg base fT fdT) (gF : mg "one_plus" = some (.ref f)) (kF : PySem.W.keepIn K (.ref f) = true) (bF : Binds K fd pOnePlus [])
    (m_len : mg "len" = none) (m_list : mg "list" = none) (m_enumerate : mg "enumerate" = none) : FnOk P w K mg base CX0 3 f fd pOnePlus (spPl K) := by
  have ONE : FnOk P w K mg base CX0 2 f fd pOnePlus (spPlC K fun n m => ¬ n < m) :=
    ok_one_plusG (lv := 1) (sp0 := fun _ _ _ _ => False) F PL TR gF kF bF m_len m_list m_enumerate (Nat.le_refl _) never (fun _ _ _ _ _ _ _ _ _ c lt => absurd lt c)
  have TWO : FnOk P w K mg base CX0 3 f fd pOnePlus (spPlC K fun _ _ => True) :=
    ok_one_plusG (lv := 2) F PL TR gF kF bF m_len m_list m_enumerate (by decide) ONE (fun q FF a b f g H Q E _ lt ha hb la lb want =>
      ⟨q, FF, b, a, g, f, rfl, hb, ha, lb, la, by omega, fun p H' s n h => want p H' s n (by rw [pl_comm]; exact h)⟩)
  exact TWO.imp fun vs H Q E h => by
    obtain ⟨q, FF, a, b, f, g, e, ha, hb, la, lb, want⟩ := h
    exact ⟨q, FF, a, b, f, g, e, ha, hb, la, lb, trivial, want⟩
theorem ok_one_scaled {f fP fT : Addr} {fd fdP fdT : FuncData} (F : Fun K "one_scaled" "one_scaled" sOneScaled f fd) (TM : Times P w K mg base fP fdP) (TR : Trimmed P w K mg base fT fdT) : FnOk P w K mg base CX0 2 f fd pOneScaled (spSc K) := by
  refine F.ok scOneScaled (fun vs H Q E h => ?_) (fun cdv A outer s H vs Q E hr h => ?_)
  · obtain ⟨q, _, a, l, c, rfl, _⟩ := h
    rfl
  · obtain ⟨q, FF, a, l, c, rfl, ha, la, want⟩ := h
    refine ⟨_, (pss_one (ps_ret (pe_call TR.ok hr (by rfl) TR.g TR.kp TR.b .nil pass0 (pa_cons (pe_lc (own := [("part", 3)]) (g := gName 3) (tt := tYes) rfl scOneScaled.nd (pi_tup (pv 1)) (blkOk_by (N := nOneScaled) (sc := defScope sOneScaled) (by decide +kernel)) (fun _ _ _ _ _ => (pg_name (i := 3) scOneScaled.nd rfl (.inl rfl))) (fun _ _ _ _ _ => pts_nil) (fun _ _ _ _ _ => (pe_call TM.ok hr (by rfl) TM.g TM.kp TM.b .nil pass0 (pa_cons (pv 0) (pa_cons (pv 3) (pa_cons (pv 2) pa_nil)))))) pa_nil)))), ?_⟩
    refine ⟨.ref a, rfl, a, rfl, ⟨_, ha⟩, fun D nD => ?_⟩
    refine lc_tup (K := K) (a := a) (xs := vns l) (fun i H' => Same H H' ∧ H' D = some (.lst (vns ((l.map fun x => x * c).take i)))) ⟨same_new nD, upd_same⟩ (fun i H' _ hW => BP.Same.tupS hW.1 ha) (fun i x H' hx hW => ?_) (fun H' hW => ?_)
    · obtain ⟨s1, hD⟩ := hW
      obtain ⟨hi, rfl⟩ := of_vns hx
      refine ⟨rfl, yes_kept ?_⟩
      refine ⟨.int q, rfl, vn (co l i), rfl, vn c, rfl, q, FF, co l i, c, rfl, _, hD, ?_, fun b x e => ?_, ?_⟩
      · rw [List.length_map]
        refine small1000 (Nat.le_trans (List.length_take_le ..) ?_)
        omega
      · rw [upd_ne (ne_of_none e nD)]
        exact s1 b x e
      · have e : (l.map fun x => x * c)[i]? = some (co l i * c) := by
          rw [List.getElem?_map, get_co hi]
          rfl
        rw [upd_same, List.take_add_one, e]
        unfold vns
        rw [List.map_append]
        rfl
    · obtain ⟨s1, hD⟩ := hW
      rw [List.length_map, List.take_of_length_le (by rw [List.length_map]; exact Nat.le_refl _)] at hD
      exact ⟨q, FF, D, _, rfl, .inl (.inl hD), by rw [List.length_map]; omega, fun p H2 s2 np hp => want p H2 (s1.trans s2) (none_of s1 np) hp⟩
theorem ok_one_times {f fP fM fT : Addr} {fd fdP fdM fdT : FuncData} (F : Fun K "one_times" "one_times" sOneTimes f fd) (PL : Plus P w K mg base fP fdP) (TM : Times P w K mg base fM fdM) (TR : Trimmed P w K mg base fT fdT) (m_len : mg "len" = none) (m_enumerate : mg "enumerate" = none) : FnOk P w K mg base CX0 2 f fd pOneTimes (spTm K) := by
  refine F.ok scOneTimes (fun vs H Q E h => ?_) (fun cdv A outer s H vs Q E hr h => ?_)
  · obtain ⟨q, _, a, b, l, g, rfl, _⟩ := h
    rfl
  · obtain ⟨q, FF, a, b, l, g, rfl, ha, hb, la, lb, want⟩ := h
    refine ⟨_, (pss_cons (ps_set (i := 3) scOneTimes.nd rfl (.inl rfl) (pe_op op_rep (pe_lst (pa_cons pe_int pa_nil)) (pe_op op_add (pe_callB call_len_seq (by rfl) m_len PySem.boot_len (pa_cons (pv 1) pa_nil)) (pe_callB call_len_seq (by rfl) m_len PySem.boot_len (pa_cons (pv 2) pa_nil)))))
      (pss_cons (ps_for PassesOwn.never rfl (pi_enumT (by rfl) m_enumerate (pa_cons (pv 1) pa_nil)) (pg_tup rfl (pgs_cons (pg_name (i := 4) scOneTimes.nd rfl (.inl rfl)) (pgs_cons (pg_name (i := 5) scOneTimes.nd rfl (.inl rfl)) pgs_nil))) (pss_one (ps_for PassesOwn.never rfl (pi_enumT (by rfl) m_enumerate (pa_cons (pv 2) pa_nil)) (pg_tup rfl (pgs_cons (pg_name (i := 6) scOneTimes.nd rfl (.inl rfl)) (pgs_cons (pg_name (i := 7) scOneTimes.nd rfl (.inl rfl)) pgs_nil))) (pss_one (ps_asg (pe_call PL.ok hr (by rfl) PL.g PL.kp PL.b .nil pass0 (pa_cons (pv 0) (pa_cons (pe_ix ix_list (pv 3) (pe_op op_add (pv 4) (pv 6)) (fun _ _ => rfl)) (pa_cons (pe_call TM.ok hr (by rfl) TM.g TM.kp TM.b .nil pass0 (pa_cons (pv 0) (pa_cons (pv 5) (pa_cons (pv 7) pa_nil)))) pa_nil)))) (pg_sub (pv 3) (pe_op op_add (pv 4) (pv 6)) set_list))))))
      (pss_one (ps_ret (pe_call TR.ok hr (by rfl) TR.g TR.kp TR.b .nil pass0 (pa_cons (pv 3) pa_nil)))))), ?_⟩
    refine ⟨(by show 1 ≤ sizeLine; decide), fun p0 n0 => ?_⟩
    have s0 := same_new (o := .lst [V.int 0]) n0
    refine ⟨.ref a, rfl, a, vns l, rfl, .inr (BP.Same.tupS s0 ha), .ref b, rfl, b, vns g, rfl, .inr (BP.Same.tupS s0 hb), _, _, rfl, rfl, p0, _, _, rfl, rfl, upd_same, by omega, ?_, ?_, fun p np => ?_⟩
    · rw [List.length_map, List.length_map]
      omega
    · rw [List.length_map, List.length_map]
      show 1 * ((l.length : Int) + (g.length : Int)).toNat ≤ sizeLine
      exact Nat.le_trans (by omega : 1 * ((l.length : Int) + (g.length : Int)).toNat ≤ 200) (by decide)
    · have e0 : (List.replicate (((vns l).length : Int) + ((vns g).length : Int)).toNat [V.int 0]).flatten = vns (List.replicate (l.length + g.length) (0 : El q)) := by
        have : (((vns l).length : Int) + ((vns g).length : Int)).toNat = l.length + g.length := by
          rw [List.length_map, List.length_map]
          omega
        rw [this]
        have rep : ∀ n : Nat, (List.replicate n [V.int 0]).flatten = vns (List.replicate n (0 : El q)) := by
          intro n
          induction n with
          | zero => rfl
          | succ n ih =>
            rw [List.replicate_succ, List.flatten_cons, ih, List.replicate_succ]
            rfl
        exact rep _
      have s1 := s0.trans (same_new (o := .lst (List.replicate (((vns l).length : Int) + ((vns g).length : Int)).toNat [V.int 0]).flatten) np)
      have nH : H p = none := none_of s0 np
      refine ⟨.ref a, rfl, a, vns l, rfl, BP.Same.tupS s1 ha, for_enumT (K := K) (a := a) (xs := vns l) (fun i σ H' => Same H H' ∧ (∃ y4 y5 y6 y7, σ = [some (.int q), some (.ref a), some (.ref b), some (.ref p), y4, y5, y6, y7]) ∧ ∃ t : Po q, t.length = l.length + g.length ∧ H' p = some (.lst (vns t)) ∧ ∀ n, co t n = cvs l g i n)
        ⟨s1, ⟨_, _, _, _, rfl⟩, List.replicate (l.length + g.length) 0, List.length_replicate, by rw [upd_same, e0], fun n => ?_⟩ (fun i σ H' _ hW => BP.Same.tupS hW.1 ha) (fun i x σ H' T hx hW nT => ?_) (fun σ H' hW => ?_)⟩
      · show co _ n = 0
        unfold co
        rw [List.getD_eq_getElem?_getD, List.getElem?_replicate]
        split <;> rfl
      · obtain ⟨s2, ⟨y4, y5, y6, y7, rfl⟩, t, lt, hp, ht⟩ := hW
        obtain ⟨hi, rfl⟩ := of_vns hx
        have s3 := same_new (o := .tup [V.int (i : Nat), vn (co l i)]) nT
        have hp3 := s3 _ _ hp
        have s23 := s2.trans s3
        refine ⟨T, _, rfl, .inl (.inl upd_same), rfl, _, [vn (co l i)], rfl, _, [], rfl, rfl, ?_⟩
        generalize upd H' T (.tup [V.int (i : Nat), vn (co l i)]) = H3 at s3 hp3 s23 ⊢
        refine ⟨.ref b, rfl, b, vns g, rfl, BP.Same.tupS s23 hb, for_enumT (K := K) (a := b) (xs := vns g) (fun j σ H' => Same H H' ∧ (∃ y6 y7, σ = [some (.int q), some (.ref a), some (.ref b), some (.ref p), some (.int (i : Nat)), some (vn (co l i)), y6, y7]) ∧ ∃ t : Po q, t.length = l.length + g.length ∧ H' p = some (.lst (vns t)) ∧
            ∀ n, co t n = cvs l g i n + if i ≤ n ∧ n - i < j then co l i * co g (n - i) else 0)
          ⟨s23, ⟨_, _, rfl⟩, t, lt, hp3, fun n => by rw [ht, if_neg (by omega)]; grind⟩ (fun j σ H' _ hW => BP.Same.tupS hW.1 hb) (fun j x σ H4 T2 hx hW nT2 => ?_) (fun σ H4 hW => ?_)⟩
        · obtain ⟨s4, ⟨y6, y7, rfl⟩, u, lu, hpu, hu⟩ := hW
          obtain ⟨hj, rfl⟩ := of_vns hx
          have s5 := same_new (o := .tup [V.int (j : Nat), vn (co g j)]) nT2
          have hp5 := s5 _ _ hpu
          refine ⟨T2, _, rfl, .inl (.inl upd_same), rfl, _, [vn (co g j)], rfl, _, [], rfl, rfl, ?_⟩
          generalize upd H4 T2 (.tup [V.int (j : Nat), vn (co g j)]) = H5 at s5 hp5 ⊢
          have eij : (i : Int) + (j : Int) = ((i + j : Nat) : Int) := by omega
          refine ⟨.int q, rfl, .ref p, rfl, .int (i : Nat), rfl, .int (j : Nat), rfl, _, _, rfl, rfl, p, vns u, _, vn (co u (i + j)), rfl, rfl, .inl (.inl hp5), ?_, .int q, rfl, vn (co l i), rfl, vn (co g j), rfl, q, FF, co l i, co g j, rfl, q, FF, co u (i + j), co l i * co g j, rfl, ?_⟩
          · rw [eij]
            exact atI_nat (vns_get (by omega))
          · refine ⟨.ref p, rfl, .int (i : Nat), rfl, .int (j : Nat), rfl, _, _, rfl, rfl, p, vns u, _, i + j, rfl, rfl, hp5, ?_, ?_⟩
            · rw [eij]
              exact ixN_nat (by rw [List.length_map]; omega)
            · refine ⟨fun b' x' e => ?_, ⟨_, _, rfl⟩, u.set (i + j) (co u (i + j) + co l i * co g j), ?_, ?_, fun n => ?_⟩
              · rw [upd_ne (ne_of_none e nH)]
                exact s5 _ _ (s4 _ _ e)
              · rw [List.length_set, lu]
              · rw [upd_same, vns_set]
              · rw [co_set _ _ _ (by omega)]
                by_cases e : n = i + j
                · subst e
                  have ej : i + j - i = j := by omega
                  rw [if_pos rfl, hu, ej, if_neg (by omega), if_pos ⟨by omega, by omega⟩]
                  grind
                · rw [if_neg e, hu n]
                  by_cases h : i ≤ n ∧ n - i < j
                  · rw [if_pos h, if_pos ⟨h.1, by omega⟩]
                  · rw [if_neg h, if_neg (by omega)]
        · obtain ⟨s4, ⟨y6, y7, rfl⟩, u, lu, hpu, hu⟩ := hW
          refine ⟨s4, ⟨_, _, _, _, rfl⟩, u, lu, hpu, fun n => ?_⟩
          rw [hu]
          show _ = cvs l g i n + if i ≤ n then co l i * co g (n - i) else 0
          rw [List.length_map]
          by_cases h : i ≤ n
          · rw [if_pos h]
            by_cases h2 : n - i < g.length
            · rw [if_pos ⟨h, h2⟩]
            · rw [if_neg (by omega), co_out (f := g) (by omega)]
              grind
          · rw [if_neg (by omega), if_neg h]
      · obtain ⟨s2, ⟨y4, y5, y6, y7, rfl⟩, t, lt, hp, ht⟩ := hW
        rw [List.length_map] at ht
        refine ⟨.ref p, rfl, q, FF, p, t, rfl, .inl (.inl hp), by omega, fun r H3 s3 nr hr3 => ?_⟩
        exact want (trim t) r H3 (trim_trim t) (Nat.le_trans (trim_len t) (Nat.le_of_eq lt)) (fun n => by rw [co_trim, ht]) (s2.trans s3) (none_of s2 nr) hr3
theorem ok_one_put {f fP fM fT : Addr} {fd fdP fdM fdT : FuncData} (F : Fun K "one_put" "one_put" sOnePut f fd) (OP : BP.Can P w K mg base "one_plus" 3 pOnePlus (spPl K) fP fdP) (OT : BP.Can P w K mg base "one_times" 2 pOneTimes (spTm K) fM fdM) (TR : Trimmed P w K mg base fT fdT) (m_reversed : mg "reversed" = none) : FnOk P w K mg base CX0 4 f fd pOnePut (spSh K) := by
  refine F.ok scOnePut (fun vs H Q E h => ?_) (fun cdv A outer s H vs Q E hr h => ?_)
  · obtain ⟨q, _, a, b, l, k, e, rfl, _⟩ := h
    rfl
  · obtain ⟨q, FF, a, b, l, k, e, rfl, ha, hb, la, want⟩ := h
    have hr1 := hr.mono (show 1 ≤ 3 by decide)
    have hr2 := hr.mono (show 2 ≤ 3 by decide)
    refine ⟨_, (pss_cons (ps_set (i := 3) scOnePut.nd rfl (.inl rfl) (pe_tup pa_nil))
      (pss_cons (ps_for PassesOwn.never rfl (RT.pi_revA (by rfl) m_reversed (pv 1)) (pg_name (i := 4) scOnePut.nd rfl (.inl rfl)) (pss_one (ps_set (i := 3) scOnePut.nd rfl (.inl rfl) (pe_call OP.ok hr (by rfl) OP.g OP.kp OP.b .nil pass0 (pa_cons (pv 0) (pa_cons (pe_call OT.ok hr2 (by rfl) OT.g OT.kp OT.b .nil pass0 (pa_cons (pv 0) (pa_cons (pv 3) (pa_cons (pv 2) pa_nil)))) (pa_cons (pe_call TR.ok hr1 (by rfl) TR.g TR.kp TR.b .nil pass0 (pa_cons (pe_lst (pa_cons (pv 4) pa_nil)) pa_nil)) pa_nil)))))))
      (pss_one (ps_ret (pv 3))))), ?_⟩
    refine ⟨Nat.zero_le _, fun p0 n0 => ?_⟩
    have s0 := same_new (o := .tup []) n0
    refine ⟨.ref a, rfl, a, vns l, rfl, .inr ⟨BP.Same.tupS s0 ha, RT.for_ItvT (K := K) (a := a) (xs := vns l) (fun i σ H' => Same H H' ∧ i ≤ l.length ∧ ∃ p y4, σ = [some (.int q), some (.ref a), some (.ref b), some (.ref p), y4] ∧ H p = none ∧ H' p = some (.tup (vns (trim (sh e k (l.drop (l.length - i)))))))
      ⟨s0, Nat.zero_le _, p0, none, rfl, n0, ?_⟩ (fun i σ H' hW => BP.Same.tupS hW.1 ha) (fun i x σ H' hi hx hW => ?_) (fun σ H' hW => ?_)⟩⟩
    · rw [upd_same, Nat.sub_zero, List.drop_length]
      rfl
    · obtain ⟨s1, hi', p, y4, rfl, np, hp⟩ := hW
      rw [List.length_map] at hi hx
      obtain ⟨hk, rfl⟩ := of_vns hx
      have e1 : l.length - (i + 1) = l.length - 1 - i := by omega
      have e2 : l.drop (l.length - 1 - i) = co l (l.length - 1 - i) :: l.drop (l.length - i) := by
        have h3 : l.length - i = l.length - 1 - i + 1 := by omega
        rw [h3]
        have g := get_co hk
        rw [List.getElem?_eq_getElem hk] at g
        rw [← Option.some.inj g]
        exact List.drop_eq_getElem_cons hk
      generalize hrest : l.drop (l.length - i) = rest at hp e2
      have lrest : rest.length ≤ 20 := by
        rw [← hrest, List.length_drop]
        omega
      have lsh : (trim (sh e k rest)).length ≤ 20 := by
        refine Classical.byContradiction fun z => ?_
        obtain ⟨m, hm⟩ : ∃ m, (trim (sh e k rest)).length = m + 1 := ⟨(trim (sh e k rest)).length - 1, by omega⟩
        refine top_of_trim (trim_trim _) hm ?_
        rw [co_trim]
        exact sh_out e k rest m (by omega)
      refine ⟨.int q, rfl, .int q, rfl, .ref p, rfl, .ref b, rfl, q, FF, p, b, trim (sh e k rest), [k, e], rfl, .inl (.inl hp), BP.Same.tupS s1 hb, by omega, (by show 2 ≤ 100; decide), fun t pt H2 ct lt ht s2 nt hpt => ?_⟩
      refine ⟨vn (co l (l.length - 1 - i)), rfl, (by show 1 ≤ sizeLine; decide), fun pl2 npl => ?_⟩
      have s3 := same_new (o := .lst [vn (co l (l.length - 1 - i))]) npl
      refine ⟨q, FF, pl2, [co l (l.length - 1 - i)], rfl, .inl (.inl upd_same), (by show 1 ≤ 200; decide), fun pu H3 s4 nu hpu => ?_⟩
      have hpt3 := s4 _ _ (s3 _ _ hpt)
      have lt2 : (trim [co l (l.length - 1 - i)]).length ≤ 1 := trim_len _
      have lt3 : t.length ≤ 22 := by
        have z : ([k, e] : Po q).length = 2 := rfl
        omega
      refine ⟨q, FF, pt, pu, t, trim [co l (l.length - 1 - i)], rfl, .inl (.inl hpt3), .inl (.inl hpu), by omega, by omega, fun r H4 s5 nr hr4 => ?_⟩
      have sAll := s1.trans (s2.trans (s3.trans (s4.trans s5)))
      have sB := s1.trans (s2.trans (s3.trans s4))
      refine ⟨sAll, by omega, r, _, rfl, none_of sB nr, ?_⟩
      rw [hr4, e1, e2, sh_step e k _ rest ht]
    · obtain ⟨s1, hi', p, y4, rfl, np, hp⟩ := hW
      have e0 : l.drop (l.length - (vns l).length) = l := by
        rw [List.length_map, Nat.sub_self, List.drop_zero]
      rw [e0] at hp
      exact ⟨_, rfl, want p H' s1 np hp⟩
end
end K13
set_option Elab.async false
set_option linter.all false
set_option maxRecDepth 100000
set_option maxHeartbeats 4000000
set_option pp.maxSteps 400
namespace Fld
variable {q : Nat} [F : IsF q]
/-- the map that undoes a map, as the program reckons it -/
def mund (m : Mat q) : Mat q :=
  ⟨m.e * El.under (det m), m.b * -(El.under (det m)), -(m.e * El.under (det m) * m.c + m.b * -(El.under (det m)) * m.f + 0),
   m.d * -(El.under (det m)), m.a * El.under (det m), -(m.d * -(El.under (det m)) * m.c + m.a * El.under (det m) * m.f + 0)⟩
theorem thn_mund {m : Mat q} (h : det m ≠ 0) : thn m (mund m) = same := by
  have u := El.mul_inv h
  unfold det at u h
  unfold thn mund same det
  refine Mat.ext' ?_ ?_ ?_ ?_ ?_ ?_ <;> simp only [] <;> grind
theorem mund_thn {m : Mat q} (h : det m ≠ 0) : thn (mund m) m = same := by
  have u := El.mul_inv h
  unfold det at u h
  unfold thn mund same det
  refine Mat.ext' ?_ ?_ ?_ ?_ ?_ ?_ <;> simp only [] <;> grind
theorem El.add_nil (a : El q) : a + 0 = a := by grind
end Fld
namespace BP
open PySem PySem.Spec PyProof.Rows L2 Fld
section
variable {q : Nat} [F : IsF q]
abbrev mv (m : Mat q) : List V := [vn m.a, vn m.b, vn m.c, vn m.d, vn m.e, vn m.f]
abbrev ov : Option (El q) → V
  | none => .int (-1)
  | some t => vn t
theorem vn_zero : vn (0 : El q) = .int 0 := rfl
theorem vn_one : vn (1 : El q) = .int 1 := by
  show V.int ((1 : El q).val : Nat) = _
  rw [El.val_one]
  rfl
theorem vn_inj {a b : El q} (h : vn a = vn b) : a = b := by
  have z := V.int.inj h
  exact El.ext (by omega)
end
def spTurn : Sp := fun vs H Q _ => ∃ (q : Nat) (_ : IsF q) (t : El q), vs = [vn t] ∧ ∀ (p : Addr) (H' : Hp), Same H H' → H p = none → H' p = some (.tup (mv (turn t))) → Q (.ref p) H'
def spSummed : Sp := fun vs H Q _ => ∃ (q : Nat) (_ : IsF q) (a x b y c : El q), vs = [.int q, vn a, vn x, vn b, vn y, vn c] ∧ Q (vn (a * x + b * y + c)) H
def spDet (K : PySem.W.Frag) : Sp := fun vs H Q _ => ∃ (q : Nat) (_ : IsF q) (p : Addr) (m : Mat q), vs = [.int q, .ref p] ∧ SqT K H p (mv m) ∧ Q (vn (det m)) H
def spPoint (K : PySem.W.Frag) : Sp := fun vs H Q _ => ∃ (q : Nat) (_ : IsF q) (p t : Addr) (m : Mat q) (x y : El q), vs = [.int q, .ref p, .ref t] ∧ SqT K H p (mv m) ∧ SqT K H t [vn x, vn y] ∧
  ∀ (r : Addr) (H' : Hp), Same H H' → H r = none → H' r = some (.tup [vn (m.a * x + m.b * y + m.c), vn (m.d * x + m.e * y + m.f)]) → Q (.ref r) H'
def spThn (K : PySem.W.Frag) : Sp := fun vs H Q _ => ∃ (q : Nat) (_ : IsF q) (p t : Addr) (m n : Mat q), vs = [.int q, .ref p, .ref t] ∧ SqT K H p (mv m) ∧ SqT K H t (mv n) ∧
  ∀ (r : Addr) (H' : Hp), Same H H' → H r = none → H' r = some (.tup (mv (thn m n))) → Q (.ref r) H'
def spUnd (K : PySem.W.Frag) : Sp := fun vs H Q _ => ∃ (q : Nat) (_ : IsF q) (p : Addr) (m : Mat q), vs = [.int q, .ref p] ∧ SqT K H p (mv m) ∧ det m ≠ 0 ∧
  ∀ (r : Addr) (H' : Hp), Same H H' → H r = none → H' r = some (.tup (mv (mund m))) → Q (.ref r) H'
def spTm2 (K : PySem.W.Frag) : Sp := fun vs H Q _ => ∃ (q : Nat) (_ : IsF q) (p : Addr) (m : Mat q), vs = [.int q, .ref p] ∧ SqT K H p (mv m) ∧
  ∀ (r t : Addr) (H' : Hp), Same H H' → H r = none → H' r = some (.tup [ov (tm m).1, .ref t]) → SqT K H' t (mv (tm m).2) → Q (.ref r) H'
def spAhead (K : PySem.W.Frag) : Sp := fun vs H Q _ => ∃ (q : Nat) (_ : IsF q) (p t : Addr) (b : Mat q) (f : Po q), vs = [.int q, .ref p, .ref t] ∧ SqT K H p (mv b) ∧ SqT K H t (vns f) ∧ Tri b ∧ IsB f ∧ f.length ≤ 7 ∧
  ∀ (r u v : Addr) (H' : Hp), Same H H' → H r = none → H' r = some (.tup [.ref u, .ref v]) → H' u = some (.tup (vns (ahead b f).1)) → H' v = some (.tup (mv (ahead b f).2)) → Q (.ref r) H'
end BP
namespace K13
open PySem PySem.Spec PyProof.Rows L2 BP Fld
section
variable {P : Program} {w : World} {K : PySem.W.Frag} {mg : Str → Option Value} {base : Heap}
abbrev Minus (P : Program) (w : World) (K : PySem.W.Frag) (mg : Str → Option Value) (base : Heap) := BP.Can P w K mg base "minus" 2 pMinus (spE2 (fun a b => a - b))
abbrev Opp (P : Program) (w : World) (K : PySem.W.Frag) (mg : Str → Option Value) (base : Heap) := BP.Can P w K mg base "opposite" 1 pOpposite (spE1 (fun a => -a))
abbrev Inve (P : Program) (w : World) (K : PySem.W.Frag) (mg : Str → Option Value) (base : Heap) := BP.Can P w K mg base "inverse" 1 pInverse spInvE
abbrev Summed (P : Program) (w : World) (K : PySem.W.Frag) (mg : Str → Option Value) (base : Heap) := BP.Can P w K mg base "summed" 2 pSummed spSummed
theorem ok_turn_by {f : Addr} {fd : FuncData} {k : Nat} (F : Fun K "turn_by" "turn_by" sTurnBy f fd) : FnOk P w K mg base CX0 (k + 1) f fd pTurnBy spTurn := by
  refine F.ok scTurnBy (fun vs H Q E h => ?_) (fun cdv A outer s H vs Q E hr h => ?_)
  · obtain ⟨q, _, t, rfl, _⟩ := h
    rfl
  · obtain ⟨q, FF, t, rfl, want⟩ := h
    refine ⟨_, (pss_one (ps_ret (pe_tup (pa_cons pe_int (pa_cons pe_int (pa_cons pe_int (pa_cons pe_int (pa_cons (pv 0) (pa_cons pe_int pa_nil))))))))), ?_⟩
    refine ⟨vn t, rfl, (by show 6 ≤ sizeLine; decide), fun p np => want p _ (same_new np) np ?_⟩
    rw [upd_same]
    unfold mv turn
    simp only []
    rw [vn_one, vn_zero]
theorem ok_summed {f fP fT : Addr} {fd fdP fdT : FuncData} (F : Fun K "summed" "summed" sSummed f fd) (PL : Plus P w K mg base fP fdP) (TM : Times P w K mg base fT fdT) : FnOk P w K mg base CX0 2 f fd pSummed spSummed := by
  refine F.ok scSummed (fun vs H Q E h => ?_) (fun cdv A outer s H vs Q E hr h => ?_)
  · obtain ⟨q, _, a, x, b, y, c, rfl, _⟩ := h
    rfl
  · obtain ⟨q, FF, a, x, b, y, c, rfl, want⟩ := h
    refine ⟨_, (pss_one (ps_ret (pe_call PL.ok hr (by rfl) PL.g PL.kp PL.b .nil pass0 (pa_cons (pv 0) (pa_cons (pe_call PL.ok hr (by rfl) PL.g PL.kp PL.b .nil pass0 (pa_cons (pv 0) (pa_cons (pe_call TM.ok hr (by rfl) TM.g TM.kp TM.b .nil pass0 (pa_cons (pv 0) (pa_cons (pv 1) (pa_cons (pv 2) pa_nil)))) (pa_cons (pe_call TM.ok hr (by rfl) TM.g TM.kp TM.b .nil pass0 (pa_cons (pv 0) (pa_cons (pv 3) (pa_cons (pv 4) pa_nil)))) pa_nil)))) (pa_cons (pv 5) pa_nil)))))), ?_⟩
    exact ⟨.int q, rfl, .int q, rfl, .int q, rfl, vn a, rfl, vn x, rfl, q, FF, a, x, rfl, .int q, rfl, vn b, rfl, vn y, rfl, q, FF, b, y, rfl, q, FF, a * x, b * y, rfl, vn c, rfl, q, FF, a * x + b * y, c, rfl, want⟩
theorem ok_det {f fM fT : Addr} {fd fdM fdT : FuncData} (F : Fun K "straight_determinant" "straight_determinant" sStraightDeterminant f fd) (MN : Minus P w K mg base fM fdM) (TM : Times P w K mg base fT fdT) : FnOk P w K mg base CX0 3 f fd pStraightDeterminant (spDet K) := by
  refine F.ok scStraightDeterminant (fun vs H Q E h => ?_) (fun cdv A outer s H vs Q E hr h => ?_)
  · obtain ⟨q, _, p, m, rfl, _⟩ := h
    rfl
  · obtain ⟨q, FF, p, m, rfl, hp, want⟩ := h
    have hr1 := hr.mono (show 1 ≤ 2 by decide)
    refine ⟨_, (pss_cons (ps_asg (pv 1) (pg_tup rfl (pgs_cons (pg_name (i := 2) scStraightDeterminant.nd rfl (.inl rfl)) (pgs_cons (pg_name (i := 3) scStraightDeterminant.nd rfl (.inl rfl)) (pgs_cons (pg_name (i := 4) scStraightDeterminant.nd rfl (.inl rfl)) (pgs_cons (pg_name (i := 5) scStraightDeterminant.nd rfl (.inl rfl)) (pgs_cons (pg_name (i := 6) scStraightDeterminant.nd rfl (.inl rfl)) (pgs_cons (pg_name (i := 4) scStraightDeterminant.nd rfl (.inl rfl)) pgs_nil))))))))
      (pss_one (ps_ret (pe_call MN.ok hr (by rfl) MN.g MN.kp MN.b .nil pass0 (pa_cons (pv 0) (pa_cons (pe_call TM.ok hr1 (by rfl) TM.g TM.kp TM.b .nil pass0 (pa_cons (pv 0) (pa_cons (pv 2) (pa_cons (pv 6) pa_nil)))) (pa_cons (pe_call TM.ok hr1 (by rfl) TM.g TM.kp TM.b .nil pass0 (pa_cons (pv 0) (pa_cons (pv 3) (pa_cons (pv 5) pa_nil)))) pa_nil))))))), ?_⟩
    refine ⟨.ref p, rfl, ?_⟩
    refine ⟨p, _, rfl, hp, rfl, _, [_, _, _, _, _], rfl, _, [_, _, _, _], rfl, _, [_, _, _], rfl, _, [_, _], rfl, _, [_], rfl, _, [], rfl, rfl, ?_⟩
    exact ⟨.int q, rfl, .int q, rfl, vn m.a, rfl, vn m.e, rfl, q, FF, m.a, m.e, rfl, .int q, rfl, vn m.b, rfl, vn m.d, rfl, q, FF, m.b, m.d, rfl, q, FF, m.a * m.e, m.b * m.d, rfl, want⟩
theorem ok_then {f fM : Addr} {fd fdM : FuncData} (F : Fun K "straight_then" "straight_then" sStraightThen f fd) (SM : Summed P w K mg base fM fdM) : FnOk P w K mg base CX0 3 f fd pStraightThen (spThn K) := by
  refine F.ok scStraightThen (fun vs H Q E h => ?_) (fun cdv A outer s H vs Q E hr h => ?_)
  · obtain ⟨q, _, p, t, m, n, rfl, _⟩ := h
    rfl
  · obtain ⟨q, FF, p, t, m, n, rfl, hp, ht, want⟩ := h
    refine ⟨_, (pss_cons (ps_asg (pv 1) (pg_tup rfl (pgs_cons (pg_name (i := 3) scStraightThen.nd rfl (.inl rfl)) (pgs_cons (pg_name (i := 4) scStraightThen.nd rfl (.inl rfl)) (pgs_cons (pg_name (i := 5) scStraightThen.nd rfl (.inl rfl)) (pgs_cons (pg_name (i := 6) scStraightThen.nd rfl (.inl rfl)) (pgs_cons (pg_name (i := 7) scStraightThen.nd rfl (.inl rfl)) (pgs_cons (pg_name (i := 8) scStraightThen.nd rfl (.inl rfl)) pgs_nil))))))))
      (pss_cons (ps_set (i := 9) scStraightThen.nd rfl (.inl rfl) (pe_slice sl_tup (pv 2) po_none (po_some pe_int)))
      (pss_cons (ps_set (i := 10) scStraightThen.nd rfl (.inl rfl) (pe_slice sl_tup (pv 2) (po_some pe_int) po_none))
      (pss_one (ps_ret (pe_tup (pa_cons (pe_call SM.ok hr (by rfl) SM.g SM.kp SM.b .nil pass0 (pa_cons (pv 0) (pa_cons (pe_ix ix_tup (pv 9) pe_int (fun _ _ => rfl)) (pa_cons (pv 3) (pa_cons (pe_ix ix_tup (pv 9) pe_int (fun _ _ => rfl)) (pa_cons (pv 6) (pa_cons pe_int pa_nil))))))) (pa_cons (pe_call SM.ok hr (by rfl) SM.g SM.kp SM.b .nil pass0 (pa_cons (pv 0) (pa_cons (pe_ix ix_tup (pv 9) pe_int (fun _ _ => rfl)) (pa_cons (pv 4) (pa_cons (pe_ix ix_tup (pv 9) pe_int (fun _ _ => rfl)) (pa_cons (pv 7) (pa_cons pe_int pa_nil))))))) (pa_cons (pe_call SM.ok hr (by rfl) SM.g SM.kp SM.b .nil pass0 (pa_cons (pv 0) (pa_cons (pe_ix ix_tup (pv 9) pe_int (fun _ _ => rfl)) (pa_cons (pv 5) (pa_cons (pe_ix ix_tup (pv 9) pe_int (fun _ _ => rfl)) (pa_cons (pv 8) (pa_cons (pe_ix ix_tup (pv 9) pe_int (fun _ _ => rfl)) pa_nil))))))) (pa_cons (pe_call SM.ok hr (by rfl) SM.g SM.kp SM.b .nil pass0 (pa_cons (pv 0) (pa_cons (pe_ix ix_tup (pv 10) pe_int (fun _ _ => rfl)) (pa_cons (pv 3) (pa_cons (pe_ix ix_tup (pv 10) pe_int (fun _ _ => rfl)) (pa_cons (pv 6) (pa_cons pe_int pa_nil))))))) (pa_cons (pe_call SM.ok hr (by rfl) SM.g SM.kp SM.b .nil pass0 (pa_cons (pv 0) (pa_cons (pe_ix ix_tup (pv 10) pe_int (fun _ _ => rfl)) (pa_cons (pv 4) (pa_cons (pe_ix ix_tup (pv 10) pe_int (fun _ _ => rfl)) (pa_cons (pv 7) (pa_cons pe_int pa_nil))))))) (pa_cons (pe_call SM.ok hr (by rfl) SM.g SM.kp SM.b .nil pass0 (pa_cons (pv 0) (pa_cons (pe_ix ix_tup (pv 10) pe_int (fun _ _ => rfl)) (pa_cons (pv 5) (pa_cons (pe_ix ix_tup (pv 10) pe_int (fun _ _ => rfl)) (pa_cons (pv 8) (pa_cons (pe_ix ix_tup (pv 10) pe_int (fun _ _ => rfl)) pa_nil))))))) pa_nil)))))))))))), ?_⟩
    refine ⟨.ref p, rfl, ?_⟩
    refine ⟨p, _, rfl, hp, rfl, _, [_, _, _, _, _], rfl, _, [_, _, _, _], rfl, _, [_, _, _], rfl, _, [_, _], rfl, _, [_], rfl, _, [], rfl, rfl, ?_⟩
    refine ⟨.ref t, rfl, 3, rfl, t, _, rfl, ht, (fun z => absurd z.2 (by show ¬ HT.sIx 6 6 (some 3) = 6; decide)), fun u nu => ?_⟩
    have s1 := same_new (o := .tup [vn n.a, vn n.b, vn n.c]) nu
    refine ⟨.ref t, rfl, 3, rfl, t, _, rfl, BP.Same.tupS s1 ht, (fun z => absurd z.1 (by show ¬ HT.sIx 6 0 (some 3) = 0; decide)), fun v nv => ?_⟩
    have s2 := same_new (o := .tup [vn n.d, vn n.e, vn n.f]) nv
    have hu : (upd (upd H u (.tup [vn n.a, vn n.b, vn n.c])) v (.tup [vn n.d, vn n.e, vn n.f])) u = some (.tup [vn n.a, vn n.b, vn n.c]) := s2 _ _ upd_same
    have hv : (upd (upd H u (.tup [vn n.a, vn n.b, vn n.c])) v (.tup [vn n.d, vn n.e, vn n.f])) v = some (.tup [vn n.d, vn n.e, vn n.f]) := upd_same
    have s12 := s1.trans s2
    refine ⟨.int q, rfl, .ref u, rfl, u, _, 0, vn n.a, rfl, rfl, .inl (.inl hu), rfl, vn m.a, rfl, .ref u, rfl, u, _, 1, vn n.b, rfl, rfl, .inl (.inl hu), rfl, vn m.d, rfl, q, FF, n.a, m.a, n.b, m.d, 0, rfl, ?_⟩
    refine ⟨.int q, rfl, .ref u, rfl, u, _, 0, vn n.a, rfl, rfl, .inl (.inl hu), rfl, vn m.b, rfl, .ref u, rfl, u, _, 1, vn n.b, rfl, rfl, .inl (.inl hu), rfl, vn m.e, rfl, q, FF, n.a, m.b, n.b, m.e, 0, rfl, ?_⟩
    refine ⟨.int q, rfl, .ref u, rfl, u, _, 0, vn n.a, rfl, rfl, .inl (.inl hu), rfl, vn m.c, rfl, .ref u, rfl, u, _, 1, vn n.b, rfl, rfl, .inl (.inl hu), rfl, vn m.f, rfl, .ref u, rfl, u, _, 2, vn n.c, rfl, rfl, .inl (.inl hu), rfl, q, FF, n.a, m.c, n.b, m.f, n.c, rfl, ?_⟩
    refine ⟨.int q, rfl, .ref v, rfl, v, _, 0, vn n.d, rfl, rfl, .inl (.inl hv), rfl, vn m.a, rfl, .ref v, rfl, v, _, 1, vn n.e, rfl, rfl, .inl (.inl hv), rfl, vn m.d, rfl, q, FF, n.d, m.a, n.e, m.d, 0, rfl, ?_⟩
    refine ⟨.int q, rfl, .ref v, rfl, v, _, 0, vn n.d, rfl, rfl, .inl (.inl hv), rfl, vn m.b, rfl, .ref v, rfl, v, _, 1, vn n.e, rfl, rfl, .inl (.inl hv), rfl, vn m.e, rfl, q, FF, n.d, m.b, n.e, m.e, 0, rfl, ?_⟩
    refine ⟨.int q, rfl, .ref v, rfl, v, _, 0, vn n.d, rfl, rfl, .inl (.inl hv), rfl, vn m.c, rfl, .ref v, rfl, v, _, 1, vn n.e, rfl, rfl, .inl (.inl hv), rfl, vn m.f, rfl, .ref v, rfl, v, _, 2, vn n.f, rfl, rfl, .inl (.inl hv), rfl, q, FF, n.d, m.c, n.e, m.f, n.f, rfl, ?_⟩
    exact ⟨(by show 6 ≤ sizeLine; decide), fun r nr => want r _ (s12.trans (same_new nr)) (none_of s12 nr) (by rw [upd_same]; unfold mv Fld.thn; simp only [El.add_nil])⟩
end
end K13
set_option Elab.async false
set_option linter.all false
set_option maxRecDepth 100000
set_option maxHeartbeats 4000000
set_option pp.maxSteps 400
namespace Fld
variable {q : Nat} [F : IsF q]
theorem shp_len {e k : El q} (he : e ≠ 0) {f : Po q} {n : Nat} (hl : f.length = n + 1) (ht : co f n ≠ 0) : (trim (sh e k f)).length = n + 1 := by
  have top : co (trim (sh e k f)) n ≠ 0 := by
    rw [co_trim, sh_top e k f n hl]
    exact ne_mul ht (epow_ne he _)
  have a : n < (trim (sh e k f)).length := Classical.byContradiction fun z => top (co_out (by omega))
  have b : (trim (sh e k f)).length ≤ n + 1 := by
    refine Classical.byContradiction fun z => ?_
    obtain ⟨m, hm⟩ : ∃ m, (trim (sh e k f)).length = m + 1 := ⟨(trim (sh e k f)).length - 1, by omega⟩
    refine top_of_trim (trim_trim _) hm ?_
    rw [co_trim]
    exact sh_out e k f m (by omega)
  omega
end Fld
namespace K13
open PySem PySem.Spec PyProof.Rows L2 BP Fld
section
variable {P : Program} {w : World} {K : PySem.W.Frag} {mg : Str → Option Value} {base : Heap}
theorem ok_turn_and_map {f fI fM fT : Addr} {fd fdI fdM fdT : FuncData} {tk : Tok} (F : Fun K "turn_and_map" "turn_and_map" sTurnAndMap f fd) (IV : Inve P w K mg base fI fdI) (MN : Minus P w K mg base fM fdM) (TM : Times P w K mg base fT fdT) (gNT : mg "NO_TURN" = some (.int (-1) tk)) :
    FnOk P w K mg base CX0 3 f fd pTurnAndMap (spTm2 K) := by
  refine F.ok scTurnAndMap (fun vs H Q E h => ?_) (fun cdv A outer s H vs Q E hr h => ?_)
  · obtain ⟨q, _, p, m, rfl, _⟩ := h
    rfl
  · obtain ⟨q, FF, p, m, rfl, hp, want⟩ := h
    have hr1 := hr.mono (show 1 ≤ 2 by decide)
    refine ⟨_, (pss_cons (ps_asg (pv 1) (pg_tup rfl (pgs_cons (pg_name (i := 2) scTurnAndMap.nd rfl (.inl rfl)) (pgs_cons (pg_name (i := 3) scTurnAndMap.nd rfl (.inl rfl)) (pgs_cons (pg_name (i := 4) scTurnAndMap.nd rfl (.inl rfl)) (pgs_cons (pg_name (i := 5) scTurnAndMap.nd rfl (.inl rfl)) (pgs_cons (pg_name (i := 6) scTurnAndMap.nd rfl (.inl rfl)) (pgs_cons (pg_name (i := 7) scTurnAndMap.nd rfl (.inl rfl)) pgs_nil))))))))
      (pss_cons (ps_if (pt_cmpR op_eq (pv 5) pe_int (nomark _)) (pss_one (ps_ret (pe_tup (pa_cons (pe_glob (v := .int (-1)) rfl gNT ⟨_, rfl⟩) (pa_cons (pv 1) pa_nil))))) pss_nil)
      (pss_cons (ps_set (i := 8) scTurnAndMap.nd rfl (.inl rfl) (pe_call TM.ok hr1 (by rfl) TM.g TM.kp TM.b .nil pass0 (pa_cons (pv 0) (pa_cons (pv 6) (pa_cons (pe_call IV.ok hr1 (by rfl) IV.g IV.kp IV.b .nil pass0 (pa_cons (pv 0) (pa_cons (pv 5) pa_nil))) pa_nil)))))
      (pss_one (ps_ret (pe_tup (pa_cons (pv 8) (pa_cons (pe_tup (pa_cons (pe_call MN.ok hr (by rfl) MN.g MN.kp MN.b .nil pass0 (pa_cons (pv 0) (pa_cons (pv 3) (pa_cons (pe_call TM.ok hr1 (by rfl) TM.g TM.kp TM.b .nil pass0 (pa_cons (pv 0) (pa_cons (pv 2) (pa_cons (pv 8) pa_nil)))) pa_nil)))) (pa_cons (pv 2) (pa_cons (pv 4) (pa_cons pe_int (pa_cons (pv 5) (pa_cons (pv 7) pa_nil))))))) pa_nil)))))))), ?_⟩
    refine ⟨.ref p, rfl, ?_⟩
    refine ⟨p, _, rfl, hp, rfl, _, [_, _, _, _, _], rfl, _, [_, _, _, _], rfl, _, [_, _, _], rfl, _, [_, _], rfl, _, [_], rfl, _, [], rfl, rfl, ?_⟩
    refine ⟨vn m.d, rfl, rfl, _, rfl, ite2 (fun h0 => ?_) (fun h0 => ?_)⟩
    · have hd : m.d = 0 := vn_inj (by rw [vn_zero]; exact of_decide_eq_true h0)
      have et : tm m = (none, m) := by
        unfold tm
        rw [if_pos hd]
      refine ⟨.ref p, rfl, (by show 2 ≤ sizeLine; decide), fun r nr => ?_⟩
      refine want r p _ (same_new nr) nr ?_ (BP.Same.tupS (same_new nr) ?_)
      · rw [upd_same, et]
      · rw [et]
        exact hp
    · have hd : m.d ≠ 0 := fun z => h0 (decide_eq_true (by rw [z]; rfl))
      have et : tm m = (some (m.e * El.under m.d), ⟨m.b - m.a * (m.e * El.under m.d), m.a, m.c, 0, m.d, m.f⟩) := by
        unfold tm
        rw [if_neg hd]
      refine ⟨.int q, rfl, vn m.e, rfl, .int q, rfl, vn m.d, rfl, q, FF, m.d, hd, rfl, q, FF, m.e, El.under m.d, rfl, ?_⟩
      refine ⟨vn (m.e * El.under m.d), rfl, .int q, rfl, vn m.b, rfl, .int q, rfl, vn m.a, rfl, vn (m.e * El.under m.d), rfl, q, FF, m.a, m.e * El.under m.d, rfl, q, FF, m.b, m.a * (m.e * El.under m.d), rfl, ?_⟩
      refine ⟨vn m.a, rfl, vn m.c, rfl, vn m.d, rfl, vn m.f, rfl, (by show 6 ≤ sizeLine; decide), fun u nu => ?_⟩
      refine ⟨(by show 2 ≤ sizeLine; decide), fun r nr => ?_⟩
      have s1 := same_new (o := .tup [vn (m.b - m.a * (m.e * El.under m.d)), vn m.a, vn m.c, V.int 0, vn m.d, vn m.f]) nu
      have s2 := same_new (o := .tup [vn (m.e * El.under m.d), .ref u]) nr
      refine want r u _ (s1.trans s2) (none_of s1 nr) ?_ (.inl (.inl (s2 _ _ ?_)))
      · rw [upd_same, et]
      · rw [upd_same, et]
        rfl
theorem ok_bend_ahead {f fI fP fS fU : Addr} {fd fdI fdP fdS fdU : FuncData} (F : Fun K "bend_ahead" "bend_ahead" sBendAhead f fd) (IV : Inve P w K mg base fI fdI) (OPT : BP.Can P w K mg base "one_put" 4 pOnePut (spSh K) fP fdP)
    (SC : BP.Can P w K mg base "one_scaled" 2 pOneScaled (spSc K) fS fdS) (PL : Plus P w K mg base fU fdU) : FnOk P w K mg base CX0 5 f fd pBendAhead (spAhead K) := by
  refine F.ok scBendAhead (fun vs H Q E h => ?_) (fun cdv A outer s H vs Q E hr h => ?_)
  · obtain ⟨q, _, p, t, m, g, rfl, _⟩ := h
    rfl
  · obtain ⟨q, FF, p, t, m, g, rfl, hp, ht, tri, hg, lg, want⟩ := h
    have hr1 := hr.mono (show 1 ≤ 4 by decide)
    have hr2 := hr.mono (show 2 ≤ 4 by decide)
    obtain ⟨n, hl, htop⟩ := hg.top
    have lp := shp_len (e := m.e) (k := m.f) tri.2.2 hl htop
    refine ⟨_, (pss_cons (ps_asg (pv 1) (pg_tup rfl (pgs_cons (pg_name (i := 3) scBendAhead.nd rfl (.inl rfl)) (pgs_cons (pg_name (i := 4) scBendAhead.nd rfl (.inl rfl)) (pgs_cons (pg_name (i := 5) scBendAhead.nd rfl (.inl rfl)) (pgs_cons (pg_name (i := 6) scBendAhead.nd rfl (.inl rfl)) (pgs_cons (pg_name (i := 7) scBendAhead.nd rfl (.inl rfl)) (pgs_cons (pg_name (i := 8) scBendAhead.nd rfl (.inl rfl)) pgs_nil))))))))
      (pss_cons (ps_set (i := 9) scBendAhead.nd rfl (.inl rfl) (pe_call OPT.ok hr (by rfl) OPT.g OPT.kp OPT.b .nil pass0 (pa_cons (pv 0) (pa_cons (pv 2) (pa_cons (pe_tup (pa_cons (pv 8) (pa_cons (pv 7) pa_nil))) pa_nil)))))
      (pss_cons (ps_set (i := 10) scBendAhead.nd rfl (.inl rfl) (pe_call SC.ok hr2 (by rfl) SC.g SC.kp SC.b .nil pass0 (pa_cons (pv 0) (pa_cons (pe_op op_catT (pe_tup (pa_cons pe_int (pa_cons pe_int pa_nil))) (pe_slice sl_tup (pv 9) (po_some pe_int) po_none)) (pa_cons (pe_call IV.ok hr1 (by rfl) IV.g IV.kp IV.b .nil pass0 (pa_cons (pv 0) (pa_cons (pv 3) pa_nil))) pa_nil)))))
      (pss_cons (ps_asg (pe_slice sl_tup (pv 9) po_none (po_some pe_int)) (pg_tup rfl (pgs_cons (pg_name (i := 11) scBendAhead.nd rfl (.inl rfl)) (pgs_cons (pg_name (i := 12) scBendAhead.nd rfl (.inl rfl)) pgs_nil))))
      (pss_one (ps_ret (pe_tup (pa_cons (pv 10) (pa_cons (pe_tup (pa_cons (pv 3) (pa_cons (pe_call PL.ok hr1 (by rfl) PL.g PL.kp PL.b .nil pass0 (pa_cons (pv 0) (pa_cons (pv 4) (pa_cons (pv 12) pa_nil)))) (pa_cons (pe_call PL.ok hr1 (by rfl) PL.g PL.kp PL.b .nil pass0 (pa_cons (pv 0) (pa_cons (pv 5) (pa_cons (pv 11) pa_nil)))) (pa_cons pe_int (pa_cons (pv 7) (pa_cons (pv 8) pa_nil))))))) pa_nil))))))))), ?_⟩
    refine ⟨.ref p, rfl, ?_⟩
    refine ⟨p, _, rfl, hp, rfl, _, [_, _, _, _, _], rfl, _, [_, _, _, _], rfl, _, [_, _, _], rfl, _, [_, _], rfl, _, [_], rfl, _, [], rfl, rfl, ?_⟩
    refine ⟨.int q, rfl, .ref t, rfl, vn m.f, rfl, vn m.e, rfl, (by show 2 ≤ sizeLine; decide), fun u nu => ?_⟩
    have s1 := same_new (o := .tup [vn m.f, vn m.e]) nu
    refine ⟨q, FF, t, u, g, m.f, m.e, rfl, BP.Same.tupS s1 ht, .inl (.inl upd_same), by omega, fun pt H2 s2 npt hpt => ?_⟩
    have s12 := s1.trans s2
    generalize hpp : trim (sh m.e m.f g) = pp at hpt lp
    have lv : (vns pp).length = n + 3 := by
      rw [List.length_map, lp]
    have i2 : HT.sIx (n + 3) 0 (some 2) = 2 := by
      have e := HT.sIx_nat (n + 3) 0 2
      rw [show ((2 : Nat) : Int) = 2 from rfl] at e
      omega
    have i3 : HT.sIx (n + 3) (n + 3) (some 2) = 2 := by
      have e := HT.sIx_nat (n + 3) (n + 3) 2
      rw [show ((2 : Nat) : Int) = 2 from rfl] at e
      omega
    -- parts[2:]
    refine ⟨.int q, rfl, (by show 2 ≤ sizeLine; decide), fun z nz => ?_⟩
    have s3 := same_new (o := .tup [V.int 0, V.int 0]) nz
    refine ⟨.ref pt, rfl, 2, rfl, pt, _, rfl, .inl (.inl (s3 _ _ hpt)), ?_, fun c nc => ?_⟩
    · rw [lv, i2]
      exact fun z => absurd z.1 (by decide)
    have ec : cutV (vns pp) (some 2) none = vns (pp.drop 2) := by
      unfold cutV
      rw [lv, i2, HT.sIx_none]
      have : (List.drop 2 (vns pp)).length = n + 3 - 2 := by rw [List.length_drop, lv]
      rw [List.take_of_length_le (by omega)]
      unfold vns
      rw [List.map_drop]
    rw [ec]
    have s4 := same_new (o := .tup (vns (pp.drop 2))) nc
    have s34 := s3.trans s4
    refine ⟨z, c, _, _, rfl, rfl, .inl (.inl (s4 _ _ upd_same)), .inl (.inl upd_same), (by simp), ?_, fun y => ?_, fun _ w nw => ?_⟩
    · rw [List.length_map, List.length_drop, lp]
      exact Nat.le_trans (by show 2 + (n + 3 - 2) ≤ 10; omega) (by decide)
    · have z := congrArg List.length y
      rw [List.length_map, List.length_drop, lp] at z
      exact absurd z (by show n + 3 - 2 ≠ 0; omega)
    have s5 := same_new (o := .tup ([V.int 0, V.int 0] ++ vns (pp.drop 2))) nw
    have s345 := s34.trans s5
    -- one_scaled
    refine ⟨.int q, rfl, vn m.a, rfl, q, FF, m.a, tri.2.1, rfl, q, FF, w, 0 :: 0 :: pp.drop 2, El.under m.a, rfl, .inl (.inl upd_same), ?_, fun mb H6 s6 nmb hmb => ?_⟩
    · show (pp.drop 2).length + 1 + 1 ≤ 100
      rw [List.length_drop]
      omega
    have sH6 := s345.trans s6
    have hpt6 := sH6 _ _ hpt
    -- parts[:2]
    refine ⟨.ref pt, rfl, 2, rfl, pt, _, rfl, .inl (.inl hpt6), ?_, fun d nd => ?_⟩
    · rw [lv, i3]
      exact fun z => absurd z.2 (by omega)
    have ed : cutV (vns pp) none (some 2) = [vn (co pp 0), vn (co pp 1)] := by
      have e := cut_take (vns pp) 2
      rw [show ((2 : Nat) : Int) = 2 from rfl] at e
      rw [e]
      match pp, lp with
      | a :: b :: r, _ => rfl
    rw [ed]
    have s7 := same_new (o := .tup [vn (co pp 0), vn (co pp 1)]) nd
    refine ⟨d, _, rfl, .inl (.inl upd_same), rfl, _, [_], rfl, _, [], rfl, rfl, ?_⟩
    refine ⟨.ref mb, rfl, vn m.a, rfl, .int q, rfl, vn m.b, rfl, vn (co pp 1), rfl, q, FF, m.b, co pp 1, rfl, .int q, rfl, vn m.c, rfl, vn (co pp 0), rfl, q, FF, m.c, co pp 0, rfl, vn m.e, rfl, vn m.f, rfl, (by show 6 ≤ sizeLine; decide), fun bm nbm => ?_⟩
    have s8 := same_new (o := .tup [vn m.a, vn (m.b + co pp 1), vn (m.c + co pp 0), V.int 0, vn m.e, vn m.f]) nbm
    refine ⟨(by show 2 ≤ sizeLine; decide), fun r nr => ?_⟩
    have s9 := same_new (o := .tup [.ref mb, .ref bm]) nr
    have sA := s12.trans (sH6.trans (s7.trans s8))
    refine want r mb bm _ (sA.trans s9) (none_of sA nr) upd_same (s9 _ _ (s8 _ _ (s7 _ _ ?_))) (s9 _ _ ?_)
    · rw [hmb]
      unfold Fld.ahead
      rw [hpp]
    · rw [upd_same]
      unfold Fld.ahead
      rw [hpp]
      rfl
end
end K13
set_option Elab.async false
set_option linter.all false
set_option maxRecDepth 100000
set_option maxHeartbeats 4000000
set_option pp.maxSteps 400
namespace BP
open PySem PySem.Spec PyProof.Rows L2 Fld
section
variable {X : Cx} {o : Expr} {f : Str} {pos : Pos} {ta : TE}
/-- a target that is an attribute, inside a target of several -/
def gFld (K : PySem.W.Frag) (ta : TE) (f : Str) : TG := fun v σ H Q => ta σ H fun x H2 => ∃ a C dx fs, x = .ref a ∧ H2 a = some (.ins C dx fs) ∧ Cls K C ∧ NoAttr K C f ∧ fs.length < 1000 ∧ Q σ (upd H2 a (.ins C dx (putF f v fs)))
theorem pg_fld (ha : PE X o ta) : PG X (.Attribute o f pos) (gFld X.K ta f) := by
  refine ⟨fun pins s σ H v u Q I r h => ?_⟩
  rw [assign_Attribute]
  refine wpAny_bind (wpAny_holding (thn (ha.run pins s σ H _ I h) fun ov s1 ⟨x, H1, I1, rx, a, C, dx, fs, ex, ea, c, n, l, q⟩ => ?_))
  subst ex
  obtain rfl : ov = Value.ref a := rx
  refine wpAny_bind (wpAny_standAt (wpAny_bind (wpAny_holding (setattr_ok I1 ea c n l r fun s3 I3 => ?_))))
  exact wpAny_release ⟨σ, _, I3, q⟩
end
/-- a method that may be called -/
structure Mth (P : Program) (w : World) (K : PySem.W.Frag) (mg : Str → Option Value) (base : Heap) (C : Addr) (x : Str) (k : Nat) (ps : List Str) (sp : Sp) (f : Addr) (fd : FuncData) : Prop where
  ok : FnOk P w K mg base CX0 k f fd ps sp
  m : Meth K C x f
  b : Binds K fd ps []
/-! ### the object -/
theorem lk (g k : Str) (v : V) (r : List (Str × V)) : ((k, v) :: r).lookup g = if g = k then some v else r.lookup g := by
  by_cases h : g = k
  · have hb : (g == k) = true := beq_iff_eq.mpr h
    simp only [List.lookup, hb, if_pos h]
  · have hb : (g == k) = false := beq_eq_false_iff_ne.mpr h
    simp only [List.lookup, hb, if_neg h]
abbrev flds (q : Nat) (t b l : Addr) : List (Str × V) := [("q", .int q), ("turns", .ref t), ("bends", .ref b), ("last", .ref l)]
theorem n1 : ¬ ("q" : Str) = "turns" := by decide +kernel
theorem n2 : ¬ ("q" : Str) = "bends" := by decide +kernel
theorem n3 : ¬ ("q" : Str) = "last" := by decide +kernel
theorem n4 : ¬ ("turns" : Str) = "bends" := by decide +kernel
theorem n5 : ¬ ("turns" : Str) = "last" := by decide +kernel
theorem n6 : ¬ ("bends" : Str) = "last" := by decide +kernel
section
variable {q : Nat} {t b l : Addr}
theorem fl_q : (flds q t b l).lookup ("q" : Str) = some (.int q) := by rw [lk, if_pos rfl]
theorem fl_t : (flds q t b l).lookup ("turns" : Str) = some (.ref t) := by rw [lk, if_neg fun z => n1 z.symm, lk, if_pos rfl]
theorem fl_b : (flds q t b l).lookup ("bends" : Str) = some (.ref b) := by rw [lk, if_neg fun z => n2 z.symm, lk, if_neg fun z => n4 z.symm, lk, if_pos rfl]
theorem fl_l : (flds q t b l).lookup ("last" : Str) = some (.ref l) := by rw [lk, if_neg fun z => n3 z.symm, lk, if_neg fun z => n5 z.symm, lk, if_neg fun z => n6 z.symm, lk, if_pos rfl]
theorem fl_no {m : Str} (h1 : ¬ m = "q") (h2 : ¬ m = "turns") (h3 : ¬ m = "bends") (h4 : ¬ m = "last") : (flds q t b l).lookup m = none := by
  rw [lk, if_neg h1, lk, if_neg h2, lk, if_neg h3, lk, if_neg h4]
  rfl
theorem pf (f k : Str) (v x : V) (r : List (Str × V)) : putF f v ((k, x) :: r) = if k = f then (k, v) :: r else (k, x) :: putF f v r := rfl
theorem fl_put {l' : Addr} : putF "last" (.ref l') (flds q t b l) = flds q t b l' := by
  rw [pf, if_neg n3, pf, if_neg n5, pf, if_neg n6, pf, if_pos rfl]
theorem fl_mk : putF "last" (.ref l) (putF "bends" (.ref b) (putF "turns" (.ref t) (putF "q" (.int q) []))) = flds q t b l := by
  rw [show putF ("q" : Str) (V.int q) [] = [(("q" : Str), V.int q)] from rfl]
  rw [pf "turns" "q", if_neg n1, show putF ("turns" : Str) (V.ref t) [] = [(("turns" : Str), V.ref t)] from rfl]
  rw [pf "bends" "q", if_neg n2, pf "bends" "turns", if_neg n4, show putF ("bends" : Str) (V.ref b) [] = [(("bends" : Str), V.ref b)] from rfl]
  rw [pf "last" "q", if_neg n3, pf "last" "turns", if_neg n5, pf "last" "bends", if_neg n6]
  rfl
end
section
variable {q : Nat} [F : IsF q] {K : PySem.W.Frag}
/-- what lies at the end of the two lists comes first -/
def Stk (K : PySem.W.Frag) (H : Hp) : List (Option (El q) × Po q) → List V → List V → Prop
  | [], ts, bs => ts = [] ∧ bs = []
  | (o, g) :: r, ts, bs => ∃ ts' bs' a, ts = ts' ++ [ov o] ∧ bs = bs' ++ [.ref a] ∧ SqT K H a (vns g) ∧ Stk K H r ts' bs'
theorem Stk.len {H : Hp} : ∀ {st : List (Option (El q) × Po q)} {ts bs : List V}, Stk K H st ts bs → ts.length = st.length ∧ bs.length = st.length
  | [], _, _, ⟨e1, e2⟩ => by
    subst e1
    subst e2
    exact ⟨rfl, rfl⟩
  | (o, g) :: r, _, _, ⟨ts', bs', a, e1, e2, _, k⟩ => by
    subst e1
    subst e2
    obtain ⟨h1, h2⟩ := Stk.len k
    rw [List.length_append, List.length_append, h1, h2]
    exact ⟨rfl, rfl⟩
theorem Stk.kept {H H' : Hp} (kp : ∀ a xs, SqT K H a xs → SqT K H' a xs) : ∀ {st : List (Option (El q) × Po q)} {ts bs : List V}, Stk K H st ts bs → Stk K H' st ts bs
  | [], _, _, h => h
  | (o, g) :: r, _, _, ⟨ts', bs', a, e1, e2, h, k⟩ => ⟨ts', bs', a, e1, e2, kp _ _ h, Stk.kept kp k⟩
structure LAt (K : PySem.W.Frag) (C : Addr) (H : Hp) (p dx t b l : Addr) (ts bs : List V) (s : Sta q) : Prop where
  ob : H p = some (.ins C dx (flds q t b l))
  la : SqT K H l (mv s.last)
  lt : H t = some (.lst ts)
  lb : H b = some (.lst bs)
  sk : Stk K H s.st ts bs
  nb : t ≠ b
def But3 (p t b : Addr) (H H' : Hp) : Prop := ∀ c o, c ≠ p → c ≠ t → c ≠ b → H c = some o → H' c = some o
theorem But3.refl {p t b : Addr} {H : Hp} : But3 p t b H H := fun _ _ _ _ _ e => e
theorem But3.trans {p t b : Addr} {H H1 H2 : Hp} (h : But3 p t b H H1) (k : But3 p t b H1 H2) : But3 p t b H H2 := fun c o x y z e => k c o x y z (h c o x y z e)
theorem But3.of {p t b : Addr} {H H' : Hp} (s : Same H H') : But3 p t b H H' := fun c o _ _ _ e => s c o e
theorem But3.p {p t b : Addr} {H : Hp} {x : HO} : But3 p t b H (upd H p x) := fun c o h _ _ e => by rw [upd_ne h]; exact e
theorem But3.t {p t b : Addr} {H : Hp} {x : HO} : But3 p t b H (upd H t x) := fun c o _ h _ e => by rw [upd_ne h]; exact e
theorem But3.b {p t b : Addr} {H : Hp} {x : HO} : But3 p t b H (upd H b x) := fun c o _ _ h e => by rw [upd_ne h]; exact e
theorem But3.sqT {p t b C dx : Addr} {H H' : Hp} {fs : List (Str × V)} {ts bs : List V} (B : But3 p t b H H') (h1 : H p = some (.ins C dx fs)) (h2 : H t = some (.lst ts)) (h3 : H b = some (.lst bs)) : ∀ (a : Addr) (xs : List V), SqT K H a xs → SqT K H' a xs := by
  intro a xs h
  rcases h with (h | ⟨o, h⟩) | h
  · exact .inl (.inl (B _ _ (ne_of h h1 (by intro z; cases z)) (ne_of h h2 (by intro z; cases z)) (ne_of h h3 (by intro z; cases z)) h))
  · exact .inl (.inr ⟨o, B _ _ (ne_of h h1 (by intro z; cases z)) (ne_of h h2 (by intro z; cases z)) (ne_of h h3 (by intro z; cases z)) h⟩)
  · exact .inr h
section
variable {C : Addr} {H H' : Hp} {p dx t b l : Addr} {ts bs : List V} {s : Sta q}
theorem LAt.kp (S : LAt K C H p dx t b l ts bs s) (B : But3 p t b H H') : ∀ (a : Addr) (xs : List V), SqT K H a xs → SqT K H' a xs := B.sqT S.ob S.lt S.lb
theorem LAt.npt (S : LAt K C H p dx t b l ts bs s) : p ≠ t := ne_of S.ob S.lt (by intro z; cases z)
theorem LAt.npb (S : LAt K C H p dx t b l ts bs s) : p ≠ b := ne_of S.ob S.lb (by intro z; cases z)
theorem LAt.same (S : LAt K C H p dx t b l ts bs s) (h : Same H H') : LAt K C H' p dx t b l ts bs s :=
  ⟨h _ _ S.ob, BP.Same.tupS h S.la, h _ _ S.lt, h _ _ S.lb, S.sk.kept fun _ _ => BP.Same.tupS h, S.nb⟩
/-- another last map -/
theorem LAt.setl {l' : Addr} {m : Mat q} (S : LAt K C H p dx t b l ts bs s) (h : SqT K H l' (mv m)) : LAt K C (upd H p (.ins C dx (flds q t b l'))) p dx t b l' ts bs ⟨s.st, m⟩ :=
  ⟨upd_same, S.kp .p _ _ h, by rw [upd_ne S.npt.symm]; exact S.lt, by rw [upd_ne S.npb.symm]; exact S.lb, S.sk.kept (S.kp .p), S.nb⟩
/-- one more at the end -/
theorem LAt.push {a : Addr} {o : Option (El q)} {g : Po q} (S : LAt K C H p dx t b l ts bs s) (h : SqT K H a (vns g)) : LAt K C (upd (upd H t (.lst (ts ++ [ov o]))) b (.lst (bs ++ [.ref a]))) p dx t b l (ts ++ [ov o]) (bs ++ [.ref a]) ⟨(o, g) :: s.st, s.last⟩ := by
  have B : But3 p t b H (upd (upd H t (.lst (ts ++ [ov o]))) b (.lst (bs ++ [.ref a]))) := But3.t.trans .b
  exact ⟨by rw [upd_ne S.npb, upd_ne S.npt]; exact S.ob, S.kp B _ _ S.la, by rw [upd_ne S.nb, upd_same], upd_same, ⟨ts, bs, a, rfl, rfl, S.kp B _ _ h, S.sk.kept (S.kp B)⟩, S.nb⟩
end
structure LC (K : PySem.W.Frag) (C : Addr) : Prop where
  cl : Cls K C
  nq : NoAttr K C "q"
  nt : NoAttr K C "turns"
  nb : NoAttr K C "bends"
  nl : NoAttr K C "last"
end
theorem last_concat (xs : List V) (y : V) : (xs ++ [y])[(xs ++ [y]).length - 1]? = some y := by simp
def spAdd (K : PySem.W.Frag) (C : Addr) : Sp := fun vs H Q _ => ∃ (q : Nat) (_ : IsF q) (p dx t b l u : Addr) (ts bs : List V) (o : Option (El q)) (g f : Po q) (r : List (Option (El q) × Po q)) (m : Mat q),
  vs = [.ref p, .ref u] ∧ LAt K C H p dx t b l ts bs ⟨(o, g) :: r, m⟩ ∧ SqT K H u (vns f) ∧ g.length ≤ 100 ∧ f.length ≤ 100 ∧ ts.length ≤ 1000 ∧
    ∀ (l' : Addr) (ts' bs' : List V) (H' : Hp), LAt K C H' p dx t b l' ts' bs' (if pl g f = [] then ⟨r, tmap o m⟩ else ⟨(o, pl g f) :: r, m⟩) → But3 p t b H H' → Q .non H'
end BP
namespace BP
open PySem PySem.Spec PyProof.Rows L2 Fld
section
variable {q : Nat} [F : IsF q]
theorem dpAll_po {K : PySem.W.Frag} {H : Hp} : ∀ l : Po q, DpAll K H (vns l) (l.map fun (x : El q) => PyData.int (x.val : Nat))
  | [] => .nil
  | x :: r => .cons (.int _) (dpAll_po r)
theorem shaped_intsT (ns : List Int) : SeqAt.shaped (.tuple (ns.map PyData.int)) = true := by
  unfold SeqAt.shaped
  simp [PyData.canLay0, canLay_ints, PyData.depth, depth_ints]
theorem shaped_po (l : Po q) : SeqAt.shaped (.tuple (l.map fun (x : El q) => PyData.int (x.val : Nat))) = true := by
  have e : (l.map fun (x : El q) => PyData.int (x.val : Nat)) = (l.map fun (x : El q) => ((x.val : Nat) : Int)).map PyData.int := by
    rw [List.map_map]
    rfl
  rw [e]
  exact shaped_intsT _
theorem eqv_po (l : Po q) : PyData.eqv (.tuple (l.map fun (x : El q) => PyData.int (x.val : Nat))) (.tuple []) = l.isEmpty := by
  cases l with
  | nil => simp [PyData.eqv, PyData.eqvAll]
  | cons n r => simp [PyData.eqv, PyData.eqvAll]
end
end BP
namespace K13
open PySem PySem.Spec PyProof.Rows L2 BP Fld
section
variable {P : Program} {w : World} {K : PySem.W.Frag} {mg : Str → Option Value} {base : Heap}
theorem ok_add {C f fP fT fB : Addr} {fd fdP fdT fdB : FuncData} {tk : Tok} (F : Fun K "add_to_last_bend" "LeastRow.add_to_last_bend" sLeastRowAddToLastBend f fd) (L : LC K C) (OP : BP.Can P w K mg base "one_plus" 3 pOnePlus (spPl K) fP fdP)
    (TH : BP.Can P w K mg base "straight_then" 3 pStraightThen (spThn K) fT fdT) (TB : BP.Can P w K mg base "turn_by" 1 pTurnBy spTurn fB fdB) (gNT : mg "NO_TURN" = some (.int (-1) tk)) : FnOk P w K mg base CX0 4 f fd pLeastRowAddToLastBend (spAdd K C) := by
  refine F.ok scLeastRowAddToLastBend (fun vs H Q E h => ?_) (fun cdv A outer s H vs Q E hr h => ?_)
  · obtain ⟨q, _, p, dx, t, b, l, u, ts, bs, o, g, f, r, m, rfl, _⟩ := h
    rfl
  · obtain ⟨q, FF, p, dx, t, b, l, u, ts, bs, o, g, f, r, m, rfl, S, hf, lg, lf, lts, want⟩ := h
    have hr1 := hr.mono (show 1 ≤ 3 by decide)
    obtain ⟨ts0, bs0, a, e1, e2, hg, sk⟩ := id S.sk
    subst e1
    subst e2
    have ed : (bs0 ++ [V.ref a]).dropLast = bs0 := List.dropLast_concat
    have et : (ts0 ++ [ov o]).dropLast = ts0 := List.dropLast_concat
    refine ⟨_, (pss_cons (ps_set (i := 2) scLeastRowAddToLastBend.nd rfl (.inl rfl) (pe_call OP.ok hr (by rfl) OP.g OP.kp OP.b .nil pass0 (pa_cons (pe_fld (pv 0) rfl) (pa_cons (pe_bm0 PySem.F.plainAttrs_list PySem.F.slot_list_pop PySem.F.type_list_pop mt_pop (pe_fld (pv 0) rfl)) (pa_cons (pv 1) pa_nil)))))
      (pss_cons (ps_if (pt_cmpR (op_neD hr.units) (pv 2) (pe_tup pa_nil) (nomark _)) (pss_cons (ps_expr (pe_bm PySem.F.plainAttrs_list PySem.F.slot_list_append PySem.F.type_list_append mt_append (pe_fld (pv 0) rfl) (pa_cons (pv 2) pa_nil)))
        (pss_one ps_retN)) pss_nil)
      (pss_cons (ps_set (i := 3) scLeastRowAddToLastBend.nd rfl (.inl rfl) (pe_bm0 PySem.F.plainAttrs_list PySem.F.slot_list_pop PySem.F.type_list_pop mt_pop (pe_fld (pv 0) rfl)))
      (pss_one (ps_if (pt_cmpR op_ne (pv 3) (pe_glob (v := .int (-1)) rfl gNT ⟨_, rfl⟩) (nomark _)) (pss_one (ps_fld (pv 0) (pe_call TH.ok hr (by rfl) TH.g TH.kp TH.b .nil pass0 (pa_cons (pe_fld (pv 0) rfl) (pa_cons (pe_call TB.ok hr1 (by rfl) TB.g TB.kp TB.b .nil pass0 (pa_cons (pv 3) pa_nil)) (pa_cons (pe_fld (pv 0) rfl) pa_nil)))) rfl)) pss_nil))))), ?_⟩
    refine ⟨.ref p, rfl, p, C, dx, _, _, rfl, S.ob, L.cl, L.nq, fl_q, .ref p, rfl, p, C, dx, _, _, rfl, S.ob, L.cl, L.nb, fl_b, .inl ⟨rfl, _, .inl (.inl S.lb)⟩, b, _, _, rfl, rfl, S.lb, last_concat _ _, .ref u, rfl, ?_⟩
    rw [ed]
    have B1 : But3 p t b H (upd H b (.lst bs0)) := .b
    have ob1 : (upd H b (.lst bs0)) p = some (.ins C dx (flds q t b l)) := by rw [upd_ne S.npb]; exact S.ob
    have lt1 : (upd H b (.lst bs0)) t = some (.lst (ts0 ++ [ov o])) := by rw [upd_ne S.nb]; exact S.lt
    have S1 : LAt K C (upd H b (.lst bs0)) p dx t b l (ts0 ++ [ov o]) bs0 (⟨[], m⟩ : Sta q) → True := fun _ => trivial
    refine ⟨q, FF, a, u, g, f, rfl, S.kp B1 _ _ hg, S.kp B1 _ _ hf, lg, lf, fun d H2 s2 nd hd => ?_⟩
    have B2 : But3 p t b H H2 := B1.trans (.of s2)
    have ob2 := s2 _ _ ob1
    have lt2 := s2 _ _ lt1
    have lb2 := s2 _ _ (upd_same (H := H) (a := b) (o := HO.lst bs0))
    have la2 := S.kp B2 _ _ S.la
    have sk2 := sk.kept (S.kp B2)
    refine ⟨.ref d, rfl, (by show 0 ≤ sizeLine; decide), fun z nz => ?_⟩
    have s3 := same_new (o := .tup ([] : List V)) nz
    have hd3 : SqT K _ d _ := .inl (.inl (s3 _ _ hd))
    refine ⟨.tuple ((pl g f).map fun (x : El q) => PyData.int (x.val : Nat)), .tuple [], .tup hd3 (dpAll_po _), .tup (.inl (.inl upd_same)) .nil, shaped_po _, rfl, _, rfl, ?_⟩
    rw [eqv_po]
    have B3 := B2.trans (.of s3)
    refine ite2 (fun h0 => ?_) (fun h0 => ?_)
    · -- something is left
      have ne : pl g f ≠ [] := fun z => by
        rw [z] at h0
        exact absurd h0 (fun z => by cases z)
      refine ⟨.ref p, rfl, p, C, dx, _, _, rfl, s3 _ _ ob2, L.cl, L.nb, fl_b, .inl ⟨rfl, _, .inl (.inl (s3 _ _ lb2))⟩, .ref d, rfl, b, _, _, rfl, rfl, s3 _ _ lb2, ?_, ?_⟩
      · have := S.sk.len
        rw [List.length_append] at lts
        have h2 := sk.len
        exact small1000 (by rw [h2.2, ← h2.1]; omega)
      · refine want l (ts0 ++ [ov o]) (bs0 ++ [.ref d]) _ ?_ (B3.trans .b)
        rw [if_neg ne]
        have KP : ∀ a xs, SqT K _ a xs → SqT K _ a xs := (But3.b (p := p) (t := t) (b := b) (x := HO.lst (bs0 ++ [.ref d]))).sqT (s3 _ _ ob2) (s3 _ _ lt2) (s3 _ _ lb2)
        exact ⟨by rw [upd_ne S.npb]; exact s3 _ _ ob2, KP _ _ (BP.Same.tupS s3 la2), by rw [upd_ne S.nb]; exact s3 _ _ lt2, upd_same, ⟨ts0, bs0, d, rfl, rfl, KP _ _ hd3, (sk2.kept fun _ _ => BP.Same.tupS s3).kept KP⟩, S.nb⟩
    · -- nothing is left: the turn ahead of it goes, too
      have e0 : pl g f = [] := Classical.byContradiction fun z => h0 (by
        cases e : pl g f with
        | nil => exact absurd e z
        | cons x r => rfl)
      have lt3 := s3 _ _ lt2
      refine ⟨.ref p, rfl, p, C, dx, _, _, rfl, s3 _ _ ob2, L.cl, L.nt, fl_t, .inl ⟨rfl, _, .inl (.inl lt3)⟩, t, _, _, rfl, rfl, lt3, last_concat _ _, ?_⟩
      rw [et]
      have KP : ∀ a xs, SqT K _ a xs → SqT K _ a xs := (But3.t (p := p) (t := t) (b := b) (x := HO.lst ts0)).sqT (s3 _ _ ob2) (s3 _ _ lt2) (s3 _ _ lb2)
      have S4 : LAt K C _ p dx t b l ts0 bs0 (⟨r, m⟩ : Sta q) := ⟨by rw [upd_ne S.npt]; exact s3 _ _ ob2, KP _ _ (BP.Same.tupS s3 la2), upd_same, by rw [upd_ne S.nb.symm]; exact s3 _ _ lb2, (sk2.kept fun _ _ => BP.Same.tupS s3).kept KP, S.nb⟩
      have B4 := B3.trans (But3.t (x := HO.lst ts0))
      rw [if_pos e0] at want
      refine ⟨ov o, rfl, ?_⟩
      cases o with
      | none =>
        refine ⟨rfl, _, rfl, ite2 (fun z => absurd z (by rw [decide_eq_true (p := ov (none : Option (El q)) = V.int (-1)) rfl]; decide)) (fun _ => ?_)⟩
        exact want l ts0 bs0 _ S4 B4
      | some c =>
        refine ⟨rfl, _, rfl, ite2 (fun _ => ?_) (fun z => absurd (show (!decide (V.int (c.val : Nat) = V.int (-1))) = true from by
          rw [decide_eq_false (fun e => by have := V.int.inj e; omega)]
          rfl) z)⟩
        refine ⟨.ref p, rfl, p, C, dx, _, _, rfl, S4.ob, L.cl, L.nq, fl_q, vn c, rfl, q, FF, c, rfl, fun tb H5 s5 ntb htb => ?_⟩
        have S5 := S4.same s5
        refine ⟨.ref p, rfl, p, C, dx, _, _, rfl, S5.ob, L.cl, L.nl, fl_l, q, FF, tb, l, turn c, m, rfl, .inl (.inl htb), S5.la, fun l' H6 s6 nl hl' => ?_⟩
        have S6 := S5.same s6
        refine ⟨.ref p, rfl, p, C, dx, _, rfl, S6.ob, L.cl, L.nl, (by show 4 < 1000; decide), ?_⟩
        rw [fl_put]
        exact want l' ts0 bs0 _ (S6.setl (.inl (.inl hl'))) (B4.trans ((But3.of s5).trans ((But3.of s6).trans .p)))
end
end K13
set_option Elab.async false
set_option linter.all false
set_option maxRecDepth 100000
set_option maxHeartbeats 4000000
set_option pp.maxSteps 400
namespace Fld
variable {q : Nat} [F : IsF q]
theorem pl_len (f g : Po q) {n : Nat} (hf : f.length ≤ n) (hg : g.length ≤ n) : (pl f g).length ≤ n := by
  refine Classical.byContradiction fun z => ?_
  obtain ⟨m, hm⟩ : ∃ m, (pl f g).length = m + 1 := ⟨(pl f g).length - 1, by omega⟩
  refine top_of_trim (pl_canon f g) hm ?_
  rw [co_pl, co_out (f := f) (by omega), co_out (f := g) (by omega)]
  grind
def B7 (st : List (Option (El q) × Po q)) : Prop := ∀ x ∈ st, x.2.length ≤ 7
def PcOk7 : Pc q → Prop
  | .mat m => det m ≠ 0
  | .bd f => IsB f ∧ f.length ≤ 7
theorem PcOk7.ok : ∀ {p : Pc q}, PcOk7 p → PcOk p
  | .mat _, h => h
  | .bd _, h => h.1
theorem put_b7 {s : Sta q} (hs : Okay s) {f : Po q} (hf : IsB f) (h7 : f.length ≤ 7) (hb : B7 s.st) : B7 (put s f).st ∧ (put s f).st.length ≤ s.st.length + 1 := by
  have la : (ahead (tm s.last).2 f).1.length ≤ 7 := by rw [ahead_len (tm_tri hs.2) hf]; exact h7
  by_cases h : (tm s.last).1 ≠ none ∨ s.st = []
  · rw [put_push h]
    refine ⟨fun x hx => ?_, Nat.le_refl _⟩
    rcases List.mem_cons.mp hx with e | e
    · rw [e]
      exact la
    · exact hb x e
  · have h1 : (tm s.last).1 = none := Classical.byContradiction fun z => h (.inl z)
    cases e : s.st with
    | nil => exact absurd (.inr e) h
    | cons p r =>
      obtain ⟨t, g⟩ := p
      rw [put_add h1 e]
      rw [e] at hb
      by_cases z : pl g (ahead (tm s.last).2 f).1 = []
      · rw [if_pos z]
        refine ⟨fun x hx => hb x (List.mem_cons_of_mem _ hx), ?_⟩
        show r.length ≤ r.length + 1 + 1
        omega
      · rw [if_neg z]
        refine ⟨fun x hx => ?_, ?_⟩
        · rcases List.mem_cons.mp hx with e | e
          · rw [e]
            exact pl_len _ _ (hb (t, g) (List.mem_cons_self ..)) la
          · exact hb x (List.mem_cons_of_mem _ e)
        · show r.length + 1 ≤ r.length + 1 + 1
          omega
theorem act_b7 {s : Sta q} (hs : Okay s) (hb : B7 s.st) : ∀ {p : Pc q}, PcOk7 p → B7 (act s p).st ∧ (act s p).st.length ≤ s.st.length + 1
  | .mat m, _ => ⟨hb, Nat.le_succ _⟩
  | .bd f, h => put_b7 hs h.1 h.2 hb
end Fld
namespace BP
open PySem PySem.Spec PyProof.Rows L2 Fld
section
variable {q : Nat} [F : IsF q]
def PieceAt (K : PySem.W.Frag) (H : Hp) (c : Addr) : Pc q → Prop
  | .mat m => ∃ u, SqT K H c [.str "straight", .ref u] ∧ SqT K H u (mv m)
  | .bd f => ∃ u, SqT K H c [.str "bend", .ref u] ∧ SqT K H u (vns f)
theorem PieceAt.kept {K : PySem.W.Frag} {H H' : Hp} {c : Addr} (kp : ∀ a xs, SqT K H a xs → SqT K H' a xs) : ∀ {x : Pc q}, PieceAt K H c x → PieceAt K H' c x
  | .mat _, ⟨u, h1, h2⟩ => ⟨u, kp _ _ h1, kp _ _ h2⟩
  | .bd _, ⟨u, h1, h2⟩ => ⟨u, kp _ _ h1, kp _ _ h2⟩
def StepAt (K : PySem.W.Frag) (H : Hp) (c : Addr) (z : Sta q) : Prop := ∃ (start : V) (ts bs : List V) (t b l : Addr), SqT K H c [start, .ref b, .ref t, .ref l] ∧ SqT K H b bs ∧ SqT K H t ts ∧ SqT K H l (mv z.last) ∧
  ((z.st = [] ∧ start = .int (-1) ∧ ts = [] ∧ bs = []) ∨ (z.st ≠ [] ∧ Stk K H z.st (start :: ts) bs))
theorem StepAt.kept {K : PySem.W.Frag} {H H' : Hp} {c : Addr} {z : Sta q} (kp : ∀ a xs, SqT K H a xs → SqT K H' a xs) (h : StepAt K H c z) : StepAt K H' c z := by
  obtain ⟨start, ts, bs, t, b, l, h1, h2, h3, h4, h5⟩ := h
  exact ⟨start, ts, bs, t, b, l, kp _ _ h1, kp _ _ h2, kp _ _ h3, kp _ _ h4, h5.imp id fun x => ⟨x.1, x.2.kept kp⟩⟩
end
def spPutB (K : PySem.W.Frag) (C : Addr) : Sp := fun vs H Q _ => ∃ (q : Nat) (_ : IsF q) (p dx t b l u : Addr) (ts bs : List V) (z : Sta q) (f : Po q),
  vs = [.ref p, .ref u] ∧ LAt K C H p dx t b l ts bs z ∧ SqT K H u (vns f) ∧ Okay z ∧ B7 z.st ∧ z.st.length ≤ 900 ∧ IsB f ∧ f.length ≤ 7 ∧
    ∀ (l' : Addr) (ts' bs' : List V) (H' : Hp), LAt K C H' p dx t b l' ts' bs' (put z f) → But3 p t b H H' → Q .non H'
def spPutP (K : PySem.W.Frag) (C : Addr) : Sp := fun vs H Q _ => ∃ (q : Nat) (_ : IsF q) (p dx t b l c : Addr) (ts bs : List V) (z : Sta q) (x : Pc q),
  vs = [.ref p, .ref c] ∧ LAt K C H p dx t b l ts bs z ∧ PieceAt K H c x ∧ Okay z ∧ B7 z.st ∧ z.st.length ≤ 900 ∧ PcOk7 x ∧
    ∀ (l' : Addr) (ts' bs' : List V) (H' : Hp), LAt K C H' p dx t b l' ts' bs' (act z x) → But3 p t b H H' → Q .non H'
def spLInit (K : PySem.W.Frag) (C : Addr) : Sp := fun vs H Q _ => ∃ (q : Nat) (_ : IsF q) (p dx c : Addr) (z : Sta q), vs = [.ref p, .int q, .ref c] ∧ H p = some (.ins C dx []) ∧ StepAt K H c z ∧ z.st.length ≤ 900 ∧
  ∀ (t b l : Addr) (ts bs : List V) (H' : Hp), LAt K C H' p dx t b l ts bs z → (∀ a o, H a = some o → a ≠ p → H' a = some o) → H t = none → H b = none → Q .non H'
def spAs (K : PySem.W.Frag) (C : Addr) : Sp := fun vs H Q _ => ∃ (q : Nat) (_ : IsF q) (p dx t b l : Addr) (ts bs : List V) (z : Sta q), vs = [.ref p] ∧ LAt K C H p dx t b l ts bs z ∧
  ∀ (r : Addr) (H' : Hp), Same H H' → H r = none → StepAt K H' r z → Q (.ref r) H'
theorem cut_one (x : V) (xs : List V) : cutV (x :: xs) (some 1) none = xs := by
  have i1 : HT.sIx (x :: xs).length 0 (some 1) = 1 := by
    have e := HT.sIx_nat (x :: xs).length 0 1
    rw [show ((1 : Nat) : Int) = 1 from rfl] at e
    have : (x :: xs).length = xs.length + 1 := rfl
    omega
  unfold cutV
  rw [i1, HT.sIx_none]
  exact List.take_of_length_le (by simp)
end BP
namespace K13
open PySem PySem.Spec PyProof.Rows L2 BP Fld
section
variable {P : Program} {w : World} {K : PySem.W.Frag} {mg : Str → Option Value} {base : Heap}
theorem ok_put_bend {C f fT fB fA : Addr} {fd fdT fdB fdA : FuncData} {tk : Tok} (F : Fun K "put_bend" "LeastRow.put_bend" sLeastRowPutBend f fd) (L : LC K C) (TA : BP.Can P w K mg base "turn_and_map" 3 pTurnAndMap (spTm2 K) fT fdT)
    (BA : BP.Can P w K mg base "bend_ahead" 5 pBendAhead (spAhead K) fB fdB) (AD : BP.Mth P w K mg base C "add_to_last_bend" 4 pLeastRowAddToLastBend (spAdd K C) fA fdA) (gNT : mg "NO_TURN" = some (.int (-1) tk)) (m_len : mg "len" = none) :
    FnOk P w K mg base CX0 6 f fd pLeastRowPutBend (spPutB K C) := by
  refine F.ok scLeastRowPutBend (fun vs H Q E h => ?_) (fun cdv A outer s H vs Q E hr h => ?_)
  · obtain ⟨q, _, p, dx, t, b, l, u, ts, bs, z, f, rfl, _⟩ := h
    rfl
  · obtain ⟨q, FF, p, dx, t, b, l, u, ts, bs, z, f, rfl, S, hu, ok, b7, l9, hB, l7, want⟩ := h
    have hrT := hr.mono (show 3 ≤ 5 by decide)
    have hrA := hr.mono (show 4 ≤ 5 by decide)
    obtain ⟨oo, ho⟩ : ∃ oo, (tm z.last).1 = oo := ⟨_, rfl⟩
    have tri := tm_tri ok.2
    refine ⟨_, (pss_cons (ps_asg (pe_call TA.ok hrT (by rfl) TA.g TA.kp TA.b .nil pass0 (pa_cons (pe_fld (pv 0) rfl) (pa_cons (pe_fld (pv 0) rfl) pa_nil))) (pg_tup rfl (pgs_cons (pg_name (i := 2) scLeastRowPutBend.nd rfl (.inl rfl)) (pgs_cons (pg_name (i := 3) scLeastRowPutBend.nd rfl (.inl rfl)) pgs_nil))))
      (pss_cons (ps_asg (pe_call BA.ok hr (by rfl) BA.g BA.kp BA.b .nil pass0 (pa_cons (pe_fld (pv 0) rfl) (pa_cons (pv 3) (pa_cons (pv 1) pa_nil)))) (pg_tup rfl (pgs_cons (pg_name (i := 4) scLeastRowPutBend.nd rfl (.inl rfl)) (pgs_cons (pg_fld (pv 0)) pgs_nil))))
      (pss_one (ps_if (PW.pt (pw_and (pt_cmpR op_eq (pv 2) (pe_glob (v := .int (-1)) rfl gNT ⟨_, rfl⟩) (nomark _)) (pw_and1 (pt_cmpR op_gt (pe_callB call_len_seq (by rfl) m_len PySem.boot_len (pa_cons (pe_fld (pv 0) rfl) pa_nil)) pe_int (nomark _))))) (pss_one (ps_expr (pe_meth (pv 0) L.cl AD.m AD.ok hrA AD.b .nil pass0 (pa_cons (pv 4) pa_nil)))) (pss_cons (ps_expr (pe_bm PySem.F.plainAttrs_list PySem.F.slot_list_append PySem.F.type_list_append mt_append (pe_fld (pv 0) rfl) (pa_cons (pv 2) pa_nil)))
        (pss_one (ps_expr (pe_bm PySem.F.plainAttrs_list PySem.F.slot_list_append PySem.F.type_list_append mt_append (pe_fld (pv 0) rfl) (pa_cons (pv 4) pa_nil))))))))), ?_⟩
    refine ⟨.ref p, rfl, p, C, dx, _, _, rfl, S.ob, L.cl, L.nq, fl_q, .ref p, rfl, p, C, dx, _, _, rfl, S.ob, L.cl, L.nl, fl_l, q, FF, l, z.last, rfl, S.la, fun r c H1 s1 nr hr1 hc => ?_⟩
    rw [ho] at hr1
    refine ⟨r, _, rfl, .inl (.inl hr1), rfl, ov oo, [.ref c], rfl, .ref c, [], rfl, rfl, ?_⟩
    have S1 := S.same s1
    refine ⟨.ref p, rfl, p, C, dx, _, _, rfl, S1.ob, L.cl, L.nq, fl_q, .ref c, rfl, .ref u, rfl, q, FF, c, u, (tm z.last).2, f, rfl, hc, BP.Same.tupS s1 hu, tri, hB, l7, fun r2 m2 v2 H2 s2 nr2 hr2 hm2 hv2 => ?_⟩
    have S2 := S1.same s2
    refine ⟨r2, _, rfl, .inl (.inl hr2), rfl, .ref m2, [.ref v2], rfl, .ref v2, [], rfl, .ref p, rfl, p, C, dx, _, rfl, S2.ob, L.cl, L.nl, (by show 4 < 1000; decide), rfl, ?_⟩
    rw [fl_put]
    have S3 := S2.setl (m := (ahead (tm z.last).2 f).2) (.inl (.inl hv2))
    have hm3 : SqT K (upd H2 p (.ins C dx (flds q t b v2))) m2 (vns (ahead (tm z.last).2 f).1) := S2.kp .p _ _ (.inl (.inl hm2))
    have B3 : But3 p t b H (upd H2 p (.ins C dx (flds q t b v2))) := (But3.of (s1.trans s2)).trans .p
    have lts : ts.length < sizeLine := small1000 (by rw [S.sk.len.1]; omega)
    have lbs : bs.length < sizeLine := small1000 (by rw [S.sk.len.2]; omega)
    cases oo with
    | none =>
      refine ⟨.int (-1), rfl, rfl, _, rfl, ite2 (fun _ => ?_) (fun z => absurd (by exact decide_eq_true rfl) z)⟩
      refine ⟨.ref p, rfl, p, C, dx, _, _, rfl, S3.ob, L.cl, L.nb, fl_b, b, _, rfl, .inl (.inl (.inl S3.lb)), _, 0, rfl, rfl, _, rfl, ite2 (fun h0 => ?_) (fun h0 => ?_)⟩
      · have pos : 0 < bs.length := by
          have := of_decide_eq_true h0
          omega
        cases e : z.st with
        | nil =>
          have := S.sk.len.2
          rw [e] at this
          rw [this] at pos
          exact absurd pos (Nat.lt_irrefl 0)
        | cons x rr =>
          obtain ⟨o1, g1⟩ := x
          have l1 : g1.length ≤ 7 := b7 (o1, g1) (by rw [e]; exact List.mem_cons_self ..)
          have l2 : (ahead (tm z.last).2 f).1.length ≤ 7 := by rw [ahead_len tri hB]; exact l7
          rw [e] at S3
          refine ⟨.ref p, rfl, p, dx, _, rfl, S3.ob, fl_no (by decide +kernel) (by decide +kernel) (by decide +kernel) (by decide +kernel), .ref m2, rfl, q, FF, p, dx, t, b, v2, m2, ts, bs, o1, g1, _, rr, _, rfl, S3, hm3, by omega, by omega, by rw [S.sk.len.1]; omega, fun l' ts' bs' H' S' B' => ?_⟩
          refine want l' ts' bs' H' ?_ (B3.trans B')
          rw [put_add ho e]
          exact S'
      · have e : z.st = [] := by
          have := S.sk.len.2
          refine List.eq_nil_of_length_eq_zero ?_
          rw [← this]
          exact Nat.eq_zero_of_not_pos fun x => h0 (decide_eq_true (by omega))
        refine ⟨.ref p, rfl, p, C, dx, _, _, rfl, S3.ob, L.cl, L.nt, fl_t, .inl ⟨rfl, _, .inl (.inl S3.lt)⟩, _, rfl, t, _, _, rfl, rfl, S3.lt, lts, ?_⟩
        refine ⟨.ref p, rfl, p, C, dx, _, _, rfl, (by rw [upd_ne S.npt]; exact S3.ob), L.cl, L.nb, fl_b, .inl ⟨rfl, bs, .inl (.inl (by rw [upd_ne S.nb.symm]; exact S3.lb))⟩, .ref m2, rfl, b, bs, _, rfl, rfl, (by rw [upd_ne S.nb.symm]; exact S3.lb), lbs, ?_⟩
        refine want v2 (ts ++ [ov (none : Option (El q))]) (bs ++ [.ref m2]) _ ?_ (B3.trans (But3.t.trans .b))
        rw [put_push (.inr e), ho]
        exact S3.push hm3
    | some c =>
      refine ⟨vn c, rfl, rfl, _, rfl, ite2 (fun z => absurd (V.int.inj (of_decide_eq_true z)) (by omega)) (fun _ => iteF ?_)⟩
      refine ⟨.ref p, rfl, p, C, dx, _, _, rfl, S3.ob, L.cl, L.nt, fl_t, .inl ⟨rfl, _, .inl (.inl S3.lt)⟩, _, rfl, t, _, _, rfl, rfl, S3.lt, lts, ?_⟩
      refine ⟨.ref p, rfl, p, C, dx, _, _, rfl, (by rw [upd_ne S.npt]; exact S3.ob), L.cl, L.nb, fl_b, .inl ⟨rfl, bs, .inl (.inl (by rw [upd_ne S.nb.symm]; exact S3.lb))⟩, .ref m2, rfl, b, bs, _, rfl, rfl, (by rw [upd_ne S.nb.symm]; exact S3.lb), lbs, ?_⟩
      refine want v2 (ts ++ [ov (some c)]) (bs ++ [.ref m2]) _ ?_ (B3.trans (But3.t.trans .b))
      rw [put_push (.inl (by rw [ho]; exact fun z => by cases z)), ho]
      exact S3.push hm3
theorem ok_put_piece {C f fT fB : Addr} {fd fdT fdB : FuncData} (F : Fun K "put_piece" "LeastRow.put_piece" sLeastRowPutPiece f fd) (L : LC K C) (TH : BP.Can P w K mg base "straight_then" 3 pStraightThen (spThn K) fT fdT)
    (PB : BP.Mth P w K mg base C "put_bend" 6 pLeastRowPutBend (spPutB K C) fB fdB) : FnOk P w K mg base CX0 7 f fd pLeastRowPutPiece (spPutP K C) := by
  refine F.ok scLeastRowPutPiece (fun vs H Q E h => ?_) (fun cdv A outer s H vs Q E hr h => ?_)
  · obtain ⟨q, _, p, dx, t, b, l, c, ts, bs, z, x, rfl, _⟩ := h
    rfl
  · obtain ⟨q, FF, p, dx, t, b, l, c, ts, bs, z, x, rfl, S, hc, ok, b7, l9, hx, want⟩ := h
    have hrT := hr.mono (show 3 ≤ 6 by decide)
    refine ⟨_, (pss_cons (ps_asg (pv 1) (pg_tup rfl (pgs_cons (pg_name (i := 2) scLeastRowPutPiece.nd rfl (.inl rfl)) (pgs_cons (pg_name (i := 3) scLeastRowPutPiece.nd rfl (.inl rfl)) pgs_nil))))
      (pss_one (ps_if (pt_cmpR op_eq (pv 2) pe_str (nomark _)) (pss_one (ps_fld (pv 0) (pe_call TH.ok hrT (by rfl) TH.g TH.kp TH.b .nil pass0 (pa_cons (pe_fld (pv 0) rfl) (pa_cons (pe_fld (pv 0) rfl) (pa_cons (pv 3) pa_nil)))) rfl)) (pss_one (ps_expr (pe_meth (pv 0) L.cl PB.m PB.ok hr PB.b .nil pass0 (pa_cons (pv 3) pa_nil))))))), ?_⟩
    cases x with
    | mat m =>
      obtain ⟨u, h1, h2⟩ := hc
      refine ⟨.ref c, rfl, c, _, rfl, h1, rfl, _, [_], rfl, _, [], rfl, rfl, .str "straight", rfl, rfl, _, rfl, ite2 (fun _ => ?_) (fun z => absurd (by exact decide_eq_true rfl) z)⟩
      refine ⟨.ref p, rfl, p, C, dx, _, _, rfl, S.ob, L.cl, L.nq, fl_q, .ref p, rfl, p, C, dx, _, _, rfl, S.ob, L.cl, L.nl, fl_l, .ref u, rfl, q, FF, l, u, z.last, m, rfl, S.la, h2, fun l' H1 s1 nl hl => ?_⟩
      have S1 := S.same s1
      refine ⟨.ref p, rfl, p, C, dx, _, rfl, S1.ob, L.cl, L.nl, (by show 4 < 1000; decide), ?_⟩
      rw [fl_put]
      exact want l' ts bs _ (S1.setl (.inl (.inl hl))) ((But3.of s1).trans .p)
    | bd f =>
      obtain ⟨u, h1, h2⟩ := hc
      refine ⟨.ref c, rfl, c, _, rfl, h1, rfl, _, [_], rfl, _, [], rfl, rfl, .str "bend", rfl, rfl, _, rfl, ite2 (fun z => absurd (V.str.inj (of_decide_eq_true z)) (by decide +kernel)) (fun _ => ?_)⟩
      exact ⟨.ref p, rfl, p, dx, _, rfl, S.ob, fl_no (by decide +kernel) (by decide +kernel) (by decide +kernel) (by decide +kernel), .ref u, rfl, q, FF, p, dx, t, b, l, u, ts, bs, z, f, rfl, S, h2, ok, b7, l9, hx.1, hx.2, want⟩
theorem ok_linit {C f : Addr} {fd : FuncData} (F : Fun K "__init__" "LeastRow.__init__" sLeastRowInit f fd) (L : LC K C) (m_len : mg "len" = none) (m_list : mg "list" = none) : FnOk P w K mg base CX0 1 f fd pLeastRowInit (spLInit K C) := by
  refine F.ok scLeastRowInit (fun vs H Q E h => ?_) (fun cdv A outer s H vs Q E hr h => ?_)
  · obtain ⟨q, _, p, dx, c, z, rfl, _⟩ := h
    rfl
  · obtain ⟨q, FF, p, dx, c, z, rfl, hp, ⟨start, ts, bs, t, b, l, hc, hb, ht, hl, cs⟩, l9, want⟩ := h
    have lb : bs.length = z.st.length := by
      rcases cs with ⟨e, _, _, e2⟩ | ⟨_, k⟩
      · rw [e, e2]
        rfl
      · exact k.len.2
    have lt : ts.length ≤ 900 := by
      rcases cs with ⟨e, _, e1, _⟩ | ⟨_, k⟩
      · rw [e1]
        exact Nat.zero_le _
      · have := k.len.1
        rw [List.length_cons] at this
        omega
    refine ⟨_, (pss_cons (ps_asg (pv 2) (pg_tup rfl (pgs_cons (pg_name (i := 3) scLeastRowInit.nd rfl (.inl rfl)) (pgs_cons (pg_name (i := 4) scLeastRowInit.nd rfl (.inl rfl)) (pgs_cons (pg_name (i := 5) scLeastRowInit.nd rfl (.inl rfl)) (pgs_cons (pg_name (i := 6) scLeastRowInit.nd rfl (.inl rfl)) pgs_nil))))))
      (pss_cons (ps_fld (pv 0) (pv 1) rfl)
      (pss_cons (ps_fld (pv 0) (pe_ifExp (pt_cmpR op_gt (pe_callB call_len_seq (by rfl) m_len PySem.boot_len (pa_cons (pv 4) pa_nil)) pe_int (nomark _)) (pe_lst (pa_cons (pv 3) (StX.pa_star (pv 5) pa_nil))) (pe_lst pa_nil)) rfl)
      (pss_cons (ps_fld (pv 0) (pe_callTy call_list_of (by rfl) m_list (by decide +kernel) (pa_cons (pv 4) pa_nil)) rfl)
      (pss_one (ps_fld (pv 0) (pv 6) rfl)))))), ?_⟩
    refine ⟨.ref c, rfl, c, _, rfl, hc, rfl, _, [_, _, _], rfl, _, [_, _], rfl, _, [_], rfl, _, [], rfl, rfl, ?_⟩
    refine ⟨.int q, rfl, .ref p, rfl, p, C, dx, [], rfl, hp, L.cl, L.nq, (by show 0 < 1000; decide), ?_⟩
    have k1 : ∀ a o, H a = some o → a ≠ p → (upd H p (.ins C dx (putF "q" (.int q) []))) a = some o := fun a o e n => by rw [upd_ne n]; exact e
    have kq : ∀ {H' : Hp}, (∀ a o, H a = some o → a ≠ p → H' a = some o) → ∀ a xs, SqT K H a xs → SqT K H' a xs := by
      intro H' k a xs h
      rcases h with (h | ⟨o, h⟩) | h
      · exact .inl (.inl (k _ _ h (ne_of h hp (by intro z; cases z))))
      · exact .inl (.inr ⟨o, k _ _ h (ne_of h hp (by intro z; cases z))⟩)
      · exact .inr h
    refine ⟨.ref b, rfl, b, bs, rfl, .inr (kq k1 _ _ hb), _, 0, rfl, rfl, _, rfl, ite2 (fun h0 => ?_) (fun h0 => ?_)⟩
    · have pos : 0 < bs.length := by
        have := of_decide_eq_true h0
        omega
      have sk : Stk K H z.st (start :: ts) bs := by
        rcases cs with ⟨e, _, _, e2⟩ | ⟨_, k⟩
        · rw [e2] at pos
          exact absurd pos (by decide)
        · exact k
      refine ⟨start, rfl, .ref t, rfl, t, ts, rfl, .inl (kq k1 _ _ ht), (Nat.le_of_lt (small1000 (by show (ts ++ []).length + 1 ≤ 1000; rw [List.append_nil]; omega))), fun a na => ?_⟩
      rw [List.append_nil]
      refine ⟨.ref p, rfl, p, C, dx, _, rfl, (by rw [upd_ne (ne_of_none upd_same na)]; exact upd_same), L.cl, L.nt, (by show 1 < 1000; decide), ?_⟩
      have na0 : H a = none := by
        cases e : H a with
        | none => rfl
        | some o =>
          by_cases n : a = p
          · rw [n, upd_same] at na
            cases na
          · rw [k1 a o e n] at na
            cases na
      have npa : p ≠ a := ne_of_none hp na0
      have k2 : ∀ c o, H c = some o → c ≠ p → (upd (upd (upd H p (.ins C dx (putF "q" (.int q) []))) a (.lst (start :: ts))) p (.ins C dx (putF "turns" (.ref a) (putF "q" (.int q) [])))) c = some o := fun c o e n => by
        rw [upd_ne n, upd_ne (ne_of_none e na0), upd_ne n]
        exact e
      refine ⟨.ref b, rfl, b, bs, rfl, .inr (kq k2 _ _ hb), fun a2 na2 => ?_⟩
      have n2p : a2 ≠ p := fun z => by
        rw [z, upd_same] at na2
        cases na2
      have n2a : a2 ≠ a := fun z => by
        rw [z, upd_ne npa.symm, upd_same] at na2
        cases na2
      have na20 : H a2 = none := by
        cases e : H a2 with
        | none => rfl
        | some o =>
          rw [k2 a2 o e n2p] at na2
          cases na2
      refine ⟨.ref p, rfl, p, C, dx, _, rfl, (by rw [upd_ne n2p.symm]; exact upd_same), L.cl, L.nb, (by show 2 < 1000; decide), ?_⟩
      refine ⟨.ref l, rfl, .ref p, rfl, p, C, dx, _, rfl, upd_same, L.cl, L.nl, (by show 3 < 1000; decide), ?_⟩
      rw [fl_mk]
      refine want a a2 l (start :: ts) bs _ ?_ ?_ na0 na20
      · have kE : ∀ c o, H c = some o → c ≠ p → (upd (upd (upd (upd (upd (upd H p (.ins C dx (putF "q" (.int q) []))) a (.lst (start :: ts))) p (.ins C dx (putF "turns" (.ref a) (putF "q" (.int q) [])))) a2 (.lst bs)) p (.ins C dx (putF "bends" (.ref a2) (putF "turns" (.ref a) (putF "q" (.int q) []))))) p (.ins C dx (flds q a a2 l))) c = some o := fun c o e n => by
          rw [upd_ne n, upd_ne n, upd_ne (ne_of_none e na20)]
          exact k2 c o e n
        exact ⟨upd_same, kq kE _ _ hl, by rw [upd_ne npa.symm, upd_ne npa.symm, upd_ne n2a.symm, upd_ne npa.symm, upd_same], by rw [upd_ne n2p, upd_ne n2p, upd_same], sk.kept (kq kE), n2a.symm⟩
      · intro c o e n
        rw [upd_ne n, upd_ne n, upd_ne (ne_of_none e na20)]
        exact k2 c o e n
    · have e0 : bs = [] := List.eq_nil_of_length_eq_zero (Nat.eq_zero_of_not_pos fun x => h0 (decide_eq_true (by omega)))
      have sk : Stk K H z.st [] bs := by
        rcases cs with ⟨e, _, _, e2⟩ | ⟨ne, k⟩
        · rw [e, e2]
          exact ⟨rfl, rfl⟩
        · have := k.len.2
          rw [e0] at this
          exact absurd (List.eq_nil_of_length_eq_zero this.symm) ne
      refine ⟨(by show 0 ≤ sizeLine; decide), fun a na => ?_⟩
      refine ⟨.ref p, rfl, p, C, dx, _, rfl, (by rw [upd_ne (ne_of_none upd_same na)]; exact upd_same), L.cl, L.nt, (by show 1 < 1000; decide), ?_⟩
      have na0 : H a = none := by
        cases e : H a with
        | none => rfl
        | some o =>
          by_cases n : a = p
          · rw [n, upd_same] at na
            cases na
          · rw [k1 a o e n] at na
            cases na
      have npa : p ≠ a := ne_of_none hp na0
      have k2 : ∀ c o, H c = some o → c ≠ p → (upd (upd (upd H p (.ins C dx (putF "q" (.int q) []))) a (.lst ([]))) p (.ins C dx (putF "turns" (.ref a) (putF "q" (.int q) [])))) c = some o := fun c o e n => by
        rw [upd_ne n, upd_ne (ne_of_none e na0), upd_ne n]
        exact e
      refine ⟨.ref b, rfl, b, bs, rfl, .inr (kq k2 _ _ hb), fun a2 na2 => ?_⟩
      have n2p : a2 ≠ p := fun z => by
        rw [z, upd_same] at na2
        cases na2
      have n2a : a2 ≠ a := fun z => by
        rw [z, upd_ne npa.symm, upd_same] at na2
        cases na2
      have na20 : H a2 = none := by
        cases e : H a2 with
        | none => rfl
        | some o =>
          rw [k2 a2 o e n2p] at na2
          cases na2
      refine ⟨.ref p, rfl, p, C, dx, _, rfl, (by rw [upd_ne n2p.symm]; exact upd_same), L.cl, L.nb, (by show 2 < 1000; decide), ?_⟩
      refine ⟨.ref l, rfl, .ref p, rfl, p, C, dx, _, rfl, upd_same, L.cl, L.nl, (by show 3 < 1000; decide), ?_⟩
      rw [fl_mk]
      refine want a a2 l ([]) bs _ ?_ ?_ na0 na20
      · have kE : ∀ c o, H c = some o → c ≠ p → (upd (upd (upd (upd (upd (upd H p (.ins C dx (putF "q" (.int q) []))) a (.lst ([]))) p (.ins C dx (putF "turns" (.ref a) (putF "q" (.int q) [])))) a2 (.lst bs)) p (.ins C dx (putF "bends" (.ref a2) (putF "turns" (.ref a) (putF "q" (.int q) []))))) p (.ins C dx (flds q a a2 l))) c = some o := fun c o e n => by
          rw [upd_ne n, upd_ne n, upd_ne (ne_of_none e na20)]
          exact k2 c o e n
        exact ⟨upd_same, kq kE _ _ hl, by rw [upd_ne npa.symm, upd_ne npa.symm, upd_ne n2a.symm, upd_ne npa.symm, upd_same], by rw [upd_ne n2p, upd_ne n2p, upd_same], sk.kept (kq kE), n2a.symm⟩
      · intro c o e n
        rw [upd_ne n, upd_ne n, upd_ne (ne_of_none e na20)]
        exact k2 c o e n
theorem ok_as {C f : Addr} {fd : FuncData} {tk : Tok} (F : Fun K "as_step" "LeastRow.as_step" sLeastRowAsStep f fd) (L : LC K C) (gNT : mg "NO_TURN" = some (.int (-1) tk)) (m_len : mg "len" = none) (m_tuple : mg "tuple" = none) :
    FnOk P w K mg base CX0 1 f fd pLeastRowAsStep (spAs K C) := by
  refine F.ok scLeastRowAsStep (fun vs H Q E h => ?_) (fun cdv A outer s H vs Q E hr h => ?_)
  · obtain ⟨q, _, p, dx, t, b, l, ts, bs, z, rfl, _⟩ := h
    rfl
  · obtain ⟨q, FF, p, dx, t, b, l, ts, bs, z, rfl, S, want⟩ := h
    refine ⟨_, (pss_cons (ps_if (pt_cmpR op_eq (pe_callB call_len_seq (by rfl) m_len PySem.boot_len (pa_cons (pe_fld (pv 0) rfl) pa_nil)) pe_int (nomark _)) (pss_one (ps_ret (pe_tup (pa_cons (pe_glob (v := .int (-1)) rfl gNT ⟨_, rfl⟩) (pa_cons (pe_tup pa_nil) (pa_cons (pe_tup pa_nil) (pa_cons (pe_fld (pv 0) rfl) pa_nil))))))) pss_nil)
      (pss_one (ps_ret (pe_tup (pa_cons (pe_ix ix_list (pe_fld (pv 0) rfl) pe_int (fun _ _ => rfl)) (pa_cons (pe_tupleOf rfl m_tuple (pe_fld (pv 0) rfl)) (pa_cons (pe_tupleOf rfl m_tuple (pe_slice sl_list (pe_fld (pv 0) rfl) (po_some pe_int) po_none)) (pa_cons (pe_fld (pv 0) rfl) pa_nil)))))))), ?_⟩
    refine ⟨.ref p, rfl, p, C, dx, _, _, rfl, S.ob, L.cl, L.nb, fl_b, b, _, rfl, .inl (.inl (.inl S.lb)), rfl, _, rfl, ite2 (fun h0 => ?_) (fun h0 => ?_)⟩
    · have e0 : bs.length = 0 := by
        have := V.int.inj (of_decide_eq_true h0)
        omega
      have e1 : z.st = [] := List.eq_nil_of_length_eq_zero (by rw [← S.sk.len.2]; exact e0)
      refine ⟨(by show 0 ≤ sizeLine; decide), fun a na => ?_⟩
      have s1 := same_new (o := .tup ([] : List V)) na
      refine ⟨(by show 0 ≤ sizeLine; decide), fun c nc => ?_⟩
      have s2 := same_new (o := .tup ([] : List V)) nc
      have S2 := (S.same s1).same s2
      refine ⟨.ref p, rfl, p, C, dx, _, _, rfl, S2.ob, L.cl, L.nl, fl_l, (by show 4 ≤ sizeLine; decide), fun r nr => ?_⟩
      have s3 := same_new (o := .tup [V.int (-1), .ref a, .ref c, .ref l]) nr
      refine want r _ ((s1.trans s2).trans s3) (none_of (s1.trans s2) nr) ?_
      exact ⟨.int (-1), [], [], c, a, l, .inl (.inl upd_same), .inl (.inl (s3 _ _ (s2 _ _ upd_same))), .inl (.inl (s3 _ _ upd_same)), BP.Same.tupS s3 S2.la, .inl ⟨e1, rfl, rfl, rfl⟩⟩
    · have ne : z.st ≠ [] := fun e => h0 (decide_eq_true (by
        have := S.sk.len.2
        rw [e] at this
        rw [show bs = [] from List.eq_nil_of_length_eq_zero this]
        rfl))
      obtain ⟨y, tt, et⟩ : ∃ y tt, ts = y :: tt := by
        cases e : ts with
        | nil =>
          have := S.sk.len.1
          rw [e] at this
          exact absurd (List.eq_nil_of_length_eq_zero this.symm) ne
        | cons y tt => exact ⟨y, tt, rfl⟩
      subst et
      refine ⟨.ref p, rfl, p, C, dx, _, _, rfl, S.ob, L.cl, L.nt, fl_t, t, _, 0, _, rfl, rfl, .inl (.inl S.lt), atI_nat (j := 0) rfl, ?_⟩
      refine ⟨.ref p, rfl, p, C, dx, _, _, rfl, S.ob, L.cl, L.nb, fl_b, .inl ⟨b, _, rfl, .inl (.inl S.lb), fun a na => ?_⟩⟩
      have s1 := same_new (o := .tup bs) na
      have S1 := S.same s1
      refine ⟨.ref p, rfl, p, C, dx, _, _, rfl, S1.ob, L.cl, L.nt, fl_t, 1, rfl, t, _, rfl, .inl (.inl S1.lt), fun v nv => ?_⟩
      rw [cut_one]
      have s2 := same_new (o := .lst tt) nv
      refine .inl ⟨v, _, rfl, .inl (.inl upd_same), fun c nc => ?_⟩
      have s3 := same_new (o := .tup tt) nc
      have S3 := (S1.same s2).same s3
      refine ⟨.ref p, rfl, p, C, dx, _, _, rfl, S3.ob, L.cl, L.nl, fl_l, (by show 4 ≤ sizeLine; decide), fun r nr => ?_⟩
      have s4 := same_new (o := .tup [y, .ref a, .ref c, .ref l]) nr
      have sA := s1.trans (s2.trans s3)
      refine want r _ (sA.trans s4) (none_of sA nr) ?_
      exact ⟨y, tt, bs, c, a, l, .inl (.inl upd_same), .inl (.inl (s4 _ _ (s3 _ _ (s2 _ _ upd_same)))), .inl (.inl (s4 _ _ upd_same)), BP.Same.tupS s4 S3.la, .inr ⟨ne, S3.sk.kept fun _ _ => BP.Same.tupS s4⟩⟩
end
end K13
set_option Elab.async false
set_option linter.all false
set_option maxRecDepth 100000
set_option maxHeartbeats 4000000
set_option pp.maxSteps 400
namespace BP
open PySem PySem.Spec PyProof.Rows L2
/-- over a list or a tuple -/
def iSeqA (K : PySem.W.Frag) (tl : TE) : TI := fun σ H R => tl σ H fun x H1 => ∃ a, x = .ref a ∧ (((∃ xs, SqL K H1 a xs) ∧ R (Itl K a) H1) ∨ ((∃ xs, SqT K H1 a xs) ∧ R (Itt K a) H1))
theorem pi_seqA {X : Cx} {tg l : Expr} {tl : TE} (hl : PE X l tl) : PI X tg l (iSeqA X.K tl) := ⟨fun pins s σ H R I h => thn (hl.run pins s σ H _ I h) fun v s1 ⟨x, H1, J, r1, a, ea, alt⟩ => by
  subst ea
  cases r1
  have fresh : ∀ b ∈ [s1.heap.objs.size], FpOk X pins H1 b := fun b hb => by
    obtain rfl : b = s1.heap.objs.size := List.mem_singleton.mp hb
    exact J.fpOk (Nat.le_refl _) (J.hok.fresh (Nat.le_refl _))
  rcases alt with ⟨⟨ys, hy⟩, k⟩ | ⟨⟨ys, hy⟩, k⟩
  · obtain ⟨vals, _, isl, _⟩ := J.list hy
    exact wpAny_pyIter_list isl.isList ⟨_, _, _, _, H1, rfl, J.kept (t' := s1.toks) (fun _ _ w => Heap.get?_push_of_some _ w), turn_list a _, ⟨_, Heap.get?_push_size _ rfl, rfl, rfl⟩, fresh, k⟩
  · obtain ⟨vals, _, ist, _⟩ := J.tuple hy
    exact wpAny_pyIter_tuple (show s1.heap.IsTuple a vals.toArray from ist) ⟨_, _, _, _, H1, rfl, J.kept (t' := s1.toks) (fun _ _ w => Heap.get?_push_of_some _ w), turn_tuple a _, ⟨_, Heap.get?_push_size _ rfl, rfl, rfl⟩, fresh, k⟩⟩
end BP
namespace Fld
variable {q : Nat} [F : IsF q]
theorem run_b7 : ∀ (l : List (Pc q)) {s : Sta q}, Okay s → B7 s.st → (∀ p ∈ l, PcOk7 p) → Okay (run s l) ∧ B7 (run s l).st ∧ (run s l).st.length ≤ s.st.length + l.length
  | [], s, h1, h2, _ => ⟨h1, h2, Nat.le_refl _⟩
  | p :: l, s, h1, h2, h3 => by
    have hp := h3 p (List.mem_cons_self ..)
    have a := act_b7 h1 h2 hp
    obtain ⟨x, y, z⟩ := run_b7 l (act_ok h1 hp.ok) a.1 fun r hr => h3 r (List.mem_cons_of_mem _ hr)
    refine ⟨x, y, Nat.le_trans z ?_⟩
    have := a.2
    rw [List.length_cons]
    omega
theorem run_take {z : Sta q} {ps : List (Pc q)} {i : Nat} {x : Pc q} (h : ps[i]? = some x) : run z (ps.take (i + 1)) = act (run z (ps.take i)) x := by
  rw [List.take_add_one, h, run_app]
  rfl
/-- a piece that undoes a piece, as the program reckons it -/
def und : Pc q → Pc q
  | .mat m => .mat (mund m)
  | .bd f => .bd (sc f (-1))
end Fld
namespace BP
open PySem PySem.Spec PyProof.Rows L2 Fld
section
variable {K : PySem.W.Frag} {a b : Addr} {xs ys : List V}
theorem walk_revT : Walk (RT.ItvT K a xs.length) xs.length (fun H => SqT K H a xs) (fun i H x H' => H' = H ∧ xs[xs.length - 1 - i]? = some x) :=
  ⟨fun i H hi q => ⟨hi, xs, xs[xs.length - 1 - i]'(by omega), q, List.getElem?_eq_getElem _⟩, fun H q => Nat.le_refl _, fun i H x H' hi q y => ⟨y.1, y.2 xs q⟩⟩
theorem walk_zipTm (hn : ys.length ≤ xs.length) : Walk (RZ.ItzT K a b) ys.length (fun H => SqT K H a xs ∧ SqT K H b ys) (YPair (fun i => xs[i]?) (fun i => ys[i]?)) := by
  refine ⟨fun i H hi q => ⟨xs, ys, _, _, q.1, q.2, List.getElem?_eq_getElem (Nat.lt_of_lt_of_le hi hn), List.getElem?_eq_getElem hi⟩, fun H q => ⟨xs, ys, q.1, q.2, .inr (Nat.le_refl _)⟩, fun i H v H' hi q y => ?_⟩
  obtain ⟨T, x', y', e1, hT, e2, f1, f2⟩ := y
  exact ⟨T, x', y', e1, hT, e2, f1 xs q.1, f2 ys q.2⟩
end
theorem sqT_upd {K : PySem.W.Frag} {H : Hp} {r a : Addr} {zs xs : List V} {o : HO} (h : H r = some (.lst zs)) (k : SqT K H a xs) : SqT K (upd H r o) a xs := by
  rcases k with (k | ⟨u, k⟩) | k
  · exact .inl (.inl (by rw [upd_ne (ne_of k h (by intro z; cases z))]; exact k))
  · exact .inl (.inr ⟨u, by rw [upd_ne (ne_of k h (by intro z; cases z))]; exact k⟩)
  · exact .inr k
section
variable {q : Nat} [F : IsF q] {K : PySem.W.Frag}
def PsAt (K : PySem.W.Frag) (H : Hp) : List V → List (Pc q) → Prop
  | [], [] => True
  | x :: xs, p :: ps => (∃ c, x = .ref c ∧ PieceAt K H c p) ∧ PsAt K H xs ps
  | _, _ => False
theorem PsAt.kept {H H' : Hp} (kp : ∀ a xs, SqT K H a xs → SqT K H' a xs) : ∀ {xs : List V} {ps : List (Pc q)}, PsAt K H xs ps → PsAt K H' xs ps
  | [], [], _ => trivial
  | _ :: _, _ :: _, ⟨⟨c, e, h⟩, k⟩ => ⟨⟨c, e, h.kept kp⟩, PsAt.kept kp k⟩
  | [], _ :: _, h => h.elim
  | _ :: _, [], h => h.elim
theorem PsAt.len {H : Hp} : ∀ {xs : List V} {ps : List (Pc q)}, PsAt K H xs ps → xs.length = ps.length
  | [], [], _ => rfl
  | _ :: _, _ :: _, ⟨_, k⟩ => by rw [List.length_cons, List.length_cons, PsAt.len k]
  | [], _ :: _, h => h.elim
  | _ :: _, [], h => h.elim
theorem PsAt.get {H : Hp} : ∀ {xs : List V} {ps : List (Pc q)} {i : Nat} {x : V}, PsAt K H xs ps → xs[i]? = some x → ∃ c p, x = .ref c ∧ ps[i]? = some p ∧ PieceAt K H c p
  | [], [], _, _, _, e => by cases e
  | x :: xs, p :: ps, 0, y, ⟨⟨c, e, h⟩, _⟩, g => by
    cases g
    exact ⟨c, p, e, rfl, h⟩
  | x :: xs, p :: ps, i + 1, y, ⟨_, k⟩, g => PsAt.get (i := i) k g
  | [], _ :: _, _, _, h, _ => h.elim
  | _ :: _, [], _, _, h, _ => h.elim
theorem PsAt.add {H : Hp} {c : Addr} {p : Pc q} (hp : PieceAt K H c p) : ∀ {xs : List V} {ps : List (Pc q)}, PsAt K H xs ps → PsAt K H (xs ++ [.ref c]) (ps ++ [p])
  | [], [], _ => ⟨⟨c, rfl, hp⟩, trivial⟩
  | _ :: _, _ :: _, ⟨h, k⟩ => ⟨h, PsAt.add hp k⟩
  | [], _ :: _, h => h.elim
  | _ :: _, [], h => h.elim
def RowAt (K : PySem.W.Frag) (H : Hp) (a : Addr) (ps : List (Pc q)) : Prop := ∃ xs, SqT K H a xs ∧ PsAt K H xs ps
theorem RowAt.kept {H H' : Hp} {a : Addr} {ps : List (Pc q)} (kp : ∀ a xs, SqT K H a xs → SqT K H' a xs) (h : RowAt K H a ps) : RowAt K H' a ps := by
  obtain ⟨xs, h1, h2⟩ := h
  exact ⟨xs, kp _ _ h1, h2.kept kp⟩
theorem Stk.at {H : Hp} : ∀ {st : List (Option (El q) × Po q)} {ts bs : List V}, Stk K H st ts bs → ∀ {i : Nat}, i < st.length →
    ∃ o g a, st.drop (st.length - (i + 1)) = (o, g) :: st.drop (st.length - i) ∧ ts[i]? = some (ov o) ∧ bs[i]? = some (.ref a) ∧ SqT K H a (vns g)
  | [], _, _, _, i, hi => absurd hi (Nat.not_lt_zero i)
  | (o, g) :: r, _, _, ⟨ts', bs', a, e1, e2, hg, k⟩, i, hi => by
    subst e1
    subst e2
    obtain ⟨l1, l2⟩ := k.len
    rw [List.length_cons] at hi ⊢
    by_cases h : i = r.length
    · subst h
      refine ⟨o, g, a, ?_, ?_, ?_, hg⟩
      · rw [Nat.sub_self, show r.length + 1 - r.length = 1 by omega]
        rfl
      · rw [List.getElem?_append_right (by omega), l1, Nat.sub_self]
        rfl
      · rw [List.getElem?_append_right (by omega), l2, Nat.sub_self]
        rfl
    · obtain ⟨o', g', a', h1, h2, h3, h4⟩ := Stk.at k (i := i) (by omega)
      refine ⟨o', g', a', ?_, ?_, ?_, h4⟩
      · rw [show r.length + 1 - (i + 1) = (r.length - (i + 1)) + 1 by omega, show r.length + 1 - i = (r.length - i) + 1 by omega]
        exact h1
      · rw [List.getElem?_append_left (by omega)]
        exact h2
      · rw [List.getElem?_append_left (by omega)]
        exact h3
end
/-- a row of pieces, a list or a tuple -/
def RowE {q : Nat} [IsF q] (K : PySem.W.Frag) (H : Hp) (a : Addr) (ps : List (Pc q)) : Prop := ∃ xs, (SqL K H a xs ∨ SqT K H a xs) ∧ PsAt K H xs ps
theorem RowAt.e {q : Nat} [IsF q] {K : PySem.W.Frag} {H : Hp} {a : Addr} {ps : List (Pc q)} (h : RowAt K H a ps) : RowE K H a ps := by
  obtain ⟨xs, h1, h2⟩ := h
  exact ⟨xs, .inr h1, h2⟩
def spSR (K : PySem.W.Frag) : Sp := fun vs H Q _ => ∃ (q : Nat) (_ : IsF q) (c a : Addr) (z : Sta q) (ps : List (Pc q)), vs = [.int q, .ref c, .ref a] ∧ StepAt K H c z ∧ RowE K H a ps ∧ Okay z ∧ B7 z.st ∧ (∀ x ∈ ps, PcOk7 x) ∧ z.st.length + ps.length ≤ 900 ∧
  ∀ (r : Addr) (H' : Hp), Same H H' → H r = none → StepAt K H' r (run z ps) → Q (.ref r) H'
def spSBR (K : PySem.W.Frag) : Sp := fun vs H Q _ => ∃ (q : Nat) (_ : IsF q) (a : Addr) (ps : List (Pc q)), vs = [.int q, .ref a] ∧ RowAt K H a ps ∧ (∀ x ∈ ps, PcOk7 x) ∧ ps.length ≤ 900 ∧
  ∀ (r : Addr) (H' : Hp), Same H H' → H r = none → StepAt K H' r (run empty ps) → Q (.ref r) H'
def spRow (K : PySem.W.Frag) : Sp := fun vs H Q _ => ∃ (q : Nat) (_ : IsF q) (c : Addr) (z : Sta q), vs = [.ref c] ∧ StepAt K H c z ∧ z.st.length ≤ 900 ∧
  ∀ (r : Addr) (H' : Hp), Same H H' → H r = none → RowAt K H' r (rowOf z) → Q (.ref r) H'
def spPU (K : PySem.W.Frag) : Sp := fun vs H Q _ => ∃ (q : Nat) (_ : IsF q) (c : Addr) (x : Pc q), vs = [.int q, .ref c] ∧ PieceAt K H c x ∧ PcOk7 x ∧
  ∀ (r : Addr) (H' : Hp), Same H H' → H r = none → PieceAt K H' r (und x) → Q (.ref r) H'
def spRU (K : PySem.W.Frag) : Sp := fun vs H Q _ => ∃ (q : Nat) (_ : IsF q) (a : Addr) (ps : List (Pc q)), vs = [.int q, .ref a] ∧ RowAt K H a ps ∧ (∀ x ∈ ps, PcOk7 x) ∧ ps.length ≤ 900 ∧
  ∀ (r : Addr) (H' : Hp), Same H H' → H r = none → RowAt K H' r ((ps.map und).reverse) → Q (.ref r) H'
end BP
namespace BP
open PySem PySem.Spec PyProof.Rows L2 Fld
/-- the step nothing, as the top has written it -/
def nothIs (K : PySem.W.Frag) (p : Addr) : Bool := match K.lookup p with
  | some ⟨.type "tuple", none, .seq its _, _⟩ => decide (its.size ≤ sizeLine) && (match its.toList with
    | [.int i _, b, t, l] => decide (i = -1) && rowIs K b [] && rowIs K t [] && rowIs K l [1, 0, 0, 0, 1, 0]
    | _ => false)
  | _ => false
theorem noth_at {K : PySem.W.Frag} {p : Addr} (h : nothIs K p = true) : ∀ (H : Hp) (q : Nat) [IsF q], StepAt K H p (empty : Sta q) := by
  unfold nothIs at h
  split at h
  · rename_i its n sl e
    rw [Bool.and_eq_true, decide_eq_true_eq] at h
    obtain ⟨hz, h⟩ := h
    split at h
    · rename_i i tk b t l ei
      simp only [Bool.and_eq_true, decide_eq_true_eq] at h
      obtain ⟨⟨⟨e1, h2⟩, h3⟩, h4⟩ := h
      obtain ⟨pb, rfl, hb, _⟩ := row_is h2
      obtain ⟨pt, rfl, ht, _⟩ := row_is h3
      obtain ⟨pl, rfl, hl, _⟩ := row_is h4
      subst e1
      intro H q FF
      refine ⟨.int (-1), [], [], pt, pb, pl, .inr ⟨_, its, n, e, rfl, rfl, hz, ?_⟩, hb H, ht H, ?_, .inl ⟨rfl, rfl, rfl, rfl⟩⟩
      · rw [ei]
        exact .cons ⟨tk, rfl⟩ (.cons rfl (.cons rfl (.cons rfl .nil)))
      · have e : mv (Fld.same : Mat q) = [.int 1, .int 0, .int 0, .int 0, .int 1, .int 0] := by
          unfold mv Fld.same
          simp only []
          rw [vn_one, vn_zero]
        show SqT K _ pl (mv (Fld.same : Mat q))
        rw [e]
        exact hl H
    · cases h
  · cases h
end BP
namespace K13
open PySem PySem.Spec PyProof.Rows L2 BP Fld
section
variable {P : Program} {w : World} {K : PySem.W.Frag} {mg : Str → Option Value} {base : Heap}
theorem ok_sr {C f fI fP fA : Addr} {fd fdI fdP fdA : FuncData} (F : Fun K "step_and_row" "step_and_row" sStepAndRow f fd) (L : LC K C) (MK : Mk K C fI) (gC : mg "LeastRow" = some (.ref C)) (IN : BP.Mth P w K mg base C "__init__" 1 pLeastRowInit (spLInit K C) fI fdI)
    (PP : BP.Mth P w K mg base C "put_piece" 7 pLeastRowPutPiece (spPutP K C) fP fdP) (AS : BP.Mth P w K mg base C "as_step" 1 pLeastRowAsStep (spAs K C) fA fdA) : FnOk P w K mg base CX0 8 f fd pStepAndRow (spSR K) := by
  refine F.ok scStepAndRow (fun vs H Q E h => ?_) (fun cdv A outer s H vs Q E hr h => ?_)
  · obtain ⟨q, _, c, a, z, ps, rfl, _⟩ := h
    rfl
  · obtain ⟨q, FF, c, a, z, ps, rfl, hc, ⟨xs, hx, hps⟩, ok, b7, p7, le, want⟩ := h
    have hr1 := hr.mono (show 1 ≤ 7 by decide)
    have hr2 := hr.mono (show 2 ≤ 7 by decide)
    refine ⟨_, (pss_cons (ps_set (i := 3) scStepAndRow.nd rfl (.inl rfl) (pe_make MK IN.ok hr2 rfl gC IN.b .nil pass0 (pa_cons (pv 0) (pa_cons (pv 1) pa_nil))))
      (pss_cons (ps_for PassesOwn.never rfl (pi_seqA (pv 2)) (pg_name (i := 4) scStepAndRow.nd rfl (.inl rfl)) (pss_one (ps_expr (pe_meth (pv 3) L.cl PP.m PP.ok hr PP.b .nil pass0 (pa_cons (pv 4) pa_nil)))))
      (pss_one (ps_ret (pe_meth0 (pv 3) L.cl AS.m AS.ok hr1 AS.b .nil pass0))))), ?_⟩
    refine ⟨.int q, rfl, .ref c, rfl, fun p dx np ndx nex => ?_⟩
    have s0 : Same H (upd (upd H dx (.own p)) p (.ins C dx [])) := fun b o e => by
      rw [upd_ne (ne_of_none e np), upd_ne (ne_of_none e ndx)]
      exact e
    refine ⟨q, FF, p, dx, c, z, rfl, upd_same, hc.kept fun _ _ => BP.Same.tupS s0, by omega, fun t b l ts bs H1 S kp nt nb => ⟨rfl, ?_⟩⟩
    have s1 : Same H H1 := fun b o e => kp b o (s0 b o e) (ne_of_none e np)
    have nt0 : H t = none := s0.free nt
    have nb0 : H b = none := s0.free nb
    rcases hx with hx | hx
    · have hx1 : SqL K H1 a xs := hx.elim (fun h => h.elim (fun e => .inl (.inl (s1 _ _ e))) fun ⟨o, e⟩ => .inl (.inr ⟨o, s1 _ _ e⟩)) .inr
      refine ⟨.ref a, rfl, a, rfl, .inl ⟨⟨_, hx1⟩, for_list (K := K) (D := { nx := _, rt := _ }) (a := a) (xs := xs) (fun i σ H2 => Same H H2 ∧ (∃ y, σ = [some (.int q), some (.ref c), some (.ref a), some (.ref p), y]) ∧ ∃ l' ts' bs', LAt K C H2 p dx t b l' ts' bs' (run z (ps.take i)))
      ⟨s1, ⟨_, rfl⟩, l, ts, bs, S⟩ (fun i σ H2 _ hW => hx.elim (fun h => h.elim (fun e => .inl (.inl (hW.1 _ _ e))) fun ⟨o, e⟩ => .inl (.inr ⟨o, hW.1 _ _ e⟩)) .inr) (fun i x σ H2 hi hW => ?_) (fun σ H2 hW => ?_)⟩⟩
      · obtain ⟨s2, ⟨y, rfl⟩, l', ts', bs', S2⟩ := hW
        obtain ⟨cc, x, rfl, hp, hpa⟩ := hps.get hi
        obtain ⟨r1, r2, r3⟩ := run_b7 (ps.take i) ok b7 fun x hx => p7 x (List.mem_of_mem_take hx)
        have lt : (ps.take i).length ≤ ps.length := by rw [List.length_take]; omega
        refine ⟨.ref p, rfl, p, dx, _, rfl, S2.ob, fl_no (by decide +kernel) (by decide +kernel) (by decide +kernel) (by decide +kernel), .ref cc, rfl, q, FF, p, dx, t, b, l', cc, ts', bs', run z (ps.take i), x, rfl, S2, hpa.kept fun _ _ => BP.Same.tupS s2, r1, r2, by omega, p7 x (List.mem_of_getElem? hp), fun l3 ts3 bs3 H3 S3 B3 => ?_⟩
        refine ⟨fun c o e => B3 c o (ne_of_none e np) (ne_of_none e nt0) (ne_of_none e nb0) (s2 c o e), ⟨_, rfl⟩, l3, ts3, bs3, ?_⟩
        rw [run_take hp]
        exact S3
      · obtain ⟨s2, ⟨y, rfl⟩, l', ts', bs', S2⟩ := hW
        rw [hps.len, List.take_length] at S2
        refine ⟨.ref p, rfl, p, dx, _, rfl, S2.ob, fl_no (by decide +kernel) (by decide +kernel) (by decide +kernel) (by decide +kernel), q, FF, p, dx, t, b, l', ts', bs', _, rfl, S2, fun r H3 s3 nr hs => want r H3 (s2.trans s3) (s2.free nr) hs⟩
    · refine ⟨.ref a, rfl, a, rfl, .inr ⟨⟨_, BP.Same.tupS s1 hx⟩, for_tup (K := K) (a := a) (xs := xs) (fun i σ H2 => Same H H2 ∧ (∃ y, σ = [some (.int q), some (.ref c), some (.ref a), some (.ref p), y]) ∧ ∃ l' ts' bs', LAt K C H2 p dx t b l' ts' bs' (run z (ps.take i)))
      ⟨s1, ⟨_, rfl⟩, l, ts, bs, S⟩ (fun i σ H2 _ hW => BP.Same.tupS hW.1 hx) (fun i x σ H2 hi hW => ?_) (fun σ H2 hW => ?_)⟩⟩
      · obtain ⟨s2, ⟨y, rfl⟩, l', ts', bs', S2⟩ := hW
        obtain ⟨cc, x, rfl, hp, hpa⟩ := hps.get hi
        obtain ⟨r1, r2, r3⟩ := run_b7 (ps.take i) ok b7 fun x hx => p7 x (List.mem_of_mem_take hx)
        have lt : (ps.take i).length ≤ ps.length := by rw [List.length_take]; omega
        refine ⟨.ref p, rfl, p, dx, _, rfl, S2.ob, fl_no (by decide +kernel) (by decide +kernel) (by decide +kernel) (by decide +kernel), .ref cc, rfl, q, FF, p, dx, t, b, l', cc, ts', bs', run z (ps.take i), x, rfl, S2, hpa.kept fun _ _ => BP.Same.tupS s2, r1, r2, by omega, p7 x (List.mem_of_getElem? hp), fun l3 ts3 bs3 H3 S3 B3 => ?_⟩
        refine ⟨fun c o e => B3 c o (ne_of_none e np) (ne_of_none e nt0) (ne_of_none e nb0) (s2 c o e), ⟨_, rfl⟩, l3, ts3, bs3, ?_⟩
        rw [run_take hp]
        exact S3
      · obtain ⟨s2, ⟨y, rfl⟩, l', ts', bs', S2⟩ := hW
        rw [hps.len, List.take_length] at S2
        refine ⟨.ref p, rfl, p, dx, _, rfl, S2.ob, fl_no (by decide +kernel) (by decide +kernel) (by decide +kernel) (by decide +kernel), q, FF, p, dx, t, b, l', ts', bs', _, rfl, S2, fun r H3 s3 nr hs => want r H3 (s2.trans s3) (s2.free nr) hs⟩
end
end K13
set_option Elab.async false
set_option linter.all false
set_option maxRecDepth 100000
set_option maxHeartbeats 4000000
set_option pp.maxSteps 400
namespace BP
open PySem PySem.Spec PyProof.Rows L2 Fld
/-- a statement that is never reached -/
theorem ps_dead {X : Cx} {st : Stmt} : PS X st (fun _ _ _ => False) := ⟨fun _ _ _ _ _ _ h => h.elim⟩
theorem sqT_ty {K : PySem.W.Frag} {H : Hp} {a : Addr} {xs : List V} (h : SqT K H a xs) : TyX K H (.ref a) (.type "tuple") := by
  rcases h with (h | ⟨o, h⟩) | ⟨o, its, n, h, c, _⟩
  · exact .base (.tup h)
  · exact .fTuple h
  · exact .kTuple h c
theorem all_rep (n : Nat) : (List.replicate n true).all id = true := by
  induction n with
  | zero => rfl
  | succ n ih => exact ih
theorem rep_add (n : Nat) : (List.replicate n true).map V.bl ++ [V.bl true] = (List.replicate (n + 1) true).map V.bl := by
  rw [List.replicate_succ']
  rw [List.map_append]
  rfl
def spI1 : Sp := fun vs H Q _ => ∃ i : Int, vs = [.int i] ∧ Q (.bl true) H
def spIsN : Sp := fun vs H Q _ => ∃ (q : Nat) (_ : IsF q) (a : El q), vs = [.int q, vn a] ∧ Q (.bl true) H
def spAreN (K : PySem.W.Frag) : Sp := fun vs H Q _ => ∃ (q : Nat) (_ : IsF q) (a : Addr) (f : Po q), vs = [.int q, .ref a] ∧ SqT K H a (vns f) ∧ f.length ≤ 900 ∧ ∀ H', Same H H' → Q (.bl true) H'
def spIsPo (K : PySem.W.Frag) : Sp := fun vs H Q _ => ∃ (q : Nat) (_ : IsF q) (a : Addr) (f : Po q), vs = [.int q, .ref a] ∧ SqT K H a (vns f) ∧ f.length ≤ 900 ∧ trim f = f ∧ f ≠ [] ∧ ∀ H', Same H H' → Q (.bl true) H'
def spIsSt (K : PySem.W.Frag) : Sp := fun vs H Q _ => ∃ (q : Nat) (_ : IsF q) (a : Addr) (m : Mat q), vs = [.int q, .ref a] ∧ SqT K H a (mv m) ∧ det m ≠ 0 ∧ ∀ H', Same H H' → Q (.bl true) H'
def spIsBd (K : PySem.W.Frag) : Sp := fun vs H Q _ => ∃ (q : Nat) (_ : IsF q) (a : Addr) (f : Po q), vs = [.int q, .ref a] ∧ SqT K H a (vns f) ∧ IsB f ∧ f.length ≤ 7 ∧ ∀ H', Same H H' → Q (.bl true) H'
end BP
namespace K13
open PySem PySem.Spec PyProof.Rows L2 BP Fld
section
variable {P : Program} {w : World} {K : PySem.W.Frag} {mg : Str → Option Value} {base : Heap}
theorem ok_isint {f : Addr} {fd : FuncData} {k : Nat} (F : Fun K "is_integer" "is_integer" sIsInteger f fd) (m_int : mg "int" = none) (m_bool : mg "bool" = none) (m_isinstance : mg "isinstance" = none) : FnOk P w K mg base CX0 (k + 1) f fd pIsInteger spI1 := by
  refine F.ok scIsInteger (fun vs H Q E h => ?_) (fun cdv A outer s H vs Q E hr h => ?_)
  · obtain ⟨i, rfl, _⟩ := h
    rfl
  · obtain ⟨i, rfl, want⟩ := h
    refine ⟨_, (pss_one (ps_ret (pe_and (pe_callB call_isi (by rfl) m_isinstance (by decide +kernel) (pa_cons (pv 0) (pa_cons (pe_bltn (v := .ty "int") (by rfl) m_int (by decide +kernel) rfl) pa_nil))) (pe_one (pe_not (pe_callB call_isi (by rfl) m_isinstance (by decide +kernel) (pa_cons (pv 0) (pa_cons (pe_bltn (v := .ty "bool") (by rfl) m_bool (by decide +kernel) rfl) pa_nil)))))))), ?_⟩
    refine ⟨.int i, rfl, .int i, .ty "int", .type "int", .type "int", true, rfl, .ty _, .base (.int _), kit_ty (by decide +kernel), true, rfl, iteT ?_⟩
    exact ⟨.int i, rfl, .int i, .ty "bool", .type "int", .type "bool", false, rfl, .ty _, .base (.int _), kit_ty (by decide +kernel), false, rfl, want⟩
theorem ok_isnum {f fI : Addr} {fd fdI : FuncData} (F : Fun K "is_number" "is_number" sIsNumber f fd) (IS_INTEGER : BP.Can P w K mg base "is_integer" 1 pIsInteger spI1 fI fdI) : FnOk P w K mg base CX0 2 f fd pIsNumber spIsN := by
  refine F.ok scIsNumber (fun vs H Q E h => ?_) (fun cdv A outer s H vs Q E hr h => ?_)
  · obtain ⟨q, _, a, rfl, _⟩ := h
    rfl
  · obtain ⟨q, FF, a, rfl, want⟩ := h
    refine ⟨_, (pss_one (ps_ret (pe_and (pe_call IS_INTEGER.ok hr (by rfl) IS_INTEGER.g IS_INTEGER.kp IS_INTEGER.b .nil pass0 (pa_cons (pv 1) pa_nil)) (pe_one (pe_chain op_le op_lt pe_int (pv 1) (pv 0)))))), ?_⟩
    have lt := a.lt
    refine ⟨vn a, rfl, _, rfl, true, rfl, iteT ⟨vn a, rfl, 0, a.val, rfl, rfl, true, ?_, iteT ⟨.int q, rfl, a.val, q, rfl, rfl, ?_⟩⟩⟩
    · show V.bl (decide ((0 : Int) ≤ (a.val : Int))) = _
      rw [decide_eq_true (by omega)]
    · show Q (.bl (decide ((a.val : Int) < (q : Int)))) H
      rw [decide_eq_true (by omega)]
      exact want
theorem ok_aren {f fI : Addr} {fd fdI : FuncData} (F : Fun K "are_numbers" "are_numbers" sAreNumbers f fd) (IS_NUMBER : BP.Can P w K mg base "is_number" 2 pIsNumber spIsN fI fdI) (m_tuple : mg "tuple" = none) (m_all : mg "all" = none) (m_isinstance : mg "isinstance" = none) : FnOk P w K mg base CX0 3 f fd pAreNumbers (spAreN K) := by
  refine F.ok scAreNumbers (fun vs H Q E h => ?_) (fun cdv A outer s H vs Q E hr h => ?_)
  · obtain ⟨q, _, a, f, rfl, _⟩ := h
    rfl
  · obtain ⟨q, FF, a, f, rfl, ha, lf, want⟩ := h
    refine ⟨_, (pss_one (ps_ret (pe_and (pe_callB call_isi (by rfl) m_isinstance (by decide +kernel) (pa_cons (pv 1) (pa_cons (pe_bltn (v := .ty "tuple") (by rfl) m_tuple (by decide +kernel) rfl) pa_nil))) (pe_one (pe_callB (cr_all (by rfl)) (by rfl) m_all (by decide +kernel) (pa_cons (pe_lc (own := [("part", 2)]) (g := gName 2) (tt := tYes) rfl scAreNumbers.nd (pi_tup (pv 1)) (blkOk_by (N := nAreNumbers) (sc := defScope sAreNumbers) (by decide +kernel)) (fun _ _ _ _ _ => (pg_name (i := 2) scAreNumbers.nd rfl (.inl rfl))) (fun _ _ _ _ _ => pts_nil) (fun _ _ _ _ _ => (pe_call IS_NUMBER.ok hr (by rfl) IS_NUMBER.g IS_NUMBER.kp IS_NUMBER.b .nil pass0 (pa_cons (pv 0) (pa_cons (pv 2) pa_nil))))) pa_nil)))))), ?_⟩
    refine ⟨.ref a, rfl, .ref a, .ty "tuple", .type "tuple", .type "tuple", true, rfl, .ty _, sqT_ty ha, kit_ty (by decide +kernel), true, rfl, iteT ?_⟩
    refine ⟨.ref a, rfl, a, rfl, ⟨_, ha⟩, fun D nD => ?_⟩
    refine lc_tup (K := K) (a := a) (xs := vns f) (fun i H' => Same H H' ∧ H' D = some (.lst ((List.replicate i true).map V.bl))) ⟨same_new nD, upd_same⟩ (fun i H' _ hW => BP.Same.tupS hW.1 ha) (fun i x H' hx hW => ?_) (fun H' hW => ?_)
    · obtain ⟨s1, hD⟩ := hW
      obtain ⟨hi, rfl⟩ := of_vns hx
      refine ⟨rfl, yes_kept ?_⟩
      refine ⟨.int q, rfl, vn (co f i), rfl, q, FF, co f i, rfl, _, hD, ?_, fun b x e => ?_, ?_⟩
      · rw [List.length_map, List.length_replicate]
        exact small1000 (by omega)
      · rw [upd_ne (ne_of_none e nD)]
        exact s1 b x e
      · rw [upd_same, rep_add]
    · obtain ⟨s1, hD⟩ := hW
      refine ⟨D, _, rfl, .inl (.inl hD), ?_⟩
      rw [all_rep]
      exact want H' s1
theorem ok_ispo {f fI : Addr} {fd fdI : FuncData} (F : Fun K "is_one_letter" "is_one_letter" sIsOneLetter f fd) (ARE_NUMBERS : BP.Can P w K mg base "are_numbers" 3 pAreNumbers (spAreN K) fI fdI) (m_len : mg "len" = none) : FnOk P w K mg base CX0 4 f fd pIsOneLetter (spIsPo K) := by
  refine F.ok scIsOneLetter (fun vs H Q E h => ?_) (fun cdv A outer s H vs Q E hr h => ?_)
  · obtain ⟨q, _, a, f, rfl, _⟩ := h
    rfl
  · obtain ⟨q, FF, a, f, rfl, ha, lf, tf, nf, want⟩ := h
    refine ⟨_, (pss_one (ps_ret (pe_and (pe_call ARE_NUMBERS.ok hr (by rfl) ARE_NUMBERS.g ARE_NUMBERS.kp ARE_NUMBERS.b .nil pass0 (pa_cons (pv 0) (pa_cons (pv 1) pa_nil))) (pe_one (pe_or (pe_cmpR op_eq (pe_callB call_len_seq (by rfl) m_len PySem.boot_len (pa_cons (pv 1) pa_nil)) pe_int (nomark _)) (pe_one (pe_cmpR op_ne (pe_ix ix_tup (pv 1) (pe_un un_neg pe_int) (fun _ _ => rfl)) pe_int (nomark _)))))))), ?_⟩
    obtain ⟨n, hn⟩ : ∃ n, f.length = n + 1 := by
      cases e : f.length with
      | zero => exact absurd (List.eq_nil_of_length_eq_zero e) nf
      | succ n => exact ⟨n, rfl⟩
    have top := top_of_trim tf hn
    refine ⟨.int q, rfl, .ref a, rfl, q, FF, a, f, rfl, ha, lf, fun H1 s1 => ⟨true, rfl, iteT ?_⟩⟩
    have ha1 := BP.Same.tupS s1 ha
    refine ⟨.ref a, rfl, a, _, rfl, .inr ha1, rfl, false, ?_, iteF ?_⟩
    · show V.bl (decide (V.int ((vns f).length : Nat) = V.int 0)) = _
      rw [decide_eq_false]
      rw [List.length_map, hn]
      exact fun z => absurd (V.int.inj z) (by omega)
    · refine ⟨.ref a, rfl, 1, rfl, a, _, -1, vn (co f n), rfl, rfl, ha1, ?_, rfl, ?_⟩
      · unfold atI
        rw [List.length_map, hn]
        have e : ixN (n + 1) (-1) = some n := by
          unfold ixN
          rw [if_neg (by decide), if_pos (by omega)]
          congr 1
          omega
        rw [e]
        exact vns_get (by omega)
      · rw [decide_eq_false (show ¬ vn (co f n) = V.int 0 from fun z => top (vn_inj (by rw [vn_zero]; exact z)))]
        exact want H1 s1
theorem ok_isst {f fI fD : Addr} {fd fdI fdD : FuncData} (F : Fun K "is_straight" "is_straight" sIsStraight f fd) (ARE_NUMBERS : BP.Can P w K mg base "are_numbers" 3 pAreNumbers (spAreN K) fI fdI) (STRAIGHT_DETERMINANT : BP.Can P w K mg base "straight_determinant" 3 pStraightDeterminant (spDet K) fD fdD) (m_len : mg "len" = none) : FnOk P w K mg base CX0 4 f fd pIsStraight (spIsSt K) := by
  refine F.ok scIsStraight (fun vs H Q E h => ?_) (fun cdv A outer s H vs Q E hr h => ?_)
  · obtain ⟨q, _, a, m, rfl, _⟩ := h
    rfl
  · obtain ⟨q, FF, a, m, rfl, ha, dm, want⟩ := h
    refine ⟨_, (pss_one (ps_ret (pe_and (pe_call ARE_NUMBERS.ok hr (by rfl) ARE_NUMBERS.g ARE_NUMBERS.kp ARE_NUMBERS.b .nil pass0 (pa_cons (pv 0) (pa_cons (pv 1) pa_nil))) (pe_and (pe_cmpR op_eq (pe_callB call_len_seq (by rfl) m_len PySem.boot_len (pa_cons (pv 1) pa_nil)) pe_int (nomark _)) (pe_one (pe_cmpR op_ne (pe_call STRAIGHT_DETERMINANT.ok hr (by rfl) STRAIGHT_DETERMINANT.g STRAIGHT_DETERMINANT.kp STRAIGHT_DETERMINANT.b .nil pass0 (pa_cons (pv 0) (pa_cons (pv 1) pa_nil))) pe_int (nomark _))))))), ?_⟩
    refine ⟨.int q, rfl, .ref a, rfl, q, FF, a, [m.a, m.b, m.c, m.d, m.e, m.f], rfl, ha, (by show 6 ≤ 900; decide), fun H1 s1 => ⟨true, rfl, iteT ?_⟩⟩
    have ha1 := BP.Same.tupS s1 ha
    refine ⟨.ref a, rfl, a, _, rfl, .inr ha1, rfl, true, rfl, iteT ?_⟩
    refine ⟨.int q, rfl, .ref a, rfl, q, FF, a, m, rfl, ha1, rfl, ?_⟩
    rw [decide_eq_false (show ¬ vn (det m) = V.int 0 from fun z => dm (vn_inj (by rw [vn_zero]; exact z)))]
    exact want H1 s1
theorem ok_isbd {f fI : Addr} {fd fdI : FuncData} (F : Fun K "is_bend" "is_bend" sIsBend f fd) (IS_ONE_LETTER : BP.Can P w K mg base "is_one_letter" 4 pIsOneLetter (spIsPo K) fI fdI) (m_len : mg "len" = none) : FnOk P w K mg base CX0 5 f fd pIsBend (spIsBd K) := by
  refine F.ok scIsBend (fun vs H Q E h => ?_) (fun cdv A outer s H vs Q E hr h => ?_)
  · obtain ⟨q, _, a, f, rfl, _⟩ := h
    rfl
  · obtain ⟨q, FF, a, f, rfl, ha, bf, l7, want⟩ := h
    refine ⟨_, (pss_one (ps_ret (pe_and (pe_call IS_ONE_LETTER.ok hr (by rfl) IS_ONE_LETTER.g IS_ONE_LETTER.kp IS_ONE_LETTER.b .nil pass0 (pa_cons (pv 0) (pa_cons (pv 1) pa_nil))) (pe_and (pe_chain op_le op_le pe_int (pe_callB call_len_seq (by rfl) m_len PySem.boot_len (pa_cons (pv 1) pa_nil)) pe_int) (pe_and (pe_cmpR op_eq (pe_ix ix_tup (pv 1) pe_int (fun _ _ => rfl)) pe_int (nomark _)) (pe_one (pe_cmpR op_eq (pe_ix ix_tup (pv 1) pe_int (fun _ _ => rfl)) pe_int (nomark _)))))))), ?_⟩
    obtain ⟨n, hn, top⟩ := bf.top
    obtain ⟨⟨b1, b2, b3⟩, b4⟩ := bf
    refine ⟨.int q, rfl, .ref a, rfl, q, FF, a, f, rfl, ha, by omega, b1, b4, fun H1 s1 => ⟨true, rfl, iteT ?_⟩⟩
    have ha1 := BP.Same.tupS s1 ha
    have z0 : vn (co f 0) = V.int 0 := by rw [b2]; exact vn_zero
    have z1 : vn (co f 1) = V.int 0 := by rw [b3]; exact vn_zero
    refine ⟨.ref a, rfl, a, _, rfl, .inr ha1, 3, ((vns f).length : Nat), rfl, rfl, true, ?_, iteT ⟨((vns f).length : Nat), 7, rfl, rfl, true, ?_, iteT ?_⟩⟩
    · rw [List.length_map, hn]
      show V.bl (decide ((3 : Int) ≤ ((n + 3 : Nat) : Int))) = _
      rw [decide_eq_true (by omega)]
    · rw [List.length_map]
      show V.bl (decide ((f.length : Int) ≤ 7)) = _
      rw [decide_eq_true (by omega)]
    · refine ⟨.ref a, rfl, a, _, 0, vn (co f 0), rfl, rfl, ha1, atI_nat (j := 0) (vns_get (l := f) (k := 0) (by omega)), ?_⟩
      rw [z0]
      refine ⟨rfl, true, rfl, iteT ?_⟩
      refine ⟨.ref a, rfl, a, _, 1, vn (co f 1), rfl, rfl, ha1, atI_nat (j := 1) (vns_get (l := f) (k := 1) (by omega)), ?_⟩
      rw [z1]
      exact ⟨rfl, want H1 s1⟩
theorem ok_row {f fB : Addr} {fd fdB : FuncData} {tk : Tok} (F : Fun K "row_by_step" "row_by_step" sRowByStep f fd) (TB : BP.Can P w K mg base "turn_by" 1 pTurnBy spTurn fB fdB) (gNT : mg "NO_TURN" = some (.int (-1) tk)) (m_zip : mg "zip" = none) (m_tuple : mg "tuple" = none) : FnOk P w K mg base CX0 2 f fd pRowByStep (spRow K) := by
  refine F.ok scRowByStep (fun vs H Q E h => ?_) (fun cdv A outer s H vs Q E hr h => ?_)
  · obtain ⟨q, _, c, z, rfl, _⟩ := h
    rfl
  · obtain ⟨q, FF, c, z, rfl, ⟨start, ts, bs, t, b, l, hc, hb, ht, hl, cs⟩, l9, want⟩ := h
    have lb : bs.length = z.st.length := by
      rcases cs with ⟨e, _, _, e2⟩ | ⟨_, k⟩
      · rw [e, e2]
        rfl
      · exact k.len.2
    have lt : ts.length ≤ 900 := by
      rcases cs with ⟨e, _, e1, _⟩ | ⟨_, k⟩
      · rw [e1]
        exact Nat.zero_le _
      · have := k.len.1
        rw [List.length_cons] at this
        omega
    have lbt : bs.length ≤ (start :: ts).length := by
      rcases cs with ⟨e, _, _, e2⟩ | ⟨_, k⟩
      · rw [e2]
        exact Nat.zero_le _
      · rw [k.len.1, k.len.2]
        exact Nat.le_refl _
    have at' : ∀ {i : Nat}, i < bs.length → ∃ o g a, z.st.drop (z.st.length - (i + 1)) = (o, g) :: z.st.drop (z.st.length - i) ∧ (start :: ts)[i]? = some (ov o) ∧ bs[i]? = some (.ref a) ∧ SqT K H a (vns g) := by
      intro i hi
      rcases cs with ⟨e, _, _, e2⟩ | ⟨_, k⟩
      · rw [e2] at hi
        exact absurd hi (Nat.not_lt_zero i)
      · exact k.at (by omega)
    refine ⟨_, (pss_cons (ps_asg (pv 0) (pg_tup rfl (pgs_cons (pg_name (i := 1) scRowByStep.nd rfl (.inl rfl)) (pgs_cons (pg_name (i := 2) scRowByStep.nd rfl (.inl rfl)) (pgs_cons (pg_name (i := 3) scRowByStep.nd rfl (.inl rfl)) (pgs_cons (pg_name (i := 4) scRowByStep.nd rfl (.inl rfl)) pgs_nil))))))
      (pss_cons (ps_set (i := 5) scRowByStep.nd rfl (.inl rfl) (pe_lst pa_nil))
      (pss_cons (ps_for PassesOwn.never rfl (RZ.pi_zipA (by rfl) m_zip (pa_cons (pe_tup (pa_cons (pv 1) (StX.pa_star (pv 3) pa_nil))) (pa_cons (pv 2) pa_nil))) (pg_tup rfl (pgs_cons (pg_name (i := 6) scRowByStep.nd rfl (.inl rfl)) (pgs_cons (pg_name (i := 7) scRowByStep.nd rfl (.inl rfl)) pgs_nil))) (pss_cons (ps_if (pt_cmpR op_ne (pv 6) (pe_glob (v := .int (-1)) rfl gNT ⟨_, rfl⟩) (nomark _)) (pss_one (ps_expr (pe_bm PySem.F.plainAttrs_list PySem.F.slot_list_append PySem.F.type_list_append mt_append (pv 5) (pa_cons (pe_tup (pa_cons pe_str (pa_cons (pe_call TB.ok hr (by rfl) TB.g TB.kp TB.b .nil pass0 (pa_cons (pv 6) pa_nil)) pa_nil))) pa_nil)))) pss_nil)
        (pss_one (ps_expr (pe_bm PySem.F.plainAttrs_list PySem.F.slot_list_append PySem.F.type_list_append mt_append (pv 5) (pa_cons (pe_tup (pa_cons pe_str (pa_cons (pv 7) pa_nil))) pa_nil))))))
      (pss_cons (ps_expr (pe_bm PySem.F.plainAttrs_list PySem.F.slot_list_append PySem.F.type_list_append mt_append (pv 5) (pa_cons (pe_tup (pa_cons pe_str (pa_cons (pv 4) pa_nil))) pa_nil)))
      (pss_one (ps_ret (pe_tupleOf rfl m_tuple (pv 5)))))))), ?_⟩
    refine ⟨.ref c, rfl, c, _, rfl, hc, rfl, _, [_, _, _], rfl, _, [_, _], rfl, _, [_], rfl, _, [], rfl, rfl, ?_⟩
    refine ⟨(by show 0 ≤ sizeLine; decide), fun rw' nrw => ?_⟩
    have s1 := same_new (o := .lst ([] : List V)) nrw
    refine ⟨start, rfl, .ref t, rfl, t, ts, rfl, .inl (BP.Same.tupS s1 ht), (Nat.le_of_lt (small1000 (by show (ts ++ []).length + 1 ≤ 1000; rw [List.append_nil]; omega))), fun u nu => ?_⟩
    rw [List.append_nil]
    have s2 := same_new (o := .tup (start :: ts)) nu
    have s12 := s1.trans s2
    refine ⟨.ref b, rfl, u, b, start :: ts, bs, rfl, .inr ⟨.inl (.inl upd_same), BP.Same.tupS s12 hb, ?_⟩⟩
    have hru : rw' ≠ u := fun z => by
      rw [← z, upd_same] at nu
      cases nu
    refine for_it (walk_zipTm (K := K) (a := u) (b := b) (xs := start :: ts) (ys := bs) lbt) (fun i σ H2 => Same H H2 ∧ H2 u = some (.tup (start :: ts)) ∧ (∃ y6 y7, σ = [some (.ref c), some start, some (.ref b), some (.ref t), some (.ref l), some (.ref rw'), y6, y7]) ∧ ∃ xs, H2 rw' = some (.lst xs) ∧ xs.length ≤ 2 * i ∧ PsAt K H2 xs (rowSt (z.st.drop (z.st.length - i))))
      ⟨s12, upd_same, ⟨_, _, rfl⟩, [], by rw [upd_ne hru]; exact upd_same, Nat.le_refl _, ?_⟩ (fun i σ H2 _ hW => ⟨.inl (.inl hW.2.1), BP.Same.tupS hW.1 hb⟩) (fun i x σ H2 H3 hi hW hy => ?_) (fun σ H2 hW => ?_)
    · rw [Nat.sub_zero, List.drop_length]
      exact trivial
    · obtain ⟨s3, hu3, ⟨y6, y7, rfl⟩, xs, hxs, lxs, hP⟩ := hW
      obtain ⟨T, x, y, rfl, nT, rfl, e1, e2⟩ := hy
      obtain ⟨o, g, a, d1, d2, d3, d4⟩ := at' hi
      obtain rfl := Option.some.inj (d2.symm.trans e1)
      obtain rfl := Option.some.inj (d3.symm.trans e2)
      have s4 := same_new (o := .tup [ov o, .ref a]) nT
      have hxs4 := s4 _ _ hxs
      have hP4 := hP.kept fun _ _ => BP.Same.tupS s4
      have hu4 := s4 _ _ hu3
      have s34 := s3.trans s4
      refine ⟨T, _, rfl, .inl (.inl upd_same), rfl, ov o, [.ref a], rfl, .ref a, [], rfl, rfl, ?_⟩
      generalize upd H2 T (.tup [ov o, .ref a]) = H4 at s4 hxs4 hP4 hu4 s34 ⊢
      rw [d1, rowSt_cons]
      -- the bend behind
      have fin : ∀ (H5 : Hp) (ys : List V) (ps : List (Pc q)), Same H H5 → H5 u = some (.tup (start :: ts)) → H5 rw' = some (.lst ys) → ys.length ≤ 2 * i + 1 → PsAt K H5 ys ps →
          ∀ e, H5 e = none → ys.length < sizeLine ∧ Same H (upd (upd H5 e (.tup [.str "bend", .ref a])) rw' (.lst (ys ++ [.ref e]))) ∧ (upd (upd H5 e (.tup [.str "bend", .ref a])) rw' (.lst (ys ++ [.ref e]))) u = some (.tup (start :: ts)) ∧
            (ys ++ [V.ref e]).length ≤ 2 * (i + 1) ∧ PsAt K (upd (upd H5 e (.tup [.str "bend", .ref a])) rw' (.lst (ys ++ [.ref e]))) (ys ++ [.ref e]) (ps ++ [.bd g]) := by
        intro H5 ys ps s5 hu5 hy5 ly5 hP5 e ne
        have s6 := same_new (o := .tup [V.str "bend", .ref a]) ne
        have h6 := s6 _ _ hy5
        have KP : ∀ v zs, SqT K (upd H5 e (.tup [.str "bend", .ref a])) v zs → SqT K (upd (upd H5 e (.tup [.str "bend", .ref a])) rw' (.lst (ys ++ [.ref e]))) v zs := fun v zs h => sqT_upd h6 h
        refine ⟨Nat.lt_of_le_of_lt (show ys.length ≤ 2000 by omega) (by decide), fun c o h => ?_, ?_, by rw [List.length_append]; show ys.length + 1 ≤ _; omega, PsAt.add (p := .bd g) ⟨a, KP _ _ (.inl (.inl upd_same)), KP _ _ (BP.Same.tupS (s5.trans s6) d4)⟩ ((hP5.kept fun _ _ => BP.Same.tupS s6).kept KP)⟩
        · rw [upd_ne (ne_of_none h nrw)]
          exact s6 _ _ (s5 _ _ h)
        · rw [upd_ne hru.symm]
          exact s6 _ _ hu5
      cases o with
      | none =>
        refine ⟨.int (-1), rfl, rfl, _, rfl, ite2 (fun z => absurd z (by rw [decide_eq_true (p := V.int (-1) = V.int (-1)) rfl]; decide)) (fun _ => ?_)⟩
        refine ⟨.ref rw', rfl, .inl ⟨rfl, _, .inl (.inl hxs4)⟩, .ref a, rfl, (by show 2 ≤ sizeLine; decide), fun e ne => ?_⟩
        have s6 := same_new (o := .tup [V.str "bend", .ref a]) ne
        obtain ⟨f1, f2, f3, f4, f5⟩ := fin H4 xs (rowSt (z.st.drop (z.st.length - i))) s34 hu4 hxs4 (by omega) hP4 e ne
        refine ⟨rw', _, _, rfl, rfl, s6 _ _ hxs4, f1, f2, f3, ⟨_, _, rfl⟩, _, upd_same, f4, ?_⟩
        show PsAt K _ _ (rowSt (z.st.drop (z.st.length - i)) ++ [] ++ [.bd g])
        rw [List.append_nil]
        exact f5
      | some cc =>
        refine ⟨vn cc, rfl, rfl, _, rfl, ite2 (fun _ => ?_) (fun z => absurd (show (!decide (V.int (cc.val : Nat) = V.int (-1))) = true from by
          rw [decide_eq_false (fun e => by have := V.int.inj e; omega)]
          rfl) z)⟩
        refine ⟨.ref rw', rfl, .inl ⟨rfl, _, .inl (.inl hxs4)⟩, vn cc, rfl, q, FF, cc, rfl, fun tb H5 s5 ntb htb => ⟨(by show 2 ≤ sizeLine; decide), fun e ne => ?_⟩⟩
        have s6 := same_new (o := .tup [V.str "straight", .ref tb]) ne
        have h6 := s6 _ _ (s5 _ _ hxs4)
        refine ⟨rw', _, _, rfl, rfl, h6, Nat.lt_of_le_of_lt (show xs.length ≤ 2000 by omega) (by decide), ?_⟩
        have KP : ∀ a ys, SqT K (upd H5 e (.tup [.str "straight", .ref tb])) a ys → SqT K (upd (upd H5 e (.tup [.str "straight", .ref tb])) rw' (.lst (xs ++ [.ref e]))) a ys := fun a ys h => sqT_upd h6 h
        have hP7 := PsAt.add (p := .mat (turn cc)) ⟨tb, KP _ _ (.inl (.inl upd_same)), KP _ _ (.inl (.inl (s6 _ _ htb)))⟩ ((hP4.kept fun _ _ => BP.Same.tupS (s5.trans s6)).kept KP)
        have s7 : Same H (upd (upd H5 e (.tup [.str "straight", .ref tb])) rw' (.lst (xs ++ [.ref e]))) := fun c o h => by
          rw [upd_ne (ne_of_none h nrw)]
          exact s6 _ _ (s5 _ _ (s34 _ _ h))
        have hu7 : (upd (upd H5 e (.tup [.str "straight", .ref tb])) rw' (.lst (xs ++ [.ref e]))) u = some (.tup (start :: ts)) := by
          rw [upd_ne hru.symm]
          exact s6 _ _ (s5 _ _ hu4)
        have h7 : (upd (upd H5 e (.tup [.str "straight", .ref tb])) rw' (.lst (xs ++ [.ref e]))) rw' = some (.lst (xs ++ [.ref e])) := upd_same
        generalize upd (upd H5 e (.tup [.str "straight", .ref tb])) rw' (.lst (xs ++ [.ref e])) = H7 at hP7 s7 hu7 h7 ⊢
        refine ⟨.ref rw', rfl, .inl ⟨rfl, _, .inl (.inl h7)⟩, .ref a, rfl, (by show 2 ≤ sizeLine; decide), fun e2 ne2 => ?_⟩
        have s8 := same_new (o := .tup [V.str "bend", .ref a]) ne2
        obtain ⟨f1, f2, f3, f4, f5⟩ := fin H7 _ _ s7 hu7 h7 (by rw [List.length_append]; show xs.length + 1 ≤ _; omega) hP7 e2 ne2
        exact ⟨rw', _, _, rfl, rfl, s8 _ _ h7, f1, f2, f3, ⟨_, _, rfl⟩, _, upd_same, f4, f5⟩
    · obtain ⟨s3, hu3, ⟨y6, y7, rfl⟩, xs, hxs, lxs, hP⟩ := hW
      rw [lb, Nat.sub_self, List.drop_zero] at hP
      refine ⟨.ref rw', rfl, .inl ⟨rfl, _, .inl (.inl hxs)⟩, .ref l, rfl, (by show 2 ≤ sizeLine; decide), fun e ne => ?_⟩
      have s6 := same_new (o := .tup [V.str "straight", .ref l]) ne
      have h6 := s6 _ _ hxs
      refine ⟨rw', _, _, rfl, rfl, h6, Nat.lt_of_le_of_lt (show xs.length ≤ 2000 by omega) (by decide), ?_⟩
      have KP : ∀ a ys, SqT K (upd H2 e (.tup [.str "straight", .ref l])) a ys → SqT K (upd (upd H2 e (.tup [.str "straight", .ref l])) rw' (.lst (xs ++ [.ref e]))) a ys := fun a ys h => sqT_upd h6 h
      have hP7 := PsAt.add (p := .mat z.last) ⟨l, KP _ _ (.inl (.inl upd_same)), KP _ _ (BP.Same.tupS (s3.trans s6) hl)⟩ ((hP.kept fun _ _ => BP.Same.tupS s6).kept KP)
      have s7 : Same H (upd (upd H2 e (.tup [.str "straight", .ref l])) rw' (.lst (xs ++ [.ref e]))) := fun c o h => by
        rw [upd_ne (ne_of_none h nrw)]
        exact s6 _ _ (s3 _ _ h)
      refine ⟨.ref rw', rfl, .inl ⟨rw', _, rfl, .inl (.inl upd_same), fun r nr => ?_⟩⟩
      have s8 := same_new (o := .tup (xs ++ [V.ref e])) nr
      exact want r _ (s7.trans s8) (s7.free nr) ⟨_, .inl (.inl upd_same), hP7.kept fun _ _ => BP.Same.tupS s8⟩
end
end K13
set_option Elab.async false
set_option linter.all false
set_option maxRecDepth 100000
set_option maxHeartbeats 4000000
set_option pp.maxSteps 400
namespace Fld
variable {q : Nat} [F : IsF q]
theorem good_all : ∀ {st : List (Option (El q) × Po q)}, Good st → ∀ x ∈ st, IsB x.2
  | [], _, _, h => by cases h
  | (t, g) :: r, ⟨h1, _, h3⟩, x, h => by
    rcases List.mem_cons.mp h with e | e
    · rw [e]
      exact h1
    · exact good_all h3 x e
theorem rowSt_ok7 : ∀ {st : List (Option (El q) × Po q)}, (∀ x ∈ st, IsB x.2) → B7 st → ∀ p ∈ rowSt st, PcOk7 p
  | [], _, _, p, h => by cases h
  | (t, g) :: r, h1, h2, p, h => by
    rw [rowSt_cons] at h
    rcases List.mem_append.mp h with h | h
    · rcases List.mem_append.mp h with h | h
      · exact rowSt_ok7 (fun x hx => h1 x (List.mem_cons_of_mem _ hx)) (fun x hx => h2 x (List.mem_cons_of_mem _ hx)) p h
      · cases t with
        | none => cases h
        | some c =>
          rw [List.mem_singleton.mp h]
          exact det_turn c
    · rw [List.mem_singleton.mp h]
      exact ⟨h1 (t, g) (List.mem_cons_self ..), h2 (t, g) (List.mem_cons_self ..)⟩
theorem rowOf_ok7 {z : Sta q} (h : Okay z) (b : B7 z.st) : ∀ p ∈ rowOf z, PcOk7 p := by
  intro p hp
  rcases List.mem_append.mp hp with e | e
  · exact rowSt_ok7 (good_all h.1) b p e
  · rw [List.mem_singleton.mp e]
    exact h.2
theorem rowSt_len : ∀ st : List (Option (El q) × Po q), (rowSt st).length ≤ 2 * st.length
  | [] => Nat.le_refl _
  | (t, g) :: r => by
    have := rowSt_len r
    rw [rowSt_cons, List.length_append, List.length_append]
    cases t with
    | none =>
      show (rowSt r).length + 0 + 1 ≤ 2 * (r.length + 1)
      omega
    | some c =>
      show (rowSt r).length + 1 + 1 ≤ 2 * (r.length + 1)
      omega
theorem rowOf_len (z : Sta q) : (rowOf z).length ≤ 2 * z.st.length + 1 := by
  have := rowSt_len z.st
  unfold rowOf
  rw [List.length_append]
  show (rowSt z.st).length + 1 ≤ _
  omega
/-- what a row does with a point -/
def mvp : El q × El q → Pc q → El q × El q
  | (x, y), .mat m => (m.a * x + m.b * y + m.c, m.d * x + m.e * y + m.f)
  | (x, y), .bd f => (x + ev y f, y)
def go (l : List (Pc q)) (p : El q × El q) : El q × El q := l.foldl mvp p
theorem go_take {ps : List (Pc q)} {p : El q × El q} {i : Nat} {x : Pc q} (h : ps[i]? = some x) : go (ps.take (i + 1)) p = mvp (go (ps.take i) p) x := by
  unfold go
  rw [List.take_add_one, h, List.foldl_append]
  rfl
theorem neg_ne {x : El q} (h : x ≠ 0) : -x ≠ 0 := fun z => h (by grind)
/-- the undone pieces are pieces again -/
theorem det_mund {m : Mat q} (h : det m ≠ 0) : det (mund m) ≠ 0 := by
  intro z
  have e : det (thn m (mund m)) = det m * det (mund m) := det_thn _ _
  rw [thn_mund h, z] at e
  exact det_same (q := q) (by rw [e]; grind)
theorem sc_len (f : Po q) (c : El q) : (sc f c).length ≤ f.length := by
  unfold sc
  exact Nat.le_trans (trim_len _) (by rw [List.length_map]; exact Nat.le_refl _)
theorem und_ok7 : ∀ {p : Pc q}, PcOk7 p → PcOk7 (und p)
  | .mat _, h => det_mund h
  | .bd f, ⟨⟨⟨h1, h2, h3⟩, h4⟩, h5⟩ => by
    refine ⟨⟨⟨trim_trim _, ?_, ?_⟩, fun z => h4 ?_⟩, Nat.le_trans (sc_len f _) h5⟩
    · rw [co_sc, h2]
      grind
    · rw [co_sc, h3]
      grind
    · refine nil_of_co h1 fun i => ?_
      have e : co (sc f (-1)) i = 0 := by
        rw [z]
        rfl
      rw [co_sc] at e
      grind
theorem und_row_ok7 {ps : List (Pc q)} (h : ∀ p ∈ ps, PcOk7 p) : ∀ p ∈ (ps.map und).reverse, PcOk7 p := by
  intro p hp
  obtain ⟨x, hx, rfl⟩ := List.mem_map.mp (List.mem_reverse.mp hp)
  exact und_ok7 (h x hx)
end Fld
namespace BP
open PySem PySem.Spec PyProof.Rows L2 Fld
/-- a step that is one -/
def Fit {q : Nat} [IsF q] (z : Sta q) : Prop := Okay z ∧ B7 z.st ∧ z.st.length ≤ 200
def spIsPc (K : PySem.W.Frag) : Sp := fun vs H Q _ => ∃ (q : Nat) (_ : IsF q) (c : Addr) (x : Pc q), vs = [.int q, .ref c] ∧ PieceAt K H c x ∧ PcOk7 x ∧ ∀ H', Same H H' → Q (.bl true) H'
def spLookR (K : PySem.W.Frag) : Sp := fun vs H Q _ => ∃ (q : Nat) (_ : IsF q) (a : Addr) (ps : List (Pc q)), vs = [.int q, .ref a] ∧ RowAt K H a ps ∧ (∀ x ∈ ps, PcOk7 x) ∧ ∀ H', Same H H' → Q .non H'
def spIsSp (K : PySem.W.Frag) : Sp := fun vs H Q _ => ∃ (q : Nat) (_ : IsF q) (c : Addr) (z : Sta q), vs = [.int q, .ref c] ∧ StepAt K H c z ∧ Fit z ∧ ∀ H', Same H H' → Q (.bl true) H'
def spLookS (K : PySem.W.Frag) : Sp := fun vs H Q _ => ∃ (q : Nat) (_ : IsF q) (a : Addr) (cs : List Addr), vs = [.int q, .ref a] ∧ SqL K H a (cs.map V.ref) ∧ (∀ c ∈ cs, ∃ z : Sta q, StepAt K H c z ∧ Fit z) ∧ ∀ H', Same H H' → Q .non H'
def spNo (K : PySem.W.Frag) : Sp := fun vs H Q _ => vs = [] ∧ ∀ (r : Addr) (H' : Hp), Same H H' → (∀ (q : Nat) [IsF q], StepAt K H' r (empty : Sta q)) → Q (.ref r) H'
def spRowOf (K : PySem.W.Frag) : Sp := fun vs H Q _ => ∃ (q : Nat) (_ : IsF q) (c : Addr) (z : Sta q), vs = [.int q, .ref c] ∧ StepAt K H c z ∧ Fit z ∧ ∀ (r : Addr) (H' : Hp), Same H H' → H r = none → RowAt K H' r (rowOf z) → Q (.ref r) H'
def spProd (K : PySem.W.Frag) : Sp := fun vs H Q _ => ∃ (q : Nat) (_ : IsF q) (c d : Addr) (y z : Sta q), vs = [.int q, .ref c, .ref d] ∧ StepAt K H c y ∧ Fit y ∧ StepAt K H d z ∧ Fit z ∧
  ∀ (r : Addr) (H' : Hp), Same H H' → H r = none → StepAt K H' r (run y (rowOf z)) → Q (.ref r) H'
def spUndo (K : PySem.W.Frag) : Sp := fun vs H Q _ => ∃ (q : Nat) (_ : IsF q) (c : Addr) (z : Sta q), vs = [.int q, .ref c] ∧ StepAt K H c z ∧ Fit z ∧
  ∀ (r : Addr) (H' : Hp), Same H H' → H r = none → StepAt K H' r (run empty (((rowOf z).map und).reverse)) → Q (.ref r) H'
def spPtRow (K : PySem.W.Frag) : Sp := fun vs H Q _ => ∃ (q : Nat) (_ : IsF q) (t a : Addr) (x y : El q) (ps : List (Pc q)), vs = [.int q, .ref t, .ref a] ∧ SqT K H t [vn x, vn y] ∧ RowAt K H a ps ∧
  ∀ (r : Addr) (H' : Hp), Same H H' → SqT K H' r [vn (go ps (x, y)).1, vn (go ps (x, y)).2] → Q (.ref r) H'
def spPtAft (K : PySem.W.Frag) : Sp := fun vs H Q _ => ∃ (q : Nat) (_ : IsF q) (c t : Addr) (x y : El q) (z : Sta q), vs = [.int q, .ref c, .ref t] ∧ StepAt K H c z ∧ Fit z ∧ SqT K H t [vn x, vn y] ∧
  ∀ (r : Addr) (H' : Hp), Same H H' → SqT K H' r [vn (go (rowOf z) (x, y)).1, vn (go (rowOf z) (x, y)).2] → Q (.ref r) H'
/-- the bends of a step, one by one -/
theorem Stk.bend {q : Nat} [IsF q] {K : PySem.W.Frag} {H : Hp} : ∀ {st : List (Option (El q) × Po q)} {ts bs : List V}, Stk K H st ts bs → ∀ {i : Nat} {v : V}, bs[i]? = some v → ∃ (a : Addr) (x : Option (El q) × Po q), v = .ref a ∧ x ∈ st ∧ SqT K H a (vns x.2)
  | [], _, _, ⟨_, e⟩, i, v, h => by
    subst e
    cases h
  | (o, g) :: r, _, _, ⟨ts', bs', a, e1, e2, hg, k⟩, i, v, h => by
    subst e2
    by_cases hi : i < bs'.length
    · rw [List.getElem?_append_left hi] at h
      obtain ⟨a', x, e, m, s⟩ := Stk.bend k h
      exact ⟨a', x, e, List.mem_cons_of_mem _ m, s⟩
    · rw [List.getElem?_append_right (by omega)] at h
      cases e : i - bs'.length with
      | zero =>
        rw [e] at h
        cases h
        exact ⟨a, (o, g), rfl, List.mem_cons_self .., hg⟩
      | succ n =>
        rw [e] at h
        cases h
/-- the turns of a step are numbers -/
theorem Stk.turns {q : Nat} [IsF q] {K : PySem.W.Frag} {H : Hp} : ∀ {st : List (Option (El q) × Po q)} {ts bs : List V}, Good st → Stk K H st ts bs → ∀ {y : V} {tt : List V}, ts = y :: tt → ∃ f : Po q, tt = vns f
  | [], _, _, _, ⟨e, _⟩, y, tt, h => by
    rw [e] at h
    cases h
  | (o, g) :: r, _, _, ⟨_, g2, g3⟩, ⟨ts', bs', a, e1, e2, hg, k⟩, y, tt, h => by
    cases e : ts' with
    | nil =>
      rw [e1, e] at h
      cases h
      exact ⟨[], rfl⟩
    | cons z zz =>
      obtain ⟨f, hf⟩ := Stk.turns g3 k e
      rw [e1, e] at h
      obtain ⟨rfl, h2⟩ := List.cons.inj h
      have rn : r ≠ [] := fun z0 => by
        have := k.len.1
        rw [z0, e] at this
        cases this
      cases o with
      | none => exact absurd rfl (g2 rn)
      | some c =>
        refine ⟨f ++ [c], ?_⟩
        rw [← h2, hf]
        unfold vns
        rw [List.map_append]
        rfl
/-- the first turn is none or a number -/
theorem Stk.first {q : Nat} [IsF q] {K : PySem.W.Frag} {H : Hp} : ∀ {st : List (Option (El q) × Po q)} {ts bs : List V}, Stk K H st ts bs → ∀ {y : V} {tt : List V}, ts = y :: tt → ∃ o : Option (El q), y = ov o
  | [], _, _, ⟨e, _⟩, y, tt, h => by
    rw [e] at h
    cases h
  | (o, g) :: r, _, _, ⟨ts', bs', a, e1, e2, hg, k⟩, y, tt, h => by
    cases e : ts' with
    | nil =>
      rw [e1, e] at h
      cases h
      exact ⟨o, rfl⟩
    | cons z zz =>
      rw [e1, e] at h
      obtain ⟨rfl, _⟩ := List.cons.inj h
      exact Stk.first k e
end BP
namespace K13
open PySem PySem.Spec PyProof.Rows L2 BP Fld
section
variable {P : Program} {w : World} {K : PySem.W.Frag} {mg : Str → Option Value} {base : Heap}
theorem ok_issp {f fI fB fN fS : Addr} {fd fdI fdB fdN fdS : FuncData} {tk : Tok} (F : Fun K "is_step" "is_step" sIsStep f fd) (IS_INTEGER : BP.Can P w K mg base "is_integer" 1 pIsInteger spI1 fI fdI) (IS_BEND : BP.Can P w K mg base "is_bend" 5 pIsBend (spIsBd K) fB fdB)
    (ARE_NUMBERS : BP.Can P w K mg base "are_numbers" 3 pAreNumbers (spAreN K) fN fdN) (IS_STRAIGHT : BP.Can P w K mg base "is_straight" 4 pIsStraight (spIsSt K) fS fdS) (gNT : mg "NO_TURN" = some (.int (-1) tk)) (m_len : mg "len" = none) (m_tuple : mg "tuple" = none) (m_isinstance : mg "isinstance" = none) (m_all : mg "all" = none) (m_max : mg "max" = none) :
    FnOk P w K mg base CX0 6 f fd pIsStep (spIsSp K) := by
  refine F.ok scIsStep (fun vs H Q E h => ?_) (fun cdv A outer s H vs Q E hr h => ?_)
  · obtain ⟨q, _, c, z, rfl, _⟩ := h
    rfl
  · obtain ⟨q, FF, c, z, rfl, ⟨start, ts, bs, t, b, l, hc, hb, ht, hl, cs⟩, ⟨ok, b7, l2⟩, want⟩ := h
    have hr1 := hr.mono (show 1 ≤ 5 by decide)
    have hr3 := hr.mono (show 3 ≤ 5 by decide)
    have hr4 := hr.mono (show 4 ≤ 5 by decide)
    obtain ⟨fo, hfo⟩ : ∃ o : Option (El q), start = ov o := by
      rcases cs with ⟨_, e, _, _⟩ | ⟨_, k⟩
      · exact ⟨none, e⟩
      · exact k.first rfl
    obtain ⟨ft, hft⟩ : ∃ f : Po q, ts = vns f := by
      rcases cs with ⟨_, _, e, _⟩ | ⟨_, k⟩
      · exact ⟨[], e⟩
      · exact k.turns ok.1 rfl
    have lb : bs.length = z.st.length := by
      rcases cs with ⟨e, _, _, e2⟩ | ⟨_, k⟩
      · rw [e, e2]
        rfl
      · exact k.len.2
    have lt : ft.length = bs.length - 1 := by
      have e0 : ts.length = ft.length := by rw [hft, List.length_map]
      rcases cs with ⟨_, _, e1, e2⟩ | ⟨_, k⟩
      · rw [← e0, e1, e2]
        rfl
      · have := k.len.1
        rw [List.length_cons] at this
        omega
    have hbend : ∀ {i : Nat} {v : V}, bs[i]? = some v → ∃ (a : Addr) (f : Po q), v = .ref a ∧ IsB f ∧ f.length ≤ 7 ∧ SqT K H a (vns f) := by
      intro i v hi
      rcases cs with ⟨_, _, _, e2⟩ | ⟨_, k⟩
      · rw [e2] at hi
        cases hi
      · obtain ⟨a, x, e, m, s⟩ := k.bend hi
        exact ⟨a, x.2, e, good_all ok.1 x m, b7 x m, s⟩
    have hz : bs.length = 0 → start = .int (-1) := by
      intro h0
      rcases cs with ⟨_, e, _, _⟩ | ⟨ne, k⟩
      · exact e
      · exact absurd (List.eq_nil_of_length_eq_zero (by rw [← lb]; exact h0)) ne
    obtain ⟨si, hsi, si1, si2⟩ : ∃ i : Int, start = .int i ∧ -1 ≤ i ∧ i < (q : Int) := by
      cases fo with
      | none => exact ⟨-1, hfo, by omega, by omega⟩
      | some x => exact ⟨(x.val : Nat), hfo, by omega, by have := x.lt; omega⟩
    subst hft
    subst hsi
    refine ⟨_, (pss_cons (ps_if (PW.pt (pw_or (pt_not (pt_val (pe_callB call_isi (by rfl) m_isinstance (by decide +kernel) (pa_cons (pv 1) (pa_cons (pe_bltn (v := .ty "tuple") (by rfl) m_tuple (by decide +kernel) rfl) pa_nil))))) (pw_or1 (pt_cmpR op_ne (pe_callB call_len_seq (by rfl) m_len PySem.boot_len (pa_cons (pv 1) pa_nil)) pe_int (nomark _))))) (pss_one (ps_ret pe_bl)) pss_nil)
      (pss_cons (ps_asg (pv 1) (pg_tup rfl (pgs_cons (pg_name (i := 2) scIsStep.nd rfl (.inl rfl)) (pgs_cons (pg_name (i := 3) scIsStep.nd rfl (.inl rfl)) (pgs_cons (pg_name (i := 4) scIsStep.nd rfl (.inl rfl)) (pgs_cons (pg_name (i := 5) scIsStep.nd rfl (.inl rfl)) pgs_nil))))))
      (pss_cons (ps_if (PW.pt (pw_or (pt_not (pt_val (pe_call IS_INTEGER.ok hr1 (by rfl) IS_INTEGER.g IS_INTEGER.kp IS_INTEGER.b .nil pass0 (pa_cons (pv 2) pa_nil)))) (pw_or1 (pt_not (pt_chain op_le op_lt (pe_glob (v := .int (-1)) rfl gNT ⟨_, rfl⟩) (pv 2) (pv 0)))))) (pss_one (ps_ret pe_bl)) pss_nil)
      (pss_cons (ps_if (PW.pt (pw_or (pt_not (pt_val (pe_callB call_isi (by rfl) m_isinstance (by decide +kernel) (pa_cons (pv 3) (pa_cons (pe_bltn (v := .ty "tuple") (by rfl) m_tuple (by decide +kernel) rfl) pa_nil))))) (pw_or1 (pt_not (pt_val (pe_callB (cr_all (by rfl)) (by rfl) m_all (by decide +kernel) (pa_cons (pe_lc (own := [("bend", 6)]) (g := gName 6) (tt := tYes) rfl scIsStep.nd (pi_tup (pv 3)) (blkOk_by (N := nIsStep) (sc := defScope sIsStep) (by decide +kernel)) (fun _ _ _ _ _ => (pg_name (i := 6) scIsStep.nd rfl (.inl rfl))) (fun _ _ _ _ _ => pts_nil) (fun _ _ _ _ _ => (pe_call IS_BEND.ok hr (by rfl) IS_BEND.g IS_BEND.kp IS_BEND.b .nil pass0 (pa_cons (pv 0) (pa_cons (pv 6) pa_nil))))) pa_nil))))))) (pss_one (ps_ret pe_bl)) pss_nil)
      (pss_cons (ps_if (PW.pt (pw_and (pt_cmpR op_eq (pe_callB call_len_seq (by rfl) m_len PySem.boot_len (pa_cons (pv 3) pa_nil)) pe_int (nomark _)) (pw_and1 (pt_cmpR op_ne (pv 2) (pe_glob (v := .int (-1)) rfl gNT ⟨_, rfl⟩) (nomark _))))) (pss_one (ps_ret pe_bl)) pss_nil)
      (pss_one (ps_ret (pe_and (pe_call ARE_NUMBERS.ok hr3 (by rfl) ARE_NUMBERS.g ARE_NUMBERS.kp ARE_NUMBERS.b .nil pass0 (pa_cons (pv 0) (pa_cons (pv 4) pa_nil))) (pe_and (pe_cmpR op_eq (pe_callB call_len_seq (by rfl) m_len PySem.boot_len (pa_cons (pv 4) pa_nil)) (pe_callB (call_max2 rfl) (by rfl) m_max (by decide +kernel) (pa_cons (pe_op op_sub (pe_callB call_len_seq (by rfl) m_len PySem.boot_len (pa_cons (pv 3) pa_nil)) pe_int) (pa_cons pe_int pa_nil))) (nomark _)) (pe_one (pe_call IS_STRAIGHT.ok hr4 (by rfl) IS_STRAIGHT.g IS_STRAIGHT.kp IS_STRAIGHT.b .nil pass0 (pa_cons (pv 0) (pa_cons (pv 5) pa_nil))))))))))))), ?_⟩
    refine ⟨.ref c, rfl, .ref c, .ty "tuple", .type "tuple", .type "tuple", true, rfl, .ty _, sqT_ty hc, kit_ty (by decide +kernel), true, rfl, iteF ?_⟩
    refine ⟨.ref c, rfl, c, _, rfl, .inr hc, rfl, _, rfl, iteF ?_⟩
    refine ⟨.ref c, rfl, c, _, rfl, hc, rfl, _, [_, _, _], rfl, _, [_, _], rfl, _, [_], rfl, _, [], rfl, rfl, ?_⟩
    -- start
    refine ⟨.int si, rfl, si, rfl, true, rfl, iteF ?_⟩
    refine ⟨.int si, rfl, -1, si, rfl, rfl, true, ?_, iteT ⟨.int q, rfl, si, q, rfl, rfl, ?_⟩⟩
    · show V.bl (decide ((-1 : Int) ≤ si)) = _
      rw [decide_eq_true (by omega)]
    refine ⟨true, ?_, iteF ?_⟩
    · show V.bl (decide (si < (q : Int))) = _
      rw [decide_eq_true (by omega)]
    -- bends
    refine ⟨.ref b, rfl, .ref b, .ty "tuple", .type "tuple", .type "tuple", true, rfl, .ty _, sqT_ty hb, kit_ty (by decide +kernel), true, rfl, iteF ?_⟩
    refine ⟨.ref b, rfl, b, rfl, ⟨_, hb⟩, fun D nD => ?_⟩
    refine lc_tup (K := K) (a := b) (xs := bs) (fun i H' => Same H H' ∧ H' D = some (.lst ((List.replicate i true).map V.bl))) ⟨same_new nD, upd_same⟩ (fun i H' _ hW => BP.Same.tupS hW.1 hb) (fun i x H' hx hW => ?_) (fun H' hW => ?_)
    · obtain ⟨s1, hD⟩ := hW
      obtain ⟨a, f, rfl, f1, f2, f3⟩ := hbend hx
      have hi : i < bs.length := (List.getElem?_eq_some_iff.mp hx).1
      refine ⟨rfl, yes_kept ?_⟩
      refine ⟨.int q, rfl, .ref a, rfl, q, FF, a, f, rfl, BP.Same.tupS s1 f3, f1, f2, fun H3 s3 => ⟨_, s3 _ _ hD, ?_, fun b x e => ?_, ?_⟩⟩
      · rw [List.length_map, List.length_replicate]
        exact small1000 (by omega)
      · rw [upd_ne (ne_of_none e nD)]
        exact s3 _ _ (s1 b x e)
      · rw [upd_same, rep_add]
    · obtain ⟨s1, hD⟩ := hW
      refine ⟨D, _, rfl, .inl (.inl hD), true, by rw [all_rep], iteF ?_⟩
      have hb1 := BP.Same.tupS s1 hb
      refine ⟨.ref b, rfl, b, _, rfl, .inr hb1, rfl, _, rfl, ?_⟩
      refine ite2 (fun h0 => ?_) (fun h0 => iteF ?_)
      · have e0 : bs.length = 0 := by
          have := V.int.inj (of_decide_eq_true h0)
          omega
        have e1 : si = -1 := V.int.inj (hz e0)
        refine ⟨.int si, rfl, rfl, false, ?_, iteF ?_⟩
        · rw [decide_eq_true (show V.int si = V.int (-1) by rw [e1])]
          rfl
        · have ht1 := BP.Same.tupS s1 ht
          refine ⟨.int q, rfl, .ref t, rfl, q, FF, t, ft, rfl, ht1, by omega, fun H3 s3 => ⟨true, rfl, iteT ?_⟩⟩
          refine ⟨.ref t, rfl, t, _, rfl, .inr (BP.Same.tupS s3 ht1), .ref b, rfl, b, _, rfl, .inr (BP.Same.tupS s3 hb1), _, 1, rfl, rfl, _, _, rfl, rfl, true, ?_, iteT ⟨.int q, rfl, .ref l, rfl, q, FF, l, z.last, rfl, BP.Same.tupS (s1.trans s3) hl, ok.2, fun H4 s4 => want H4 ((s1.trans s3).trans s4)⟩⟩
          show V.bl (decide (V.int ((vns ft).length : Nat) = V.int (if (0 : Int) > ((bs.length : Nat) : Int) - 1 then 0 else ((bs.length : Nat) : Int) - 1))) = _
          rw [decide_eq_true]
          rw [List.length_map]
          by_cases h : (0 : Int) > ((bs.length : Nat) : Int) - 1
          · rw [if_pos h]
            congr 1
            omega
          · rw [if_neg h]
            congr 1
            omega
      · have ht1 := BP.Same.tupS s1 ht
        refine ⟨.int q, rfl, .ref t, rfl, q, FF, t, ft, rfl, ht1, by omega, fun H3 s3 => ⟨true, rfl, iteT ?_⟩⟩
        refine ⟨.ref t, rfl, t, _, rfl, .inr (BP.Same.tupS s3 ht1), .ref b, rfl, b, _, rfl, .inr (BP.Same.tupS s3 hb1), _, 1, rfl, rfl, _, _, rfl, rfl, true, ?_, iteT ⟨.int q, rfl, .ref l, rfl, q, FF, l, z.last, rfl, BP.Same.tupS (s1.trans s3) hl, ok.2, fun H4 s4 => want H4 ((s1.trans s3).trans s4)⟩⟩
        show V.bl (decide (V.int ((vns ft).length : Nat) = V.int (if (0 : Int) > ((bs.length : Nat) : Int) - 1 then 0 else ((bs.length : Nat) : Int) - 1))) = _
        rw [decide_eq_true]
        rw [List.length_map]
        by_cases h : (0 : Int) > ((bs.length : Nat) : Int) - 1
        · rw [if_pos h]
          congr 1
          omega
        · rw [if_neg h]
          congr 1
          omega
theorem ok_looks {f fI : Addr} {fd fdI : FuncData} (F : Fun K "look_at_steps" "look_at_steps" sLookAtSteps f fd) (IS_STEP : BP.Can P w K mg base "is_step" 6 pIsStep (spIsSp K) fI fdI) : FnOk P w K mg base CX0 7 f fd pLookAtSteps (spLookS K) := by
  refine F.ok scLookAtSteps (fun vs H Q E h => ?_) (fun cdv A outer s H vs Q E hr h => ?_)
  · obtain ⟨q, _, a, cs, rfl, _⟩ := h
    rfl
  · obtain ⟨q, FF, a, cs, rfl, ha, hcs, want⟩ := h
    refine ⟨_, (pss_one (ps_for PassesOwn.never rfl (pi_list (pv 1)) (pg_name (i := 2) scLookAtSteps.nd rfl (.inl rfl)) (pss_one (ps_if (pt_not (pt_val (pe_call IS_STEP.ok hr (by rfl) IS_STEP.g IS_STEP.kp IS_STEP.b .nil pass0 (pa_cons (pv 0) (pa_cons (pv 2) pa_nil))))) (pss_one ps_dead) pss_nil)))), ?_⟩
    refine ⟨.ref a, rfl, a, rfl, ⟨_, ha⟩, for_list (K := K) (a := a) (xs := cs.map V.ref) (fun i σ H' => Same H H' ∧ ∃ y2, σ = [some (.int q), some (.ref a), y2])
      ⟨fun _ _ z => z, _, rfl⟩ (fun i σ H' _ hW => hW.1.seq ha) (fun i x σ H' hi hW => ?_) (fun σ H' hW => ?_)⟩
    · obtain ⟨s1, y2, rfl⟩ := hW
      rw [List.getElem?_map] at hi
      cases e : cs[i]? with
      | none =>
        rw [e] at hi
        cases hi
      | some c =>
        rw [e] at hi
        obtain rfl := Option.some.inj hi
        obtain ⟨z, h1, h2⟩ := hcs c (List.mem_of_getElem? e)
        exact ⟨.int q, rfl, .ref c, rfl, q, FF, c, z, rfl, h1.kept fun _ _ => BP.Same.tupS s1, h2, fun H3 s3 => ⟨true, rfl, iteF ⟨s1.trans s3, _, rfl⟩⟩⟩
    · exact want H' hW.1
theorem one_in {q : Nat} [IsF q] {H : Hp} {c : Addr} {z : Sta q} (h : StepAt K H c z) (g : Fit z) : ∀ d ∈ [c], ∃ z : Sta q, StepAt K H d z ∧ Fit z := fun d hd => ⟨z, by rw [List.mem_singleton.mp hd]; exact h, g⟩
theorem two_in {q : Nat} [IsF q] {H : Hp} {c d : Addr} {y z : Sta q} (h : StepAt K H c y) (g : Fit y) (h2 : StepAt K H d z) (g2 : Fit z) : ∀ e ∈ [c, d], ∃ z : Sta q, StepAt K H e z ∧ Fit z := fun e he => by
  rcases List.mem_cons.mp he with z1 | z1
  · exact ⟨y, by rw [z1]; exact h, g⟩
  · exact ⟨z, by rw [List.mem_singleton.mp z1]; exact h2, g2⟩
theorem ok_sthen {f fSR fRBS : Addr} {fd fdSR fdRBS : FuncData} (F : Fun K "step_then" "step_then" sStepThen f fd) (SR : BP.Can P w K mg base "step_and_row" 8 pStepAndRow (spSR K) fSR fdSR) (RBS : BP.Can P w K mg base "row_by_step" 2 pRowByStep (spRow K) fRBS fdRBS) : FnOk P w K mg base CX0 9 f fd pStepThen (spProd K) := by
  refine F.ok scStepThen (fun vs H Q E h => ?_) (fun cdv A outer s H vs Q E hr h => ?_)
  · obtain ⟨q, _, c, d, y, z, rfl, _⟩ := h
    rfl
  · obtain ⟨q, FF, c, d, y, z, rfl, hc, fc, hd, fz, want⟩ := h
    refine ⟨_, (pss_one (ps_ret (pe_call SR.ok hr (by rfl) SR.g SR.kp SR.b .nil pass0 (pa_cons (pv 0) (pa_cons (pv 1) (pa_cons (pe_call RBS.ok (hr.mono (show 2 ≤ 8 by decide)) (by rfl) RBS.g RBS.kp RBS.b .nil pass0 (pa_cons (pv 2) pa_nil)) pa_nil)))))), ?_⟩
    refine ⟨.int q, rfl, .ref c, rfl, .ref d, rfl, q, FF, d, z, rfl, hd, Nat.le_trans fz.2.2 (by decide), fun r H2 s2 nr hs => ?_⟩
    have l1 := rowOf_len z
    have l2 := fz.2.2
    have l3 := fc.2.2
    exact ⟨q, FF, c, r, y, rowOf z, rfl, hc.kept fun _ _ => BP.Same.tupS s2, hs.e, fc.1, fc.2.1, rowOf_ok7 fz.1 fz.2.1, by omega, fun u H3 s3 nu hu => want u H3 (s2.trans s3) (BP.none_of s2 nu) hu⟩
theorem ok_prod {f fLOOK fST : Addr} {fd fdLOOK fdST : FuncData} (F : Fun K "product" "product" sProduct f fd) (LOOK : BP.Can P w K mg base "look_at_steps" 7 pLookAtSteps (spLookS K) fLOOK fdLOOK) (ST : BP.Can P w K mg base "step_then" 9 pStepThen (spProd K) fST fdST) : FnOk P w K mg base CX0 10 f fd pProduct (spProd K) := by
  refine F.ok scProduct (fun vs H Q E h => ?_) (fun cdv A outer s H vs Q E hr h => ?_)
  · obtain ⟨q, _, c, d, y, z, rfl, _⟩ := h
    rfl
  · obtain ⟨q, FF, c, d, y, z, rfl, hc, fc, hd, fz, want⟩ := h
    refine ⟨_, (pss_cons (ps_expr (pe_call LOOK.ok (hr.mono (show 7 ≤ 9 by decide)) (by rfl) LOOK.g LOOK.kp LOOK.b .nil pass0 (pa_cons (pv 0) (pa_cons (pe_lst (pa_cons (pv 1) (pa_cons (pv 2) pa_nil))) pa_nil))))
      (pss_one (ps_ret (pe_call ST.ok hr (by rfl) ST.g ST.kp ST.b .nil pass0 (pa_cons (pv 0) (pa_cons (pv 1) (pa_cons (pv 2) pa_nil))))))), ?_⟩
    refine ⟨.int q, rfl, .ref c, rfl, .ref d, rfl, (by show 2 ≤ sizeLine; decide), fun l nl => ?_⟩
    have s0 := same_new (o := .lst [V.ref c, V.ref d]) nl
    have hc0 := hc.kept fun _ _ => BP.Same.tupS s0
    have hd0 := hd.kept fun _ _ => BP.Same.tupS s0
    refine ⟨q, FF, l, [c, d], rfl, .inl (.inl upd_same), two_in hc0 fc hd0 fz, fun H1 s1 => ?_⟩
    exact ⟨.int q, rfl, .ref c, rfl, .ref d, rfl, q, FF, c, d, y, z, rfl, hc0.kept fun _ _ => BP.Same.tupS s1, fc, hd0.kept fun _ _ => BP.Same.tupS s1, fz, fun u H3 s3 nu hu => want u H3 (s0.trans (s1.trans s3)) (BP.none_of (s0.trans s1) nu) hu⟩
end
end K13
set_option Elab.async false
set_option linter.all false
set_option maxRecDepth 100000
set_option maxHeartbeats 400000
set_option pp.maxSteps 2000
namespace BP
open PySem PySem.Spec PyProof.Rows L2 Fld
def sortS (b : Bool) : Str := if b then "bent" else "straight"
section
variable {q : Nat} [FF : IsF q] {K : PySem.W.Frag} {H H' : Hp}
/-- bends, one behind the other -/
def FsAt (K : PySem.W.Frag) (H : Hp) : List V → List (Po q) → Prop
  | [], [] => True
  | v :: vs, f :: fs => (∃ a : Addr, v = .ref a ∧ SqT K H a (vns f)) ∧ FsAt K H vs fs
  | _, _ => False
theorem FsAt.kept (s : Same H H') : ∀ {vs : List V} {fs : List (Po q)}, FsAt K H vs fs → FsAt K H' vs fs
  | [], [], _ => True.intro
  | _ :: _, _ :: _, ⟨⟨a, e, h⟩, k⟩ => ⟨⟨a, e, BP.Same.tupS s h⟩, FsAt.kept s k⟩
  | [], _ :: _, h => h.elim
  | _ :: _, [], h => h.elim
theorem FsAt.len : ∀ {vs : List V} {fs : List (Po q)}, FsAt K H vs fs → vs.length = fs.length
  | [], [], _ => rfl
  | _ :: _, _ :: _, ⟨_, k⟩ => congrArg (· + 1) (FsAt.len k)
  | [], _ :: _, h => h.elim
  | _ :: _, [], h => h.elim
theorem FsAt.get : ∀ {vs : List V} {fs : List (Po q)}, FsAt K H vs fs → ∀ {i : Nat} {v : V}, vs[i]? = some v → ∃ (a : Addr) (f : Po q), v = .ref a ∧ fs[i]? = some f ∧ SqT K H a (vns f)
  | [], [], _, i, v, h => by cases h
  | _ :: _, f :: _, ⟨⟨a, e, h⟩, k⟩, 0, v, hv => ⟨a, f, by rw [← Option.some.inj hv]; exact e, rfl, h⟩
  | _ :: _, _ :: _, ⟨_, k⟩, i + 1, v, hv => FsAt.get k hv
  | [], _ :: _, h, _, _, _ => h.elim
  | _ :: _, [], h, _, _, _ => h.elim
theorem FsAt.take : ∀ {vs : List V} {fs : List (Po q)} (n : Nat), FsAt K H vs fs → FsAt K H (vs.take n) (fs.take n)
  | _, _, 0, _ => True.intro
  | [], [], _ + 1, _ => True.intro
  | _ :: _, _ :: _, n + 1, ⟨h, k⟩ => ⟨h, FsAt.take n k⟩
  | [], _ :: _, _ + 1, h => h.elim
  | _ :: _, [], _ + 1, h => h.elim
theorem FsAt.snoc {a : Addr} {f : Po q} (h : SqT K H a (vns f)) : ∀ {vs : List V} {fs : List (Po q)}, FsAt K H vs fs → FsAt K H (vs ++ [.ref a]) (fs ++ [f])
  | [], [], _ => ⟨⟨a, rfl, h⟩, True.intro⟩
  | _ :: _, _ :: _, ⟨h1, k⟩ => ⟨h1, FsAt.snoc h k⟩
  | [], _ :: _, h => h.elim
  | _ :: _, [], h => h.elim
theorem stk_fs : ∀ {st : List (Option (El q) × Po q)} {ts bs : List V}, Stk K H st ts bs → FsAt K H bs (st.map (·.2)).reverse
  | [], _, _, ⟨_, e⟩ => by
    rw [e]
    exact True.intro
  | (o, g) :: r, _, _, ⟨ts', bs', a, e1, e2, hg, k⟩ => by
    rw [e2, List.map_cons, List.reverse_cons]
    exact FsAt.snoc hg (stk_fs k)
/-- a place: its sort, start, turns and bends, the first one first -/
def PlAt (K : PySem.W.Frag) (H : Hp) (c : Addr) (b : Bool) (o : Option (El q)) (us : Po q) (fs : List (Po q)) : Prop :=
  ∃ (bs : List V) (p t : Addr), SqT K H c [.str (sortS b), ov o, .ref p, .ref t] ∧ SqT K H p bs ∧ FsAt K H bs fs ∧ SqT K H t (vns us)
theorem PlAt.kept {c : Addr} {b : Bool} {o : Option (El q)} {us : Po q} {fs : List (Po q)} (h : PlAt K H c b o us fs) (s : Same H H') : PlAt K H' c b o us fs := by
  obtain ⟨bs, p, t, h1, h2, h3, h4⟩ := h
  exact ⟨bs, p, t, BP.Same.tupS s h1, BP.Same.tupS s h2, h3.kept s, BP.Same.tupS s h4⟩
structure PlOk (b : Bool) (o : Option (El q)) (us : Po q) (fs : List (Po q)) : Prop where
  fB : ∀ f ∈ fs, IsB f ∧ f.length ≤ 7
  lf : fs.length ≤ 200
  bent : b = true → us.length = fs.length
  str : b = false → us.length = fs.length - 1 ∧ (fs = [] → o = none)
theorem PlOk.lu {b : Bool} {o : Option (El q)} {us : Po q} {fs : List (Po q)} (h : PlOk b o us fs) : us.length ≤ 200 := by
  have := h.lf
  cases b with
  | true =>
    have := h.bent rfl
    omega
  | false =>
    have := (h.str rfl).1
    omega
end
def spIsPl (K : PySem.W.Frag) : Sp := fun vs H Q _ => ∃ (q : Nat) (_ : IsF q) (c : Addr) (b : Bool) (o : Option (El q)) (us : Po q) (fs : List (Po q)), vs = [.int q, .ref c] ∧ PlAt K H c b o us fs ∧ PlOk b o us fs ∧ ∀ H', Same H H' → Q (.bl true) H'
def spLookP (K : PySem.W.Frag) : Sp := fun vs H Q _ => ∃ (q : Nat) (_ : IsF q) (a : Addr) (cs : List Addr), vs = [.int q, .ref a] ∧ SqL K H a (cs.map V.ref) ∧ (∀ c ∈ cs, ∃ (b : Bool) (o : Option (El q)) (us : Po q) (fs : List (Po q)), PlAt K H c b o us fs ∧ PlOk b o us fs) ∧ ∀ H', Same H H' → Q .non H'
end BP
namespace K13
open PySem PySem.Spec PyProof.Rows L2 BP Fld
section
variable {P : Program} {w : World} {K : PySem.W.Frag} {mg : Str → Option Value} {base : Heap}
theorem ok_ispl {f fI fB fN : Addr} {fd fdI fdB fdN : FuncData} {tk t1 t2 : Tok} (F : Fun K "is_place" "is_place" sIsPlace f fd) (II : BP.Can P w K mg base "is_integer" 1 pIsInteger spI1 fI fdI) (IB : BP.Can P w K mg base "is_bend" 5 pIsBend (spIsBd K) fB fdB)
    (AN : BP.Can P w K mg base "are_numbers" 3 pAreNumbers (spAreN K) fN fdN) (gNT : mg "NO_TURN" = some (.int (-1) tk)) (gST : mg "STRAIGHT" = some (.str "straight" t1)) (gBE : mg "BENT" = some (.str "bent" t2)) (m_len : mg "len" = none) (m_tuple : mg "tuple" = none) (m_isinstance : mg "isinstance" = none) (m_all : mg "all" = none) : FnOk P w K mg base CX0 6 f fd pIsPlace (spIsPl K) := by
  refine F.ok scIsPlace (fun vs H Q E h => ?_) (fun cdv A outer s H vs Q E hr h => ?_)
  · obtain ⟨q, _, c, b, o, us, fs, rfl, _⟩ := h
    rfl
  · obtain ⟨q, FF, c, b, o, us, fs, rfl, ⟨bs, p, t, hc, hb, hF, ht⟩, ok, want⟩ := h
    have hr1 := hr.mono (show 1 ≤ 5 by decide)
    have hr3 := hr.mono (show 3 ≤ 5 by decide)
    have lb := hF.len
    have l2 := ok.lf
    have lu := ok.lu
    obtain ⟨si, hsi, si1, si2⟩ : ∃ i : Int, ov o = .int i ∧ -1 ≤ i ∧ i < (q : Int) := by
      cases o with
      | none => exact ⟨-1, rfl, by omega, by omega⟩
      | some x => exact ⟨(x.val : Nat), rfl, by omega, by have := x.lt; omega⟩
    rw [hsi] at hc
    refine ⟨_, (pss_cons (ps_if (PW.pt (pw_or (pt_not (pt_val (pe_callB call_isi (by rfl) m_isinstance (by decide +kernel) (pa_cons (pv 1) (pa_cons (pe_bltn (v := .ty "tuple") (by rfl) m_tuple (by decide +kernel) rfl) pa_nil))))) (pw_or1 (pt_cmpR op_ne (pe_callB call_len_seq (by rfl) m_len PySem.boot_len (pa_cons (pv 1) pa_nil)) pe_int (nomark _))))) (pss_one (ps_ret pe_bl)) pss_nil)
      (pss_cons (ps_asg (pv 1) (pg_tup rfl (pgs_cons (pg_name (i := 2) scIsPlace.nd rfl (.inl rfl)) (pgs_cons (pg_name (i := 3) scIsPlace.nd rfl (.inl rfl)) (pgs_cons (pg_name (i := 4) scIsPlace.nd rfl (.inl rfl)) (pgs_cons (pg_name (i := 5) scIsPlace.nd rfl (.inl rfl)) pgs_nil))))))
      (pss_cons (ps_if (PW.pt (pw_or (pt_not (pt_val (pe_call II.ok hr1 (by rfl) II.g II.kp II.b .nil pass0 (pa_cons (pv 3) pa_nil)))) (pw_or (pt_not (pt_chain op_le op_lt (pe_glob (v := .int (-1)) rfl gNT ⟨_, rfl⟩) (pv 3) (pv 0))) (pw_or1 (pt_not (pt_val (pe_call AN.ok hr3 (by rfl) AN.g AN.kp AN.b .nil pass0 (pa_cons (pv 0) (pa_cons (pv 5) pa_nil))))))))) (pss_one (ps_ret pe_bl)) pss_nil)
      (pss_cons (ps_if (PW.pt (pw_or (pt_not (pt_val (pe_callB call_isi (by rfl) m_isinstance (by decide +kernel) (pa_cons (pv 4) (pa_cons (pe_bltn (v := .ty "tuple") (by rfl) m_tuple (by decide +kernel) rfl) pa_nil))))) (pw_or1 (pt_not (pt_val (pe_callB (cr_all (by rfl)) (by rfl) m_all (by decide +kernel) (pa_cons (pe_lc (own := [("bend", 6)]) (g := gName 6) (tt := tYes) rfl scIsPlace.nd (pi_tup (pv 4)) (blkOk_by (N := nIsPlace) (sc := defScope sIsPlace) (by decide +kernel)) (fun _ _ _ _ _ => (pg_name (i := 6) scIsPlace.nd rfl (.inl rfl))) (fun _ _ _ _ _ => pts_nil) (fun _ _ _ _ _ => (pe_call IB.ok hr (by rfl) IB.g IB.kp IB.b .nil pass0 (pa_cons (pv 0) (pa_cons (pv 6) pa_nil))))) pa_nil))))))) (pss_one (ps_ret pe_bl)) pss_nil)
      (pss_cons (ps_if (PW.pt (pw_and (pt_cmpR op_eq (pv 2) (pe_glob (v := .str "straight") rfl gST ⟨_, rfl⟩) (nomark _)) (pw_and1 (pt_cmpR op_eq (pe_callB call_len_seq (by rfl) m_len PySem.boot_len (pa_cons (pv 4) pa_nil)) pe_int (nomark _))))) (pss_one (ps_ret (pe_and (pe_cmpR op_eq (pv 3) (pe_glob (v := .int (-1)) rfl gNT ⟨_, rfl⟩) (nomark _)) (pe_one (pe_cmpR op_eq (pe_callB call_len_seq (by rfl) m_len PySem.boot_len (pa_cons (pv 5) pa_nil)) pe_int (nomark _)))))) pss_nil)
      (pss_one (ps_ret (pe_or (pe_and (pe_cmpR op_eq (pv 2) (pe_glob (v := .str "straight") rfl gST ⟨_, rfl⟩) (nomark _)) (pe_one (pe_cmpR op_eq (pe_callB call_len_seq (by rfl) m_len PySem.boot_len (pa_cons (pv 5) pa_nil)) (pe_op op_sub (pe_callB call_len_seq (by rfl) m_len PySem.boot_len (pa_cons (pv 4) pa_nil)) pe_int) (nomark _)))) (pe_one (pe_and (pe_cmpR op_eq (pv 2) (pe_glob (v := .str "bent") rfl gBE ⟨_, rfl⟩) (nomark _)) (pe_one (pe_cmpR op_eq (pe_callB call_len_seq (by rfl) m_len PySem.boot_len (pa_cons (pv 5) pa_nil)) (pe_callB call_len_seq (by rfl) m_len PySem.boot_len (pa_cons (pv 4) pa_nil)) (nomark _))))))))))))), ?_⟩
    refine ⟨.ref c, rfl, .ref c, .ty "tuple", .type "tuple", .type "tuple", true, rfl, .ty _, sqT_ty hc, kit_ty (by decide +kernel), true, rfl, iteF ?_⟩
    refine ⟨.ref c, rfl, c, _, rfl, .inr hc, rfl, _, rfl, iteF ?_⟩
    refine ⟨.ref c, rfl, c, _, rfl, hc, rfl, _, [_, _, _], rfl, _, [_, _], rfl, _, [_], rfl, _, [], rfl, rfl, ?_⟩
    refine ⟨.int si, rfl, si, rfl, true, rfl, iteF ?_⟩
    refine ⟨.int si, rfl, -1, si, rfl, rfl, true, ?_, iteT ⟨.int q, rfl, si, q, rfl, rfl, ?_⟩⟩
    · show V.bl (decide ((-1 : Int) ≤ si)) = _
      rw [decide_eq_true (by omega)]
    refine ⟨true, ?_, iteF ?_⟩
    · show V.bl (decide (si < (q : Int))) = _
      rw [decide_eq_true (by omega)]
    refine ⟨.int q, rfl, .ref t, rfl, q, FF, t, us, rfl, ht, by omega, fun H0 s0 => ⟨true, rfl, iteF ?_⟩⟩
    have hb0 := BP.Same.tupS s0 hb
    have ht0 := BP.Same.tupS s0 ht
    refine ⟨.ref p, rfl, .ref p, .ty "tuple", .type "tuple", .type "tuple", true, rfl, .ty _, sqT_ty hb0, kit_ty (by decide +kernel), true, rfl, iteF ?_⟩
    refine ⟨.ref p, rfl, p, rfl, ⟨_, hb0⟩, fun D nD => ?_⟩
    refine lc_tup (K := K) (a := p) (xs := bs) (fun i H' => Same H0 H' ∧ H' D = some (.lst ((List.replicate i true).map V.bl))) ⟨same_new nD, upd_same⟩ (fun i H' _ hW => BP.Same.tupS hW.1 hb0) (fun i x H' hx hW => ?_) (fun H' hW => ?_)
    · obtain ⟨s1, hD⟩ := hW
      obtain ⟨a, f, rfl, fi, f3⟩ := hF.get hx
      obtain ⟨f1, f2⟩ := ok.fB f (List.mem_of_getElem? fi)
      have hi : i < bs.length := (List.getElem?_eq_some_iff.mp hx).1
      refine ⟨rfl, yes_kept ?_⟩
      refine ⟨.int q, rfl, .ref a, rfl, q, FF, a, f, rfl, BP.Same.tupS (s0.trans s1) f3, f1, f2, fun H3 s3 => ⟨_, s3 _ _ hD, ?_, fun b x e => ?_, ?_⟩⟩
      · rw [List.length_map, List.length_replicate]
        exact small1000 (by omega)
      · rw [upd_ne (ne_of_none e nD)]
        exact s3 _ _ (s1 b x e)
      · rw [upd_same, rep_add]
    obtain ⟨s1, hD⟩ := hW
    refine ⟨D, _, rfl, .inl (.inl hD), true, by rw [all_rep], iteF ?_⟩
    have hb1 := BP.Same.tupS s1 hb0
    have ht1 := BP.Same.tupS s1 ht0
    have fin := want H' (s0.trans s1)
    have lus : (vns us).length = us.length := List.length_map ..
    have ne : (V.str "bent" = V.str "straight") → False := fun z => absurd (V.str.inj z) (by decide +kernel)
    cases b with
    | false =>
      obtain ⟨k1, k2⟩ := ok.str rfl
      by_cases h0 : bs.length = 0
      · have fs0 : fs = [] := List.length_eq_zero_iff.mp (by omega)
        have e1 : si = -1 := by
          rw [k2 fs0] at hsi
          exact (V.int.inj hsi).symm
        refine ⟨_, rfl, rfl, true, rfl, iteT ⟨.ref p, rfl, p, _, rfl, .inr hb1, rfl, true, ?_, iteT ?_⟩⟩
        · show V.bl (decide (V.int ((bs.length : Nat) : Int) = V.int 0)) = _
          rw [h0]
          rfl
        · refine ⟨.int si, rfl, rfl, true, ?_, iteT ⟨.ref t, rfl, t, _, rfl, .inr ht1, rfl, ?_⟩⟩
          · show V.bl (decide (V.int si = V.int (-1))) = _
            rw [e1]
            rfl
          · show Q (V.bl (decide (V.int (((vns us).length : Nat) : Int) = V.int 0))) H'
            rw [lus, k1, fs0]
            exact fin
      · refine ⟨_, rfl, rfl, true, rfl, iteT ⟨.ref p, rfl, p, _, rfl, .inr hb1, rfl, false, ?_, iteF ?_⟩⟩
        · show V.bl (decide (V.int ((bs.length : Nat) : Int) = V.int 0)) = _
          rw [decide_eq_false (fun z => h0 (by have := V.int.inj z; omega))]
        · refine ⟨_, rfl, rfl, true, rfl, iteT ⟨.ref t, rfl, t, _, rfl, .inr ht1, .ref p, rfl, p, _, rfl, .inr hb1, _, 1, rfl, rfl, rfl, true, ?_, iteT fin⟩⟩
          show V.bl (decide (V.int (((vns us).length : Nat) : Int) = V.int (((bs.length : Nat) : Int) - 1))) = _
          rw [lus, k1, lb, show (((fs.length - 1 : Nat)) : Int) = ((fs.length : Nat) : Int) - 1 by omega, decide_eq_true rfl]
    | true =>
      have k1 := ok.bent rfl
      have nf : V.bl (decide (V.str (sortS true) = V.str "straight")) = V.bl false := by
        rw [decide_eq_false (show ¬ V.str (sortS true) = V.str "straight" from ne)]
      refine ⟨_, rfl, rfl, false, nf, iteF ?_⟩
      refine ⟨_, rfl, rfl, false, nf, iteF ⟨false, rfl, iteF ?_⟩⟩
      refine ⟨_, rfl, rfl, true, rfl, iteT ⟨.ref t, rfl, t, _, rfl, .inr ht1, .ref p, rfl, p, _, rfl, .inr hb1, rfl, ?_⟩⟩
      show Q (V.bl (decide (V.int (((vns us).length : Nat) : Int) = V.int ((bs.length : Nat) : Int)))) H'
      rw [lus, k1, lb, decide_eq_true rfl]
      exact fin
theorem ok_lookp {f fI : Addr} {fd fdI : FuncData} (F : Fun K "look_at_places" "look_at_places" sLookAtPlaces f fd) (IP : BP.Can P w K mg base "is_place" 6 pIsPlace (spIsPl K) fI fdI) : FnOk P w K mg base CX0 7 f fd pLookAtPlaces (spLookP K) := by
  refine F.ok scLookAtPlaces (fun vs H Q E h => ?_) (fun cdv A outer s H vs Q E hr h => ?_)
  · obtain ⟨q, _, a, cs, rfl, _⟩ := h
    rfl
  · obtain ⟨q, FF, a, cs, rfl, ha, hc, want⟩ := h
    refine ⟨_, (pss_one (ps_for PassesOwn.never rfl (pi_list (pv 1)) (pg_name (i := 2) scLookAtPlaces.nd rfl (.inl rfl)) (pss_one (ps_if (pt_not (pt_val (pe_call IP.ok hr (by rfl) IP.g IP.kp IP.b .nil pass0 (pa_cons (pv 0) (pa_cons (pv 2) pa_nil))))) (pss_one ps_dead) pss_nil)))), ?_⟩
    refine ⟨.ref a, rfl, a, rfl, ⟨_, ha⟩, for_list (K := K) (a := a) (xs := cs.map V.ref) (fun i σ H' => Same H H' ∧ ∃ y2, σ = [some (.int q), some (.ref a), y2])
      ⟨fun _ _ z => z, _, rfl⟩ (fun i σ H' _ hW => hW.1.seq ha) (fun i x σ H' hi hW => ?_) (fun σ H' hW => ?_)⟩
    · obtain ⟨s1, y2, rfl⟩ := hW
      obtain ⟨c, hcm, rfl⟩ := List.mem_map.mp (List.mem_of_getElem? hi)
      obtain ⟨b, o, us, fs, hp, ok⟩ := hc c hcm
      exact ⟨.int q, rfl, .ref c, rfl, q, FF, c, b, o, us, fs, rfl, hp.kept s1, ok, fun H3 s3 => ⟨true, rfl, iteF ⟨s1.trans s3, _, rfl⟩⟩⟩
    · exact want H' hW.1
end
end K13
set_option Elab.async false
set_option linter.all false
set_option maxRecDepth 100000
set_option maxHeartbeats 4000000
set_option pp.maxSteps 400
namespace BP
open PySem PySem.Spec PyProof.Rows L2 Fld
section
variable {q : Nat} [F : IsF q] {K : PySem.W.Frag} {H : Hp}
def tpd (f : Po q) : PyData := .tuple (f.map fun (x : El q) => PyData.int (x.val : Nat))
theorem dpAll_snoc : ∀ {xs : List V} {ds : List PyData} {x : V} {d : PyData}, DpAll K H xs ds → Dp K H x d → DpAll K H (xs ++ [x]) (ds ++ [d])
  | _, _, _, _, .nil, h => .cons h .nil
  | _, _, _, _, .cons a b, h => .cons a (dpAll_snoc b h)
end
end BP
namespace BP
open PySem PySem.Spec PyProof.Rows L2 Fld
structure Sm (d : PyData) (w k : Nat) : Prop where
  lay : d.canLay0 = true
  sh : d.showable = true
  short : d.intsShort 13 = true
  dep : d.depth ≤ k
  wt : d.weight ≤ w
structure SmAll (xs : List PyData) (w k : Nat) : Prop where
  lay : PyData.canLayAll0 xs = true
  sh : PyData.showableAll xs = true
  short : PyData.intsShortAll 13 xs = true
  dep : PyData.depthAll xs ≤ k
  wt : PyData.weightAll xs ≤ w
theorem SmAll.nil {w k : Nat} : SmAll [] w k := ⟨by simp [PyData.canLayAll0], by simp [PyData.showableAll], by simp [PyData.intsShortAll], by simp [PyData.depthAll], by simp [PyData.weightAll]⟩
theorem SmAll.cons {d : PyData} {xs : List PyData} {w w' k : Nat} (h : Sm d w k) (g : SmAll xs w' k) : SmAll (d :: xs) (w + 1 + w') k := by
  obtain ⟨h1, h2, h3, h4, h5⟩ := h
  obtain ⟨g1, g2, g3, g4, g5⟩ := g
  refine ⟨by simp [PyData.canLayAll0, h1, g1], by simp [PyData.showableAll, h2, g2], by simp [PyData.intsShortAll, h3, g3], ?_, ?_⟩
  · simp only [PyData.depthAll]
    omega
  · simp only [PyData.weightAll]
    omega
theorem Sm.tup {xs : List PyData} {w k : Nat} (h : SmAll xs w k) : Sm (.tuple xs) w (k + 1) := by
  obtain ⟨h1, h2, h3, h4, h5⟩ := h
  refine ⟨by simp [PyData.canLay0, h1], by simp [PyData.showable, h2], by simp [PyData.intsShort, h3], ?_, ?_⟩
  · simp only [PyData.depth]
    omega
  · simp only [PyData.weight]
    omega
theorem Sm.more {d : PyData} {w k w' k' : Nat} (h : Sm d w k) (hw : w ≤ w') (hk : k ≤ k') : Sm d w' k' := ⟨h.lay, h.sh, h.short, Nat.le_trans h.dep hk, Nat.le_trans h.wt hw⟩
theorem SmAll.more {d : List PyData} {w k w' k' : Nat} (h : SmAll d w k) (hw : w ≤ w') (hk : k ≤ k') : SmAll d w' k' := ⟨h.lay, h.sh, h.short, Nat.le_trans h.dep hk, Nat.le_trans h.wt hw⟩
theorem Sm.int {i : Int} (h : i.natAbs < 32) : Sm (.int i) 6 0 := by
  have l5 : i.natAbs.log2 ≤ 5 := by
    by_cases h0 : i.natAbs = 0
    · rw [h0]
      decide
    · have := (Nat.log2_lt h0 (k := 5)).mpr h
      omega
  refine ⟨by simp [PyData.canLay0], ?_, ?_, by simp [PyData.depth], ?_⟩
  · simp only [PyData.showable]
    exact decide_eq_true (by omega)
  · simp only [PyData.intsShort]
    exact decide_eq_true (PyData.shown_int_le (Nat.lt_of_lt_of_le h (by decide)))
  · simp only [PyData.weight]
    split <;> omega
theorem rRepr_of {K : PySem.W.Frag} {H : Hp} {a : Addr} {d : PyData} {w k : Nat} {Q : VK} (h : Dp K H (.ref a) d) (s : Sm d w k) (hk : k ≤ 40) (hw : w ≤ 2 ^ 20) (q : Q (.str d.shown) H) : rRepr K [.ref a] H Q :=
  ⟨a, d, rfl, h, s.sh, PyData.hasDict_of_canLay d s.lay, Nat.le_trans s.dep hk, PyData.shown_fits (B := 13) (by decide) (Nat.le_refl _) (PyData.leavesShort_of_canLay0 13 d s.lay s.short) (Nat.le_trans s.wt hw), q⟩
section
variable {q : Nat} [F : IsF q] {K : PySem.W.Frag} {H : Hp}
def mvD (m : Mat q) : PyData := tpd [m.a, m.b, m.c, m.d, m.e, m.f]
theorem dp_mv {a : Addr} {m : Mat q} (h : SqT K H a (mv m)) : Dp K H (.ref a) (mvD m) := .tup h (dpAll_po [m.a, m.b, m.c, m.d, m.e, m.f])
theorem dp_po {a : Addr} {f : Po q} (h : SqT K H a (vns f)) : Dp K H (.ref a) (tpd f) := .tup h (dpAll_po f)
theorem el_small (x : El q) : ((x.val : Nat) : Int).natAbs < 32 := by
  have h1 := x.lt
  have h2 := le16 F.mem
  omega
theorem sm_ints : ∀ f : Po q, SmAll (f.map fun (x : El q) => PyData.int (x.val : Nat)) (7 * f.length) 0
  | [] => .nil
  | x :: f => (SmAll.cons (Sm.int (el_small x)) (sm_ints f)).more (by rw [List.length_cons]; omega) (Nat.le_refl _)
theorem sm_po (f : Po q) : Sm (tpd f) (7 * f.length) 1 := Sm.tup (sm_ints f)
theorem sm_bends : ∀ st : List (Option (El q) × Po q), B7 st → SmAll (st.map fun x => tpd x.2) (50 * st.length) 1
  | [], _ => .nil
  | x :: r, h => by
    have h7 := h x (List.mem_cons_self ..)
    refine (SmAll.cons (sm_po x.2) (sm_bends r fun y hy => h y (List.mem_cons_of_mem _ hy))).more ?_ (Nat.le_refl _)
    rw [List.length_cons]
    omega
/-- a turn as a whole number -/
def oi : Option (El q) → Int
  | none => -1
  | some t => (t.val : Nat)
theorem ov_oi : ∀ o : Option (El q), ov o = .int (oi o)
  | none => rfl
  | some _ => rfl
theorem oi_small : ∀ o : Option (El q), (oi o).natAbs < 32
  | none => by
    show ((-1 : Int)).natAbs < 32
    decide
  | some t => el_small t
def tsI (st : List (Option (El q) × Po q)) : List Int := (st.map fun x => oi x.1).reverse
def bsD (st : List (Option (El q) × Po q)) : List PyData := (st.map fun x => tpd x.2).reverse
/-- a step as plain data -/
def stD (z : Sta q) : PyData := .tuple [.int ((tsI z.st).headD (-1)), .tuple (bsD z.st), .tuple ((tsI z.st).tail.map PyData.int), mvD z.last]
theorem stk_data : ∀ {st : List (Option (El q) × Po q)} {ts bs : List V}, Stk K H st ts bs → ts = (tsI st).map V.int ∧ DpAll K H bs (bsD st)
  | [], _, _, ⟨e1, e2⟩ => by
    rw [e1, e2]
    exact ⟨rfl, .nil⟩
  | (o, g) :: r, _, _, ⟨ts', bs', a, e1, e2, hg, k⟩ => by
    obtain ⟨h1, h2⟩ := stk_data k
    have t1 : tsI ((o, g) :: r) = tsI r ++ [oi o] := by
      unfold tsI
      rw [List.map_cons, List.reverse_cons]
    have t2 : bsD ((o, g) :: r) = bsD r ++ [tpd g] := by
      unfold bsD
      rw [List.map_cons, List.reverse_cons]
    rw [t1, t2, e1, e2, h1, ov_oi]
    refine ⟨?_, dpAll_snoc h2 (dp_po hg)⟩
    rw [List.map_append]
    rfl
theorem dp_step {c : Addr} {z : Sta q} (h : StepAt K H c z) : Dp K H (.ref c) (stD z) := by
  obtain ⟨start, ts, bs, t, b, l, h1, h2, h3, h4, h5⟩ := h
  have e : start = .int ((tsI z.st).headD (-1)) ∧ ts = (tsI z.st).tail.map V.int ∧ DpAll K H bs (bsD z.st) := by
    rcases h5 with ⟨e1, e2, e3, e4⟩ | ⟨e1, e2⟩
    · rw [e1, e2, e3, e4]
      exact ⟨rfl, rfl, .nil⟩
    · obtain ⟨g1, g2⟩ := stk_data e2
      cases h : tsI z.st with
      | nil =>
        rw [h] at g1
        cases g1
      | cons x y =>
        rw [h] at g1
        obtain ⟨w1, w2⟩ := List.cons.inj g1
        exact ⟨w1, w2, g2⟩
  obtain ⟨e1, e2, e3⟩ := e
  rw [e1] at h1
  rw [e2] at h3
  exact .tup h1 (.cons (.int _) (.cons (.tup h2 e3) (.cons (.tup h3 (dpAll_ints _)) (.cons (dp_mv h4) .nil))))
theorem sm_is : ∀ l : List Int, (∀ x ∈ l, x.natAbs < 32) → SmAll (l.map PyData.int) (7 * l.length) 0
  | [], _ => .nil
  | x :: r, h => (SmAll.cons (Sm.int (h x (List.mem_cons_self ..))) (sm_is r fun y hy => h y (List.mem_cons_of_mem _ hy))).more (by rw [List.length_cons]; omega) (Nat.le_refl _)
theorem sm_step {z : Sta q} (hz : Fit z) : Sm (stD z) 20000 3 := by
  obtain ⟨_, b7, l2⟩ := hz
  have tm : ∀ x ∈ tsI z.st, x.natAbs < 32 := fun x h => by
    obtain ⟨y, _, rfl⟩ := List.mem_map.mp (List.mem_reverse.mp h)
    exact oi_small _
  have tl : (tsI z.st).length = z.st.length := by
    unfold tsI
    rw [List.length_reverse, List.length_map]
  have h1 : ((tsI z.st).headD (-1)).natAbs < 32 := by
    cases h : tsI z.st with
    | nil => decide
    | cons x y => exact tm x (by rw [h]; exact List.mem_cons_self ..)
  have h2 : SmAll (bsD z.st) (50 * z.st.length) 1 := by
    have e : bsD z.st = z.st.reverse.map fun x => tpd x.2 := by
      unfold bsD
      rw [List.map_reverse]
    rw [e]
    exact (sm_bends z.st.reverse fun x h => b7 x (List.mem_reverse.mp h)).more (by rw [List.length_reverse]; exact Nat.le_refl _) (Nat.le_refl _)
  have h3 := sm_is (tsI z.st).tail fun x h => tm x (List.mem_of_mem_tail h)
  have l3 : (tsI z.st).tail.length ≤ z.st.length := by
    rw [List.length_tail, tl]
    omega
  have h4 := sm_po [z.last.a, z.last.b, z.last.c, z.last.d, z.last.e, z.last.f]
  refine (Sm.tup (SmAll.cons ((Sm.int h1).more (Nat.le_refl _) (show 0 ≤ 2 by decide)) (SmAll.cons (Sm.tup h2) (SmAll.cons ((Sm.tup h3).more (Nat.le_refl _) (show 1 ≤ 2 by decide)) (SmAll.cons (h4.more (Nat.le_refl _) (show 1 ≤ 2 by decide)) (SmAll.nil (w := 0))))))).more ?_ (Nat.le_refl _)
  show 6 + 1 + (50 * z.st.length + 1 + (7 * (tsI z.st).tail.length + 1 + (7 * 6 + 1 + 0))) ≤ 20000
  omega
theorem sm_steps {y z : Sta q} (hy : Fit y) (hz : Fit z) : Sm (.tuple [stD y, stD z]) 50000 4 :=
  (Sm.tup (SmAll.cons (sm_step hy) (SmAll.cons (sm_step hz) (SmAll.nil (w := 0))))).more (by decide) (Nat.le_refl _)
theorem dp_steps {a b T : Addr} {y z : Sta q} (hy : StepAt K H a y) (hz : StepAt K H b z) (hT : SqT K H T [.ref a, .ref b]) : Dp K H (.ref T) (.tuple [stD y, stD z]) := .tup hT (.cons (dp_step hy) (.cons (dp_step hz) .nil))
end
end BP
set_option Elab.async false
set_option linter.all false
set_option maxRecDepth 100000
set_option maxHeartbeats 400000
set_option pp.maxSteps 2000
namespace BP
open PySem PySem.Spec PyProof.Rows L2 Fld
section
variable {q : Nat} [FF : IsF q] {K : PySem.W.Frag} {H H' : Hp}
def plD (b : Bool) (o : Option (El q)) (us : Po q) (fs : List (Po q)) : PyData := .tuple [.str (sortS b), .int (oi o), .tuple (fs.map tpd), tpd us]
theorem fs_dp : ∀ {vs : List V} {fs : List (Po q)}, FsAt K H vs fs → DpAll K H vs (fs.map tpd)
  | [], [], _ => .nil
  | _ :: _, _ :: _, ⟨⟨a, e, h⟩, k⟩ => by
    subst e
    exact .cons (dp_po h) (fs_dp k)
  | [], _ :: _, h => h.elim
  | _ :: _, [], h => h.elim
theorem dp_pl {c : Addr} {b : Bool} {o : Option (El q)} {us : Po q} {fs : List (Po q)} (h : PlAt K H c b o us fs) : Dp K H (.ref c) (plD b o us fs) := by
  obtain ⟨bs, p, t, h1, h2, h3, h4⟩ := h
  rw [ov_oi] at h1
  exact .tup h1 (.cons (.str _) (.cons (.int _) (.cons (.tup h2 (fs_dp h3)) (.cons (dp_po h4) .nil))))
theorem Sm.sort (b : Bool) : Sm (.str (sortS b)) 100 0 := by
  cases b <;> exact ⟨by first | (simp [PyData.canLay0]; done) | (simp [PyData.canLay0]; decide +kernel), by first | (simp [PyData.showable]; done) | (simp [PyData.showable]; decide +kernel), by first | (simp [PyData.intsShort]; done) | (simp [PyData.intsShort]; decide +kernel), by simp [PyData.depth], by first | (simp [PyData.weight]; done) | (simp [PyData.weight]; decide +kernel)⟩
theorem sm_fs : ∀ {fs : List (Po q)}, (∀ f ∈ fs, IsB f ∧ f.length ≤ 7) → SmAll (fs.map tpd) (50 * fs.length) 1
  | [], _ => .nil
  | f :: r, h => by
    have h7 := (h f (List.mem_cons_self ..)).2
    refine (SmAll.cons (sm_po f) (sm_fs (fs := r) fun y hy => h y (List.mem_cons_of_mem _ hy))).more ?_ (Nat.le_refl _)
    rw [List.length_cons]
    omega
theorem sm_pl {b : Bool} {o : Option (El q)} {us : Po q} {fs : List (Po q)} (ok : PlOk b o us fs) : Sm (plD b o us fs) 20000 3 := by
  have l1 := ok.lf
  have l2 := ok.lu
  have i1 := oi_small o
  have h : Sm (plD b o us fs) (100 + 1 + (6 + 1 + (50 * fs.length + 1 + (7 * us.length + 1 + 0)))) 3 := Sm.tup (SmAll.cons ((Sm.sort b).more (Nat.le_refl _) (show 0 ≤ 2 by decide)) (SmAll.cons ((Sm.int i1).more (Nat.le_refl _) (show 0 ≤ 2 by decide)) (SmAll.cons (Sm.tup (sm_fs ok.fB)) (SmAll.cons ((sm_po us).more (Nat.le_refl _) (show 1 ≤ 2 by decide)) SmAll.nil))))
  exact h.more (by omega) (Nat.le_refl _)
theorem sh_pl {b : Bool} {o : Option (El q)} {us : Po q} {fs : List (Po q)} (ok : PlOk b o us fs) : SeqAt.shaped (plD b o us fs) = true := by
  have s := sm_pl ok
  unfold SeqAt.shaped
  rw [s.lay, Bool.true_and]
  exact decide_eq_true (Nat.le_trans s.dep (by decide))
theorem root_ok : PlOk (q := q) false none [] [] := ⟨(fun f h => by cases h), Nat.zero_le _, (fun h => by cases h), fun _ => ⟨rfl, fun _ => rfl⟩⟩
theorem root_no {b : Bool} {o : Option (El q)} {us : Po q} {fs : List (Po q)} (h : b = true ∨ fs ≠ []) : PyData.eqv (plD b o us fs) (plD (q := q) false none [] []) = false := by
  refine Bool.eq_false_iff.mpr fun z => ?_
  simp only [plD, PyData.eqv, PyData.eqvAll, Bool.and_eq_true, List.map_nil] at z
  obtain ⟨z1, _, z3, _⟩ := z
  rcases h with h | h
  · subst h
    revert z1
    decide +kernel
  · obtain ⟨f, r, e⟩ := List.exists_cons_of_ne_nil h
    subst e
    simp [PyData.eqvAll] at z3
theorem root_yes : PyData.eqv (plD (q := q) false none [] []) (plD (q := q) false none [] []) = true := by
  simp [plD, PyData.eqv, PyData.eqvAll, tpd]
theorem dlA {a : Addr} {xs : List V} {Q : VK} (ha : SqT K H a xs) (k : ∀ (r : Addr) (H' : Hp), Same H H' → SqT K H' r xs.dropLast → Q (.ref r) H') : rSlA K (.ref a) none (some (-1)) H Q := by
  have e1 : HT.sIx xs.length xs.length (some (-1)) = xs.length - 1 := by
    show (if (-1 : Int) < 0 then ((-1 : Int) + (xs.length : Int)).toNat else min (-1 : Int).toNat xs.length) = _
    rw [if_pos (by omega)]
    omega
  refine ⟨a, xs, rfl, ha, fun e => ?_, fun _ p np => k p _ (same_new np) ?_⟩
  · refine k a H (fun _ _ z => z) ?_
    obtain ⟨_, e2⟩ := e
    rw [e1] at e2
    have : xs = [] := List.length_eq_zero_iff.mp (by omega)
    rw [this] at ha ⊢
    exact ha
  · have e : cutV xs none (some (-1)) = xs.dropLast := by
      unfold cutV
      rw [e1, HT.sIx_none, List.drop_zero, Nat.sub_zero, List.dropLast_eq_take]
    rw [e]
    exact .inl (.inl upd_same)
theorem FsAt.dl {vs : List V} {fs : List (Po q)} (h : FsAt K H vs fs) : FsAt K H vs.dropLast fs.dropLast := by
  rw [List.dropLast_eq_take, List.dropLast_eq_take, h.len]
  exact FsAt.take _ h
def ahO (b : Bool) (o : Option (El q)) (fs : List (Po q)) : Option (El q) := if b = true ∧ fs = [] then none else o
def ahU (b : Bool) (us : Po q) : Po q := if b = true then us.dropLast else us
def ahF (b : Bool) (fs : List (Po q)) : List (Po q) := if b = true then fs else fs.dropLast
/-- how many places are behind a place -/
def mBh (q : Nat) (b : Bool) (e : Bool) (d : Nat) : Nat := if b = true then q ^ (d - 1) - 1 else if e = true then q + 1 else q
end
def spPAh (K : PySem.W.Frag) : Sp := fun vs H Q _ => ∃ (q : Nat) (_ : IsF q) (c : Addr) (b : Bool) (o : Option (El q)) (us : Po q) (fs : List (Po q)), vs = [.ref c] ∧ PlAt K H c b o us fs ∧ PlOk b o us fs ∧
  ((b = true ∨ fs ≠ []) → ∀ (r : Addr) (H' : Hp), Same H H' → PlAt K H' r (!b) (ahO b o fs) (ahU b us) (ahF b fs) → Q (.ref r) H') ∧ (¬ (b = true ∨ fs ≠ []) → Q .non H)
def spAhd (K : PySem.W.Frag) : Sp := fun vs H Q _ => ∃ (q : Nat) (_ : IsF q) (c : Addr) (b : Bool) (o : Option (El q)) (us : Po q) (fs : List (Po q)), vs = [.int q, .ref c] ∧ PlAt K H c b o us fs ∧ PlOk b o us fs ∧ (b = true ∨ fs ≠ []) ∧
  ∀ (r : Addr) (H' : Hp), Same H H' → PlAt K H' r (!b) (ahO b o fs) (ahU b us) (ahF b fs) → Q (.ref r) H'
def spPDp (K : PySem.W.Frag) : Sp := fun vs H Q _ => ∃ (q : Nat) (_ : IsF q) (c : Addr) (b : Bool) (o : Option (El q)) (us : Po q) (fs : List (Po q)), vs = [.ref c] ∧ PlAt K H c b o us fs ∧ PlOk b o us fs ∧ Q (.int (2 * fs.length + (if b then 1 else 0) : Nat)) H
def spDpt (K : PySem.W.Frag) : Sp := fun vs H Q _ => ∃ (q : Nat) (_ : IsF q) (c : Addr) (b : Bool) (o : Option (El q)) (us : Po q) (fs : List (Po q)), vs = [.int q, .ref c] ∧ PlAt K H c b o us fs ∧ PlOk b o us fs ∧ ∀ H', Same H H' → Q (.int (2 * fs.length + (if b then 1 else 0) : Nat)) H'
def spMBh (K : PySem.W.Frag) : Sp := fun vs H Q _ => ∃ (q : Nat) (_ : IsF q) (c : Addr) (b : Bool) (o : Option (El q)) (us : Po q) (fs : List (Po q)) (d : Nat), vs = [.int q, .ref c, .int d] ∧ PlAt K H c b o us fs ∧ PlOk b o us fs ∧ 1 ≤ d ∧ d ≤ 10 ∧ ∀ H', Same H H' → Q (.int (mBh q b (fs.isEmpty) d : Nat)) H'
end BP
namespace K13
open PySem PySem.Spec PyProof.Rows L2 BP Fld
section
variable {P : Program} {w : World} {K : PySem.W.Frag} {mg : Str → Option Value} {base : Heap}
theorem ok_pahead {f aR : Addr} {fd : FuncData} {t1 t2 : Tok} (F : Fun K "place_ahead" "place_ahead" sPlaceAhead f fd) (gST : mg "STRAIGHT" = some (.str "straight" t1)) (gBE : mg "BENT" = some (.str "bent" t2)) (gRO : mg "ROOT" = some (.ref aR)) (hR : ∀ (H : Hp) (q : Nat) [IsF q], PlAt (q := q) K H aR false none [] []) (m_len : mg "len" = none) : FnOk P w K mg base CX0 1 f fd pPlaceAhead (spPAh K) := by
  refine F.ok scPlaceAhead (fun vs H Q E h => ?_) (fun cdv A outer s H vs Q E hr h => ?_)
  · obtain ⟨q, _, c, b, o, us, fs, rfl, _⟩ := h
    rfl
  · obtain ⟨q, FF, c, b, o, us, fs, rfl, hP, ok, want, wantN⟩ := h
    have hD := dp_pl hP
    obtain ⟨bs, p, t, hc, hb, hF, ht⟩ := hP
    have lb := hF.len
    refine ⟨_, (pss_cons (ps_asg (pv 0) (pg_tup rfl (pgs_cons (pg_name (i := 1) scPlaceAhead.nd rfl (.inl rfl)) (pgs_cons (pg_name (i := 2) scPlaceAhead.nd rfl (.inl rfl)) (pgs_cons (pg_name (i := 3) scPlaceAhead.nd rfl (.inl rfl)) (pgs_cons (pg_name (i := 4) scPlaceAhead.nd rfl (.inl rfl)) pgs_nil))))))
      (pss_cons (ps_if (pt_cmpR (op_eqD hr.units) (pv 0) (pe_glob (v := .ref aR) rfl gRO rfl) (nomark _)) (pss_one (ps_ret pe_non)) pss_nil)
      (pss_cons (ps_if (pt_cmpR op_eq (pv 1) (pe_glob (v := .str "straight") rfl gST ⟨_, rfl⟩) (nomark _)) (pss_one (ps_ret (pe_tup (pa_cons (pe_glob (v := .str "bent") rfl gBE ⟨_, rfl⟩) (pa_cons (pv 2) (pa_cons (pe_slice sl_tupA (pv 3) po_none (po_some (pe_un un_neg pe_int))) (pa_cons (pv 4) pa_nil))))))) pss_nil)
      (pss_cons (ps_if (pt_cmpR op_eq (pe_callB call_len_seq (by rfl) m_len PySem.boot_len (pa_cons (pv 3) pa_nil)) pe_int (nomark _)) (pss_one (ps_ret (pe_glob (v := .ref aR) rfl gRO rfl))) pss_nil)
      (pss_one (ps_ret (pe_tup (pa_cons (pe_glob (v := .str "straight") rfl gST ⟨_, rfl⟩) (pa_cons (pv 2) (pa_cons (pv 3) (pa_cons (pe_slice sl_tupA (pv 4) po_none (po_some (pe_un un_neg pe_int))) pa_nil))))))))))), ?_⟩
    refine ⟨.ref c, rfl, c, _, rfl, hc, rfl, _, [_, _, _], rfl, _, [_, _], rfl, _, [_], rfl, _, [], rfl, rfl, ?_⟩
    by_cases nr : b = true ∨ fs ≠ []
    rotate_left
    · have fs0 : fs = [] := Classical.byContradiction fun z => nr (.inr z)
      have b0 : b = false := by
        cases b with
        | true => exact absurd (.inl rfl) nr
        | false => rfl
      subst fs0
      subst b0
      have o0 : o = none := (ok.str rfl).2 rfl
      have u0 : us = [] := List.length_eq_zero_iff.mp (by have := (ok.str rfl).1; simpa using this)
      subst o0
      subst u0
      exact ⟨_, rfl, plD false none [] [], plD (q := q) false none [] [], hD, dp_pl (hR H q), sh_pl ok, sh_pl root_ok, true, by rw [root_yes], iteT (wantN nr)⟩
    have want := want nr
    refine ⟨_, rfl, plD b o us fs, plD (q := q) false none [] [], hD, dp_pl (hR H q), sh_pl ok, sh_pl root_ok, false, by rw [root_no nr], iteF ?_⟩
    cases b with
    | false =>
      refine ⟨_, rfl, rfl, true, rfl, iteT ?_⟩
      refine ⟨_, rfl, .ref p, rfl, ?_⟩
      dsimp only [tNoPart]
      refine ⟨1, rfl, -1, rfl, ?_⟩
      refine dlA (K := K) hb fun r H1 s1 hr1 => ?_
      refine ⟨.ref t, rfl, (by show 4 ≤ sizeLine; decide), fun r2 n2 => want r2 _ (s1.trans (same_new n2)) ?_⟩
      have s2 := s1.trans (same_new (o := .tup [V.str "bent", ov o, .ref r, .ref t]) n2)
      exact ⟨bs.dropLast, r, t, .inl (.inl upd_same), BP.Same.tupS (same_new n2) hr1, (hF.kept s2).dl, BP.Same.tupS s2 ht⟩
    | true =>
      have k1 := ok.bent rfl
      refine ⟨_, rfl, rfl, false, by rw [decide_eq_false (fun z => absurd (V.str.inj z) (by decide +kernel))], iteF ?_⟩
      refine ⟨.ref p, rfl, p, _, rfl, .inr hb, rfl, _, rfl, ite2 (fun h => ?_) (fun h => ?_)⟩
      · have fs0 : fs = [] := List.length_eq_zero_iff.mp (by
          have := V.int.inj (of_decide_eq_true h)
          omega)
        subst fs0
        have us0 : us = [] := List.length_eq_zero_iff.mp k1
        subst us0
        exact want aR H (fun _ _ e => e) (hR H q)
      · have fs0 : fs ≠ [] := fun z => h (decide_eq_true (by rw [lb, z]; rfl))
        refine ⟨_, rfl, _, rfl, .ref t, rfl, ?_⟩
        dsimp only [tNoPart]
        refine ⟨1, rfl, -1, rfl, ?_⟩
        refine dlA (K := K) ht fun r H1 s1 hr1 => ?_
        refine ⟨(by show 4 ≤ sizeLine; decide), fun r2 n2 => want r2 _ (s1.trans (same_new n2)) ?_⟩
        have s2 := s1.trans (same_new (o := .tup [V.str "straight", ov o, .ref p, .ref r]) n2)
        have eo : ahO true o fs = o := if_neg (fun z => fs0 z.2)
        rw [eo]
        refine ⟨bs, p, r, .inl (.inl upd_same), BP.Same.tupS s2 hb, hF.kept s2, ?_⟩
        have e : vns (ahU true us) = (vns us).dropLast := List.map_dropLast ..
        rw [e]
        exact BP.Same.tupS (same_new n2) hr1
end
end K13
set_option Elab.async false
set_option linter.all false
set_option maxRecDepth 100000
set_option maxHeartbeats 4000000
/-! A tuple times a whole number from 0 on. -/
namespace BP
open PySem PySem.Spec PyProof.Rows L2
section
variable (l : Addr) (its : Array Value) (n : Nat) (dd : Option Addr) (sl : Array (Option Value)) (t : Tok)
theorem times_zero (hne : its.isEmpty = false) : Meets (Builtin.«tuple.__mul__» ⟨[.ref l, .int 0 t], []⟩) (fun _ R s =>
    s.heap.get? l = some ⟨.type "tuple", dd, .seq its n, sl⟩ ∧ R (.ok (.ret (.ref s.heap.objs.size))) { s with heap := s.heap.push ⟨.type "tuple", none, .seq #[] 0, #[]⟩, toks := s.toks }) := by
  refine .of_wp fun prog w A R s h => ?_
  obtain ⟨hp, g, d, tk, os⟩ := s
  obtain ⟨hl, h⟩ := h
  have f1 := AutoSeq1.idx_int
  wp_walk using wpAny_loadPart' hl
  exact ⟨_, rfl, h⟩
theorem times_one (hne : its.isEmpty = false) : Meets (Builtin.«tuple.__mul__» ⟨[.ref l, .int 1 t], []⟩) (fun _ R s =>
    s.heap.get? l = some ⟨.type "tuple", dd, .seq its n, sl⟩ ∧ R (.ok (.ret (.ref l))) s) := by
  refine .of_wp fun prog w A R s h => ?_
  obtain ⟨hp, g, d, tk, os⟩ := s
  obtain ⟨hl, h⟩ := h
  have f1 := AutoSeq1.idx_int
  wp_walk using wpAny_loadPart' hl
  exact ⟨_, rfl, h⟩
end
/-- t * k: the tuple itself where k is 1, else a new one -/
def rRepA (K : PySem.W.Frag) : R2 := fun x y H Q => ∃ (l : Addr) (k : Nat) (xs : List V), x = .ref l ∧ y = .int (k : Nat) ∧ SqT K H l xs ∧ xs ≠ [] ∧ k ≤ 1000 ∧ xs.length ≤ 1000 ∧
  (k = 1 → Q (.ref l) H) ∧ ∀ p, H p = none → Q (.ref p) (upd H p (.tup (List.replicate k xs).flatten))
theorem op_repA {X : Cx} : OpR X (binaryOp .Mult) (rRepA X.K) := by
  intro pins s σ H x y v u Q I rx ry ⟨l, k, xs, e1, e2, hT, hne, h2, hz, q1, q2⟩
  by_cases big : 2 ≤ k
  · refine op_repT pins s σ H x y v u Q I rx ry ⟨l, (k : Int), xs, e1, e2, hT, hne, ?_, ?_, hz, ?_⟩
    · omega
    · omega
    · rw [show ((k : Nat) : Int).toNat = k from rfl]
      exact q2
  subst e1
  subst e2
  cases rx
  obtain ⟨t, rfl⟩ := ry
  obtain ⟨its, r, ⟨⟨cls, dd, data, sl⟩, ho, hc, n, hd⟩, hs⟩ := I.tuple hT
  have hc' : cls = .type "tuple" := hc
  have hd' : data = .seq its.toArray n := hd
  subst hc'
  subst hd'
  have some1 : its.toArray.isEmpty = false := by
    cases its with
    | nil => exact absurd (List.eq_nil_of_length_eq_zero r.length) hne
    | cons a b => rfl
  have ty : s.TypeIs (.ref l) "tuple" := ⟨_, ho, rfl⟩
  have rm := fun k : Int =>
    int_rmul_tuple k t l its.toArray n dd sl
  by_cases one : k = 1
  · subst one
    refine wpAny_binaryOp_repeat_ref (by decide) ty
      (fun s' => typeIs_int s' 1 t) noFill_tuple_mul
      F.fills_int_mul F.slot_int_rmul repeat_tuple
      F.slot_int_index.lookup ?_
    refine call_meets F.slot_int_rmul (typeIs_int s 1 t)
      F.entry_int_rmul (F.args_int_rmul_2 _ _) (rm 1) ?_
    refine ⟨ho, rfl, ty, ?_⟩
    refine call_meets F.slot_tuple_mul ty F.entry_tuple_mul
      (F.args_tuple_mul_2 _ _)
      (times_one l its.toArray n dd sl t some1) ⟨ho, ?_⟩
    exact ⟨.ref l, H, I, rfl, q1 rfl⟩
  · have zero : k = 0 := by omega
    subst zero
    refine wpAny_binaryOp_repeat_ref (by decide) ty
      (fun s' => typeIs_int s' 0 t) noFill_tuple_mul
      F.fills_int_mul F.slot_int_rmul repeat_tuple
      F.slot_int_index.lookup ?_
    refine call_meets F.slot_int_rmul (typeIs_int s 0 t)
      F.entry_int_rmul (F.args_int_rmul_2 _ _) (rm 0) ?_
    refine ⟨ho, rfl, ty, ?_⟩
    refine call_meets F.slot_tuple_mul ty F.entry_tuple_mul
      (F.args_tuple_mul_2 _ _)
      (times_zero l its.toArray n dd sl t some1) ⟨ho, ?_⟩
    refine ⟨.ref s.heap.objs.size, _, I.laid (t' := s.toks)
      (o := .tup (List.replicate 0 xs).flatten)
      (fun b ob q => Heap.get?_push_of_some _ q) (Nat.le_refl _) ?_,
      rfl, q2 _ (I.hok.fresh (Nat.le_refl _))⟩
    exact ⟨Nat.zero_le _, _, .nil, IsTup.new _ _⟩
end BP
set_option Elab.async false
set_option linter.all false
set_option maxRecDepth 100000
set_option maxHeartbeats 1000000
set_option pp.maxSteps 2000
/-! sorted([x, y], key=len): no rule of the kit takes a built-in as a key. -/
namespace BP
open PySem PySem.W PySem.Spec PyProof.Rows L2
/-- the shorter one of two tuples first -/
def tSortLen (K : PySem.W.Frag) (t : TA) : TE := fun σ H Q => t σ H fun vs H1 => ∃ (a b c : Addr) (ys zs : List V), vs = [.ref a] ∧ SqL K H1 a [.ref b, .ref c] ∧ SqT K H1 b ys ∧ SqT K H1 c zs ∧
  ∀ p, H1 p = none → Q (.ref p) (upd H1 p (.lst (if ys.length ≤ zs.length then [.ref b, .ref c] else [.ref c, .ref b])))
section
variable {X : Cx} {e : Expr} {t : TA} {p p2 kp pos : Pos}
theorem two_sort (n m : Nat) : [(false, n), (true, m)].mergeSort (dataLe false fun b : Bool × Nat => .int (b.2 : Int)) = if n ≤ m then [(false, n), (true, m)] else [(true, m), (false, n)] := by
  rw [dataLe_int (β := Bool × Nat) fun b => (b.2 : Int)]
  have e : ∀ a b : Nat, decide ((a : Int) ≤ (b : Int)) = decide (a ≤ b) := fun a b => by
    by_cases h : a ≤ b
    · rw [decide_eq_true h, decide_eq_true (by omega)]
    · rw [decide_eq_false h, decide_eq_false (by omega)]
  simp only [e]
  by_cases h : n ≤ m
  · rw [if_pos h]
    exact List.mergeSort_of_pairwise (by simp [h])
  · rw [if_neg h]
    simp [List.mergeSort, List.merge, List.MergeSort.Internal.splitInTwo, h]
theorem isTup_keep {h h' : Heap} {a : Addr} {xs : Array Value} (k : ∀ b o, h.get? b = some o → h'.get? b = some o) (x : IsTup h a xs) : IsTup h' a xs := by
  obtain ⟨o, e1, e2⟩ := x
  exact ⟨o, k _ _ e1, e2⟩
theorem pe_sortLen (hg : Gl X (Str.ofString "sorted")) (hm : X.mg (Str.ofString "sorted") = none) (hgl : Gl X (Str.ofString "len")) (hml : X.mg (Str.ofString "len") = none) (hu : X.A.units + 64 < cLine) (ha : PA X [e] t)
    (he : backTo pos (starEach [e] X.env) = (false, eval e X.env) :: backTo pos (starEach [] X.env) := by rfl) (hpl : (backTo pos (starEach [e] X.env)).any (·.1) = false := by rfl) :
    PE X (.Call (.Name (Str.ofString "sorted") p) [e] [⟨some (Str.ofString "key"), .Name (Str.ofString "len") p2, kp⟩] pos) (tSortLen X.K t) := by
  refine ⟨fun pins s σ H Q I h => ?_⟩
  refine wpAny_Call_Name_kw (ld_blt (u := .builtin "sorted") I hg hm (by decide +kernel) ?_ (by decide) (by decide))
  refine PyProof.Rows.callWith_kw (thn (ha.run pos pins s σ H _ I h) fun us s1 ⟨vs, H1, I1, r1, q1⟩ => ?_) he hpl rfl rfl
  show wpAny _ _ (evalAll ((do let v ← eval (.Name (Str.ofString "len") p2) X.env; standAt pos; pure v) :: [])) _ _ s1
  refine wpAny_evalAll_cons (wpAny_bind (ld_blt (u := .builtin "len") I1 hgl hml PySem.boot_len (wpAny_bind (wpAny_standAt (wpAny_pure ?_))) (by decide) (by decide)))
  refine wpAny_evalAll_nil ?_
  obtain ⟨a, b, c, ys, zs, rfl, hs, hb, hc, q⟩ := q1
  rw [Vals.ref1 r1]
  show wpAny _ _ (call (.builtin "sorted") [.ref a] [(Str.ofString "key", .builtin "len")]) _ _ s1
  obtain ⟨its, rv, hl, hz⟩ := I1.list hs
  obtain ⟨u1, u2, rfl, e1, e2⟩ := vals2 rv
  obtain rfl : u1 = Value.ref b := e1
  obtain rfl : u2 = Value.ref c := e2
  obtain ⟨vb, rb, tb, _⟩ := I1.tuple hb
  obtain ⟨vc, rc, tc, _⟩ := I1.tuple hc
  have lb := rb.length
  have lc := rc.length
  have e : EachIs (fun (v : Value) (n : Bool × Nat) => ∃ t vs, v = .ref t ∧ IsTup s1.heap t vs ∧ vs.size = n.2 ∧ n.2 ≤ sizeLine ∧ t = if n.1 then c else b) [Value.ref b, Value.ref c] [(false, ys.length), (true, zs.length)] :=
    .cons ⟨b, _, rfl, tb, by rw [lb, List.size_toArray], by assumption, rfl⟩ (.cons ⟨c, _, rfl, tc, by rw [lc, List.size_toArray], by assumption, rfl⟩ .nil)
  refine sorted_key_data (β := Bool × Nat) (b := false) (fun n => .int (n.2 : Int)) hl.isList e (AllAlike.of fun _ _ => by simp [alike]) (Sortable.others fun _ => ⟨(by simp), fun _ => (by simp)⟩) (by rw [sizeLine_eq]; show 2 ≤ _; omega) (fun n _ => ?_) (ksk_s1 _ _) (fun _ => ksk_l1 _ _) (fun _ => ksk_t4 "len" _)
    (fun v n ⟨t, vs, e1, e2, e3, e4, _⟩ _ h tk kp => ?_) fun out ep h' tk kp fr hD lo eo => ?_
  · show X.A.units + 2 + (PyData.int (n.2 : Int)).depth < cLine
    have : (PyData.int (n.2 : Int)).depth = 0 := by simp [PyData.depth]
    omega
  · subst e1
    rw [← e3]
    refine len_tuple (isTup_keep kp e2) ?_ ⟨h, _, rfl, fun _ _ z => z, .int _ _⟩
    rw [sizeLine_eq] at e4
    omega
  · rw [two_sort] at eo
    have ho : out = if ys.length ≤ zs.length then [Value.ref b, Value.ref c] else [Value.ref c, Value.ref b] := by
      by_cases hh : ys.length ≤ zs.length
      · rw [if_pos hh] at eo ⊢
        cases eo with
        | cons h1 r =>
          cases r with
          | cons h2 r =>
            cases r
            obtain ⟨_, _, rfl, _, _, _, rfl⟩ := h1
            obtain ⟨_, _, rfl, _, _, _, rfl⟩ := h2
            rfl
      · rw [if_neg hh] at eo ⊢
        cases eo with
        | cons h1 r =>
          cases r with
          | cons h2 r =>
            cases r
            obtain ⟨_, _, rfl, _, _, _, rfl⟩ := h1
            obtain ⟨_, _, rfl, _, _, _, rfl⟩ := h2
            rfl
    have hv : Vals (if ys.length ≤ zs.length then [V.ref b, V.ref c] else [V.ref c, V.ref b]) out := by
      rw [ho]
      split
      · exact .cons rfl (.cons rfl .nil)
      · exact .cons rfl (.cons rfl .nil)
    have hlen : (if ys.length ≤ zs.length then [V.ref b, V.ref c] else [V.ref c, V.ref b]).length ≤ sizeLine := by
      split <;> (show 2 ≤ sizeLine; decide)
    exact ⟨.ref _, upd H1 (s1.heap.objs.size + 1) (.lst (if ys.length ≤ zs.length then [V.ref b, V.ref c] else [V.ref c, V.ref b])), I1.laid (t' := tk) kp (Nat.le_succ _) ⟨hlen, _, ep, hv, hD⟩, rfl, q _ (I1.hok.fresh (Nat.le_succ _))⟩
end
end BP
set_option Elab.async false
set_option linter.all false
set_option maxRecDepth 100000
set_option maxHeartbeats 4000000
set_option pp.maxSteps 1000
/-! Tuples and lists of anything against the empty ones. -/
namespace BP
open PySem PySem.Spec PyProof.Rows L2 Fld
section
variable {X : Cx}
/-- a tuple of anything, and the empty one -/
def rEqE (K : PySem.W.Frag) : R2 := fun x y H Q => ∃ a b xs, x = .ref a ∧ y = .ref b ∧ SqT K H a xs ∧ SqT K H b [] ∧ Q (.bl xs.isEmpty) H
def rNeE (K : PySem.W.Frag) : R2 := fun x y H Q => ∃ a b xs, x = .ref a ∧ y = .ref b ∧ SqT K H a xs ∧ SqT K H b [] ∧ Q (.bl (!xs.isEmpty)) H
theorem op_eqE (hu : X.A.units < cLine) : OpR X (compareOp .Eq) (rEqE X.K) := by
  intro pins s σ H x y v u Q I rx ry h
  obtain ⟨a, b, xs, rfl, rfl, ha, hb, q⟩ := h
  cases (show v = Value.ref a from rx)
  cases (show u = Value.ref b from ry)
  obtain ⟨us, r1, p1, _⟩ := I.tuple ha
  obtain ⟨ws, r2, p2, _⟩ := I.tuple hb
  cases r2
  refine SeqAt.eq_tupleAt (e := fun _ => true) p1 p2 hu (fun j h1 h2 => absurd h2 (Nat.not_lt_zero j)) ?_
  have e : ((List.range (min us.toArray.size ([] : List Value).toArray.size)).all (fun _ => true) && us.toArray.size == ([] : List Value).toArray.size) = xs.isEmpty := by
    rw [List.size_toArray, ← r1.length]
    cases xs <;> simp
  rw [e]
  exact ⟨.bl _, H, I, rfl, q⟩
/-- a list of anything, and the empty one -/
def rEqEL (K : PySem.W.Frag) : R2 := fun x y H Q => ∃ a b xs, x = .ref a ∧ y = .ref b ∧ SqL K H a xs ∧ SqL K H b [] ∧ Q (.bl xs.isEmpty) H
theorem op_eqEL (hu : X.A.units < cLine) : OpR X (compareOp .Eq) (rEqEL X.K) := by
  intro pins s σ H x y v u Q I rx ry h
  obtain ⟨a, b, xs, rfl, rfl, ha, hb, q⟩ := h
  cases (show v = Value.ref a from rx)
  cases (show u = Value.ref b from ry)
  obtain ⟨us, r1, p1, _⟩ := I.list ha
  obtain ⟨ws, r2, p2, _⟩ := I.list hb
  cases r2
  cases xs with
  | nil =>
    cases r1
    exact SeqAt.eq_listAt (e := fun _ => true) p1.isList p2.isList rfl hu (fun j h1 h2 => absurd h2 (Nat.not_lt_zero j)) ⟨.bl true, H, I, rfl, q⟩
  | cons z zs =>
    refine SeqAt.eq_list_lengthsAt p1.isList p2.isList ?_ hu ⟨.bl false, H, I, rfl, q⟩
    rw [List.size_toArray, ← r1.length]
    rfl
theorem op_neE (hu : X.A.units < cLine) : OpR X (compareOp .NotEq) (rNeE X.K) := by
  intro pins s σ H x y v u Q I rx ry h
  obtain ⟨a, b, xs, rfl, rfl, ha, hb, q⟩ := h
  cases (show v = Value.ref a from rx)
  cases (show u = Value.ref b from ry)
  obtain ⟨us, r1, p1, _⟩ := I.tuple ha
  obtain ⟨ws, r2, p2, _⟩ := I.tuple hb
  cases r2
  refine SeqAt.RcNeAt.tuples (e := fun _ => true) p1 p2 hu (fun j h1 h2 => absurd h2 (Nat.not_lt_zero j)) _ _ _ _ ?_
  have e : ((List.range (min us.toArray.size ([] : List Value).toArray.size)).all (fun _ => true) && us.toArray.size == ([] : List Value).toArray.size) = xs.isEmpty := by
    rw [List.size_toArray, ← r1.length]
    cases xs <;> simp
  rw [e]
  exact ⟨.bl _, H, I, rfl, q⟩
end
end BP
set_option Elab.async false
set_option linter.all false
set_option maxRecDepth 100000
set_option maxHeartbeats 1000000
set_option pp.maxSteps 2000
/-! Places of steps, steps of places. -/
namespace BP
open PySem PySem.Spec PyProof.Rows L2 Fld
section
variable {q : Nat} [FF : IsF q]
/-- a place: bent or not, start, turns, bends -/
abbrev Pl (q : Nat) [IsF q] := Bool × Option (El q) × Po q × List (Po q)
def PA (K : PySem.W.Frag) (H : Hp) (c : Addr) (x : Pl q) : Prop := PlAt K H c x.1 x.2.1 x.2.2.1 x.2.2.2
def PO (x : Pl q) : Prop := PlOk x.1 x.2.1 x.2.2.1 x.2.2.2
def ahP (x : Pl q) : Pl q := (!x.1, ahO x.1 x.2.1 x.2.2.2, ahU x.1 x.2.2.1, ahF x.1 x.2.2.2)
theorem PA.kept {K : PySem.W.Frag} {H H' : Hp} {c : Addr} {x : Pl q} (h : PA K H c x) (s : Same H H') : PA K H' c x := PlAt.kept h s
abbrev Stq (q : Nat) [IsF q] := List (Option (El q) × Po q)
def oS (st : Stq q) : Option (El q) := (st.getLast?.map (·.1)).getD none
def uS (st : Stq q) : Po q := (st.dropLast.map fun x => x.1.getD 0).reverse
def fS (st : Stq q) : List (Po q) := (st.map (·.2)).reverse
/-- the bends of a place, as a step has them -/
def mkS (o : Option (El q)) (us : Po q) (fs : List (Po q)) : Stq q := ((o :: us.map some).zip fs).reverse
/-- the turn with which a bent place ends -/
def plT (x : Pl q) : Option (El q) := if x.1 then (match x.2.2.1.getLast? with
  | some t => some t
  | none => x.2.1) else none
def tO : Option (El q) → Mat q
  | none => same
  | some t => turn t
/-- the step of a place -/
def plZ (x : Pl q) : Sta q := ⟨mkS x.2.1 x.2.2.1 x.2.2.2, tO (plT x)⟩
/-- the place of a step -/
def zPl (b : Bool) (z : Sta q) : Pl q := if b then (match (tm z.last).1, z.st with
  | none, st => (true, oS st, uS st, (fS st).dropLast)
  | some t, [] => (true, some t, [], [])
  | some t, st => (true, oS st, uS st ++ [t], fS st)) else (false, oS z.st, uS z.st, fS z.st)
theorem fS_cons (o : Option (El q)) (g : Po q) (r : Stq q) : fS ((o, g) :: r) = fS r ++ [g] := by
  unfold fS
  rw [List.map_cons, List.reverse_cons]
theorem oS_one (o : Option (El q)) (g : Po q) : oS [(o, g)] = o := rfl
theorem oS_cons (o : Option (El q)) (g : Po q) {r : Stq q} (h : r ≠ []) : oS ((o, g) :: r) = oS r := by
  obtain ⟨y, r', e⟩ := List.exists_cons_of_ne_nil h
  subst e
  rfl
theorem uS_one (o : Option (El q)) (g : Po q) : uS [(o, g)] = [] := rfl
theorem uS_cons (o : Option (El q)) (g : Po q) {r : Stq q} (h : r ≠ []) : uS ((o, g) :: r) = uS r ++ [o.getD 0] := by
  obtain ⟨y, r', e⟩ := List.exists_cons_of_ne_nil h
  subst e
  unfold uS
  rw [List.dropLast_cons_of_ne_nil (by simp), List.map_cons, List.reverse_cons]
theorem fS_len (st : Stq q) : (fS st).length = st.length := by
  unfold fS
  rw [List.length_reverse, List.length_map]
theorem uS_len (st : Stq q) : (uS st).length = st.length - 1 := by
  unfold uS
  rw [List.length_reverse, List.length_map, List.length_dropLast]
theorem mk_back : ∀ {st : Stq q}, Good st → mkS (oS st) (uS st) (fS st) = st
  | [], _ => rfl
  | [(o, g)], _ => rfl
  | (o, g) :: y :: r, h => by
    have ih := mk_back (st := y :: r) h.2.2
    obtain ⟨t, et⟩ : ∃ t, o = some t := by
      cases o with
      | none => exact absurd rfl (h.2.1 (by simp))
      | some t => exact ⟨t, rfl⟩
    subst et
    rw [oS_cons _ _ (by simp), uS_cons _ _ (by simp), fS_cons]
    unfold mkS at ih ⊢
    rw [List.map_append, ← List.cons_append, List.zip_append (by rw [List.length_cons, List.length_map, uS_len, fS_len]; rfl), List.reverse_append, ih]
    rfl
theorem mk_f {o : Option (El q)} : ∀ {us : Po q} {fs : List (Po q)}, fs.length ≤ us.length + 1 → fS (mkS o us fs) = fs := by
  intro us fs h
  unfold fS mkS
  rw [List.map_reverse, List.reverse_reverse]
  exact List.map_snd_zip (by rw [List.length_cons, List.length_map]; exact h)
theorem mk_len {o : Option (El q)} {us : Po q} {fs : List (Po q)} (h : fs.length ≤ us.length + 1) : (mkS o us fs).length = fs.length := by
  unfold mkS
  rw [List.length_reverse, List.length_zip, List.length_cons, List.length_map]
  omega
theorem mk_o {o : Option (El q)} {us : Po q} {fs : List (Po q)} (h : fs ≠ []) : oS (mkS o us fs) = o := by
  obtain ⟨f, r, e⟩ := List.exists_cons_of_ne_nil h
  subst e
  unfold oS mkS
  rw [List.getLast?_reverse]
  rfl
theorem mk_u {o : Option (El q)} : ∀ {us : Po q} {fs : List (Po q)}, fs.length = us.length + 1 → uS (mkS o us fs) = us := by
  intro us fs h
  obtain ⟨f, r, e⟩ := List.exists_cons_of_ne_nil (l := fs) (fun z => by rw [z] at h; cases h)
  subst e
  unfold uS mkS
  rw [List.zip_cons_cons, List.reverse_cons, List.dropLast_concat, List.map_reverse, List.reverse_reverse]
  have hl : us.length = r.length := by
    rw [List.length_cons] at h
    omega
  clear h
  induction us generalizing r with
  | nil => rfl
  | cons x xs ih =>
    cases r with
    | nil => cases hl
    | cons y ys =>
      rw [List.map_cons, List.zip_cons_cons, List.map_cons, ih ys (by simpa using hl)]
      rfl
/-- a row of turns that is too long -/
theorem mk_cut {o : Option (El q)} {us : Po q} {fs : List (Po q)} (h : us.length = fs.length) : mkS o us fs = mkS o us.dropLast fs := by
  unfold mkS
  congr 1
  rcases List.eq_nil_or_concat us with e | ⟨ys, y, e⟩
  · subst e
    rfl
  · rw [List.concat_eq_append] at e
    subst e
    rw [List.length_append, List.length_singleton] at h
    rw [List.dropLast_concat, List.map_append, ← List.cons_append]
    have := List.zip_append (l₁ := o :: ys.map some) (r₁ := [y].map some) (l₂ := fs) (r₂ := []) (by rw [List.length_cons, List.length_map]; omega)
    rw [List.append_nil] at this
    rw [this]
    simp
theorem good_mk : ∀ {ts : List (El q)} {fs : List (Po q)}, ts.length = fs.length → (∀ f ∈ fs, IsB f) → ∀ {r : Stq q}, Good r → Good (((ts.map some).zip fs).reverse ++ r)
  | [], [], _, _, r, h => h
  | t :: ts, f :: fs, hl, hf, r, h => by
    have ih := good_mk (ts := ts) (fs := fs) (by simpa using hl) (fun x hx => hf x (List.mem_cons_of_mem _ hx)) (r := (some t, f) :: r) ⟨hf f (List.mem_cons_self ..), fun _ e => (by cases e), h⟩
    rw [List.map_cons, List.zip_cons_cons, List.reverse_cons, List.append_assoc]
    exact ih
  | [], _ :: _, hl, _, _, _ => by cases hl
  | _ :: _, [], hl, _, _, _ => by cases hl
theorem mk_good {o : Option (El q)} {us : Po q} {fs : List (Po q)} (h : fs.length = us.length + 1) (hf : ∀ f ∈ fs, IsB f) : Good (mkS o us fs) := by
  obtain ⟨f, r, e⟩ := List.exists_cons_of_ne_nil (l := fs) (fun z => by rw [z] at h; cases h)
  subst e
  unfold mkS
  rw [List.zip_cons_cons, List.reverse_cons]
  refine good_mk (by rw [List.length_cons] at h; omega) (fun x hx => hf x (List.mem_cons_of_mem _ hx)) ⟨hf f (List.mem_cons_self ..), fun z => absurd rfl z, trivial⟩
section
variable {K : PySem.W.Frag} {H : Hp}
theorem stk_zip : ∀ {os : List (Option (El q))} {fs : List (Po q)} {xs : List V}, os.length = fs.length → FsAt K H xs fs → ∀ {r : Stq q} {ts bs : List V}, Stk K H r ts bs → Stk K H ((os.zip fs).reverse ++ r) (ts ++ os.map ov) (bs ++ xs)
  | [], [], [], _, _, r, ts, bs, h => by
    rw [List.map_nil, List.append_nil, List.append_nil]
    exact h
  | o :: os, f :: fs, x :: xs, hl, ⟨⟨a, e, h1⟩, k⟩, r, ts, bs, h => by
    subst e
    have ih := stk_zip (os := os) (fs := fs) (xs := xs) (by simpa using hl) k (r := (o, f) :: r) (ts := ts ++ [ov o]) (bs := bs ++ [.ref a]) ⟨ts, bs, a, rfl, rfl, h1, h⟩
    rw [List.append_assoc, List.append_assoc] at ih
    rw [List.zip_cons_cons, List.reverse_cons, List.append_assoc]
    exact ih
  | [], _ :: _, _, hl, _, _, _, _, _ => by cases hl
  | _ :: _, [], _, hl, _, _, _, _, _ => by cases hl
  | [], [], _ :: _, _, h, _, _, _, _ => h.elim
  | _ :: _, _ :: _, [], _, h, _, _, _, _ => h.elim
theorem map_ov (us : Po q) : (us.map some).map ov = vns us := by
  unfold vns
  rw [List.map_map]
  rfl
theorem stk_mk {o : Option (El q)} {us : Po q} {fs : List (Po q)} {bs : List V} (h : fs.length = us.length + 1) (hF : FsAt K H bs fs) : Stk K H (mkS o us fs) (ov o :: vns us) bs := by
  have := stk_zip (os := o :: us.map some) (by rw [List.length_cons, List.length_map]; exact h.symm) hF (r := []) (ts := []) (bs := []) ⟨rfl, rfl⟩
  rw [List.append_nil, List.nil_append, List.nil_append, List.map_cons, map_ov] at this
  exact this
theorem stk_parts : ∀ {st : Stq q} {x : V} {ts bs : List V}, Good st → Stk K H st (x :: ts) bs → x = ov (oS st) ∧ ts = vns (uS st) ∧ FsAt K H bs (fS st)
  | [], x, ts, bs, _, ⟨e, _⟩ => by cases e
  | [(o, g)], x, ts, bs, _, ⟨ts', bs', a, e1, e2, hg, k⟩ => by
    obtain ⟨e3, e4⟩ := k
    subst e3
    subst e4
    obtain ⟨rfl, rfl⟩ := List.cons.inj e1
    rw [e2]
    exact ⟨rfl, rfl, ⟨a, rfl, hg⟩, trivial⟩
  | (o, g) :: y :: r, x, ts, bs, hG, ⟨ts', bs', a, e1, e2, hg, k⟩ => by
    have hl := k.len.1
    match ts', hl, e1, k with
    | [], hl, _, _ => cases hl
    | x' :: ts2, _, e1, k =>
      obtain ⟨rfl, rfl⟩ := List.cons.inj e1
      obtain ⟨h1, h2, h3⟩ := stk_parts hG.2.2 k
      obtain ⟨t, et⟩ : ∃ t, o = some t := by
        cases o with
        | none => exact absurd rfl (hG.2.1 (by simp))
        | some t => exact ⟨t, rfl⟩
      subst et
      rw [oS_cons _ _ (by simp), uS_cons _ _ (by simp), fS_cons]
      refine ⟨h1, ?_, ?_⟩
      · rw [h2]
        unfold vns
        rw [List.map_append]
        rfl
      · rw [e2]
        exact FsAt.snoc hg h3
end
theorem PO.lfs {x : Pl q} (h : PO x) : x.2.2.2.length ≤ 200 := h.lf
theorem det_tO : ∀ o : Option (El q), det (tO o) ≠ 0
  | none => det_same
  | some t => det_turn t
theorem tri_same : Tri (same : Mat q) := ⟨rfl, fun z => El.one_ne (q := q) z.symm, fun z => El.one_ne (q := q) z.symm⟩
theorem tO_tmap (o : Option (El q)) : tO o = tmap o (Fld.same : Mat q) := by
  cases o with
  | none => rfl
  | some t => exact (thn_same _).symm
theorem tm_tO (o : Option (El q)) : tm (tO o) = (o, (Fld.same : Mat q)) := by
  rw [tO_tmap]
  exact tm_tmap tri_same o
/-- the step of a place fits -/
theorem plZ_fit {x : Pl q} (h : PO x) : Fit (plZ x) := by
  obtain ⟨b, o, us, fs⟩ := x
  have lf : fs.length ≤ 200 := h.lf
  have fB : ∀ f ∈ fs, IsB f ∧ f.length ≤ 7 := h.fB
  have b7 : ∀ {us' : Po q}, B7 (mkS o us' fs) := fun {us'} y hy => by
    unfold mkS at hy
    rw [List.mem_reverse] at hy
    exact (fB _ (List.of_mem_zip hy).2).2
  by_cases f0 : fs = []
  · subst f0
    have e : mkS o us ([] : List (Po q)) = [] := by
      unfold mkS
      simp
    refine ⟨⟨?_, det_tO _⟩, ?_, ?_⟩
    · show Good (mkS o us [])
      rw [e]
      exact trivial
    · exact b7 (us' := us)
    · show (mkS o us []).length ≤ 200
      rw [e]
      exact Nat.zero_le _
  · have fp := List.length_pos_iff.mpr f0
    have hg : Good (mkS o us fs) := by
      cases b with
      | true =>
        have hb : us.length = fs.length := h.bent rfl
        rw [mk_cut hb]
        exact mk_good (by rw [List.length_dropLast]; omega) fun f hf => (fB f hf).1
      | false =>
        have hs : us.length = fs.length - 1 := (h.str rfl).1
        exact mk_good (by omega) fun f hf => (fB f hf).1
    refine ⟨⟨hg, det_tO _⟩, b7, ?_⟩
    show (mkS o us fs).length ≤ 200
    unfold mkS
    rw [List.length_reverse, List.length_zip]
    omega
theorem zPl_none {z : Sta q} (h : (tm z.last).1 = none) : zPl true z = (true, oS z.st, uS z.st, (fS z.st).dropLast) := by
  unfold zPl
  rw [if_pos rfl, h]
theorem zPl_nil {z : Sta q} {t : El q} (h : (tm z.last).1 = some t) (e : z.st = []) : zPl true z = (true, some t, [], []) := by
  unfold zPl
  rw [if_pos rfl, h, e]
theorem zPl_some {z : Sta q} {t : El q} (h : (tm z.last).1 = some t) (e : z.st ≠ []) : zPl true z = (true, oS z.st, uS z.st ++ [t], fS z.st) := by
  obtain ⟨y, r, e2⟩ := List.exists_cons_of_ne_nil e
  unfold zPl
  rw [if_pos rfl, h, e2]
theorem zPl_ok {z : Sta q} (h : Fit z) (b : Bool) : PO (zPl b z) := by
  obtain ⟨⟨hg, hd⟩, b7, l2⟩ := h
  have fB : ∀ f ∈ fS z.st, IsB f ∧ f.length ≤ 7 := fun f hf => by
    unfold fS at hf
    rw [List.mem_reverse] at hf
    obtain ⟨x, hx, e⟩ := List.mem_map.mp hf
    subst e
    exact ⟨good_all hg x hx, b7 x hx⟩
  have lf := fS_len z.st
  have lu := uS_len z.st
  cases b with
  | false =>
    refine ⟨fB, (by show (fS z.st).length ≤ 200; omega), (fun z => nomatch z), fun _ => ⟨by show (uS z.st).length = (fS z.st).length - 1; omega, fun e => ?_⟩⟩
    have e : fS z.st = [] := e
    have : z.st = [] := List.length_eq_zero_iff.mp (by rw [← lf, e]; rfl)
    show oS z.st = none
    rw [this]
    rfl
  | true =>
    cases e1 : (tm z.last).1 with
    | none =>
      rw [zPl_none e1]
      refine ⟨fun f hf => fB f (List.dropLast_subset _ hf), ?_, fun _ => ?_, fun z => nomatch z⟩
      · show (fS z.st).dropLast.length ≤ 200
        rw [List.length_dropLast]
        omega
      · show (uS z.st).length = (fS z.st).dropLast.length
        rw [List.length_dropLast]
        omega
    | some t =>
      by_cases e2 : z.st = []
      · rw [zPl_nil e1 e2]
        exact ⟨(fun f hf => by cases hf), Nat.zero_le _, fun _ => rfl, fun z => nomatch z⟩
      · rw [zPl_some e1 e2]
        have := List.length_pos_iff.mpr e2
        refine ⟨fB, (by show (fS z.st).length ≤ 200; omega), fun _ => ?_, fun z => nomatch z⟩
        show (uS z.st ++ [t]).length = (fS z.st).length
        rw [List.length_append, List.length_singleton]
        omega
/-- the turn behind the first i bends of a place -/
def tI (o : Option (El q)) (us : Po q) (i : Nat) : Option (El q) := ((o :: us.map some)[i]?).getD none
theorem tI_zero (o : Option (El q)) (us : Po q) : tI o us 0 = o := rfl
theorem tI_some {o : Option (El q)} {us : Po q} {i : Nat} {u : El q} (h : us[i]? = some u) : tI o us (i + 1) = some u := by
  unfold tI
  rw [List.getElem?_cons_succ, List.getElem?_map, h]
  rfl
theorem tI_none {o : Option (El q)} {us : Po q} {i : Nat} (h : us.length ≤ i) : tI o us (i + 1) = none := by
  unfold tI
  rw [List.getElem?_cons_succ, List.getElem?_map, List.getElem?_eq_none h]
  rfl
theorem mkS_nil (o : Option (El q)) (us : Po q) : mkS o us [] = [] := by
  unfold mkS
  simp
theorem mkS_snoc {o : Option (El q)} {us : Po q} {fs : List (Po q)} {i : Nat} {f : Po q} (h : fs[i]? = some f) (hi : i ≤ us.length) : mkS o us (fs.take (i + 1)) = (tI o us i, f) :: mkS o us (fs.take i) := by
  have il : i < fs.length := (List.getElem?_eq_some_iff.mp h).1
  have io : i < (o :: us.map some).length := by
    rw [List.length_cons, List.length_map]
    omega
  have e1 : fs.take (i + 1) = fs.take i ++ [f] := by
    rw [List.take_add_one, h]
    rfl
  have e2 : (o :: us.map some) = ((o :: us.map some).take i ++ [tI o us i]) ++ (o :: us.map some).drop (i + 1) := by
    have : tI o us i = (o :: us.map some)[i] := by
      unfold tI
      rw [List.getElem?_eq_getElem io]
      rfl
    have t1 : (o :: us.map some).take (i + 1) = (o :: us.map some).take i ++ [tI o us i] := by
      rw [List.take_add_one, List.getElem?_eq_getElem io, this]
      rfl
    rw [← t1]
    exact (List.take_append_drop (i + 1) (o :: us.map some)).symm
  have lt : ((o :: us.map some).take i).length = i := by
    rw [List.length_take]
    omega
  have lf : (fs.take i).length = i := by
    rw [List.length_take]
    omega
  have e3 : (o :: us.map some).zip (fs.take (i + 1)) = ((o :: us.map some).take i).zip (fs.take i) ++ [(tI o us i, f)] := by
    rw [e1, e2]
    have z1 := List.zip_append (l₁ := (o :: us.map some).take i ++ [tI o us i]) (r₁ := (o :: us.map some).drop (i + 1)) (l₂ := fs.take i ++ [f]) (r₂ := []) (by rw [List.length_append, List.length_append, lt, lf]; rfl)
    rw [List.append_nil, List.zip_nil_right, List.append_nil] at z1
    rw [z1, List.zip_append (by rw [lt, lf])]
    have e4 : List.take i (((o :: us.map some).take i ++ [tI o us i]) ++ (o :: us.map some).drop (i + 1)) = (o :: us.map some).take i := by rw [← e2]
    rw [e4]
    rfl
  have e5 : (o :: us.map some).zip (fs.take i) = ((o :: us.map some).take i).zip (fs.take i) := by
    conv => lhs; rw [← List.take_append_drop i (o :: us.map some)]
    have z1 := List.zip_append (l₁ := (o :: us.map some).take i) (r₁ := (o :: us.map some).drop i) (l₂ := fs.take i) (r₂ := []) (by rw [lt, lf])
    rw [List.append_nil, List.zip_nil_right, List.append_nil] at z1
    exact z1
  unfold mkS
  rw [e3, e5, List.reverse_append]
  rfl
theorem plT_tI {x : Pl q} (h : PO x) : plT x = tI x.2.1 x.2.2.1 x.2.2.2.length := by
  obtain ⟨b, o, us, fs⟩ := x
  cases b with
  | false =>
    have k1 : us.length = fs.length - 1 := (h.str rfl).1
    have k2 : fs = [] → o = none := (h.str rfl).2
    show none = tI o us fs.length
    by_cases f0 : fs = []
    · rw [f0, k2 f0]
      rfl
    · have fp := List.length_pos_iff.mpr f0
      obtain ⟨n, hn⟩ : ∃ n, fs.length = n + 1 := ⟨fs.length - 1, by omega⟩
      rw [hn, tI_none (by omega)]
  | true =>
    have k1 : us.length = fs.length := h.bent rfl
    show (match us.getLast? with
      | some t => some t
      | none => o) = tI o us fs.length
    rcases List.eq_nil_or_concat us with e | ⟨us', y, e⟩
    · rw [e] at k1 ⊢
      rw [← k1]
      rfl
    · rw [List.concat_eq_append] at e
      subst e
      rw [List.length_append, List.length_singleton] at k1
      rw [← k1, tI_some (u := y) (by simp)]
      simp
/-- the pieces of a place -/
def pcP (x : Pl q) : List (Pc q) := rowSt (plZ x).st ++ tp (plT x)
end
end BP
set_option Elab.async false
set_option linter.all false
set_option maxRecDepth 100000
set_option maxHeartbeats 1000000
set_option pp.maxSteps 2000
namespace BP
open PySem PySem.Spec PyProof.Rows L2 Fld
section
variable {q : Nat} [FF : IsF q] {K : PySem.W.Frag} {H H' : Hp}
theorem step_parts {c : Addr} {z : Sta q} (g : Good z.st) (h : StepAt K H c z) : ∃ (bs : List V) (t b l : Addr), SqT K H c [ov (oS z.st), .ref b, .ref t, .ref l] ∧ SqT K H b bs ∧ FsAt K H bs (fS z.st) ∧ SqT K H t (vns (uS z.st)) ∧ SqT K H l (mv z.last) := by
  obtain ⟨start, ts, bs, t, b, l, h1, h2, h3, h4, ⟨e1, e2, e3, e4⟩ | ⟨_, h5⟩⟩ := h
  · rw [e1]
    rw [e2] at h1
    rw [e3] at h3
    rw [e4] at h2
    exact ⟨[], t, b, l, h1, h2, trivial, h3, h4⟩
  · obtain ⟨k1, k2, k3⟩ := stk_parts g h5
    rw [k1] at h1
    rw [k2] at h3
    exact ⟨bs, t, b, l, h1, h2, k3, h3, h4⟩
/-- a step, from its parts -/
theorem step_of_parts {c : Addr} {o : Option (El q)} {us : Po q} {fs : List (Po q)} {m : Mat q} {bs : List V} {t b l : Addr} (h1 : SqT K H c [ov o, .ref b, .ref t, .ref l]) (h2 : SqT K H b bs) (h3 : FsAt K H bs fs) (h4 : SqT K H t (vns us)) (h5 : SqT K H l (mv m))
    (hl : fs.length = us.length + 1 ∨ (fs = [] ∧ us = [] ∧ o = none)) : StepAt K H c (⟨mkS o us fs, m⟩ : Sta q) := by
  rcases hl with hl | ⟨e1, e2, e3⟩
  · refine ⟨ov o, vns us, bs, t, b, l, h1, h2, h4, h5, .inr ⟨fun z => ?_, stk_mk hl h3⟩⟩
    have := mk_len (o := o) (us := us) (fs := fs) (by omega)
    rw [show mkS o us fs = [] from z] at this
    rw [← this] at hl
    simp at hl
  · subst e1
    subst e2
    subst e3
    refine ⟨ov none, [], bs, t, b, l, h1, h2, h4, h5, .inl ⟨rfl, rfl, rfl, ?_⟩⟩
    have := h3.len
    exact List.length_eq_zero_iff.mp this
theorem oi_neg {o : Option (El q)} (h : oi o = -1) : o = none := by
  cases o with
  | none => rfl
  | some t =>
    exfalso
    have : ((t.val : Nat) : Int) = -1 := h
    omega
end
def spSts (K : PySem.W.Frag) : Sp := fun vs H Q _ => ∃ (q : Nat) (_ : IsF q) (a : Addr) (m : Mat q), vs = [.ref a] ∧ SqT K H a (mv m) ∧ ∀ (r : Addr) (H' : Hp), Same H H' → StepAt K H' r (⟨[], m⟩ : Sta q) → Q (.ref r) H'
def spPSt (K : PySem.W.Frag) : Sp := fun vs H Q _ => ∃ (q : Nat) (_ : IsF q) (c : Addr) (x : Pl q), vs = [.ref c] ∧ PA K H c x ∧ PO x ∧ ∀ (r : Addr) (H' : Hp), Same H H' → StepAt K H' r (plZ x) → Q (.ref r) H'
def spSoP (K : PySem.W.Frag) : Sp := fun vs H Q _ => ∃ (q : Nat) (_ : IsF q) (c : Addr) (x : Pl q), vs = [.int q, .ref c] ∧ PA K H c x ∧ PO x ∧ ∀ (r : Addr) (H' : Hp), Same H H' → StepAt K H' r (plZ x) → Q (.ref r) H'
def spPBS (K : PySem.W.Frag) : Sp := fun vs H Q _ => ∃ (q : Nat) (_ : IsF q) (c : Addr) (z : Sta q) (b : Bool), vs = [.int q, .ref c, .str (sortS b)] ∧ StepAt K H c z ∧ Fit z ∧ ∀ (r : Addr) (H' : Hp), Same H H' → PA K H' r (zPl b z) → Q (.ref r) H'
def spBes (K : PySem.W.Frag) : Sp := fun vs H Q _ => ∃ (q : Nat) (_ : IsF q) (c d : Addr) (x y : Pl q), vs = [.int q, .ref c, .ref d] ∧ PA K H c x ∧ PO x ∧ PA K H d y ∧ PO y ∧
  (((y.1 = true ∨ y.2.2.2 ≠ []) ∧ ahP y = x) ∨ ((x.1 = true ∨ x.2.2.2 ≠ []) ∧ ahP x = y)) ∧ ∀ H', Same H H' → Q (.bl true) H'
section
variable {q : Nat} [FF : IsF q] {K : PySem.W.Frag} {H : Hp}
theorem ok_ah {x : Pl q} (h : PO x) (d : x.1 = true ∨ x.2.2.2 ≠ []) : PO (ahP x) := by
  have h2 := d
  obtain ⟨b, o, us, fs⟩ := x
  cases b with
  | true =>
    have hb : us.length = fs.length := h.bent rfl
    refine ⟨h.fB, h.lf, (fun z => nomatch z), fun _ => ⟨?_, fun z => ?_⟩⟩
    · show us.dropLast.length = fs.length - 1
      rw [List.length_dropLast, hb]
    · show ahO true o fs = none
      exact if_pos ⟨rfl, z⟩
  | false =>
    have f0 : fs ≠ [] := h2.resolve_left (by simp)
    have hs := (h.str rfl).1
    have hs : us.length = fs.length - 1 := hs
    refine ⟨fun f hf => h.fB f (List.dropLast_subset _ hf), ?_, fun _ => ?_, fun z => nomatch z⟩
    · have := h.lf
      show fs.dropLast.length ≤ 200
      rw [List.length_dropLast]
      have : fs.length ≤ 200 := h.lf
      omega
    · show us.length = fs.dropLast.length
      rw [List.length_dropLast, hs]

/-- whether the place ahead of one is the other one -/
theorem bes_cmp {σ : L2.St} {i j : Nat} {c d : Addr} {x y : Pl q} {Q : VK} (hi : σ[i]? = some (some (.ref c))) (hj : σ[j]? = some (some (.ref d))) (hx : PA K H c x) (ox : PO x) (hy : PA K H d y) (oy : PO y)
    (k : ∀ v H', Same H H' → ((x.1 = true ∨ x.2.2.2 ≠ []) ∧ ahP x = y → v = true) → Q (.bl v) H') : tOp (rEqD K) (tCall (spPAh K) [] E0 (tCons (tVar i) tNil)) (tVar j) σ H Q := by
  refine ⟨_, hi, q, FF, c, x.1, x.2.1, x.2.2.1, x.2.2.2, rfl, hx, ox, fun nr r H' s hp => ?_, fun nr => ?_⟩
  · have hp : PA K H' r (ahP x) := hp
    have oa := ok_ah ox nr
    refine ⟨_, hj, plD (ahP x).1 (ahP x).2.1 (ahP x).2.2.1 (ahP x).2.2.2, plD y.1 y.2.1 y.2.2.1 y.2.2.2, dp_pl hp, dp_pl (hy.kept s), sh_pl oa, sh_pl oy, k _ H' s fun e => ?_⟩
    rw [e.2]
    exact SeqAt.eqv_refl _ (sm_pl oy).lay
  · exact ⟨_, hj, .none, plD y.1 y.2.1 y.2.2.1 y.2.2.2, .non, dp_pl hy, by decide +kernel, sh_pl oy, k _ H (fun _ _ z => z) fun e => absurd e.1 nr⟩
end
theorem sort_ne : ¬ (V.str (sortS true) = V.str "straight") := fun z => absurd (V.str.inj z) (by decide +kernel)
end BP
set_option Elab.async false
set_option linter.all false
set_option maxRecDepth 100000
set_option maxHeartbeats 4000000
namespace BP
open PySem PySem.Spec PyProof.Rows L2
theorem getC {H : Hp} {d c : Addr} {m n : Int} (h : H d = some (.dK (deckD c m n))) : DGet H d (.str "cells") (some (.ref c)) := by
  have g := DGet.k (k := kC) h
  rw [deck_C] at g
  exact g
theorem getM {H : Hp} {d c : Addr} {m n : Int} (h : H d = some (.dK (deckD c m n))) : DGet H d (.str "mixed") (some (.int m)) := by
  have g := DGet.k (k := kM) h
  rw [deck_M] at g
  exact g
theorem getD {H : Hp} {d c : Addr} {m n : Int} (h : H d = some (.dK (deckD c m n))) : DGet H d (.str "draws") (some (.int n)) := by
  have g := DGet.k (k := kD) h
  rw [deck_D] at g
  exact g
theorem putD {H : Hp} {d c : Addr} {m n k : Int} (h : H d = some (.dK (deckD c m n))) : DPut H d (.str "draws") (.int k) (upd H d (.dK (deckD c m k))) := by
  have g := DPut.k (k := kD) (v := .int k) h (by show 3 < sizeLine; decide)
  rw [deck_put] at g
  exact g
theorem modB (i : Int) {j : Int} (h : 0 < j) : 0 ≤ i % j ∧ i % j < j := ⟨Int.emod_nonneg i (by omega), Int.emod_lt_of_pos i h⟩
theorem modN (i : Int) {n : Nat} (h : 0 < n) : ∃ x : Nat, i % (n : Int) = (x : Int) ∧ x < n := by
  obtain ⟨a, b⟩ := modB i (j := (n : Int)) (by omega)
  exact ⟨(i % (n : Int)).toNat, by omega, by omega⟩
theorem cut_ints (ns : List Int) (lo hi : Option Int) : ∃ ms : List Int, cutV (ns.map V.int) lo hi = ms.map V.int ∧ ms.length ≤ ns.length := by
  refine ⟨(ns.drop (HT.sIx ns.length 0 lo)).take (HT.sIx ns.length ns.length hi - HT.sIx ns.length 0 lo), ?_, ?_⟩
  · unfold cutV
    rw [List.length_map, List.map_take, List.map_drop]
  · rw [List.length_take, List.length_drop]
    omega
end BP
namespace K13
open PySem PySem.Spec PyProof.Rows L2 BP Fld
section
variable {P : Program} {w : World} {K : PySem.W.Frag} {mg : Str → Option Value} {base : Heap}
/-! ### the deck is made -/
def spDeck (K : PySem.W.Frag) : Sp := fun vs H Q _ => ∃ (a : Addr) (ns : List Int), vs = [.ref a] ∧ SqL K H a (ns.map V.int) ∧ ns.length ≤ 63 ∧ ∀ (d c : Addr) (H' : Hp), Same H H' → H d = none → H c = none → Deck H' d c → Q (.ref d) H'
theorem ok_deck {f : Addr} {fd : FuncData} {k : Nat} (F : Fun K "_law_deck" "_law_deck" sLDeck f fd) (mi : mg "int" = none) (ml : mg "list" = none) : FnOk P w K mg base CX0 (k + 1) f fd pLDeck (spDeck K) := by
  refine F.ok scLDeck (fun vs H Q E h => ?_) (fun cdv A outer s H vs Q E hr h => ?_)
  · obtain ⟨a, ns, rfl, _⟩ := h
    rfl
  · obtain ⟨a, ns, rfl, hS, hl, want⟩ := h
    refine ⟨_, pss_cons (ps_set (i := 1) scLDeck.nd rfl (.inl rfl) pe_int)
      (pss_cons (ps_for PassesOwn.never rfl (pi_list (pe_slice sl_list (pv 0) po_none (po_some pe_int))) (pg_name (i := 2) scLDeck.nd rfl (.inl rfl))
        (pss_one (ps_set (i := 1) scLDeck.nd rfl (.inl rfl) (pe_op op_mod (pe_callTy call_int1 (by rfl) mi (by decide +kernel) (pa_cons (pe_op op_add (pe_op op_add (pe_op op_mul (pv 1) pe_int) (pe_op op_mod (pe_callTy call_int1 (by rfl) mi (by decide +kernel) (pa_cons (pv 2) pa_nil)) pe_int)) pe_int) pa_nil)) pe_int))))
      (pss_one (ps_ret (pe_disp (pps_cons pe_str (pe_revL (pe_callTy call_list_of (by rfl) ml (by decide +kernel) (pa_cons (pe_slice sl_list (pv 0) po_none (po_some pe_int)) pa_nil))) (pps_cons pe_str (pv 1) (pps_cons pe_str pe_int pps_nil)))
        (by rfl) (by rfl) (fun z => by cases z) (by decide))))), ?_⟩
    obtain ⟨ms, em, lm⟩ := cut_ints ns none (some 63)
    refine ⟨.ref a, rfl, 63, rfl, a, _, rfl, hS, fun p np => ?_⟩
    have s1 : Same H (upd H p (.lst (cutV (ns.map V.int) none (some 63)))) := same_new np
    refine ⟨p, rfl, ⟨_, .inl (.inl upd_same)⟩, for_list (xs := ms.map V.int) (fun i σ H' => H' = upd H p (.lst (cutV (ns.map V.int) none (some 63))) ∧ ∃ (m : Int) (y : Option V), σ = [some (.ref a), some (.int m), y] ∧ 0 ≤ m ∧ m < 2147483647)
      ⟨rfl, 10881338, none, rfl, by decide, by decide⟩ (fun i σ H' _ hW => ?_) (fun i x σ H' hx hW => ?_) (fun σ H' hW => ?_)⟩
    · obtain ⟨rfl, _⟩ := hW
      rw [em]
      exact .inl (.inl upd_same)
    · obtain ⟨rfl, m, y, rfl, m0, m1⟩ := hW
      obtain ⟨n, rfl⟩ : ∃ n : Int, x = .int n := by
        rw [List.getElem?_map] at hx
        cases e : ms[i]? with
        | none =>
          rw [e] at hx
          cases hx
        | some n =>
          rw [e] at hx
          exact ⟨n, (Option.some.inj hx).symm⟩
      refine ⟨.int m, rfl, m, 48271, rfl, rfl, .inl ⟨by omega, by omega⟩, .int n, rfl, .inl ⟨n, rfl, n, 2147483629, rfl, rfl, (by show (0 : Int) < _; decide), _, _, rfl, rfl, _, 71, rfl, rfl, .inl ⟨_, rfl, _, 2147483587, rfl, rfl, (by show (0 : Int) < _; decide), ?_⟩⟩⟩
      obtain ⟨z1, z2⟩ := modB (m * 48271 + n % 2147483629 + 71) (j := 2147483587) (by decide)
      exact ⟨rfl, _, _, rfl, z1, by omega⟩
    · obtain ⟨rfl, m, y, rfl, m0, m1⟩ := hW
      refine fun d nd => ⟨.ref a, rfl, 63, rfl, a, _, rfl, (same_new nd).seq (s1.seq hS), fun q nq => ?_⟩
      have s2 := s1.trans (same_new (o := .dK []) nd)
      have s3 := s2.trans (same_new (o := .lst (cutV (ns.map V.int) none (some 63))) nq)
      refine ⟨q, _, rfl, .inl (.inl (.inl upd_same)), fun l hl' => ⟨l, _, rfl, .inl (.inl upd_same), fun c nc => ?_⟩⟩
      have s4 := s3.trans (same_new (o := .lst (cutV (ns.map V.int) none (some 63))) hl')
      have s5 := s4.trans (same_new (o := .lst (cutV (ns.map V.int) none (some 63)).reverse) nc)
      have hd1 : (upd (upd H p (.lst (cutV (ns.map V.int) none (some 63)))) d (.dK [])) d = some (.dK []) := upd_same
      have hd2 := same_new (o := .lst (cutV (ns.map V.int) none (some 63))) nq _ _ hd1
      have hd3 := same_new (o := .lst (cutV (ns.map V.int) none (some 63))) hl' _ _ hd2
      have ncd : d ≠ c := ne_of_none hd3 nc
      have free_p : ∀ {b : Addr}, (upd H p (.lst (cutV (ns.map V.int) none (some 63)))) b = none → H b = none := by
        intro b hb
        cases e : H b with
        | none => rfl
        | some o =>
          rw [s1 _ _ e] at hb
          cases hb
      have hdn : H d = none := free_p nd
      have hcn : H c = none := by
        cases e : H c with
        | none => rfl
        | some o =>
          rw [s4 _ _ e] at nc
          cases nc
      refine ⟨.int m, rfl, ?_, deckD c m 0, rfl, (by show 3 ≤ 15; decide), ?_⟩
      · rw [upd_ne ncd]
        exact hd3
      · rw [deck_merge]
        refine want d c _ ?_ hdn hcn ?_
        · intro b x e
          rw [upd_ne (ne_of_none e hdn)]
          exact s5 b x e
        · refine ⟨ms.reverse, m, 0, upd_same, ?_, ?_, m0, m1⟩
          · rw [upd_ne ncd.symm, upd_same, em, List.map_reverse]
          · rw [List.length_reverse]
            omega
/-! ### a draw -/
def spDraw : Sp := fun vs H Q _ => ∃ (d c : Addr) (n : Nat), vs = [.ref d, .int n] ∧ Deck H d c ∧ 0 < n ∧ n < 1000000000 ∧ ∀ (x : Nat) (H' : Hp), x < n → But d c H H' → Deck H' d c → Q (.int x) H'
theorem ok_draw {f : Addr} {fd : FuncData} {k : Nat} (F : Fun K "_law_draw" "_law_draw" sLDraw f fd) (mi : mg "int" = none) (mm : mg "max" = none) : FnOk P w K mg base CX0 (k + 1) f fd pLDraw spDraw := by
  refine F.ok scLDraw (fun vs H Q E h => ?_) (fun cdv A outer s H vs Q E hr h => ?_)
  · obtain ⟨d, c, n, rfl, _⟩ := h
    rfl
  · obtain ⟨d, c, n, rfl, ⟨cells, m, k0, hd, hc, hl, m0, m1⟩, n0, n1, want⟩ := h
    have hu := hu_of hr
    refine ⟨_, pss_cons (ps_dput hu (pv 0) pe_str (pe_op op_add (pe_dget hu (pv 0) pe_str (fun _ _ => rfl)) pe_int) rfl)
      (pss_cons (ps_set (i := 2) scLDraw.nd rfl (.inl rfl) (pe_op op_add (pe_dget hu (pv 0) pe_str (fun _ _ => rfl)) (pe_op op_mul pe_int (pe_dget hu (pv 0) pe_str (fun _ _ => rfl)))))
      (pss_cons (ps_if (pt_cmpR (op_neD hr.units) (pe_dget hu (pv 0) pe_str (fun _ _ => rfl)) (pe_lst pa_nil) (nomark _))
        (pss_cons (ps_set (i := 3) scLDraw.nd rfl (.inl rfl) (pe_bm0 PySem.F.plainAttrs_list PySem.F.slot_list_pop PySem.F.type_list_pop mt_pop (pe_dget hu (pv 0) pe_str (fun _ _ => rfl))))
        (pss_cons (ps_if (pt_cmpR op_ge (pv 3) (pe_op op_pow pe_int pe_int) (nomark _))
          (pss_cons (ps_expr (pe_bm PySem.F.plainAttrs_list PySem.F.slot_list_append PySem.F.type_list_append mt_append (pe_dget hu (pv 0) pe_str (fun _ _ => rfl)) (pa_cons (pe_op op_fdivN (pv 3) (pe_callB (call_max2 rfl) (by rfl) mm (by decide +kernel) (pa_cons pe_int (pa_cons (pv 1) pa_nil)))) pa_nil)))
          (pss_one (ps_ret (pe_op op_mod (pe_callTy call_int1 (by rfl) mi (by decide +kernel) (pa_cons (pv 3) pa_nil)) (pv 1))))) pss_nil)
        (pss_one (ps_set (i := 2) scLDraw.nd rfl (.inl rfl) (pe_op op_add (pv 2) (pe_op op_mod (pe_callTy call_int1 (by rfl) mi (by decide +kernel) (pa_cons (pv 3) pa_nil)) pe_int)))))) pss_nil)
      (pss_cons (ps_set (i := 2) scLDraw.nd rfl (.inl rfl) (pe_op op_mod (pe_callTy call_int1 (by rfl) mi (by decide +kernel) (pa_cons (pe_op op_add (pe_op op_mul (pv 2) pe_int) pe_int) pa_nil)) pe_int))
      (pss_cons (ps_set (i := 2) scLDraw.nd rfl (.inl rfl) (pe_op op_mod (pe_callTy call_int1 (by rfl) mi (by decide +kernel) (pa_cons (pe_op op_add (pe_op op_add (pe_op op_mul (pv 2) (pv 2)) (pe_op op_mul pe_int (pe_dget hu (pv 0) pe_str (fun _ _ => rfl)))) pe_int) pa_nil)) pe_int))
      (pss_cons (ps_set (i := 2) scLDraw.nd rfl (.inl rfl) (pe_op op_mod (pe_callTy call_int1 (by rfl) mi (by decide +kernel) (pa_cons (pe_op op_mul (pv 2) pe_int) pa_nil)) pe_int))
      (pss_one (ps_ret (pe_op op_mod (pe_callTy call_int1 (by rfl) mi (by decide +kernel) (pa_cons (pe_op op_fdiv (pv 2) pe_int) pa_nil)) (pv 1))))))))), ?_⟩
    -- draws
    refine ⟨.ref d, rfl, d, .int k0, rfl, getD hd, k0, 1, rfl, rfl, .ref d, rfl, d, _, rfl, putD hd, ?_⟩
    have ndc : d ≠ c := ne_of hd hc (by intro z; cases z)
    generalize k0 + 1 = dr
    have hd1 : (upd H d (.dK (deckD c m dr))) d = some (.dK (deckD c m dr)) := upd_same
    have hc1 : (upd H d (.dK (deckD c m dr))) c = some (.lst (cells.map V.int)) := by
      rw [upd_ne ndc.symm]
      exact hc
    have b1 : But d c H (upd H d (.dK (deckD c m dr))) := fun b x e1 e2 e => by
      rw [upd_ne e1]
      exact e
    generalize upd H d (.dK (deckD c m dr)) = H1 at hd1 hc1 b1 ⊢
    refine ⟨.ref d, rfl, d, .int m, rfl, getM hd1, .ref d, rfl, d, .int dr, rfl, getD hd1, 64627, dr, rfl, rfl, .inl ⟨by decide, by decide⟩, m, _, rfl, rfl, ?_⟩
    have done : ∀ (i : Int) (H' : Hp), But d c H H' → Deck H' d c → Q (.int (i % (n : Int))) H' := by
      intro i H' hb hk
      obtain ⟨x, e, hx⟩ := modN i n0
      rw [e]
      exact want x H' hx hb hk
    -- the cells
    refine ⟨.ref d, rfl, d, .ref c, rfl, getC hd1, Nat.zero_le _, fun p np => ?_⟩
    have sp := same_new (o := .lst []) np
    have hd2 := sp _ _ hd1
    have hc2 := sp _ _ hc1
    have b2 := b1.trans (But.of sp)
    have hp2 : (upd H1 p (.lst [])) p = some (.lst (([] : List Int).map V.int)) := upd_same
    generalize upd H1 p (.lst []) = H2 at hd2 hc2 b2 hp2 ⊢
    refine ⟨dat cells, dat [], dp_ints (.inl (.inl hc2)), dp_ints (.inl (.inl hp2)), shaped_ints _, shaped_ints _, _, rfl, ?_⟩
    rw [eqv_nil]
    cases cells with
    | nil =>
      refine iteF ?_
      obtain ⟨z1, z2⟩ := modB ((m + 64627 * dr) * 39373 + 71) (j := 2147483647) (by decide)
      obtain ⟨z3, z4⟩ := modB ((((m + 64627 * dr) * 39373 + 71) % 2147483647) * (((m + 64627 * dr) * 39373 + 71) % 2147483647) + 52919 * dr + 43) (j := 2147483587) (by decide)
      refine ⟨.int (m + 64627 * dr), rfl, (m + 64627 * dr), 39373, rfl, rfl, .inr ⟨by decide, by decide⟩, _, 71, rfl, rfl, .inl ⟨_, rfl, _, 2147483647, rfl, rfl, (by show (0 : Int) < _; decide), ?_⟩⟩
      refine ⟨.int (((m + 64627 * dr) * 39373 + 71) % 2147483647), rfl, .int (((m + 64627 * dr) * 39373 + 71) % 2147483647), rfl, (((m + 64627 * dr) * 39373 + 71) % 2147483647), (((m + 64627 * dr) * 39373 + 71) % 2147483647), rfl, rfl, .inl ⟨by omega, by omega⟩, .ref d, rfl, d, .int dr, rfl, getD hd2, 52919, dr, rfl, rfl, .inl ⟨by decide, by decide⟩, _, _, rfl, rfl, _, 43, rfl, rfl, .inl ⟨_, rfl, _, 2147483587, rfl, rfl, (by show (0 : Int) < _; decide), ?_⟩⟩
      refine ⟨.int (((((m + 64627 * dr) * 39373 + 71) % 2147483647) * (((m + 64627 * dr) * 39373 + 71) % 2147483647) + 52919 * dr + 43) % 2147483587), rfl, (((((m + 64627 * dr) * 39373 + 71) % 2147483647) * (((m + 64627 * dr) * 39373 + 71) % 2147483647) + 52919 * dr + 43) % 2147483587), 40692, rfl, rfl, .inl ⟨by omega, by omega⟩, .inl ⟨_, rfl, _, 2147483563, rfl, rfl, (by show (0 : Int) < _; decide), ?_⟩⟩
      refine ⟨_, rfl, _, 64, rfl, rfl, ⟨by decide, by decide⟩, .inl ⟨_, rfl, .int n, rfl, _, n, rfl, rfl, (by show (0 : Int) < (n : Int); omega), ?_⟩⟩
      exact done _ _ b2 ⟨[], m, dr, hd2, hc2, Nat.zero_le _, m0, m1⟩
    | cons y0 ys =>
      refine iteT ?_
      obtain ⟨xs, x, ex⟩ : ∃ xs x, y0 :: ys = xs ++ [x] := ⟨(y0 :: ys).dropLast, (y0 :: ys).getLast (by simp), (List.dropLast_concat_getLast (by simp)).symm⟩
      rw [ex] at hc2 hl
      have lx : xs.length ≤ 62 := by
        rw [List.length_append] at hl
        simpa using hl
      have eM : (xs ++ [x]).map V.int = xs.map V.int ++ [.int x] := by simp
      rw [eM] at hc2
      refine ⟨.ref d, rfl, d, .ref c, rfl, getC hd2, .inl ⟨rfl, _, .inl (.inl hc2)⟩, c, _, .int x, rfl, rfl, hc2, ?_, ?_⟩
      · rw [List.length_append, List.getElem?_append_right (by simp)]
        simp
      · rw [List.dropLast_concat]
        have hc3 : (upd H2 c (.lst (xs.map V.int))) c = some (.lst (xs.map V.int)) := upd_same
        have hd3 : (upd H2 c (.lst (xs.map V.int))) d = some (.dK (deckD c m dr)) := by
          rw [upd_ne ndc]
          exact hd2
        have b3 : But d c H (upd H2 c (.lst (xs.map V.int))) := b2.trans fun b z e1 e2 e => by
          rw [upd_ne e2]
          exact e
        generalize upd H2 c (.lst (xs.map V.int)) = H3 at hc3 hd3 b3 ⊢
        refine ⟨.int x, rfl, 10, 18, rfl, rfl, ⟨by decide, by decide, by decide⟩, x, _, rfl, rfl, _, rfl, ite2 (fun _ => ?_) (fun _ => ?_)⟩
        · refine ⟨.ref d, rfl, d, .ref c, rfl, getC hd3, .inl ⟨rfl, _, .inl (.inl hc3)⟩, .int x, rfl, .int n, rfl, 2, n, rfl, x, _, rfl, rfl, ?_, ?_⟩
          · show (if (n : Int) > 2 then (n : Int) else 2) ≠ 0 ∧ (if (n : Int) > 2 then (n : Int) else 2).natAbs < 1073741824
            split <;> omega
          · refine ⟨c, xs.map V.int, _, rfl, rfl, hc3, ?_, ?_⟩
            · rw [List.length_map]
              exact small1000 (by omega)
            · refine ⟨.int x, rfl, .inl ⟨x, rfl, .int n, rfl, x, n, rfl, rfl, (by show (0 : Int) < (n : Int); omega), ?_⟩⟩
              refine done x _ (b3.trans fun b z e1 e2 e => ?_) ⟨xs ++ [x.fdiv (if (n : Int) > 2 then (n : Int) else 2)], m, dr, ?_, ?_, ?_, m0, m1⟩
              · rw [upd_ne e2]
                exact e
              · rw [upd_ne ndc]
                exact hd3
              · rw [upd_same, List.map_append]
                rfl
              · rw [List.length_append]
                show xs.length + 1 ≤ 63
                omega
        · refine ⟨.int (m + 64627 * dr), rfl, .int x, rfl, .inl ⟨x, rfl, x, 2147483629, rfl, rfl, (by show (0 : Int) < _; decide), (m + 64627 * dr), _, rfl, rfl, ?_⟩⟩
          obtain ⟨z1, z2⟩ := modB ((m + 64627 * dr + x % 2147483629) * 39373 + 71) (j := 2147483647) (by decide)
          obtain ⟨z3, z4⟩ := modB ((((m + 64627 * dr + x % 2147483629) * 39373 + 71) % 2147483647) * (((m + 64627 * dr + x % 2147483629) * 39373 + 71) % 2147483647) + 52919 * dr + 43) (j := 2147483587) (by decide)
          refine ⟨.int (m + 64627 * dr + x % 2147483629), rfl, (m + 64627 * dr + x % 2147483629), 39373, rfl, rfl, .inr ⟨by decide, by decide⟩, _, 71, rfl, rfl, .inl ⟨_, rfl, _, 2147483647, rfl, rfl, (by show (0 : Int) < _; decide), ?_⟩⟩
          refine ⟨.int (((m + 64627 * dr + x % 2147483629) * 39373 + 71) % 2147483647), rfl, .int (((m + 64627 * dr + x % 2147483629) * 39373 + 71) % 2147483647), rfl, (((m + 64627 * dr + x % 2147483629) * 39373 + 71) % 2147483647), (((m + 64627 * dr + x % 2147483629) * 39373 + 71) % 2147483647), rfl, rfl, .inl ⟨by omega, by omega⟩, .ref d, rfl, d, .int dr, rfl, getD hd3, 52919, dr, rfl, rfl, .inl ⟨by decide, by decide⟩, _, _, rfl, rfl, _, 43, rfl, rfl, .inl ⟨_, rfl, _, 2147483587, rfl, rfl, (by show (0 : Int) < _; decide), ?_⟩⟩
          refine ⟨.int (((((m + 64627 * dr + x % 2147483629) * 39373 + 71) % 2147483647) * (((m + 64627 * dr + x % 2147483629) * 39373 + 71) % 2147483647) + 52919 * dr + 43) % 2147483587), rfl, (((((m + 64627 * dr + x % 2147483629) * 39373 + 71) % 2147483647) * (((m + 64627 * dr + x % 2147483629) * 39373 + 71) % 2147483647) + 52919 * dr + 43) % 2147483587), 40692, rfl, rfl, .inl ⟨by omega, by omega⟩, .inl ⟨_, rfl, _, 2147483563, rfl, rfl, (by show (0 : Int) < _; decide), ?_⟩⟩
          refine ⟨_, rfl, _, 64, rfl, rfl, ⟨by decide, by decide⟩, .inl ⟨_, rfl, .int n, rfl, _, n, rfl, rfl, (by show (0 : Int) < (n : Int); omega), ?_⟩⟩
          exact done _ _ b3 ⟨xs, m, dr, hd3, hc3, by omega, m0, m1⟩
/-! ### one of some -/
def spPick : Sp := fun vs H Q _ => ∃ (d c l : Addr) (xs : List V), vs = [.ref d, .ref l] ∧ Deck H d c ∧ l ≠ c ∧ H l = some (.lst xs) ∧ 0 < xs.length ∧ xs.length < 1000 ∧ ∀ (x : V) (H' : Hp), x ∈ xs → But d c H H' → Deck H' d c → Q x H'
theorem ok_pick {f fD : Addr} {fd fdD : FuncData} (F : Fun K "_law_pick" "_law_pick" sLPick f fd) (D : BP.Can P w K mg base "_law_draw" 1 pLDraw spDraw fD fdD) (ml : mg "len" = none) : FnOk P w K mg base CX0 2 f fd pLPick spPick := by
  refine F.ok scLPick (fun vs H Q E h => ?_) (fun cdv A outer s H vs Q E hr h => ?_)
  · obtain ⟨d, c, l, xs, rfl, _⟩ := h
    rfl
  · obtain ⟨d, c, l, xs, rfl, hk, nl, hx, x0, x1, want⟩ := h
    refine ⟨_, pss_one (ps_ret (pe_ix ix_list (pv 1) (pe_call D.ok hr (by rfl) D.g D.kp D.b .nil pass0 (pa_cons (pv 0) (pa_cons (pe_callB call_len_seq (by rfl) ml PySem.boot_len (pa_cons (pv 1) pa_nil)) pa_nil))) (fun _ _ => rfl))), ?_⟩
    refine ⟨.ref l, rfl, .ref d, rfl, .ref l, rfl, l, xs, rfl, .inl (.inl (.inl hx)), d, c, xs.length, rfl, hk, x0, by omega, fun x H' hlt hb hk' => ?_⟩
    have hx' := hb _ _ (hk.lst hx nl) nl hx
    exact ⟨l, xs, x, xs[x], rfl, rfl, .inl (.inl hx'), atI_nat (List.getElem?_eq_getElem hlt), want _ H' (List.getElem_mem hlt) hb hk'⟩
/-! ### a field number -/
def spSF : Sp := fun vs H Q _ => ∃ (d c : Addr), vs = [.ref d] ∧ Deck H d c ∧ ∀ (q : Nat) (H' : Hp), q ∈ fields → But d c H H' → Deck H' d c → Q (.int q) H'
theorem in_fields {ls : List Int} {x : V} (hx : x ∈ ls.map V.int) (h : ls.all (fun i => fields.any fun q => decide (i = (q : Int))) = true) : ∃ q : Nat, q ∈ fields ∧ x = .int q := by
  obtain ⟨i, hi, rfl⟩ := List.mem_map.mp hx
  obtain ⟨q, hq, e⟩ := List.any_eq_true.mp (List.all_eq_true.mp h i hi)
  exact ⟨q, hq, by rw [of_decide_eq_true e]⟩
theorem ok_sf {f fD fP : Addr} {fd fdD fdP : FuncData} (F : Fun K "_law_some_field" "_law_some_field" sLSomeField f fd) (D : BP.Can P w K mg base "_law_draw" 1 pLDraw spDraw fD fdD) (C : BP.Can P w K mg base "_law_pick" 2 pLPick spPick fP fdP) : FnOk P w K mg base CX0 3 f fd pLSomeField spSF := by
  refine F.ok scLSomeField (fun vs H Q E h => ?_) (fun cdv A outer s H vs Q E hr h => ?_)
  · obtain ⟨d, c, rfl, _⟩ := h
    rfl
  · obtain ⟨d, c, rfl, hk, want⟩ := h
    have hr1 := hr.mono (show 1 ≤ 2 by decide)
    refine ⟨_, pss_cons (ps_if (pt_cmpR op_eq (pe_call D.ok hr1 (by rfl) D.g D.kp D.b .nil pass0 (pa_cons (pv 0) (pa_cons pe_int pa_nil))) pe_int (nomark _))
        (pss_one (ps_ret (pe_call C.ok hr (by rfl) C.g C.kp C.b .nil pass0 (pa_cons (pv 0) (pa_cons (pe_lst (pa_cons pe_int (pa_cons pe_int (pa_cons pe_int (pa_cons pe_int (pa_cons pe_int (pa_cons pe_int (pa_cons pe_int (pa_cons pe_int (pa_cons pe_int (pa_cons pe_int pa_nil))))))))))) pa_nil))))) pss_nil)
      (pss_one (ps_ret (pe_call C.ok hr (by rfl) C.g C.kp C.b .nil pass0 (pa_cons (pv 0) (pa_cons (pe_lst (pa_cons pe_int (pa_cons pe_int (pa_cons pe_int (pa_cons pe_int (pa_cons pe_int (pa_cons pe_int pa_nil))))))) pa_nil))))), ?_⟩
    refine ⟨.ref d, rfl, d, c, 5, rfl, hk, by decide, by decide, fun x H1 hx hb hk1 => ⟨rfl, _, rfl, ite2 (fun _ => ?_) (fun _ => ?_)⟩⟩
    · refine ⟨.ref d, rfl, (by show 10 ≤ sizeLine; decide), fun l nl => ?_⟩
      have s1 := same_new (o := .lst ([7, 8, 9, 11, 13, 16, 2, 3, 4, 5].map V.int)) nl
      have nw := hk1.new nl
      refine ⟨d, c, l, [7, 8, 9, 11, 13, 16, 2, 3, 4, 5].map V.int, rfl, hk1.same s1, nw.2, upd_same, by decide, by decide, fun x H2 hx hb2 hk2 => ?_⟩
      obtain ⟨q, hq, rfl⟩ := in_fields hx (by decide)
      exact want q H2 hq (hb.trans ((But.of s1).trans hb2)) hk2
    · refine ⟨.ref d, rfl, (by show 6 ≤ sizeLine; decide), fun l nl => ?_⟩
      have s1 := same_new (o := .lst ([2, 3, 4, 5, 2, 3].map V.int)) nl
      have nw := hk1.new nl
      refine ⟨d, c, l, [2, 3, 4, 5, 2, 3].map V.int, rfl, hk1.same s1, nw.2, upd_same, by decide, by decide, fun x H2 hx hb2 hk2 => ?_⟩
      obtain ⟨q, hq, rfl⟩ := in_fields hx (by decide)
      exact want q H2 hq (hb.trans ((But.of s1).trans hb2)) hk2
end
end K13
set_option Elab.async false
set_option linter.all false
set_option maxRecDepth 100000
set_option maxHeartbeats 4000000
set_option pp.maxSteps 400
namespace BP
open PySem PySem.Spec PyProof.Rows L2 Fld
theorem pow_lt_of {p k n : Nat} (hp : 1 < p) (h : k < n) : p ^ k < p ^ n := Nat.pow_lt_pow_of_lt hp h
theorem range_snoc {α : Type} (f : Nat → α) (n : Nat) : (List.range (n + 1)).map f = (List.range n).map f ++ [f n] := by
  rw [List.range_succ, List.map_append]
  rfl
/-! ### comprehensions over a range: numbers, and rows of numbers -/
abbrev LcR (n : Nat) (i : Nat) (te : TE) (vs : List Nat) (σ : L2.St) (H1 : Hp) (D : Addr) (Qd : Hp → Prop) : Prop :=
  ∃ W : Nat → Nat → Hp → Prop,
    (∃ m, W 0 m (upd H1 D (.lst []))) ∧
    ∀ k m H, W k m H →
      ((Itr 0 n).stop k H ∧ Qd H) ∨
      ((Itr 0 n).go k H ∧ ∃ Z : Hp → Prop, (∀ H', Z H' → ∃ m', m' < m ∧ W (k + 1) m' H') ∧
        ∀ x H', (Itr 0 n).yld k H x H' → gName i x (wipe σ vs) H' fun σ2 H2 =>
          wipe σ2 vs = wipe σ vs ∧ tYes σ2 H2 fun b H3 =>
            if b = true then te σ2 H3 fun y H4 => ∃ acc, H4 D = some (.lst acc) ∧ acc.length < sizeLine ∧ Z (upd H4 D (.lst (acc ++ [y]))) else Z H3)
theorem lc_ints {n i : Nat} (val : Nat → Nat) (hn : n ≤ 900) {te : TE} {vs : List Nat} {σ : L2.St} {H1 : Hp} {R : Addr} {Qd : Hp → Prop} (nR : H1 R = none) (hw : ∀ v, wipe ((wipe σ vs).set i v) vs = wipe σ vs)
    (hs : ∀ (b : Nat) (H : Hp) (Q : VK), b < n → Same H1 H → (∀ H', Same H H' → Q (.int (val b : Nat)) H') → te ((wipe σ vs).set i (some (.int (0 + (b : Int))))) H Q)
    (hd : ∀ H, Same H1 H → H R = some (.lst (iv ((List.range n).map val))) → Qd H) : LcR n i te vs σ H1 R Qd := by
  refine lc_range (lo := 0) (n := n) (fun j H' => Same H1 H' ∧ H' R = some (.lst (iv ((List.range j).map val)))) ⟨same_new nR, upd_same⟩ (fun b H3 hb hV => ?_) (fun H3 hV => hd H3 hV.1 hV.2)
  obtain ⟨s3, hR⟩ := hV
  refine ⟨hw _, yes_kept (hs b H3 _ hb s3 fun H4 s4 => ⟨_, s4 _ _ hR, ?_, fun b' x e => ?_, ?_⟩)⟩
  · rw [List.length_map, List.length_map, List.length_range]
    exact small1000 (by omega)
  · rw [upd_ne (ne_of_none e nR)]
    exact s4 _ _ (s3 b' x e)
  · rw [upd_same, range_snoc]
    unfold iv
    rw [List.map_append]
    rfl
/-- new rows, all of them apart from what was there -/
def New2 (H1 H : Hp) (D : Addr) (rows : List (List Nat)) : Prop := ∃ ps : List Addr, H1 D = none ∧ H D = some (.lst (ps.map V.ref)) ∧ ps.length = rows.length ∧ ∀ (j : Nat) (p : Addr) (r : List Nat), ps[j]? = some p → rows[j]? = some r → H1 p = none ∧ p ≠ D ∧ H p = some (.lst (iv r))
theorem New2.same {H1 H H' : Hp} {D : Addr} {rows : List (List Nat)} (h : New2 H1 H D rows) (s : Same H H') : New2 H1 H' D rows := by
  obtain ⟨ps, n1, h1, h2, h3⟩ := h
  exact ⟨ps, n1, s _ _ h1, h2, fun i p r a b => ⟨(h3 i p r a b).1, (h3 i p r a b).2.1, s _ _ (h3 i p r a b).2.2⟩⟩
theorem New2.pre {H0 H1 H : Hp} {D : Addr} {rows : List (List Nat)} (h : New2 H1 H D rows) (s : Same H0 H1) : New2 H0 H D rows := by
  obtain ⟨ps, n1, h1, h2, h3⟩ := h
  exact ⟨ps, s.free n1, h1, h2, fun i p r a b => ⟨s.free (h3 i p r a b).1, (h3 i p r a b).2⟩⟩
theorem New2.rows {H1 H : Hp} {D c : Addr} {rows : List (List Nat)} (h : New2 H1 H D rows) {x : HO} (hc : H1 c = some x) : Rows c H D rows := by
  obtain ⟨ps, n1, h1, h2, h3⟩ := h
  refine ⟨ps, fun z => ?_, fun p hp z => ?_, h1, h2, fun i p r a b => (h3 i p r a b).2.2⟩
  · rw [z, hc] at n1
    cases n1
  · obtain ⟨i, hi, e⟩ := List.getElem_of_mem hp
    have hi' : ps[i]? = some p := by rw [List.getElem?_eq_getElem hi, e]
    have hr : rows[i]? = some (rows[i]'(by omega)) := List.getElem?_eq_getElem _
    have := (h3 i p _ hi' hr).1
    rw [z, hc] at this
    cases this
theorem lc_rows {n i : Nat} (row : Nat → List Nat) (hn : n ≤ 900) {te : TE} {vs : List Nat} {σ : L2.St} {H1 : Hp} {D : Addr} {Qd : Hp → Prop} (nD : H1 D = none) (hw : ∀ v, wipe ((wipe σ vs).set i v) vs = wipe σ vs)
    (hs : ∀ (a : Nat) (H : Hp) (Q : VK), a < n → Same H1 H → (∀ (R : Addr) (H' : Hp), Same H H' → H R = none → H' R = some (.lst (iv (row a))) → Q (.ref R) H') → te ((wipe σ vs).set i (some (.int (0 + (a : Int))))) H Q)
    (hd : ∀ H, Same H1 H → New2 H1 H D ((List.range n).map row) → Qd H) : LcR n i te vs σ H1 D Qd := by
  refine lc_range (lo := 0) (n := n) (fun j H' => Same H1 H' ∧ New2 H1 H' D ((List.range j).map row)) ⟨same_new nD, [], nD, upd_same, rfl, fun j p r e _ => by cases e⟩ (fun a H2 ha hW => ?_) (fun H3 hV => hd H3 hV.1 hV.2)
  obtain ⟨s2, ps, _, hD, lp, rows⟩ := hW
  rw [List.length_map, List.length_range] at lp
  refine ⟨hw _, yes_kept (hs a H2 _ ha s2 fun R H3 s3 nR hR => ⟨_, s3 _ _ hD, ?_, fun b' x e => ?_, ps ++ [R], nD, ?_, ?_, fun j p r e er => ?_⟩)⟩
  · rw [List.length_map]
    exact small1000 (by omega)
  · rw [upd_ne (ne_of_none e nD)]
    exact s3 _ _ (s2 b' x e)
  · rw [upd_same, List.map_append]
    rfl
  · rw [List.length_append, List.length_map, List.length_range, lp]
    rfl
  · have nRD : R ≠ D := (ne_of_none hD nR).symm
    have lj : j < a + 1 := by
      have := (List.getElem?_eq_some_iff.mp er).1
      rw [List.length_map, List.length_range] at this
      exact this
    rw [List.getElem?_map, List.getElem?_range lj] at er
    by_cases hj : j < ps.length
    · rw [List.getElem?_append_left hj] at e
      have er' : ((List.range a).map row)[j]? = some r := by
        rw [List.getElem?_map, List.getElem?_range (by omega)]
        exact er
      obtain ⟨a1, a2, a3⟩ := rows j p r e er'
      refine ⟨a1, a2, ?_⟩
      rw [upd_ne a2]
      exact s3 _ _ a3
    · have ej : j = ps.length := by omega
      rw [List.getElem?_append_right (by omega), ej, Nat.sub_self] at e
      obtain rfl := Option.some.inj e
      obtain rfl := Option.some.inj er
      refine ⟨s2.free nR, nRD, ?_⟩
      rw [upd_ne nRD, ej, lp]
      exact hR
def spLSum : Sp := fun vs H Q _ => ∃ q a b : Nat, vs = [.int (chr q : Nat), .int q, .int a, .int b] ∧ q ∈ fields ∧ a < q ∧ b < q ∧ ∀ H', Same H H' → Q (.int (S q a b : Nat)) H'
end BP
namespace K13
open PySem PySem.Spec PyProof.Rows L2 BP Fld
section
variable {P : Program} {w : World} {K : PySem.W.Frag} {mg : Str → Option Value} {base : Heap}
end
end K13
set_option Elab.async false
set_option linter.all false
set_option maxRecDepth 100000
set_option maxHeartbeats 4000000
set_option pp.maxSteps 400
namespace Fld
/-! ### powers and logarithms, as the law lays them -/
def pws (q : Nat) : List Nat := (List.range (q - 1)).map (pw q (chr q))
def lgs (q : Nat) : Nat → List Nat
  | 0 => List.replicate q 0
  | k + 1 => (lgs q k).set (pw q (chr q) k) k
def okLog (q : Nat) : Bool :=
  (chr q == q && below q fun a => below q fun b => decide (M q a b = a * b % q)) ||
  (decide (chr q < q) && decide (q % chr q = 0) && decide (0 < q / chr q) &&
    (below q fun n => decide (n / (q / chr q) + n / (q / chr q) * chr q < q) && decide (S q (n * chr q % q) (n / (q / chr q) + n / (q / chr q) * chr q) = M q n (chr q))) &&
    (below q fun a => below q fun b => decide (M q a b = if a * b = 0 then 0 else (pws q ++ pws q).getD ((lgs q (q - 1)).getD a 0 + (lgs q (q - 1)).getD b 0) 0) && decide ((lgs q (q - 1)).getD a 0 + (lgs q (q - 1)).getD b 0 < 2 * (q - 1))))
theorem all_log : fields.all okLog = true := by decide +kernel
theorem chr_cases : fields.all (fun q => q == 9 || q == 4 || q == 8 || q == 16 || chr q == q) = true := by decide +kernel
section
variable {q : Nat} (h : q ∈ fields)
include h
theorem prime_M (e : chr q = q) {a b : Nat} (ha : a < q) (hb : b < q) : M q a b = a * b % q := by
  have o := List.all_eq_true.mp all_log q h
  simp only [okLog, Bool.or_eq_true, Bool.and_eq_true, decide_eq_true_eq] at o
  rcases o with o | o
  · exact of_decide_eq_true (of_below (of_below o.2 ha) hb)
  · omega
theorem log_M (e : chr q < q) {a b : Nat} (ha : a < q) (hb : b < q) : M q a b = (if a * b = 0 then 0 else (pws q ++ pws q).getD ((lgs q (q - 1)).getD a 0 + (lgs q (q - 1)).getD b 0) 0) ∧ (lgs q (q - 1)).getD a 0 + (lgs q (q - 1)).getD b 0 < 2 * (q - 1) := by
  have o := List.all_eq_true.mp all_log q h
  simp only [okLog, Bool.or_eq_true, Bool.and_eq_true, decide_eq_true_eq] at o
  rcases o with o | o
  · have := beq_iff_eq.mp o.1
    omega
  · have t := of_below (of_below o.2 ha) hb
    simp only [Bool.and_eq_true, decide_eq_true_eq] at t
    exact t
theorem next_pw (e : chr q < q) {n : Nat} (hn : n < q) : 0 < q / chr q ∧ n / (q / chr q) + n / (q / chr q) * chr q < q ∧ S q (n * chr q % q) (n / (q / chr q) + n / (q / chr q) * chr q) = M q n (chr q) := by
  have o := List.all_eq_true.mp all_log q h
  simp only [okLog, Bool.or_eq_true, Bool.and_eq_true, decide_eq_true_eq] at o
  rcases o with o | o
  · have := beq_iff_eq.mp o.1
    omega
  · have t := of_below o.1.2 hn
    simp only [Bool.and_eq_true, decide_eq_true_eq] at t
    exact ⟨o.1.1.2, t⟩
theorem chr_is : q = 9 ∨ q = 4 ∨ q = 8 ∨ q = 16 ∨ (chr q = q ∧ q ≠ 9 ∧ q ≠ 4 ∧ q ≠ 8 ∧ q ≠ 16) := by
  have o := List.all_eq_true.mp chr_cases q h
  simp only [Bool.or_eq_true, beq_iff_eq] at o
  by_cases h1 : q = 9
  · exact .inl h1
  by_cases h2 : q = 4
  · exact .inr (.inl h2)
  by_cases h3 : q = 8
  · exact .inr (.inr (.inl h3))
  by_cases h4 : q = 16
  · exact .inr (.inr (.inr (.inl h4)))
  exact .inr (.inr (.inr (.inr ⟨by rcases o with (((o | o) | o) | o) | o <;> omega, h1, h2, h3, h4⟩)))
end
theorem lgs_len (q : Nat) : ∀ k, (lgs q k).length = q
  | 0 => List.length_replicate ..
  | k + 1 => by
    show ((lgs q k).set _ _).length = q
    rw [List.length_set, lgs_len q k]
end Fld
namespace BP
open PySem PySem.Spec PyProof.Rows L2 Fld
/-- the characteristic, as the law tells it -/
theorem te_p {K : PySem.W.Frag} {q : Nat} (hq : q ∈ fields) {r : L2.St} {H : Hp} {Q : VK} (want : ∀ H', Same H H' → Q (.int (chr q : Nat)) H') :
    tIf (tTest (tOp rEq (tVar 0) (tC (V.int 9)))) (tC (V.int 3)) (tIf (tTest (tOp (rIn K false) (tVar 0) (tTup (tCons (tC (V.int 4)) (tCons (tC (V.int 8)) (tCons (tC (V.int 16)) tNil)))))) (tC (V.int 2)) (tVar 0)) (some (V.int q) :: r) H Q := by
  have w0 := want H (fun _ _ z => z)
  refine ⟨.int q, rfl, rfl, _, rfl, ite2 (fun h9 => ?_) (fun h9 => ?_)⟩
  · have e : q = 9 := by
      have := V.int.inj (of_decide_eq_true h9)
      omega
    subst e
    exact w0
  · have n9 : q ≠ 9 := fun z => h9 (by subst z; rfl)
    refine ⟨.int q, rfl, (by show 3 ≤ sizeLine; decide), fun t nt => ⟨t, _, rfl, .inr (.inl (.inl upd_same)), rfl, rfl, _, rfl, ?_⟩⟩
    have s1 := want _ (same_new (o := .tup [V.int 4, V.int 8, V.int 16]) nt)
    rcases chr_is hq with e | e | e | e | ⟨e, _, n4, n8, n16⟩
    · exact absurd e n9
    · subst e
      exact iteT s1
    · subst e
      exact iteT s1
    · subst e
      exact iteT s1
    · have e2 : inV (V.int q) [V.int 4, V.int 8, V.int 16] = false := by
        unfold inV
        simp only [List.any_cons, List.any_nil, eqV, Bool.or_false]
        have b4 : ((4 : Int) == (q : Int)) = false := beq_eq_false_iff_ne.mpr (by omega)
        have b8 : ((8 : Int) == (q : Int)) = false := beq_eq_false_iff_ne.mpr (by omega)
        have b16 : ((16 : Int) == (q : Int)) = false := beq_eq_false_iff_ne.mpr (by omega)
        rw [b4, b8, b16]
        rfl
      show (if (if false = true then !inV (V.int q) [V.int 4, V.int 8, V.int 16] else inV (V.int q) [V.int 4, V.int 8, V.int 16]) = true then _ else _)
      rw [e2]
      refine iteF ⟨.int q, rfl, ?_⟩
      rw [e] at s1
      exact s1
theorem New2.read {H1 H : Hp} {D : Addr} {rows : List (List Nat)} (h : New2 H1 H D rows) {a : Nat} {r : List Nat} (ha : rows[a]? = some r) : ∃ (ps : List Addr) (p : Addr), H D = some (.lst (ps.map V.ref)) ∧ (ps.map V.ref)[a]? = some (.ref p) ∧ H p = some (.lst (iv r)) := by
  obtain ⟨ps, _, h1, h2, h3⟩ := h
  have la : a < ps.length := by
    rw [h2]
    exact (List.getElem?_eq_some_iff.mp ha).1
  have hp : ps[a]? = some (ps[a]'la) := List.getElem?_eq_getElem la
  refine ⟨ps, ps[a]'la, h1, ?_, (h3 a _ r hp ha).2.2⟩
  rw [List.getElem?_map, hp]
  rfl
abbrev fkQ : Key := Sum.inr "q"
abbrev fkP : Key := Sum.inr "sum"
abbrev fkT : Key := Sum.inr "by"
abbrev fkL : Key := Sum.inr "less"
abbrev fkU : Key := Sum.inr "over"
abbrev fdict (q : Nat) (sm pr ls ud : Addr) : List (Key × V) := [(fkQ, .int q), (fkP, .ref sm), (fkT, .ref pr), (fkL, .ref ls), (fkU, .ref ud)]
theorem fk1 : ¬ fkQ = fkP := by decide +kernel
theorem fk2 : ¬ fkQ = fkT := by decide +kernel
theorem fk3 : ¬ fkQ = fkL := by decide +kernel
theorem fk4 : ¬ fkQ = fkU := by decide +kernel
theorem fk5 : ¬ fkP = fkT := by decide +kernel
theorem fk6 : ¬ fkP = fkL := by decide +kernel
theorem fk7 : ¬ fkP = fkU := by decide +kernel
theorem fk8 : ¬ fkT = fkL := by decide +kernel
theorem fk9 : ¬ fkT = fkU := by decide +kernel
theorem fk0 : ¬ fkL = fkU := by decide +kernel
section
variable {q : Nat} {sm pr ls ud : Addr}
theorem fd_q : valV (fdict q sm pr ls ud) fkQ = some (.int q) := valV_pos rfl
theorem fd_p : valV (fdict q sm pr ls ud) fkP = some (.ref sm) := by rw [valV_neg fk1]; exact valV_pos rfl
theorem fd_t : valV (fdict q sm pr ls ud) fkT = some (.ref pr) := by rw [valV_neg fk2, valV_neg fk5]; exact valV_pos rfl
theorem fd_l : valV (fdict q sm pr ls ud) fkL = some (.ref ls) := by rw [valV_neg fk3, valV_neg fk6, valV_neg fk8]; exact valV_pos rfl
theorem fd_u : valV (fdict q sm pr ls ud) fkU = some (.ref ud) := by rw [valV_neg fk4, valV_neg fk7, valV_neg fk9, valV_neg fk0]; exact valV_pos rfl
theorem fd_merge : mergeK [] (fdict q sm pr ls ud) = fdict q sm pr ls ud := by
  have a1 : putK ([] : List (Key × V)) fkQ (.int q) = [(fkQ, .int q)] := putK_new _ rfl
  have a2 : putK [(fkQ, V.int q)] fkP (.ref sm) = [(fkQ, .int q), (fkP, .ref sm)] := putK_new _ (by rw [valV_neg fk1]; rfl)
  have a3 : putK [(fkQ, V.int q), (fkP, .ref sm)] fkT (.ref pr) = [(fkQ, .int q), (fkP, .ref sm), (fkT, .ref pr)] := putK_new _ (by rw [valV_neg fk2, valV_neg fk5]; rfl)
  have a4 : putK [(fkQ, V.int q), (fkP, .ref sm), (fkT, .ref pr)] fkL (.ref ls) = [(fkQ, .int q), (fkP, .ref sm), (fkT, .ref pr), (fkL, .ref ls)] := putK_new _ (by rw [valV_neg fk3, valV_neg fk6, valV_neg fk8]; rfl)
  have a5 : putK [(fkQ, V.int q), (fkP, .ref sm), (fkT, .ref pr), (fkL, .ref ls)] fkU (.ref ud) = fdict q sm pr ls ud := putK_new _ (by rw [valV_neg fk4, valV_neg fk7, valV_neg fk9, valV_neg fk0]; rfl)
  show putK (putK (putK (putK (putK [] fkQ (.int q)) fkP (.ref sm)) fkT (.ref pr)) fkL (.ref ls)) fkU (.ref ud) = _
  rw [a1, a2, a3, a4, a5]
end
/-- a new field, apart from all that was there -/
def FieldNew (H0 H : Hp) (F : Addr) (q : Nat) : Prop := ∃ sm pr ls ud, H F = some (.dK (fdict q sm pr ls ud)) ∧ H0 F = none ∧ New2 H0 H sm (tab (S q) q) ∧ New2 H0 H pr (tab (M q) q) ∧
  H0 ls = none ∧ H ls = some (.lst (iv ((List.range q).map (neg q)))) ∧ H0 ud = none ∧ H ud = some (.lst (iv ((List.range q).map (inv q))))
def spField : Sp := fun vs H Q _ => ∃ q : Nat, vs = [.int q] ∧ q ∈ fields ∧ ∀ (F : Addr) (H' : Hp), Same H H' → FieldNew H H' F q → Q (.ref F) H'
theorem flat_iv (l : List Nat) : (iv l).all flatV = true := by
  induction l with
  | nil => rfl
  | cons x r ih => exact ih
theorem iv_set (l : List Nat) (k x : Nat) : (iv l).set k (V.int (x : Nat)) = iv (l.set k x) := by
  unfold iv
  rw [List.map_set]
theorem iv_get {l : List Nat} {k : Nat} (h : k < l.length) : (iv l)[k]? = some (V.int (l.getD k 0 : Nat)) := by
  unfold iv
  rw [List.getElem?_map, List.getElem?_eq_getElem h, List.getD_eq_getElem?_getD, List.getElem?_eq_getElem h]
  rfl
theorem idx_of {row : List Nat} {j v : Nat} (hj : j < row.length) (e : row.getD j 0 = v) (no : ∀ m, m < j → row.getD m 0 ≠ v) : (iv row)[j]? = some (V.int (v : Nat)) ∧ eqV (V.int (v : Nat)) (V.int (v : Nat)) = true ∧ ∀ (m : Nat) (z : V), m < j → (iv row)[m]? = some z → eqV z (V.int (v : Nat)) = false := by
  refine ⟨by rw [iv_get hj, e], ?_, fun m z hm hz => ?_⟩
  · show ((v : Int) == (v : Int)) = true
    exact beq_iff_eq.mpr rfl
  · rw [iv_get (by omega)] at hz
    cases hz
    show (((row.getD m 0 : Nat) : Int) == (v : Int)) = false
    exact beq_eq_false_iff_ne.mpr fun z => no m hm (by omega)
theorem map_getD {f : Nat → Nat} {q b : Nat} (h : b < q) : ((List.range q).map f).getD b 0 = f b := by
  rw [List.getD_eq_getElem?_getD, List.getElem?_map, List.getElem?_range h]
  rfl
theorem neg_idx {q a : Nat} (h : q ∈ fields) (ha : a < q) : (iv ((List.range q).map (S q a)))[neg q a]? = some (V.int (0 : Nat)) ∧ eqV (V.int (0 : Nat)) (V.int (0 : Nat)) = true ∧ ∀ (m : Nat) (z : V), m < neg q a → (iv ((List.range q).map (S q a)))[m]? = some z → eqV z (V.int (0 : Nat)) = false := by
  obtain ⟨_, u1, u2, u3⟩ := sum1 h ha
  exact idx_of (by rw [List.length_map, List.length_range]; exact u1) (by rw [map_getD u1, u2]) fun m hm => by rw [map_getD (by omega)]; exact u3 m hm
theorem inv_idx {q a : Nat} (h : q ∈ fields) (ha : a < q) (h0 : a ≠ 0) : (iv ((List.range q).map (M q a)))[inv q a]? = some (V.int (1 : Nat)) ∧ eqV (V.int (1 : Nat)) (V.int (1 : Nat)) = true ∧ ∀ (m : Nat) (z : V), m < inv q a → (iv ((List.range q).map (M q a)))[m]? = some z → eqV z (V.int (1 : Nat)) = false := by
  obtain ⟨_, _, _, _, u1, u2, u3⟩ := unit h ha h0
  exact idx_of (by rw [List.length_map, List.length_range]; exact u1) (by rw [map_getD u1, u2]) fun m hm => by rw [map_getD (by omega)]; exact u3 m hm
theorem inv_zero : fields.all (fun q => inv q 0 == 0) = true := by decide +kernel
theorem inv_row {q : Nat} (h : q ∈ fields) : (List.range q).map (inv q) = 0 :: (List.range (q - 1)).map fun i => inv q (i + 1) := by
  have z := beq_iff_eq.mp (List.all_eq_true.mp inv_zero q h)
  have e : q = (q - 1) + 1 := by have := gt1 h; omega
  rw [show List.range q = List.range ((q - 1) + 1) by rw [← e], List.range_succ_eq_map, List.map_cons, List.map_map, z]
  rfl
theorem rep_iv (q : Nat) : (List.replicate ((q : Int)).toNat [V.int 0]).flatten = iv (List.replicate q 0) := by
  show (List.replicate q [V.int 0]).flatten = _
  induction q with
  | zero => rfl
  | succ n ih =>
    rw [List.replicate_succ, List.flatten_cons, ih]
    rfl
theorem tab_len (f : Nat → Nat → Nat) (q : Nat) : (tab f q).length = q := by
  unfold tab
  rw [List.length_map, List.length_range]
theorem tab_at' {f : Nat → Nat → Nat} {q a : Nat} (h : a < q) : (tab f q)[a]? = some ((List.range q).map (f a)) := tab_row h
end BP
namespace K13
open PySem PySem.Spec PyProof.Rows L2 BP Fld
section
variable {P : Program} {w : World} {K : PySem.W.Frag} {mg : Str → Option Value} {base : Heap}
end
end K13
set_option Elab.async false
set_option linter.all false
set_option maxRecDepth 100000
set_option maxHeartbeats 4000000
set_option pp.maxSteps 400
/-! t[::-1] of a tuple. -/
namespace BP
open PySem PySem.Spec PyProof.Rows L2 Fld
theorem adjust_rev (n : Nat) : Builtin.Slice.sliceAdjust none none (-1) (n : Int) = ((n : Int) - 1, -1) := rfl
theorem places_rev (n : Nat) : Builtin.Slice.slicePlaces ((n : Int) - 1) (-1) (-1) = n := by
  unfold Builtin.Slice.slicePlaces
  rw [if_neg (by omega)]
  by_cases h : (n : Int) - 1 > -1
  · rw [if_pos h]
    have e : ((n : Int) - 1 - -1 - 1) / (- -1) = (n : Int) - 1 := by
      rw [show (- -1 : Int) = 1 by omega, Int.ediv_one]
      omega
    rw [e]
    omega
  · rw [if_neg h]
    omega
theorem pick_rev (xs : List Value) : ((List.range xs.length).filterMap fun (k : Nat) => xs.toArray[(((xs.length : Nat) : Int) - 1 + (k : Int) * -1).toNat]?).toArray = xs.reverse.toArray := by
  have e : ∀ n, n ≤ xs.length → ((List.range n).filterMap fun (k : Nat) => xs.toArray[(((xs.length : Nat) : Int) - 1 + (k : Int) * -1).toNat]?) = xs.reverse.take n := by
    intro n hn
    induction n with
    | zero => rfl
    | succ n ih =>
      rw [List.range_succ, List.filterMap_append, ih (by omega), List.take_add_one]
      have e1 : (((xs.length : Nat) : Int) - 1 + (n : Int) * -1).toNat = xs.length - 1 - n := by omega
      have e2 : xs.reverse[n]? = xs[xs.length - 1 - n]? := List.getElem?_reverse (by omega)
      have h3 : xs[xs.length - 1 - n]? = some (xs[xs.length - 1 - n]'(by omega)) := List.getElem?_eq_getElem _
      rw [e2, h3]
      congr 1
      show List.filterMap _ [n] = _
      rw [List.filterMap_cons, e1]
      rw [List.getElem?_toArray, h3]
      rfl
  rw [e xs.length (Nat.le_refl _), List.take_of_length_le (by rw [List.length_reverse]; exact Nat.le_refl _)]
section
variable {prog : Program} {w : World} {A : Around} {E : Value → Shared → Prop} {s : Shared}
theorem rev_applied {sl : Addr} {vl vu vs : Value} {n : Nat} {Q : Int × Int × Nat → Shared → Prop} (hs : s.heap.IsSliceOf sl vl vu vs) (pl : IsPart vl none) (pu : IsPart vu none) (pt : IsPart vs (some (-1)))
    (h : Q ((n : Int) - 1, -1, n) s) : wpAny (model prog w) A (Builtin.Slice.sliceApplied (.ref sl) (pure (n : Int))) Q E s := by
  obtain ⟨os, ho, hc, hd⟩ := hs
  unfold Builtin.Slice.sliceApplied Builtin.Slice.sliceFields
  refine wpAny_bind (wpAny_bind (wpAny_field ho hd (x := vl) rfl (wpAny_bind (wpAny_field ho hd (x := vu) rfl (wpAny_bind (wpAny_field ho hd (x := vs) rfl (wpAny_pure (wpAny_bind (HT.slicePart_ pt ?_)))))))))
  show wpAny _ _ (if ((-1 : Int) == 0) = true then _ else _) _ _ s
  rw [if_neg (by decide)]
  refine wpAny_bind (HT.slicePart_ pl (wpAny_bind (HT.slicePart_ pu (wpAny_bind (wpAny_pure ?_)))))
  show wpAny _ _ (pure ((n : Int) - 1, (-1 : Int), Builtin.Slice.slicePlaces ((n : Int) - 1) (-1) (-1))) _ _ s
  rw [places_rev]
  exact wpAny_pure h
theorem get_rev {t sl : Addr} {xs : List Value} {vl vu vs : Value} {Q : Value → Shared → Prop} (ht : IsTup s.heap t xs.toArray) (hs : s.heap.IsSliceOf sl vl vu vs) (pl : IsPart vl none) (pu : IsPart vu none) (pt : IsPart vs (some (-1)))
    (h : Q (.ref s.heap.objs.size) { s with heap := s.heap.push { cls := .type "tuple", data := .seq xs.reverse.toArray } }) (hz : xs.length ≤ sizeLine) : wpAny (model prog w) A (getItem (.ref t) (.ref sl)) Q E s := by
  have hfit : sizeOk (.seq xs.reverse.toArray) := by
    show xs.reverse.toArray.size ≤ sizeLine
    rw [List.size_toArray, List.length_reverse]
    exact hz
  obtain ⟨os, ho, hc, hd⟩ := id hs
  have hT : s.TypeIs (.ref sl) "slice" := ⟨os, ho, hc⟩
  unfold getItem
  (with_reducible refine wpAny_holding ?_); have _here := hT
  refine wpAny_bind (wpAny_sequenceKey ht.typeIs (by decide) (wpAny_bind (wpAny_callSpecial?_slot (name := Str.ofString "__getitem__") ht.typeIs PyProof.Rows.slot_tuple_getitem (wpAny_call_entry PyProof.Rows.slot_tuple_getitem ht.typeIs entry_tuple_getitem ?_ (args_tuple_getitem _ _)))))
  show wpAny _ _ (Builtin.Tuple.tupleItemsOf (Value.ref t) >>= _) _ _ s
  refine wpAny_bind (tupleItemsOf_ ht (wpAny_bind (wpAny_typeOf hT ?_)))
  rw [if_pos (by decide)]
  refine wpAny_bind (rev_applied hs pl pu pt ?_)
  rw [List.size_toArray]
  have hno : ¬ ((((xs.length : Nat) : Int) - 1 == 0 && (-1 : Int) == 1 && xs.length == xs.length) = true) := by
    intro q
    rw [Bool.and_eq_true, Bool.and_eq_true] at q
    exact absurd q.1.2 (by decide)
  show wpAny _ _ (if ((((xs.length : Nat) : Int) - 1 == 0 && (-1 : Int) == 1 && xs.length == xs.length) = true) then _ else _) _ _ s
  rw [if_neg hno, pick_rev]
  exact wpAny_bind (m := Builtin.Tuple.tupleExact _) (wpAny_newObj_type (wpAny_pure ⟨_, rfl, wpAny_pure h⟩) hfit)
end
section
variable {X : Cx} {e : Expr} {te : TE} {k : Nat} {p1 p2 p3 pos : Pos}
def tRevT (K : PySem.W.Frag) (te : TE) : TE := fun σ H Q => te σ H fun x H1 => ∃ a xs, x = .ref a ∧ SqT K H1 a xs ∧ ∀ p, H1 p = none → Q (.ref p) (upd H1 p (.tup xs.reverse))
theorem pe_revT (he : PE X e te) : PE X (.Subscript e (.Slice none none (some (.UnaryOp .USub (.Constant (.int 1) k p1) p2)) p3) pos) (tRevT X.K te) := by
  refine ⟨fun pins s σ H Q I h => Subscript_ (thn (he.run pins s σ H _ I h) fun v s1 ⟨x, H1, I1, r1, a, xs, ex, hx, q⟩ => ?_)⟩
  subst ex
  cases r1
  have minus : L2.PO X (some (.UnaryOp .USub (.Constant (.int 1) k p1) p2)) _ := po_some (pe_un un_neg pe_int)
  have nothing1 := fun (s : Shared) (G : Hp) (J : Inv X pins σ G s) => po_none.run pins s σ G (fun o G' => o = none ∧ G' = G) J ⟨rfl, rfl⟩
  refine wpAny_Slice (thn (nothing1 s1 H1 I1) fun vl s2 ⟨l, H2, I2, pl, el, e2⟩ => ?_)
  subst el e2
  refine thn (nothing1 s2 H2 I2) fun vu s3 ⟨u, H3, I3, pu, eu, e3⟩ => ?_
  subst eu e3
  refine thn (minus.run pins s3 σ H3 (fun o G => o = some (-1) ∧ G = H3) I3 ⟨1, rfl, -1, rfl, rfl, rfl⟩) fun vs s4 ⟨o, H4, I4, pt, eo, e4⟩ => ?_
  subst eo e4
  have I5 : Inv X pins σ H4 { s4 with heap := s4.heap.push { cls := .type "slice", data := .fields #[vl, vu, vs] } } := I4.kept (t' := s4.toks) fun b ob z => Heap.get?_push_of_some _ z
  obtain ⟨its, r, ht, hz⟩ := I5.tuple hx
  refine tail_any (ops := [.ref a, .ref s4.heap.objs.size]) ht.typeIs PyProof.Rows.slot_tuple_getitem.lookup (get_rev ht (Heap.IsSliceOf.new _ vl vu vs) pl pu pt ?_ (by rw [← r.length]; exact hz)) (by with_unfolding_all rfl)
  refine ⟨.ref _, _, I5.laid (t' := s4.toks) (o := .tup xs.reverse) (fun b ob z => Heap.get?_push_of_some _ z) (Nat.le_refl _) ?_, rfl, q _ (I5.hok.fresh (Nat.le_refl _))⟩
  exact ⟨by rw [List.length_reverse]; exact hz, _, r.reverse, IsTup.new _ _⟩
end
end BP
set_option Elab.async false
set_option linter.all false
set_option maxRecDepth 100000
set_option maxHeartbeats 4000000
set_option pp.maxSteps 400
namespace BP
open PySem PySem.Spec PyProof.Rows L2 Fld
/-! ### what the law reads of its field -/
def RowsT (H : Hp) (D : Addr) (rows : List (List Nat)) : Prop := ∃ ps : List Addr, H D = some (.lst (ps.map V.ref)) ∧ ps.length = rows.length ∧ ∀ (j : Nat) (p : Addr) (r : List Nat), ps[j]? = some p → rows[j]? = some r → H p = some (.lst (iv r))
def FieldV (H : Hp) (F : Addr) (q : Nat) : Prop := ∃ sm pr ls ud, H F = some (.dK (fdict q sm pr ls ud)) ∧ RowsT H sm (tab (S q) q) ∧ RowsT H pr (tab (M q) q) ∧ H ls = some (.lst (iv ((List.range q).map (neg q)))) ∧ H ud = some (.lst (iv ((List.range q).map (inv q))))
theorem RowsT.same {H H' : Hp} {D : Addr} {rows : List (List Nat)} (h : RowsT H D rows) (s : Same H H') : RowsT H' D rows := by
  obtain ⟨ps, h1, h2, h3⟩ := h
  exact ⟨ps, s _ _ h1, h2, fun j p r a b => s _ _ (h3 j p r a b)⟩
theorem FieldV.same {H H' : Hp} {F : Addr} {q : Nat} (h : FieldV H F q) (s : Same H H') : FieldV H' F q := by
  obtain ⟨sm, pr, ls, ud, h1, h2, h3, h4, h5⟩ := h
  exact ⟨sm, pr, ls, ud, s _ _ h1, h2.same s, h3.same s, s _ _ h4, s _ _ h5⟩
section
variable {H : Hp} {F : Addr} {q : Nat} {Q : V → Prop}
theorem FieldV.num (h : FieldV H F q) (k : Q (.int q)) : ∃ a v, V.ref F = .ref a ∧ DGet H a (.str "q") (some v) ∧ Q v := by
  obtain ⟨sm, pr, ls, ud, h1, _⟩ := h
  have g := DGet.k (k := fkQ) h1
  rw [fd_q] at g
  exact ⟨F, _, rfl, g, k⟩
theorem FieldV.plus (h : FieldV H F q) (k : ∀ sm, RowsT H sm (tab (S q) q) → Q (.ref sm)) : ∃ a v, V.ref F = .ref a ∧ DGet H a (.str "sum") (some v) ∧ Q v := by
  obtain ⟨sm, pr, ls, ud, h1, h2, _⟩ := h
  have g := DGet.k (k := fkP) h1
  rw [fd_p] at g
  exact ⟨F, _, rfl, g, k sm h2⟩
theorem FieldV.times (h : FieldV H F q) (k : ∀ pr, RowsT H pr (tab (M q) q) → Q (.ref pr)) : ∃ a v, V.ref F = .ref a ∧ DGet H a (.str "by") (some v) ∧ Q v := by
  obtain ⟨sm, pr, ls, ud, h1, _, h2, _⟩ := h
  have g := DGet.k (k := fkT) h1
  rw [fd_t] at g
  exact ⟨F, _, rfl, g, k pr h2⟩
theorem FieldV.less (h : FieldV H F q) (k : ∀ ls, H ls = some (.lst (iv ((List.range q).map (neg q)))) → Q (.ref ls)) : ∃ a v, V.ref F = .ref a ∧ DGet H a (.str "less") (some v) ∧ Q v := by
  obtain ⟨sm, pr, ls, ud, h1, _, _, h2, _⟩ := h
  have g := DGet.k (k := fkL) h1
  rw [fd_l] at g
  exact ⟨F, _, rfl, g, k ls h2⟩
theorem FieldV.under (h : FieldV H F q) (k : ∀ ud, H ud = some (.lst (iv ((List.range q).map (inv q)))) → Q (.ref ud)) : ∃ a v, V.ref F = .ref a ∧ DGet H a (.str "over") (some v) ∧ Q v := by
  obtain ⟨sm, pr, ls, ud, h1, _, _, _, h2⟩ := h
  have g := DGet.k (k := fkU) h1
  rw [fd_u] at g
  exact ⟨F, _, rfl, g, k ud h2⟩
end
section
variable {K : PySem.W.Frag} {H : Hp} {q : Nat} [FF : IsF q] {Q : V → Prop} {D p : Addr}
theorem rowR {f : Nat → Nat → Nat} (h : RowsT H D (tab f q)) (a : El q) (k : ∀ p, H p = some (.lst (iv ((List.range q).map (f a.val)))) → Q (.ref p)) : ∃ p xs i v, V.ref D = .ref p ∧ vn a = .int i ∧ SqL K H p xs ∧ atI xs i = some v ∧ Q v := by
  obtain ⟨ps, h1, h2, h3⟩ := h
  have la : a.val < ps.length := by
    rw [h2, tab_len]
    exact a.lt
  have hp : ps[a.val]? = some (ps[a.val]'la) := List.getElem?_eq_getElem la
  refine ⟨D, _, _, _, rfl, rfl, .inl (.inl h1), atI_nat (j := a.val) ?_, k (ps[a.val]'la) (h3 a.val _ _ hp (tab_row a.lt))⟩
  rw [List.getElem?_map, hp]
  rfl
theorem celR {f : Nat → Nat} (h : H p = some (.lst (iv ((List.range q).map f)))) (b : El q) (k : Q (.int (f b.val : Nat))) : ∃ p' xs i v, V.ref p = .ref p' ∧ vn b = .int i ∧ SqL K H p' xs ∧ atI xs i = some v ∧ Q v :=
  ⟨p, _, _, _, rfl, rfl, .inl (.inl h), atI_nat (iv_at b.lt), k⟩
theorem celS {a : El q} (h : H p = some (.lst (iv ((List.range q).map (S q a.val))))) (b : El q) (k : Q (vn (a + b))) : ∃ p' xs i v, V.ref p = .ref p' ∧ vn b = .int i ∧ SqL K H p' xs ∧ atI xs i = some v ∧ Q v := celR h b k
theorem celM {a : El q} (h : H p = some (.lst (iv ((List.range q).map (M q a.val))))) (b : El q) (k : Q (vn (a * b))) : ∃ p' xs i v, V.ref p = .ref p' ∧ vn b = .int i ∧ SqL K H p' xs ∧ atI xs i = some v ∧ Q v := celR h b k
theorem celN (h : H p = some (.lst (iv ((List.range q).map (neg q))))) (b : El q) (k : Q (vn (-b))) : ∃ p' xs i v, V.ref p = .ref p' ∧ vn b = .int i ∧ SqL K H p' xs ∧ atI xs i = some v ∧ Q v := celR h b k
theorem celU (h : H p = some (.lst (iv ((List.range q).map (inv q))))) (b : El q) (h0 : b ≠ 0) (k : Q (vn (El.under b))) : ∃ p' xs i v, V.ref p = .ref p' ∧ vn b = .int i ∧ SqL K H p' xs ∧ atI xs i = some v ∧ Q v :=
  celR h b (by rw [← under_val h0]; exact k)
theorem mvT {m : Addr} {t : Mat q} (h : SqT K H m (mv t)) {j : Nat} {v : V} (e : (mv t)[j]? = some v) (k : Q v) : ∃ p xs i v, V.ref m = .ref p ∧ V.int (j : Nat) = .int i ∧ SqT K H p xs ∧ atI xs i = some v ∧ Q v := ⟨m, _, _, _, rfl, rfl, h, atI_nat e, k⟩
end
def spMix : Sp := fun vs H Q _ => ∃ (q : Nat) (_ : IsF q) (F : Addr) (a x b y c : El q), vs = [.ref F, vn a, vn x, vn b, vn y, vn c] ∧ FieldV H F q ∧ Q (vn (a * x + b * y + c)) H
def spLDet (K : PySem.W.Frag) : Sp := fun vs H Q _ => ∃ (q : Nat) (_ : IsF q) (F m : Addr) (t : Mat q), vs = [.ref F, .ref m] ∧ FieldV H F q ∧ (SqL K H m (mv t) ∨ SqT K H m (mv t)) ∧ Q (vn (det t)) H
def spLThen (K : PySem.W.Frag) : Sp := fun vs H Q _ => ∃ (q : Nat) (_ : IsF q) (F m n : Addr) (t u : Mat q), vs = [.ref F, .ref m, .ref n] ∧ FieldV H F q ∧ SqT K H m (mv t) ∧ SqT K H n (mv u) ∧ ∀ (r : Addr) (H' : Hp), Same H H' → H r = none → H' r = some (.tup (mv (thn t u))) → Q (.ref r) H'
def spLBack (K : PySem.W.Frag) : Sp := fun vs H Q _ => ∃ (q : Nat) (_ : IsF q) (F m : Addr) (t : Mat q), vs = [.ref F, .ref m] ∧ FieldV H F q ∧ SqT K H m (mv t) ∧ det t ≠ 0 ∧ ∀ (r : Addr) (H' : Hp), Same H H' → H r = none → H' r = some (.tup (mv (mund t))) → Q (.ref r) H'
def spLAt (K : PySem.W.Frag) : Sp := fun vs H Q _ => ∃ (q : Nat) (_ : IsF q) (F a : Addr) (f : Po q) (y : El q), vs = [.ref F, .ref a, vn y] ∧ FieldV H F q ∧ SqT K H a (vns f) ∧ ∀ H', Same H H' → Q (vn (ev y f)) H'
def spLPt (K : PySem.W.Frag) : Sp := fun vs H Q _ => ∃ (q : Nat) (_ : IsF q) (F a t : Addr) (ps : List (Pc q)) (x y : El q), vs = [.ref F, .ref a, .ref t] ∧ FieldV H F q ∧ RowAt K H a ps ∧ SqT K H t [vn x, vn y] ∧
  ∀ (r : Addr) (H' : Hp), Same H H' → H r = none → H' r = some (.tup [vn (go ps (x, y)).1, vn (go ps (x, y)).2]) → Q (.ref r) H'
end BP
namespace K13
open PySem PySem.Spec PyProof.Rows L2 BP Fld
section
variable {P : Program} {w : World} {K : PySem.W.Frag} {mg : Str → Option Value} {base : Heap}
theorem seqAt {X : Cx} {H : Hp} {m : Addr} {xs : List V} {j : Nat} {v : V} {Q : VK} (h : SqL X.K H m xs ∨ SqT X.K H m xs) (e : xs[j]? = some v) (k : Q v H) : rIx X.K (.ref m) (.int (j : Nat)) H Q :=
  h.elim (fun h => .inl ⟨m, xs, _, v, rfl, rfl, h, atI_nat e, k⟩) fun h => .inr (.inl ⟨m, xs, _, v, rfl, rfl, h, atI_nat e, k⟩)
end
end K13
set_option Elab.async false
set_option linter.all false
set_option maxRecDepth 100000
set_option maxHeartbeats 4000000
set_option pp.maxSteps 400
namespace BP
open PySem PySem.Spec PyProof.Rows L2 Fld
def spLUndone (K : PySem.W.Frag) : Sp := fun vs H Q _ => ∃ (q : Nat) (_ : IsF q) (F a : Addr) (ps : List (Pc q)), vs = [.ref F, .ref a] ∧ FieldV H F q ∧ RowAt K H a ps ∧ (∀ x ∈ ps, PcOk7 x) ∧ ps.length ≤ 900 ∧
  ∀ (r : Addr) (H' : Hp), Same H H' → H r = none → RowAt K H' r ((ps.map und).reverse) → Q (.ref r) H'
def spLShift (K : PySem.W.Frag) : Sp := fun vs H Q _ => ∃ (q : Nat) (_ : IsF q) (F a : Addr) (f : Po q) (e k : El q), vs = [.ref F, .ref a, vn e, vn k] ∧ FieldV H F q ∧ SqT K H a (vns f) ∧ f.length ≤ 100 ∧
  ∀ (r : Addr) (g : Po q) (H' : Hp), Same H H' → H r = none → (f ≠ [] → H' r = some (.lst (vns g))) → H' r = some (.lst (vns g)) → g.length = f.length → (∀ i, co g i = co (sh e k f) i) → Q (.ref r) H'
end BP
namespace Fld
theorem co_map' {q : Nat} [F : IsF q] (f : Po q) (i : Nat) : co (f.map fun x => -x) i = -(co f i) := by
  unfold co
  rw [List.getD_eq_getElem?_getD, List.getD_eq_getElem?_getD, List.getElem?_map]
  cases f[i]? with
  | none =>
    show (0 : El q) = -0
    grind
  | some x => rfl
end Fld
namespace K13
open PySem PySem.Spec PyProof.Rows L2 BP Fld
section
variable {P : Program} {w : World} {K : PySem.W.Frag} {mg : Str → Option Value} {base : Heap}
end
end K13
set_option Elab.async false
set_option linter.all false
set_option maxRecDepth 100000
set_option maxHeartbeats 4000000
set_option pp.maxSteps 400
namespace BP
open PySem PySem.Spec PyProof.Rows L2 Fld
/-- the field and the deck, apart from one another -/
def FieldAt (d c : Addr) (H : Hp) (F : Addr) (q : Nat) : Prop := ∃ sm pr ls ud, H F = some (.dK (fdict q sm pr ls ud)) ∧ F ≠ d ∧ Rows c H sm (tab (S q) q) ∧ Rows c H pr (tab (M q) q) ∧ ls ≠ c ∧ H ls = some (.lst (iv ((List.range q).map (neg q)))) ∧ ud ≠ c ∧ H ud = some (.lst (iv ((List.range q).map (inv q))))
theorem FieldAt.v {d c F : Addr} {H : Hp} {q : Nat} (h : FieldAt d c H F q) : FieldV H F q := by
  obtain ⟨sm, pr, ls, ud, h1, _, ⟨ps, _, _, a1, a2, a3⟩, ⟨rs, _, _, b1, b2, b3⟩, _, h4, _, h5⟩ := h
  exact ⟨sm, pr, ls, ud, h1, ⟨ps, a1, a2, a3⟩, ⟨rs, b1, b2, b3⟩, h4, h5⟩
theorem FieldAt.but {d c F : Addr} {H H' : Hp} {q : Nat} (h : FieldAt d c H F q) (k : Deck H d c) (b : But d c H H') : FieldAt d c H' F q := by
  obtain ⟨sm, pr, ls, ud, h1, n1, h2, h3, n4, h4, n5, h5⟩ := h
  have nc : F ≠ c := by
    obtain ⟨_, _, _, _, kc, _⟩ := k
    exact ne_of h1 kc (by intro z; cases z)
  exact ⟨sm, pr, ls, ud, b _ _ n1 nc h1, n1, h2.but k b, h3.but k b, n4, b _ _ (k.lst h4 n4) n4 h4, n5, b _ _ (k.lst h5 n5) n5 h5⟩
theorem FieldAt.same {d c F : Addr} {H H' : Hp} {q : Nat} (h : FieldAt d c H F q) (s : Same H H') : FieldAt d c H' F q := by
  obtain ⟨sm, pr, ls, ud, h1, n1, h2, h3, n4, h4, n5, h5⟩ := h
  exact ⟨sm, pr, ls, ud, s _ _ h1, n1, h2.same s, h3.same s, n4, s _ _ h4, n5, s _ _ h5⟩
theorem FieldNew.at {d c F : Addr} {H0 H : Hp} {q : Nat} (h : FieldNew H0 H F q) (k : Deck H0 d c) : FieldAt d c H F q := by
  obtain ⟨sm, pr, ls, ud, h1, n1, h2, h3, n4, h4, n5, h5⟩ := h
  obtain ⟨_, _, _, kd, kc, _⟩ := k
  have nn : ∀ {a : Addr} {x : HO} {b : Addr}, H0 a = none → H0 b = some x → a ≠ b := fun e f z => by
    rw [z, f] at e
    cases e
  exact ⟨sm, pr, ls, ud, h1, nn n1 kd, h2.rows kc, h3.rows kc, nn n4 kc, h4, nn n5 kc, h5⟩
theorem But.sqT {K : PySem.W.Frag} {d c : Addr} {H H' : Hp} (k : Deck H d c) (b : But d c H H') : ∀ (a : Addr) (xs : List V), SqT K H a xs → SqT K H' a xs := by
  intro a xs h
  obtain ⟨_, _, _, kd, kc, _⟩ := k
  rcases h with (h | ⟨o, h⟩) | h
  · exact .inl (.inl (b _ _ (ne_of h kd (by intro z; cases z)) (ne_of h kc (by intro z; cases z)) h))
  · exact .inl (.inr ⟨o, b _ _ (ne_of h kd (by intro z; cases z)) (ne_of h kc (by intro z; cases z)) h⟩)
  · exact .inr h
def spLStraight : Sp := fun vs H Q _ => ∃ (q : Nat) (_ : IsF q) (d c F : Addr), vs = [.ref d, .ref F] ∧ Deck H d c ∧ FieldAt d c H F q ∧
  ∀ (r : Addr) (t : Mat q) (H' : Hp), But d c H H' → Deck H' d c → H' r = some (.tup (mv t)) → det t ≠ 0 → Q (.ref r) H'
def spLBend : Sp := fun vs H Q _ => ∃ (q : Nat) (_ : IsF q) (d c : Addr), vs = [.ref d, .int q, .int 6] ∧ Deck H d c ∧
  ∀ (r : Addr) (f : Po q) (H' : Hp), But d c H H' → Deck H' d c → H' r = some (.tup (vns f)) → IsB f → f.length ≤ 7 → Q (.ref r) H'
theorem draw_vn {q : Nat} [F : IsF q] {x : Nat} (h : x < q) : ∃ a : El q, a.val = x := ⟨⟨x, h⟩, rfl⟩
/-- the greater one of 1 and a number -/
def mx1 {q : Nat} [F : IsF q] (x : El q) : El q := if x.val > 1 then x else 1
theorem mx1_ne {q : Nat} [F : IsF q] (x : El q) : mx1 x ≠ 0 := by
  unfold mx1
  by_cases h : x.val > 1
  · rw [if_pos h]
    exact El.ne_zero.mpr (by omega)
  · rw [if_neg h]
    exact fun z => El.one_ne z.symm
theorem mx1_val {q : Nat} [F : IsF q] (x : El q) : V.int (if (x.val : Int) > 1 then (x.val : Int) else 1) = vn (mx1 x) := by
  unfold mx1
  by_cases h : x.val > 1
  · rw [if_pos h, if_pos (by omega)]
  · rw [if_neg h, if_neg (by omega), vn_one]
theorem deck_some {H : Hp} {d c : Addr} (k : Deck H d c) : (∃ x, H d = some (.dK x)) ∧ ∃ x, H c = some (.lst x) := by
  obtain ⟨_, _, _, kd, kc, _⟩ := k
  exact ⟨⟨_, kd⟩, ⟨_, kc⟩⟩
theorem but_upd {H H' : Hp} {d c D : Addr} {o : HO} (b : But d c H H') (nD : H D = none) : But d c H (upd H' D o) := fun x z e1 e2 e => by
  rw [upd_ne (ne_of_none e nD)]
  exact b x z e1 e2 e
theorem Deck.upd {H : Hp} {d c D : Addr} {o : HO} (k : Deck H d c) (n1 : D ≠ d) (n2 : D ≠ c) : Deck (upd H D o) d c := by
  obtain ⟨cells, m, n, h1, h2, r⟩ := k
  exact ⟨cells, m, n, by rw [upd_ne n1.symm]; exact h1, by rw [upd_ne n2.symm]; exact h2, r⟩
end BP
namespace K13
open PySem PySem.Spec PyProof.Rows L2 BP Fld
section
variable {P : Program} {w : World} {K : PySem.W.Frag} {mg : Str → Option Value} {base : Heap}
end
end K13
set_option Elab.async false
set_option linter.all false
set_option maxRecDepth 100000
set_option maxHeartbeats 4000000
set_option pp.maxSteps 400
namespace K13
open PySem PySem.Spec PyProof.Rows L2 BP Fld
section
variable {P : Program} {w : World} {K : PySem.W.Frag} {mg : Str → Option Value} {base : Heap}
end
end K13
set_option Elab.async false
set_option linter.all false
set_option maxRecDepth 100000
set_option maxHeartbeats 4000000
set_option pp.maxSteps 400
namespace BP
open PySem PySem.Spec PyProof.Rows L2 Fld
section
variable {q : Nat} [F : IsF q]
/-- the law's own state: all that it writes on is new, seen from H0 -/
def LState (K : PySem.W.Frag) (H0 H : Hp) (s : Addr) (z : Sta q) : Prop := ∃ (start : V) (bl tl l : Addr) (ts bs : List V), H s = some (.lst [start, .ref bl, .ref tl, .ref l]) ∧ H bl = some (.lst bs) ∧ H tl = some (.lst ts) ∧ SqT K H l (mv z.last) ∧
  H0 s = none ∧ H0 bl = none ∧ H0 tl = none ∧ s ≠ bl ∧ s ≠ tl ∧ bl ≠ tl ∧ ((z.st = [] ∧ start = .int (-1) ∧ ts = [] ∧ bs = []) ∨ (z.st ≠ [] ∧ Stk K H z.st (start :: ts) bs))
theorem LState.same {K : PySem.W.Frag} {H0 H H' : Hp} {s : Addr} {z : Sta q} (h : LState K H0 H s z) (k : Same H H') : LState K H0 H' s z := by
  obtain ⟨start, bl, tl, l, ts, bs, h1, h2, h3, h4, n1, n2, n3, n4, n5, n6, h5⟩ := h
  exact ⟨start, bl, tl, l, ts, bs, k _ _ h1, k _ _ h2, k _ _ h3, BP.Same.tupS k h4, n1, n2, n3, n4, n5, n6, h5.imp id fun x => ⟨x.1, x.2.kept fun _ _ => BP.Same.tupS k⟩⟩
theorem same_upd {H0 H : Hp} {x : Addr} {o : HO} (s : Same H0 H) (n : H0 x = none) : Same H0 (upd H x o) := fun b z e => by
  rw [upd_ne (ne_of_none e n)]
  exact s b z e
/-- another last map -/
theorem LState.setl {K : PySem.W.Frag} {H0 H : Hp} {s : Addr} {z : Sta q} {start : V} {bl tl l l' : Addr} {ts bs : List V} {m : Mat q} (h1 : H s = some (.lst [start, .ref bl, .ref tl, .ref l])) (h2 : H bl = some (.lst bs)) (h3 : H tl = some (.lst ts)) (h4 : SqT K H l' (mv m))
    (n1 : H0 s = none) (n2 : H0 bl = none) (n3 : H0 tl = none) (n4 : s ≠ bl) (n5 : s ≠ tl) (n6 : bl ≠ tl) (h5 : (z.st = [] ∧ start = .int (-1) ∧ ts = [] ∧ bs = []) ∨ (z.st ≠ [] ∧ Stk K H z.st (start :: ts) bs)) :
    LState K H0 (upd H s (.lst [start, .ref bl, .ref tl, .ref l'])) s (⟨z.st, m⟩ : Sta q) :=
  ⟨start, bl, tl, l', ts, bs, upd_same, by rw [upd_ne n4.symm]; exact h2, by rw [upd_ne n5.symm]; exact h3, sqT_upd h1 h4, n1, n2, n3, n4, n5, n6, h5.imp id fun x => ⟨x.1, x.2.kept fun _ _ => sqT_upd h1⟩⟩
end
def spBehind (K : PySem.W.Frag) : Sp := fun vs H Q _ => ∃ (q : Nat) (_ : IsF q) (F s u : Addr) (H0 : Hp) (z : Sta q) (f : Po q), vs = [.ref F, .ref s, .ref u] ∧ FieldV H0 F q ∧ SqT K H0 u (vns f) ∧ Same H0 H ∧ LState K H0 H s z ∧ Okay z ∧ B7 z.st ∧ z.st.length ≤ 900 ∧ IsB f ∧ f.length ≤ 7 ∧
  ∀ H', Same H0 H' → LState K H0 H' s (put z f) → Q (.ref s) H'
def spLeast (K : PySem.W.Frag) : Sp := fun vs H Q _ => ∃ (q : Nat) (_ : IsF q) (F a : Addr) (ps : List (Pc q)), vs = [.ref F, .ref a] ∧ FieldV H F q ∧ RowAt K H a ps ∧ (∀ x ∈ ps, PcOk7 x) ∧ ps.length ≤ 900 ∧
  ∀ (r : Addr) (H' : Hp), Same H H' → H r = none → StepAt K H' r (run empty ps) → Q (.ref r) H'
end BP
namespace K13
open PySem PySem.Spec PyProof.Rows L2 BP Fld
section
variable {P : Program} {w : World} {K : PySem.W.Frag} {mg : Str → Option Value} {base : Heap}
end
end K13
set_option Elab.async false
set_option linter.all false
set_option maxRecDepth 100000
set_option maxHeartbeats 4000000
set_option pp.maxSteps 400
namespace Fld
variable {q : Nat} [F : IsF q]
theorem ext_co {l m : Po q} (hl : l.length = m.length) (h : ∀ i, co l i = co m i) : l = m := by
  refine List.ext_getElem hl fun i h1 h2 => ?_
  have e1 := get_co h1
  have e2 := get_co h2
  rw [List.getElem?_eq_getElem h1] at e1
  rw [List.getElem?_eq_getElem h2] at e2
  rw [Option.some.inj e1, Option.some.inj e2, h]
theorem near_is {M : Mat q} (hM : Tri M) {f : Po q} (hf : IsB f) {y0 y1 : El q} {gr : Po q} (lg : (y0 :: y1 :: gr).length = f.length) (hg : ∀ i, co (y0 :: y1 :: gr) i = co (sh M.e M.f f) i) :
    0 :: 0 :: gr.map (fun x => El.under M.a * x) = (ahead M f).1 ∧ (⟨M.a, y1 + M.b, y0 + M.c, 0, M.e, M.f⟩ : Mat q) = (ahead M f).2 := by
  constructor
  · refine ext_co ?_ fun i => ?_
    · rw [ahead_len hM hf, ← lg]
      simp
    · match i with
      | 0 => exact (co_ahead_low M f).1.symm
      | 1 => exact (co_ahead_low M f).2.symm
      | i + 2 =>
        rw [co_ahead, ← hg]
        show co (gr.map fun x => El.under M.a * x) i = co gr i * _
        unfold co
        rw [List.getD_eq_getElem?_getD, List.getD_eq_getElem?_getD, List.getElem?_map]
        cases gr[i]? with
        | none =>
          show (0 : El q) = 0 * _
          grind
        | some y =>
          show El.under M.a * y = y * El.under M.a
          grind
  · rw [ahead_snd, ← hg, ← hg]
    refine Mat.ext' rfl ?_ ?_ rfl rfl rfl
    · show y1 + M.b = M.b + y1
      grind
    · show y0 + M.c = M.c + y0
      grind
end Fld
set_option Elab.async false
set_option linter.all false
set_option maxRecDepth 100000
set_option maxHeartbeats 4000000
set_option pp.maxSteps 400
/-! Sums and slices of tuples, whatever is empty; rows of pieces put together. -/
namespace BP
open PySem PySem.Spec PyProof.Rows L2 Fld
section
variable {K : PySem.W.Frag} {H : Hp} {a b : Addr} {xs ys : List V} {Q : VK}
theorem catA (ha : SqT K H a xs) (hb : SqT K H b ys) (le : xs.length + ys.length ≤ sizeLine) (k : ∀ (r : Addr) (H' : Hp), Same H H' → SqT K H' r (xs ++ ys) → Q (.ref r) H') : rCatA K (.ref a) (.ref b) H Q := by
  refine ⟨a, b, xs, ys, rfl, rfl, ha, hb, le, fun e => ?_, fun _ e => ?_, fun _ _ p np => ?_⟩
  · refine k b H (fun _ _ z => z) ?_
    rw [e]
    exact hb
  · refine k a H (fun _ _ z => z) ?_
    rw [e, List.append_nil]
    exact ha
  · exact k p _ (same_new np) (.inl (.inl upd_same))
theorem takeA (n : Nat) (ha : SqT K H a xs) (k : ∀ (r : Addr) (H' : Hp), Same H H' → SqT K H' r (xs.take n) → Q (.ref r) H') : rSlA K (.ref a) none (some (n : Int)) H Q := by
  have ec : cutV xs none (some (n : Int)) = xs.take n := cut_take xs n
  refine ⟨a, xs, rfl, ha, fun e => ?_, fun _ p np => ?_⟩
  · refine k a H (fun _ _ z => z) ?_
    have e2 := e.2
    rw [HT.sIx_nat] at e2
    rw [List.take_of_length_le (by omega)]
    exact ha
  · rw [ec]
    exact k p _ (same_new np) (.inl (.inl upd_same))
theorem cut_drop (xs : List V) (n : Nat) : cutV xs (some (n : Int)) none = xs.drop n := by
  unfold cutV
  rw [HT.sIx_nat, HT.sIx_none]
  by_cases h : n ≤ xs.length
  · rw [Nat.min_eq_left h]
    exact List.take_of_length_le (by rw [List.length_drop]; exact Nat.le_refl _)
  · rw [Nat.min_eq_right (by omega), List.drop_eq_nil_of_le (Nat.le_refl _), List.drop_eq_nil_of_le (by omega)]
    exact List.take_nil
theorem dropA (n : Nat) (ha : SqT K H a xs) (k : ∀ (r : Addr) (H' : Hp), Same H H' → SqT K H' r (xs.drop n) → Q (.ref r) H') : rSlA K (.ref a) (some (n : Int)) none H Q := by
  have ec : cutV xs (some (n : Int)) none = xs.drop n := cut_drop xs n
  refine ⟨a, xs, rfl, ha, fun e => ?_, fun _ p np => ?_⟩
  · refine k a H (fun _ _ z => z) ?_
    have e1 := e.1
    rw [HT.sIx_nat] at e1
    have : xs.drop n = xs := by
      by_cases h : n = 0
      · rw [h]
        rfl
      · have : xs.length = 0 := by omega
        rw [List.eq_nil_of_length_eq_zero this]
        exact List.drop_nil
    rw [this]
    exact ha
  · rw [ec]
    exact k p _ (same_new np) (.inl (.inl upd_same))
end
section
variable {q : Nat} [F : IsF q] {K : PySem.W.Frag} {H : Hp}
theorem PsAt.app {ys : List V} {qs : List (Pc q)} (h2 : PsAt K H ys qs) : ∀ {xs : List V} {ps : List (Pc q)}, PsAt K H xs ps → PsAt K H (xs ++ ys) (ps ++ qs)
  | [], [], _ => h2
  | _ :: _, _ :: _, ⟨h, k⟩ => ⟨h, PsAt.app h2 k⟩
  | [], _ :: _, h => h.elim
  | _ :: _, [], h => h.elim
theorem PsAt.take : ∀ {xs : List V} {ps : List (Pc q)} (n : Nat), PsAt K H xs ps → PsAt K H (xs.take n) (ps.take n)
  | _, _, 0, _ => trivial
  | [], [], _ + 1, _ => trivial
  | _ :: _, _ :: _, n + 1, ⟨h, k⟩ => ⟨h, PsAt.take n k⟩
  | [], _ :: _, _ + 1, h => h.elim
  | _ :: _, [], _ + 1, h => h.elim
theorem PsAt.drop : ∀ {xs : List V} {ps : List (Pc q)} (n : Nat), PsAt K H xs ps → PsAt K H (xs.drop n) (ps.drop n)
  | _, _, 0, h => h
  | [], [], _ + 1, _ => trivial
  | _ :: _, _ :: _, n + 1, ⟨_, k⟩ => PsAt.drop n k
  | [], _ :: _, _ + 1, h => h.elim
  | _ :: _, [], _ + 1, h => h.elim
/-- one row behind another one -/
theorem RowAt.cat {a b : Addr} {ps qs : List (Pc q)} {Q : VK} (ha : RowAt K H a ps) (hb : RowAt K H b qs) (le : ps.length + qs.length ≤ 1000) (k : ∀ (r : Addr) (H' : Hp), Same H H' → RowAt K H' r (ps ++ qs) → Q (.ref r) H') : rCatA K (.ref a) (.ref b) H Q := by
  obtain ⟨xs, h1, h2⟩ := ha
  obtain ⟨ys, g1, g2⟩ := hb
  refine catA h1 g1 (Nat.le_trans (by rw [h2.len, g2.len]; exact le) (by decide)) fun r H' s h => k r H' s ⟨_, h, ?_⟩
  exact PsAt.app (g2.kept fun _ _ => BP.Same.tupS s) (h2.kept fun _ _ => BP.Same.tupS s)
theorem RowAt.takeN {a : Addr} {ps : List (Pc q)} {Q : VK} (n : Nat) (ha : RowAt K H a ps) (k : ∀ (r : Addr) (H' : Hp), Same H H' → RowAt K H' r (ps.take n) → Q (.ref r) H') : rSlA K (.ref a) none (some (n : Int)) H Q := by
  obtain ⟨xs, h1, h2⟩ := ha
  exact takeA n h1 fun r H' s h => k r H' s ⟨_, h, (h2.take n).kept fun _ _ => BP.Same.tupS s⟩
theorem RowAt.dropN {a : Addr} {ps : List (Pc q)} {Q : VK} (n : Nat) (ha : RowAt K H a ps) (k : ∀ (r : Addr) (H' : Hp), Same H H' → RowAt K H' r (ps.drop n) → Q (.ref r) H') : rSlA K (.ref a) (some (n : Int)) none H Q := by
  obtain ⟨xs, h1, h2⟩ := ha
  exact dropA n h1 fun r H' s h => k r H' s ⟨_, h, (h2.drop n).kept fun _ _ => BP.Same.tupS s⟩
end
end BP
set_option Elab.async false
set_option linter.all false
set_option maxRecDepth 100000
set_option maxHeartbeats 4000000
set_option pp.maxSteps 400
namespace Fld
variable {q : Nat} [F : IsF q]
/-- two rows that do the same to every step -/
def Alike (ps qs : List (Pc q)) : Prop := ∀ z : Sta q, Okay z → run z ps = run z qs
theorem Alike.mats (m n : Mat q) (ps qs : List (Pc q)) : Alike (ps ++ [.mat (thn m n)] ++ qs) (ps ++ (.mat m :: .mat n :: qs)) := by
  intro z _
  rw [List.append_assoc, run_app z, run_app z]
  show run (act (run z ps) (.mat (thn m n))) qs = run (act (act (run z ps) (.mat m)) (.mat n)) qs
  have e : act (run z ps) (.mat (thn m n)) = act (act (run z ps) (.mat m)) (.mat n) := by
    show (⟨(run z ps).st, thn (run z ps).last (thn m n)⟩ : Sta q) = ⟨(run z ps).st, thn (thn (run z ps).last m) n⟩
    rw [thn_assoc]
  rw [e]
theorem split_two {ps : List (Pc q)} {i : Nat} {x y : Pc q} (h1 : ps[i]? = some x) (h2 : ps[i + 1]? = some y) : ps = ps.take i ++ (x :: y :: ps.drop (i + 2)) := by
  obtain ⟨l1, e1⟩ := List.getElem?_eq_some_iff.mp h1
  obtain ⟨l2, e2⟩ := List.getElem?_eq_some_iff.mp h2
  have d1 := List.drop_eq_getElem_cons l1
  have d2 := List.drop_eq_getElem_cons l2
  rw [e1] at d1
  rw [e2] at d2
  rw [← d2, ← d1, List.take_append_drop]
end Fld
namespace BP
open PySem PySem.Spec PyProof.Rows L2 Fld
def spPutT (K : PySem.W.Frag) : Sp := fun vs H Q _ => ∃ (q : Nat) (_ : IsF q) (F a : Addr) (i : Nat) (ps : List (Pc q)), vs = [.ref F, .ref a, .int i] ∧ FieldV H F q ∧ RowAt K H a ps ∧ (∀ x ∈ ps, PcOk7 x) ∧ ps.length ≤ 900 ∧ i < ps.length ∧
  ∀ (r : Addr) (qs : List (Pc q)) (H' : Hp), Same H H' → RowAt K H' r qs → (∀ x ∈ qs, PcOk7 x) → qs.length ≤ ps.length → Alike qs ps → Q (.ref r) H'
theorem piece_word {q : Nat} [IsF q] {K : PySem.W.Frag} {H : Hp} {c : Addr} {x : Pc q} (h : PieceAt K H c x) : ∃ (w : Str) (u : Addr), SqT K H c [.str w, .ref u] ∧ (w = "straight" → ∃ m, x = .mat m ∧ SqT K H u (mv m)) := by
  cases x with
  | mat m =>
    obtain ⟨u, h1, h2⟩ := h
    exact ⟨_, u, h1, fun _ => ⟨m, rfl, h2⟩⟩
  | bd f =>
    obtain ⟨u, h1, h2⟩ := h
    exact ⟨_, u, h1, fun z => absurd z (by decide +kernel)⟩
end BP
set_option Elab.async false
set_option linter.all false
set_option maxRecDepth 100000
set_option maxHeartbeats 4000000
set_option pp.maxSteps 400
/-! Rows and their undoings. -/
namespace Fld
variable {q : Nat} [F : IsF q]
theorem mund_mund {m : Mat q} (h : det m ≠ 0) : mund (mund m) = m := by
  have e1 := thn_mund h
  have e2 := thn_mund (det_mund h)
  have e3 : thn m (thn (mund m) (mund (mund m))) = thn m same := by rw [e2]
  rw [← thn_assoc, e1, same_thn, thn_same] at e3
  exact e3
theorem und_und : ∀ {p : Pc q}, PcOk7 p → und (und p) = p
  | .mat m, h => by
    show Pc.mat (mund (mund m)) = .mat m
    rw [mund_mund h]
  | .bd f, h => by
    show Pc.bd (sc (sc f (-1)) (-1)) = .bd f
    have e : sc (sc f (-1)) (-1) = f := by
      refine canon_ext (trim_trim _) h.1.1.1 fun i => ?_
      rw [co_sc, co_sc]
      grind
    rw [e]
def ur (ps : List (Pc q)) : List (Pc q) := (ps.map und).reverse
theorem ur_ur {ps : List (Pc q)} (h : ∀ p ∈ ps, PcOk7 p) : ur (ur ps) = ps := by
  unfold ur
  rw [List.map_reverse, List.reverse_reverse, List.map_map]
  refine (List.map_congr_left fun p hp => ?_).trans (List.map_id _)
  exact und_und (h p hp)
theorem ur_ok {ps : List (Pc q)} (h : ∀ p ∈ ps, PcOk7 p) : ∀ p ∈ ur ps, PcOk7 p := und_row_ok7 h
theorem ok_of7 {ps : List (Pc q)} (h : ∀ p ∈ ps, PcOk7 p) : ∀ p ∈ ps, PcOk p := fun p hp => (h p hp).ok
theorem act_und {z : Sta q} (hz : Okay z) : ∀ {p : Pc q}, PcOk7 p → act (act z p) (und p) = z
  | .mat m, h => by
    show (⟨z.st, thn (thn z.last m) (mund m)⟩ : Sta q) = z
    rw [thn_assoc, thn_mund h, thn_same]
  | .bd f, h => by
    have h2 : PcOk7 (und (Pc.bd f)) := und_ok7 h
    show put (put z f) (sc f (-1)) = z
    have e : pl f (sc f (-1)) = [] := nil_of_co (pl_canon _ _) fun i => by
      rw [co_pl, co_sc]
      grind
    rw [put_put hz h.1 h2.1, if_pos e]
theorem run_und : ∀ {ps : List (Pc q)} {z : Sta q}, Okay z → (∀ p ∈ ps, PcOk7 p) → run z (ps ++ ur ps) = z
  | [], _, _, _ => rfl
  | p :: r, z, hz, h => by
    have e : p :: r ++ ur (p :: r) = p :: (r ++ ur r) ++ [und p] := by
      unfold ur
      rw [List.map_cons, List.reverse_cons, ← List.append_assoc]
      rfl
    rw [e, run_app]
    show act (run (act z p) (r ++ ur r)) (und p) = z
    have hp := h p (List.mem_cons_self ..)
    rw [run_und (act_ok hz hp.ok) fun x hx => h x (List.mem_cons_of_mem _ hx), act_und hz hp]
theorem run_und' {ps : List (Pc q)} {z : Sta q} (hz : Okay z) (h : ∀ p ∈ ps, PcOk7 p) : run z (ur ps ++ ps) = z := by
  have e := run_und hz (ur_ok h)
  rw [ur_ur h] at e
  exact e
/-- the undone row of a row that does the same does the same -/
theorem undo_same {ps qs : List (Pc q)} (hp : ∀ p ∈ ps, PcOk7 p) (hq : ∀ p ∈ qs, PcOk7 p) (h : Alike ps qs) : run empty (ur ps) = run empty (ur qs) := by
  have o1 : Okay (run (empty : Sta q) (ur ps)) := run_ok empty_ok (ok_of7 (ur_ok hp))
  have e1 : run (run (empty : Sta q) (ur ps)) qs = empty := by
    rw [← h _ o1, ← run_app, run_und' empty_ok hp]
  have e2 : run (run (empty : Sta q) (ur ps)) (qs ++ ur qs) = run empty (ur ps) := run_und o1 hq
  rw [run_app, e1] at e2
  exact e2.symm
theorem Alike.row {ps : List (Pc q)} (hp : ∀ p ∈ ps, PcOk7 p) : Alike (rowOf (run empty ps)) ps := fun _ hz => run_run hz (ok_of7 hp)
theorem alike_insert {ps mid : List (Pc q)} (i : Nat) (hp : ∀ p ∈ ps, PcOk7 p) (h : ∀ z : Sta q, Okay z → run z mid = z) : Alike (ps.take i ++ mid ++ ps.drop i) ps := by
  intro z hz
  rw [run_app, run_app, h _ (run_ok hz fun p h2 => (hp p (List.mem_of_mem_take h2)).ok), ← run_app, List.take_append_drop]
theorem alike_one {ps qs : List (Pc q)} {i : Nat} {x : Pc q} (hx : ps[i]? = some x) (hp : ∀ p ∈ ps, PcOk7 p) (h : ∀ z : Sta q, Okay z → run z qs = run z [x]) : Alike (ps.take i ++ qs ++ ps.drop (i + 1)) ps := by
  intro z hz
  rw [run_app, run_app, h _ (run_ok hz fun p h2 => (hp p (List.mem_of_mem_take h2)).ok), ← run_app, ← run_app]
  obtain ⟨l1, e1⟩ := List.getElem?_eq_some_iff.mp hx
  have d1 := List.drop_eq_getElem_cons l1
  rw [e1] at d1
  have e : ps.take i ++ ([x] ++ ps.drop (i + 1)) = ps := by
    show ps.take i ++ (x :: ps.drop (i + 1)) = ps
    rw [← d1, List.take_append_drop]
  rw [e]
end Fld
set_option Elab.async false
set_option linter.all false
set_option maxRecDepth 100000
set_option maxHeartbeats 4000000
set_option pp.maxSteps 400
/-! What an expression comes to where nothing is laid, whatever follows it. -/
namespace BP
open PySem PySem.Spec PyProof.Rows L2 Fld
def Yl (te : TE) (σ : L2.St) (H : Hp) (v : V) : Prop := ∀ Q : VK, Q v H → te σ H Q
section
variable {σ : L2.St} {H : Hp} {K : PySem.W.Frag} {t1 t2 t3 : TE}
theorem yl_var {i : Nat} {v : V} (h : σ[i]? = some (some v)) : Yl (tVar i) σ H v := fun _ k => ⟨v, h, k⟩
theorem yl_c {v : V} : Yl (tC v) σ H v := fun _ k => k
theorem yl_at {D : Addr} {xs : List V} {j : Nat} {v : V} (h1 : Yl t1 σ H (.ref D)) (h2 : Yl t2 σ H (.int (j : Nat))) (hD : SqL K H D xs) (e : xs[j]? = some v) : Yl (tOp (rIxL K) t1 t2) σ H v :=
  fun _ k => h1 _ (h2 _ ⟨D, xs, _, v, rfl, rfl, hD, atI_nat e, k⟩)
variable {q : Nat} [FF : IsF q]
theorem yl_cell {f : Nat → Nat → Nat} {D : Addr} {a b : El q} (h1 : Yl t1 σ H (.ref D)) (h2 : Yl t2 σ H (vn a)) (h3 : Yl t3 σ H (vn b)) (hD : RowsT H D (tab f q)) : Yl (tOp (rIxL K) (tOp (rIxL K) t1 t2) t3) σ H (.int (f a.val b.val : Nat)) :=
  fun _ k => h1 _ (h2 _ (rowR hD a fun p hp => h3 _ (celR hp b k)))
theorem yl_S {D : Addr} {a b : El q} (h1 : Yl t1 σ H (.ref D)) (h2 : Yl t2 σ H (vn a)) (h3 : Yl t3 σ H (vn b)) (hD : RowsT H D (tab (S q) q)) : Yl (tOp (rIxL K) (tOp (rIxL K) t1 t2) t3) σ H (vn (a + b)) := yl_cell h1 h2 h3 hD
theorem yl_M {D : Addr} {a b : El q} (h1 : Yl t1 σ H (.ref D)) (h2 : Yl t2 σ H (vn a)) (h3 : Yl t3 σ H (vn b)) (hD : RowsT H D (tab (M q) q)) : Yl (tOp (rIxL K) (tOp (rIxL K) t1 t2) t3) σ H (vn (a * b)) := yl_cell h1 h2 h3 hD
theorem yl_N {D : Addr} {b : El q} (h1 : Yl t1 σ H (.ref D)) (h2 : Yl t2 σ H (vn b)) (hD : H D = some (.lst (iv ((List.range q).map (neg q))))) : Yl (tOp (rIxL K) t1 t2) σ H (vn (-b)) := fun _ k => h1 _ (h2 _ (celN hD b k))
theorem yl_U {D : Addr} {b : El q} (h0 : b ≠ 0) (h1 : Yl t1 σ H (.ref D)) (h2 : Yl t2 σ H (vn b)) (hD : H D = some (.lst (iv ((List.range q).map (inv q))))) : Yl (tOp (rIxL K) t1 t2) σ H (vn (El.under b)) := fun _ k => h1 _ (h2 _ (celU hD b h0 k))
end
end BP
set_option Elab.async false
set_option linter.all false
set_option maxRecDepth 100000
set_option maxHeartbeats 4000000
set_option pp.maxSteps 400
/-! Tests for nothing, a list's end, a place of a list: read in one go. -/
namespace BP
open PySem PySem.Spec PyProof.Rows L2 Fld
section
variable {q : Nat} [FF : IsF q] {σ : L2.St} {H : Hp} {K : PySem.W.Frag} {t1 t2 : TE}
theorem isEmpty_len {α β : Type} {a : List α} {b : List β} (h : a.length = b.length) : a.isEmpty = b.isEmpty := by
  cases a with
  | nil =>
    cases b with
    | nil => rfl
    | cons _ _ => cases h
  | cons _ _ =>
    cases b with
    | nil => cases h
    | cons _ _ => rfl
theorem Same.lstS {a : Addr} {xs : List V} {H' : Hp} (s : Same H H') (h : SqL K H a xs) : SqL K H' a xs := by
  rcases h with h | h
  · rcases h with h | ⟨o, h⟩
    · exact .inl (.inl (s _ _ h))
    · exact .inl (.inr ⟨o, s _ _ h⟩)
  · exact .inr h
theorem nil_ints {L : Addr} {ns : List Int} {Q : Bool → Hp → Prop} (h1 : Yl t1 σ H (.ref L)) (hL : SqL K H L (ns.map V.int)) (k : ∀ H', Same H H' → Q (!ns.isEmpty) H') : tTest (tOp (rNeD K) t1 (tLst tNil)) σ H Q := by
  refine h1 _ ⟨Nat.zero_le _, fun p np => ?_⟩
  have s := same_new (o := .lst ([] : List V)) np
  refine ⟨dat ns, dat [], dp_ints (BP.Same.lstS s hL), .lst (.inl (.inl upd_same)) .nil, shaped_ints _, shaped_ints _, _, rfl, ?_⟩
  rw [eqv_nil]
  exact k _ s
theorem yl_app {L : Addr} {xs : List V} {v : V} {Q : VK} (h1 : Yl t1 σ H (.ref L)) (h2 : Yl t2 σ H v) (hL : H L = some (.lst xs)) (le : xs.length < sizeLine) (k : Q .non (upd H L (.lst (xs ++ [v])))) : tBM K "list" rAppend t1 (tCons t2 tNil) σ H Q :=
  h1 _ ⟨.inl ⟨rfl, _, .inl (.inl hL)⟩, h2 _ ⟨L, xs, v, rfl, rfl, hL, le, k⟩⟩
theorem yl_pop {L : Addr} {xs : List V} {v : V} {Q : VK} (h1 : Yl t1 σ H (.ref L)) (hL : H L = some (.lst (xs ++ [v]))) (k : Q v (upd H L (.lst xs))) : tBM0 K "list" rPop t1 σ H Q := by
  refine h1 _ ⟨.inl ⟨rfl, _, .inl (.inl hL)⟩, L, xs ++ [v], v, rfl, rfl, hL, ?_, ?_⟩
  · rw [List.length_append, List.getElem?_append_right (by simp)]
    simp
  · rw [List.dropLast_concat]
    exact k
theorem yl_set {L : Addr} {xs : List V} {v : V} {j : Nat} {Q : L2.St → Hp → Prop} (h1 : Yl t1 σ H (.ref L)) (h2 : Yl t2 σ H (.int (j : Nat))) (hL : H L = some (.lst xs)) (lt : j < xs.length) (k : Q σ (upd H L (.lst (xs.set j v)))) : gSub t1 t2 rSetL v σ H Q :=
  h1 _ (h2 _ ⟨L, xs, _, j, rfl, rfl, hL, ixN_nat lt, k⟩)
end
end BP
set_option Elab.async false
set_option linter.all false
set_option maxRecDepth 100000
set_option maxHeartbeats 4000000
set_option pp.maxSteps 400
/-! A list's zeros at the end taken away; two lists made of one length. -/
namespace Fld
variable {q : Nat} [F : IsF q]
theorem co_snoc (ts : Po q) (x : El q) : co (ts ++ [x]) ts.length = x := by
  unfold co
  simp
theorem trim_zero (ts : Po q) : trim (ts ++ [0]) = trim ts := by
  have h := trim_step (co_snoc ts (0 : El q))
  rw [List.take_of_length_le (by simp), List.take_left'  rfl] at h
  exact h
theorem trim_high (ts : Po q) {x : El q} (hx : x ≠ 0) : trim (ts ++ [x]) = ts ++ [x] := by
  have h := trim_stop (l := ts ++ [x]) (n := ts.length) (by simp) (by rw [co_snoc]; exact hx)
  rw [List.take_of_length_le (by simp)] at h
  exact h
/-- numbers up to a length -/
def upto (n : Nat) (φ : Nat → El q) : Po q := (List.range n).map φ
theorem upto_len (n : Nat) (φ : Nat → El q) : (upto n φ).length = n := by
  unfold upto
  rw [List.length_map, List.length_range]
theorem co_upto (n : Nat) (φ : Nat → El q) (i : Nat) : co (upto n φ) i = if i < n then φ i else 0 := by
  unfold co upto
  rw [List.getD_eq_getElem?_getD, List.getElem?_map]
  by_cases h : i < n
  · rw [if_pos h, List.getElem?_range h]
    rfl
  · rw [if_neg h, List.getElem?_eq_none (by rw [List.length_range]; omega)]
    rfl
theorem upto_take (n : Nat) (φ : Nat → El q) {i : Nat} (h : i < n) : (upto n φ).take (i + 1) = (upto n φ).take i ++ [φ i] := by
  have e : (upto n φ)[i]? = some (φ i) := by
    unfold upto
    rw [List.getElem?_map, List.getElem?_range h]
    rfl
  rw [List.take_add_one, e]
  rfl
/-- a list made longer with zeros -/
def padz (g : Po q) (n : Nat) : Po q := g ++ List.replicate (n - g.length) 0
theorem padz_len {g : Po q} {n : Nat} (h : g.length ≤ n) : (padz g n).length = n := by
  unfold padz
  rw [List.length_append, List.length_replicate]
  omega
theorem co_padz (g : Po q) (n i : Nat) : co (padz g n) i = co g i := by
  unfold co padz
  by_cases h : i < g.length
  · rw [List.getD_eq_getElem?_getD, List.getD_eq_getElem?_getD, List.getElem?_append_left h]
  · rw [List.getD_eq_getElem?_getD, List.getD_eq_getElem?_getD, List.getElem?_append_right (by omega), List.getElem?_eq_none (l := g) (by omega), List.getElem?_replicate]
    split <;> rfl
end Fld
namespace BP
open PySem PySem.Spec PyProof.Rows L2 Fld
section
variable {q : Nat} [FF : IsF q] {σ : L2.St} {H : Hp} {K : PySem.W.Frag} {t1 t2 : TE}
theorem tSeq_by {t rest : TS} {D : Ends} {σ : L2.St} {H : Hp} (I : L2.St → Hp → Prop) (k : ∀ σ' H', I σ' H' → rest D σ' H') (h : ∀ nx : L2.St → Hp → Prop, (∀ σ' H', I σ' H' → nx σ' H') → t { D with nx := nx } σ H) : tSeq t rest D σ H := h _ k
theorem vns_padz (g : Po q) (n : Nat) : vns g ++ (List.replicate (n - g.length) [V.int 0]).flatten = vns (padz g n) := by
  have e : ∀ k : Nat, (List.replicate k [V.int 0]).flatten = vns (List.replicate k (0 : El q)) := by
    intro k
    induction k with
    | zero => rfl
    | succ k ih =>
      rw [List.replicate_succ, List.flatten_cons, ih]
      unfold vns
      rw [List.replicate_succ, List.map_cons, vn_zero]
      rfl
  rw [e]
  unfold vns padz
  rw [List.map_append]
theorem trim_loop {i : Nat} {L : Addr} {l : Po q} {D : Ends} (hi : σ[i]? = some (some (.ref L))) (hL : H L = some (.lst (vns l))) (k : ∀ H', (∀ b o, b ≠ L → H b = some o → H' b = some o) → H' L = some (.lst (vns (trim l))) → D.nx σ H') :
    tWhile (tAnd (tTest (tOp (rNeD K) (tVar i) (tLst tNil))) (tTest (tOp rEq (tOp (rIxL K) (tVar i) (tUn (rU fun i => V.int (-i)) (tC (V.int 1)))) (tC (V.int 0))))) (tDrop (tBM0 K "list" rPop (tVar i))) D σ H := by
  refine ⟨fun m σ' H' => σ' = σ ∧ (∀ b o, b ≠ L → H b = some o → H' b = some o) ∧ ∃ t : Po q, t.length = m ∧ H' L = some (.lst (vns t)) ∧ trim t = trim l, ⟨l.length, rfl, fun _ _ _ e => e, l, rfl, hL, rfl⟩, fun m σ' H' hW => ?_⟩
  obtain ⟨rfl, hb, t, lt, hL', et⟩ := hW
  have ev : vns t = (t.map fun x : El q => ((x.val : Nat) : Int)).map V.int := by
    unfold vns
    rw [List.map_map]
    rfl
  refine nil_ints (yl_var hi) (ns := t.map fun x : El q => ((x.val : Nat) : Int)) (by rw [← ev]; exact .inl (.inl hL')) fun H2 s2 => ?_
  have hb2 : ∀ b o, b ≠ L → H b = some o → H2 b = some o := fun b o n e => s2 _ _ (hb b o n e)
  have hL2 := s2 _ _ hL'
  rcases List.eq_nil_or_concat t with e | ⟨ts, x, e⟩
  · subst e
    refine iteF (iteF ?_)
    refine k H2 hb2 ?_
    rw [← et]
    exact hL2
  · rw [List.concat_eq_append] at e
    subst e
    have e0 : (!((ts ++ [x]).map fun x : El q => ((x.val : Nat) : Int)).isEmpty) = true := by simp
    rw [e0]
    refine iteT ?_
    have e1 : vns (ts ++ [x]) = vns ts ++ [vn x] := by
      unfold vns
      rw [List.map_append]
      rfl
    rw [e1] at hL2
    refine ⟨.ref L, hi, 1, rfl, L, _, -1, vn x, rfl, rfl, .inl (.inl hL2), atI_last _ _, rfl, _, rfl, ?_⟩
    by_cases h0 : x = 0
    · rw [decide_eq_true (show vn x = V.int 0 by rw [h0]; exact vn_zero)]
      refine iteT ?_
      refine ⟨fun σ2 H' => σ2 = σ' ∧ (∀ b o, b ≠ L → H b = some o → H' b = some o) ∧ ∃ t : Po q, t.length = ts.length ∧ H' L = some (.lst (vns t)) ∧ trim t = trim l, fun σ' H' h => ⟨ts.length, by rw [← lt, List.length_append]; exact Nat.lt_succ_self _, h⟩, ?_⟩
      refine yl_pop (yl_var hi) hL2 ⟨rfl, fun b o n e => by rw [upd_ne n]; exact hb2 b o n e, ts, rfl, upd_same, ?_⟩
      rw [← et, h0, trim_zero]
    · rw [decide_eq_false (show ¬ vn x = V.int 0 from fun z => h0 (vn_inj (by rw [vn_zero]; exact z)))]
      refine iteF ?_
      refine k H2 hb2 ?_
      rw [← et, trim_high ts h0, e1]
      exact hL2
/-- a comprehension whose n-th item is the number φ n -/
theorem lc_upto {J : It} {n : Nat} {G : Hp → Prop} {Y : Nat → Hp → V → Hp → Prop} (w : Walk J n G Y) {g : TG} {te : TE} {vs : List Nat} {H1 : Hp} {D : Addr} {Qd : Hp → Prop} (φ : Nat → El q) (nD : H1 D = none) (le : n ≤ 1000) (hG : ∀ H', Same H1 H' → G H')
    (hs : ∀ (i : Nat) (x : V) (H H' : Hp) (Q : L2.St → Hp → Prop), i < n → Same H1 H → Y i H x H' → (∀ σ2 H2, wipe σ2 vs = wipe σ vs → Same H H2 → Yl te σ2 H2 (vn (φ i)) → Q σ2 H2) → g x (wipe σ vs) H' Q) (k : ∀ H', Same H1 H' → H' D = some (.lst (vns (upto n φ))) → Qd H') :
    ∃ W : Nat → Nat → Hp → Prop, (∃ m, W 0 m (upd H1 D (.lst []))) ∧ ∀ i m H, W i m H →
      (J.stop i H ∧ Qd H) ∨ (J.go i H ∧ ∃ Nx : Hp → Prop, (∀ H', Nx H' → ∃ m', m' < m ∧ W (i + 1) m' H') ∧ ∀ x H', J.yld i H x H' → g x (wipe σ vs) H' fun σ2 H2 => wipe σ2 vs = wipe σ vs ∧ tYes σ2 H2 fun b H3 =>
        if b = true then te σ2 H3 fun y H4 => ∃ acc, H4 D = some (.lst acc) ∧ acc.length < sizeLine ∧ Nx (upd H4 D (.lst (acc ++ [y]))) else Nx H3) := by
  refine lc_it w (fun i H' => Same H1 H' ∧ H' D = some (.lst (vns ((upto n φ).take i)))) ⟨same_new nD, upd_same⟩ (fun i H' _ h => hG H' h.1) (fun i x H H' hi h y => ?_) (fun H' h => ?_)
  · obtain ⟨s1, hD⟩ := h
    refine hs i x H H' _ hi s1 y fun σ2 H2 e1 s2 te2 => ⟨e1, yes_kept (te2 _ ⟨_, s2 _ _ hD, ?_, fun b z e => ?_, ?_⟩)⟩
    · rw [List.length_map]
      refine Nat.lt_of_le_of_lt (List.length_take_le ..) (Nat.lt_of_lt_of_le (show i < 1000 by omega) (by decide))
    · rw [upd_ne (ne_of_none e nD)]
      exact s2 _ _ (s1 b z e)
    · rw [upd_same, upto_take n φ hi]
      unfold vns
      rw [List.map_append]
      rfl
  · obtain ⟨s1, hD⟩ := h
    rw [List.take_of_length_le (by rw [upto_len]; exact Nat.le_refl _)] at hD
    exact k H' s1 hD
theorem vns_at {g : Po q} {i : Nat} {x : V} (h : (vns g)[i]? = some x) : i < g.length ∧ x = vn (co g i) := of_vns h
theorem upto_map (g : Po q) (f : El q → El q) : g.map f = upto g.length fun i => f (co g i) := by
  refine List.ext_getElem? fun i => ?_
  unfold upto
  rw [List.getElem?_map, List.getElem?_map]
  by_cases h : i < g.length
  · rw [List.getElem?_range h, get_co h]
    rfl
  · rw [List.getElem?_eq_none (by omega), List.getElem?_eq_none (by rw [List.length_range]; omega)]
    rfl
/-- pairs of two lists, of one length, put together -/
theorem lc_zip {a b : Addr} {n i1 i2 : Nat} {g h : Po q} {te : TE} {vs : List Nat} {H1 : Hp} {D : Addr} {Qd : Hp → Prop} (φ : Nat → El q) (nD : H1 D = none) (le : n ≤ 1000) (lg : g.length = n) (lh : h.length = n) (ha : H1 a = some (.lst (vns g))) (hb : H1 b = some (.lst (vns h)))
    (hw : ∀ x y : V, wipe (((wipe σ vs).set i1 (some x)).set i2 (some y)) vs = wipe σ vs) (hs : ∀ (i : Nat) (H2 : Hp), i < n → Same H1 H2 → Yl te (((wipe σ vs).set i1 (some (vn (co g i)))).set i2 (some (vn (co h i)))) H2 (vn (φ i))) (k : ∀ H', Same H1 H' → H' D = some (.lst (vns (upto n φ))) → Qd H') :
    ∃ W : Nat → Nat → Hp → Prop, (∃ m, W 0 m (upd H1 D (.lst []))) ∧ ∀ i m H, W i m H →
      ((Itz K a b).stop i H ∧ Qd H) ∨ ((Itz K a b).go i H ∧ ∃ Nx : Hp → Prop, (∀ H', Nx H' → ∃ m', m' < m ∧ W (i + 1) m' H') ∧ ∀ x H', (Itz K a b).yld i H x H' → gTup K 2 (gCons (gName i1) (gCons (gName i2) gNil)) x (wipe σ vs) H' fun σ2 H2 => wipe σ2 vs = wipe σ vs ∧ tYes σ2 H2 fun b H3 =>
        if b = true then te σ2 H3 fun y H4 => ∃ acc, H4 D = some (.lst acc) ∧ acc.length < sizeLine ∧ Nx (upd H4 D (.lst (acc ++ [y]))) else Nx H3) := by
  refine lc_upto (walk_zip (K := K) (a := a) (b := b) (xs := vns g) (ys := vns h) (n := n) (by unfold vns; rw [List.length_map, List.length_map, lg, lh, Nat.min_self])) φ nD le (fun H' s => ⟨.inl (.inl (s _ _ ha)), .inl (.inl (s _ _ hb))⟩) (fun i x H H' Q hi s y kk => ?_) k
  obtain ⟨T, v1, v2, rfl, nT, rfl, ev1, ev2⟩ := y
  obtain ⟨_, rfl⟩ := vns_at ev1
  obtain ⟨_, rfl⟩ := vns_at ev2
  have sT := same_new (o := .tup [vn (co g i), vn (co h i)]) nT
  refine ⟨T, _, rfl, .inl (.inl upd_same), rfl, _, [_], rfl, _, [], rfl, rfl, ?_⟩
  exact kk _ _ (hw _ _) sT (hs i _ hi (s.trans sT))
theorem yl_zeros {i j : Nat} {L : Addr} {N : Nat} {g : Po q} {Q : VK} (hj : σ[j]? = some (some (.int (N : Nat)))) (hi : σ[i]? = some (some (.ref L))) (hL : SqL K H L (vns g) ∨ SqT K H L (vns g)) (le : g.length ≤ N) (lN : N ≤ 1000) (k : ∀ p H', Same H H' → H' p = some (.lst (List.replicate (N - g.length) [V.int 0]).flatten) → Q (.ref p) H') :
    tOp rRep (tLst (tCons (tC (V.int 0)) tNil)) (tOp (rI0 fun i j => V.int (i - j)) (tVar j) (tCB (fun xs H Q => ∃ p ys, xs = [V.ref p] ∧ (SqL K H p ys ∨ SqT K H p ys) ∧ Q (V.int (ys.length : Nat)) H) (tCons (tVar i) tNil))) σ H Q := by
  refine ⟨(by show 1 ≤ sizeLine; decide), fun p1 n1 => ?_⟩
  have s1 := same_new (o := .lst [V.int 0]) n1
  have ek : ((N : Int) - ((vns g).length : Nat)).toNat = N - g.length := by
    unfold vns
    rw [List.length_map]
    omega
  refine ⟨.int (N : Nat), hj, .ref L, hi, L, vns g, rfl, hL.imp (BP.Same.lstS s1) (BP.Same.tupS s1), _, _, rfl, rfl, p1, _, _, rfl, rfl, upd_same, ?_, ?_, ?_, fun p2 n2 => ?_⟩
  · unfold vns
    rw [List.length_map]
    omega
  · unfold vns
    rw [List.length_map]
    omega
  · rw [ek]
    exact Nat.le_trans (show 1 * (N - g.length) ≤ 1000 by omega) (by decide)
  · rw [ek]
    exact k p2 _ (s1.trans (same_new n2)) upd_same
theorem cat_lists {a b : Addr} {g : Po q} {N : Nat} {Q : VK} (ha : H a = some (.lst (vns g))) (hb : H b = some (.lst (List.replicate (N - g.length) [V.int 0]).flatten)) (le : g.length ≤ N) (lN : N ≤ 1000) (k : ∀ p, H p = none → Q (.ref p) (upd H p (.lst (vns (padz g N))))) : rCat (.ref a) (.ref b) H Q := by
  refine ⟨a, b, _, _, rfl, rfl, ha, hb, ?_, fun p np => ?_⟩
  · rw [← List.length_append, vns_padz]
    unfold vns
    rw [List.length_map, padz_len le]
    exact Nat.le_trans lN (by decide)
  · rw [vns_padz]
    exact k p np
end
end BP
set_option Elab.async false
set_option linter.all false
set_option maxRecDepth 100000
set_option maxHeartbeats 400000
set_option pp.maxSteps 2000
/-! Helpers of the second law library. -/
namespace BP
open PySem PySem.Spec PyProof.Rows L2 Fld
theorem seq_by {te : TE} {g : TG} {rest : TS} {D : Ends} {σ : L2.St} {H : Hp} (Pv : V → Hp → Prop) (h : ∀ Q : VK, (∀ v H', Pv v H' → Q v H') → te σ H Q) (k : ∀ v H', Pv v H' → g v σ H' (rest D)) : tSeq (tAsg te g) rest D σ H := h _ k
theorem seq_of {te : TE} {g : TG} {rest : TS} {D : Ends} {σ : L2.St} {H : Hp} (h : te σ H fun x H1 => g x σ H1 (rest D)) : tSeq (tAsg te g) rest D σ H := h
theorem yl_dget {σ : L2.St} {H : Hp} {t1 : TE} {F : Addr} {k : Str} {v : V} (h1 : Yl t1 σ H (.ref F)) (h : DGet H F (.str k) (some v)) : Yl (tDGet t1 (tC (.str k))) σ H v := fun _ kk => h1 _ ⟨F, v, rfl, h, kk⟩
/-- all that the law reads of its field, at once -/
theorem FieldV.gets {H : Hp} {F : Addr} {q : Nat} (h : FieldV H F q) : ∃ sm pr ls ud, DGet H F (.str "q") (some (.int q)) ∧ DGet H F (.str "sum") (some (.ref sm)) ∧ DGet H F (.str "by") (some (.ref pr)) ∧ DGet H F (.str "less") (some (.ref ls)) ∧ DGet H F (.str "over") (some (.ref ud)) ∧
    RowsT H sm (tab (S q) q) ∧ RowsT H pr (tab (M q) q) ∧ H ls = some (.lst (iv ((List.range q).map (neg q)))) ∧ H ud = some (.lst (iv ((List.range q).map (inv q)))) := by
  obtain ⟨sm, pr, ls, ud, h1, h2, h3, h4, h5⟩ := h
  have g0 := DGet.k (k := fkQ) h1
  have g1 := DGet.k (k := fkP) h1
  have g2 := DGet.k (k := fkT) h1
  have g3 := DGet.k (k := fkL) h1
  have g4 := DGet.k (k := fkU) h1
  rw [fd_q] at g0
  rw [fd_p] at g1
  rw [fd_t] at g2
  rw [fd_l] at g3
  rw [fd_u] at g4
  exact ⟨sm, pr, ls, ud, g0, g1, g2, g3, g4, h2, h3, h4, h5⟩
section
variable {K : PySem.W.Frag} {σ : L2.St}
theorem seq_appY {te : TE} {rest : TS} {D : Ends} {H : Hp} {i : Nat} {E : Addr} {xs : List V} {v : V} (hi : σ[i]? = some (some (.ref E))) (hE : H E = some (.lst xs)) (le : xs.length ≤ 1000) (h : Yl te σ H v)
    (k : ∀ H', (∀ b o, b ≠ E → H b = some o → H' b = some o) → H' E = some (.lst (xs ++ [v])) → rest D σ H') : tSeq (tDrop (tBM K "list" rAppend (tVar i) (tCons te tNil))) rest D σ H := ⟨.ref E, hi, .inl ⟨rfl, _, .inl (.inl hE)⟩, h _ ⟨E, xs, v, rfl, rfl, hE, Nat.lt_of_le_of_lt le (by decide), k _ (fun b o n e => by rw [upd_ne n]; exact e) upd_same⟩⟩
theorem end_appY {te : TE} {D : Ends} {H : Hp} {i : Nat} {E : Addr} {xs : List V} {v : V} (hi : σ[i]? = some (some (.ref E))) (hE : H E = some (.lst xs)) (le : xs.length ≤ 1000) (h : Yl te σ H v)
    (k : ∀ H', (∀ b o, b ≠ E → H b = some o → H' b = some o) → H' E = some (.lst (xs ++ [v])) → D.nx σ H') : tDrop (tBM K "list" rAppend (tVar i) (tCons te tNil)) D σ H := ⟨.ref E, hi, .inl ⟨rfl, _, .inl (.inl hE)⟩, h _ ⟨E, xs, v, rfl, rfl, hE, Nat.lt_of_le_of_lt le (by decide), k _ (fun b o n e => by rw [upd_ne n]; exact e) upd_same⟩⟩
theorem sqT_off {H H' : Hp} {L a : Addr} {ys xs : List V} (hL : H L = some (.lst ys)) (k : ∀ b o, b ≠ L → H b = some o → H' b = some o) (h : SqT K H a xs) : SqT K H' a xs := by
  rcases h with (h | ⟨o, h⟩) | h
  · exact .inl (.inl (k _ _ (ne_of h hL (by intro z; cases z)) h))
  · exact .inl (.inr ⟨o, k _ _ (ne_of h hL (by intro z; cases z)) h⟩)
  · exact .inr h
theorem same_off {H H0 H' : Hp} {L : Addr} (s : Same H H0) (nL : H L = none) (k : ∀ b o, b ≠ L → H0 b = some o → H' b = some o) : Same H H' := fun b o e => k b o (ne_of_none e nL) (s b o e)
/-- a tuple of parts that lay nothing -/
def Al (ts : TA) (σ : L2.St) (H : Hp) (xs : List V) : Prop := ∀ Q : List V → Hp → Prop, Q xs H → ts σ H Q
theorem al_nil {H : Hp} : Al tNil σ H [] := fun _ k => k
theorem al_cons {H : Hp} {te : TE} {ts : TA} {v : V} {xs : List V} (h : Yl te σ H v) (g : Al ts σ H xs) : Al (tCons te ts) σ H (v :: xs) := fun _ k => h _ (g _ k)
theorem al_tup {H : Hp} {ts : TA} {xs : List V} (h : Al ts σ H xs) (le : xs.length ≤ 1000) {Q : VK} (k : ∀ r H', Same H H' → H r = none → H' r = some (.tup xs) → Q (.ref r) H') : tTup ts σ H Q :=
  h _ ⟨Nat.le_trans le (by decide), fun r nr => k r _ (same_new nr) nr upd_same⟩
theorem al_lst {H : Hp} {ts : TA} {xs : List V} (h : Al ts σ H xs) (le : xs.length ≤ 1000) {Q : VK} (k : ∀ r H', Same H H' → H r = none → H' r = some (.lst xs) → Q (.ref r) H') : tLst ts σ H Q :=
  h _ ⟨Nat.le_trans le (by decide), fun r nr => k r _ (same_new nr) nr upd_same⟩
end
section
variable {K : PySem.W.Frag} {H : Hp} {a b : Addr} {xs ys : List V} {Q : VK}
/-- any slice -/
theorem sliceA {lo hi : Option Int} (ha : SqT K H a xs) (k : ∀ (r : Addr) (H' : Hp), Same H H' → SqT K H' r (cutV xs lo hi) → Q (.ref r) H') : rSlA K (.ref a) lo hi H Q := by
  refine ⟨a, xs, rfl, ha, fun e => ?_, fun _ p np => ?_⟩
  · refine k a H (fun _ _ z => z) ?_
    have : cutV xs lo hi = xs := by
      unfold cutV
      rw [e.1, e.2]
      exact List.take_length ..
    rw [this]
    exact ha
  · exact k p _ (same_new np) (.inl (.inl upd_same))
/-- a tuple, whatever follows -/
def Tl (K : PySem.W.Frag) (te : TE) (σ : L2.St) (H : Hp) (ys : List V) : Prop := ∀ Q : VK, (∀ (r : Addr) (H' : Hp), Same H H' → SqT K H' r ys → Q (.ref r) H') → te σ H Q
theorem tl_var {σ : L2.St} {i : Nat} (h : σ[i]? = some (some (.ref a))) (ha : SqT K H a xs) : Tl K (tVar i) σ H xs := fun Q k => ⟨_, h, k a H (fun _ _ z => z) ha⟩
theorem tl_disp {σ : L2.St} {ts : TA} (h : Al ts σ H xs) (le : xs.length ≤ 1000) : Tl K (tTup ts) σ H xs := fun Q k => al_tup h le fun r H' s _ e => k r H' s (.inl (.inl e))
theorem tl_cat {ta tb : TE} {σ : L2.St} (hA : Tl K ta σ H xs) (hB : ∀ H', Same H H' → Tl K tb σ H' ys) (le : xs.length + ys.length ≤ 1000) : Tl K (tOp (rCatA K) ta tb) σ H (xs ++ ys) :=
  fun Q k => hA _ fun r H1 s1 h1 => hB H1 s1 _ fun u H2 s2 h2 => catA (BP.Same.tupS s2 h1) h2 (Nat.le_trans le (by decide)) fun p H3 s3 h3 => k p H3 (s1.trans (s2.trans s3)) h3
theorem cut_dl (xs : List V) : cutV xs none (some (-1)) = xs.dropLast := by
  have e1 : HT.sIx xs.length xs.length (some (-1)) = xs.length - 1 := by
    show (if (-1 : Int) < 0 then ((-1 : Int) + (xs.length : Int)).toNat else min (-1 : Int).toNat xs.length) = _
    rw [if_pos (by omega)]
    omega
  unfold cutV
  rw [e1, HT.sIx_none, List.drop_zero, Nat.sub_zero, List.dropLast_eq_take]
/-- all but the last part -/
theorem tl_dl {σ : L2.St} {i : Nat} (h : σ[i]? = some (some (.ref a))) (ha : SqT K H a xs) : Tl K (tSl (rSlA K) (tVar i) tNoPart (tPart (tUn (rU fun i => V.int (-i)) (tC (V.int 1))))) σ H xs.dropLast := fun Q k => by
  refine ⟨.ref a, h, ?_⟩
  dsimp only [tNoPart]
  refine ⟨1, rfl, -1, rfl, ?_⟩
  refine sliceA ha fun r H' s e => k r H' s ?_
  rw [cut_dl] at e
  exact e
end
/-- the first numbers of one map and then another one -/
def thA {q : Nat} [IsF q] (m n : Mat q) : Nat → List V
  | 0 => []
  | 1 => [vn (n.a * m.a + n.b * m.d), vn (n.a * m.b + n.b * m.e), vn (n.a * m.c + n.b * m.f + n.c)]
  | _ => mv (thn m n)
def spWb (K : PySem.W.Frag) : Sp := fun vs H Q _ => ∃ (q : Nat) (_ : IsF q) (F c a : Addr) (z : Sta q) (f : Po q), vs = [.ref F, .ref c, .ref a] ∧ FieldV H F q ∧ StepAt K H c z ∧ SqT K H a (vns f) ∧ Okay z ∧ B7 z.st ∧ z.st.length ≤ 900 ∧ IsB f ∧ f.length ≤ 7 ∧ ∀ (r : Addr) (H' : Hp), Same H H' → StepAt K H' r (put z f) → Q (.ref r) H'
def spAft (K : PySem.W.Frag) : Sp := fun vs H Q _ => ∃ (q : Nat) (_ : IsF q) (F a b : Addr) (m n : Mat q), vs = [.ref F, .ref a, .ref b] ∧ FieldV H F q ∧ SqT K H a (mv m) ∧ SqT K H b (mv n) ∧ ∀ (r : Addr) (H' : Hp), Same H H' → SqT K H' r (mv (thn m n)) → Q (.ref r) H'
def spBak (K : PySem.W.Frag) : Sp := fun vs H Q _ => ∃ (q : Nat) (_ : IsF q) (F a : Addr) (m : Mat q), vs = [.ref F, .ref a] ∧ FieldV H F q ∧ SqT K H a (mv m) ∧ det m ≠ 0 ∧ ∀ (r : Addr) (H' : Hp), Same H H' → SqT K H' r (mv (mund m)) → Q (.ref r) H'
def spSpl (K : PySem.W.Frag) : Sp := fun vs H Q _ => ∃ (q : Nat) (_ : IsF q) (F a : Addr) (m : Mat q), vs = [.ref F, .ref a] ∧ FieldV H F q ∧ SqT K H a (mv m) ∧ ∀ (r t : Addr) (H' : Hp), Same H H' → SqT K H' r [ov (tm m).1, .ref t] → SqT K H' t (mv (tm m).2) → Q (.ref r) H'
end BP
set_option Elab.async false
set_option linter.all false
set_option maxRecDepth 100000
set_option maxHeartbeats 1000000
set_option pp.maxSteps 2000
/-! Rows of least rows; draws; what the law's expressions come to. -/
namespace Fld
variable {q : Nat} [F : IsF q]
theorem co_sh_same : ∀ (f : Po q) (i : Nat), co (sh 1 0 f) i = co f i
  | [], i => rfl
  | a :: f, 0 => by
    rw [co_sh_zero]
    show a + co (sh 1 0 f) 0 * 0 = a
    grind
  | a :: f, i + 1 => by
    rw [co_sh_succ, co_sh_same f i]
    show co (sh 1 0 f) (i + 1) * 0 + co f i * 1 = co f i
    grind
theorem under_one' : El.under (1 : El q) = 1 := by
  have h : (1 : El q) * El.under 1 = 1 := El.mul_inv (fun e => by
    have := det_same (q := q)
    unfold det same at this
    simp only [] at this
    exact this (by grind))
  grind
theorem ahead_same {g : Po q} (h : IsB g) : ahead same g = (g, same) := by
  refine Prod.ext ?_ ?_
  · refine Lo.ext (ahead_lo same g) h.1 fun i => ?_
    rw [co_ahead]
    show co (sh 1 0 g) (i + 2) * El.under 1 = co g (i + 2)
    rw [co_sh_same, under_one']
    grind
  · rw [ahead_snd]
    show (⟨1, 0 + co (sh 1 0 g) 1, 0 + co (sh 1 0 g) 0, 0, 1, 0⟩ : Mat q) = ⟨1, 0, 0, 0, 1, 0⟩
    rw [co_sh_same, co_sh_same, h.1.2.1, h.1.2.2]
    have e : (0 : El q) + 0 = 0 := by grind
    rw [e]
theorem same_tri : Tri (same : Mat q) := by
  refine ⟨rfl, ?_, ?_⟩ <;>
  · intro e
    have := det_same (q := q)
    unfold det same at this
    simp only [] at this
    unfold same at e
    simp only [] at e
    exact this (by grind)
theorem run_rowSt : ∀ {st : List (Option (El q) × Po q)}, Good st → run empty (rowSt st) = ⟨st, same⟩
  | [], _ => rfl
  | (t, g) :: r, ⟨h1, h2, h3⟩ => by
    rw [rowSt_cons, run_app, run_app, run_rowSt h3]
    have e1 : run (⟨r, same⟩ : Sta q) (tp t) = ⟨r, tmap t same⟩ := by
      cases t with
      | none => rfl
      | some t =>
        show (⟨r, thn same (turn t)⟩ : Sta q) = ⟨r, thn (turn t) same⟩
        rw [same_thn, thn_same]
    rw [e1]
    show put (⟨r, tmap t same⟩ : Sta q) g = _
    have e2 : tm (tmap t (same : Mat q)) = (t, same) := tm_tmap same_tri t
    have e3 := put_push (s := (⟨r, tmap t same⟩ : Sta q)) (f := g) (by
      show (tm (tmap t same)).1 ≠ none ∨ r = []
      rw [e2]
      by_cases hr : r = []
      · exact .inr hr
      · exact .inl (h2 hr))
    rw [e3]
    show (⟨((tm (tmap t same)).1, (ahead (tm (tmap t same)).2 g).1) :: r, (ahead (tm (tmap t same)).2 g).2⟩ : Sta q) = _
    rw [e2]
    show (⟨(t, (ahead same g).1) :: r, (ahead same g).2⟩ : Sta q) = _
    rw [ahead_same h1]
theorem run_rowOf {z : Sta q} (h : Okay z) : run empty (rowOf z) = z := by
  unfold rowOf
  rw [run_app, run_rowSt h.1]
  show (⟨z.st, thn same z.last⟩ : Sta q) = z
  rw [same_thn]
theorem draw_ne {x : Nat} (h : x < q - 1) : ∃ a : El q, a ≠ 0 ∧ a.val = 1 + x := ⟨⟨1 + x, by omega⟩, El.ne_zero.mpr (by show 1 + x ≠ 0; omega), rfl⟩
end Fld
namespace BP
open PySem PySem.Spec PyProof.Rows L2 Fld K13
theorem Same.rf {H : Hp} : Same H H := fun _ _ z => z
section
variable {d c : Addr} {σ : L2.St} {K : PySem.W.Frag} {i : Nat} {t : TE} {n : Nat}
def Dl (d c : Addr) (te : TE) (σ : L2.St) (Pv : V → Prop) : Prop := ∀ (H : Hp) (Q : VK), Deck H d c → (∀ v H', Pv v → But d c H H' → Deck H' d c → Q v H') → te σ H Q
theorem dl_num (hi : σ[i]? = some (some (.ref d))) (ht : ∀ (H : Hp) (Q : VK), Q (.int (n : Nat)) H → t σ H Q) (h0 : 0 < n) (h1 : n < 1000000000) : Dl d c (tCall spDraw [] E0 (tCons (tVar i) (tCons t tNil))) σ (fun v => ∃ x : Nat, x < n ∧ v = .int (x : Nat)) :=
  fun H Q hk k => ⟨.ref d, hi, ht H _ ⟨d, c, n, rfl, hk, h0, h1, fun x H' hx b k' => k _ H' ⟨x, hx, rfl⟩ b k'⟩⟩
variable {q : Nat} [FF : IsF q] {j : Nat}
theorem q_lt : q < 1000000000 := by
  have := le16 FF.mem
  omega
theorem q_pos : 1 < q := gt1 FF.mem
theorem dl_el (hi : σ[i]? = some (some (.ref d))) (hj : σ[j]? = some (some (.int q))) : Dl d c (tCall spDraw [] E0 (tCons (tVar i) (tCons (tVar j) tNil))) σ (fun v => ∃ a : El q, v = vn a) := fun H Q hk k =>
  dl_num hi (fun H Q k => ⟨.int q, hj, k⟩) (Nat.lt_trans Nat.zero_lt_one q_pos) q_lt H Q hk fun v H' ⟨x, hx, e⟩ b k' => k v H' (by obtain ⟨a, ha⟩ := draw_vn hx; exact ⟨a, by rw [e, ← ha]⟩) b k'
theorem dl_ne (hi : σ[i]? = some (some (.ref d))) (hj : σ[j]? = some (some (.int q))) : Dl d c (tOp (rI0 fun i j => V.int (i + j)) (tC (V.int 1)) (tCall spDraw [] E0 (tCons (tVar i) (tCons (tOp (rI0 fun i j => V.int (i - j)) (tVar j) (tC (V.int 1))) tNil)))) σ (fun v => ∃ a : El q, a ≠ 0 ∧ v = vn a) := fun H Q hk k =>
  dl_num hi (n := q - 1) (fun H Q k => ⟨.int q, hj, _, _, rfl, rfl, by
    show Q (V.int (((q : Nat) : Int) - 1)) H
    rw [show ((q : Nat) : Int) - 1 = ((q - 1 : Nat) : Int) by have := q_pos (q := q); omega]
    exact k⟩) (by have := q_pos (q := q); omega) (by have := q_lt (q := q); omega) H _ hk fun v H' ⟨x, hx, e⟩ b k' => by
      obtain ⟨a, a0, ha⟩ := draw_ne hx
      subst e
      refine ⟨_, _, rfl, rfl, k _ H' ⟨a, a0, ?_⟩ b k'⟩
      show V.int (1 + (x : Int)) = V.int ((a.val : Nat) : Int)
      rw [ha]
      exact congrArg V.int (by omega)
end
section
variable {q : Nat} [FF : IsF q] {K : PySem.W.Frag} {σ : L2.St} {H : Hp} {X Y : TE} {ta : TA} {y z : Sta q}
def Zs (K : PySem.W.Frag) (te : TE) (σ : L2.St) (H : Hp) (z : Sta q) : Prop := ∀ Q : VK, (∀ r H', Same H H' → StepAt K H' r z → Q (.ref r) H') → te σ H Q
def Zd (K : PySem.W.Frag) (te : TE) (σ : L2.St) (H : Hp) (D : PyData) : Prop := ∀ Q : VK, (∀ r H', Same H H' → Dp K H' (.ref r) D → Q (.ref r) H') → te σ H Q
def Zda (K : PySem.W.Frag) (ta : TA) (σ : L2.St) (H : Hp) (Ds : List PyData) : Prop := ∀ Q : List V → Hp → Prop, (∀ xs H', Same H H' → DpAll K H' xs Ds → Q xs H') → ta σ H Q
theorem StepAt.same {c : Addr} {H' : Hp} (s : Same H H') (h : StepAt K H c z) : StepAt K H' c z := h.kept fun _ _ => BP.Same.tupS s
theorem zs_var {i : Nat} {a : Addr} (hi : σ[i]? = some (some (.ref a))) (h : StepAt K H a z) : Zs K (tVar i) σ H z := fun _ k => ⟨.ref a, hi, k a H Same.rf h⟩
theorem sqL_same {H H' : Hp} {a : Addr} {xs : List V} (s : Same H H') (h : SqL K H a xs) : SqL K H' a xs := Same.lstS s h
mutual
theorem dp_same {H H' : Hp} (s : Same H H') : ∀ (d : PyData) (v : V), Dp K H v d → Dp K H' v d
  | .none, _, h => by cases h; exact .non
  | .bool b, _, h => by cases h; exact .bl b
  | .int i, _, h => by cases h; exact .int i
  | .str x, _, h => by cases h; exact .str x
  | .list ds, _, h => by
    cases h with
    | lst h1 h2 => exact .lst (sqL_same s h1) (dpAll_same s ds _ h2)
  | .tuple ds, _, h => by
    cases h with
    | tup h1 h2 => exact .tup (BP.Same.tupS s h1) (dpAll_same s ds _ h2)
  | .dict _, _, h => by cases h
theorem dpAll_same {H H' : Hp} (s : Same H H') : ∀ (ds : List PyData) (vs : List V), DpAll K H vs ds → DpAll K H' vs ds
  | [], _, h => by cases h; exact .nil
  | d :: ds, _, h => by
    cases h with
    | cons h1 h2 => exact .cons (dp_same s d _ h1) (dpAll_same s ds _ h2)
end
theorem dpAll_len {H : Hp} : ∀ {vs : List V} {ds : List PyData}, DpAll K H vs ds → vs.length = ds.length
  | _, _, .nil => rfl
  | _, _, .cons _ k => congrArg (· + 1) (dpAll_len k)
theorem zda_nil : Zda K tNil σ H [] := fun Q k => k [] H Same.rf .nil
theorem zda_cons {D : PyData} {Ds : List PyData} (h : Zd K X σ H D) (hs : ∀ H', Same H H' → Zda K ta σ H' Ds) : Zda K (tCons X ta) σ H (D :: Ds) :=
  fun Q k => h _ fun r H1 s1 h1 => hs H1 s1 _ fun xs H2 s2 h2 => k (.ref r :: xs) H2 (s1.trans s2) (.cons (dp_same s2 _ _ h1) h2)
theorem zd_tup {Ds : List PyData} (h : Zda K ta σ H Ds) (le : Ds.length ≤ 10) : Zd K (tTup ta) σ H (.tuple Ds) :=
  fun Q k => h _ fun xs H1 s1 h1 => ⟨by rw [dpAll_len h1]; exact Nat.le_trans le (by decide), fun p np => k p _ (s1.trans (same_new np)) (.tup (.inl (.inl upd_same)) (dpAll_same (same_new np) _ _ h1))⟩
def Zi (te : TE) (σ : L2.St) (H : Hp) (v : V) : Prop := ∀ Q : VK, (∀ H', Same H H' → Q v H') → te σ H Q
theorem zi_var {i : Nat} {v : V} (hi : σ[i]? = some (some v)) : Zi (tVar i) σ H v := fun _ k => ⟨v, hi, k H Same.rf⟩
theorem zda_int {i : Int} {Ds : List PyData} (h : Zi X σ H (.int i)) (hs : ∀ H', Same H H' → Zda K ta σ H' Ds) : Zda K (tCons X ta) σ H (.int i :: Ds) :=
  fun Q k => h _ fun H1 s1 => hs H1 s1 _ fun xs H2 s2 h2 => k (.int i :: xs) H2 (s1.trans s2) (.cons (.int i) h2)
theorem zda_bl {b : Bool} {Ds : List PyData} (h : Zi X σ H (.bl b)) (hs : ∀ H', Same H H' → Zda K ta σ H' Ds) : Zda K (tCons X ta) σ H (.bool b :: Ds) :=
  fun Q k => h _ fun H1 s1 => hs H1 s1 _ fun xs H2 s2 h2 => k (.bl b :: xs) H2 (s1.trans s2) (.cons (.bl b) h2)
theorem zs_to {x : Sta q} (h : Zs K X σ H y) (e : y = x) : Zs K X σ H x := e ▸ h
theorem zd_of (h : Zs K X σ H z) : Zd K X σ H (stD z) := fun Q k => h Q fun r H' s hr => k r H' s (dp_step hr)
/-- repr of two that are one in data -/
theorem ask_ne {D : PyData} {w k : Nat} {Q : Bool → Hp → Prop} (hA : Zd K X σ H D) (hB : ∀ H', Same H H' → Zd K Y σ H' D) (sm : Sm D w k) (hk : k ≤ 40) (hw : w ≤ 2 ^ 20) (kk : ∀ H', Same H H' → Q false H') :
    tTest (tOp rNe (tCB (rRepr K) (tCons X tNil)) (tCB (rRepr K) (tCons Y tNil))) σ H Q := by
  refine hA _ fun a H1 s1 h1 => ?_
  dsimp only [tNil]
  refine rRepr_of h1 sm hk hw ?_
  refine hB H1 s1 _ fun b H2 s2 h2 => ?_
  dsimp only [tNil]
  refine rRepr_of h2 sm hk hw ⟨rfl, false, ?_, kk H2 (s1.trans s2)⟩
  rw [decide_eq_true rfl]
  rfl
theorem ask_eq {D : PyData} {w k : Nat} {Q : VK} (hA : Zd K X σ H D) (hB : ∀ H', Same H H' → Zd K Y σ H' D) (sm : Sm D w k) (hk : k ≤ 40) (hw : w ≤ 2 ^ 20) (kk : ∀ H', Same H H' → Q (.bl true) H') :
    tOp rEq (tCB (rRepr K) (tCons X tNil)) (tCB (rRepr K) (tCons Y tNil)) σ H Q := by
  refine hA _ fun a H1 s1 h1 => ?_
  dsimp only [tNil]
  refine rRepr_of h1 sm hk hw ?_
  refine hB H1 s1 _ fun b H2 s2 h2 => ?_
  dsimp only [tNil]
  refine rRepr_of h2 sm hk hw ⟨rfl, ?_⟩
  show Q (V.bl (decide (V.str D.shown = V.str D.shown))) H2
  rw [decide_eq_true rfl]
  exact kk H2 (s1.trans s2)
end
end BP
set_option Elab.async false
set_option linter.all false
set_option maxRecDepth 100000
set_option maxHeartbeats 1000000
set_option pp.maxSteps 2000
/-! What is left of a step behind its places. -/
namespace BP
open PySem PySem.Spec PyProof.Rows L2 Fld
section
variable {q : Nat} [FF : IsF q]
theorem run_one (s : Sta q) (p : Pc q) : run s [p] = act s p := rfl
theorem row_ok {z : Sta q} (h : Fit z) : ∀ p ∈ rowOf z, PcOk7 p := rowOf_ok7 h.1 h.2.1
/-- a step, seen from a step that its row begins with -/
theorem rest_run {y z : Sta q} (fy : Fit y) {ps : List (Pc q)} (hp : ∀ p ∈ ps, PcOk7 p) (e : z = run y ps) : run (run empty (ur (rowOf y))) (rowOf z) = run empty ps := by
  have hy := row_ok fy
  have e1 : z = run empty (rowOf y ++ ps) := by
    rw [run_app, run_rowOf fy.1]
    exact e
  have o1 : Okay (run empty (ur (rowOf y))) := run_ok empty_ok (ok_of7 (ur_ok hy))
  rw [e1, run_run o1 (ok_of7 fun p hp' => (List.mem_append.mp hp').elim (hy p) (hp p)), run_app, show run (run empty (ur (rowOf y))) (rowOf y) = empty from (by rw [← run_app]; exact run_und' empty_ok hy)]
theorem zPl_str (z : Sta q) : zPl false z = (false, oS z.st, uS z.st, fS z.st) := rfl
theorem plZ_str {z : Sta q} (h : Good z.st) : plZ (zPl false z) = ⟨z.st, same⟩ := by
  rw [zPl_str]
  show (⟨mkS (oS z.st) (uS z.st) (fS z.st), tO none⟩ : Sta q) = _
  rw [mk_back h]
  rfl
theorem put_turn {r : Stq q} {o : Option (El q)} {g : Po q} (hg : IsB g) (h : o ≠ none ∨ r = []) : put (⟨r, tO o⟩ : Sta q) g = ⟨(o, g) :: r, same⟩ := by
  have e := tm_tO (q := q) o
  rw [put_push (by rw [e]; exact h)]
  show (⟨((tm (tO o)).1, (ahead (tm (tO o)).2 g).1) :: r, (ahead (tm (tO o)).2 g).2⟩ : Sta q) = _
  rw [e, ahead_same hg]
theorem rest_str {z : Sta q} (fz : Fit z) : run (run empty (ur (rowOf (plZ (zPl false z))))) (rowOf z) = ⟨[], z.last⟩ := by
  have e := plZ_str fz.1.1
  rw [rest_run (plZ_fit (zPl_ok fz false)) (ps := [.mat z.last]) (fun p hp => by rw [List.mem_singleton.mp hp]; exact fz.1.2) (by
    rw [e]
    show z = (⟨z.st, thn same z.last⟩ : Sta q)
    rw [same_thn])]
  show (⟨[], thn same z.last⟩ : Sta q) = _
  rw [same_thn]
theorem rest_bent {z : Sta q} (fz : Fit z) : ∃ m : Mat q, m.d = 0 ∧ (run (run empty (ur (rowOf (plZ (zPl true z))))) (rowOf z) = ⟨[], m⟩ ∨ ∃ g, run (run empty (ur (rowOf (plZ (zPl true z))))) (rowOf z) = ⟨[(none, g)], m⟩) := by
  have fy := plZ_fit (zPl_ok fz true)
  have hd := fz.1.2
  have hg := fz.1.1
  cases e1 : (tm z.last).1 with
  | none =>
    have d0 : z.last.d = 0 := by
      unfold tm at e1
      by_cases h : z.last.d = 0
      · exact h
      · rw [if_neg h] at e1
        cases e1
    rw [zPl_none e1] at fy ⊢
    refine ⟨z.last, d0, ?_⟩
    cases ez : z.st with
    | nil =>
      left
      rw [rest_run (by rw [ez] at fy; exact fy) (ps := [.mat z.last]) (fun p hp => by rw [List.mem_singleton.mp hp]; exact hd) (by
        show z = (⟨mkS (oS []) (uS []) ([] : List (Po q)), thn same z.last⟩ : Sta q)
        rw [mkS_nil, same_thn, ← ez])]
      show (⟨[], thn same z.last⟩ : Sta q) = _
      rw [same_thn]
    | cons x r =>
      obtain ⟨o, g⟩ := x
      right
      rw [ez] at hg fy
      have ey : plZ (true, oS ((o, g) :: r), uS ((o, g) :: r), (fS ((o, g) :: r)).dropLast) = ⟨r, tO o⟩ := by
        rw [fS_cons, List.dropLast_concat]
        by_cases r0 : r = []
        · subst r0
          show (⟨mkS o [] ([] : List (Po q)), tO o⟩ : Sta q) = _
          rw [mkS_nil]
        · obtain ⟨t, et⟩ : ∃ t, o = some t := by
            cases o with
            | none => exact absurd rfl (hg.2.1 r0)
            | some t => exact ⟨t, rfl⟩
          subst et
          rw [oS_cons _ _ r0, uS_cons _ _ r0]
          have rp := List.length_pos_iff.mpr r0
          unfold plZ plT
          simp only [if_pos]
          rw [mk_cut (by rw [List.length_append, uS_len, fS_len]; simp; omega), List.dropLast_concat, mk_back hg.2.2]
          simp
      refine ⟨g, ?_⟩
      have hp : ∀ p ∈ [Pc.bd g, Pc.mat z.last], PcOk7 p := fun p hp => by
        rcases List.mem_cons.mp hp with h | h
        · subst h
          exact ⟨hg.1, fz.2.1 (o, g) (by rw [ez]; exact List.mem_cons_self ..)⟩
        · rw [List.mem_singleton.mp h]
          exact hd
      have he : z = run (plZ (true, oS ((o, g) :: r), uS ((o, g) :: r), (fS ((o, g) :: r)).dropLast)) [.bd g, .mat z.last] := by
        rw [ey]
        show z = act (put (⟨r, tO o⟩ : Sta q) g) (.mat z.last)
        rw [put_turn hg.1 (by
          by_cases r0 : r = []
          · exact .inr r0
          · exact .inl (hg.2.1 r0))]
        show z = (⟨(o, g) :: r, thn same z.last⟩ : Sta q)
        rw [same_thn, ← ez]
      rw [rest_run fy hp he]
      show act (put (⟨[], tO none⟩ : Sta q) g) (.mat z.last) = _
      rw [put_turn hg.1 (.inr rfl)]
      show (⟨[(none, g)], thn same z.last⟩ : Sta q) = _
      rw [same_thn]
  | some t =>
    have tri := tm_tri hd
    have back := tm_back z.last
    rw [e1] at back
    refine ⟨(tm z.last).2, tri.1, .inl ?_⟩
    have ey : plZ (zPl true z) = ⟨z.st, turn t⟩ := by
      by_cases st0 : z.st = []
      · rw [zPl_nil e1 st0, st0]
        show (⟨mkS (some t) [] ([] : List (Po q)), turn t⟩ : Sta q) = _
        rw [mkS_nil]
      · rw [zPl_some e1 st0]
        have sp := List.length_pos_iff.mpr st0
        unfold plZ plT
        simp only [if_pos]
        rw [mk_cut (by rw [List.length_append, uS_len, fS_len]; simp; omega), List.dropLast_concat, mk_back hg]
        simp [tO]
    rw [rest_run fy (ps := [.mat (tm z.last).2]) (fun p hp => by rw [List.mem_singleton.mp hp]; exact tri.det) (by
      rw [ey]
      show z = (⟨z.st, thn (turn t) (tm z.last).2⟩ : Sta q)
      have : thn (turn t) (tm z.last).2 = z.last := back
      rw [this])]
    show (⟨[], thn same (tm z.last).2⟩ : Sta q) = _
    rw [same_thn]
/-- the pieces of a place make its step -/
theorem run_pcP {x : Pl q} (h : PO x) : run empty (pcP x) = plZ x := by
  have fz := plZ_fit h
  unfold pcP
  rw [run_app, run_rowSt fz.1.1]
  show run (⟨(plZ x).st, same⟩ : Sta q) (tp (plT x)) = plZ x
  have e : (plZ x).last = tO (plT x) := rfl
  cases ht : plT x with
  | none =>
    rw [ht] at e
    show (⟨(plZ x).st, same⟩ : Sta q) = plZ x
    rw [show (same : Mat q) = (plZ x).last from e.symm]
  | some t =>
    rw [ht] at e
    show (⟨(plZ x).st, thn same (turn t)⟩ : Sta q) = plZ x
    rw [same_thn, show turn t = (plZ x).last from e.symm]
theorem pcP_ok {x : Pl q} (h : PO x) : ∀ p ∈ pcP x, PcOk7 p := by
  have fz := plZ_fit h
  intro p hp
  rcases List.mem_append.mp hp with hp | hp
  · exact row_ok fz p (List.mem_append_left _ hp)
  · cases ht : plT x with
    | none =>
      rw [ht] at hp
      cases hp
    | some t =>
      rw [ht] at hp
      rw [List.mem_singleton.mp hp]
      exact det_turn t
/-- what lies behind a place, of the place's own sort -/
theorem back_str {x : Pl q} (h : PO x) (b : x.1 = false) (m : Mat q) : zPl false ⟨(plZ x).st, m⟩ = x := by
  obtain ⟨b', o, us, fs⟩ := x
  have b : b' = false := b
  subst b
  have k1 : us.length = fs.length - 1 := (h.str rfl).1
  have k2 : fs = [] → o = none := (h.str rfl).2
  show (false, oS (mkS o us fs), uS (mkS o us fs), fS (mkS o us fs)) = (false, o, us, fs)
  by_cases f0 : fs = []
  · subst f0
    have u0 : us = [] := List.length_eq_zero_iff.mp k1
    rw [mkS_nil, k2 rfl, u0]
    rfl
  · have fp := List.length_pos_iff.mpr f0
    rw [mk_o f0, mk_u (by omega), mk_f (by omega)]
theorem bent_parts {x : Pl q} (h : PO x) (b : x.1 = true) : ((plZ x).st = [] ∧ x = (true, plT x, [], [])) ∨ ((plZ x).st ≠ [] ∧ ∃ t, plT x = some t ∧ x = (true, oS (plZ x).st, uS (plZ x).st ++ [t], fS (plZ x).st)) := by
  obtain ⟨b', o, us, fs⟩ := x
  have b : b' = true := b
  subst b
  have k1 : us.length = fs.length := h.bent rfl
  show (mkS o us fs = [] ∧ _) ∨ (mkS o us fs ≠ [] ∧ _)
  by_cases f0 : fs = []
  · subst f0
    have u0 : us = [] := List.length_eq_zero_iff.mp k1
    subst u0
    exact .inl ⟨mkS_nil _ _, rfl⟩
  · have fp := List.length_pos_iff.mpr f0
    rcases List.eq_nil_or_concat us with e | ⟨us', y, e⟩
    · rw [e] at k1
      simp at k1
      omega
    rw [List.concat_eq_append] at e
    subst e
    rw [List.length_append, List.length_singleton] at k1
    refine .inr ⟨fun z => ?_, y, ?_, ?_⟩
    · have := mk_len (o := o) (us := us' ++ [y]) (fs := fs) (by rw [List.length_append]; simp; omega)
      rw [z] at this
      simp at this
      omega
    · show (match (us' ++ [y]).getLast? with
        | some t => some t
        | none => o) = some y
      simp
    · show (true, o, us' ++ [y], fs) = (true, oS (mkS o (us' ++ [y]) fs), uS (mkS o (us' ++ [y]) fs) ++ [y], fS (mkS o (us' ++ [y]) fs))
      rw [mk_cut (by rw [List.length_append, List.length_singleton]; exact k1), List.dropLast_concat, mk_o f0, mk_u (by omega), mk_f (by omega)]
/-- .. behind a map with d = 0 -/
theorem back_map {x : Pl q} (h : PO x) (b : x.1 = true) {m : Mat q} (hm : Tri m) : zPl true ⟨(plZ x).st, thn (tO (plT x)) m⟩ = x := by
  have et : thn (tO (plT x)) m = tmap (plT x) m := by
    cases plT x with
    | none => exact same_thn m
    | some t => rfl
  have e2 := tm_tmap hm (plT x)
  rw [et]
  rcases bent_parts h b with ⟨e0, e1⟩ | ⟨e0, t, ht, e1⟩
  · rcases Option.eq_none_or_eq_some (plT x) with hp | ⟨t, hp⟩
    · rw [zPl_none (z := ⟨(plZ x).st, tmap (plT x) m⟩) (by show (tm (tmap (plT x) m)).1 = none; rw [e2]; exact hp)]
      show (true, oS (plZ x).st, uS (plZ x).st, (fS (plZ x).st).dropLast) = x
      rw [e0]
      rw [hp] at e1
      exact e1.symm
    · rw [zPl_nil (z := ⟨(plZ x).st, tmap (plT x) m⟩) (t := t) (by show (tm (tmap (plT x) m)).1 = some t; rw [e2]; exact hp) e0]
      rw [hp] at e1
      exact e1.symm
  · rw [zPl_some (z := ⟨(plZ x).st, tmap (plT x) m⟩) (t := t) (by show (tm (tmap (plT x) m)).1 = some t; rw [e2]; exact ht) e0]
    exact e1.symm
/-- .. behind a bend and such a map -/
theorem back_bend {x : Pl q} (h : PO x) (b : x.1 = true) {m : Mat q} (hm : m.d = 0) (g : Po q) : zPl true ⟨(plT x, g) :: (plZ x).st, m⟩ = x := by
  have e2 : (tm m).1 = none := by
    unfold tm
    rw [if_pos hm]
  rw [zPl_none e2]
  rcases bent_parts h b with ⟨e0, e1⟩ | ⟨e0, t, ht, e1⟩
  · show (true, oS ((plT x, g) :: (plZ x).st), uS ((plT x, g) :: (plZ x).st), (fS ((plT x, g) :: (plZ x).st)).dropLast) = x
    rw [e0]
    exact e1.symm
  · show (true, oS ((plT x, g) :: (plZ x).st), uS ((plT x, g) :: (plZ x).st), (fS ((plT x, g) :: (plZ x).st)).dropLast) = x
    rw [ht, oS_cons _ _ e0, uS_cons _ _ e0, fS_cons, List.dropLast_concat]
    exact e1.symm
end
end BP
set_option Elab.async false
set_option linter.all false
set_option maxRecDepth 100000
set_option maxHeartbeats 1000000
set_option pp.maxSteps 2000
/-! Steps move places. -/
namespace BP
open PySem PySem.Spec PyProof.Rows L2 Fld
section
variable {q : Nat} [FF : IsF q]
def Ok7 (z : Sta q) : Prop := Okay z ∧ B7 z.st
theorem Ok7.row {z : Sta q} (h : Ok7 z) : ∀ p ∈ rowOf z, PcOk7 p := rowOf_ok7 h.1 h.2
theorem Fit.ok7 {z : Sta q} (h : Fit z) : Ok7 z := ⟨h.1, h.2.1⟩
def mulz (y z : Sta q) : Sta q := run y (rowOf z)
def invz (z : Sta q) : Sta q := run empty (ur (rowOf z))
theorem ok7_mul {y z : Sta q} (h : Ok7 y) (g : Ok7 z) : Ok7 (mulz y z) := by
  obtain ⟨a, b, _⟩ := run_b7 (rowOf z) h.1 h.2 g.row
  exact ⟨a, b⟩
theorem ok7_empty : Ok7 (empty : Sta q) := ⟨empty_ok, fun x h => nomatch h⟩
theorem ok7_inv {z : Sta q} (h : Ok7 z) : Ok7 (invz z) := by
  obtain ⟨a, b, _⟩ := run_b7 (ur (rowOf z)) (s := empty) empty_ok (fun x h => nomatch h) (ur_ok h.row)
  exact ⟨a, b⟩
theorem mul_as {x y z : Sta q} (hx : Ok7 x) (hy : Ok7 y) (hz : Ok7 z) : mulz (mulz x y) z = mulz x (mulz y z) := by
  have e : mulz y z = run empty (rowOf y ++ rowOf z) := by
    rw [run_app, run_rowOf hy.1]
    rfl
  show run (run x (rowOf y)) (rowOf z) = run x (rowOf (mulz y z))
  rw [e, run_run hx.1 (ok_of7 fun p hp => (List.mem_append.mp hp).elim (hy.row p) (hz.row p)), run_app]
theorem inv_mul {z : Sta q} (hz : Ok7 z) : mulz (invz z) z = empty := by
  show run (run empty (ur (rowOf z))) (rowOf z) = empty
  rw [← run_app]
  exact run_und' empty_ok hz.row
theorem mul_inv {z : Sta q} (hz : Ok7 z) : mulz z (invz z) = empty := by
  show run z (rowOf (run empty (ur (rowOf z)))) = empty
  rw [run_run hz.1 (ok_of7 (ur_ok hz.row))]
  have h := run_und (ps := rowOf z) empty_ok hz.row
  rw [run_app, run_rowOf hz.1] at h
  exact h
theorem empty_mul {z : Sta q} (hz : Ok7 z) : mulz empty z = z := run_rowOf hz.1
theorem mul_empty (z : Sta q) : mulz z empty = z := by
  show (⟨z.st, thn z.last same⟩ : Sta q) = z
  rw [thn_same]
theorem mul_back {y z : Sta q} (hy : Ok7 y) (hz : Ok7 z) : mulz y (mulz (invz y) z) = z := by
  rw [← mul_as hy (ok7_inv hy) hz, mul_inv hy, empty_mul hz]
theorem back_mul {y z : Sta q} (hy : Ok7 y) (hz : Ok7 z) : mulz (invz y) (mulz y z) = z := by
  rw [← mul_as (ok7_inv hy) hy hz, inv_mul hy, empty_mul hz]
/-- a step that keeps the first place of a sort -/
def Kp (b : Bool) (k : Sta q) : Prop := (b = false ∧ k.st = []) ∨ (b = true ∧ k.last.d = 0 ∧ (k.st = [] ∨ ∃ g, k.st = [(none, g)]))
theorem tm_d0 {m : Mat q} (h : m.d = 0) : (tm m).1 = none := by
  unfold tm
  rw [if_pos h]
theorem tri_of {m : Mat q} (h : m.d = 0) (hd : det m ≠ 0) : Tri m := by
  have := tm_tri hd
  unfold tm at this
  rw [if_pos h] at this
  exact this
theorem tm_thn {l b : Mat q} (hl : det l ≠ 0) (hb : Tri b) : tm (thn l b) = ((tm l).1, thn (tm l).2 b) := by
  have h := tm_tmap ((tm_tri hl).thn hb) (tm l).1
  rw [← tmap_thn, tm_back] at h
  exact h
theorem zPl_cong {y z : Sta q} (h : y.st = z.st) (e : (tm y.last).1 = (tm z.last).1) (b : Bool) : zPl b y = zPl b z := by
  obtain ⟨s, l⟩ := y
  obtain ⟨t, m⟩ := z
  obtain rfl : s = t := h
  cases b with
  | false => rfl
  | true =>
    unfold zPl
    simp only [if_true]
    rw [show (tm l).1 = (tm m).1 from e]
theorem zPl_put {y : Sta q} (hy : Okay y) {g : Po q} (hg : IsB g) : zPl true (put y g) = zPl true y := by
  obtain ⟨g0, d0⟩ := hy
  have at' := ahead_tri (tm_tri d0) g
  by_cases h : (tm y.last).1 ≠ none ∨ y.st = []
  · rw [put_push h]
    have e0 : (tm (ahead (tm y.last).2 g).2).1 = none := tm_d0 at'.1
    rw [zPl_none (by exact e0)]
    show (true, oS (((tm y.last).1, _) :: y.st), uS (((tm y.last).1, _) :: y.st), (fS (((tm y.last).1, _) :: y.st)).dropLast) = _
    rw [fS_cons, List.dropLast_concat]
    by_cases st0 : y.st = []
    · rw [st0, oS_one, uS_one]
      cases e : (tm y.last).1 with
      | none =>
        rw [zPl_none e, st0]
        rfl
      | some t =>
        rw [zPl_nil e st0]
        rfl
    · rw [oS_cons _ _ st0, uS_cons _ _ st0]
      obtain ⟨t, e⟩ : ∃ t, (tm y.last).1 = some t := by
        rcases h with h | h
        · exact Option.ne_none_iff_exists'.mp h
        · exact absurd h st0
      rw [zPl_some e st0, e]
      rfl
  · have h1 : (tm y.last).1 = none := Classical.byContradiction fun z => h (.inl z)
    cases e : y.st with
    | nil => exact absurd (.inr e) h
    | cons p r =>
      obtain ⟨t, f⟩ := p
      rw [put_add h1 e, zPl_none h1, e, fS_cons, List.dropLast_concat]
      rw [e] at g0
      obtain ⟨b0, n0, r0⟩ := g0
      by_cases z : pl f (ahead (tm y.last).2 g).1 = []
      · rw [if_pos z]
        have e1 := tm_tmap at' t
        cases t with
        | none =>
          have r1 : r = [] := Classical.byContradiction fun x => n0 x rfl
          subst r1
          rw [zPl_none (z := ⟨[], tmap none (ahead (tm y.last).2 g).2⟩) (congrArg Prod.fst e1)]
          rfl
        | some t =>
          by_cases r1 : r = []
          · subst r1
            rw [zPl_nil (z := ⟨[], tmap (some t) (ahead (tm y.last).2 g).2⟩) (t := t) (congrArg Prod.fst e1) rfl]
            rfl
          · rw [zPl_some (z := ⟨r, tmap (some t) (ahead (tm y.last).2 g).2⟩) (t := t) (congrArg Prod.fst e1) r1, oS_cons _ _ r1, uS_cons _ _ r1]
            rfl
      · rw [if_neg z]
        have e0 : (tm (ahead (tm y.last).2 g).2).1 = none := tm_d0 at'.1
        rw [zPl_none (by exact e0)]
        show (true, oS ((t, _) :: r), uS ((t, _) :: r), (fS ((t, _) :: r)).dropLast) = _
        rw [fS_cons, List.dropLast_concat]
        by_cases r1 : r = []
        · subst r1
          rfl
        · rw [oS_cons _ _ r1, uS_cons _ _ r1, oS_cons _ _ r1, uS_cons _ _ r1]
/-- a keeper behind a step: the same place -/
theorem zPl_kp {b : Bool} {y k : Sta q} (hy : Okay y) (hk : Okay k) (h : Kp b k) : zPl b (mulz y k) = zPl b y := by
  obtain ⟨st, l⟩ := k
  rcases h with ⟨rfl, h⟩ | ⟨rfl, hd, h | ⟨g, h⟩⟩
  · obtain rfl : st = [] := h
    rfl
  · obtain rfl : st = [] := h
    have tr := tri_of hd hk.2
    exact zPl_cong (y := ⟨y.st, thn y.last l⟩) (z := y) rfl (by show (tm (thn y.last l)).1 = _; rw [tm_thn hy.2 tr]) true
  · obtain rfl : st = [(none, g)] := h
    have tr := tri_of hd hk.2
    have hg : IsB g := hk.1.1
    have hp := put_ok hy hg
    show zPl true (act (put y g) (.mat l)) = _
    rw [zPl_cong (y := act (put y g) (.mat l)) (z := put y g) rfl (by show (tm (thn (put y g).last l)).1 = _; rw [tm_thn hp.2 tr]) true, zPl_put hy hg]
/-- what is left of a step behind its place keeps the first place -/
theorem kp_rest {z : Sta q} (fz : Fit z) (b : Bool) : Kp b (mulz (invz (plZ (zPl b z))) z) := by
  cases b with
  | false =>
    refine .inl ⟨rfl, ?_⟩
    show (run (run empty (ur (rowOf (plZ (zPl false z))))) (rowOf z)).st = []
    rw [rest_str fz]
  | true =>
    obtain ⟨m, hm, h | ⟨g, h⟩⟩ := rest_bent fz
    · have h : mulz (invz (plZ (zPl true z))) z = ⟨[], m⟩ := h
      rw [h]
      exact .inr ⟨rfl, hm, .inl rfl⟩
    · have h : mulz (invz (plZ (zPl true z))) z = ⟨[(none, g)], m⟩ := h
      rw [h]
      exact .inr ⟨rfl, hm, .inr ⟨g, rfl⟩⟩
theorem zPl_1 (b : Bool) (z : Sta q) : (zPl b z).1 = b := by
  cases b with
  | false => rfl
  | true =>
    unfold zPl
    simp only [if_true]
    split <;> rfl
theorem near_back {x : Pl q} (h : PO x) : zPl x.1 (plZ x) = x := by
  cases b : x.1 with
  | false => exact back_str h b (plZ x).last
  | true =>
    have := back_map h b tri_same
    rw [thn_same] at this
    exact this
/-- where a step moves a place -/
def mv2 (g : Sta q) (x : Pl q) : Pl q := zPl x.1 (mulz g (plZ x))
theorem po7 {x : Pl q} (h : PO x) : Ok7 (plZ x) := (plZ_fit h).ok7
/-- a step that lies in a place, moved -/
theorem mv_lies {g z : Sta q} (hg : Ok7 g) (fz : Fit z) (b : Bool) : zPl b (mulz g z) = mv2 g (zPl b z) := by
  have ox := zPl_ok fz b
  have hx := po7 ox
  have k := kp_rest fz b
  have hk : Ok7 (mulz (invz (plZ (zPl b z))) z) := ok7_mul (ok7_inv hx) fz.ok7
  have e := mul_back hx fz.ok7
  have h2 : mulz g z = mulz (mulz g (plZ (zPl b z))) (mulz (invz (plZ (zPl b z))) z) := by
    rw [mul_as hg hx hk, e]
  rw [h2, zPl_kp (ok7_mul hg hx).1 hk.1 k]
  unfold mv2
  rw [zPl_1]
theorem mv_mul {g h : Sta q} {x : Pl q} (hg : Ok7 g) (hh : Ok7 h) (ox : PO x) (f : Fit (mulz h (plZ x))) : mv2 (mulz g h) x = mv2 g (mv2 h x) := by
  have e := mv_lies hg f x.1
  unfold mv2 at e ⊢
  rw [mul_as hg hh (po7 ox)]
  exact e
theorem mv_empty {x : Pl q} (ox : PO x) : mv2 empty x = x := by
  unfold mv2
  rw [empty_mul (po7 ox)]
  exact near_back ox
theorem mv_und {g : Sta q} {x : Pl q} (hg : Ok7 g) (ox : PO x) (f : Fit (mulz g (plZ x))) : mv2 (invz g) (mv2 g x) = x := by
  rw [← mv_mul (ok7_inv hg) hg ox f, inv_mul hg, mv_empty ox]
theorem kp_iff {g : Sta q} {x : Pl q} (hg : Ok7 g) (ox : PO x) (f : Fit (mulz g (plZ x))) : Kp x.1 (mulz (invz (plZ x)) (mulz g (plZ x))) ↔ mv2 g x = x := by
  constructor
  · intro k
    have hk : Ok7 (mulz (invz (plZ x)) (mulz g (plZ x))) := ok7_mul (ok7_inv (po7 ox)) f.ok7
    have e := mul_back (po7 ox) f.ok7
    unfold mv2
    rw [← e, zPl_kp (po7 ox).1 hk.1 k]
    exact near_back ox
  · intro e
    have k := kp_rest f x.1
    have e : zPl x.1 (mulz g (plZ x)) = x := e
    rw [e] at k
    exact k
end
end BP
set_option Elab.async false
set_option linter.all false
set_option maxRecDepth 100000
set_option maxHeartbeats 4000000
set_option pp.maxSteps 3000
namespace K13
open PySem PySem.Spec PyProof.Rows L2 BP Fld
section
variable {P : Program} {w : World} {K : PySem.W.Frag} {mg : Str → Option Value} {base : Heap}
end
end K13
set_option Elab.async false
set_option linter.all false
set_option maxRecDepth 100000
set_option maxHeartbeats 4000000
set_option pp.maxSteps 3000
namespace K13
open PySem PySem.Spec PyProof.Rows L2 BP Fld
section
variable {P : Program} {w : World} {K : PySem.W.Frag} {mg : Str → Option Value} {base : Heap}
theorem rep_vns {q : Nat} [IsF q] (n : Nat) : (List.replicate (((n : Nat) : Int) + 1).toNat [V.int 0]).flatten = vns (List.replicate (n + 1) (0 : El q)) := by
  rw [show (((n : Nat) : Int) + 1).toNat = n + 1 by omega]
  generalize n + 1 = m
  induction m with
  | zero => rfl
  | succ m ih =>
    rw [List.replicate_succ, List.flatten_cons, ih]
    rfl
theorem co_zeros {q : Nat} [IsF q] (n i : Nat) : co (List.replicate n (0 : El q)) i = 0 := by
  unfold co
  rw [List.getD_eq_getElem?_getD, List.getElem?_replicate]
  split <;> rfl
end
end K13
set_option Elab.async false
set_option linter.all false
set_option maxRecDepth 100000
set_option maxHeartbeats 4000000
set_option pp.maxSteps 1000
namespace BP
open PySem PySem.Spec PyProof.Rows L2 Fld
/-- a row of numbers, list or tuple, without zeros at the end, as a tuple -/
def spLTr (K : PySem.W.Frag) : Sp := fun vs H Q _ => ∃ (q : Nat) (_ : IsF q) (a : Addr) (l : Po q), vs = [.ref a] ∧ (SqL K H a (vns l) ∨ SqT K H a (vns l)) ∧ l.length ≤ 200 ∧ ∀ (p : Addr) (H' : Hp), Same H H' → SqT K H' p (vns (trim l)) → Q (.ref p) H'
end BP
namespace K13
open PySem PySem.Spec PyProof.Rows L2 BP Fld
section
variable {P : Program} {w : World} {K : PySem.W.Frag} {mg : Str → Option Value} {base : Heap}
end
end K13
set_option Elab.async false
set_option linter.all false
set_option maxRecDepth 100000
set_option maxHeartbeats 4000000
set_option pp.maxSteps 3000
namespace BP
open PySem PySem.Spec PyProof.Rows L2 Fld
theorem cut_two (x y : V) (xs : List V) : cutV (x :: y :: xs) (some 2) none = xs := by
  have i1 : HT.sIx (x :: y :: xs).length 0 (some 2) = 2 := by
    have e := HT.sIx_nat (x :: y :: xs).length 0 2
    rw [show ((2 : Nat) : Int) = 2 from rfl] at e
    have : (x :: y :: xs).length = xs.length + 2 := rfl
    omega
  unfold cutV
  rw [i1, HT.sIx_none]
  exact List.take_of_length_le (by simp)
section
variable {q : Nat} [FF : IsF q] {K : PySem.W.Frag} {σ : L2.St} {H : Hp}
/-- pairs of two tuples, of one length, put together -/
theorem lc_zipT {a b : Addr} {n i1 i2 : Nat} {g h : Po q} {te : TE} {vs : List Nat} {H1 : Hp} {D : Addr} {Qd : Hp → Prop} (φ : Nat → El q) (nD : H1 D = none) (le : n ≤ 1000) (lg : g.length = n) (lh : h.length = n) (ha : SqT K H1 a (vns g)) (hb : SqT K H1 b (vns h))
    (hw : ∀ x y : V, wipe (((wipe σ vs).set i1 (some x)).set i2 (some y)) vs = wipe σ vs) (hs : ∀ (i : Nat) (H' : Hp), i < n → Same H1 H' → Yl te (((wipe σ vs).set i1 (some (vn (co g i)))).set i2 (some (vn (co h i)))) H' (vn (φ i))) (k : ∀ H', Same H1 H' → H' D = some (.lst (vns (upto n φ))) → Qd H') :
    ∃ W : Nat → Nat → Hp → Prop, (∃ m, W 0 m (upd H1 D (.lst []))) ∧ ∀ i m H, W i m H →
      ((RZ.ItzT K a b).stop i H ∧ Qd H) ∨ ((RZ.ItzT K a b).go i H ∧ ∃ Nx : Hp → Prop, (∀ H', Nx H' → ∃ m', m' < m ∧ W (i + 1) m' H') ∧ ∀ x H', (RZ.ItzT K a b).yld i H x H' → gTup K 2 (gCons (gName i1) (gCons (gName i2) gNil)) x (wipe σ vs) H' fun σ2 H2 => wipe σ2 vs = wipe σ vs ∧ tYes σ2 H2 fun b H3 =>
        if b = true then te σ2 H3 fun y H4 => ∃ acc, H4 D = some (.lst acc) ∧ acc.length < sizeLine ∧ Nx (upd H4 D (.lst (acc ++ [y]))) else Nx H3) := by
  have lv : (vns h).length = n := by
    unfold vns
    rw [List.length_map, lh]
  have w := walk_zipTm (K := K) (a := a) (b := b) (xs := vns g) (ys := vns h) (by unfold vns; rw [List.length_map, List.length_map]; omega)
  rw [lv] at w
  refine lc_it w (fun i H' => Same H1 H' ∧ H' D = some (.lst (vns ((upto n φ).take i)))) ⟨same_new nD, upd_same⟩ (fun i H' _ s => ⟨BP.Same.tupS s.1 ha, BP.Same.tupS s.1 hb⟩) (fun i x H H' hi hW y => ?_) (fun H' hW => ?_)
  · obtain ⟨s1, hD⟩ := hW
    obtain ⟨T, v1, v2, rfl, nT, rfl, ev1, ev2⟩ := y
    obtain ⟨_, rfl⟩ := of_vns ev1
    obtain ⟨_, rfl⟩ := of_vns ev2
    have sT := same_new (o := .tup [vn (co g i), vn (co h i)]) nT
    refine ⟨T, _, rfl, .inl (.inl upd_same), rfl, _, [_], rfl, _, [], rfl, rfl, hw _ _, yes_kept (hs i _ hi (s1.trans sT) _ ⟨_, sT _ _ hD, ?_, same_upd (s1.trans sT) nD, ?_⟩)⟩
    · rw [List.length_map]
      refine Nat.lt_of_le_of_lt (List.length_take_le ..) (Nat.lt_of_lt_of_le (show i < 1000 by omega) (by decide))
    · rw [upd_same, upto_take n φ hi]
      unfold vns
      rw [List.map_append]
      rfl
  · obtain ⟨s1, hD⟩ := hW
    rw [List.take_of_length_le (by rw [upto_len]; exact Nat.le_refl _)] at hD
    exact k H' s1 hD
theorem trim_sum (f g : Po q) {n : Nat} (hf : f.length ≤ n) (hg : g.length ≤ n) : trim (upto n fun i => co f i + co g i) = pl f g := by
  refine canon_ext (trim_trim _) (pl_canon f g) fun i => ?_
  rw [co_trim, co_upto, co_pl]
  by_cases h : i < n
  · rw [if_pos h]
  · rw [if_neg h, co_out (f := f) (by omega), co_out (f := g) (by omega)]
    grind
/-- zeros behind a tuple, as many as another one is longer -/
theorem pad_two {i j : Nat} {a b : Addr} {f g : Po q} {Q : VK} (hi : σ[i]? = some (some (.ref a))) (hj : σ[j]? = some (some (.ref b))) (ha : SqT K H a (vns f)) (hb : SqT K H b (vns g)) (le : f.length ≤ g.length) (lN : g.length ≤ 100) (k : ∀ r H', Same H H' → SqT K H' r (vns (padz f g.length)) → Q (.ref r) H') :
    tOp (rCatA K) (tVar i) (tOp (rRepA K) (tTup (tCons (tC (V.int 0)) tNil)) (tOp (rI0 fun i j => V.int (i - j)) (tCB (fun xs H_1 Q => ∃ p ys, xs = [V.ref p] ∧ (SqL K H_1 p ys ∨ SqT K H_1 p ys) ∧ Q (V.int (ys.length : Nat)) H_1) (tCons (tVar j) tNil)) (tCB (fun xs H_1 Q => ∃ p ys, xs = [V.ref p] ∧ (SqL K H_1 p ys ∨ SqT K H_1 p ys) ∧ Q (V.int (ys.length : Nat)) H_1) (tCons (tVar i) tNil)))) σ H Q := by
  have lf : (vns f).length = f.length := List.length_map ..
  have lg : (vns g).length = g.length := List.length_map ..
  refine ⟨.ref a, hi, (by show 1 ≤ sizeLine; decide), fun z nz => ?_⟩
  have s1 := same_new (o := .tup [V.int 0]) nz
  have hz := upd_same (H := H) (a := z) (o := HO.tup [V.int 0])
  generalize upd H z (.tup [V.int 0]) = H1 at s1 hz ⊢
  have ha1 := BP.Same.tupS s1 ha
  have hb1 := BP.Same.tupS s1 hb
  have cat : ∀ (p : Addr) (H2 : Hp), Same H1 H2 → SqT K H2 p (List.replicate (g.length - f.length) [V.int 0]).flatten → rCatA K (.ref a) (.ref p) H2 Q := fun p H2 s2 hp => by
    have lr : (List.replicate (g.length - f.length) [V.int 0]).flatten.length = g.length - f.length := by simp
    refine catA (BP.Same.tupS s2 ha1) hp (by rw [lf, lr]; exact Nat.le_trans (show f.length + (g.length - f.length) ≤ 200 by omega) (by decide)) fun r H3 s3 hr => ?_
    rw [vns_padz] at hr
    exact k r H3 (s1.trans (s2.trans s3)) hr
  refine ⟨.ref b, hj, b, vns g, rfl, .inr hb1, .ref a, hi, a, vns f, rfl, .inr ha1, _, _, rfl, rfl, z, g.length - f.length, [V.int 0], rfl, ?_, .inl (.inl hz), by simp, by omega, by decide, fun h1 => ?_, fun p np => ?_⟩
  · show V.int (((vns g).length : Int) - ((vns f).length : Nat)) = V.int ((g.length - f.length : Nat) : Int)
    rw [lf, lg, Int.ofNat_sub le]
  · refine cat z H1 (fun _ _ e => e) ?_
    rw [h1]
    exact .inl (.inl hz)
  · exact cat p _ (same_new np) (.inl (.inl upd_same))
end
end BP
namespace K13
open PySem PySem.Spec PyProof.Rows L2 BP Fld
section
variable {P : Program} {w : World} {K : PySem.W.Frag} {mg : Str → Option Value} {base : Heap}
end
end K13
set_option Elab.async false
set_option linter.all false
set_option maxRecDepth 100000
set_option maxHeartbeats 1000000
set_option pp.maxSteps 2000
/-! Rows of pieces, one piece behind the other. -/
namespace Fld
variable {q : Nat} [F : IsF q]
def tq (st : List (Option (El q) × Po q)) (i : Nat) : List (Pc q) := if i < st.length then (match st.drop (st.length - (i + 1)) with
  | [] => []
  | x :: _ => tp x.1) else []
theorem tq_at {st r : List (Option (El q) × Po q)} {i : Nat} {o : Option (El q)} {g : Po q} (h : i < st.length) (e : st.drop (st.length - (i + 1)) = (o, g) :: r) : tq st i = tp o := by
  unfold tq
  rw [if_pos h, e]
theorem tq_end {st : List (Option (El q) × Po q)} {i : Nat} (h : ¬ i < st.length) : tq st i = [] := by
  unfold tq
  rw [if_neg h]
theorem tq_len (st : List (Option (El q) × Po q)) (i : Nat) : (tq st i).length ≤ 1 := by
  unfold tq
  split
  · split
    · exact Nat.zero_le _
    · rename_i x r _
      cases x.1 with
      | none => exact Nat.zero_le _
      | some t => exact Nat.le_refl _
  · exact Nat.zero_le _
theorem Good.drop' : ∀ {st : List (Option (El q) × Po q)} (k : Nat), Good st → Good (st.drop k)
  | _, 0, h => h
  | [], _ + 1, _ => trivial
  | (_, _) :: _, k + 1, h => Good.drop' k h.2.2
end Fld
namespace BP
open PySem PySem.Spec PyProof.Rows L2 Fld
section
variable {q : Nat} [FF : IsF q] {K : PySem.W.Frag} {σ : L2.St} {H H0 : Hp}
theorem mtu (x : El q) : [V.int 0, .int 1, .int 0, .int 1, vn x, .int 0] = mv (turn x) := by
  unfold mv turn
  simp only []
  rw [vn_one, vn_zero]
/-- a turn, as a tuple -/
theorem tl_turn {te : TE} {x : El q} (h : Yl te σ H (vn x)) : Tl K (tTup (tCons (tC (V.int 0)) (tCons (tC (V.int 1)) (tCons (tC (V.int 0)) (tCons (tC (V.int 1)) (tCons te (tCons (tC (V.int 0)) tNil))))))) σ H (mv (turn x)) := fun Q k => by
  refine al_tup (al_cons yl_c (al_cons yl_c (al_cons yl_c (al_cons yl_c (al_cons h (al_cons yl_c al_nil)))))) (by show 6 ≤ 1000; decide) fun r H' s _ e => k r H' s (.inl (.inl ?_))
  rw [e, mtu]
def Pt (K : PySem.W.Frag) (te : TE) (σ : L2.St) (H : Hp) (p : Pc q) : Prop := ∀ Q : VK, (∀ (u : Addr) (H' : Hp), Same H H' → PieceAt K H' u p → Q (.ref u) H') → te σ H Q
theorem pt_mat {te : TE} {m : Mat q} (h : Tl K te σ H (mv m)) : Pt K (tTup (tCons (tC (V.str "straight")) (tCons te tNil))) σ H (.mat m) := fun Q k => h _ fun r H1 s1 hr => ⟨(by show 2 ≤ sizeLine; decide), fun u nu => k u _ (s1.trans (same_new nu)) ⟨r, .inl (.inl upd_same), BP.Same.tupS (same_new nu) hr⟩⟩
theorem pt_bd {te : TE} {f : Po q} (h : Tl K te σ H (vns f)) : Pt K (tTup (tCons (tC (V.str "bend")) (tCons te tNil))) σ H (.bd f) := fun Q k => h _ fun r H1 s1 hr => ⟨(by show 2 ≤ sizeLine; decide), fun u nu => k u _ (s1.trans (same_new nu)) ⟨r, .inl (.inl upd_same), BP.Same.tupS (same_new nu) hr⟩⟩
theorem app_core {te : TE} {p : Pc q} {ps : List (Pc q)} {xs : List V} {L : Addr} {Q : VK} {i : Nat} (hp : Pt K te σ H p) (hi : σ[i]? = some (some (.ref L))) (hL : H L = some (.lst xs)) (nL : H0 L = none) (s : Same H0 H) (hP : PsAt K H xs ps) (le : ps.length ≤ 1000)
    (k : ∀ xs' H', Same H0 H' → H' L = some (.lst xs') → PsAt K H' xs' (ps ++ [p]) → Q .non H') : tBM K "list" rAppend (tVar i) (tCons te tNil) σ H Q := by
  refine ⟨.ref L, hi, .inl ⟨rfl, _, .inl (.inl hL)⟩, hp _ fun u H1 s1 hu => ?_⟩
  dsimp only [tNil]
  have lx := hP.len
  refine ⟨L, xs, .ref u, rfl, rfl, s1 _ _ hL, Nat.lt_of_le_of_lt (show xs.length ≤ 1000 by omega) (by decide), ?_⟩
  refine k _ _ (same_upd (s.trans s1) nL) upd_same ?_
  exact ((hP.kept fun _ _ => BP.Same.tupS s1).add hu).kept fun _ _ x => sqT_upd (s1 _ _ hL) x
theorem app_pc {te : TE} {D : Ends} {p : Pc q} {ps : List (Pc q)} {xs : List V} {L : Addr} {i : Nat} (hp : Pt K te σ H p) (hi : σ[i]? = some (some (.ref L))) (hL : H L = some (.lst xs)) (nL : H0 L = none) (s : Same H0 H) (hP : PsAt K H xs ps) (le : ps.length ≤ 1000)
    (k : ∀ xs' H', Same H0 H' → H' L = some (.lst xs') → PsAt K H' xs' (ps ++ [p]) → D.nx σ H') : tDrop (tBM K "list" rAppend (tVar i) (tCons te tNil)) D σ H := app_core hp hi hL nL s hP le k
theorem seq_pc {te : TE} {D : Ends} {rest : TS} {p : Pc q} {ps : List (Pc q)} {xs : List V} {L : Addr} {i : Nat} (hp : Pt K te σ H p) (hi : σ[i]? = some (some (.ref L))) (hL : H L = some (.lst xs)) (nL : H0 L = none) (s : Same H0 H) (hP : PsAt K H xs ps) (le : ps.length ≤ 1000)
    (k : ∀ xs' H', Same H0 H' → H' L = some (.lst xs') → PsAt K H' xs' (ps ++ [p]) → rest D σ H') : tSeq (tDrop (tBM K "list" rAppend (tVar i) (tCons te tNil))) rest D σ H := app_core hp hi hL nL s hP le k
/-- the row so far: a turn ahead of all, or none -/
theorem init_row {o : Option (El q)} {i : Nat} {Q : VK} (hi : σ[i]? = some (some (ov o))) (k : ∀ L xs H', Same H H' → H L = none → H' L = some (.lst xs) → PsAt K H' xs (tp o) → Q (.ref L) H') :
    tIf (tTest (tOp (rI0 fun i j => V.bl (decide (i < j))) (tVar i) (tC (V.int 0)))) (tLst tNil) (tLst (tCons (tTup (tCons (tC (V.str "straight")) (tCons (tTup (tCons (tC (V.int 0)) (tCons (tC (V.int 1)) (tCons (tC (V.int 0)) (tCons (tC (V.int 1)) (tCons (tVar i) (tCons (tC (V.int 0)) tNil))))))) tNil))) tNil)) σ H Q := by
  cases o with
  | none =>
    refine ⟨_, hi, _, _, rfl, rfl, true, rfl, iteT ⟨Nat.zero_le _, fun L nL => k L [] _ (same_new nL) nL upd_same trivial⟩⟩
  | some x =>
    refine ⟨_, hi, _, _, rfl, rfl, false, ?_, iteF ?_⟩
    · show V.bl (decide (((x.val : Nat) : Int) < 0)) = _
      rw [decide_eq_false (by omega)]
    · show tCons _ _ σ H _
      refine pt_mat (K := K) (tl_turn (yl_var hi)) _ fun u H1 s1 hu => ?_
      dsimp only [tNil]
      refine ⟨(by show 1 ≤ sizeLine; decide), fun L nL => k L [.ref u] _ (s1.trans (same_new nL)) (s1.free nL) upd_same ⟨⟨u, rfl, hu.kept fun _ _ => BP.Same.tupS (same_new nL)⟩, trivial⟩⟩
end
def spRw (K : PySem.W.Frag) : Sp := fun vs H Q _ => ∃ (q : Nat) (_ : IsF q) (c : Addr) (z : Sta q), vs = [.ref c] ∧ StepAt K H c z ∧ Good z.st ∧ z.st.length ≤ 300 ∧ ∀ (r : Addr) (xs : List V) (H' : Hp), Same H H' → H' r = some (.lst xs) → PsAt K H' xs (rowOf z) → Q (.ref r) H'
def spMd (K : PySem.W.Frag) : Sp := fun vs H Q _ => ∃ (q : Nat) (_ : IsF q) (F a c : Addr) (xs : List V) (ps : List (Pc q)) (z : Sta q), vs = [.ref F, .ref a, .ref c] ∧ FieldV H F q ∧ H a = some (.lst xs) ∧ PsAt K H xs ps ∧ (∀ p ∈ ps, PcOk7 p) ∧ StepAt K H c z ∧ Okay z ∧ B7 z.st ∧ z.st.length + ps.length ≤ 900 ∧
  ∀ (r : Addr) (H' : Hp), Same H H' → StepAt K H' r (run z ps) → Q (.ref r) H'
def spTn (K : PySem.W.Frag) : Sp := fun vs H Q _ => ∃ (q : Nat) (_ : IsF q) (F c d : Addr) (y z : Sta q), vs = [.ref F, .ref c, .ref d] ∧ FieldV H F q ∧ StepAt K H c y ∧ StepAt K H d z ∧ Fit z ∧ Okay y ∧ B7 y.st ∧ y.st.length + 2 * z.st.length ≤ 800 ∧
  ∀ (r : Addr) (H' : Hp), Same H H' → StepAt K H' r (run y (rowOf z)) → Q (.ref r) H'
def spUd (K : PySem.W.Frag) : Sp := fun vs H Q _ => ∃ (q : Nat) (_ : IsF q) (F c : Addr) (z : Sta q), vs = [.ref F, .ref c] ∧ FieldV H F q ∧ StepAt K H c z ∧ Fit z ∧ ∀ (r : Addr) (H' : Hp), Same H H' → StepAt K H' r (run empty (ur (rowOf z))) → Q (.ref r) H'
def spSe (K : PySem.W.Frag) : Sp := fun vs H Q _ => ∃ (q : Nat) (_ : IsF q) (F c d : Addr) (z g : Sta q), vs = [.ref F, .ref c, .ref d] ∧ FieldV H F q ∧ StepAt K H c z ∧ StepAt K H d g ∧ Fit z ∧ Fit g ∧ 4 * g.st.length + 2 * z.st.length ≤ 300 ∧
  ∀ (r : Addr) (H' : Hp), Same H H' → StepAt K H' r (run (run (run empty (ur (rowOf g))) (rowOf z)) (rowOf g)) → Q (.ref r) H'
end BP
set_option Elab.async false
set_option linter.all false
set_option maxRecDepth 100000
set_option maxHeartbeats 2000000
set_option pp.maxSteps 3000
namespace K13
open PySem PySem.Spec PyProof.Rows L2 BP Fld
section
variable {P : Program} {w : World} {K : PySem.W.Frag} {mg : Str → Option Value} {base : Heap}
end
end K13
set_option Elab.async false
set_option linter.all false
set_option maxRecDepth 100000
set_option maxHeartbeats 2000000
set_option pp.maxSteps 3000
namespace K13
open PySem PySem.Spec PyProof.Rows L2 BP Fld
section
variable {P : Program} {w : World} {K : PySem.W.Frag} {mg : Str → Option Value} {base : Heap}
end
end K13
set_option Elab.async false
set_option linter.all false
set_option maxRecDepth 100000
set_option maxHeartbeats 1000000
set_option pp.maxSteps 2000
namespace BP
open PySem PySem.Spec PyProof.Rows L2 Fld
def spPlc (K : PySem.W.Frag) : Sp := fun vs H Q _ => ∃ (q : Nat) (_ : IsF q) (F c : Addr) (z : Sta q) (b : Bool), vs = [.ref F, .ref c, .str (sortS b)] ∧ FieldV H F q ∧ StepAt K H c z ∧ Fit z ∧ ∀ (r : Addr) (H' : Hp), Same H H' → PA K H' r (zPl b z) → Q (.ref r) H'
def spSof (K : PySem.W.Frag) : Sp := fun vs H Q _ => ∃ (q : Nat) (_ : IsF q) (c : Addr) (x : Pl q), vs = [.ref c] ∧ PA K H c x ∧ PO x ∧ ∀ (r : Addr) (H' : Hp), Same H H' → StepAt K H' r (plZ x) → Q (.ref r) H'
def spPcs (K : PySem.W.Frag) : Sp := fun vs H Q _ => ∃ (q : Nat) (_ : IsF q) (c : Addr) (x : Pl q), vs = [.ref c] ∧ PA K H c x ∧ PO x ∧ ∀ (r : Addr) (H' : Hp), Same H H' → RowAt K H' r (pcP x) → Q (.ref r) H'
def spIbm (K : PySem.W.Frag) : Sp := fun vs H Q _ => ∃ (q : Nat) (_ : IsF q) (c : Addr) (z : Sta q) (m : Mat q), vs = [.ref c] ∧ StepAt K H c z ∧ (z = ⟨[], m⟩ ∨ ∃ g, z = ⟨[(none, g)], m⟩) ∧ m.d = 0 ∧ Q (.bl true) H
end BP
set_option Elab.async false
set_option linter.all false
set_option maxRecDepth 100000
set_option maxHeartbeats 2000000
set_option pp.maxSteps 3000
namespace K13
open PySem PySem.Spec PyProof.Rows L2 BP Fld
section
variable {P : Program} {w : World} {K : PySem.W.Frag} {mg : Str → Option Value} {base : Heap}
end
end K13
set_option Elab.async false
set_option linter.all false
set_option maxRecDepth 100000
set_option maxHeartbeats 1000000
set_option pp.maxSteps 2000
/-! The law's field, as tables: the mathematics, and rows of lists. -/
namespace Cnt
open Fld BP
/-- the powers of w, as the law tells them -/
def pwl : Nat → List Nat
  | 4 => [1, 2, 3] | 8 => [1, 2, 4, 3, 6, 7, 5] | 9 => [1, 3, 4, 7, 2, 6, 8, 5] | 16 => [1, 2, 4, 8, 3, 6, 12, 11, 5, 10, 7, 14, 15, 13, 9] | _ => []
def okS (q : Nat) : Bool := below q fun a => below q fun b => decide ((if q = 9 then ((a : Int) + b) % 3 + 3 * (((a : Int) / 3 + (b : Int) / 3) % 3) else if pwl q = [] then ((a : Int) + b) % q else PySem.Builtin.bitXor (a : Nat) (b : Nat)) = ((S q a b : Nat) : Int)) && decide (pwl q ≠ [] ∨ M q a b = a * b % q)
theorem all_S : fields.all okS = true := by decide +kernel
theorem sum_is {q a b : Nat} (h : q ∈ fields) (ha : a < q) (hb : b < q) : (if q = 9 then ((a : Int) + b) % 3 + 3 * (((a : Int) / 3 + (b : Int) / 3) % 3) else if pwl q = [] then ((a : Int) + b) % q else PySem.Builtin.bitXor (a : Nat) (b : Nat)) = ((S q a b : Nat) : Int) ∧ (pwl q ≠ [] ∨ M q a b = a * b % q) := by
  have o := of_below (of_below (List.all_eq_true.mp all_S q h) ha) hb
  rw [Bool.and_eq_true] at o
  exact ⟨of_decide_eq_true o.1, of_decide_eq_true o.2⟩
def setc (t : List (List Nat)) (x y v : Nat) : List (List Nat) := t.set x ((t.getD x []).set y v)
/-- the table of products, while it is filled -/
def btI (q i : Nat) (t : List (List Nat)) : Nat → List (List Nat)
  | 0 => t
  | j + 1 => setc (btI q i t j) ((pwl q).getD i 0) ((pwl q).getD j 0) ((pwl q).getD ((i + j) % (q - 1)) 0)
def btO (q : Nat) : Nat → List (List Nat)
  | 0 => List.replicate q (List.replicate q 0)
  | i + 1 => btI q i (btO q i) (pwl q).length
def okB (q : Nat) : Bool := decide (pwl q = []) || (decide (btO q (pwl q).length = tab (M q) q) && decide ((pwl q).length = q - 1) && (pwl q).all fun x => decide (x < q))
theorem all_B : fields.all okB = true := by decide +kernel
theorem bt_is {q : Nat} (h : q ∈ fields) (hp : pwl q ≠ []) : btO q (pwl q).length = tab (M q) q ∧ (pwl q).length = q - 1 ∧ ∀ x ∈ pwl q, x < q := by
  have o := List.all_eq_true.mp all_B q h
  unfold okB at o
  rw [Bool.or_eq_true, Bool.and_eq_true, Bool.and_eq_true] at o
  rcases o with o | o
  · exact absurd (of_decide_eq_true o) hp
  · exact ⟨of_decide_eq_true o.1.1, of_decide_eq_true o.1.2, fun x hx => of_decide_eq_true (List.all_eq_true.mp o.2 x hx)⟩
def Sq (q : Nat) (t : List (List Nat)) : Prop := t.length = q ∧ ∀ r ∈ t, r.length = q
theorem Sq.row {q : Nat} {t : List (List Nat)} (h : Sq q t) {x : Nat} (hx : x < q) : t[x]? = some (t.getD x []) ∧ (t.getD x []).length = q := by
  have hl : x < t.length := by rw [h.1]; exact hx
  have e : t[x]? = some t[x] := List.getElem?_eq_getElem hl
  have e2 : t.getD x [] = t[x] := by rw [List.getD_eq_getElem?_getD, e]; rfl
  rw [e2]
  exact ⟨e, h.2 _ (List.getElem_mem hl)⟩
theorem Sq.set {q : Nat} {t : List (List Nat)} (h : Sq q t) {x y v : Nat} (hx : x < q) : Sq q (setc t x y v) := by
  refine ⟨by unfold setc; rw [List.length_set, h.1], fun r hr => ?_⟩
  unfold setc at hr
  rcases List.mem_or_eq_of_mem_set hr with hr | hr
  · exact h.2 r hr
  · rw [hr, List.length_set]
    exact (h.row hx).2
theorem getD_mem {l : List Nat} {i : Nat} (h : i < l.length) : l.getD i 0 ∈ l := by
  rw [List.getD_eq_getElem?_getD, List.getElem?_eq_getElem h]
  exact List.getElem_mem h
theorem sq_I {q i : Nat} (hx : ∀ x ∈ pwl q, x < q) (hi : i < (pwl q).length) {t : List (List Nat)} (h : Sq q t) : ∀ j, Sq q (btI q i t j)
  | 0 => h
  | j + 1 => (sq_I hx hi h j).set (hx _ (getD_mem hi))
theorem sq_O {q : Nat} (hx : ∀ x ∈ pwl q, x < q) : ∀ i, i ≤ (pwl q).length → Sq q (btO q i)
  | 0, _ => ⟨List.length_replicate .., fun r hr => by rw [(List.mem_replicate.mp hr).2]; exact List.length_replicate ..⟩
  | i + 1, h => sq_I hx (by omega) (sq_O hx i (by omega)) _
end Cnt
namespace BP
open PySem PySem.Spec PyProof.Rows L2 Fld
theorem pw_merge {t1 t2 t3 t4 : Addr} : mergeK [] [((.inl 4 : Key), V.ref t1), (.inl 8, .ref t2), (.inl 9, .ref t3), (.inl 16, .ref t4)] = [(.inl 4, .ref t1), (.inl 8, .ref t2), (.inl 9, .ref t3), (.inl 16, .ref t4)] := by
  simp [mergeK, putK]
abbrev LcJ (J : It) (i : Nat) (te : TE) (vs : List Nat) (σ : L2.St) (H1 : Hp) (D : Addr) (Qd : Hp → Prop) : Prop :=
  ∃ W : Nat → Nat → Hp → Prop,
    (∃ m, W 0 m (upd H1 D (.lst []))) ∧
    ∀ k m H, W k m H →
      (J.stop k H ∧ Qd H) ∨
      (J.go k H ∧ ∃ Z : Hp → Prop, (∀ H', Z H' → ∃ m', m' < m ∧ W (k + 1) m' H') ∧
        ∀ x H', J.yld k H x H' → gName i x (wipe σ vs) H' fun σ2 H2 =>
          wipe σ2 vs = wipe σ vs ∧ tYes σ2 H2 fun b H3 =>
            if b = true then te σ2 H3 fun y H4 => ∃ acc, H4 D = some (.lst acc) ∧ acc.length < sizeLine ∧ Z (upd H4 D (.lst (acc ++ [y]))) else Z H3)
section
variable {K : PySem.W.Frag} {n i : Nat} {a : Addr} {te : TE} {vs : List Nat} {σ : L2.St} {H1 : Hp} {D : Addr} {Qd : Hp → Prop} {ks : List Nat}
theorem lcl_ints (val : Nat → Nat) (hn : ks.length ≤ 900) (ha : H1 a = some (.lst (iv ks))) (nR : H1 D = none) (hw : ∀ v, wipe ((wipe σ vs).set i v) vs = wipe σ vs)
    (hs : ∀ (j b : Nat) (H : Hp) (Q : VK), ks[j]? = some b → Same H1 H → (∀ H', Same H H' → Q (.int (val j : Nat)) H') → te ((wipe σ vs).set i (some (.int (b : Nat)))) H Q)
    (hd : ∀ H, Same H1 H → H D = some (.lst (iv ((List.range ks.length).map val))) → Qd H) : LcJ (Itl K a) i te vs σ H1 D Qd := by
  have lk : (iv ks).length = ks.length := List.length_map ..
  have w := walk_list (K := K) (a := a) (xs := iv ks)
  rw [lk] at w
  refine lc_it w (fun j H' => Same H1 H' ∧ H' D = some (.lst (iv ((List.range j).map val)))) ⟨same_new nR, upd_same⟩ (fun i H' _ s => .inl (.inl (s.1 _ _ ha))) (fun j x H2 H3 hj hV y => ?_) (fun H3 hV => hd H3 hV.1 hV.2)
  obtain ⟨rfl, hx⟩ := y
  obtain ⟨s3, hR⟩ := hV
  unfold iv at hx
  rw [List.getElem?_map] at hx
  obtain ⟨b, hb, rfl⟩ := Option.map_eq_some_iff.mp hx
  refine ⟨hw _, yes_kept (hs j b _ _ hb s3 fun H4 s4 => ⟨_, s4 _ _ hR, ?_, fun b' x e => ?_, ?_⟩)⟩
  · unfold iv
    rw [List.length_map, List.length_map, List.length_range]
    exact small1000 (by omega)
  · rw [upd_ne (ne_of_none e nR)]
    exact s4 _ _ (s3 b' x e)
  · rw [upd_same, range_snoc]
    unfold iv
    rw [List.map_append]
    rfl
/-- new rows, all unlike, all of them apart from what was there -/
def New2N (H1 H : Hp) (D : Addr) (rows : List (List Nat)) : Prop := ∃ ps : List Addr, ps.Nodup ∧ H1 D = none ∧ H D = some (.lst (ps.map V.ref)) ∧ ps.length = rows.length ∧ ∀ (j : Nat) (p : Addr) (r : List Nat), ps[j]? = some p → rows[j]? = some r → H1 p = none ∧ p ≠ D ∧ H p = some (.lst (iv r))
theorem New2N.new {H1 H : Hp} {D : Addr} {rows : List (List Nat)} (h : New2N H1 H D rows) : New2 H1 H D rows := by
  obtain ⟨ps, _, h⟩ := h
  exact ⟨ps, h⟩
theorem New2N.same {H1 H H' : Hp} {D : Addr} {rows : List (List Nat)} (h : New2N H1 H D rows) (s : Same H H') : New2N H1 H' D rows := by
  obtain ⟨ps, nd, n1, h1, h2, h3⟩ := h
  exact ⟨ps, nd, n1, s _ _ h1, h2, fun i p r a b => ⟨(h3 i p r a b).1, (h3 i p r a b).2.1, s _ _ (h3 i p r a b).2.2⟩⟩
theorem New2N.pre {H0 H1 H : Hp} {D : Addr} {rows : List (List Nat)} (h : New2N H1 H D rows) (s : Same H0 H1) : New2N H0 H D rows := by
  obtain ⟨ps, nd, n1, h1, h2, h3⟩ := h
  exact ⟨ps, nd, s.free n1, h1, h2, fun i p r a b => ⟨s.free (h3 i p r a b).1, (h3 i p r a b).2⟩⟩
/-- a row is written on -/
theorem New2N.set {H1 H : Hp} {D : Addr} {rows : List (List Nat)} {x y v : Nat} (h : New2N H1 H D rows) (hx : x < rows.length) : ∃ p : Addr, H1 p = none ∧ H p = some (.lst (iv (rows.getD x []))) ∧ (∃ ps : List Addr, H D = some (.lst (ps.map V.ref)) ∧ (ps.map V.ref)[x]? = some (.ref p)) ∧ New2N H1 (upd H p (.lst (iv ((rows.getD x []).set y v)))) D (Cnt.setc rows x y v) := by
  obtain ⟨ps, nd, n1, h1, h2, h3⟩ := h
  have er : rows[x]? = some (rows.getD x []) := by
    rw [List.getD_eq_getElem?_getD, List.getElem?_eq_getElem hx]
    rfl
  have ep : ps[x]? = some (ps[x]'(by omega)) := List.getElem?_eq_getElem _
  generalize ps[x]'(by omega) = p at ep
  obtain ⟨a1, a2, a3⟩ := h3 x p _ ep er
  refine ⟨p, a1, a3, ⟨ps, h1, by rw [List.getElem?_map, ep]; rfl⟩, ps, nd, n1, by rw [upd_ne a2.symm]; exact h1, ?_, fun j p' r e1 e2 => ?_⟩
  · unfold Cnt.setc
    rw [List.length_set, h2]
  · unfold Cnt.setc at e2
    by_cases ej : j = x
    · subst ej
      rw [e1] at ep
      obtain rfl := Option.some.inj ep
      rw [List.getElem?_set_self hx] at e2
      obtain rfl := Option.some.inj e2
      exact ⟨a1, a2, upd_same⟩
    · rw [List.getElem?_set_ne (fun z => ej z.symm)] at e2
      obtain ⟨b1, b2, b3⟩ := h3 j p' r e1 e2
      have np : p' ≠ p := fun z => by
        subst z
        exact ej ((List.getElem?_inj (List.getElem?_eq_some_iff.mp e1).1 nd).mp (e1.trans ep.symm))
      exact ⟨b1, b2, by rw [upd_ne np]; exact b3⟩
theorem lcl_rows (row : Nat → List Nat) (hn : ks.length ≤ 900) (ha : H1 a = some (.lst (iv ks))) (nD : H1 D = none) (hw : ∀ v, wipe ((wipe σ vs).set i v) vs = wipe σ vs)
    (hs : ∀ (j b : Nat) (H : Hp) (Q : VK), ks[j]? = some b → Same H1 H → (∀ (R : Addr) (H' : Hp), Same H H' → H R = none → H' R = some (.lst (iv (row j))) → Q (.ref R) H') → te ((wipe σ vs).set i (some (.int (b : Nat)))) H Q)
    (hd : ∀ H, Same H1 H → New2N H1 H D ((List.range ks.length).map row) → Qd H) : LcJ (Itl K a) i te vs σ H1 D Qd := by
  have lk : (iv ks).length = ks.length := List.length_map ..
  have w := walk_list (K := K) (a := a) (xs := iv ks)
  rw [lk] at w
  refine lc_it w (fun j H' => Same H1 H' ∧ New2N H1 H' D ((List.range j).map row)) ⟨same_new nD, [], List.nodup_nil, nD, upd_same, rfl, fun j p r e _ => by cases e⟩ (fun i H' _ s => .inl (.inl (s.1 _ _ ha))) (fun c x H2 H3 hj hV y => ?_) (fun H3 hV => hd H3 hV.1 hV.2)
  obtain ⟨rfl, hx⟩ := y
  obtain ⟨s2, ps, nd, _, hD, lp, rows⟩ := hV
  rw [List.length_map, List.length_range] at lp
  unfold iv at hx
  rw [List.getElem?_map] at hx
  obtain ⟨b, hb, rfl⟩ := Option.map_eq_some_iff.mp hx
  have lc : c < ks.length := (List.getElem?_eq_some_iff.mp hb).1
  refine ⟨hw _, yes_kept (hs c b _ _ hb s2 fun R H4 s3 nR hR => ⟨_, s3 _ _ hD, ?_, fun b' x e => ?_, ps ++ [R], ?_, nD, ?_, ?_, fun j p r e er => ?_⟩)⟩
  · rw [List.length_map]
    exact small1000 (by omega)
  · rw [upd_ne (ne_of_none e nD)]
    exact s3 _ _ (s2 b' x e)
  · rw [List.nodup_append]
    refine ⟨nd, by simp, fun p hp p2 hp2 => ?_⟩
    rw [List.mem_singleton.mp hp2]
    obtain ⟨j, hj, ej⟩ := List.getElem_of_mem hp
    have e1 : ps[j]? = some p := by rw [List.getElem?_eq_getElem hj, ej]
    have e2 : ((List.range c).map row)[j]? = some (row j) := by
      rw [List.getElem?_map, List.getElem?_range (by omega)]
      rfl
    exact ne_of_none (rows j p _ e1 e2).2.2 nR
  · rw [upd_same, List.map_append]
    rfl
  · rw [List.length_append, List.length_map, List.length_range, lp]
    rfl
  · have nRD : R ≠ D := (ne_of_none hD nR).symm
    have lj : j < c + 1 := by
      have := (List.getElem?_eq_some_iff.mp er).1
      rw [List.length_map, List.length_range] at this
      exact this
    rw [List.getElem?_map, List.getElem?_range lj] at er
    by_cases hj : j < ps.length
    · rw [List.getElem?_append_left hj] at e
      have er' : ((List.range c).map row)[j]? = some r := by
        rw [List.getElem?_map, List.getElem?_range (by omega)]
        exact er
      obtain ⟨a1, a2, a3⟩ := rows j p r e er'
      refine ⟨a1, a2, ?_⟩
      rw [upd_ne a2]
      exact s3 _ _ a3
    · have ej : j = ps.length := by omega
      rw [List.getElem?_append_right (by omega), ej, Nat.sub_self] at e
      obtain rfl := Option.some.inj e
      obtain rfl := Option.some.inj er
      refine ⟨s2.free nR, nRD, ?_⟩
      rw [upd_ne nRD, ej, lp]
      exact hR
/-- a table, row by row -/
theorem tab_lc {q : Nat} (f : Nat → Nat → Nat) {σ : L2.St} {te : TE} {Q : VK} {H : Hp} (hq : q ≤ 900) (h2 : σ[2]? = some (some (.ref a))) (h2' : ∀ x, (wipe ((wipe σ [4]).set 4 (some x)) [])[2]? = some (some (.ref a))) (hw4 : ∀ v, wipe ((wipe σ [4]).set 4 v) [4] = wipe σ [4])
    (hw5 : ∀ x v, wipe ((wipe ((wipe σ [4]).set 4 x) [5]).set 5 v) [5] = wipe ((wipe σ [4]).set 4 x) [5]) (ha : H a = some (.lst (iv (List.range q))))
    (hs : ∀ (x y : Nat) (H' : Hp), x < q → y < q → Same H H' → Zi te ((wipe ((wipe σ [4]).set 4 (some (.int (x : Nat)))) [5]).set 5 (some (.int (y : Nat)))) H' (.int (f x y : Nat))) (k : ∀ D H', Same H H' → New2N H H' D (tab f q) → Q (.ref D) H') :
    tLc (iList K (tVar 2)) (gName 4) tYes (tLc (iList K (tVar 2)) (gName 5) tYes te [5]) [4] σ H Q := by
  have lr : (List.range q).length = q := List.length_range
  have rg : ∀ {j b : Nat}, (List.range q)[j]? = some b → b = j ∧ j < q := fun {j b} h => by
    have hj := (List.getElem?_eq_some_iff.mp h).1
    rw [lr] at hj
    rw [List.getElem?_range hj] at h
    exact ⟨(Option.some.inj h).symm, hj⟩
  refine ⟨.ref a, h2, a, rfl, ⟨_, .inl (.inl ha)⟩, fun D nD => lcl_rows (K := K) (ks := List.range q) (fun x => (List.range q).map (f x)) (by omega) ha nD hw4 (fun j b H' Q' hb s' k' => ?_) (fun H' s' hN => ?_)⟩
  · obtain ⟨rfl, hj⟩ := rg hb
    refine ⟨.ref a, h2' _, a, rfl, ⟨_, .inl (.inl (s' _ _ ha))⟩, fun R nR => lcl_ints (K := K) (ks := List.range q) (f b) (by omega) (s' _ _ ha) nR (hw5 _) (fun j2 b2 H'' Q'' hb2 s'' k'' => ?_) (fun H'' s'' hR => ?_)⟩
    · obtain ⟨rfl, hj2⟩ := rg hb2
      exact hs b b2 H'' hj hj2 (s'.trans s'') Q'' k''
    · rw [lr] at hR
      exact k' R H'' s'' nR hR
  · rw [lr] at hN
    exact k D H' s' hN
theorem iv_ints (l : List Nat) : iv l = (l.map fun n => ((n : Nat) : Int)).map V.int := by
  unfold iv
  rw [List.map_map]
  rfl
theorem nil_nats {t1 : TE} {σ : L2.St} {H : Hp} {L : Addr} {ns : List Nat} {Q : Bool → Hp → Prop} (h1 : Yl t1 σ H (.ref L)) (hL : SqL K H L (iv ns)) (k : ∀ H', Same H H' → Q (!ns.isEmpty) H') : tTest (tOp (rNeD K) t1 (tLst tNil)) σ H Q := by
  rw [iv_ints] at hL
  refine nil_ints h1 hL fun H' s => ?_
  have := k H' s
  cases ns <;> exact this
theorem nil_natsE {t1 : TE} {σ : L2.St} {H : Hp} {L : Addr} {ns : List Nat} {Q : Bool → Hp → Prop} (h1 : Yl t1 σ H (.ref L)) (hL : SqL K H L (iv ns)) (k : ∀ H', Same H H' → Q ns.isEmpty H') : tTest (tOp (rEqD K) t1 (tLst tNil)) σ H Q := by
  rw [iv_ints] at hL
  refine h1 _ ⟨Nat.zero_le _, fun p np => ?_⟩
  have s := same_new (o := .lst ([] : List V)) np
  refine ⟨dat (ns.map fun n => ((n : Nat) : Int)), dat [], dp_ints (BP.Same.lstS s hL), .lst (.inl (.inl upd_same)) .nil, shaped_ints _, shaped_ints _, _, rfl, ?_⟩
  rw [eqv_nil]
  have := k _ s
  cases ns <;> exact this
end
end BP
set_option Elab.async false
set_option linter.all false
set_option maxRecDepth 100000
set_option maxHeartbeats 4000000
set_option pp.maxSteps 3000
namespace K13
open PySem PySem.Spec PyProof.Rows L2 BP Fld
section
variable {P : Program} {w : World} {K : PySem.W.Frag} {mg : Str → Option Value} {base : Heap}
end
end K13
set_option Elab.async false
set_option linter.all false
set_option maxRecDepth 100000
set_option maxHeartbeats 1000000
set_option pp.maxSteps 2000
/-! Lists of what is drawn. -/
namespace BP
open PySem PySem.Spec PyProof.Rows L2 Fld K13
section
variable {d c D : Addr} {K : PySem.W.Frag} {te : TE} {vs : List Nat} {σ : L2.St} {H1 : Hp} {Qd : Hp → Prop} {n j : Nat}
def Dr (d c : Addr) (te : TE) (σ : L2.St) (H : Hp) (Pv : V → Hp → Prop) : Prop := ∀ Q : VK, (∀ v H', Pv v H' → But d c H H' → Deck H' d c → Q v H') → te σ H Q
theorem lc_deck (A : Nat → List V → Hp → Prop) (kp : ∀ {i acc H H'}, (∀ a xs, SqT K H a xs → SqT K H' a xs) → A i acc H → A i acc H') (k : Deck H1 d c) (nD : H1 D = none) (h0 : A 0 [] H1) (hn : n ≤ 900)
    (hw : ∀ i : Int, wipe ((wipe σ vs).set j (some (.int i))) vs = wipe σ vs)
    (step : ∀ i acc H', i < n → But d c H1 H' → Deck H' d c → A i acc H' → Dr d c te ((wipe σ vs).set j (some (.int (0 + (i : Nat))))) H' (fun v H'' => A (i + 1) (acc ++ [v]) H''))
    (fin : ∀ acc H', acc.length = n → But d c H1 H' → Deck H' d c → H' D = some (.lst acc) → A n acc H' → Qd H') :
    ∃ W : Nat → Nat → Hp → Prop, (∃ m, W 0 m (upd H1 D (.lst []))) ∧ ∀ i m H, W i m H → ((Itr 0 n).stop i H ∧ Qd H) ∨ ((Itr 0 n).go i H ∧ ∃ Nx : Hp → Prop, (∀ H', Nx H' → ∃ m', m' < m ∧ W (i + 1) m' H') ∧ ∀ x H', (Itr 0 n).yld i H x H' →
      gName j x (wipe σ vs) H' fun σ2 H2 => wipe σ2 vs = wipe σ vs ∧ tYes σ2 H2 fun b H3 => if b = true then te σ2 H3 fun y H4 => ∃ acc, H4 D = some (.lst acc) ∧ acc.length < sizeLine ∧ Nx (upd H4 D (.lst (acc ++ [y]))) else Nx H3) := by
  obtain ⟨nDd, nDc⟩ := k.new nD
  refine lc_range (lo := 0) (n := n) (fun i H' => But d c H1 H' ∧ Deck H' d c ∧ ∃ acc, acc.length = i ∧ H' D = some (.lst acc) ∧ A i acc H') ⟨but_upd But.refl nD, k.upd nDd nDc, [], rfl, upd_same, kp (fun a xs h => BP.Same.tupS (same_new nD) h) h0⟩ (fun i H' hi hW => ?_) (fun H' hW => ?_)
  · obtain ⟨b, k', acc, la, hD, hA⟩ := hW
    refine ⟨hw _, yes_kept (step i acc H' hi b k' hA _ fun v H2 hv b2 k2 => ?_)⟩
    have hD2 := b2 _ _ nDd nDc hD
    exact ⟨acc, hD2, small1000 (by omega), but_upd (b.trans b2) nD, k2.upd nDd nDc, acc ++ [v], by rw [List.length_append, la]; rfl, upd_same, kp (fun a xs h => sqT_upd hD2 h) hv⟩
  · obtain ⟨b, k', acc, la, hD, hA⟩ := hW
    exact fin acc H' la b k' hD hA
variable {q : Nat} [FF : IsF q]
theorem FsAt.sq {H H' : Hp} (s : ∀ a xs, SqT K H a xs → SqT K H' a xs) : ∀ {vs : List V} {fs : List (Po q)}, FsAt K H vs fs → FsAt K H' vs fs
  | [], [], _ => trivial
  | _ :: _, _ :: _, ⟨⟨a, e, h⟩, k⟩ => ⟨⟨a, e, s _ _ h⟩, FsAt.sq s k⟩
  | [], _ :: _, h => h.elim
  | _ :: _, [], h => h.elim
/-- a list of drawn numbers of the field -/
theorem lc_els (K : PySem.W.Frag) (k : Deck H1 d c) (nD : H1 D = none) (hn : n ≤ 900)
    (hw : ∀ i : Int, wipe ((wipe σ vs).set j (some (.int i))) vs = wipe σ vs)
    (step : ∀ (i : Int) (H' : Hp), But d c H1 H' → Deck H' d c → Dr d c te ((wipe σ vs).set j (some (.int i))) H' (fun v _ => ∃ a : El q, v = vn a))
    (fin : ∀ (us : Po q) H', us.length = n → But d c H1 H' → Deck H' d c → H' D = some (.lst (vns us)) → Qd H') :
    ∃ W : Nat → Nat → Hp → Prop, (∃ m, W 0 m (upd H1 D (.lst []))) ∧ ∀ i m H, W i m H → ((Itr 0 n).stop i H ∧ Qd H) ∨ ((Itr 0 n).go i H ∧ ∃ Nx : Hp → Prop, (∀ H', Nx H' → ∃ m', m' < m ∧ W (i + 1) m' H') ∧ ∀ x H', (Itr 0 n).yld i H x H' →
      gName j x (wipe σ vs) H' fun σ2 H2 => wipe σ2 vs = wipe σ vs ∧ tYes σ2 H2 fun b H3 => if b = true then te σ2 H3 fun y H4 => ∃ acc, H4 D = some (.lst acc) ∧ acc.length < sizeLine ∧ Nx (upd H4 D (.lst (acc ++ [y]))) else Nx H3) := by
  refine lc_deck (K := K) (fun i acc _ => ∃ us : Po q, us.length = i ∧ acc = vns us) (fun _ h => h) k nD ⟨[], rfl, rfl⟩ hn hw (fun i acc H' _ b k' ⟨us, lu, e⟩ => ?_) (fun acc H' la b k' hD ⟨us, lu, e⟩ => fin us H' lu b k' (by rw [← e]; exact hD))
  intro Q kk
  refine step _ H' b k' Q fun v H2 ⟨a, hv⟩ b2 k2 => kk v H2 ⟨us ++ [a], by rw [List.length_append, lu]; rfl, ?_⟩ b2 k2
  subst e
  subst hv
  unfold vns
  rw [List.map_append]
  rfl
/-- a list of drawn bends -/
theorem lc_bds (k : Deck H1 d c) (nD : H1 D = none) (hn : n ≤ 900)
    (hw : ∀ i : Int, wipe ((wipe σ vs).set j (some (.int i))) vs = wipe σ vs)
    (step : ∀ (i : Int) (H' : Hp), But d c H1 H' → Deck H' d c → Dr d c te ((wipe σ vs).set j (some (.int i))) H' (fun v H'' => ∃ (a : Addr) (f : Po q), v = .ref a ∧ SqT K H'' a (vns f) ∧ IsB f ∧ f.length ≤ 7))
    (fin : ∀ xs (fs : List (Po q)) H', fs.length = n → But d c H1 H' → Deck H' d c → H' D = some (.lst xs) → FsAt K H' xs fs → (∀ f ∈ fs, IsB f ∧ f.length ≤ 7) → Qd H') :
    ∃ W : Nat → Nat → Hp → Prop, (∃ m, W 0 m (upd H1 D (.lst []))) ∧ ∀ i m H, W i m H → ((Itr 0 n).stop i H ∧ Qd H) ∨ ((Itr 0 n).go i H ∧ ∃ Nx : Hp → Prop, (∀ H', Nx H' → ∃ m', m' < m ∧ W (i + 1) m' H') ∧ ∀ x H', (Itr 0 n).yld i H x H' →
      gName j x (wipe σ vs) H' fun σ2 H2 => wipe σ2 vs = wipe σ vs ∧ tYes σ2 H2 fun b H3 => if b = true then te σ2 H3 fun y H4 => ∃ acc, H4 D = some (.lst acc) ∧ acc.length < sizeLine ∧ Nx (upd H4 D (.lst (acc ++ [y]))) else Nx H3) := by
  refine lc_deck (K := K) (fun i acc H' => ∃ fs : List (Po q), fs.length = i ∧ FsAt K H' acc fs ∧ ∀ f ∈ fs, IsB f ∧ f.length ≤ 7) (fun s h => ⟨h.choose, h.choose_spec.1, h.choose_spec.2.1.sq s, h.choose_spec.2.2⟩) k nD ⟨[], rfl, trivial, fun f h => by cases h⟩ hn hw (fun i acc H' _ b k' ⟨fs, lf, hf, hB⟩ => ?_) (fun acc H' la b k' hD ⟨fs, lf, hf, hB⟩ => fin acc fs H' lf b k' hD hf hB)
  intro Q kk
  refine step _ H' b k' Q fun v H2 ⟨a, f, hv, ha, h1, h2⟩ b2 k2 => kk v H2 ⟨fs ++ [f], by rw [List.length_append, lf]; rfl, ?_, fun y hy => ?_⟩ b2 k2
  · rw [hv]
    exact (hf.sq (But.sqT k' b2)).snoc ha
  · rcases List.mem_append.mp hy with h | h
    · exact hB y h
    · rw [List.mem_singleton.mp h]
      exact ⟨h1, h2⟩
end
def spSbd (K : PySem.W.Frag) : Sp := fun vs H Q _ => ∃ (q : Nat) (_ : IsF q) (d c : Addr) (m : Nat), vs = [.ref d, .int q, .int m] ∧ Deck H d c ∧ 2 ≤ m ∧
  ∀ (r : Addr) (f : Po q) (H' : Hp), But d c H H' → Deck H' d c → SqT K H' r (vns f) → IsB f → f.length ≤ 7 → f.length ≤ m + 1 → Q (.ref r) H'
def spSbo : Sp := fun vs H Q _ => ∃ (q : Nat) (_ : IsF q) (d c : Addr), vs = [.ref d, .int q] ∧ Deck H d c ∧
  ∀ (r : Addr) (t : Mat q) (H' : Hp), But d c H H' → Deck H' d c → H' r = some (.tup (mv t)) → Tri t → Q (.ref r) H'
def spSsp (K : PySem.W.Frag) : Sp := fun vs H Q _ => ∃ (q : Nat) (_ : IsF q) (d c F : Addr) (m g : Nat), vs = [.ref d, .ref F, .int m, .int g] ∧ Deck H d c ∧ FieldAt d c H F q ∧ m ≤ 12 ∧ 2 ≤ g ∧
  ∀ (r : Addr) (z : Sta q) (H' : Hp), But d c H H' → Deck H' d c → StepAt K H' r z → Fit z → z.st.length ≤ m → Q (.ref r) H'
def spSsh (K : PySem.W.Frag) : Sp := fun vs H Q _ => ∃ (q : Nat) (_ : IsF q) (d c F : Addr) (m g : Nat), vs = [.ref d, .ref F, .int m, .int g] ∧ Deck H d c ∧ FieldAt d c H F q ∧ 1 ≤ m ∧ m ≤ 12 ∧ 2 ≤ g ∧
  ∀ (r : Addr) (z : Sta q) (H' : Hp), But d c H H' → Deck H' d c → StepAt K H' r z → Fit z → z.st.length = m → oS z.st = none → (∃ t n, Tri n ∧ z.last = thn (turn t) n) → Q (.ref r) H'
def spSkd (K : PySem.W.Frag) : Sp := fun vs H Q _ => ∃ (q : Nat) (_ : IsF q) (d c F : Addr) (m g : Nat), vs = [.ref d, .ref F, .int m, .int g] ∧ Deck H d c ∧ FieldAt d c H F q ∧ m ≤ 12 ∧ 2 ≤ g ∧
  ∀ (r : Addr) (z : Sta q) (H' : Hp), But d c H H' → Deck H' d c → StepAt K H' r z → Fit z → z.st.length ≤ m + 6 → Q (.ref r) H'
/-- the depth of a place -/
def dp {q : Nat} [IsF q] (x : Pl q) : Nat := 2 * x.2.2.2.length + (if x.1 = true then 1 else 0)
def spSpw (K : PySem.W.Frag) : Sp := fun vs H Q _ => ∃ (q : Nat) (_ : IsF q) (d c p : Addr) (n : Nat) (x : Pl q), vs = [.ref d, .int q, .ref p, .int n] ∧ Deck H d c ∧ n ≤ 60 ∧ PA K H p x ∧ PO x ∧ x.2.2.2.length ≤ 40 ∧
  ∀ (r : Addr) (y : Pl q) (H' : Hp), But d c H H' → Deck H' d c → PA K H' r y → PO y → y.2.2.2.length ≤ x.2.2.2.length + n → dp y = dp x + n → Q (.ref r) H'
end BP
set_option Elab.async false
set_option linter.all false
set_option maxRecDepth 100000
set_option maxHeartbeats 2000000
set_option pp.maxSteps 3000
namespace K13
open PySem PySem.Spec PyProof.Rows L2 BP Fld
section
variable {P : Program} {w : World} {K : PySem.W.Frag} {mg : Str → Option Value} {base : Heap}
theorem z0 {q : Nat} [F : IsF q] {a : El q} (h : decide (vn a = V.int 0) = true) : a = 0 := vn_inj (by rw [vn_zero]; exact of_decide_eq_true h)
theorem z1 {q : Nat} [F : IsF q] {a : El q} (h : ¬ decide (vn a = V.int 0) = true) : a ≠ 0 := fun e => h (by rw [e, vn_zero]; exact decide_eq_true rfl)
theorem z2 {q : Nat} [F : IsF q] {a b : El q} (h : decide (vn a = vn b) = true) : a = b := vn_inj (of_decide_eq_true h)
theorem z3 {q : Nat} [F : IsF q] {a b : El q} (h : ¬ decide (vn a = vn b) = true) : a ≠ b := fun e => h (by rw [e]; exact decide_eq_true rfl)
theorem ok_sbd {f fDR fPK : Addr} {fd fdDR fdPK : FuncData} (F : Fun K "_law_some_bend" "_law_some_bend" sLSomeBend f fd) (DR : BP.Can P w K mg base "_law_draw" 1 pLDraw spDraw fDR fdDR) (PK : BP.Can P w K mg base "_law_pick" 2 pLPick spPick fPK fdPK) (m_min : mg "min" = none) (m_list : mg "list" = none) (m_range : mg "range" = none) (m_tuple : mg "tuple" = none) : FnOk P w K mg base CX0 3 f fd pLSomeBend (spSbd K) := by
  refine F.ok scLSomeBend (fun vs H Q E h => ?_) (fun cdv A outer s H vs Q E hr h => ?_)
  · obtain ⟨q, _, d, c, m, rfl, _⟩ := h
    rfl
  · obtain ⟨q, FF, d, c, m, rfl, hk, hm, want⟩ := h
    have q16 := le16 FF.mem
    have q1 := gt1 FF.mem
    refine ⟨_, (pss_cons (ps_set (i := 3) scLSomeBend.nd rfl (.inl rfl) (pe_callB (call_min2 rfl) (by rfl) m_min (by decide +kernel) (pa_cons (pv 2) (pa_cons (pe_call PK.ok hr (by rfl) PK.g PK.kp PK.b .nil pass0 (pa_cons (pv 0) (pa_cons (pe_lst (pa_cons pe_int (pa_cons pe_int (pa_cons pe_int (pa_cons pe_int (pa_cons pe_int (pa_cons pe_int (pa_cons pe_int (pa_cons pe_int pa_nil))))))))) pa_nil))) pa_nil))))
      (pss_cons (ps_set (i := 4) scLSomeBend.nd rfl (.inr rfl) (pe_op op_cat (pe_op op_rep (pe_lst (pa_cons pe_int pa_nil)) (pe_call PK.ok hr (by rfl) PK.g PK.kp PK.b .nil pass0 (pa_cons (pv 0) (pa_cons (pe_lst (pa_cons pe_int (pa_cons (pe_op op_mul pe_int (pv 1)) pa_nil))) pa_nil)))) (pe_listRg rfl rfl m_list (prg_1 rfl m_range (pv 1)))))
      (pss_one (ps_ret (pe_op op_catA (pe_op op_catA (pe_tup (pa_cons pe_int (pa_cons pe_int pa_nil))) (pe_tupleOf rfl m_tuple (pe_lc (own := [("_law_at", 5)]) (g := gName 5) (tt := tYes) rfl scLSomeBend.nd (pi_range1 rfl m_range (pa_cons (pe_op op_sub (pv 3) pe_int) pa_nil)) (blkOk_by (N := nLSomeBend) (sc := defScope sLSomeBend) (by decide +kernel)) (fun _ _ _ _ _ => (pg_name (i := 5) scLSomeBend.nd rfl (.inl rfl))) (fun _ _ _ _ _ => pts_nil) (fun _ _ _ _ _ => (pe_call PK.ok hr (by rfl) PK.g PK.kp PK.b .nil pass0 (pa_cons (pv 0) (pa_cons (pv 4) pa_nil))))))) (pe_tup (pa_cons (pe_op op_add pe_int (pe_call DR.ok (hr.mono (show 1 ≤ 2 by decide)) (by rfl) DR.g DR.kp DR.b .nil pass0 (pa_cons (pv 0) (pa_cons (pe_op op_sub (pv 1) pe_int) pa_nil)))) pa_nil))))))), ?_⟩
    refine ⟨.int m, rfl, .ref d, rfl, (by show 8 ≤ sizeLine; decide), fun l nl => ?_⟩
    have s1 := same_new (o := .lst ([2, 2, 3, 4, 2, 3, 5, 6].map V.int)) nl
    have nw := hk.new nl
    refine ⟨d, c, l, [2, 2, 3, 4, 2, 3, 5, 6].map V.int, rfl, hk.same s1, nw.2, upd_same, by decide, by decide, fun x H1 hx b1 k1 => ?_⟩
    obtain ⟨i, hi, rfl⟩ := List.mem_map.mp hx
    have hi6 : 2 ≤ i ∧ i ≤ 6 := by
      simp only [List.mem_cons, List.not_mem_nil, or_false] at hi
      omega
    obtain ⟨g, eg, g2, g6, gm⟩ : ∃ g : Nat, (if i < (m : Int) then i else (m : Int)) = (g : Int) ∧ 2 ≤ g ∧ g ≤ 6 ∧ g ≤ m := by
      refine ⟨(if i < (m : Int) then i else (m : Int)).toNat, ?_, ?_, ?_, ?_⟩ <;> split <;> omega
    refine ⟨m, i, rfl, ?_⟩
    rw [eg]
    have b1 : But d c H H1 := (But.of s1).trans b1
    clear hx hi hi6 eg
    -- some
    refine ⟨(by show 1 ≤ sizeLine; decide), fun z nz => ?_⟩
    have s2 := same_new (o := .lst [V.int 0]) nz
    have hz := upd_same (H := H1) (a := z) (o := HO.lst [V.int 0])
    have zc := k1.new nz
    refine ⟨.ref d, rfl, .int q, rfl, 2, q, rfl, rfl, .inl ⟨by omega, by omega⟩, (by show 2 ≤ sizeLine; decide), fun l2 nl2 => ?_⟩
    have s3 := same_new (o := .lst [V.int 0, V.int (2 * (q : Int))]) nl2
    have nw2 := (k1.same s2).new nl2
    refine ⟨d, c, l2, [V.int 0, V.int (2 * (q : Int))], rfl, (k1.same s2).same s3, nw2.2, upd_same, by show 0 < 2; decide, by show 2 < 1000; decide, fun x H2 hx b2 k2 => ?_⟩
    obtain ⟨r, hr32, rfl⟩ : ∃ r : Nat, r ≤ 32 ∧ x = .int r := by
      simp only [List.mem_cons, List.not_mem_nil, or_false] at hx
      rcases hx with rfl | rfl
      · exact ⟨0, by omega, rfl⟩
      · exact ⟨2 * q, by omega, congrArg V.int (by omega)⟩
    have hz := b2 _ _ zc.1 zc.2 (s3 _ _ hz)
    refine ⟨z, r, [.int 0], rfl, rfl, hz, by omega, by omega, ?_, fun p np => ?_⟩
    · show 1 * (r : Int).toNat ≤ sizeLine
      exact Nat.le_trans (show 1 * (r : Int).toNat ≤ 1000 by omega) (by decide)
    have s4 := same_new (o := .lst (List.replicate (r : Int).toNat [V.int 0]).flatten) np
    refine ⟨.int q, rfl, q, rfl, ⟨by omega, by omega, by omega, by omega⟩, fun a na => ?_⟩
    have s5 := same_new (o := .lst (rgV 0 q)) na
    have hall : ∀ x ∈ (List.replicate (r : Int).toNat [V.int 0]).flatten ++ rgV 0 (q : Int), ∃ a : El q, x = vn a := by
      intro x hx
      rcases List.mem_append.mp hx with h | h
      · obtain ⟨l, hl, hx⟩ := List.mem_flatten.mp h
        rw [(List.mem_replicate.mp hl).2] at hx
        exact ⟨0, by rw [vn_zero]; exact List.mem_singleton.mp hx⟩
      · unfold rgV at h
        obtain ⟨j, hj, rfl⟩ := List.mem_map.mp h
        have := List.mem_range.mp hj
        exact ⟨⟨j, by omega⟩, congrArg V.int (by show (0 : Int) + j = j; omega)⟩
    have lall : ((List.replicate (r : Int).toNat [V.int 0]).flatten ++ rgV 0 (q : Int)).length = r + q := by
      unfold rgV
      simp
    refine ⟨p, a, _, _, rfl, rfl, s5 _ _ upd_same, upd_same, ?_, fun L nL => ?_⟩
    · rw [← List.length_append, lall]
      exact Nat.le_trans (show r + q ≤ 1000 by omega) (by decide)
    have k3 := (k2.same s4).same s5
    have Lc := k3.new nL
    have s6 := same_new (o := .lst ((List.replicate (r : Int).toNat [V.int 0]).flatten ++ rgV 0 (q : Int))) nL
    have hL := upd_same (H := (upd (upd H2 p (.lst (List.replicate (r : Int).toNat [V.int 0]).flatten)) a (.lst (rgV 0 q)))) (a := L) (o := HO.lst ((List.replicate (r : Int).toNat [V.int 0]).flatten ++ rgV 0 (q : Int)))
    generalize (List.replicate (r : Int).toNat [V.int 0]).flatten ++ rgV 0 (q : Int) = som at hall lall s6 hL ⊢
    have b4 := b1.trans ((But.of (s2.trans s3)).trans (b2.trans (But.of (s4.trans (s5.trans s6)))))
    have k4 := k3.same s6
    generalize upd (upd (upd H2 p _) a _) L _ = H3 at hL b4 k4 ⊢
    clear s1 s2 s3 s4 s5 s6 k3 k1 k2 b2 hz b1 nL na np nl2 nz
    show Ends.nx _ [some (.ref d), some (.int q), some (.int m), some (.int g), some (.ref L), none] H3
    dsimp only []
    -- the bend
    refine ⟨(by show 2 ≤ sizeLine; decide), fun u nu => ?_⟩
    have s7 := same_new (o := .tup [V.int 0, V.int 0]) nu
    have hu7 : SqT K (upd H3 u (.tup [V.int 0, V.int 0])) u [V.int 0, V.int 0] := .inl (.inl upd_same)
    have hL7 := s7 _ _ hL
    have k7 := k4.same s7
    refine ⟨.int g, rfl, g, 2, rfl, rfl, _, rfl, by omega, by omega, fun D nD => lc_els K (q := q) (n := ((g : Int) - 2).toNat) k7 nD (by omega) (fun _ => rfl) (fun i H' b' k' Q' kk => ?_) (fun us H' lus b' k' hD => ?_)⟩
    · refine ⟨.ref d, rfl, .ref L, rfl, d, c, L, som, rfl, k', Lc.2, b' _ _ Lc.1 Lc.2 hL7, by omega, by omega, fun x H2 hx b2 k2 => kk x H2 (hall x hx) b2 k2⟩
    · have lus : us.length = g - 2 := by omega
      refine .inl ⟨D, _, rfl, .inl (.inl hD), fun t nt => ?_⟩
      have s8 := same_new (o := .tup (vns us)) nt
      have h8 := BP.Same.tupS s8 (But.sqT k7 b' _ _ hu7)
      have hl : (vns us).length = us.length := List.length_map ..
      refine catA h8 (.inl (.inl upd_same)) (Nat.le_trans (show 2 + (vns us).length ≤ 1000 by rw [hl]; omega) (by decide)) fun p H9 s9 hp => ?_
      have k9 := (k'.same s8).same s9
      refine dl_ne (q := q) rfl rfl H9 _ k9 fun v HA ⟨b, bne, eb⟩ bA kA => ?_
      subst eb
      dsimp only [tNil]
      refine ⟨(by show 1 ≤ sizeLine; decide), fun w nw => ?_⟩
      have sB := same_new (o := .tup [vn b]) nw
      refine catA (BP.Same.tupS sB (But.sqT k9 bA _ _ hp)) (.inl (.inl upd_same)) (by show ([V.int 0, V.int 0] ++ vns us).length + 1 ≤ sizeLine; rw [List.length_append, hl]; exact Nat.le_trans (show 2 + us.length + 1 ≤ 1000 by omega) (by decide)) fun r HC sC hr => ?_
      have top : co (0 :: 0 :: (us ++ [b])) (us.length + 2) = b := by
        show co (us ++ [b]) us.length = b
        unfold co
        rw [List.getD_eq_getElem?_getD, List.getElem?_append_right (Nat.le_refl _), Nat.sub_self]
        rfl
      have bF : But d c H HC := b4.trans ((But.of s7).trans (b'.trans ((But.of (s8.trans s9)).trans (bA.trans (But.of (sB.trans sC))))))
      refine want r (0 :: 0 :: (us ++ [b])) HC bF ((kA.same sB).same sC) ?_ ⟨⟨trim_of_top (n := us.length + 2) (by simp) (by rw [top]; exact bne), rfl, rfl⟩, fun z => by cases z⟩ (by simp; omega) (by simp; omega)
      have e : [V.int 0, V.int 0] ++ vns us ++ [vn b] = vns (0 :: 0 :: (us ++ [b])) := by
        unfold vns
        rw [List.map_cons, List.map_cons, List.map_append, vn_zero]
        rfl
      rw [← e]
      exact hr
end
end K13
set_option Elab.async false
set_option linter.all false
set_option maxRecDepth 100000
set_option maxHeartbeats 2000000
set_option pp.maxSteps 3000
namespace K13
open PySem PySem.Spec PyProof.Rows L2 BP Fld
section
variable {P : Program} {w : World} {K : PySem.W.Frag} {mg : Str → Option Value} {base : Heap}
/-- a step of drawn parts -/
theorem fit_of {q : Nat} [F : IsF q] {o : Option (El q)} {us : Po q} {fs : List (Po q)} {m : Mat q} (hl : us.length = fs.length - 1) (ho : fs = [] → o = none) (hB : ∀ f ∈ fs, IsB f ∧ f.length ≤ 7) (hd : det m ≠ 0) (le : fs.length ≤ 200) :
    Fit (⟨mkS o us fs, m⟩ : Sta q) ∧ (mkS o us fs).length = fs.length := by
  have ln : (mkS o us fs).length = fs.length := mk_len (by omega)
  refine ⟨⟨⟨?_, hd⟩, ?_, by rw [ln]; exact le⟩, ln⟩
  · by_cases h : fs = []
    · subst h
      rw [mkS_nil]
      trivial
    · exact mk_good (by cases fs with | nil => exact absurd rfl h | cons a b => simp at hl ⊢; omega) fun f hf => (hB f hf).1
  · intro x hx
    have hx : x ∈ mkS o us fs := hx
    unfold mkS at hx
    exact (hB _ (List.of_mem_zip (List.mem_reverse.mp hx)).2).2
theorem ov_1 {q : Nat} [F : IsF q] {x : Nat} (h : x < q + 1) : ∃ o : Option (El q), V.int ((x : Int) - 1) = ov o := by
  cases x with
  | zero => exact ⟨none, rfl⟩
  | succ n => exact ⟨some ⟨n, by omega⟩, congrArg V.int (by show ((n + 1 : Nat) : Int) - 1 = (n : Int); omega)⟩
end
end K13
set_option Elab.async false
set_option linter.all false
set_option maxRecDepth 100000
set_option maxHeartbeats 2000000
set_option pp.maxSteps 3000
namespace K13
open PySem PySem.Spec PyProof.Rows L2 BP Fld
section
variable {P : Program} {w : World} {K : PySem.W.Frag} {mg : Str → Option Value} {base : Heap}
end
end K13
set_option Elab.async false
set_option linter.all false
set_option maxRecDepth 100000
set_option maxHeartbeats 2000000
set_option pp.maxSteps 3000
namespace K13
open PySem PySem.Spec PyProof.Rows L2 BP Fld
section
variable {P : Program} {w : World} {K : PySem.W.Frag} {mg : Str → Option Value} {base : Heap}
theorem ok_spw {f fDR fSBD : Addr} {fd fdDR fdSBD : FuncData} (F : Fun K "_law_some_place" "_law_some_place" sLSomePlace f fd) (DR : BP.Can P w K mg base "_law_draw" 1 pLDraw spDraw fDR fdDR) (SBD : BP.Can P w K mg base "_law_some_bend" 3 pLSomeBend (spSbd K) fSBD fdSBD) (m_range : mg "range" = none) : FnOk P w K mg base CX0 4 f fd pLSomePlace (spSpw K) := by
  refine F.ok scLSomePlace (fun vs H Q E h => ?_) (fun cdv A outer s H vs Q E hr h => ?_)
  · obtain ⟨q, _, d, c, p, n, x, rfl, _⟩ := h
    rfl
  · obtain ⟨q, FF, d, c, p, n, x₀, rfl, hk, hn, hp, ox, lx, want⟩ := h
    have q16 := le16 FF.mem
    have q1 := gt1 FF.mem
    refine ⟨_, (pss_cons (ps_for PassesOwn.never rfl (pi_range1 rfl m_range (pa_cons (pv 3) pa_nil)) (pg_name (i := 4) scLSomePlace.nd rfl (.inl rfl)) (pss_cons (ps_asg (pv 2) (pg_tup rfl (pgs_cons (pg_name (i := 5) scLSomePlace.nd rfl (.inl rfl)) (pgs_cons (pg_name (i := 6) scLSomePlace.nd rfl (.inl rfl)) (pgs_cons (pg_name (i := 7) scLSomePlace.nd rfl (.inl rfl)) (pgs_cons (pg_name (i := 8) scLSomePlace.nd rfl (.inl rfl)) pgs_nil))))))
        (pss_one (ps_if (pt_cmpR op_eq (pv 5) pe_str (nomark _)) (pss_one (ps_set (i := 2) scLSomePlace.nd rfl (.inl rfl) (pe_tup (pa_cons pe_str (pa_cons (pv 6) (pa_cons (pe_op op_catA (pv 7) (pe_tup (pa_cons (pe_call SBD.ok hr (by rfl) SBD.g SBD.kp SBD.b .nil pass0 (pa_cons (pv 0) (pa_cons (pv 1) (pa_cons pe_int pa_nil)))) pa_nil))) (pa_cons (pv 8) pa_nil))))))) (pss_one (ps_if (pt_cmpR (op_eqE (Nat.lt_of_le_of_lt (Nat.le_add_right _ 64) hr.units)) (pv 7) (pe_tup pa_nil) (nomark _)) (pss_one (ps_set (i := 2) scLSomePlace.nd rfl (.inl rfl) (pe_tup (pa_cons pe_str (pa_cons (pe_op op_sub (pe_call DR.ok (hr.mono (show 1 ≤ 3 by decide)) (by rfl) DR.g DR.kp DR.b .nil pass0 (pa_cons (pv 0) (pa_cons (pe_op op_add (pv 1) pe_int) pa_nil))) pe_int) (pa_cons (pe_tup pa_nil) (pa_cons (pe_tup pa_nil) pa_nil))))))) (pss_one (ps_set (i := 2) scLSomePlace.nd rfl (.inl rfl) (pe_tup (pa_cons pe_str (pa_cons (pv 6) (pa_cons (pv 7) (pa_cons (pe_op op_catA (pv 8) (pe_tup (pa_cons (pe_call DR.ok (hr.mono (show 1 ≤ 3 by decide)) (by rfl) DR.g DR.kp DR.b .nil pass0 (pa_cons (pv 0) (pa_cons (pv 1) pa_nil))) pa_nil))) pa_nil)))))))))))))
      (pss_one (ps_ret (pv 2)))), ?_⟩
    refine ⟨.int n, rfl, n, rfl, by omega, by omega, ?_⟩
    refine for_range (lo := 0) (n := (n : Int).toNat) (fun i σ H' => But d c H H' ∧ Deck H' d c ∧ ∃ (r : Addr) (y : Pl q) (y4 y5 y6 y7 y8 : Option V), σ = [some (.ref d), some (.int q), some (.ref r), some (.int n), y4, y5, y6, y7, y8] ∧ PA K H' r y ∧ PO y ∧ y.2.2.2.length ≤ x₀.2.2.2.length + i ∧ dp y = dp x₀ + i)
      ⟨But.refl, hk, p, x₀, none, none, none, none, none, rfl, hp, ox, Nat.le_refl _, rfl⟩ (fun i σ H' hi hW => ?_) (fun σ H' hW => ?_)
    · obtain ⟨b1, k1, r, ⟨b, o, us, fs⟩, y4, y5, y6, y7, y8, rfl, ⟨bs, a, t, h1, h2, h3, h4⟩, oy, ly, ey⟩ := hW
      have hi' : i < n := by omega
      have lf : fs.length ≤ x₀.2.2.2.length + i := ly
      refine ⟨_, rfl, ?_⟩
      dsimp only []
      refine ⟨r, _, rfl, h1, rfl, _, [_, _, _], rfl, _, [_, _], rfl, _, [_], rfl, _, [], rfl, rfl, ?_⟩
      have lfs := h3.len
      cases b with
      | true =>
        refine ⟨_, rfl, rfl, _, rfl, ite2 (fun _ => ?_) (fun z => absurd (by exact decide_eq_true rfl) z)⟩
        have hbt : us.length = fs.length := oy.bent rfl
        refine ⟨_, rfl, _, rfl, .ref d, rfl, .int q, rfl, q, FF, d, c, 6, rfl, k1, by decide, fun u f H2 b2 k2 hu hf f7 _ => ⟨(by show 1 ≤ sizeLine; decide), fun w nw => ?_⟩⟩
        have s3 := same_new (o := .tup [V.ref u]) nw
        have kp3 : ∀ a zs, SqT K H' a zs → SqT K (upd H2 w (.tup [V.ref u])) a zs := fun a zs h => BP.Same.tupS s3 (But.sqT k1 b2 _ _ h)
        refine catA (K := K) (ys := [V.ref u]) (kp3 _ _ h2) (.inl (.inl upd_same)) (by show bs.length + 1 ≤ sizeLine; exact Nat.le_trans (show bs.length + 1 ≤ 1000 by omega) (by decide)) fun z H4 s4 hz => ⟨_, rfl, (by show 4 ≤ sizeLine; decide), fun p2 np => ?_⟩
        have s5 := same_new (o := .tup [V.str "straight", ov o, .ref z, .ref t]) np
        have s45 := s4.trans s5
        refine ⟨b1.trans (b2.trans (But.of (s3.trans s45))), ((k2.same s3).same s4).same s5, p2, (false, o, us, fs ++ [f]), _, _, _, _, _, rfl, ⟨bs ++ [V.ref u], z, t, .inl (.inl upd_same), BP.Same.tupS s5 hz, ((h3.sq kp3).snoc (BP.Same.tupS s3 hu)).kept s45, BP.Same.tupS s45 (kp3 _ _ h4)⟩, ⟨fun y hy => ?_, ?_, (fun z => by cases z), fun _ => ⟨?_, fun e => ?_⟩⟩, ?_, ?_⟩
        · rcases List.mem_append.mp hy with h | h
          · exact oy.fB y h
          · rw [List.mem_singleton.mp h]
            exact ⟨hf, f7⟩
        · rw [List.length_append]
          show fs.length + 1 ≤ 200
          omega
        · rw [List.length_append]
          show us.length = fs.length + 1 - 1
          omega
        · cases fs <;> cases e
        · show (fs ++ [f]).length ≤ _
          rw [List.length_append]
          show fs.length + 1 ≤ _
          omega
        · have ey : 2 * fs.length + 1 = dp x₀ + i := ey
          show 2 * (fs ++ [f]).length + 0 = dp x₀ + (i + 1)
          rw [List.length_append]
          show 2 * (fs.length + 1) + 0 = dp x₀ + (i + 1)
          omega
      | false =>
        refine ⟨.str "straight", rfl, rfl, _, rfl, ite2 (fun z => absurd (V.str.inj (of_decide_eq_true z)) (by decide +kernel)) (fun _ => ?_)⟩
        obtain ⟨hs1, hs2⟩ := oy.str rfl
        have hs1 : us.length = fs.length - 1 := hs1
        refine ⟨_, rfl, Nat.zero_le _, fun e ne => ?_⟩
        have s2 := same_new (o := .tup ([] : List V)) ne
        refine ⟨a, e, bs, rfl, rfl, BP.Same.tupS s2 h2, .inl (.inl upd_same), _, rfl, ?_⟩
        have k2 := k1.same s2
        cases fs with
        | nil =>
          have eb : bs = [] := List.length_eq_zero_iff.mp lfs
          subst eb
          refine iteT ?_
          refine ⟨.ref d, rfl, .int q, rfl, q, 1, rfl, rfl, d, c, q + 1, rfl, k2, by omega, by omega, fun x H3 hx b3 k3 => ?_⟩
          obtain ⟨o', eo⟩ := ov_1 (q := q) hx
          refine ⟨x, 1, rfl, rfl, Nat.zero_le _, fun a1 n1 => ⟨Nat.zero_le _, fun a2 n2 => ⟨(by show 4 ≤ sizeLine; decide), fun p2 np => ?_⟩⟩⟩
          have t1 := same_new (o := .tup ([] : List V)) n1
          have t2 := same_new (o := .tup ([] : List V)) n2
          have t3 := same_new (o := .tup [V.str "bent", V.int ((x : Int) - 1), .ref a1, .ref a2]) np
          refine ⟨b1.trans ((But.of s2).trans (b3.trans (But.of (t1.trans (t2.trans t3))))), ((k3.same t1).same t2).same t3, p2, (true, o', [], []), _, _, _, _, _, rfl, ⟨[], a1, a2, .inl (.inl (by rw [upd_same, ← eo]; rfl)), .inl (.inl (t3 _ _ (t2 _ _ upd_same))), trivial, .inl (.inl (t3 _ _ upd_same))⟩, ⟨(fun y hy => nomatch hy), Nat.zero_le _, fun _ => rfl, (fun z => by cases z)⟩, Nat.zero_le _, by
            have ey : 2 * 0 + 0 = dp x₀ + i := ey
            show 2 * 0 + 1 = dp x₀ + (i + 1)
            omega⟩
        | cons g gs =>
          have eb : bs.isEmpty = false := by
            cases bs with
            | nil => cases lfs
            | cons _ _ => rfl
          rw [eb]
          refine iteF ?_
          refine ⟨_, rfl, _, rfl, _, rfl, ?_⟩
          refine dl_el (q := q) rfl rfl _ _ k2 fun v H3 ⟨x', ex⟩ b3 k3 => ?_
          subst ex
          dsimp only [tNil]
          refine ⟨(by show 1 ≤ sizeLine; decide), fun w nw => ?_⟩
          have s4 := same_new (o := .tup [vn x']) nw
          have kp : ∀ a zs, SqT K H' a zs → SqT K (upd H3 w (.tup [vn x'])) a zs := fun a zs h => BP.Same.tupS s4 (But.sqT k2 b3 _ _ (BP.Same.tupS s2 h))
          have lu : (vns us).length = us.length := List.length_map ..
          refine catA (ys := [vn x']) (kp _ _ h4) (.inl (.inl upd_same)) (by show (vns us).length + 1 ≤ sizeLine; rw [lu]; exact Nat.le_trans (show us.length + 1 ≤ 1000 by omega) (by decide)) fun z H5 s5 hz => ⟨(by show 4 ≤ sizeLine; decide), fun p2 np => ?_⟩
          have s6 := same_new (o := .tup [V.str "bent", ov o, .ref a, .ref z]) np
          have s56 := s5.trans s6
          refine ⟨b1.trans ((But.of s2).trans (b3.trans (But.of (s4.trans s56)))), ((k3.same s4).same s5).same s6, p2, (true, o, us ++ [x'], g :: gs), _, _, _, _, _, rfl, ⟨bs, a, z, .inl (.inl upd_same), BP.Same.tupS s56 (kp _ _ h2), (h3.sq kp).kept s56, BP.Same.tupS s6 ?_⟩, ⟨oy.fB, oy.lf, fun _ => ?_, (fun z => by cases z)⟩, ?_, ?_⟩
          · unfold vns at hz ⊢
            rw [List.map_append]
            exact hz
          · rw [List.length_append]
            show us.length + 1 = gs.length + 1
            rw [hs1]
            rfl
          · show (g :: gs).length ≤ _
            omega
          · have ey : 2 * (g :: gs).length + 0 = dp x₀ + i := ey
            show 2 * (g :: gs).length + 1 = dp x₀ + (i + 1)
            omega
    · obtain ⟨b1, k1, r, y, y4, y5, y6, y7, y8, rfl, h1, h2, h3, h4⟩ := hW
      exact ⟨_, rfl, want r y H' b1 k1 h1 h2 (by omega) (by omega)⟩
end
end K13
set_option Elab.async false
set_option linter.all false
set_option maxRecDepth 100000
set_option maxHeartbeats 1000000
set_option pp.maxSteps 2000
namespace Fld
end Fld
namespace BP
open PySem PySem.Spec PyProof.Rows L2 Fld K13
section
variable {q : Nat} [FF : IsF q] {K : PySem.W.Frag} {σ : L2.St} {H : Hp}
def pD (x : Pl q) : PyData := plD x.1 x.2.1 x.2.2.1 x.2.2.2
theorem dp_pa {r : Addr} {x : Pl q} (h : PA K H r x) : Dp K H (.ref r) (pD x) := dp_pl h
theorem sm_pa {x : Pl q} (h : PO x) : Sm (pD x) 20000 3 := sm_pl h
theorem zd_pl {i : Nat} {r : Addr} {x : Pl q} (hi : σ[i]? = some (some (.ref r))) (h : PA K H r x) : Zd K (tVar i) σ H (pD x) := fun Q k => ⟨.ref r, hi, k r H Same.rf (dp_pa h)⟩
theorem zd_st {i : Nat} {r : Addr} {z : Sta q} (hi : σ[i]? = some (some (.ref r))) (h : StepAt K H r z) : Zd K (tVar i) σ H (stD z) := zd_of (zs_var hi h)
theorem Sm.bl (b : Bool) : Sm (.bool b) 6 0 := ⟨by simp [PyData.canLay0], by simp [PyData.showable], by simp [PyData.intsShort], by simp [PyData.depth], by cases b <;> simp [PyData.weight]⟩
theorem sm2 {a b : PyData} (h : Sm a 20000 3) (g : Sm b 20000 3) : Sm (.tuple [a, b]) 50000 4 := (Sm.tup (SmAll.cons h (SmAll.cons g (SmAll.nil (w := 0))))).more (by decide) (Nat.le_refl _)
theorem sm3 {a b c : PyData} (h : Sm a 20000 3) (g : Sm b 20000 3) (f : Sm c 20000 3) : Sm (.tuple [a, b, c]) 70000 4 := (Sm.tup (SmAll.cons h (SmAll.cons g (SmAll.cons f (SmAll.nil (w := 0)))))).more (by decide) (Nat.le_refl _)
theorem sm2b {a : PyData} {b : Bool} (h : Sm a 20000 3) : Sm (.tuple [a, .bool b]) 50000 4 := (Sm.tup (SmAll.cons h (SmAll.cons ((Sm.bl b).more (Nat.le_refl _) (by decide)) (SmAll.nil (w := 0))))).more (by decide) (Nat.le_refl _)
theorem zPl_f {z : Sta q} : zPl false z = (false, oS z.st, uS z.st, fS z.st) := rfl
/-- the two places of a step are beside one another -/
theorem beside_pl (z : Sta q) : (((zPl true z).1 = true ∨ (zPl true z).2.2.2 ≠ []) ∧ ahP (zPl true z) = zPl false z) ∨ (((zPl false z).1 = true ∨ (zPl false z).2.2.2 ≠ []) ∧ ahP (zPl false z) = zPl true z) := by
  obtain ⟨st, l⟩ := z
  cases e1 : (tm l).1 with
  | none =>
    rw [zPl_none (z := ⟨st, l⟩) e1, zPl_f]
    cases st with
    | nil =>
      refine .inl ⟨.inl rfl, ?_⟩
      simp [ahP, ahO, ahU, ahF, oS, uS, fS]
    | cons x r =>
      refine .inr ⟨.inr ?_, ?_⟩
      · show fS (x :: r) ≠ []
        intro z
        have := fS_len (x :: r)
        rw [z] at this
        cases this
      · simp [ahP, ahO, ahU, ahF]
  | some t =>
    cases st with
    | nil =>
      rw [zPl_nil (z := ⟨[], l⟩) e1 rfl, zPl_f]
      refine .inl ⟨.inl rfl, ?_⟩
      simp [ahP, ahO, ahU, ahF, oS, uS, fS]
    | cons x r =>
      rw [zPl_some (z := ⟨x :: r, l⟩) e1 (by intro z; cases z), zPl_f]
      have n : fS (x :: r) ≠ [] := fun z => by
        have := fS_len (x :: r)
        rw [z] at this
        cases this
      refine .inl ⟨.inl rfl, ?_⟩
      simp [ahP, ahO, ahU, ahF, n]
theorem plZ_len {x : Pl q} (h : PO x) : (plZ x).st.length = x.2.2.2.length := by
  obtain ⟨b, o, us, fs⟩ := x
  show (mkS o us fs).length = fs.length
  refine mk_len ?_
  cases b with
  | true =>
    have : us.length = fs.length := h.bent rfl
    omega
  | false =>
    have : us.length = fs.length - 1 := (h.str rfl).1
    omega
theorem zPl_len (z : Sta q) (b : Bool) : (zPl b z).2.2.2.length ≤ z.st.length := by
  have l := fS_len z.st
  cases b with
  | false =>
    show (fS z.st).length ≤ _
    omega
  | true =>
    cases e : (tm z.last).1 with
    | none =>
      rw [zPl_none e]
      show (fS z.st).dropLast.length ≤ _
      rw [List.length_dropLast]
      omega
    | some t =>
      by_cases h : z.st = []
      · rw [zPl_nil e h]
        exact Nat.zero_le _
      · rw [zPl_some e h]
        show (fS z.st).length ≤ _
        omega
/-- a step undone, with its length -/
theorem und_fit {z : Sta q} (h : Fit z) (l : z.st.length ≤ 90) : Fit (run empty (ur (rowOf z))) ∧ (run empty (ur (rowOf z))).st.length ≤ 2 * z.st.length + 1 := by
  have lg := rowOf_len z
  obtain ⟨i1, i2, i3⟩ := run_b7 (ur (rowOf z)) (s := empty) empty_ok (fun x h => nomatch h) (ur_ok (rowOf_ok7 h.1 h.2.1))
  have l3 : (ur (rowOf z)).length = (rowOf z).length := by
    unfold ur
    rw [List.length_reverse, List.length_map]
  have e0 : (empty : Sta q).st.length = 0 := rfl
  exact ⟨⟨i1, i2, by omega⟩, by omega⟩
theorem then_fit {y z : Sta q} (h : Fit y) (g : Fit z) (l : y.st.length + 2 * z.st.length ≤ 190) : Fit (run y (rowOf z)) := by
  have lg := rowOf_len z
  obtain ⟨i1, i2, i3⟩ := run_b7 (rowOf z) (s := y) h.1 h.2.1 (rowOf_ok7 g.1 g.2.1)
  exact ⟨i1, i2, by omega⟩
end
def spLie (K : PySem.W.Frag) : Sp := fun vs H Q _ => ∃ (q : Nat) (_ : IsF q) (F c : Addr) (z : Sta q), vs = [.ref F, .ref c] ∧ FieldV H F q ∧ StepAt K H c z ∧ Fit z ∧ z.st.length ≤ 40 ∧ ∀ H', Same H H' → Q (.bl true) H'
/-- a bent map -/
def Bm {q : Nat} [IsF q] (z : Sta q) : Prop := ∃ n, Tri n ∧ (z = ⟨[], n⟩ ∨ ∃ g, IsB g ∧ g.length ≤ 7 ∧ z = ⟨[(none, g)], n⟩)
def spGon (K : PySem.W.Frag) : Sp := fun vs H Q _ => ∃ (q : Nat) (_ : IsF q) (F p a b : Addr) (x : Pl q) (m : Mat q) (z : Sta q), vs = [.ref F, .ref p, .ref a, .ref b] ∧ FieldV H F q ∧ PA K H p x ∧ PO x ∧ x.2.2.2.length ≤ 60 ∧ StepAt K H a (⟨[], m⟩ : Sta q) ∧ det m ≠ 0 ∧ StepAt K H b z ∧ Bm z ∧ ∀ H', Same H H' → Q (.bl true) H'
end BP
set_option Elab.async false
set_option linter.all false
set_option maxRecDepth 100000
set_option maxHeartbeats 1000000
set_option pp.maxSteps 2000
/-! Ways between places, and where steps move them. -/
namespace BP
open PySem PySem.Spec PyProof.Rows L2 Fld
section
variable {q : Nat} [FF : IsF q]
/-- not the root -/
def Nr (y : Pl q) : Prop := y.1 = true ∨ y.2.2.2 ≠ []
def Adj (x y : Pl q) : Prop := (Nr y ∧ ahP y = x) ∨ (Nr x ∧ ahP x = y)
theorem Adj.symm {x y : Pl q} (h : Adj x y) : Adj y x := Or.symm h
theorem adj_two (z : Sta q) : Adj (zPl false z) (zPl true z) := beside_pl z
theorem two_up {y : Pl q} (oy : PO y) (n : Nr y) : zPl (!y.1) (plZ y) = ahP y := by
  obtain ⟨b, o, us, fs⟩ := y
  cases b with
  | true =>
    have lu : us.length = fs.length := oy.bent rfl
    show (false, oS (mkS o us fs), uS (mkS o us fs), fS (mkS o us fs)) = (false, ahO true o fs, us.dropLast, fs)
    by_cases h : fs = []
    · subst h
      obtain rfl : us = [] := List.length_eq_zero_iff.mp lu
      rw [mkS_nil]
      simp [ahO, oS, uS, fS]
    · have lp := List.length_pos_iff.mpr h
      rw [mk_cut lu, mk_o h, mk_u (by rw [List.length_dropLast]; omega), mk_f (by rw [List.length_dropLast]; omega)]
      simp [ahO, h]
  | false =>
    obtain ⟨lu, _⟩ := oy.str rfl
    have lu : us.length = fs.length - 1 := lu
    have h : fs ≠ [] := n.resolve_left (by intro z; cases z)
    have lp := List.length_pos_iff.mpr h
    show zPl true (⟨mkS o us fs, tO none⟩ : Sta q) = (true, ahO false o fs, us, fs.dropLast)
    rw [zPl_none (tm_d0 rfl)]
    show (true, oS (mkS o us fs), uS (mkS o us fs), (fS (mkS o us fs)).dropLast) = _
    rw [mk_o h, mk_u (by omega), mk_f (by omega)]
    simp [ahO]
theorem mv_up {g : Sta q} {y : Pl q} (hg : Ok7 g) (oy : PO y) (n : Nr y) : Adj (mv2 g (ahP y)) (mv2 g y) := by
  have e := mv_lies hg (plZ_fit oy) (!y.1)
  rw [two_up oy n] at e
  rw [← e]
  unfold mv2
  cases b : y.1 with
  | true => exact adj_two _
  | false => exact (adj_two _).symm
theorem mv_adj {g : Sta q} {x y : Pl q} (hg : Ok7 g) (ox : PO x) (oy : PO y) (h : Adj x y) : Adj (mv2 g x) (mv2 g y) := by
  rcases h with ⟨n, rfl⟩ | ⟨n, rfl⟩
  · exact mv_up hg oy n
  · exact (mv_up hg ox n).symm
/-! ### the depth -/
theorem dp_ah {y : Pl q} (n : Nr y) : dp (ahP y) + 1 = dp y := by
  obtain ⟨b, o, us, fs⟩ := y
  cases b with
  | true => rfl
  | false =>
    have h : fs ≠ [] := n.resolve_left (by intro z; cases z)
    have lp := List.length_pos_iff.mpr h
    show 2 * fs.dropLast.length + 1 + 1 = 2 * fs.length + 0
    rw [List.length_dropLast]
    omega
theorem dp_root {x : Pl q} (ox : PO x) (h : ¬ Nr x) : x = (false, none, [], []) := by
  obtain ⟨b, o, us, fs⟩ := x
  cases b with
  | true => exact absurd (.inl rfl) h
  | false =>
    have e : fs = [] := Classical.byContradiction fun z => h (.inr z)
    subst e
    obtain ⟨lu, lo⟩ := ox.str rfl
    obtain rfl : us = [] := List.length_eq_zero_iff.mp lu
    obtain rfl : o = none := lo rfl
    rfl
theorem nr_of {a b : Pl q} (oa : PO a) (ob : PO b) (ne : a ≠ b) (h : dp b ≤ dp a) : Nr a := Classical.byContradiction fun n => by
  have e := dp_root oa n
  rw [e] at h
  have h : dp b ≤ 0 := h
  by_cases m : Nr b
  · have := dp_ah m
    omega
  · exact ne (e.trans (dp_root ob m).symm)
theorem ah_len (x : Pl q) : (ahP x).2.2.2.length ≤ x.2.2.2.length := by
  obtain ⟨b, o, us, fs⟩ := x
  cases b with
  | true => exact Nat.le_refl _
  | false =>
    show fs.dropLast.length ≤ fs.length
    rw [List.length_dropLast]
    omega
/-! ### the way -/
inductive Way : Pl q → Pl q → List (Pl q) → Prop
  | refl (a) : Way a a [a]
  | dn {a b w} : PO a → PO b → a ≠ b → dp b ≤ dp a → Way (ahP a) b w → Way a b (a :: w)
  | up {a b w} : PO a → PO b → a ≠ b → dp a < dp b → Way a (ahP b) w → Way a b (w ++ [b])
theorem Way.hd {a b : Pl q} {w : List (Pl q)} (h : Way a b w) : ∃ r, w = a :: r := by
  induction h with
  | refl a => exact ⟨[], rfl⟩
  | dn _ _ _ _ _ _ => exact ⟨_, rfl⟩
  | up _ _ _ _ _ ih =>
    obtain ⟨r, e⟩ := ih
    exact ⟨r ++ [_], by rw [e]; rfl⟩
theorem Way.lst {a b : Pl q} {w : List (Pl q)} (h : Way a b w) : ∃ r, w = r ++ [b] := by
  induction h with
  | refl a => exact ⟨[], rfl⟩
  | dn _ _ _ _ _ ih =>
    obtain ⟨r, e⟩ := ih
    exact ⟨_ :: r, by rw [e]; rfl⟩
  | up _ _ _ _ _ _ => exact ⟨_, rfl⟩
theorem nr_up {a b : Pl q} (oa : PO a) (ob : PO b) (ne : a ≠ b) (h : dp a < dp b) : Nr b := nr_of ob oa (Ne.symm ne) (Nat.le_of_lt h)
theorem Way.ok {a b : Pl q} {w : List (Pl q)} (h : Way a b w) : PO a → PO b → ∀ x ∈ w, PO x ∧ (x.2.2.2.length ≤ a.2.2.2.length ∨ x.2.2.2.length ≤ b.2.2.2.length) := by
  induction h with
  | refl a =>
    intro h _ x hx
    rw [List.mem_singleton.mp hx]
    exact ⟨h, .inl (Nat.le_refl _)⟩
  | dn oa ob ne le _ ih =>
    intro _ _ x hx
    have n := nr_of oa ob ne le
    rcases List.mem_cons.mp hx with rfl | h
    · exact ⟨oa, .inl (Nat.le_refl _)⟩
    · obtain ⟨h1, h2⟩ := ih (ok_ah oa n) ob x h
      exact ⟨h1, h2.imp (fun h => Nat.le_trans h (ah_len _)) id⟩
  | up oa ob ne le _ ih =>
    intro _ _ x hx
    have n := nr_up oa ob ne le
    rcases List.mem_append.mp hx with h | h
    · obtain ⟨h1, h2⟩ := ih oa (ok_ah ob n) x h
      exact ⟨h1, h2.imp id (fun h => Nat.le_trans h (ah_len _))⟩
    · rw [List.mem_singleton.mp h]
      exact ⟨ob, .inr (Nat.le_refl _)⟩
theorem Way.ex : ∀ (n : Nat) {a b : Pl q}, PO a → PO b → dp a + dp b ≤ n → ∃ w, Way a b w := by
  intro n
  induction n with
  | zero =>
    intro a b oa ob h
    by_cases e : a = b
    · exact ⟨[a], e ▸ .refl a⟩
    · have n := nr_of oa ob e (by omega)
      have := dp_ah n
      omega
  | succ n ih =>
    intro a b oa ob h
    by_cases e : a = b
    · exact ⟨[a], e ▸ .refl a⟩
    · by_cases le : dp b ≤ dp a
      · have n := nr_of oa ob e le
        have := dp_ah n
        obtain ⟨w, hw⟩ := ih (ok_ah oa n) ob (by omega)
        exact ⟨_, .dn oa ob e le hw⟩
      · have n := nr_up oa ob e (by omega)
        have := dp_ah n
        obtain ⟨w, hw⟩ := ih oa (ok_ah ob n) (by omega)
        exact ⟨_, .up oa ob e (by omega) hw⟩
theorem Way.one {a b : Pl q} {w v : List (Pl q)} (h : Way a b w) (k : Way a b v) : w = v := by
  induction h generalizing v with
  | refl a =>
    cases k with
    | refl _ => rfl
    | dn _ _ ne _ _ => exact absurd rfl ne
    | up _ _ ne _ _ => exact absurd rfl ne
  | dn oa ob ne le h ih =>
    cases k with
    | refl _ => exact absurd rfl ne
    | dn _ _ _ _ k => rw [ih k]
    | up _ _ _ lt _ => omega
  | up oa ob ne lt h ih =>
    cases k with
    | refl _ => exact absurd rfl ne
    | dn _ _ _ le _ => omega
    | up _ _ _ _ k => rw [ih k]
/-- a way that never turns back -/
def Red (w : List (Pl q)) : Prop := (∀ x ∈ w, PO x) ∧ (∀ i x y, w[i]? = some x → w[i + 1]? = some y → Adj x y) ∧ (∀ i x y, w[i]? = some x → w[i + 2]? = some y → x ≠ y)
theorem Red.tail {a : Pl q} {w : List (Pl q)} (h : Red (a :: w)) : Red w :=
  ⟨fun x hx => h.1 x (List.mem_cons_of_mem _ hx), fun i x y h1 h2 => h.2.1 (i + 1) x y h1 h2, fun i x y h1 h2 => h.2.2 (i + 1) x y h1 h2⟩
theorem Red.cons {a : Pl q} {w : List (Pl q)} (h : Red w) (oa : PO a) (h1 : ∀ y, w[0]? = some y → Adj a y) (h2 : ∀ y, w[1]? = some y → a ≠ y) : Red (a :: w) := by
  refine ⟨fun x hx => ?_, fun i x y e1 e2 => ?_, fun i x y e1 e2 => ?_⟩
  · rcases List.mem_cons.mp hx with rfl | hx
    · exact oa
    · exact h.1 x hx
  · cases i with
    | zero => obtain rfl : a = x := Option.some.inj e1; exact h1 y e2
    | succ i => exact h.2.1 i x y e1 e2
  · cases i with
    | zero => obtain rfl : a = x := Option.some.inj e1; exact h2 y e2
    | succ i => exact h.2.2 i x y e1 e2
theorem Red.rev {w : List (Pl q)} (h : Red w) : Red w.reverse := by
  have key : ∀ (i k : Nat) (x y : Pl q), w.reverse[i]? = some x → w.reverse[i + k]? = some y → w[w.length - 1 - (i + k)]? = some y ∧ w[w.length - 1 - (i + k) + k]? = some x := by
    intro i k x y h1 h2
    have l2 : i + k < w.length := by
      have := (List.getElem?_eq_some_iff.mp h2).1
      rw [List.length_reverse] at this
      exact this
    rw [List.getElem?_reverse (by omega)] at h1
    rw [List.getElem?_reverse l2] at h2
    refine ⟨h2, ?_⟩
    rw [show w.length - 1 - (i + k) + k = w.length - 1 - i by omega]
    exact h1
  refine ⟨fun x hx => h.1 x (List.mem_reverse.mp hx), fun i x y h1 h2 => ?_, fun i x y h1 h2 => ?_⟩
  · obtain ⟨k1, k2⟩ := key i 1 x y h1 h2
    exact (h.2.1 _ _ _ k1 k2).symm
  · obtain ⟨k1, k2⟩ := key i 2 x y h1 h2
    exact Ne.symm (h.2.2 _ _ _ k1 k2)
theorem add_dn {a b c : Pl q} {v : List (Pl q)} (h : Way c b v) : PO a → Nr a → ahP a = c → PO b → (∀ y, v[1]? = some y → y ≠ a) → Way a b (a :: v) := by
  induction h with
  | refl c =>
    intro oa n e ob _
    have := dp_ah n
    rw [e] at this
    exact .dn oa ob (fun z => by rw [z] at this; omega) (by omega) (by rw [e]; exact .refl c)
  | dn oc ob ne le k ih =>
    intro oa n e ob _
    have := dp_ah n
    rw [e] at this
    exact .dn oa ob (fun z => by rw [z] at this; omega) (by omega) (by rw [e]; exact .dn oc ob ne le k)
  | @up c b w oc ob ne lt k ih =>
    intro oa n e ob' h2
    have da := dp_ah n
    rw [e] at da
    have nb := nr_up oc ob ne lt
    have db := dp_ah nb
    obtain ⟨r, er⟩ := k.hd
    by_cases le : dp b ≤ dp a
    · refine .dn oa ob' (fun z => ?_) le (by rw [e]; exact .up oc ob ne lt k)
      subst z
      rw [e] at k
      have := k.one (.refl _)
      subst this
      exact h2 _ rfl rfl
    · refine .up oa ob' (fun z => by rw [z] at le; omega) (by omega) (ih oa n e (ok_ah ob nb) fun y hy => h2 y ?_)
      have l1 := (List.getElem?_eq_some_iff.mp hy).1
      rw [List.getElem?_append_left l1]
      exact hy
theorem add_up {a b c : Pl q} {v : List (Pl q)} (h : Way c b v) : PO a → PO c → Nr c → ahP c = a → PO b → (∀ y, v[1]? = some y → y ≠ a) → Way a b (a :: v) := by
  induction h with
  | refl c =>
    intro oa oc n e ob _
    have := dp_ah n
    rw [e] at this
    exact .up (w := [a]) oa ob (fun z => by rw [z] at this; omega) (by omega) (by rw [e]; exact .refl a)
  | dn oc ob ne le k ih =>
    intro oa _ n e _ h2
    obtain ⟨r, er⟩ := k.hd
    rw [er] at h2
    exact absurd e (h2 _ rfl)
  | @up c b w oc ob ne lt k ih =>
    intro oa _ n e ob' h2
    have da := dp_ah n
    rw [e] at da
    have nb := nr_up oc ob ne lt
    refine .up (w := a :: w) oa ob' (fun z => by rw [z] at da; omega) (by omega) (ih oa oc n e (ok_ah ob nb) fun y hy => h2 y ?_)
    have l1 := (List.getElem?_eq_some_iff.mp hy).1
    rw [List.getElem?_append_left l1]
    exact hy
/-- a way that never turns back is the way -/
theorem way_of_red : ∀ {w : List (Pl q)} {a b : Pl q}, Red w → w[0]? = some a → (∃ r, w = r ++ [b]) → Way a b w
  | [], _, _, _, h, _ => by cases h
  | [x], a, b, h, h0, ⟨r, e⟩ => by
    obtain rfl : x = a := Option.some.inj h0
    have : r = [] := by
      have := congrArg List.length e
      rw [List.length_append] at this
      have this : 1 = r.length + 1 := this
      exact List.length_eq_zero_iff.mp (by omega)
    subst this
    obtain rfl : x = b := (List.cons.inj e).1
    exact .refl x
  | x :: c :: t, a, b, h, h0, ⟨r, e⟩ => by
    obtain rfl : x = a := Option.some.inj h0
    have hl : ∃ r', c :: t = r' ++ [b] := by
      cases r with
      | nil => cases e
      | cons y r' => exact ⟨r', (List.cons.inj e).2⟩
    have ob : PO b := h.1 b (by rw [e]; exact List.mem_append_right _ (List.mem_singleton.mpr rfl))
    have oa : PO x := h.1 x (List.mem_cons_self ..)
    have oc : PO c := h.1 c (List.mem_cons_of_mem _ (List.mem_cons_self ..))
    have k := way_of_red h.tail rfl hl
    have n2 : ∀ y, (c :: t)[1]? = some y → y ≠ x := fun y hy => Ne.symm (h.2.2 0 x y rfl hy)
    rcases h.2.1 0 x c rfl rfl with ⟨n, e1⟩ | ⟨n, e1⟩
    · exact add_up k oa oc n e1 ob n2
    · exact add_dn k oa n e1 ob n2
theorem two_ah {a : Pl q} (h : Nr a) (k : Nr (ahP a)) : dp (ahP (ahP a)) + 2 = dp a := by
  have := dp_ah h
  have := dp_ah k
  omega
/-- the second place of a way -/
theorem way_snd {a b : Pl q} {w : List (Pl q)} (oa : PO a) (ob : PO b) (ne : a ≠ b) (le : dp b ≤ dp a) (k : Way (ahP a) b w) : ∀ y, w[1]? = some y → a ≠ y := by
  have n := nr_of oa ob ne le
  have da := dp_ah n
  intro y hy e
  subst e
  cases k with
  | refl _ => cases hy
  | dn oc _ ne2 le2 k2 =>
    obtain ⟨r, er⟩ := k2.hd
    rw [er] at hy
    have hy : ahP (ahP a) = a := Option.some.inj hy
    have := dp_ah (nr_of oc ob ne2 le2)
    rw [hy] at this
    omega
  | @up _ _ w2 oc _ ne2 lt k2 =>
    have nb := nr_up oc ob ne2 lt
    have db := dp_ah nb
    generalize ahP b = d at k2 db
    cases k2 with
    | refl _ => exact ne (Option.some.inj hy).symm
    | dn oc2 ob2 ne3 le3 k3 =>
      obtain ⟨r, er⟩ := k3.hd
      rw [er] at hy
      have hy : ahP (ahP a) = a := Option.some.inj hy
      have := dp_ah (nr_of oc2 ob2 ne3 le3)
      rw [hy] at this
      omega
    | up _ _ _ lt3 _ => omega
theorem Way.rev {a b : Pl q} {w : List (Pl q)} (h : Way a b w) : True := trivial
theorem way_sndlast {a b : Pl q} {w : List (Pl q)} (oa : PO a) (ob : PO b) (ne : a ≠ b) (lt : dp a < dp b) (k : Way a (ahP b) w) : ∀ y, w.reverse[1]? = some y → b ≠ y := by
  have n := nr_up oa ob ne lt
  have db := dp_ah n
  intro y hy e
  subst e
  have fin : ∀ {c : Pl q} {v : List (Pl q)}, Way c (ahP (ahP b)) v → Nr (ahP b) → ∀ pre : List (Pl q), (pre ++ (v ++ [ahP b])).reverse[1]? = some b → False := by
    intro c v hv nn pre h
    obtain ⟨r, er⟩ := hv.lst
    rw [er] at h
    simp at h
    have := two_ah n nn
    rw [h] at this
    omega
  cases k with
  | refl _ => cases hy
  | @up _ _ v oa2 oc ne2 lt2 k2 => exact fin k2 (nr_up oa2 oc ne2 lt2) [] hy
  | @dn _ _ v oa2 oc ne2 le2 k2 =>
    have na := nr_of oa2 oc ne2 le2
    have da := dp_ah na
    generalize hc : ahP a = c at k2 da
    generalize hb : ahP b = d at k2 db le2 ne2 oc
    cases k2 with
    | refl _ => omega
    | dn _ _ _ le3 _ => omega
    | @up _ _ v2 oc2 od ne3 lt3 k3 =>
      subst hb
      exact fin k3 (nr_up oc2 od ne3 lt3) [a] hy
theorem red_of_way {a b : Pl q} {w : List (Pl q)} (h : Way a b w) : PO a → PO b → Red w := by
  induction h with
  | refl a =>
    intro oa _
    refine ⟨fun x hx => by rw [List.mem_singleton.mp hx]; exact oa, fun i x y _ h2 => (by cases i <;> cases h2), fun i x y _ h2 => (by cases i <;> cases h2)⟩
  | @dn a b w oa ob ne le k ih =>
    intro _ _
    have n := nr_of oa ob ne le
    obtain ⟨r, er⟩ := k.hd
    refine (ih (ok_ah oa n) ob).cons oa (fun y hy => ?_) (way_snd oa ob ne le k)
    rw [er] at hy
    exact .inr ⟨n, Option.some.inj hy⟩
  | @up a b w oa ob ne lt k ih =>
    intro _ _
    have n := nr_up oa ob ne lt
    have r1 := (ih oa (ok_ah ob n)).rev
    obtain ⟨r, er⟩ := k.lst
    have r2 := r1.cons (a := b) ob (fun y hy => by
      rw [er, List.reverse_append] at hy
      exact .inr ⟨n, Option.some.inj hy⟩) (way_sndlast oa ob ne lt k)
    have r3 := r2.rev
    rw [List.reverse_cons, List.reverse_reverse] at r3
    exact r3
/-- a step moves a way to the way -/
theorem way_mv {g : Sta q} {a b : Pl q} {w : List (Pl q)} (hg : Ok7 g) (oa : PO a) (ob : PO b) (h : Way a b w) (f : ∀ x ∈ w, Fit (mulz g (plZ x))) : Way (mv2 g a) (mv2 g b) (w.map (mv2 g)) := by
  obtain ⟨h1, h2, h3⟩ := red_of_way h oa ob
  obtain ⟨r0, e0⟩ := h.hd
  obtain ⟨r1, e1⟩ := h.lst
  have get : ∀ {i : Nat} {x : Pl q}, (w.map (mv2 g))[i]? = some x → ∃ y, w[i]? = some y ∧ y ∈ w ∧ mv2 g y = x := by
    intro i x hx
    rw [List.getElem?_map] at hx
    cases e : w[i]? with
    | none =>
      rw [e] at hx
      cases hx
    | some y =>
      rw [e] at hx
      exact ⟨y, rfl, List.mem_of_getElem? e, Option.some.inj hx⟩
  refine way_of_red ⟨fun x hx => ?_, fun i x y hx hy => ?_, fun i x y hx hy => ?_⟩ (by rw [e0]; rfl) ⟨r1.map (mv2 g), by rw [e1, List.map_append]; rfl⟩
  · obtain ⟨y, hy, rfl⟩ := List.mem_map.mp hx
    exact zPl_ok (f y hy) _
  · obtain ⟨x', ex, mx, rfl⟩ := get hx
    obtain ⟨y', ey, my, rfl⟩ := get hy
    exact mv_adj hg (h1 _ mx) (h1 _ my) (h2 i _ _ ex ey)
  · obtain ⟨x', ex, mx, rfl⟩ := get hx
    obtain ⟨y', ey, my, rfl⟩ := get hy
    intro z
    have e := congrArg (mv2 (invz g)) z
    rw [mv_und hg (h1 _ mx) (f _ mx), mv_und hg (h1 _ my) (f _ my)] at e
    exact h3 i _ _ ex ey e
end
end BP
set_option Elab.async false
set_option linter.all false
set_option maxRecDepth 100000
set_option maxHeartbeats 1000000
set_option pp.maxSteps 3000
namespace K13
open PySem PySem.Spec PyProof.Rows L2 BP Fld
section
variable {P : Program} {w : World} {K : PySem.W.Frag} {mg : Str → Option Value} {base : Heap}
theorem ok_sts {f : Addr} {fd : FuncData} (F : Fun K "straight_step" "straight_step" sStraightStep f fd) {tk : Tok} (gNT : mg "NO_TURN" = some (.int (-1) tk)) : FnOk P w K mg base CX0 1 f fd pStraightStep (spSts K) := by
  refine F.ok scStraightStep (fun vs H Q E h => ?_) (fun cdv A outer s H vs Q E hr h => ?_)
  · obtain ⟨q, _, a, m, rfl, _⟩ := h
    rfl
  · obtain ⟨q, FF, a, m, rfl, ha, want⟩ := h
    refine ⟨_, (pss_one (ps_ret (pe_tup (pa_cons (pe_glob (v := .int (-1)) rfl gNT ⟨_, rfl⟩) (pa_cons (pe_tup pa_nil) (pa_cons (pe_tup pa_nil) (pa_cons (pv 0) pa_nil))))))), ?_⟩
    refine ⟨Nat.zero_le _, fun b nb => ⟨Nat.zero_le _, fun t nt => ⟨.ref a, rfl, (by show 4 ≤ sizeLine; decide), fun r nr => ?_⟩⟩⟩
    have s1 := same_new (o := .tup []) nb
    have s2 := same_new (o := .tup []) nt
    have s3 := same_new (o := .tup [V.int (-1), .ref b, .ref t, .ref a]) nr
    refine want r _ (s1.trans (s2.trans s3)) ⟨_, [], [], t, b, a, .inl (.inl upd_same), .inl (.inl (s3 _ _ (s2 _ _ upd_same))), .inl (.inl (s3 _ _ upd_same)), BP.Same.tupS (s1.trans (s2.trans s3)) ha, .inl ⟨rfl, rfl, rfl, rfl⟩⟩
theorem ok_pst {f fTB fSTS : Addr} {fd fdTB fdSTS : FuncData} (F : Fun K "place_step" "place_step" sPlaceStep f fd) (TB : BP.Can P w K mg base "turn_by" 1 pTurnBy spTurn fTB fdTB) (STS : BP.Can P w K mg base "straight_step" 1 pStraightStep (spSts K) fSTS fdSTS) {aS : Addr} {tk t1 : Tok} (gNT : mg "NO_TURN" = some (.int (-1) tk)) (gST : mg "STRAIGHT" = some (.str "straight" t1)) (gSA : mg "SAME" = some (.ref aS)) (hS : ∀ (H : Hp) (q : Nat) [IsF q], SqT K H aS (mv (same : Mat q))) (m_len : mg "len" = none) : FnOk P w K mg base CX0 3 f fd pPlaceStep (spPSt K) := by
  refine F.ok scPlaceStep (fun vs H Q E h => ?_) (fun cdv A outer s H vs Q E hr h => ?_)
  · obtain ⟨q, _, c, x, rfl, _⟩ := h
    rfl
  · obtain ⟨q, FF, c, ⟨b, o, us, fs⟩, rfl, ⟨bs, p, t, hc, hb, hF, ht⟩, ok, want⟩ := h
    have hc : SqT K H c [.str (sortS b), ov o, .ref p, .ref t] := hc
    have hF : FsAt K H bs fs := hF
    have ht : SqT K H t (vns us) := ht
    have lb := hF.len
    refine ⟨_, (pss_cons (ps_asg (pv 0) (pg_tup rfl (pgs_cons (pg_name (i := 1) scPlaceStep.nd rfl (.inl rfl)) (pgs_cons (pg_name (i := 2) scPlaceStep.nd rfl (.inl rfl)) (pgs_cons (pg_name (i := 3) scPlaceStep.nd rfl (.inl rfl)) (pgs_cons (pg_name (i := 4) scPlaceStep.nd rfl (.inl rfl)) pgs_nil))))))
      (pss_cons (ps_if (pt_cmpR op_eq (pv 1) (pe_glob (v := .str "straight") rfl gST ⟨_, rfl⟩) (nomark _)) (pss_one (ps_ret (pe_tup (pa_cons (pv 2) (pa_cons (pv 3) (pa_cons (pv 4) (pa_cons (pe_glob (v := .ref aS) rfl gSA rfl) pa_nil))))))) pss_nil)
      (pss_cons (ps_if (pt_cmpR op_gt (pe_callB call_len_seq (by rfl) m_len PySem.boot_len (pa_cons (pv 3) pa_nil)) pe_int (nomark _)) (pss_one (ps_ret (pe_tup (pa_cons (pv 2) (pa_cons (pv 3) (pa_cons (pe_slice sl_tupA (pv 4) po_none (po_some (pe_un un_neg pe_int))) (pa_cons (pe_call TB.ok (hr.mono (show 1 ≤ 2 by decide)) (by rfl) TB.g TB.kp TB.b .nil pass0 (pa_cons (pe_ix ix_tup (pv 4) (pe_un un_neg pe_int) (fun _ _ => rfl)) pa_nil)) pa_nil))))))) pss_nil)
      (pss_one (ps_ret (pe_call STS.ok (hr.mono (show 1 ≤ 2 by decide)) (by rfl) STS.g STS.kp STS.b .nil pass0 (pa_cons (pe_ifExp (pt_cmpR op_eq (pv 2) (pe_glob (v := .int (-1)) rfl gNT ⟨_, rfl⟩) (nomark _)) (pe_glob (v := .ref aS) rfl gSA rfl) (pe_call TB.ok (hr.mono (show 1 ≤ 2 by decide)) (by rfl) TB.g TB.kp TB.b .nil pass0 (pa_cons (pv 2) pa_nil))) pa_nil))))))), ?_⟩
    refine ⟨.ref c, rfl, c, _, rfl, hc, rfl, _, [_, _, _], rfl, _, [_, _], rfl, _, [_], rfl, _, [], rfl, rfl, ?_⟩
    cases b with
    | false =>
      obtain ⟨k1, k2⟩ := ok.str rfl
      have k1 : us.length = fs.length - 1 := k1
      have k2 : fs = [] → o = none := k2
      refine ⟨_, rfl, rfl, true, rfl, iteT ?_⟩
      refine ⟨_, rfl, _, rfl, _, rfl, (by show 4 ≤ sizeLine; decide), fun r nr => want r _ (same_new nr) ?_⟩
      have s1 := same_new (o := .tup [ov o, .ref p, .ref t, .ref aS]) nr
      refine step_of_parts (.inl (.inl upd_same)) (BP.Same.tupS s1 hb) (hF.kept s1) (BP.Same.tupS s1 ht) (hS _ q) ?_
      by_cases f0 : fs = []
      · subst f0
        exact .inr ⟨rfl, List.length_eq_zero_iff.mp k1, k2 rfl⟩
      · have := List.length_pos_iff.mpr f0
        exact .inl (by show fs.length = us.length + 1; omega)
    | true =>
      have k1 : us.length = fs.length := ok.bent rfl
      refine ⟨_, rfl, rfl, false, by rw [decide_eq_false sort_ne], iteF ?_⟩
      refine ⟨.ref p, rfl, p, _, rfl, .inr hb, _, _, rfl, rfl, _, rfl, ite2 (fun h => ?_) (fun h => ?_)⟩
      · have fp : 0 < fs.length := by
          have := of_decide_eq_true h
          omega
        rcases List.eq_nil_or_concat us with e | ⟨us', y, e⟩
        · rw [e] at k1
          simp at k1
          omega
        rw [List.concat_eq_append] at e
        subst e
        rw [List.length_append, List.length_singleton] at k1
        refine ⟨_, rfl, .ref p, rfl, .ref t, rfl, ?_⟩
        dsimp only [tNoPart]
        refine ⟨1, rfl, -1, rfl, ?_⟩
        have ev' : vns (us' ++ [y]) = vns us' ++ [vn y] := by
          unfold vns
          rw [List.map_append]
          rfl
        rw [ev'] at ht
        refine dlA (K := K) ht fun r H1 s1 hr1 => ?_
        rw [List.dropLast_concat] at hr1
        refine ⟨.ref t, rfl, 1, rfl, t, _, -1, vn y, rfl, rfl, BP.Same.tupS s1 ht, atI_last _ _, q, FF, y, rfl, fun l H2 s2 nl hl => ⟨(by show 4 ≤ sizeLine; decide), fun r2 n2 => want r2 _ ((s1.trans s2).trans (same_new n2)) ?_⟩⟩
        have s3 := same_new (o := .tup [ov o, .ref p, .ref r, .ref l]) n2
        have e : plZ (true, o, us' ++ [y], fs) = ⟨mkS o us' fs, turn y⟩ := by
          unfold plZ plT
          simp only [if_pos]
          rw [mk_cut (by rw [List.length_append, List.length_singleton]; exact k1), List.dropLast_concat]
          simp [tO]
        rw [e]
        exact step_of_parts (.inl (.inl upd_same)) (BP.Same.tupS ((s1.trans s2).trans s3) hb) (hF.kept ((s1.trans s2).trans s3)) (BP.Same.tupS (s2.trans s3) hr1) (BP.Same.tupS s3 (.inl (.inl hl))) (.inl k1.symm)
      · have f0 : fs = [] := List.length_eq_zero_iff.mp (by
          have : ¬ ((bs.length : Nat) : Int) > 0 := fun z => h (decide_eq_true z)
          omega)
        subst f0
        have u0 : us = [] := List.length_eq_zero_iff.mp k1
        subst u0
        rw [ov_oi]
        refine ⟨_, rfl, rfl, _, rfl, ite2 (fun h => ?_) (fun h => ?_)⟩
        · have o0 : o = none := oi_neg (V.int.inj (of_decide_eq_true h))
          subst o0
          exact ⟨q, FF, aS, Fld.same, rfl, hS _ q, fun r H1 s1 h1 => want r H1 s1 h1⟩
        · cases o with
          | none => exact absurd (decide_eq_true rfl) h
          | some y =>
            refine ⟨_, rfl, q, FF, y, rfl, fun l H1 s1 nl hl => ⟨q, FF, l, turn y, rfl, .inl (.inl hl), fun r H2 s2 h2 => want r H2 (s1.trans s2) ?_⟩⟩
            exact h2
theorem ok_sop {f fLKP fPST : Addr} {fd fdLKP fdPST : FuncData} (F : Fun K "step_of_place" "step_of_place" sStepOfPlace f fd) (LKP : BP.Can P w K mg base "look_at_places" 7 pLookAtPlaces (spLookP K) fLKP fdLKP) (PST : BP.Can P w K mg base "place_step" 3 pPlaceStep (spPSt K) fPST fdPST) : FnOk P w K mg base CX0 8 f fd pStepOfPlace (spSoP K) := by
  refine F.ok scStepOfPlace (fun vs H Q E h => ?_) (fun cdv A outer s H vs Q E hr h => ?_)
  · obtain ⟨q, _, c, x, rfl, _⟩ := h
    rfl
  · obtain ⟨q, FF, c, x, rfl, hP, ok, want⟩ := h
    refine ⟨_, (pss_cons (ps_expr (pe_call LKP.ok hr (by rfl) LKP.g LKP.kp LKP.b .nil pass0 (pa_cons (pv 0) (pa_cons (pe_lst (pa_cons (pv 1) pa_nil)) pa_nil))))
      (pss_one (ps_ret (pe_call PST.ok (hr.mono (show 3 ≤ 7 by decide)) (by rfl) PST.g PST.kp PST.b .nil pass0 (pa_cons (pv 1) pa_nil))))), ?_⟩
    refine ⟨.int q, rfl, .ref c, rfl, (by show 1 ≤ sizeLine; decide), fun l nl => ?_⟩
    have s0 := same_new (o := .lst [V.ref c]) nl
    refine ⟨q, FF, l, [c], rfl, .inl (.inl upd_same), fun d hd => ⟨x.1, x.2.1, x.2.2.1, x.2.2.2, by rw [List.mem_singleton.mp hd]; exact hP.kept s0, ok⟩, fun H1 s1 => ?_⟩
    exact ⟨.ref c, rfl, q, FF, c, x, rfl, (hP.kept s0).kept s1, ok, fun r H2 s2 h2 => want r H2 ((s0.trans s1).trans s2) h2⟩
theorem ok_pbs {f fTAM : Addr} {fd fdTAM : FuncData} (F : Fun K "place_by_step" "place_by_step" sPlaceByStep f fd) (TAM : BP.Can P w K mg base "turn_and_map" 3 pTurnAndMap (spTm2 K) fTAM fdTAM) {tk t1 t2 : Tok} (gNT : mg "NO_TURN" = some (.int (-1) tk)) (gST : mg "STRAIGHT" = some (.str "straight" t1)) (gBE : mg "BENT" = some (.str "bent" t2)) (m_len : mg "len" = none) : FnOk P w K mg base CX0 4 f fd pPlaceByStep (spPBS K) := by
  refine F.ok scPlaceByStep (fun vs H Q E h => ?_) (fun cdv A outer s H vs Q E hr h => ?_)
  · obtain ⟨q, _, c, z, b, rfl, _⟩ := h
    rfl
  · obtain ⟨q, FF, c, z, b, rfl, hc, ft, want⟩ := h
    obtain ⟨bs, t, b', l, h1, h2, h3, h4, h5⟩ := step_parts ft.1.1 hc
    have lb := h3.len
    refine ⟨_, (pss_cons (ps_asg (pv 1) (pg_tup rfl (pgs_cons (pg_name (i := 3) scPlaceByStep.nd rfl (.inl rfl)) (pgs_cons (pg_name (i := 4) scPlaceByStep.nd rfl (.inl rfl)) (pgs_cons (pg_name (i := 5) scPlaceByStep.nd rfl (.inl rfl)) (pgs_cons (pg_name (i := 6) scPlaceByStep.nd rfl (.inl rfl)) pgs_nil))))))
      (pss_cons (ps_if (pt_cmpR op_eq (pv 2) (pe_glob (v := .str "straight") rfl gST ⟨_, rfl⟩) (nomark _)) (pss_one (ps_ret (pe_tup (pa_cons (pe_glob (v := .str "straight") rfl gST ⟨_, rfl⟩) (pa_cons (pv 3) (pa_cons (pv 4) (pa_cons (pv 5) pa_nil))))))) pss_nil)
      (pss_cons (ps_asg (pe_call TAM.ok hr (by rfl) TAM.g TAM.kp TAM.b .nil pass0 (pa_cons (pv 0) (pa_cons (pv 6) pa_nil))) (pg_tup rfl (pgs_cons (pg_name (i := 7) scPlaceByStep.nd rfl (.inl rfl)) (pgs_cons (pg_name (i := 8) scPlaceByStep.nd rfl (.inl rfl)) pgs_nil))))
      (pss_cons (ps_if (pt_cmpR op_eq (pv 7) (pe_glob (v := .int (-1)) rfl gNT ⟨_, rfl⟩) (nomark _)) (pss_one (ps_ret (pe_tup (pa_cons (pe_glob (v := .str "bent") rfl gBE ⟨_, rfl⟩) (pa_cons (pv 3) (pa_cons (pe_slice sl_tupA (pv 4) po_none (po_some (pe_un un_neg pe_int))) (pa_cons (pv 5) pa_nil))))))) pss_nil)
      (pss_cons (ps_if (pt_cmpR op_eq (pe_callB call_len_seq (by rfl) m_len PySem.boot_len (pa_cons (pv 4) pa_nil)) pe_int (nomark _)) (pss_one (ps_ret (pe_tup (pa_cons (pe_glob (v := .str "bent") rfl gBE ⟨_, rfl⟩) (pa_cons (pv 7) (pa_cons (pe_tup pa_nil) (pa_cons (pe_tup pa_nil) pa_nil))))))) pss_nil)
      (pss_one (ps_ret (pe_tup (pa_cons (pe_glob (v := .str "bent") rfl gBE ⟨_, rfl⟩) (pa_cons (pv 3) (pa_cons (pv 4) (pa_cons (pe_tup (StX.pa_star (pv 5) (pa_cons (pv 7) pa_nil))) pa_nil)))))))))))), ?_⟩
    refine ⟨.ref c, rfl, c, _, rfl, h1, rfl, _, [_, _, _], rfl, _, [_, _], rfl, _, [_], rfl, _, [], rfl, rfl, ?_⟩
    cases b with
    | false =>
      refine ⟨_, rfl, rfl, true, rfl, iteT ?_⟩
      refine ⟨_, rfl, _, rfl, _, rfl, (by show 4 ≤ sizeLine; decide), fun r nr => want r _ (same_new nr) ?_⟩
      have s1 := same_new (o := .tup [V.str "straight", ov (oS z.st), .ref b', .ref t]) nr
      exact ⟨bs, b', t, .inl (.inl upd_same), BP.Same.tupS s1 h2, h3.kept s1, BP.Same.tupS s1 h4⟩
    | true =>
      refine ⟨_, rfl, rfl, false, by rw [decide_eq_false sort_ne], iteF ?_⟩
      refine ⟨.int q, rfl, .ref l, rfl, q, FF, l, z.last, rfl, h5, fun r1 t1 H1 s1 n1 hr1 ht1 => ?_⟩
      refine ⟨r1, _, rfl, .inl (.inl hr1), rfl, _, [_], rfl, _, [], rfl, rfl, ?_⟩
      have h2 := BP.Same.tupS s1 h2
      have h3 := h3.kept s1
      have h4 := BP.Same.tupS s1 h4
      cases e1 : (tm z.last).1 with
      | none =>
        rw [zPl_none e1] at want
        refine ⟨_, rfl, rfl, true, rfl, iteT ?_⟩
        refine ⟨_, rfl, .ref b', rfl, ?_⟩
        dsimp only [tNoPart]
        refine ⟨1, rfl, -1, rfl, ?_⟩
        refine dlA (K := K) h2 fun r H2 s2 hr2 => ⟨.ref t, rfl, (by show 4 ≤ sizeLine; decide), fun r3 n3 => want r3 _ (s1.trans (s2.trans (same_new n3))) ?_⟩
        have s3 := same_new (o := .tup [V.str "bent", ov (oS z.st), .ref r, .ref t]) n3
        exact ⟨bs.dropLast, r, t, .inl (.inl upd_same), BP.Same.tupS s3 hr2, (h3.kept (s2.trans s3)).dl, BP.Same.tupS (s2.trans s3) h4⟩
      | some y =>
        refine ⟨_, rfl, rfl, false, ?_, iteF ?_⟩
        · show V.bl (decide (V.int (y.val : Nat) = V.int (-1))) = _
          rw [decide_eq_false (fun z => by have := V.int.inj z; omega)]
        refine ⟨.ref b', rfl, b', _, rfl, .inr h2, rfl, _, rfl, ite2 (fun h => ?_) (fun h => ?_)⟩
        · have f0 : fS z.st = [] := List.length_eq_zero_iff.mp (by
            have := V.int.inj (of_decide_eq_true h)
            omega)
          have st0 : z.st = [] := List.length_eq_zero_iff.mp (by rw [← fS_len, f0]; rfl)
          rw [zPl_nil e1 st0] at want
          refine ⟨_, rfl, ?_⟩
          dsimp only [tNil]
          refine ⟨Nat.zero_le _, fun p np => ⟨Nat.zero_le _, fun u nu => ⟨(by show 4 ≤ sizeLine; decide), fun r nr => ?_⟩⟩⟩
          have s2 := same_new (o := .tup []) np
          have s3 := same_new (o := .tup []) nu
          have s4 := same_new (o := .tup [V.str "bent", vn y, .ref p, .ref u]) nr
          exact want r _ (s1.trans (s2.trans (s3.trans s4))) ⟨[], p, u, .inl (.inl upd_same), .inl (.inl (s4 _ _ (s3 _ _ upd_same))), trivial, .inl (.inl (s4 _ _ upd_same))⟩
        · have st0 : z.st ≠ [] := fun e => h (decide_eq_true (by
            have := fS_len z.st
            have e0 : z.st.length = 0 := by rw [e]; rfl
            rw [lb, this, e0]
            rfl))
          rw [zPl_some e1 st0] at want
          refine ⟨_, rfl, .ref b', rfl, .ref t, rfl, t, _, rfl, .inl h4, _, rfl, ?_⟩
          dsimp only [tNil]
          have lu := uS_len z.st
          have l2 := ft.2.2
          have ev' : vns (uS z.st) ++ [vn y] = vns (uS z.st ++ [y]) := by
            unfold vns
            rw [List.map_append]
            rfl
          refine ⟨Nat.le_trans (show (vns (uS z.st) ++ [vn y]).length ≤ 1000 by rw [List.length_append, List.length_map]; show _ + 1 ≤ 1000; omega) (by decide), fun p np => ⟨(by show 4 ≤ sizeLine; decide), fun r nr => ?_⟩⟩
          have s2 := same_new (o := .tup (vns (uS z.st) ++ [vn y])) np
          have s3 := same_new (o := .tup [V.str "bent", ov (oS z.st), .ref b', .ref p]) nr
          refine want r _ (s1.trans (s2.trans s3)) ⟨bs, b', p, .inl (.inl upd_same), BP.Same.tupS (s2.trans s3) h2, h3.kept (s2.trans s3), .inl (.inl (s3 _ _ ?_))⟩
          rw [upd_same]
          exact congrArg (fun x => some (HO.tup x)) ev'
theorem ok_pof {f fLKS fPBS : Addr} {fd fdLKS fdPBS : FuncData} (F : Fun K "place_of" "place_of" sPlaceOf f fd) (LKS : BP.Can P w K mg base "look_at_steps" 7 pLookAtSteps (spLookS K) fLKS fdLKS) (PBS : BP.Can P w K mg base "place_by_step" 4 pPlaceByStep (spPBS K) fPBS fdPBS) {t1 t2 : Tok} (gST : mg "STRAIGHT" = some (.str "straight" t1)) (gBE : mg "BENT" = some (.str "bent" t2)) : FnOk P w K mg base CX0 8 f fd pPlaceOf (spPBS K) := by
  refine F.ok scPlaceOf (fun vs H Q E h => ?_) (fun cdv A outer s H vs Q E hr h => ?_)
  · obtain ⟨q, _, c, z, b, rfl, _⟩ := h
    rfl
  · obtain ⟨q, FF, c, z, b, rfl, hc, ft, want⟩ := h
    refine ⟨_, (pss_cons (ps_expr (pe_call LKS.ok hr (by rfl) LKS.g LKS.kp LKS.b .nil pass0 (pa_cons (pv 0) (pa_cons (pe_lst (pa_cons (pv 1) pa_nil)) pa_nil))))
      (pss_cons (ps_if (PW.pt (pw_and (pt_cmpR op_ne (pv 2) (pe_glob (v := .str "straight") rfl gST ⟨_, rfl⟩) (nomark _)) (pw_and1 (pt_cmpR op_ne (pv 2) (pe_glob (v := .str "bent") rfl gBE ⟨_, rfl⟩) (nomark _))))) (pss_one ps_dead) pss_nil)
      (pss_one (ps_ret (pe_call PBS.ok (hr.mono (show 4 ≤ 7 by decide)) (by rfl) PBS.g PBS.kp PBS.b .nil pass0 (pa_cons (pv 0) (pa_cons (pv 1) (pa_cons (pv 2) pa_nil)))))))), ?_⟩
    refine ⟨.int q, rfl, .ref c, rfl, (by show 1 ≤ sizeLine; decide), fun l nl => ?_⟩
    have s0 := same_new (o := .lst [V.ref c]) nl
    have hc0 := hc.kept fun _ _ => BP.Same.tupS s0
    refine ⟨q, FF, l, [c], rfl, .inl (.inl upd_same), one_in hc0 ft, fun H1 s1 => ?_⟩
    have go : PA K H c (zPl b z) → True := fun _ => trivial
    cases b with
    | false =>
      refine ⟨_, rfl, rfl, false, rfl, iteF ?_⟩
      exact ⟨.int q, rfl, .ref c, rfl, _, rfl, q, FF, c, z, false, rfl, hc0.kept fun _ _ => BP.Same.tupS s1, ft, fun r H2 s2 h2 => want r H2 ((s0.trans s1).trans s2) h2⟩
    | true =>
      refine ⟨_, rfl, rfl, true, by rw [decide_eq_false sort_ne]; rfl, iteT ⟨_, rfl, rfl, false, rfl, iteF ?_⟩⟩
      exact ⟨.int q, rfl, .ref c, rfl, _, rfl, q, FF, c, z, true, rfl, hc0.kept fun _ _ => BP.Same.tupS s1, ft, fun r H2 s2 h2 => want r H2 ((s0.trans s1).trans s2) h2⟩
theorem ok_abs {f fLKP fPAH : Addr} {fd fdLKP fdPAH : FuncData} (F : Fun K "are_beside" "are_beside" sAreBeside f fd) (LKP : BP.Can P w K mg base "look_at_places" 7 pLookAtPlaces (spLookP K) fLKP fdLKP) (PAH : BP.Can P w K mg base "place_ahead" 1 pPlaceAhead (spPAh K) fPAH fdPAH) : FnOk P w K mg base CX0 8 f fd pAreBeside (spBes K) := by
  refine F.ok scAreBeside (fun vs H Q E h => ?_) (fun cdv A outer s H vs Q E hr h => ?_)
  · obtain ⟨q, _, c, d, x, y, rfl, _⟩ := h
    rfl
  · obtain ⟨q, FF, c, d, x, y, rfl, hx, ox, hy, oy, cs, want⟩ := h
    refine ⟨_, (pss_cons (ps_expr (pe_call LKP.ok hr (by rfl) LKP.g LKP.kp LKP.b .nil pass0 (pa_cons (pv 0) (pa_cons (pe_lst (pa_cons (pv 1) (pa_cons (pv 2) pa_nil))) pa_nil))))
      (pss_one (ps_ret (pe_or (pe_cmpR (op_eqD hr.units) (pe_call PAH.ok (hr.mono (show 1 ≤ 7 by decide)) (by rfl) PAH.g PAH.kp PAH.b .nil pass0 (pa_cons (pv 1) pa_nil)) (pv 2) (nomark _)) (pe_one (pe_cmpR (op_eqD hr.units) (pe_call PAH.ok (hr.mono (show 1 ≤ 7 by decide)) (by rfl) PAH.g PAH.kp PAH.b .nil pass0 (pa_cons (pv 2) pa_nil)) (pv 1) (nomark _))))))), ?_⟩
    refine ⟨.int q, rfl, .ref c, rfl, .ref d, rfl, (by show 2 ≤ sizeLine; decide), fun l nl => ?_⟩
    have s0 := same_new (o := .lst [V.ref c, .ref d]) nl
    refine ⟨q, FF, l, [c, d], rfl, .inl (.inl upd_same), fun e he => ?_, fun H1 s1 => ?_⟩
    · rcases List.mem_cons.mp he with h | h
      · subst h
        exact ⟨_, _, _, _, hx.kept s0, ox⟩
      · rw [List.mem_singleton.mp h]
        exact ⟨_, _, _, _, hy.kept s0, oy⟩
    have s01 := s0.trans s1
    refine bes_cmp (σ := [some (.int q), some (.ref c), some (.ref d)]) (i := 1) (j := 2) rfl rfl (hx.kept s01) ox (hy.kept s01) oy fun v H2 s2 h => ?_
    cases v with
    | true => exact ⟨_, rfl, iteT (want H2 (s01.trans s2))⟩
    | false =>
      refine ⟨_, rfl, iteF ?_⟩
      refine bes_cmp (σ := [some (.int q), some (.ref c), some (.ref d)]) (i := 2) (j := 1) rfl rfl (hy.kept (s01.trans s2)) oy (hx.kept (s01.trans s2)) ox fun v H3 s3 h2 => ?_
      have : v = true := by
        rcases cs with e | e
        · exact h2 e
        · have := h e
          cases this
      subst this
      exact want H3 (s01.trans (s2.trans s3))
end
end K13
set_option Elab.async false
set_option linter.all false
set_option maxRecDepth 100000
set_option maxHeartbeats 4000000
set_option pp.maxSteps 1000
namespace BP
open PySem PySem.Spec PyProof.Rows L2 Fld
def seenS {q : Nat} [IsF q] (y z : Sta q) : Sta q := run empty (((rowOf z).map und).reverse ++ rowOf y ++ rowOf z)
def spSeen (K : PySem.W.Frag) : Sp := fun vs H Q _ => ∃ (q : Nat) (_ : IsF q) (c d : Addr) (y z : Sta q), vs = [.int q, .ref c, .ref d] ∧ StepAt K H c y ∧ Fit y ∧ StepAt K H d z ∧ Fit z ∧ y.st.length ≤ 100 ∧ z.st.length ≤ 100 ∧
  ∀ (r : Addr) (H' : Hp), Same H H' → H r = none → StepAt K H' r (seenS y z) → Q (.ref r) H'
end BP
namespace K13
open PySem PySem.Spec PyProof.Rows L2 BP Fld
section
variable {P : Program} {w : World} {K : PySem.W.Frag} {mg : Str → Option Value} {base : Heap}
end
end K13
set_option Elab.async false
set_option linter.all false
set_option maxRecDepth 100000
set_option maxHeartbeats 1000000
set_option pp.maxSteps 2000
/-! Lists of places; what is asked of ways. -/
namespace BP
open PySem PySem.Spec PyProof.Rows L2 Fld
section
variable {q : Nat} [FF : IsF q] {K : PySem.W.Frag} {H H' : Hp}
/-- a list of places -/
def Pls (K : PySem.W.Frag) (H : Hp) : List V → List (Pl q) → Prop
  | [], [] => True
  | v :: vs, x :: xs => (∃ c : Addr, v = .ref c ∧ PA K H c x) ∧ Pls K H vs xs
  | _, _ => False
theorem Pls.kept (s : Same H H') : ∀ {vs : List V} {xs : List (Pl q)}, Pls K H vs xs → Pls K H' vs xs
  | [], [], _ => trivial
  | _ :: _, _ :: _, ⟨⟨a, e, h⟩, k⟩ => ⟨⟨a, e, h.kept s⟩, Pls.kept s k⟩
  | [], _ :: _, h => h.elim
  | _ :: _, [], h => h.elim
theorem PA.sq2 {c : Addr} {x : Pl q} (s : ∀ a xs, SqT K H a xs → SqT K H' a xs) (h : PA K H c x) : PA K H' c x := by
  obtain ⟨bs, p, t, h1, h2, h3, h4⟩ := h
  exact ⟨bs, p, t, s _ _ h1, s _ _ h2, h3.sq s, s _ _ h4⟩
theorem Pls.sq (s : ∀ a xs, SqT K H a xs → SqT K H' a xs) : ∀ {vs : List V} {xs : List (Pl q)}, Pls K H vs xs → Pls K H' vs xs
  | [], [], _ => trivial
  | _ :: _, _ :: _, ⟨⟨a, e, h⟩, k⟩ => ⟨⟨a, e, h.sq2 s⟩, Pls.sq s k⟩
  | [], _ :: _, h => h.elim
  | _ :: _, [], h => h.elim
theorem Pls.len : ∀ {vs : List V} {xs : List (Pl q)}, Pls K H vs xs → vs.length = xs.length
  | [], [], _ => rfl
  | _ :: _, _ :: _, ⟨_, k⟩ => congrArg (· + 1) (Pls.len k)
  | [], _ :: _, h => h.elim
  | _ :: _, [], h => h.elim
theorem Pls.get : ∀ {vs : List V} {xs : List (Pl q)}, Pls K H vs xs → ∀ {i : Nat} {x : Pl q}, xs[i]? = some x → ∃ c : Addr, vs[i]? = some (.ref c) ∧ PA K H c x
  | [], [], _, _, _, h => by cases h
  | _ :: _, _ :: _, ⟨⟨a, e, h⟩, _⟩, 0, x, hx => ⟨a, by rw [e]; rfl, Option.some.inj hx ▸ h⟩
  | _ :: _, _ :: _, ⟨_, k⟩, i + 1, x, hx => Pls.get k hx
  | [], _ :: _, h, _, _, _ => h.elim
  | _ :: _, [], h, _, _, _ => h.elim
theorem Pls.cat : ∀ {vs us : List V} {xs ys : List (Pl q)}, Pls K H vs xs → Pls K H us ys → Pls K H (vs ++ us) (xs ++ ys)
  | [], _, [], _, _, h => h
  | _ :: _, _, _ :: _, _, ⟨h1, k⟩, h => ⟨h1, Pls.cat k h⟩
  | [], _, _ :: _, _, h, _ => h.elim
  | _ :: _, _, [], _, h, _ => h.elim
theorem Pls.snoc {vs : List V} {xs : List (Pl q)} {c : Addr} {x : Pl q} (h : Pls K H vs xs) (g : PA K H c x) : Pls K H (vs ++ [.ref c]) (xs ++ [x]) := h.cat ⟨⟨c, rfl, g⟩, trivial⟩
theorem Pls.rev : ∀ {vs : List V} {xs : List (Pl q)}, Pls K H vs xs → Pls K H vs.reverse xs.reverse
  | [], [], _ => trivial
  | _ :: _, _ :: _, ⟨⟨a, e, h⟩, k⟩ => by
    rw [List.reverse_cons, List.reverse_cons, e]
    exact (Pls.rev k).snoc h
  | [], _ :: _, h => h.elim
  | _ :: _, [], h => h.elim
theorem Pls.take : ∀ {vs : List V} {xs : List (Pl q)} (n : Nat), Pls K H vs xs → Pls K H (vs.take n) (xs.take n)
  | _, _, 0, _ => trivial
  | [], [], _ + 1, _ => trivial
  | _ :: _, _ :: _, n + 1, ⟨h, k⟩ => ⟨h, Pls.take n k⟩
  | [], _ :: _, _ + 1, h => h.elim
  | _ :: _, [], _ + 1, h => h.elim
theorem Pls.dp : ∀ {vs : List V} {xs : List (Pl q)}, Pls K H vs xs → DpAll K H vs (xs.map pD)
  | [], [], _ => .nil
  | _ :: _, _ :: _, ⟨⟨a, e, h⟩, k⟩ => by
    rw [e]
    exact .cons (dp_pa h) (Pls.dp k)
  | [], _ :: _, h => h.elim
  | _ :: _, [], h => h.elim
/-- the last one of a list of places -/
theorem Pls.last : ∀ {vs : List V} {p : List (Pl q)} {x : Pl q}, Pls K H vs (p ++ [x]) → ∃ us c, vs = us ++ [.ref c] ∧ Pls K H us p ∧ PA K H c x
  | [], [], _, h => h.elim
  | [], _ :: _, _, h => h.elim
  | [v], [], x, ⟨⟨a, e, h⟩, _⟩ => ⟨[], a, by rw [e]; rfl, trivial, h⟩
  | _ :: _ :: _, [], _, ⟨_, k⟩ => k.elim
  | v :: vs, y :: p, x, ⟨h1, k⟩ => by
    obtain ⟨us, c, e, k1, k2⟩ := Pls.last k
    exact ⟨v :: us, c, by rw [e]; rfl, ⟨h1, k1⟩, k2⟩
/-! ### equal as data -/
theorem eqv_els : ∀ {us vs : Po q}, PyData.eqvAll (us.map fun (x : El q) => PyData.int (x.val : Nat)) (vs.map fun (x : El q) => PyData.int (x.val : Nat)) = true → us = vs
  | [], [], _ => rfl
  | [], _ :: _, h => by simp [PyData.eqvAll] at h
  | _ :: _, [], h => by simp [PyData.eqvAll] at h
  | a :: us, b :: vs, h => by
    simp [PyData.eqvAll, PyData.eqv] at h
    rw [El.ext (by omega : a.val = b.val), eqv_els (us := us) (vs := vs) (by simpa using h.2)]
theorem eqv_bds : ∀ {fs gs : List (Po q)}, PyData.eqvAll (fs.map tpd) (gs.map tpd) = true → fs = gs
  | [], [], _ => rfl
  | [], _ :: _, h => by simp [PyData.eqvAll] at h
  | _ :: _, [], h => by simp [PyData.eqvAll] at h
  | a :: fs, b :: gs, h => by
    rw [List.map_cons, List.map_cons] at h
    unfold PyData.eqvAll at h
    rw [Bool.and_eq_true] at h
    have e : PyData.eqvAll (a.map fun (x : El q) => PyData.int (x.val : Nat)) (b.map fun (x : El q) => PyData.int (x.val : Nat)) = true := by
      have := h.1
      unfold tpd PyData.eqv at this
      exact this
    rw [eqv_els e, eqv_bds h.2]
theorem eqv_pl {x y : Pl q} (ox : PO x) : PyData.eqv (pD x) (pD y) = true ↔ x = y := by
  constructor
  · intro h
    obtain ⟨b, o, us, fs⟩ := x
    obtain ⟨c, p, vs, gs⟩ := y
    have h : PyData.eqv (plD b o us fs) (plD c p vs gs) = true := h
    unfold plD at h
    simp only [PyData.eqv, PyData.eqvAll, Bool.and_eq_true, Bool.and_true] at h
    obtain ⟨h1, h2, h3, h4⟩ := h
    have e1 : b = c := by
      cases b <;> cases c <;> first | rfl | (exfalso; revert h1; decide +kernel)
    have e2 : o = p := by
      have h2 : oi o = oi p := by simpa using h2
      cases o with
      | none =>
        cases p with
        | none => rfl
        | some t => exact absurd h2 (by show ¬ ((-1 : Int) = (t.val : Nat)); omega)
      | some s =>
        cases p with
        | none => exact absurd h2 (by show ¬ (((s.val : Nat) : Int) = -1); omega)
        | some t => rw [El.ext (by have h2 : ((s.val : Nat) : Int) = (t.val : Nat) := h2; omega : s.val = t.val)]
    rw [e1, e2, eqv_bds h3, eqv_els h4]
  · intro e
    subst e
    exact SeqAt.eqv_refl _ (sm_pa ox).lay
theorem sh_pa {x : Pl q} (h : PO x) : SeqAt.shaped (pD x) = true := sh_pl h
end
def spPDq (K : PySem.W.Frag) : Sp := fun vs H Q _ => ∃ (q : Nat) (_ : IsF q) (c : Addr) (x : Pl q), vs = [.ref c] ∧ PA K H c x ∧ PO x ∧ Q (.int (dp x : Nat)) H
def spPlb (K : PySem.W.Frag) : Sp := fun vs H Q _ => ∃ (q : Nat) (_ : IsF q) (c d : Addr) (a b : Pl q), vs = [.ref c, .ref d] ∧ PA K H c a ∧ PO a ∧ PA K H d b ∧ PO b ∧ ∀ (r : Addr) (us : List V) (w : List (Pl q)) (H' : Hp), Same H H' → H' r = some (.lst us) → Pls K H' us w → Way a b w → w.length ≤ 900 → Q (.ref r) H'
def spDist (K : PySem.W.Frag) : Sp := fun vs H Q _ => ∃ (q : Nat) (_ : IsF q) (c d : Addr) (a b : Pl q), vs = [.int q, .ref c, .ref d] ∧ PA K H c a ∧ PO a ∧ PA K H d b ∧ PO b ∧ ∀ (w : List (Pl q)) (H' : Hp), Same H H' → Way a b w → w.length ≤ 900 → Q (.int ((w.length : Nat) - 1 : Int)) H'
def spWay (K : PySem.W.Frag) : Sp := fun vs H Q _ => ∃ (q : Nat) (_ : IsF q) (c d : Addr) (a b : Pl q), vs = [.int q, .ref c, .ref d] ∧ PA K H c a ∧ PO a ∧ PA K H d b ∧ PO b ∧ ∀ (r : Addr) (us : List V) (w : List (Pl q)) (H' : Hp), Same H H' → SqT K H' r us → Pls K H' us w → Way a b w → w.length ≤ 900 → Q (.ref r) H'
def spLkb (K : PySem.W.Frag) : Sp := fun vs H Q _ => ∃ (q : Nat) (_ : IsF q) (c d : Addr) (z : Sta q) (x : Pl q), vs = [.int q, .ref c, .ref d] ∧ StepAt K H c z ∧ Fit z ∧ PA K H d x ∧ PO x ∧ ∀ H', Same H H' → Q .non H'
def spPmv (K : PySem.W.Frag) : Sp := fun vs H Q _ => ∃ (q : Nat) (_ : IsF q) (c d : Addr) (z : Sta q) (x : Pl q), vs = [.int q, .ref c, .ref d] ∧ StepAt K H c z ∧ Fit z ∧ PA K H d x ∧ PO x ∧ Fit (mulz z (plZ x)) ∧ ∀ (r : Addr) (H' : Hp), Same H H' → PA K H' r (mv2 z x) → Q (.ref r) H'
def spIsk (K : PySem.W.Frag) : Sp := fun vs H Q _ => ∃ (q : Nat) (_ : IsF q) (c d : Addr) (z : Sta q) (x : Pl q), vs = [.int q, .ref c, .ref d] ∧ StepAt K H c z ∧ Fit z ∧ PA K H d x ∧ PO x ∧ Fit (mulz z (plZ x)) ∧ ∀ (v : Bool) (H' : Hp), (v = true ↔ mv2 z x = x) → Same H H' → Q (.bl v) H'
end BP
set_option Elab.async false
set_option linter.all false
set_option maxRecDepth 100000
set_option maxHeartbeats 2000000
set_option pp.maxSteps 3000
namespace K13
open PySem PySem.Spec PyProof.Rows L2 BP Fld
section
variable {P : Program} {w : World} {K : PySem.W.Frag} {mg : Str → Option Value} {base : Heap}
theorem ok_pld {f : Addr} {fd : FuncData} (F : Fun K "place_depth" "place_depth" sPlaceDepth f fd) {t2 : Tok} (gBE : mg "BENT" = some (.str "bent" t2)) (m_len : mg "len" = none) : FnOk P w K mg base CX0 1 f fd pPlaceDepth (spPDq K) := by
  refine F.ok scPlaceDepth (fun vs H Q E h => ?_) (fun cdv A outer s H vs Q E hr h => ?_)
  · obtain ⟨q, _, c, x, rfl, _⟩ := h
    rfl
  · obtain ⟨q, FF, c, ⟨b, o, us, fs⟩, rfl, ⟨bs, p, t, hc, hb, hF, ht⟩, ok, want⟩ := h
    have lb := hF.len
    have lf := ok.lf
    have lb : bs.length = fs.length := lb
    have lf : fs.length ≤ 200 := lf
    refine ⟨_, (pss_cons (ps_asg (pv 0) (pg_tup rfl (pgs_cons (pg_name (i := 1) scPlaceDepth.nd rfl (.inl rfl)) (pgs_cons (pg_name (i := 2) scPlaceDepth.nd rfl (.inl rfl)) (pgs_cons (pg_name (i := 3) scPlaceDepth.nd rfl (.inl rfl)) (pgs_cons (pg_name (i := 2) scPlaceDepth.nd rfl (.inl rfl)) pgs_nil))))))
      (pss_one (ps_ret (pe_op op_add (pe_op op_mul pe_int (pe_callB call_len_seq (by rfl) m_len PySem.boot_len (pa_cons (pv 3) pa_nil))) (pe_ifExp (pt_cmpR op_eq (pv 1) (pe_glob (v := .str "bent") rfl gBE ⟨_, rfl⟩) (nomark _)) pe_int pe_int))))), ?_⟩
    refine ⟨.ref c, rfl, c, _, rfl, hc, rfl, _, [_, _, _], rfl, _, [_, _], rfl, _, [_], rfl, _, [], rfl, rfl, ?_⟩
    refine ⟨.ref p, rfl, p, _, rfl, .inr hb, 2, _, rfl, rfl, .inl ⟨by omega, by omega⟩, _, rfl, rfl, _, rfl, ?_⟩
    cases b with
    | false =>
      rw [decide_eq_false (show ¬ V.str (sortS false) = V.str "bent" from fun z => absurd (V.str.inj z) (by decide +kernel))]
      refine iteF ⟨_, _, rfl, rfl, ?_⟩
      have e : V.int (dp (false, o, us, fs) : Nat) = V.int (2 * ((bs.length : Nat) : Int) + 0) := congrArg V.int (by show ((2 * fs.length + 0 : Nat) : Int) = _; omega)
      rw [e] at want
      exact want
    | true =>
      refine iteT ⟨_, _, rfl, rfl, ?_⟩
      have e : V.int (dp (true, o, us, fs) : Nat) = V.int (2 * ((bs.length : Nat) : Int) + 1) := congrArg V.int (by show ((2 * fs.length + 1 : Nat) : Int) = _; omega)
      rw [e] at want
      exact want
end
end K13
set_option Elab.async false
set_option linter.all false
set_option maxRecDepth 100000
set_option maxHeartbeats 1000000
set_option pp.maxSteps 2000
/-! Ways: turned round, cut, put together; distances. -/
namespace BP
open PySem PySem.Spec PyProof.Rows L2 Fld
section
variable {q : Nat} [FF : IsF q]
theorem way_ex {a b : Pl q} (oa : PO a) (ob : PO b) : ∃ w, Way a b w := Way.ex _ oa ob (Nat.le_refl _)
theorem way_hd0 {a b : Pl q} {w : List (Pl q)} (h : Way a b w) : w[0]? = some a := by
  obtain ⟨r, e⟩ := h.hd
  rw [e]
  rfl
theorem way_rev {a b : Pl q} {w : List (Pl q)} (oa : PO a) (ob : PO b) (h : Way a b w) : Way b a w.reverse := by
  obtain ⟨r, e⟩ := h.lst
  obtain ⟨r0, e0⟩ := h.hd
  refine way_of_red (red_of_way h oa ob).rev (by rw [e, List.reverse_append]; rfl) ⟨r0.reverse, by rw [e0, List.reverse_cons]⟩
theorem Red.app {u v : List (Pl q)} (h : Red (u ++ v)) : Red u ∧ Red v := by
  refine ⟨⟨fun x hx => h.1 x (List.mem_append_left _ hx), fun i x y h1 h2 => ?_, fun i x y h1 h2 => ?_⟩, ?_⟩
  · have l1 := (List.getElem?_eq_some_iff.mp h1).1
    have l2 := (List.getElem?_eq_some_iff.mp h2).1
    exact h.2.1 i x y (by rw [List.getElem?_append_left l1]; exact h1) (by rw [List.getElem?_append_left l2]; exact h2)
  · have l1 := (List.getElem?_eq_some_iff.mp h1).1
    have l2 := (List.getElem?_eq_some_iff.mp h2).1
    exact h.2.2 i x y (by rw [List.getElem?_append_left l1]; exact h1) (by rw [List.getElem?_append_left l2]; exact h2)
  · induction u with
    | nil => exact h
    | cons a u ih => exact ih h.tail
/-- the part of a way from one of its places on -/
theorem way_drop {a b c : Pl q} {u v : List (Pl q)} (oa : PO a) (ob : PO b) (h : Way a b (u ++ c :: v)) : Way c b (c :: v) := by
  have r := (red_of_way h oa ob).app.2
  obtain ⟨t, e⟩ := h.lst
  refine way_of_red r rfl ?_
  rcases List.eq_nil_or_concat v with rfl | ⟨v', x, rfl⟩
  · have : u ++ [c] = t ++ [b] := e
    obtain ⟨_, h2⟩ := List.append_inj' this rfl
    rw [h2]
    exact ⟨[], rfl⟩
  · have : (u ++ c :: v') ++ [x] = t ++ [b] := by
      rw [← e]
      simp
    obtain ⟨_, h2⟩ := List.append_inj' this rfl
    obtain rfl : x = b := (List.cons.inj h2).1
    exact ⟨c :: v', by simp⟩
/-- the part of a way up to one of its places -/
theorem way_take {a b c : Pl q} {u v : List (Pl q)} (oa : PO a) (ob : PO b) (h : Way a b (u ++ c :: v)) : Way a c (u ++ [c]) := by
  have r : Red (u ++ [c]) := by
    have := red_of_way h oa ob
    rw [show u ++ c :: v = (u ++ [c]) ++ v by simp] at this
    exact this.app.1
  refine way_of_red r ?_ ⟨u, rfl⟩
  have e := way_hd0 h
  cases u with
  | nil => exact e
  | cons x u => exact e
/-- two ways, one behind the other, that don't turn back where they meet -/
theorem way_cat {a b c : Pl q} {u v : List (Pl q)} (oa : PO a) (ob : PO b) (oc : PO c) (h : Way a b (u ++ [b])) (k : Way b c (b :: v)) (ne : ∀ x y, u.reverse[0]? = some x → v[0]? = some y → x ≠ y) : Way a c (u ++ b :: v) := by
  have key : ∀ (u : List (Pl q)), Red (u ++ [b]) → (∀ x y, u.reverse[0]? = some x → v[0]? = some y → x ≠ y) → Red (u ++ b :: v) := by
    intro u
    induction u with
    | nil => intro _ _; exact red_of_way k ob oc
    | cons x u ih =>
      intro hr hn
      have ox := hr.1 x (List.mem_cons_self ..)
      have r2 : Red (u ++ b :: v) := ih hr.tail fun y z hy hz => hn y z (by
        rw [List.reverse_cons]
        rw [List.getElem?_append_left (List.getElem?_eq_some_iff.mp hy).1]
        exact hy) hz
      refine r2.cons ox (fun y hy => hr.2.1 0 x y rfl ?_) (fun y hy => ?_)
      · cases u with
        | nil => exact hy
        | cons z u => exact hy
      · cases u with
        | nil => exact hn x y rfl hy
        | cons z u =>
          refine hr.2.2 0 x y rfl ?_
          cases u with
          | nil => exact hy
          | cons t u => exact hy
  have r := key u (red_of_way h oa ob) ne
  refine way_of_red r ?_ ?_
  · have e := way_hd0 h
    cases u with
    | nil => exact e
    | cons x u => exact e
  · obtain ⟨t, e⟩ := k.lst
    exact ⟨u ++ t, by rw [e, List.append_assoc]⟩
/-- one step more at the front: one longer, or one shorter -/
theorem way_adj {a b c : Pl q} {v : List (Pl q)} (oa : PO a) (oc : PO c) (ob : PO b) (h : Adj a c) (k : Way c b v) : Way a b (a :: v) ∨ ∃ r, v = c :: a :: r ∧ Way a b (a :: r) := by
  by_cases e : v[1]? = some a
  · right
    obtain ⟨t, et⟩ := k.hd
    subst et
    cases t with
    | nil => cases e
    | cons x t =>
      have e : x = a := Option.some.inj e
      subst e
      exact ⟨t, rfl, way_drop (u := [c]) oc ob k⟩
  · left
    have n : ∀ y, v[1]? = some y → y ≠ a := fun y hy z => e (z ▸ hy)
    rcases h with ⟨h1, h2⟩ | ⟨h1, h2⟩
    · exact add_up k oa oc h1 h2 ob n
    · exact add_dn k oa h1 h2 ob n
/-- a way is no longer than any walk -/
theorem way_least : ∀ {t : List (Pl q)} {a b : Pl q} {w : List (Pl q)}, (∀ x ∈ t, PO x) → (∀ i x y, t[i]? = some x → t[i + 1]? = some y → Adj x y) → t[0]? = some a → (∃ r, t = r ++ [b]) → Way a b w → w.length ≤ t.length
  | [], _, _, _, _, _, h, _, _ => by cases h
  | [x], a, b, w, _, _, h, ⟨r, e⟩, hw => by
    obtain rfl : x = a := Option.some.inj h
    have : r = [] := by
      have := congrArg List.length e
      rw [List.length_append] at this
      have this : 1 = r.length + 1 := this
      exact List.length_eq_zero_iff.mp (by omega)
    subst this
    obtain rfl : x = b := (List.cons.inj e).1
    rw [hw.one (.refl x)]
    exact Nat.le_refl _
  | x :: c :: t, a, b, w, ho, ha, h, ⟨r, e⟩, hw => by
    obtain rfl : x = a := Option.some.inj h
    have hl : ∃ r', c :: t = r' ++ [b] := by
      cases r with
      | nil => cases e
      | cons y r' => exact ⟨r', (List.cons.inj e).2⟩
    have ob : PO b := ho b (by rw [e]; exact List.mem_append_right _ (List.mem_singleton.mpr rfl))
    have ox : PO x := ho x (List.mem_cons_self ..)
    have oc : PO c := ho c (List.mem_cons_of_mem _ (List.mem_cons_self ..))
    obtain ⟨v, hv⟩ := way_ex oc ob
    have ih := way_least (fun y hy => ho y (List.mem_cons_of_mem _ hy)) (fun i x y h1 h2 => ha (i + 1) x y h1 h2) rfl hl hv
    rcases way_adj ox oc ob (ha 0 x c rfl rfl) hv with k | ⟨r2, e2, k⟩
    · rw [hw.one k]
      show v.length + 1 ≤ (c :: t).length + 1
      omega
    · rw [hw.one k]
      rw [e2] at ih
      show r2.length + 1 ≤ (c :: t).length + 1
      have ih : r2.length + 1 + 1 ≤ (c :: t).length := ih
      omega
/-- two sides of a triangle are no shorter than the third -/
theorem way_tri {a b c : Pl q} {u v w : List (Pl q)} (oa : PO a) (ob : PO b) (oc : PO c) (hu : Way a b u) (hv : Way b c v) (hw : Way a c w) : w.length + 1 ≤ u.length + v.length := by
  obtain ⟨r, er⟩ := hu.lst
  obtain ⟨s, es⟩ := hv.hd
  have ru := red_of_way hu oa ob
  have rv := red_of_way hv ob oc
  have key : ∀ (r : List (Pl q)), (∀ i x y, (r ++ [b])[i]? = some x → (r ++ [b])[i + 1]? = some y → Adj x y) → ∀ i x y, (r ++ v)[i]? = some x → (r ++ v)[i + 1]? = some y → Adj x y := by
    intro r
    induction r with
    | nil => intro _; exact rv.2.1
    | cons z r ih =>
      intro h i x y h1 h2
      cases i with
      | succ i => exact ih (fun i x y k1 k2 => h (i + 1) x y k1 k2) i x y h1 h2
      | zero =>
        refine h 0 x y h1 ?_
        cases r with
        | nil =>
          have h2 : v[0]? = some y := h2
          rw [es] at h2
          exact h2
        | cons t r => exact h2
  have := way_least (t := r ++ v) (a := a) (b := c) (fun x hx => ?_) (key r (by rw [← er]; exact ru.2.1)) ?_ ?_ hw
  · rw [List.length_append] at this
    rw [er, List.length_append]
    show w.length + 1 ≤ r.length + 1 + v.length
    omega
  · rcases List.mem_append.mp hx with h | h
    · exact ru.1 x (by rw [er]; exact List.mem_append_left _ h)
    · exact rv.1 x h
  · have e := way_hd0 hu
    rw [er] at e
    cases r with
    | nil =>
      rw [es]
      exact e
    | cons t r => exact e
  · obtain ⟨t, et⟩ := hv.lst
    exact ⟨r ++ t, by rw [et, List.append_assoc]⟩
end
end BP
set_option Elab.async false
set_option linter.all false
set_option maxRecDepth 100000
set_option maxHeartbeats 1000000
set_option pp.maxSteps 2000
/-! Chains of places; far repeats, also undone ones. -/
namespace BP
open PySem PySem.Spec PyProof.Rows L2 Fld
section
variable {q : Nat} [FF : IsF q]
def rtP : Pl q := (false, none, [], [])
/-- the place n ahead -/
def ahn : Nat → Pl q → Pl q
  | 0, x => x
  | n + 1, x => ahn n (ahP x)
theorem ahn_s : ∀ (n : Nat) (x : Pl q), ahn (n + 1) x = ahP (ahn n x)
  | 0, _ => rfl
  | n + 1, x => ahn_s n (ahP x)
theorem nr_dp {x : Pl q} (ox : PO x) (h : 0 < dp x) : Nr x := Classical.byContradiction fun n => by
  rw [dp_root ox n] at h
  exact absurd h (by show ¬ 0 < 0; decide)
theorem ahn_ok : ∀ (n : Nat) {x : Pl q}, PO x → n ≤ dp x → PO (ahn n x) ∧ dp (ahn n x) + n = dp x
  | 0, x, ox, _ => ⟨ox, rfl⟩
  | n + 1, x, ox, h => by
    have nr := nr_dp ox (by omega)
    have d := dp_ah nr
    obtain ⟨h1, h2⟩ := ahn_ok n (ok_ah ox nr) (by omega)
    exact ⟨h1, by show dp (ahn n (ahP x)) + (n + 1) = dp x; omega⟩
theorem ahn_root {x : Pl q} (ox : PO x) : ahn (dp x) x = rtP := by
  obtain ⟨h1, h2⟩ := ahn_ok (dp x) ox (Nat.le_refl _)
  refine dp_root h1 fun n => ?_
  have := dp_ah n
  omega
/-- the places from a place on towards the root -/
def chn (n : Nat) (x : Pl q) : List (Pl q) := (List.range n).map fun i => ahn i x
theorem chn_len (n : Nat) (x : Pl q) : (chn n x).length = n := by
  unfold chn
  rw [List.length_map, List.length_range]
theorem chn_get {n i : Nat} (x : Pl q) (h : i < n) : (chn n x)[i]? = some (ahn i x) := by
  unfold chn
  rw [List.getElem?_map, List.getElem?_range h]
  rfl
theorem chn_cons (n : Nat) (x : Pl q) : chn (n + 1) x = x :: chn n (ahP x) := by
  unfold chn
  rw [List.range_succ_eq_map, List.map_cons, List.map_map]
  rfl
theorem chn_snoc (n : Nat) (x : Pl q) : chn (n + 1) x = chn n x ++ [ahn n x] := by
  unfold chn
  rw [List.range_succ, List.map_append]
  rfl
theorem chn_take {n i : Nat} (x : Pl q) (h : i ≤ n) : (chn n x).take i = chn i x := by
  unfold chn
  rw [← List.map_take, List.take_range, Nat.min_eq_left h]
theorem chn_ok {n : Nat} {x : Pl q} (ox : PO x) (h : n ≤ dp x + 1) : ∀ y ∈ chn n x, PO y ∧ dp y ≤ dp x := fun y hy => by
  unfold chn at hy
  obtain ⟨i, hi, rfl⟩ := List.mem_map.mp hy
  have := List.mem_range.mp hi
  obtain ⟨h1, h2⟩ := ahn_ok i ox (by omega)
  exact ⟨h1, by omega⟩
/-- two chains up to where they meet are the way -/
theorem way_join : ∀ (n a b : Nat) {x y : Pl q}, a + b ≤ n → PO x → PO y → a ≤ dp x → b ≤ dp y → ahn a x = ahn b y → (∀ a' b', a = a' + 1 → b = b' + 1 → ahn a' x ≠ ahn b' y) → Way x y (chn (a + 1) x ++ (chn b y).reverse) := by
  intro n
  induction n with
  | zero =>
    intro a b x y h ox oy la lb e ne
    obtain rfl : a = 0 := by omega
    obtain rfl : b = 0 := by omega
    have e : x = y := e
    subst e
    exact .refl x
  | succ n ih =>
    intro a b x y h ox oy la lb e ne
    obtain ⟨_, dx⟩ := ahn_ok a ox la
    obtain ⟨_, dy⟩ := ahn_ok b oy lb
    rw [e] at dx
    by_cases le : dp y ≤ dp x
    · cases a with
      | zero =>
        obtain rfl : b = 0 := by omega
        have e : x = y := e
        subst e
        exact .refl x
      | succ a =>
        have nr := nr_dp ox (by omega)
        have d := dp_ah nr
        have xy : x ≠ y := fun z => by
          subst z
          have : b = a + 1 := by omega
          exact ne a a rfl this rfl
        have k := ih a b (x := ahP x) (y := y) (by omega) (ok_ah ox nr) oy (by omega) lb e fun a' b' h1 h2 => by
          subst h1
          exact ne (a' + 1) b' rfl h2
        have := Way.dn ox oy xy le k
        rw [chn_cons]
        exact this
    · cases b with
      | zero => omega
      | succ b =>
        have nr := nr_dp oy (by omega)
        have d := dp_ah nr
        have xy : x ≠ y := fun z => by
          subst z
          omega
        have k := ih a b (x := x) (y := ahP y) (by omega) ox (ok_ah oy nr) la (by omega) e fun a' b' h1 h2 => by
          subst h2
          exact ne a' (b' + 1) h1 rfl
        have := Way.up ox oy xy (by omega) k
        rw [chn_cons b y, List.reverse_cons, ← List.append_assoc]
        exact this
end
end BP
set_option Elab.async false
set_option linter.all false
set_option maxRecDepth 100000
set_option maxHeartbeats 2000000
set_option pp.maxSteps 3000
namespace BP
open PySem PySem.Spec PyProof.Rows L2 Fld
section
variable {q : Nat} [FF : IsF q] {K : PySem.W.Frag} {H : Hp}
theorem eqv_fs : ∀ (fs : List (Po q)), PyData.eqv (.tuple (fs.map tpd)) (.tuple []) = fs.isEmpty
  | [] => by simp [PyData.eqv, PyData.eqvAll]
  | _ :: _ => by simp [PyData.eqv, PyData.eqvAll]
theorem Way.len {a b : Pl q} {w : List (Pl q)} (h : Way a b w) : PO a → PO b → w.length ≤ dp a + dp b + 1 := by
  induction h with
  | refl a => intro _ _; show 1 ≤ _; omega
  | dn oa ob ne le _ ih =>
    intro _ _
    have n := nr_of oa ob ne le
    have := dp_ah n
    have := ih (ok_ah oa n) ob
    rw [List.length_cons]
    omega
  | up oa ob ne lt _ ih =>
    intro _ _
    have n := nr_up oa ob ne lt
    have := dp_ah n
    have := ih oa (ok_ah ob n)
    rw [List.length_append]
    show _ + 1 ≤ _
    omega
end
def spLAh (K : PySem.W.Frag) : Sp := fun vs H Q _ => ∃ (q : Nat) (_ : IsF q) (c : Addr) (x : Pl q), vs = [.ref c] ∧ PA K H c x ∧ PO x ∧ Nr x ∧ ∀ (r : Addr) (H' : Hp), Same H H' → PA K H' r (ahP x) → Q (.ref r) H'
def spLCh (K : PySem.W.Frag) : Sp := fun vs H Q _ => ∃ (q : Nat) (_ : IsF q) (c : Addr) (x : Pl q), vs = [.ref c] ∧ PA K H c x ∧ PO x ∧ ∀ (l : Addr) (us : List V) (H' : Hp), Same H H' → H l = none → H' l = some (.lst us) → Pls K H' us (chn (dp x + 1) x) → Q (.ref l) H'
end BP
namespace K13
open PySem PySem.Spec PyProof.Rows L2 BP Fld
section
variable {P : Program} {w : World} {K : PySem.W.Frag} {mg : Str → Option Value} {base : Heap}
theorem ok_lah {f : Addr} {fd : FuncData} (F : Fun K "_law_ahead" "_law_ahead" sLAhead f fd) : FnOk P w K mg base CX0 1 f fd pLAhead (spLAh K) := by
  refine F.ok scLAhead (fun vs H Q E h => ?_) (fun cdv A outer s H vs Q E hr h => ?_)
  · obtain ⟨q, _, c, x, rfl, _⟩ := h
    rfl
  · obtain ⟨q, FF, c, ⟨b, o, us, fs⟩, rfl, hP, ok, nr, want⟩ := h
    obtain ⟨bs, p, t, hc, hb, hF, ht⟩ := hP
    have lb : bs.length = fs.length := hF.len
    refine ⟨_, (pss_cons (ps_asg (pv 0) (pg_tup rfl (pgs_cons (pg_name (i := 1) scLAhead.nd rfl (.inl rfl)) (pgs_cons (pg_name (i := 2) scLAhead.nd rfl (.inl rfl)) (pgs_cons (pg_name (i := 3) scLAhead.nd rfl (.inl rfl)) (pgs_cons (pg_name (i := 4) scLAhead.nd rfl (.inl rfl)) pgs_nil))))))
      (pss_cons (ps_if (pt_cmpR op_eq (pv 1) pe_str (nomark _)) (pss_one (ps_ret (pe_tup (pa_cons pe_str (pa_cons (pv 2) (pa_cons (pe_slice sl_tupA (pv 3) po_none (po_some (pe_un un_neg pe_int))) (pa_cons (pv 4) pa_nil))))))) pss_nil)
      (pss_one (ps_ret (pe_tup (pa_cons pe_str (pa_cons (pe_ifExp (pt_cmpR (op_eqD hr.units) (pv 3) (pe_tup pa_nil) (nomark _)) (pe_un un_neg pe_int) (pv 2)) (pa_cons (pv 3) (pa_cons (pe_slice sl_tupA (pv 4) po_none (po_some (pe_un un_neg pe_int))) pa_nil))))))))), ?_⟩
    refine ⟨.ref c, rfl, c, _, rfl, hc, rfl, _, [_, _, _], rfl, _, [_, _], rfl, _, [_], rfl, _, [], rfl, rfl, ?_⟩
    cases b with
    | false =>
      refine ⟨_, rfl, rfl, true, rfl, iteT ?_⟩
      refine ⟨_, rfl, .ref p, rfl, ?_⟩
      dsimp only [tNoPart]
      refine ⟨1, rfl, -1, rfl, ?_⟩
      refine dlA (K := K) hb fun r H1 s1 hr1 => ?_
      refine ⟨.ref t, rfl, (by show 4 ≤ sizeLine; decide), fun r2 n2 => want r2 _ (s1.trans (same_new n2)) ?_⟩
      have s2 := s1.trans (same_new (o := .tup [V.str "bent", ov o, .ref r, .ref t]) n2)
      exact ⟨bs.dropLast, r, t, .inl (.inl upd_same), BP.Same.tupS (same_new n2) hr1, (hF.kept s2).dl, BP.Same.tupS s2 ht⟩
    | true =>
      refine ⟨.str "bent", rfl, rfl, false, by rw [decide_eq_false (fun z => absurd (V.str.inj z) (by decide +kernel))], iteF ?_⟩
      have hD : ∀ {H2 : Hp}, Same H H2 → Dp K H2 (.ref p) (.tuple (fs.map tpd)) := fun s => .tup (BP.Same.tupS s hb) (fs_dp (hF.kept s))
      have sh : SeqAt.shaped (.tuple (fs.map tpd)) = true := by
        have s := Sm.tup (sm_fs ok.fB)
        have := ok.lf
        unfold SeqAt.shaped
        rw [s.lay, Bool.true_and]
        exact decide_eq_true (Nat.le_trans s.dep (by decide))
      refine ⟨.ref p, rfl, Nat.zero_le _, fun e0 n0 => ⟨_, .tuple [], hD (same_new n0), .tup (.inl (.inl upd_same)) .nil, sh, (by decide +kernel), _, rfl, ?_⟩⟩
      rw [eqv_fs]
      have s0 := same_new (o := .tup ([] : List V)) n0
      have k1 : fs.isEmpty = decide (fs = []) := by cases fs <;> rfl
      generalize upd H e0 (.tup ([] : List V)) = H0 at s0 ⊢
      have ht0 := BP.Same.tupS s0 ht
      have fin : ∀ (r : Addr) (H1 : Hp), Same H0 H1 → SqT K H1 r (vns us).dropLast → ∀ (v : V), v = ov (ahO true o fs) → ∀ r2, H1 r2 = none → Q (.ref r2) (upd H1 r2 (.tup [V.str "straight", v, .ref p, .ref r])) := by
        intro r H1 s1 hr1 v ev r2 n2
        subst ev
        have s2 := (s0.trans s1).trans (same_new (o := .tup [V.str "straight", ov (ahO true o fs), .ref p, .ref r]) n2)
        refine want r2 _ s2 ⟨bs, p, r, .inl (.inl upd_same), BP.Same.tupS s2 hb, hF.kept s2, ?_⟩
        have e : vns (ahU true us) = (vns us).dropLast := List.map_dropLast ..
        show SqT K _ r (vns (ahU true us))
        rw [e]
        exact BP.Same.tupS (same_new n2) hr1
      refine ite2 (fun he => ?_) (fun he => ?_)
      · have f0 : fs = [] := by simpa using he
        refine ⟨1, rfl, .ref p, rfl, .ref t, rfl, ?_⟩
        dsimp only [tNoPart]
        refine ⟨1, rfl, -1, rfl, ?_⟩
        refine dlA (K := K) ht0 fun r H1 s1 hr1 => ?_
        exact ⟨(by show 4 ≤ sizeLine; decide), fun r2 n2 => fin r H1 s1 hr1 _ (by rw [f0]; rfl) r2 n2⟩
      · have f0 : fs ≠ [] := by simpa using he
        refine ⟨_, rfl, .ref p, rfl, .ref t, rfl, ?_⟩
        dsimp only [tNoPart]
        refine ⟨1, rfl, -1, rfl, ?_⟩
        refine dlA (K := K) ht0 fun r H1 s1 hr1 => ?_
        exact ⟨(by show 4 ≤ sizeLine; decide), fun r2 n2 => fin r H1 s1 hr1 _ (by rw [show ahO true o fs = o from if_neg (fun z => f0 z.2)]) r2 n2⟩
end
end K13
set_option Elab.async false
set_option linter.all false
set_option maxRecDepth 100000
set_option maxHeartbeats 1000000
set_option pp.maxSteps 2000
namespace BP
open PySem PySem.Spec PyProof.Rows L2 Fld
section
variable {q : Nat} [FF : IsF q]
theorem atI_back {α : Type} {xs : List α} {i : Nat} {v : α} (h : i < xs.length) (e : xs[xs.length - 1 - i]? = some v) : atI xs (-1 - (i : Int)) = some v := by
  have e2 : ixN xs.length (-1 - (i : Int)) = some (xs.length - 1 - i) := by
    unfold ixN
    rw [if_neg (by omega), if_pos (by omega)]
    congr 1
    omega
  unfold atI
  rw [e2]
  exact e
theorem cut_nat (xs : List V) {n : Nat} {i : Int} (e : i = (n : Nat)) : cutV xs none (some i) = xs.take n := by
  rw [e]
  exact cut_take xs n
end
/-- a test, told by what it asks -/
theorem test_by {t : TT} {σ : L2.St} {H : Hp} {C : Prop} {Kc : Bool → Hp → Prop} (h : ∀ Kc : Bool → Hp → Prop, (C → Kc true H) → (¬ C → Kc false H) → t σ H Kc) (k1 : C → Kc true H) (k2 : ¬ C → Kc false H) : t σ H Kc := h Kc k1 k2
def spLWy (K : PySem.W.Frag) : Sp := fun vs H Q _ => ∃ (q : Nat) (_ : IsF q) (c d : Addr) (a b : Pl q), vs = [.ref c, .ref d] ∧ PA K H c a ∧ PO a ∧ PA K H d b ∧ PO b ∧ ∀ (r : Addr) (us : List V) (w : List (Pl q)) (H' : Hp), Same H H' → SqT K H' r us → Pls K H' us w → Way a b w → Q (.ref r) H'
end BP
set_option Elab.async false
set_option linter.all false
set_option maxRecDepth 100000
set_option maxHeartbeats 2000000
set_option pp.maxSteps 3000
namespace BP
open PySem PySem.Spec PyProof.Rows L2 Fld
def spAhr (K : PySem.W.Frag) : Sp := fun vs H Q _ => ∃ (q : Nat) (_ : IsF q) (c : Addr) (x : Pl q), vs = [.int q, .ref c] ∧ PA K H c x ∧ PO x ∧ (Nr x → ∀ (r : Addr) (H' : Hp), Same H H' → PA K H' r (ahP x) → Q (.ref r) H') ∧ (¬ Nr x → ∀ H', Same H H' → Q .non H')
def spDep (K : PySem.W.Frag) : Sp := fun vs H Q _ => ∃ (q : Nat) (_ : IsF q) (c : Addr) (x : Pl q), vs = [.int q, .ref c] ∧ PA K H c x ∧ PO x ∧ ∀ H', Same H H' → Q (.int (dp x : Nat)) H'
def spBss (K : PySem.W.Frag) : Sp := fun vs H Q _ => ∃ (q : Nat) (_ : IsF q) (c d : Addr) (x y : Pl q), vs = [.int q, .ref c, .ref d] ∧ PA K H c x ∧ PO x ∧ PA K H d y ∧ PO y ∧ ∀ (v : Bool) (H' : Hp), (v = true ↔ Adj x y) → Same H H' → Q (.bl v) H'
def spLbs (K : PySem.W.Frag) : Sp := fun vs H Q _ => ∃ (q : Nat) (_ : IsF q) (c d : Addr) (x y : Pl q), vs = [.ref c, .ref d] ∧ PA K H c x ∧ PO x ∧ PA K H d y ∧ PO y ∧ ∀ (v : Bool) (H' : Hp), (v = true ↔ Adj x y) → Same H H' → Q (.bl v) H'
section
variable {q : Nat} [FF : IsF q] {K : PySem.W.Frag} {H : Hp}
theorem bes_iff {σ : L2.St} {i j : Nat} {c d : Addr} {x y : Pl q} {Q : VK} (hi : σ[i]? = some (some (.ref c))) (hj : σ[j]? = some (some (.ref d))) (hx : PA K H c x) (ox : PO x) (hy : PA K H d y) (oy : PO y)
    (k : ∀ (v : Bool) (H' : Hp), Same H H' → (v = true ↔ Nr x ∧ ahP x = y) → Q (.bl v) H') : tOp (rEqD K) (tCall (spPAh K) [] E0 (tCons (tVar i) tNil)) (tVar j) σ H Q := by
  refine ⟨_, hi, q, FF, c, x.1, x.2.1, x.2.2.1, x.2.2.2, rfl, hx, ox, fun nr r H' s hp => ?_, fun nr => ?_⟩
  · have hp : PA K H' r (ahP x) := hp
    have oa := ok_ah ox nr
    exact ⟨_, hj, pD (ahP x), pD y, dp_pa hp, dp_pa (hy.kept s), sh_pa oa, sh_pa oy, k _ H' s ⟨fun e => ⟨nr, (eqv_pl oa).mp e⟩, fun e => (eqv_pl oa).mpr e.2⟩⟩
  · exact ⟨_, hj, .none, pD y, .non, dp_pa hy, by decide +kernel, sh_pa oy, k _ H (fun _ _ z => z) ⟨fun e => (by cases e), fun e => absurd e.1 nr⟩⟩
theorem adj_deep {x y : Pl q} (h : dp y < dp x) : Adj x y ↔ Nr x ∧ ahP x = y := by
  constructor
  · rintro (⟨n, e⟩ | e)
    · have := dp_ah n
      rw [e] at this
      omega
    · exact e
  · exact .inr
theorem adj_flat {x y : Pl q} (h : dp x ≤ dp y) : Adj x y ↔ Nr y ∧ ahP y = x := by
  constructor
  · rintro (e | ⟨n, e⟩)
    · exact e
    · have := dp_ah n
      rw [e] at this
      omega
  · exact .inl
theorem not_nr {y : Pl q} (oy : PO y) (h : dp y = 0) : ¬ Nr y := fun n => by
  have := dp_ah n
  omega
end
end BP
namespace K13
open PySem PySem.Spec PyProof.Rows L2 BP Fld
section
variable {P : Program} {w : World} {K : PySem.W.Frag} {mg : Str → Option Value} {base : Heap}
theorem ok_ahr {f fLKP fPAH : Addr} {fd fdLKP fdPAH : FuncData} (F : Fun K "ahead" "ahead" sAhead f fd) (LKP : BP.Can P w K mg base "look_at_places" 7 pLookAtPlaces (spLookP K) fLKP fdLKP) (PAH : BP.Can P w K mg base "place_ahead" 1 pPlaceAhead (spPAh K) fPAH fdPAH) : FnOk P w K mg base CX0 8 f fd pAhead (spAhr K) := by
  refine F.ok scAhead (fun vs H Q E h => ?_) (fun cdv A outer s H vs Q E hr h => ?_)
  · obtain ⟨q, _, c, x, rfl, _⟩ := h
    rfl
  · obtain ⟨q, FF, c, x, rfl, hP, ok, w1, w2⟩ := h
    refine ⟨_, (pss_cons (ps_expr (pe_call LKP.ok hr (by rfl) LKP.g LKP.kp LKP.b .nil pass0 (pa_cons (pv 0) (pa_cons (pe_lst (pa_cons (pv 1) pa_nil)) pa_nil))))
      (pss_one (ps_ret (pe_call PAH.ok (hr.mono (show 1 ≤ 7 by decide)) (by rfl) PAH.g PAH.kp PAH.b .nil pass0 (pa_cons (pv 1) pa_nil))))), ?_⟩
    refine ⟨.int q, rfl, .ref c, rfl, (by show 1 ≤ sizeLine; decide), fun l nl => ?_⟩
    have s0 := same_new (o := .lst [V.ref c]) nl
    refine ⟨q, FF, l, [c], rfl, .inl (.inl upd_same), fun c' hc' => ?_, fun H1 s1 => ?_⟩
    · rw [List.mem_singleton.mp hc']
      exact ⟨_, _, _, _, hP.kept s0, ok⟩
    have s01 := s0.trans s1
    exact ⟨.ref c, rfl, q, FF, c, _, _, _, _, rfl, hP.kept s01, ok, fun n r H2 s2 h2 => w1 n r H2 (s01.trans s2) h2, fun no => w2 no _ s01⟩
theorem ok_dpt {f fLKP fPLD : Addr} {fd fdLKP fdPLD : FuncData} (F : Fun K "depth" "depth" sDepth f fd) (LKP : BP.Can P w K mg base "look_at_places" 7 pLookAtPlaces (spLookP K) fLKP fdLKP) (PLD : BP.Can P w K mg base "place_depth" 1 pPlaceDepth (spPDq K) fPLD fdPLD) : FnOk P w K mg base CX0 8 f fd pDepth (spDep K) := by
  refine F.ok scDepth (fun vs H Q E h => ?_) (fun cdv A outer s H vs Q E hr h => ?_)
  · obtain ⟨q, _, c, x, rfl, _⟩ := h
    rfl
  · obtain ⟨q, FF, c, x, rfl, hP, ok, want⟩ := h
    refine ⟨_, (pss_cons (ps_expr (pe_call LKP.ok hr (by rfl) LKP.g LKP.kp LKP.b .nil pass0 (pa_cons (pv 0) (pa_cons (pe_lst (pa_cons (pv 1) pa_nil)) pa_nil))))
      (pss_one (ps_ret (pe_call PLD.ok (hr.mono (show 1 ≤ 7 by decide)) (by rfl) PLD.g PLD.kp PLD.b .nil pass0 (pa_cons (pv 1) pa_nil))))), ?_⟩
    refine ⟨.int q, rfl, .ref c, rfl, (by show 1 ≤ sizeLine; decide), fun l nl => ?_⟩
    have s0 := same_new (o := .lst [V.ref c]) nl
    refine ⟨q, FF, l, [c], rfl, .inl (.inl upd_same), fun c' hc' => ?_, fun H1 s1 => ?_⟩
    · rw [List.mem_singleton.mp hc']
      exact ⟨_, _, _, _, hP.kept s0, ok⟩
    exact ⟨.ref c, rfl, q, FF, c, x, rfl, hP.kept (s0.trans s1), ok, want _ (s0.trans s1)⟩
theorem ok_abb {f fLKP fPAH : Addr} {fd fdLKP fdPAH : FuncData} (F : Fun K "are_beside" "are_beside" sAreBeside f fd) (LKP : BP.Can P w K mg base "look_at_places" 7 pLookAtPlaces (spLookP K) fLKP fdLKP) (PAH : BP.Can P w K mg base "place_ahead" 1 pPlaceAhead (spPAh K) fPAH fdPAH) : FnOk P w K mg base CX0 8 f fd pAreBeside (spBss K) := by
  refine F.ok scAreBeside (fun vs H Q E h => ?_) (fun cdv A outer s H vs Q E hr h => ?_)
  · obtain ⟨q, _, c, d, x, y, rfl, _⟩ := h
    rfl
  · obtain ⟨q, FF, c, d, x, y, rfl, hx, ox, hy, oy, want⟩ := h
    refine ⟨_, (pss_cons (ps_expr (pe_call LKP.ok hr (by rfl) LKP.g LKP.kp LKP.b .nil pass0 (pa_cons (pv 0) (pa_cons (pe_lst (pa_cons (pv 1) (pa_cons (pv 2) pa_nil))) pa_nil))))
      (pss_one (ps_ret (pe_or (pe_cmpR (op_eqD hr.units) (pe_call PAH.ok (hr.mono (show 1 ≤ 7 by decide)) (by rfl) PAH.g PAH.kp PAH.b .nil pass0 (pa_cons (pv 1) pa_nil)) (pv 2) (nomark _)) (pe_one (pe_cmpR (op_eqD hr.units) (pe_call PAH.ok (hr.mono (show 1 ≤ 7 by decide)) (by rfl) PAH.g PAH.kp PAH.b .nil pass0 (pa_cons (pv 2) pa_nil)) (pv 1) (nomark _))))))), ?_⟩
    refine ⟨.int q, rfl, .ref c, rfl, .ref d, rfl, (by show 2 ≤ sizeLine; decide), fun l nl => ?_⟩
    have s0 := same_new (o := .lst [V.ref c, .ref d]) nl
    refine ⟨q, FF, l, [c, d], rfl, .inl (.inl upd_same), fun e he => ?_, fun H1 s1 => ?_⟩
    · rcases List.mem_cons.mp he with h | h
      · subst h
        exact ⟨_, _, _, _, hx.kept s0, ox⟩
      · rw [List.mem_singleton.mp h]
        exact ⟨_, _, _, _, hy.kept s0, oy⟩
    have s01 := s0.trans s1
    refine bes_iff (σ := [some (.int q), some (.ref c), some (.ref d)]) (i := 1) (j := 2) rfl rfl (hx.kept s01) ox (hy.kept s01) oy fun v H2 s2 h => ?_
    cases v with
    | true => exact ⟨_, rfl, iteT (want true H2 ⟨fun _ => .inr (h.mp rfl), fun _ => rfl⟩ (s01.trans s2))⟩
    | false =>
      refine ⟨_, rfl, iteF ?_⟩
      refine bes_iff (σ := [some (.int q), some (.ref c), some (.ref d)]) (i := 2) (j := 1) rfl rfl (hy.kept (s01.trans s2)) oy (hx.kept (s01.trans s2)) ox fun v H3 s3 h2 => ?_
      refine want v H3 ⟨fun e => .inl (h2.mp e), fun e => ?_⟩ (s01.trans (s2.trans s3))
      rcases e with e | e
      · exact h2.mpr e
      · cases h.mpr e
end
end K13
set_option Elab.async false
set_option linter.all false
set_option maxRecDepth 100000
set_option maxHeartbeats 2000000
set_option pp.maxSteps 1500
/-! Sets of keys that are tuples of any depth: tables of up to 8192 slots; every key is new. -/
namespace BP
open PySem PySem.Spec PyProof.Rows L2
/-! ### the round -/
def nx5 (m x : Nat) : Nat := (x * 5 + 1) % (m + 1)
theorem lcg_front (m : Nat) : ∀ (n x : Nat), lcgI m x (n + 1) = lcgI m (nx5 m x) n
  | 0, _ => rfl
  | n + 1, x => by
    have e := lcg_front m n x
    show nx5 m (lcgI m x (n + 1)) = nx5 m (lcgI m (nx5 m x) n)
    rw [e]
theorem lcg_two (m x a : Nat) : ∀ n, lcgI m x (a + n) = lcgI m (lcgI m x a) n
  | 0 => rfl
  | n + 1 => by
    have e := lcg_two m x a n
    show nx5 m (lcgI m x (a + n)) = nx5 m (lcgI m (lcgI m x a) n)
    rw [e]
/-- the slots met in n steps, as bits; told step by step -/
def seenB (m : Nat) : Nat → Nat → Nat → Nat
  | 0, _, b => b
  | n + 1, x, b => bif Nat.beq (x + b) 0 then seenB m n (nx5 m x) (b ||| 2 ^ x) else seenB m n (nx5 m x) (b ||| 2 ^ x)
theorem seenB_succ (m n x b : Nat) : seenB m (n + 1) x b = seenB m n (nx5 m x) (b ||| 2 ^ x) := by
  show (bif Nat.beq (x + b) 0 then _ else _) = _
  cases Nat.beq (x + b) 0 <;> rfl
theorem seenB_of {m j : Nat} : ∀ (n x b : Nat), (seenB m n x b).testBit j = true → b.testBit j = true ∨ ∃ k, k < n ∧ lcgI m x k = j
  | 0, _, _, h => .inl h
  | n + 1, x, b, h => by
    rw [seenB_succ] at h
    rcases seenB_of n _ _ h with h | ⟨k, hk, e⟩
    · rw [Nat.testBit_or, Nat.testBit_two_pow] at h
      rcases Bool.or_eq_true_iff.mp h with h | h
      · exact .inl h
      · exact .inr ⟨0, Nat.succ_pos n, of_decide_eq_true h⟩
    · exact .inr ⟨k + 1, Nat.succ_lt_succ hk, by rw [lcg_front]; exact e⟩
def endB (m : Nat) : Nat → Nat → Nat
  | 0, x => x
  | n + 1, x => bif Nat.beq x 0 then endB m n (nx5 m x) else endB m n (nx5 m x)
theorem endB_is (m : Nat) : ∀ n x, endB m n x = lcgI m x n
  | 0, _ => rfl
  | n + 1, x => by
    rw [lcg_front, ← endB_is m n]
    show (bif Nat.beq x 0 then _ else _) = _
    cases Nat.beq x 0 <;> rfl
/-- tables of so many slots, less one -/
def MOk (m : Nat) : Prop := m ∈ [7, 31, 127, 511, 2047, 8191]
theorem all_masks : ([7, 31, 127, 511, 2047, 8191].all fun m => Nat.beq (seenB m (m + 1) 0 0) (2 ^ (m + 1) - 1) && Nat.beq (endB m (m + 1) 0) 0 && Nat.beq (m % 2) 1 && Nat.ble m 8191) = true := by decide +kernel
theorem MOk.whole {m : Nat} (h : MOk m) : seenB m (m + 1) 0 0 = 2 ^ (m + 1) - 1 ∧ lcgI m 0 (m + 1) = 0 ∧ m % 2 = 1 ∧ m ≤ 8191 := by
  have z := List.all_eq_true.mp all_masks m h
  rw [Bool.and_eq_true, Bool.and_eq_true, Bool.and_eq_true] at z
  obtain ⟨⟨⟨a, b⟩, c⟩, d⟩ := z
  exact ⟨Nat.eq_of_beq_eq_true a, (endB_is m (m + 1) 0).symm.trans (Nat.eq_of_beq_eq_true b), Nat.eq_of_beq_eq_true c, Nat.le_of_ble_eq_true d⟩
theorem MOk.zero {m j : Nat} (h : MOk m) (hj : j ≤ m) : ∃ k, k ≤ m ∧ lcgI m 0 k = j := by
  have z : (seenB m (m + 1) 0 0).testBit j = true := by
    rw [h.whole.1, Nat.testBit_two_pow_sub_one]
    exact decide_eq_true (Nat.lt_succ_of_le hj)
  rcases seenB_of _ _ _ z with z | ⟨k, a, b⟩
  · rw [Nat.zero_testBit] at z
    cases z
  · exact ⟨k, Nat.le_of_lt_succ a, b⟩
theorem MOk.any {m i j : Nat} (h : MOk m) (hi : i ≤ m) (hj : j ≤ m) : ∃ k, k ≤ m ∧ lcgI m i k = j := by
  obtain ⟨a, la, rfl⟩ := h.zero hi
  obtain ⟨b, lb, rfl⟩ := h.zero hj
  by_cases c : a ≤ b
  · exact ⟨b - a, by omega, by rw [← lcg_two, Nat.add_sub_cancel' c]⟩
  · refine ⟨m + 1 + b - a, by omega, ?_⟩
    rw [← lcg_two, show a + (m + 1 + b - a) = (m + 1) + b by omega, lcg_two, h.whole.2.1]
/-- each slot begins a run in time -/
theorem MOk.run {m j : Nat} (hm : MOk m) (h : Int) (hj : j ≤ m) : ∃ n, n ≤ m + 12 ∧ runI m (SetTable.bits h) n = j := by
  obtain ⟨k, lk, e⟩ := hm.any (runI_le m (SetTable.bits h) 12) hj
  exact ⟨12 + k, by omega, (runI_tail (bits_lt h) k).trans e⟩
theorem MOk.slot {m j : Nat} (hm : MOk m) (h : Int) (hj : j ≤ m) : ∃ k, k < 10 * SetTable.turns m ∧ way m h k = j := by
  obtain ⟨n, ln, e⟩ := hm.run h hj
  obtain ⟨k, lk, e2⟩ := run_nth m (SetTable.bits h) n
  exact ⟨k, by unfold SetTable.turns; omega, (congrArg SetTable.Probe.j e2).trans e⟩
/-! ### a table without holes that were filled -/
structure Tb (t : SetTable) (n : Nat) : Prop where
  r : Ris t.place.toList
  d : t.dummies = #[]
  s : t.place.size = n
  m : MOk t.mask
theorem Tb.free {t : SetTable} {n : Nat} (T : Tb t n) (l : n ≤ t.mask) (h : Int) : ∃ K, K < 10 * SetTable.turns t.mask ∧ way t.mask h K ∉ t.place.toList ∧ ∀ k, k < K → way t.mask h k ∈ t.place.toList := by
  obtain ⟨j, lj, nj⟩ := st_missing t.place.toList (t.mask + 1) (by rw [Array.length_toList, T.s]; omega)
  obtain ⟨k, lk, e⟩ := T.m.slot h (Nat.le_of_lt_succ lj)
  obtain ⟨K, a, b, c⟩ := st_least (p := fun k => ¬ way t.mask h k ∈ t.place.toList) k (fun z => nj (e ▸ z))
  exact ⟨K, Nat.lt_of_le_of_lt a lk, b, fun k' lk' => Classical.not_not.mp (c k' lk')⟩
theorem Tb.fits {t : SetTable} {n : Nat} (T : Tb t n) (l : n ≤ t.mask) : t.fits n = true := by
  unfold SetTable.fits SetTable.fill
  rw [T.d, T.s, Bool.and_eq_true]
  exact ⟨beq_self_eq_true n, decide_eq_true (by show n + 0 ≤ t.mask; omega)⟩
theorem Tb.put {t : SetTable} {n : Nat} (T : Tb t n) {j : Nat} (nj : j ∉ t.place.toList) : (t.put j).2 = SetTable.below t.place j ∧ SetTable.below t.place j ≤ n ∧ Tb (t.put j).1 (n + 1) ∧ (t.put j).1.mask = t.mask ∧ (t.put j).1.led = t.led ∧ (t.put j).1.plain = t.plain ∧ (t.put j).1.fill = n + 1 := by
  obtain ⟨c, _, _⟩ := below_cut T.r j
  have ln : t.place.toList.length = n := (Array.length_toList ..).trans T.s
  have e := put_place t j
  have z : (t.put j).1.place.size = n + 1 := by
    rw [← Array.length_toList, e, len_ins _ (by rw [Array.length_toList]; exact c), ln]
  refine ⟨rfl, T.s ▸ c, ⟨ris_insert T.r fun q => nj (List.mem_of_getElem? (by rw [Array.getElem?_toList]; exact q)), put_dm T.d j, z, T.m⟩, rfl, rfl, rfl, ?_⟩
  show (t.put j).1.place.size + (t.put j).1.dummies.size = _
  rw [z, put_dm T.d j]
  rfl
/-! ### laid anew -/
theorem MOk.find {m : Nat} (hm : MOk m) (owner : Array (Option Nat)) (h : Int) {j : Nat} (hj : j ≤ m) (hf : oAt owner j = none) :
    ∃ K, SetTable.layClean.free m owner (SetTable.turns m) (SetTable.bits h % (m + 1)) (SetTable.bits h) = some (way m h K) ∧ oAt owner (way m h K) = none := by
  obtain ⟨n, ln, e⟩ := hm.run h hj
  have w0 : way m h (off m (SetTable.bits h % (m + 1)) (SetTable.bits h) n) = j := by
    show (nth m _ _).j = j
    rw [nth_off, itL_run]
    exact e
  obtain ⟨K, a, b, c⟩ := st_least (p := fun k => oAt owner (way m h k) = none) _ (w0.symm ▸ hf)
  refine ⟨K, free_spec m owner _ n _ _ K (by unfold SetTable.turns; omega) a (fun k lk => ?_) (Option.isNone_iff_eq_none.mpr b), b⟩
  cases z : oAt owner (nth m (runAt m (SetTable.bits h % (m + 1)) (SetTable.bits h)) k).j with
  | none => exact absurd z (c k lk)
  | some _ => rfl
theorem way_in {m : Nat} {h : Int} {k : Nat} : way m h k ≤ m := by
  have l : SetTable.bits h % (m + 1) ≤ m := Nat.le_of_lt_succ (Nat.mod_lt _ (Nat.succ_pos _))
  obtain ⟨a, b, _⟩ := runEnd_bd l
  have z := nth_in (m := m) k (runAt m (SetTable.bits h % (m + 1)) (SetTable.bits h)) (by
    show SetTable.bits h % (m + 1) + (SetTable.runEnd m _ - SetTable.bits h % (m + 1)) ≤ m
    omega)
  exact Nat.le_trans (Nat.le_add_right _ _) z
structure Ow (m c : Nat) (owner : Array (Option Nat)) : Prop where
  sz : owner.size = m + 1
  al : ∀ k, k < c → ∃ j, j ≤ m ∧ oAt owner j = some k
  ps : ∃ ps : List Nat, ps.length = c ∧ ∀ j, j ≤ m → oAt owner j ≠ none → j ∈ ps
theorem Ow.one {m c : Nat} {owner : Array (Option Nat)} (hm : MOk m) (W : Ow m c owner) (l : c ≤ m) (h : Int) :
    ∃ j, SetTable.layClean.free m owner (SetTable.turns m) (SetTable.bits h % (m + 1)) (SetTable.bits h) = some j ∧ Ow m (c + 1) (owner.setIfInBounds j (some c)) := by
  obtain ⟨ps, lp, hp⟩ := W.ps
  obtain ⟨i, li, ni⟩ := st_missing ps (m + 1) (by omega)
  have fi : oAt owner i = none := by
    cases z : oAt owner i with
    | none => rfl
    | some k => exact absurd (hp i (Nat.le_of_lt_succ li) (by rw [z]; exact Option.some_ne_none k)) ni
  obtain ⟨K, e1, e2⟩ := hm.find owner h (Nat.le_of_lt_succ li) fi
  have lw : way m h K ≤ m := way_in
  have self := oAt_set_self (owner := owner) (some c) (show way m h K < owner.size by rw [W.sz]; omega)
  refine ⟨_, e1, by rw [Array.size_setIfInBounds, W.sz], fun k lk => ?_, way m h K :: ps, by rw [List.length_cons, lp], fun j lj e => ?_⟩
  · by_cases q : k = c
    · exact ⟨_, lw, by rw [self, q]⟩
    · obtain ⟨j, lj, ej⟩ := W.al k (by omega)
      refine ⟨j, lj, ?_⟩
      have ne : j ≠ way m h K := fun z => by
        rw [z, e2] at ej
        cases ej
      rw [oAt_set_ne _ ne, ej]
  · by_cases q : j = way m h K
    · rw [q]
      exact List.mem_cons_self ..
    · rw [oAt_set_ne _ q] at e
      exact List.mem_cons_of_mem _ (hp j lj e)
theorem Ow.many {m : Nat} (hm : MOk m) : ∀ (hs : List Int) (c : Nat) (owner : Array (Option Nat)), Ow m c owner → c + hs.length ≤ m → ∃ o', hs.foldl (stepF m) (some (owner, c)) = some (o', c + hs.length) ∧ Ow m (c + hs.length) o'
  | [], c, owner, W, _ => ⟨owner, rfl, W⟩
  | h :: hs, c, owner, W, l => by
    rw [List.length_cons] at l
    obtain ⟨j, e, W1⟩ := W.one hm (by omega) h
    obtain ⟨o', f, W2⟩ := Ow.many hm hs (c + 1) _ W1 (by omega)
    refine ⟨o', ?_, ?_⟩
    · rw [List.foldl_cons, stepF_some e, f, List.length_cons, show c + 1 + hs.length = c + (hs.length + 1) by omega]
    · rw [List.length_cons, show c + (hs.length + 1) = c + 1 + hs.length by omega]
      exact W2
theorem Ow.lay {m : Nat} (hm : MOk m) {hs : Array Int} (l : hs.size ≤ m) : ∃ owner, SetTable.layClean m hs = some owner ∧ Ow m hs.size owner := by
  obtain ⟨o', f, W⟩ := Ow.many hm hs.toList 0 (Array.replicate (m + 1) none) ⟨by simp, fun k lk => absurd lk (Nat.not_lt_zero _), [], rfl, fun j lj e => absurd (oAt_init lj) e⟩ (by rw [Array.length_toList]; omega)
  rw [Array.length_toList, Nat.zero_add] at W
  exact ⟨o', by rw [layClean_eq, f]; rfl, W⟩
theorem Tb.relaid (t : SetTable) {hs : Array Int} {wanted M : Nat} (hw : SetTable.sizeAbove wanted - 1 = M) (hM : MOk M) (l : hs.size ≤ M) :
    ∃ t' order, t.relaid hs wanted = some (t', order) ∧ order.toList.Perm (List.range hs.size) ∧ Tb t' hs.size ∧ t'.mask = M ∧ t'.led = t.led ∧ t'.plain = t.plain := by
  obtain ⟨owner, e, W⟩ := Ow.lay hM l
  obtain ⟨ps, lp, hp⟩ := W.ps
  have rs : Ris ((liveOf M owner).map (·.1)) ∧ _ := ris_live (fun j => owner.getD j none) (List.range (M + 1)) (by unfold Ris; first | exact List.pairwise_lt_range | exact List.pairwise_lt_range _)
  have n1 := nat_nodup_len ((liveOf M owner).map (·.1)) ps (by
    have r1 : ((liveOf M owner).map (·.1)).Pairwise (· < ·) := rs.1
    exact r1.imp fun h => Nat.ne_of_lt h) fun x hx => by
    obtain ⟨⟨y, k⟩, hq, rfl⟩ := List.mem_map.mp hx
    obtain ⟨a, b⟩ := (mem_live W.sz).1 hq
    exact hp y a (by rw [b]; exact Option.some_ne_none k)
  have al : ∀ k, k < hs.size → k ∈ (liveOf M owner).map (·.2) := fun k lk => by
    obtain ⟨j, a, b⟩ := W.al k lk
    exact List.mem_map.mpr ⟨(j, k), (mem_live W.sz).2 ⟨a, b⟩, rfl⟩
  have n2 := nat_nodup_len (List.range hs.size) ((liveOf M owner).map (·.2)) List.nodup_range fun k hk => al k (List.mem_range.mp hk)
  rw [List.length_map, lp] at n1
  rw [List.length_map, List.length_range] at n2
  have n3 : (liveOf M owner).length = hs.size := Nat.le_antisymm n1 n2
  refine ⟨tabOf t M owner, ((liveOf M owner).map (·.2)).toArray, by rw [relaid_eq, hw, e]; rfl, perm_range _ _ (by rw [List.length_map]; exact n3) al, ⟨rs.1, rfl, ?_, hM⟩, rfl, rfl, rfl⟩
  show ((liveOf M owner).map (·.1)).toArray.size = _
  rw [List.size_toArray, List.length_map, n3]
end BP
set_option Elab.async false
set_option linter.all false
set_option maxRecDepth 100000
set_option maxHeartbeats 2000000
set_option pp.maxSteps 1500
namespace BP
open PySem PySem.Spec PyProof.Rows L2
section
variable {P : Program} {w : World} {A : Around} {E : Value → Shared → Prop} {s : Shared}
/-! ### what is asked of keys -/
theorem na_mem {h : Heap} : ∀ {ks : List NestedKey} {vs : List Value}, NestedAll h ks vs → ∀ v ∈ vs, ∃ k, NestedIs h k v ∧ k.depth ≤ NestedKey.depthAll ks
  | _, _, .nil, v, hv => by cases hv
  | _, _, .cons (k := k) (ks := ks) a b, v, hv => by
    rw [NestedKey.depthAll]
    rcases List.mem_cons.mp hv with rfl | hv
    · exact ⟨k, a, Nat.le_max_left ..⟩
    · obtain ⟨k', c, d⟩ := na_mem b v hv
      exact ⟨k', c, Nat.le_trans d (Nat.le_max_right ..)⟩
theorem cls_key {Q : Bool → Shared → Prop} : ∀ (n : Nat) (k : NestedKey) (v : Value) (Q : Bool → Shared → Prop), NestedIs s.heap k v → k.depth ≤ n → Q false s → wpAny (model P w) A (ofAClassStatement n v) Q E s := by
  intro n
  induction n with
  | zero =>
    intro k v Q h d q
    cases h with
    | tup a b c e => exact absurd d (by rw [NestedKey.depth]; omega)
    | _ => exact wpAny_pure q
  | succ n ih =>
    intro k v Q h d q
    cases h with
    | @tup a o vs m ks ho hc hd hk =>
      rw [NestedKey.depth] at d
      unfold ofAClassStatement
      refine wpAny_bind (wpAny_typeOf (T := "tuple") ⟨o, ho, hc⟩ ?_)
      dsimp only
      have t2 : (("tuple" : String) == "tuple") = true := by decide
      simp only [t2, if_true, Bool.not_true, Bool.false_eq_true, if_false]
      try refine wpAny_bind (wpAny_pure ?_)
      try simp only [Bool.not_true, Bool.false_eq_true, if_false]
      show wpAny _ _ (seqItems? (.ref a) >>= _) _ _ s
      refine wpAny_bind (wpAny_seqItems ho hd ?_)
      dsimp only
      refine wpAny_bind ?_
      show wpAny _ _ (forIn vs _ _) _ _ s
      rw [← Array.forIn_toList]
      refine wpAny_forIn_list _ (fun l r s' => (r.1 = none ∧ s' = s) ∧ ∀ v ∈ l, ∃ k, NestedIs s.heap k v ∧ k.depth ≤ n) _ (fun v l r s' hI => ?_) (fun r s' hI => ?_) _ _ ⟨⟨rfl, rfl⟩, fun v hv => ?_⟩
      · obtain ⟨⟨hr, rfl⟩, hl⟩ := hI
        obtain ⟨k', h1, h2⟩ := hl v (List.mem_cons_self ..)
        refine wpAny_bind (ih k' v _ h1 h2 ?_)
        simp only [Bool.false_eq_true, if_false]
        exact wpAny_pure ⟨⟨rfl, rfl⟩, fun u hu => hl u (List.mem_cons_of_mem _ hu)⟩
      · obtain ⟨r1, r2⟩ := r
        obtain ⟨⟨hr, rfl⟩, _⟩ := hI
        simp only at hr
        subst hr
        exact wpAny_pure q
      · obtain ⟨k', h1, h2⟩ := na_mem hk v hv
        exact ⟨k', h1, by omega⟩
    | _ => exact wpAny_pure q
theorem hv_key : ∀ (n : Nat) (k : NestedKey) (v : Value) (Q : Bool → Shared → Prop), NestedIs s.heap k v → (∀ b, Q b s) → wpAny (model P w) A (hashByValue n v) Q E s := by
  intro n
  induction n with
  | zero =>
    intro k v Q h q
    cases h <;> exact wpAny_pure (q _)
  | succ n ih =>
    intro k v Q h q
    cases h with
    | @tup a o vs m ks ho hc hd hk =>
      unfold hashByValue
      refine wpAny_bind (wpAny_specialOf (T := "tuple") ⟨o, ho, hc⟩ F.slot_tuple_hash.lookup ?_)
      show wpAny _ _ (seqItems? (.ref a) >>= _) _ _ s
      refine wpAny_bind (wpAny_seqItems ho hd ?_)
      refine wpAny_bind ?_
      show wpAny _ _ (forIn vs _ _) _ _ s
      rw [← Array.forIn_toList]
      refine wpAny_forIn_list _ (fun l r s' => (r.1 = none ∧ s' = s) ∧ ∀ v ∈ l, ∃ k, NestedIs s.heap k v) _ (fun v l r s' hI => ?_) (fun r s' hI => ?_) _ _ ⟨⟨rfl, rfl⟩, fun v hv => ?_⟩
      · obtain ⟨⟨hr, rfl⟩, hl⟩ := hI
        obtain ⟨k', h1⟩ := hl v (List.mem_cons_self ..)
        refine wpAny_bind (ih k' v _ h1 fun b => ?_)
        cases b with
        | true =>
          simp only [Bool.not_true, Bool.false_eq_true, if_false]
          exact wpAny_pure ⟨⟨rfl, rfl⟩, fun u hu => hl u (List.mem_cons_of_mem _ hu)⟩
        | false =>
          simp only [Bool.not_false, if_true]
          exact wpAny_pure (wpAny_pure (q _))
      · obtain ⟨r1, r2⟩ := r
        obtain ⟨⟨hr, rfl⟩, _⟩ := hI
        simp only at hr
        subst hr
        exact wpAny_pure (q _)
      · obtain ⟨k', h1, _⟩ := na_mem hk v hv
        exact ⟨k', h1⟩
    | _ => exact wpAny_pure (q _)
/-- the tuple is the key, of a depth that may be asked -/
def NI (h : Heap) (p : Addr × NestedKey) : Prop := NestedIs h p.2 (.ref p.1) ∧ p.2.depth ≤ 8
theorem seen_key {p : Addr × NestedKey} {Q : Bool → Shared → Prop} (hp : NI s.heap p) {ys : List Value} (hy : ∀ y ∈ ys, ∃ p', y = Value.ref p'.1 ∧ NI s.heap p') (q : Q false s) : wpAny (model P w) A (searchCouldBeSeen (.ref p.1) ys) Q E s := by
  unfold searchCouldBeSeen
  refine wpAny_bind ?_
  refine wpAny_forIn_list _ (fun l r s' => (r.1 = none ∧ s' = s) ∧ ∀ y ∈ l, ∃ p', y = Value.ref p'.1 ∧ NI s.heap p') _ (fun y l r s' hI => ?_) (fun r s' hI => ?_) _ _ ⟨⟨rfl, rfl⟩, hy⟩
  · obtain ⟨⟨hr, rfl⟩, hl⟩ := hI
    obtain ⟨p', rfl, h'⟩ := hl y (List.mem_cons_self ..)
    have tl : ∀ y ∈ l, ∃ p', y = Value.ref p'.1 ∧ NI s'.heap p' := fun u hu => hl u (List.mem_cons_of_mem _ hu)
    dsimp only
    by_cases c : (p.1 == p'.1 || (carriedByValue (.ref p.1) && carriedByValue (.ref p'.1))) = true
    · refine wp_if_pos c ?_
      exact wpAny_pure ⟨⟨rfl, rfl⟩, tl⟩
    · refine wp_if_neg c ?_
      refine wpAny_bind (quiet_key _ _ 8 _ hp.1 hp.2 _ _ _ ?_)
      simp only [Bool.not_true, Bool.false_eq_true, if_false]
      refine wpAny_bind (quiet_key _ _ 8 _ h'.1 h'.2 _ _ _ ?_)
      simp only [Bool.not_true, Bool.false_eq_true, if_false]
      refine wpAny_bind (cls_key (Q := Q) 8 _ _ _ hp.1 hp.2 ?_)
      simp only [Bool.false_eq_true, if_false]
      refine wpAny_bind (cls_key (Q := Q) 8 _ _ _ h'.1 h'.2 ?_)
      simp only [Bool.false_eq_true, if_false]
      exact wpAny_pure ⟨⟨rfl, rfl⟩, tl⟩
  · obtain ⟨r1, r2⟩ := r
    obtain ⟨⟨hr, rfl⟩, _⟩ := hI
    simp only at hr
    subst hr
    exact wpAny_pure q
/-! ### the set -/
structure SetN (w : World) (h : Heap) (a : Addr) (L : List (Addr × NestedKey)) (es : Array (Int × Value)) (ep : Nat) (t : SetTable) : Prop where
  ob : ∃ o, h.get? a = some o ∧ o.ExactSet ∧ o.data = .set es ep t
  rows : es.toList = L.map fun p => (p.2.hash w, Value.ref p.1)
  tab : Tb t L.length
  room : L.length * 5 < t.mask * 3
  tup : ∀ p ∈ L, NI h p
variable {a : Addr} {L : List (Addr × NestedKey)} {es : Array (Int × Value)} {ep : Nat} {t : SetTable}
theorem SetN.size {h : Heap} (R : SetN w h a L es ep t) : es.size = L.length := by
  rw [← Array.length_toList, R.rows, List.length_map]
theorem SetN.fits {h : Heap} (R : SetN w h a L es ep t) : t.fits es.size = true := by
  have := R.room
  rw [R.size]
  exact R.tab.fits (by omega)
theorem SetN.ent {h : Heap} (R : SetN w h a L es ep t) {i : Nat} {p : Addr × NestedKey} (e : L[i]? = some p) : es[i]? = some (p.2.hash w, Value.ref p.1) := by
  rw [← Array.getElem?_toList, R.rows, List.getElem?_map, e]
  rfl
theorem SetN.search (R : SetN w s.heap a L es ep t) {x : Addr × NestedKey} (hx : NI s.heap x) (hu : A.units + 8 < cLine) (nk : x.2 ∉ L.map (·.2)) {K : Nat} (lK : K < 10 * SetTable.turns t.mask) (hK : way t.mask (x.2.hash w) K ∉ t.place.toList)
    (hb : ∀ c, c < K → way t.mask (x.2.hash w) c ∈ t.place.toList) {Q : SetFound → Shared → Prop} (q : Q (.free (way t.mask (x.2.hash w) K) false) s) :
    ∀ (f c : Nat) (st : Option SetTable.Probe), st.getD (t.probeStart (x.2.hash w)) = nth t.mask (runAt t.mask (SetTable.bits (x.2.hash w) % (t.mask + 1)) (SetTable.bits (x.2.hash w))) c → c ≤ K → K - c < f →
      wpAny (model P w) A (setSearchFrom a (.ref x.1) (x.2.hash w) true f st) Q E s
  | 0, c, st, _, _, h => absurd h (Nat.not_lt_zero _)
  | f + 1, c, st, e0, lc, lf => by
    obtain ⟨o, ho, hex, hd⟩ := R.ob
    rw [setSearchFrom_succ]
    refine wpAny_bind (wpAny_setState_of ho hd R.fits ?_)
    dsimp only
    refine wp_if_neg (by unfold SetTable.gaveWay; rw [R.tab.m.whole.2.2.1]; decide) ?_
    try refine wpAny_bind (wpAny_pure ?_)
    have nd : ∀ (n : Nat) (p : SetTable.Probe), p.dummy = none → (nth t.mask p n).dummy = none := by
      intro n
      induction n with
      | zero => exact fun p z => z
      | succ n ih =>
        intro p z
        refine ih _ ?_
        unfold adv
        split <;> exact z
    have sh : ∀ n, nth t.mask (st.getD (t.probeStart (x.2.hash w))) n = nth t.mask (runAt t.mask (SetTable.bits (x.2.hash w) % (t.mask + 1)) (SetTable.bits (x.2.hash w))) (c + n) := fun n => by
      rw [e0, nth_add]
    have sj : ∀ n, (nth t.mask (st.getD (t.probeStart (x.2.hash w))) n).j = way t.mask (x.2.hash w) (c + n) := fun n => congrArg SetTable.Probe.j (sh n)
    have sp := go_spec t R.tab.r R.tab.d (fun i => (es[i]?.map (·.1)).getD 0) (x.2.hash w) (10 * SetTable.turns t.mask) (K - c) (st.getD (t.probeStart (x.2.hash w))) (by rw [e0]; exact nd c _ rfl) (by omega)
      (fun n ln => by rw [sj]; exact hb (c + n) (by omega)) (by rw [sj, Nat.add_sub_cancel' lc]; exact hK)
    rcases sp with ⟨n, i, ln, hi, _, _, hp⟩ | ⟨_, hp⟩
    · have hp' : t.probe (fun i => (es[i]?.map (·.1)).getD 0) (x.2.hash w) (st.getD (t.probeStart (x.2.hash w))) = some (.candidate (way t.mask (x.2.hash w) (c + n)) i (nth t.mask (runAt t.mask (SetTable.bits (x.2.hash w) % (t.mask + 1)) (SetTable.bits (x.2.hash w))) (c + (n + 1)))) := by
        rw [← sj, ← sh]
        exact hp
      rw [hp']
      dsimp only
      rw [sj] at hi
      have il : i < L.length := by
        have h1 := (List.getElem?_eq_some_iff.mp hi).1
        rw [Array.length_toList, R.tab.s] at h1
        exact h1
      obtain ⟨p, ep'⟩ : ∃ p, L[i]? = some p := ⟨_, List.getElem?_eq_getElem il⟩
      have pm : p ∈ L := List.mem_of_getElem? ep'
      have hp1 := R.tup p pm
      have ne : ¬ p.2 = x.2 := fun z => nk (List.mem_map.mpr ⟨p, pm, z⟩)
      have go : wpAny (model P w) A (searchRest a (.ref x.1) (x.2.hash w) true f es t (way t.mask (x.2.hash w) (c + n)) i (nth t.mask (runAt t.mask (SetTable.bits (x.2.hash w) % (t.mask + 1)) (SetTable.bits (x.2.hash w))) (c + (n + 1)))) Q E s := by
        unfold searchRest
        rw [R.ent ep']
        dsimp only
        refine wpAny_bind (wpAny_holding ((nestedKind P w).eqBool (by show A.units + 8 < cLine; exact hu) hp1 hx ?_))
        rw [decide_eq_false ne]
        refine wpAny_bind (wpAny_setState_of ho hd R.fits ?_)
        dsimp only
        refine wp_if_neg (by simp) ?_
        try refine wpAny_bind (wpAny_pure ?_)
        rw [sameMem]
        dsimp only
        simp only [if_true, slot_live R.tab.r hi, R.ent ep']
        refine wpAny_bind (wpAny_isSame_ref_self (wpAny_bind (wpAny_pure ?_)))
        simp only [if_true]
        refine wp_if_neg (by simp) ?_
        exact SetN.search R hx hu nk lK hK hb q f (c + (n + 1)) _ rfl (by omega) (by omega)
      by_cases hl : t.led = true
      · refine wp_if_neg (by simp [hl]) ?_
        try refine wpAny_bind (wpAny_pure ?_)
        exact go
      · refine wp_if_pos (by simp [hl]) ?_
        refine wpAny_bind (seen_key hx (fun y hy => ?_) ?_)
        · obtain ⟨e, he, rfl⟩ := List.mem_map.mp hy
          have he1 : e ∈ es ∧ e.1 = x.2.hash w := by simpa using he
          have he2 : e ∈ es.toList := by simpa using he1.1
          rw [R.rows] at he2
          obtain ⟨p2, hp2, rfl⟩ := List.mem_map.mp he2
          exact ⟨p2, rfl, R.tup p2 hp2⟩
        · refine wp_if_neg (by decide) ?_
          try refine wpAny_bind (wpAny_pure ?_)
          exact go
    · have hp' : t.probe (fun i => (es[i]?.map (·.1)).getD 0) (x.2.hash w) (st.getD (t.probeStart (x.2.hash w))) = some (.empty (way t.mask (x.2.hash w) K) none) := by
        rw [show way t.mask (x.2.hash w) K = (nth t.mask (st.getD (t.probeStart (x.2.hash w))) (K - c)).j by rw [sj, Nat.add_sub_cancel' lc]]
        exact hp
      rw [hp']
      exact wpAny_pure q
end
end BP
set_option Elab.async false
set_option linter.all false
set_option maxRecDepth 100000
set_option maxHeartbeats 3200000
set_option pp.maxSteps 1500
namespace BP
open PySem PySem.Spec PyProof.Rows L2
section
variable {P : Program} {w : World} {A : Around} {E : Value → Shared → Prop} {s : Shared}
variable {a : Addr} {L : List (Addr × NestedKey)} {es : Array (Int × Value)} {ep : Nat} {t : SetTable}
/-! ### laid anew, larger -/
theorem all_of (L : List (Addr × NestedKey)) : (List.range L.length).filterMap (fun i => L[i]?) = L := by
  have e : (List.range L.length).map (fun i => L[i]?) = L.map some := by
    refine List.ext_getElem (by simp) fun i h1 h2 => ?_
    have hi : i < L.length := by simpa using h2
    simp [hi]
  have e2 : ∀ {α β : Type} (f : α → Option β) (l : List α), l.filterMap f = (l.map f).filterMap id := fun f l => by
    rw [List.filterMap_map]
    rfl
  rw [e2, e, List.filterMap_map]
  show L.filterMap (fun x => some x) = L
  exact List.filterMap_some
theorem some_of (L : List (Addr × NestedKey)) (es : Array (Int × Value)) (order : Array Nat) (h : es.toList = L.map fun p => (p.2.hash w, Value.ref p.1)) (hp : order.toList.Perm (List.range L.length)) :
    ∃ L2 : List (Addr × NestedKey), (order.filterMap (es[·]?)).toList = L2.map (fun p => (p.2.hash w, Value.ref p.1)) ∧ L2.Perm L := by
  refine ⟨order.toList.filterMap fun i => L[i]?, ?_, ?_⟩
  · rw [List.map_filterMap, Array.toList_filterMap]
    congr 1
    funext i
    rw [← Array.getElem?_toList, h, List.getElem?_map]
  · have z := hp.filterMap fun i => L[i]?
    rw [all_of] at z
    exact z
theorem relayN {o : Obj} (ho : s.heap.get? a = some o) (hex : o.ExactSet) (hd : o.data = .set es ep t) (hr : es.toList = L.map fun p => (p.2.hash w, Value.ref p.1)) (T : Tb t L.length) (lm : L.length ≤ t.mask) (tup : ∀ p ∈ L, NI s.heap p)
    {wanted M : Nat} (hw : SetTable.sizeAbove wanted - 1 = M) (hM : MOk M) (hz : SetTable.sizeAbove wanted ≤ 8192) (hn : L.length * 5 < M * 3) {Q : Unit → Shared → Prop}
    (q : ∀ h' L' es' ep' t', Heap.SameBut a s.heap h' → SetN w h' a L' es' ep' t' → L'.Perm L → Q () { s with heap := h' }) : wpAny (model P w) A (setRelay a wanted) Q E s := by
  have sz : es.size = L.length := by rw [← Array.length_toList, hr, List.length_map]
  obtain ⟨t', order, e, hp, T', em, _, _⟩ := Tb.relaid t (hs := es.map (·.1)) (wanted := wanted) hw hM (by rw [Array.size_map, sz]; omega)
  rw [Array.size_map, sz] at hp T'
  obtain ⟨L2, r1, r2⟩ := some_of L es order hr hp
  have sz2 : (order.filterMap (es[·]?)).size = es.size := by rw [← Array.length_toList, r1, List.length_map, r2.length_eq, sz]
  rw [setRelay_eq]
  refine wpAny_bind (wpAny_setState_of ho hd (by rw [sz]; exact T.fits lm) ?_)
  dsimp only
  refine wp_if_neg (by rw [sizeLine_eq]; omega) ?_
  try refine wpAny_bind (wpAny_pure ?_)
  rw [e]
  dsimp only
  refine wpAny_bind ?_
  refine wp_if_neg (by rw [sz2]; simp) ?_
  try refine wpAny_bind (wpAny_pure ?_)
  refine wpAny_pure ?_
  dsimp only
  have l9 : L.length < 8192 := by have := hM.whole.2.2.2; omega
  refine wpAny_storeSet_of ho hd ?_ (by rw [sz2, sz, sizeLine_eq]; omega)
  have sb : Heap.SameBut a s.heap (s.heap.update a (Obj.putSet (order.filterMap (es[·]?)) t')) := Heap.SameBut.update ..
  refine q _ L2 _ (ep + 1) t' sb ⟨⟨_, store_at ho hd, ⟨hex.1, hex.2.1, hex.2.2⟩, rfl⟩, r1, r2.length_eq ▸ T', by rw [r2.length_eq, em]; exact hn, fun p hp => ?_⟩ r2
  obtain ⟨h1, h2⟩ := tup p (r2.mem_iff.mp hp)
  refine ⟨NestedIs.at (fun b ob vs n hb hc => ?_) _ _ h1, h2⟩
  refine (sb.2 b fun z => ?_).trans hb
  subst z
  rw [ho] at hb
  cases hb
  rw [hd] at hc
  cases hc
theorem ni_but {h h' : Heap} {o : Obj} {p : Addr × NestedKey} (ho : h.get? a = some o) (hd : o.data = .set es ep t) (sb : Heap.SameBut a h h') (k : NI h p) : NI h' p := ⟨NestedIs.at (fun b ob vs n hb hc => by
  refine (sb.2 b fun z => ?_).trans hb
  subst z
  rw [ho] at hb
  cases hb
  rw [hd] at hc
  cases hc) _ _ k.1, k.2⟩
/-! ### a new one -/
theorem SetN.add (R : SetN w s.heap a L es ep t) {x : Addr × NestedKey} (hx : NI s.heap x) (hu : A.units + 8 < cLine) (nk : x.2 ∉ L.map (·.2)) (few : L.length + 1 ≤ 4800) {Q : Bool → Shared → Prop}
    (q : ∀ b h' L' es' ep' t', Heap.SameBut a s.heap h' → SetN w h' a L' es' ep' t' → L'.Perm (x :: L) → Q b { s with heap := h' }) : wpAny (model P w) A (setAddHashed a (.ref x.1) (x.2.hash w)) Q E s := by
  obtain ⟨o, ho, hex, hd⟩ := R.ob
  have room := R.room
  obtain ⟨K, lK, hK, hb⟩ := R.tab.free (by omega) (x.2.hash w)
  have tl := R.tab.m.whole.2.2.2
  unfold setAddHashed
  refine wpAny_holding ?_
  rw [show (100000 : Nat) = 99999 + 1 from rfl, setAddHashedIn_succ]
  refine wpAny_bind (wpAny_setState_of ho hd R.fits ?_)
  dsimp only
  refine wp_if_neg (by simp [byScan, Value.scannable]) ?_
  try refine wpAny_bind (wpAny_pure ?_)
  refine wpAny_bind ?_
  unfold setSearch
  refine R.search hx hu nk lK hK hb ?_ 100000 0 none rfl (Nat.zero_le _) (by unfold SetTable.turns at lK; omega)
  dsimp only
  refine wpAny_bind (wpAny_setState_of ho hd R.fits ?_)
  dsimp only
  obtain ⟨p1, p2, p3, p4, p5, p6, p7⟩ := R.tab.put hK
  generalize t.put (way t.mask (x.2.hash w) K) = tp at p1 p3 p4 p5 p6 p7 ⊢
  obtain ⟨t1, p⟩ := tp
  dsimp only at p1 p3 p4 p5 p6 p7 ⊢
  subst p1
  suffices fin : ∀ b : Bool, wpAny (model P w) A (do
      let t' := if b then t1 else { t1 with plain := false }
      storeSet a (SetTable.insertAt es (SetTable.below t.place (way t.mask (x.2.hash w) K)) (x.2.hash w, Value.ref x.1)) t'
      if !false && t'.tooFull then setRelay a (SetTable.grown (es.size + 1))
      return true) Q E s by
    by_cases hpl : t1.plain = true
    · refine wp_if_pos hpl (wpAny_bind (hv_key 8 _ _ _ hx.1 fun b => ?_))
      exact fin b
    · refine wp_if_neg hpl ?_
      exact fin true
  intro b
  have f1 : Tb (if b = true then t1 else { t1 with plain := false }) (L.length + 1) := by
    cases b
    · exact ⟨p3.r, p3.d, p3.s, p3.m⟩
    · exact p3
  have f2 : (if b = true then t1 else { t1 with plain := false }).mask = t.mask := by
    cases b <;> exact p4
  have f3 : (if b = true then t1 else { t1 with plain := false }).fill = L.length + 1 := by
    cases b <;> exact p7
  dsimp only
  generalize (if b = true then t1 else { t1 with plain := false }) = t2 at f1 f2 f3 ⊢
  have hin : (SetTable.insertAt es (SetTable.below t.place (way t.mask (x.2.hash w) K)) (x.2.hash w, Value.ref x.1)).toList = (L.take (SetTable.below t.place (way t.mask (x.2.hash w) K)) ++ x :: L.drop (SetTable.below t.place (way t.mask (x.2.hash w) K))).map fun p => (p.2.hash w, Value.ref p.1) := by
    rw [SetTable.toList_insertAt, R.rows, List.map_append, List.map_cons, List.map_take, List.map_drop]
  generalize SetTable.below t.place (way t.mask (x.2.hash w) K) = p at p2 hin ⊢
  have pm := put_perm L p x
  have ln : (L.take p ++ x :: L.drop p).length = L.length + 1 := pm.length_eq
  have se : (SetTable.insertAt es p (x.2.hash w, Value.ref x.1)).size = L.length + 1 := by rw [← Array.length_toList, hin, List.length_map, ln]
  generalize SetTable.insertAt es p (x.2.hash w, Value.ref x.1) = es1 at hin se ⊢
  generalize L.take p ++ x :: L.drop p = L1 at pm ln hin
  refine wpAny_bind (wpAny_storeSet_of ho hd ?_ (by rw [se, sizeLine_eq]; omega))
  have sb : Heap.SameBut a s.heap (s.heap.update a (Obj.putSet es1 t2)) := Heap.SameBut.update ..
  have ho1 := store_at (es' := es1) (t' := t2) ho hd
  generalize s.heap.update a (Obj.putSet es1 t2) = h1 at sb ho1 ⊢
  have tup1 : ∀ p ∈ L1, NI h1 p := fun p hp => by
    rcases List.mem_cons.mp (pm.mem_iff.mp hp) with rfl | hp
    · exact ni_but ho hd sb hx
    · exact ni_but ho hd sb (R.tup p hp)
  by_cases hf : t2.tooFull = true
  · first
      | (refine wpAny_bind ?_; refine wp_if_pos (by simp [hf]) ?_)
      | (refine wp_if_pos (by simp [hf]) ?_; refine wpAny_bind ?_)
    have full : (L.length + 1) * 5 ≥ t.mask * 3 := by
      unfold SetTable.tooFull at hf
      rw [decide_eq_true_eq, f3, f2] at hf
      exact hf
    rw [R.size]
    have go : ∀ M, SetTable.sizeAbove (SetTable.grown (L.length + 1)) = M + 1 → MOk M → (L.length + 1) * 5 < M * 3 → wpAny (model P w) A (setRelay a (SetTable.grown (L.length + 1))) (fun _ s' => wpAny (model P w) A (pure true) Q E s') E { s with heap := h1 } := fun M e1 e2 e3 =>
      relayN (s := { s with heap := h1 }) (L := L1) ho1 ⟨hex.1, hex.2.1, hex.2.2⟩ rfl hin (by rw [ln]; exact f1) (by rw [ln, f2]; omega) tup1 (wanted := SetTable.grown (L.length + 1)) (M := M) (by rw [e1]; rfl) e2 (by rw [e1]; have := e2.whole.2.2.2; omega) (by rw [ln]; exact e3)
        fun h2 L2 es2 ep2 t3 sb2 R2 pm2 => wpAny_pure (q true h2 L2 es2 ep2 t3 (sb.trans sb2) R2 (pm2.trans pm))
    have mk := R.tab.m
    unfold MOk at mk
    simp only [List.mem_cons, List.not_mem_nil, or_false] at mk
    rcases mk with e | e | e | e | e | e
    · have l : L.length = 4 := by omega
      exact go 31 (by rw [l]; decide +kernel) (by unfold MOk; decide) (by omega)
    · have l : L.length = 18 := by omega
      exact go 127 (by rw [l]; decide +kernel) (by unfold MOk; decide) (by omega)
    · have l : L.length = 76 := by omega
      exact go 511 (by rw [l]; decide +kernel) (by unfold MOk; decide) (by omega)
    · have l : L.length = 306 := by omega
      exact go 2047 (by rw [l]; decide +kernel) (by unfold MOk; decide) (by omega)
    · have l : L.length = 1228 := by omega
      exact go 8191 (by rw [l]; decide +kernel) (by unfold MOk; decide) (by omega)
    · omega
  · first
      | refine wp_if_neg (by simp [hf]) ?_
      | (refine wpAny_bind ?_; refine wp_if_neg (by simp [hf]) ?_; refine wpAny_pure ?_)
    refine wpAny_pure (q true h1 L1 es1 (ep + 1) t2 sb ⟨⟨_, ho1, ⟨hex.1, hex.2.1, hex.2.2⟩, rfl⟩, hin, by rw [ln]; exact f1, ?_, tup1⟩ pm)
    unfold SetTable.tooFull at hf
    rw [decide_eq_true_eq, f3, f2] at hf
    rw [ln, f2]
    omega
end
end BP
set_option Elab.async false
set_option linter.all false
set_option maxRecDepth 100000
set_option maxHeartbeats 3200000
set_option pp.maxSteps 1500
namespace BP
open PySem PySem.Spec PyProof.Rows L2
section
variable {P : Program} {w : World} {A : Around} {E : Value → Shared → Prop} {s : Shared}
theorem NI.keep {h h' : Heap} {p : Addr × NestedKey} (k : NI h p) (hk : ∀ b o, h.get? b = some o → h'.get? b = some o) : NI h' p := ⟨NestedIs.at (fun b ob vs n hb _ => hk b ob hb) _ _ k.1, k.2⟩
theorem SetN.keep {h h' : Heap} {a : Addr} {L : List (Addr × NestedKey)} {es : Array (Int × Value)} {ep : Nat} {t : SetTable} (R : SetN w h a L es ep t) (ha : ∀ o, h.get? a = some o → h'.get? a = some o) (ht : ∀ p ∈ L, NI h' p) : SetN w h' a L es ep t := by
  obtain ⟨o, ho, r⟩ := R.ob
  exact ⟨⟨o, ha o ho, r⟩, R.rows, R.tab, R.room, ht⟩
theorem SetN.fresh {h : Heap} {a : Addr} {led : Bool} (ho : h.get? a = some { cls := .type "set", dict := none, data := .set #[] 0 (.fresh 0 0 led) }) : SetN w h a [] #[] 0 (.fresh 0 0 led) :=
  ⟨⟨_, ho, ⟨rfl, rfl, rfl⟩, rfl⟩, rfl, ⟨List.Pairwise.nil, rfl, rfl, by show MOk 7; unfold MOk; decide⟩, by show 0 * 5 < 7 * 3; decide, fun p hp => by cases hp⟩
/-- one after another is put in; all are new -/
theorem put_all {I : Addr} {fp wr : List Addr} {G : Array GenState → Array GenState → Prop} {n : Nat} {Pv : Nat → Value → Prop} {St : Nat → Shared → Prop} {R : Result → Shared → Prop}
    (W : WalksS P w A.in1 I fp wr G n Pv St) (S : Addr) (hSf : S ∉ fp) (ks : List (Addr × NestedKey)) (hn : n = ks.length) (few : ks.length ≤ 4800) (nd : (ks.map (·.2)).Nodup) (hval : ∀ i v, Pv i v → ∃ p, ks[i]? = some p ∧ v = .ref p.1)
    (h0 : Heap) (hk : ∀ p ∈ ks, NI h0 p) (hS0 : h0.get? S = none) (hw0 : ∀ b ∈ wr, h0.get? b = none) (hu : A.in1.units + 8 < cLine) :
    ∀ (k i : Nat) (s : Shared), n - i = k → i ≤ n → St i s → (∀ b o, h0.get? b = some o → s.heap.get? b = some o) → (∃ L es ep t, SetN w s.heap S L es ep t ∧ L.Perm (ks.take i)) →
      (∀ s' L es ep t, Moved (S :: wr) G s s' → SetN w s'.heap S L es ep t → L.Perm ks → (∀ b o, h0.get? b = some o → s'.heap.get? b = some o) → R (.ok (.ret .none)) s') →
      codeAny (model P w) A (.builtin "set.update.loop" ⟨[.ref S, .ref I], []⟩) R s := by
  have nw : S ∉ wr := fun z => hSf (W.sub _ z)
  have up : ∀ b ∈ wr, b ∈ S :: wr := fun b hb => List.mem_cons_of_mem _ hb
  have on : ∀ {s s' : Shared}, Moved wr G s s' → (∀ b o, h0.get? b = some o → s.heap.get? b = some o) → ∀ b o, h0.get? b = some o → s'.heap.get? b = some o := fun m z b o e =>
    m.heap b o (fun hb => by rw [hw0 b hb] at e; cases e) (z b o e)
  intro k
  induction k with
  | zero =>
    rintro i s hk' hi st kp ⟨L, es, ep, t, hS, pm⟩ hR
    obtain rfl : i = n := by omega
    refine codeAny_builtin F.entry_set_update_loop ?_
    rw [Around.under_plainId F.plain_set_update_loop _]
    show wpAny _ A.in1 (pyNext (.ref I) >>= _) _ _ s
    refine wpAny_bind (W.done s _ _ st fun s' m => ?_)
    show wpAny _ A.in1 (ret Value.none) _ _ s'
    rw [hn, List.take_length] at pm
    exact wpAny_pure (hR s' L es ep t (m.mono up) (hS.keep (fun o e => m.heap S o nw e) fun p hp => (hk p (pm.mem_iff.mp hp)).keep (on m kp)) pm (on m kp))
  | succ k ih =>
    rintro i s hk' hi st kp ⟨L, es, ep, t, hS, pm⟩ hR
    have lt : i < n := by omega
    refine codeAny_builtin F.entry_set_update_loop ?_
    rw [Around.under_plainId F.plain_set_update_loop _]
    show wpAny _ A.in1 (pyNext (.ref I) >>= _) _ _ s
    refine wpAny_bind (W.item i s _ _ lt st fun v s' hv st' m => ?_)
    obtain ⟨p, hp, rfl⟩ := hval i v hv
    have kp' := on m kp
    have nx : ks.take (i + 1) = ks.take i ++ [p] := by
      rw [List.take_succ, hp]
      rfl
    have new : p.2 ∉ L.map (·.2) := fun z => by
      have z2 := (pm.map (·.2)).mem_iff.mp z
      have n1 : ((ks.take (i + 1)).map (·.2)).Nodup := List.Nodup.sublist ((List.take_sublist _ _).map _) nd
      rw [nx, List.map_append] at n1
      exact (List.nodup_append.mp n1).2.2 _ z2 _ (List.mem_singleton.mpr rfl) rfl
    have hS' : SetN w s'.heap S L es ep t := hS.keep (fun o e => m.heap S o nw e) fun q hq => (hk q (List.mem_of_mem_take (pm.mem_iff.mp hq))).keep kp'
    have hx : NI s'.heap p := (hk p (List.mem_of_getElem? hp)).keep kp'
    have ll : L.length = i := by rw [pm.length_eq, List.length_take]; omega
    show wpAny _ A.in1 (holding [Value.ref p.1] (setAdd S (.ref p.1)) >>= _) _ _ s'
    refine wpAny_bind (wpAny_holding ?_)
    unfold setAdd
    refine wpAny_holding ?_
    refine wpAny_bind (pyHash_key p.2 _ _ _ _ hx.1 (by have := hx.2; omega) ?_)
    refine SetN.add (s := { s' with toks := s'.toks + p.2.draws }) hS' hx hu new (by omega) fun b h' L' es' ep' t' sb hS2 pm2 => ?_
    have kp2 : ∀ b o, h0.get? b = some o → h'.get? b = some o := fun b o e => (sb.2 b (fun z => by rw [z, hS0] at e; cases e)).trans (kp' b o e)
    refine wpAny_pure ⟨plainId_quiet F.plain_set_update_loop _, ih (i + 1) _ (by omega) lt (W.frame _ s' _ _ st' (Nat.le_add_right _ _) fun b hb o e => ?_) kp2 ⟨L', es', ep', t', hS2, ?_⟩ fun s2 L2 es2 ep2 t2 m2 hS3 pm3 kp3 => ?_⟩
    · rw [sb.2 b fun z => hSf (z ▸ hb)]
      exact e
    · rw [nx]
      exact pm2.trans ((pm.cons p).trans (List.perm_append_singleton p _).symm)
    · refine hR s2 L2 es2 ep2 t2 (Moved.trans W.gtrans ((m.mono up).then_heap (Nat.le_add_right _ _) fun b o hb e => ?_) m2) hS3 pm3 kp3
      rw [sb.2 b fun z => hb (z ▸ List.mem_cons_self ..)]
      exact e
/-- set(t), t a tuple of keys -/
theorem call_setN {l : Addr} {items : Array Value} (ks : List (Addr × NestedKey)) {Q : Value → Shared → Prop} (hh : A.handled = none) (hl : s.heap.IsTuple l items) (hit : items.toList = ks.map fun p => Value.ref p.1)
    (hk : ∀ p ∈ ks, NI s.heap p) (few : ks.length ≤ 4800) (nd : (ks.map (·.2)).Nodup) (hu : A.units + 16 < cLine)
    (h : ∀ (h' : Heap) (tk : Nat) L es ep t, SetN w h' s.heap.objs.size L es ep t → L.Perm ks → (∀ b o, s.heap.get? b = some o → h'.get? b = some o) → Q (.ref s.heap.objs.size) { s with heap := h', toks := tk }) :
    wpAny (model P w) A (call (.type "set") [.ref l]) Q E s := by
  have si : items.size = ks.length := by rw [← Array.length_toList, hit, List.length_map]
  obtain ⟨c, tl, hmro⟩ := F.called_set.mro
  have hmade := F.called_set.made
  have hsub := F.called_set.sub
  refine wpAny_call (codeAny_of_tree ?_)
  show wpAny _ _ (callAny (.type "set") _) _ _ _
  refine wpAny_pure ⟨Code.quiet_builtin _ (by decide +kernel), codeAny_builtin F.entry_type_call ?_⟩
  rw [Around.under_plain (weight_type_call_type "set" [.ref l] []) rfl]
  have h1 := F.called_set.notType
  have h2 := F.called_set.canCreate
  have hct := F.typeCall_set_1 (.ref l)
  repeat (any_goals (first | assumption | wp_step))
  refine codeAny_mono (code_set_new_1 (.ref l) (E := E) (Q₁ := fun ob z => ∃ led : Bool, ob = .ref s.heap.objs.size ∧ z = { s with heap := s.heap.push { cls := .type "set", dict := none, data := .set #[] 0 (.fresh 0 0 led) } }) fun led => ⟨led, rfl, rfl⟩) fun r s₁ hr => ?_
  cases r with
  | error e => exact hr
  | ok fl =>
    cases fl with
    | ret obj =>
      obtain ⟨led, rfl, rfl⟩ := hr
      have oS : (s.heap.push { cls := .type "set", dict := none, data := .set #[] 0 (.fresh 0 0 led) }).get? s.heap.objs.size = some { cls := .type "set", dict := none, data := .set #[] 0 (.fresh 0 0 led) } := Heap.get?_push_size _ rfl
      have tS : Shared.TypeIs { s with heap := s.heap.push { cls := .type "set", dict := none, data := .set #[] 0 (.fresh 0 0 led) } } (.ref s.heap.objs.size) "set" := ⟨_, oS, rfl⟩
      have hli := F.called_set.init.lookup
      have hbi := F.called_set.init.bind (.ref s.heap.objs.size)
      repeat (any_goals (first | assumption | wp_step))
      refine codeAny_mono (codeAny_call_builtin (R := wants (fun r s₂ => r = .none ∧ ∃ h' tk L es ep t, s₂ = { s with heap := h', toks := tk } ∧ SetN w h' s.heap.objs.size L es ep t ∧ L.Perm ks ∧
          (∀ b o, s.heap.get? b = some o → h'.get? b = some o)) E) F.called_set.init.plain F.entry_set_init (check_set_init_1 tS ?_)) fun r₂ s₂ hr₂ => ?_
      · obtain ⟨⟨ocls, odict, odata, oslots⟩, hol, hcl, nl, hdl⟩ := hl
        simp only at hcl hdl
        subst hcl hdl
        have ol1 : (s.heap.push { cls := .type "set", dict := none, data := .set #[] 0 (.fresh 0 0 led) }).get? l = some { cls := .type "tuple", dict := odict, data := .seq items nl, slots := oslots } := Heap.get?_push_of_some _ hol
        have q1 := F.sub_tuple_set
        have q2 := F.sub_tuple_frozenset
        have q3 : (Value.type "tuple" == Value.type "dict") = false := by decide
        have hl1 : (s.heap.push { cls := .type "set", dict := none, data := .set #[] 0 (.fresh 0 0 led) }).IsTuple l items := ⟨_, ol1, rfl, nl, rfl⟩
        unfold Builtin.«set.__init__» noKeywords Builtin.Frozenset.updateFrom
        generalize hPI : pyIter = PI
        wp_walk
        subst hPI
        refine wpAny_pyIter_tuple hl1 ?_
        refine wpAny_bind (wpAny_runValue ?_)
        have lS : l < s.heap.objs.size := Heap.lt_size hol
        have h3 : A.in1.in1.in1.handled = none := by simp [hh]
        have nI : l ≠ (s.heap.push { cls := .type "set", dict := none, data := .set #[] 0 (.fresh 0 0 led) }).objs.size := by
          rw [Heap.size_push]
          exact Nat.ne_of_lt (Nat.lt_succ_of_lt lS)
        have nF : s.heap.objs.size ∉ [(s.heap.push { cls := .type "set", dict := none, data := .set #[] 0 (.fresh 0 0 led) }).objs.size, l] := by
          rw [Heap.size_push]
          simp only [List.mem_cons, List.not_mem_nil, or_false, not_or]
          exact ⟨Nat.ne_of_lt (Nat.lt_succ_self _), Nat.ne_of_gt lS⟩
        have vals : ∀ (i : Nat) (v : Value), items[i]? = some v → ∃ p, ks[i]? = some p ∧ v = .ref p.1 := fun i v hv => by
          rw [← Array.getElem?_toList, hit, List.getElem?_map] at hv
          obtain ⟨p, e1, e2⟩ := Option.map_eq_some_iff.mp hv
          exact ⟨p, e1, e2.symm⟩
        have no : ∀ b, s.heap.objs.size ≤ b → s.heap.get? b = none := fun b hb => by
          cases q : s.heap.get? b with
          | none => rfl
          | some o => exact absurd (Nat.lt_of_lt_of_le (Heap.lt_size q) hb) (Nat.lt_irrefl _)
        refine put_all ((Walks.tuple h3 _ l nI items).toS) s.heap.objs.size nF ks si few nd vals s.heap hk (no _ (Nat.le_refl _)) (fun b hb => no b (by
            rw [List.mem_singleton.mp hb, Heap.size_push]
            exact Nat.le_succ _)) (by simp only [Around.in1_units]; omega) (items.size - 0) 0 _ (by omega) (Nat.zero_le _)
          ⟨⟨_, Heap.get?_push_size _ rfl, rfl, rfl⟩, (hl1.push _)⟩ (fun b o e => Heap.get?_push_of_some _ (Heap.get?_push_of_some _ e)) ⟨[], #[], 0, _, SetN.fresh (led := led) (Heap.get?_push_of_some _ oS), .refl _⟩ ?hR
        case hR =>
          intro s' L es ep t m hS' pm kp
          obtain ⟨h', g2, d', tk', os'⟩ := s'
          obtain rfl : g2 = s.gens := m.gens
          obtain rfl : d' = s.drawn := m.drawn
          obtain rfl : os' = s.os := m.os
          show wpAny _ _ _ _ _ _
          refine wpAny_pure ?_
          show wpAny _ _ (ret Value.none) _ _ _
          exact wpAny_pure ⟨rfl, h', tk', L, es, ep, t, rfl, hS', pm, kp⟩
      · cases r₂ with
        | error e => exact hr₂
        | ok fl₂ =>
          cases fl₂ with
          | ret r =>
            obtain ⟨rfl, h', tk, L, es, ep, t, rfl, hS', pm, kp⟩ := hr₂
            repeat (any_goals (first | assumption | wp_step))
            exact h _ _ _ _ _ _ hS' pm kp
          | _ => exact hr₂.elim
    | _ => exact hr.elim
end
end BP
set_option Elab.async false
set_option linter.all false
set_option maxRecDepth 100000
set_option maxHeartbeats 3200000
set_option pp.maxSteps 1500
namespace BP
open PySem PySem.Spec PyProof.Rows L2
mutual
theorem nest_reads {h : Heap} : ∀ (k : NestedKey) (v : Value) (as : List Addr), Reads h v k.data as → NestedIs h k v
  | .none, _, _, r => by
    cases r
    exact .none
  | .num i, _, _, r => by
    cases r
    exact .int _ _
  | .text x, _, _, r => by
    cases r
    exact .text _ _
  | .tup ks, _, _, r => by
    rw [NestedKey.data] at r
    cases r with
    | tuple h1 h2 h3 h4 => exact .tup h1 h2 h3 (nest_readsAll ks _ _ h4)
theorem nest_readsAll {h : Heap} : ∀ (ks : List NestedKey) (vs : List Value) (as : List Addr), ReadsAll h vs (NestedKey.datas ks) as → NestedAll h ks vs
  | [], _, _, r => by
    rw [NestedKey.datas] at r
    cases r
    exact .nil
  | k :: ks, _, _, r => by
    rw [NestedKey.datas] at r
    cases r with
    | cons h1 h2 => exact .cons (nest_reads k _ _ h1) (nest_readsAll ks _ _ h2)
end
theorem ref_vals : ∀ {ps : List Addr} {us : List Value}, Vals (ps.map V.ref) us → us = ps.map Value.ref
  | [], _, .nil => rfl
  | _ :: _, _, .cons r t => by
    cases r
    rw [ref_vals t]
    rfl
/-- len(set(t)), t a tuple of tuples of any depth, all of them unlike -/
def tLenSetN (K : PySem.W.Frag) (ta : TE) : TE := fun σ H Q => ta σ H fun x H1 => ∃ (l : Addr) (ps : List Addr) (ks : List NestedKey), x = V.ref l ∧ SqT K H1 l (ps.map V.ref) ∧ ps.length = ks.length ∧
  (∀ (i : Nat) (p : Addr) (k : NestedKey), ps[i]? = some p → ks[i]? = some k → Dp K H1 (.ref p) k.data ∧ k.depth ≤ 8) ∧ ks.length ≤ 4800 ∧ ks.Nodup ∧ Q (.int (ks.length : Nat)) H1
section
variable {X : Cx}
theorem pe_lenSetN {a : Expr} {ta : TE} {p p2 q pos : Pos} (hc : X.calm = true) (hu : X.A.units + 64 < cLine) (hg : Gl X "len") (hm : X.mg "len" = none) (hg2 : Gl X "set") (hm2 : X.mg "set" = none) (ha : PE X a ta)
    (na : starEach [a] X.env = (false, eval a X.env) :: starEach [] X.env := by rfl) : PE X (.Call (.Name "len" p) [.Call (.Name "set" p2) [a] [] q] [] pos) (tLenSetN X.K ta) := by
  refine ⟨fun pins s σ H Q I h => ?_⟩
  refine Call_ (ld_blt I hg hm PySem.boot_len ?_)
  refine PyProof.Rows.callWith_builtin1 (PyProof.Rows.args_cons ?_ rfl) rfl rfl
  refine Call_ (ld_blt I hg2 hm2 PyProof.Rows.boot_set ?_)
  refine PyProof.Rows.callWith_type1 (PyProof.Rows.args_cons (thn (ha.run pins s σ H _ I h) fun v s1 ⟨x, H1, I1, r1, q1⟩ => PyProof.Rows.args_nil ?_) na) na rfl
  obtain ⟨l, ps, ks, rfl, hq, ln, hk, few, nd, q1⟩ := q1
  cases r1
  obtain ⟨its, r, pl, hz⟩ := I1.tuple hq
  have e := ref_vals r
  have z1 : (ps.zip ks).map (·.1) = ps := List.map_fst_zip (Nat.le_of_eq ln)
  have z2 : (ps.zip ks).map (·.2) = ks := List.map_snd_zip (Nat.le_of_eq ln.symm)
  have zl : (ps.zip ks).length = ks.length := by rw [← List.length_map (f := (·.2)), z2]
  refine call_setN (ps.zip ks) (I1.ok.hd hc) (show s1.heap.IsTuple l its.toArray from pl) (by
    show its = (ps.zip ks).map fun p => Value.ref p.1
    have z3 : (ps.zip ks).map (fun p => Value.ref p.1) = ((ps.zip ks).map (·.1)).map Value.ref := by
      rw [List.map_map]
      rfl
    rw [e, z3, z1]) (fun p hp => ?_) (by rw [zl]; exact few) (by rw [z2]; exact nd) (by omega) fun h' tk L es ep t R pm hk' => ?_
  · obtain ⟨i, hi, ei⟩ := List.getElem_of_mem hp
    have e2 : (ps.zip ks)[i]? = some p := by rw [List.getElem?_eq_getElem hi, ei]
    obtain ⟨e3, e4⟩ := List.getElem?_zip_eq_some.mp e2
    obtain ⟨d, dp⟩ := hk i p.1 p.2 e3 e4
    obtain ⟨as, rd⟩ := Dp.reads I1 _ _ (.ref p.1) d rfl
    exact ⟨nest_reads _ _ _ rd, dp⟩
  · refine PyProof.Rows.args_nil ?_
    obtain ⟨o, ho, hex, hd⟩ := R.ob
    have sz : es.size = ks.length := by rw [R.size, pm.length_eq, zl]
    have I2 : Inv X pins σ H1 { s1 with heap := h', toks := tk } := I1.kept hk'
    exact call_len_set ho hex hd R.fits (by rw [sz]; omega) ⟨.int (ks.length : Nat), H1, I2.tok _, ⟨_, by rw [sz]⟩, q1⟩
end
end BP
set_option Elab.async false
set_option linter.all false
set_option maxRecDepth 100000
set_option maxHeartbeats 1000000
set_option pp.maxSteps 2000
namespace BP
open PySem PySem.Spec PyProof.Rows L2 Fld
section
variable {q : Nat} [FF : IsF q] {K : PySem.W.Frag} {H : Hp}
/-! ### places as keys -/
def elK (f : Po q) : NestedKey := .tup (f.map fun (x : El q) => .num (x.val : Nat))
def plK (x : Pl q) : NestedKey := .tup [.text (sortS x.1), .num (oi x.2.1), .tup (x.2.2.2.map elK), elK x.2.2.1]
theorem datas_map {α : Type} (f : α → NestedKey) : ∀ l : List α, NestedKey.datas (l.map f) = l.map fun x => (f x).data
  | [] => by
    rw [List.map_nil, NestedKey.datas]
    try rfl
  | x :: l => by rw [List.map_cons, NestedKey.datas, datas_map f l, List.map_cons]
theorem elK_data (f : Po q) : (elK f).data = tpd f := by
  unfold elK tpd
  rw [NestedKey.data, datas_map]
  simp only [NestedKey.data]
theorem plK_data (x : Pl q) : (plK x).data = pD x := by
  unfold plK pD plD
  rw [NestedKey.data, NestedKey.datas, NestedKey.datas, NestedKey.datas, NestedKey.datas, NestedKey.datas, NestedKey.data, NestedKey.data, NestedKey.data, elK_data, datas_map]
  congr 4
  exact congrArg PyData.tuple (List.map_congr_left fun (f : Po q) _ => elK_data f)
theorem dep_map {α : Type} (f : α → NestedKey) (n : Nat) : ∀ l : List α, (∀ x ∈ l, (f x).depth ≤ n) → NestedKey.depthAll (l.map f) ≤ n
  | [], _ => by
    rw [List.map_nil, NestedKey.depthAll]
    exact Nat.zero_le n
  | x :: l, h => by
    rw [List.map_cons, NestedKey.depthAll]
    exact Nat.max_le.mpr ⟨h x (List.mem_cons_self ..), dep_map f n l fun y hy => h y (List.mem_cons_of_mem _ hy)⟩
theorem elK_dep (f : Po q) : (elK f).depth ≤ 1 := by
  unfold elK
  rw [NestedKey.depth]
  exact Nat.succ_le_succ (dep_map _ 0 f fun x _ => by rw [NestedKey.depth]; exact Nat.le_refl 0)
theorem plK_dep (x : Pl q) : (plK x).depth ≤ 8 := by
  unfold plK
  have h1 := elK_dep x.2.2.1
  have h2 := dep_map elK 1 x.2.2.2 fun f _ => elK_dep f
  simp only [NestedKey.depth, NestedKey.depthAll]
  omega
theorem plK_inj {x y : Pl q} (ox : PO x) (h : plK x = plK y) : x = y := by
  refine (eqv_pl ox).mp ?_
  rw [← plK_data, ← plK_data, ← h]
  have z := SeqAt.eqv_refl _ (sm_pa ox).lay
  rw [← plK_data] at z
  exact z
theorem keys_nodup {w : List (Pl q)} (o : ∀ x ∈ w, PO x) (n : w.Nodup) : (w.map plK).Nodup := by
  show (w.map plK).Pairwise (· ≠ ·)
  rw [List.pairwise_map]
  exact List.Pairwise.imp_of_mem (fun {x y} hx hy ne e => ne (plK_inj (o x hx) e)) n
theorem Pls.refs {H : Hp} : ∀ {vs : List V} {xs : List (Pl q)}, Pls K H vs xs → ∃ ps : List Addr, vs = ps.map V.ref
  | [], [], _ => ⟨[], rfl⟩
  | _ :: _, _ :: _, ⟨⟨c, e, _⟩, k⟩ => by
    obtain ⟨ps, rfl⟩ := Pls.refs k
    exact ⟨c :: ps, by rw [e]; rfl⟩
  | [], _ :: _, h => h.elim
  | _ :: _, [], h => h.elim
end
end BP
set_option Elab.async false
set_option linter.all false
set_option maxRecDepth 100000
set_option maxHeartbeats 1000000
namespace BP
open PySem PySem.Spec PyProof.Rows L2 Fld
def mi3 {α : Type} : List α → List α → List α
  | [], x :: y :: z :: _ => [z, x, y]
  | _, _ => []
theorem mi3_rel : ∀ {vs : List V} {us : List Value} {zs : List V} {ws : List Value}, Vals vs us → Vals zs ws → Vals (mi3 vs zs) (mi3 us ws)
  | _, _, _, _, .nil, .cons a (.cons b (.cons c _)) => .cons c (.cons a (.cons b .nil))
  | _, _, _, _, .nil, .nil => .nil
  | _, _, _, _, .nil, .cons _ .nil => .nil
  | _, _, _, _, .nil, .cons _ (.cons _ .nil) => .nil
  | _, _, _, _, .cons _ _, .nil => .nil
  | _, _, _, _, .cons _ _, .cons _ .nil => .nil
  | _, _, _, _, .cons _ _, .cons _ (.cons _ .nil) => .nil
  | _, _, _, _, .cons _ _, .cons _ (.cons _ (.cons _ _)) => .nil
section
variable {K : PySem.W.Frag} {x qual : Str} {st : Stmt} {f : Addr} {fd : FuncData}
theorem kb_mi3 {a b c : Str} (F : Fun K x qual st f fd)
    (h : ∀ (kV doc pm : Value) (an : Option Addr) (cdv ct u v w : Value), bindArgs (PySem.W.fnOf x qual (defArgs st) (defBody st) (defScope st) .none kV doc pm an cdv ct) ⟨[], [(b, u), (c, v), (a, w)]⟩ = pure [(a, w), (b, u), (c, v)]) : KBinds K fd [a, b, c] [b, c, a] mi3 mi3 := by
  obtain ⟨oc, od, kV, doc, pm, an, cdv, ct, osl, rfl, _⟩ := F.ex
  refine ⟨fun s us ws _ hl => ?_, mi3_rel⟩
  match us, ws, hl with
  | [], u :: v :: w :: r, _ => exact .of_eq (h kV doc pm an cdv ct u v w)
end
/-- repr(a truth value) -/
theorem call_repr_bl {X : Cx} : CallR X (.builtin "repr") (fun xs H Q => ∃ b : Bool, xs = [.bl b] ∧ Q (.str (if b then "True" else "False")) H) := by
  intro pins s σ H xs us Q I r h
  obtain ⟨b, rfl, q⟩ := h
  obtain ⟨u, rfl, ru⟩ := vals1 r
  have e : u = Value.bool b := ru
  subst e
  exact PySem.P.repr_of_bool ⟨.str _, H, I.tok _, ⟨_, rfl⟩, q⟩
end BP
set_option Elab.async false
set_option linter.all false
set_option maxRecDepth 100000
set_option maxHeartbeats 1000000
set_option pp.maxSteps 2000
namespace BP
open PySem PySem.Spec PyProof.Rows L2 Fld K13
section
variable {q : Nat} [FF : IsF q] {K : PySem.W.Frag} {σ : L2.St} {H : Hp} {X : TE} {ta : TA}
theorem Sm.num {i : Int} (h : i.natAbs < 1024) : Sm (.int i) 12 0 := by
  have l5 : i.natAbs.log2 ≤ 10 := by
    by_cases h0 : i.natAbs = 0
    · rw [h0]
      decide
    · have := (Nat.log2_lt h0 (k := 10)).mpr h
      omega
  refine ⟨by simp [PyData.canLay0], ?_, ?_, by simp [PyData.depth], ?_⟩
  · simp only [PyData.showable]
    exact decide_eq_true (by omega)
  · simp only [PyData.intsShort]
    exact decide_eq_true (PyData.shown_int_le (Nat.lt_of_lt_of_le h (by decide)))
  · simp only [PyData.weight]
    split <;> omega
/-- the weight of a place, by its bends -/
theorem sm_pb {x : Pl q} {m : Nat} (ok : PO x) (h : x.2.2.2.length ≤ m) : Sm (pD x) (57 * m + 130) 3 := by
  obtain ⟨b, o, us, fs⟩ := x
  have l2 : us.length ≤ fs.length := by
    cases b with
    | true => exact Nat.le_of_eq (ok.bent rfl)
    | false =>
      have : us.length = fs.length - 1 := (ok.str rfl).1
      omega
  have i1 := oi_small o
  have h : fs.length ≤ m := h
  have s : Sm (plD b o us fs) (100 + 1 + (6 + 1 + (50 * fs.length + 1 + (7 * us.length + 1 + 0)))) 3 := Sm.tup (SmAll.cons ((Sm.sort b).more (Nat.le_refl _) (show 0 ≤ 2 by decide)) (SmAll.cons ((Sm.int i1).more (Nat.le_refl _) (show 0 ≤ 2 by decide)) (SmAll.cons (Sm.tup (sm_fs ok.fB)) (SmAll.cons ((sm_po us).more (Nat.le_refl _) (show 1 ≤ 2 by decide)) SmAll.nil))))
  exact s.more (by omega) (Nat.le_refl _)
theorem sm_way {m N : Nat} (hN : 57 * m + 131 ≤ N) : ∀ {w : List (Pl q)}, (∀ v ∈ w, PO v ∧ v.2.2.2.length ≤ m) → SmAll (w.map pD) (w.length * N) 3
  | [], _ => .nil
  | x :: w, h => by
    obtain ⟨h1, h2⟩ := h x (List.mem_cons_self ..)
    have ih := sm_way hN (w := w) fun v hv => h v (List.mem_cons_of_mem _ hv)
    have s : w.length * N + N = (w.length + 1) * N := (Nat.succ_mul ..).symm
    refine (SmAll.cons (sm_pb h1 h2) ih).more ?_ (Nat.le_refl _)
    show 57 * m + 130 + 1 + w.length * N ≤ (w.length + 1) * N
    omega
theorem zd_wix {te : TE} {i : Nat} {W : Addr} {us : List V} {w : List (Pl q)} {k : Nat} {p : Pl q} (hi : σ[i]? = some (some (.ref W))) (hk : ∀ Q : VK, Q (.int (k : Nat)) H → te σ H Q) (hW : SqT K H W us) (hP : Pls K H us w) (hp : w[k]? = some p) : Zd K (tOp (rIxT K) (tVar i) te) σ H (pD p) := fun Q kk => by
  obtain ⟨c, gp, pp⟩ := hP.get hp
  exact ⟨.ref W, hi, hk _ ⟨W, us, (k : Nat), _, rfl, rfl, hW, atI_nat gp, kk c H Same.rf (dp_pa pp)⟩⟩
theorem way_one {a b : Pl q} {w : List (Pl q)} (h : Way a b w) : w.length = 1 ↔ b = a := by
  constructor
  · intro l
    obtain ⟨r, er⟩ := h.hd
    obtain ⟨s, es⟩ := h.lst
    rw [er] at l es
    have : r = [] := List.length_eq_zero_iff.mp (by rw [List.length_cons] at l; omega)
    subst this
    cases s with
    | nil => exact (List.cons.inj es).1.symm
    | cons a s =>
      have := (List.cons.inj es).2
      simp at this
  · intro e
    subst e
    rw [h.one (.refl b)]
    rfl
theorem iff_dec {v : Bool} {P : Prop} [Decidable P] (h : v = true ↔ P) : v = decide P := by
  by_cases p : P
  · rw [decide_eq_true p]
    exact h.mpr p
  · rw [decide_eq_false p]
    exact Bool.eq_false_iff.mpr fun z => p (h.mp z)
theorem sm_bl2 (a b : Bool) : Sm (.tuple [.bool a, .bool b]) 100 1 := (Sm.tup (SmAll.cons (Sm.bl a) (SmAll.cons (Sm.bl b) (SmAll.nil (w := 0) (k := 0))))).more (by decide) (by decide)
theorem sm_dw {i : Int} {w : List (Pl q)} {m N : Nat} (hi : i.natAbs < 1024) (hN : 57 * m + 131 ≤ N) (h : ∀ v ∈ w, PO v ∧ v.2.2.2.length ≤ m) : Sm (.tuple [.int i, .tuple (w.map pD)]) (w.length * N + 20) 5 :=
  (Sm.tup (SmAll.cons ((Sm.num hi).more (Nat.le_refl _) (Nat.zero_le 4)) (SmAll.cons (Sm.tup (sm_way hN h)) (SmAll.nil (w := 0))))).more (by omega) (Nat.le_refl _)
theorem dec_iff {P R : Prop} [Decidable P] [Decidable R] (h : P ↔ R) : decide P = decide R := decide_eq_decide.mpr h
theorem int_iff {a b : Int} : V.int a = V.int b ↔ a = b := ⟨fun h => V.int.inj h, fun h => congrArg V.int h⟩
theorem lg_small {i : Int} (h : i.natAbs < 100000) : i.natAbs.log2 < 1920 := by
  by_cases h0 : i.natAbs = 0
  · rw [h0]
    decide
  · have := (Nat.log2_lt h0 (k := 17)).mpr (Nat.lt_of_lt_of_le h (by decide))
    omega
theorem zi_pl {i : Nat} {r : Addr} {x : Pl q} (hi : σ[i]? = some (some (.ref r))) (h : PA K H r x) : Zd K (tVar i) σ H (pD x) := zd_pl hi h
theorem pl_bound {w : List (Pl q)} {m : Nat} (h : ∀ v ∈ w, PO v ∧ v.2.2.2.length ≤ m) (hm : m ≤ 60) : Sm (.tuple (w.map pD)) (w.length * 3600) 4 := Sm.tup (sm_way (m := 60) (by decide) fun v hv => ⟨(h v hv).1, by have := (h v hv).2; omega⟩)
theorem sm_w3 {w : List (Pl q)} {m : Nat} {a b : Int} (h : ∀ v ∈ w, PO v ∧ v.2.2.2.length ≤ m) (hm : m ≤ 60) (ha : a.natAbs < 1024) (hb : b.natAbs < 1024) : Sm (.tuple [.tuple (w.map pD), .int a, .int b]) (w.length * 3600 + 40) 5 :=
  (Sm.tup (SmAll.cons (pl_bound h hm) (SmAll.cons ((Sm.num ha).more (Nat.le_refl _) (Nat.zero_le 4)) (SmAll.cons ((Sm.num hb).more (Nat.le_refl _) (Nat.zero_le 4)) (SmAll.nil (w := 0)))))).more (by omega) (Nat.le_refl _)
theorem wb_ok {n : Nat} (h : n ≤ 200) : n * 3600 + 40 ≤ 2 ^ 20 := by
  have : n * 3600 ≤ 200 * 3600 := Nat.mul_le_mul_right _ h
  exact Nat.le_trans (Nat.add_le_add_right this 40) (by decide)

/-- how far a way goes, and how deep it lies -/
theorem way_bd {a b : Pl q} {w : List (Pl q)} {m : Nat} (oa : PO a) (ob : PO b) (W : Way a b w) (la : dp a ≤ m) (lb : dp b ≤ m) : w.length ≤ 2 * m + 1 ∧ ∀ v ∈ w, PO v ∧ v.2.2.2.length ≤ m := by
  have l1 := W.len oa ob
  refine ⟨by omega, fun v hv => ?_⟩
  obtain ⟨o, l⟩ := W.ok oa ob v hv
  have d1 : 2 * a.2.2.2.length ≤ dp a := by unfold dp; omega
  have d2 : 2 * b.2.2.2.length ≤ dp b := by unfold dp; omega
  exact ⟨o, by omega⟩
theorem way_two {a b : Pl q} {w : List (Pl q)} (oa : PO a) (ob : PO b) (W : Way a b w) : w.length = 2 ↔ Adj a b := by
  constructor
  · intro l
    obtain ⟨r, er⟩ := W.hd
    obtain ⟨s, es⟩ := W.lst
    have g0 : w[0]? = some a := by rw [er]; rfl
    have g1 : w[1]? = some b := by
      have ls : s.length = 1 := by
        have := congrArg List.length es
        rw [l, List.length_append, List.length_singleton] at this
        omega
      rw [es, List.getElem?_append_right (by omega), ls]
      rfl
    exact (red_of_way W oa ob).2.1 0 a b g0 g1
  · intro h
    have r : Red [a, b] := by
      refine ⟨fun x hx => ?_, fun i x y hx hy => ?_, fun i x y hx hy => ?_⟩
      · simp only [List.mem_cons, List.not_mem_nil, or_false] at hx
        rcases hx with rfl | rfl
        · exact oa
        · exact ob
      · cases i with
        | zero =>
          cases hx
          cases hy
          exact h
        | succ i => cases i <;> cases hy
      · cases i <;> cases hy
    have k := way_of_red r (b := b) rfl ⟨[a], rfl⟩
    rw [W.one k]
    rfl
theorem adj_self {a : Pl q} : ¬ Adj a a := by
  rintro (⟨n, e⟩ | ⟨n, e⟩) <;>
  · have := dp_ah n
    rw [e] at this
    omega
theorem ite_ne {x : V} {A B : Prop} (h : B) : if (!decide (x = x)) = true then A else B := by
  rw [decide_eq_true rfl]
  exact iteF h
theorem zd_tupV {i : Nat} {e : Addr} {us : List V} {w : List (Pl q)} (hi : σ[i]? = some (some (.ref e))) (he : SqT K H e us) (hw : Pls K H us w) : Zd K (tVar i) σ H (.tuple (w.map pD)) := fun Q k => ⟨.ref e, hi, k e H Same.rf (.tup he hw.dp)⟩
theorem zd_revV {i : Nat} {e : Addr} {us : List V} {w : List (Pl q)} (hi : σ[i]? = some (some (.ref e))) (he : SqT K H e us) (hw : Pls K H us w) : Zd K (tRevT K (tVar i)) σ H (.tuple (w.reverse.map pD)) := fun Q k => ⟨.ref e, hi, e, us, rfl, he, fun p np => k p _ (same_new np) (.tup (.inl (.inl upd_same)) ((hw.kept (same_new np)).rev.dp))⟩
theorem sm_ii {a b : Int} (ha : a.natAbs < 1024) (hb : b.natAbs < 1024) : Sm (.tuple [.int a, .int b]) 100 1 :=
  (Sm.tup (SmAll.cons (Sm.num ha) (SmAll.cons (Sm.num hb) (SmAll.nil (w := 0) (k := 0))))).more (by decide) (by decide)
end
end BP
set_option Elab.async false
set_option linter.all false
set_option maxRecDepth 100000
set_option maxHeartbeats 1000000
set_option pp.maxSteps 2000
/-! repr of very many places: bounds by the number of parts (bulk), not by bits. -/
namespace BP
open PySem PySem.Spec PyProof.Rows L2 Fld K13
theorem rRepr_ofB {K : PySem.W.Frag} {H : Hp} {a : Addr} {d : PyData} {w k : Nat} {Q : VK} (h : Dp K H (.ref a) d) (s : Sm d w k) (hk : k ≤ 40) (hb : d.bulk ≤ 2 ^ 20) (q : Q (.str d.shown) H) : rRepr K [.ref a] H Q :=
  ⟨a, d, rfl, h, s.sh, PyData.hasDict_of_canLay d s.lay, Nat.le_trans s.dep hk, PyData.shown_fits_bulk (B := 13) (by decide) (Nat.le_refl _) (PyData.leavesShort_of_canLay0 13 d s.lay s.short) hb, q⟩
section
variable {q : Nat} [FF : IsF q] {K : PySem.W.Frag} {σ : L2.St} {H : Hp} {X Y : TE}
/-- as ask_ne, ask_eq, by bulk -/
theorem ask_neB {D : PyData} {w k : Nat} {Q : Bool → Hp → Prop} (hA : Zd K X σ H D) (hB : ∀ H', Same H H' → Zd K Y σ H' D) (sm : Sm D w k) (hk : k ≤ 40) (hb : D.bulk ≤ 2 ^ 20) (kk : ∀ H', Same H H' → Q false H') :
    tTest (tOp rNe (tCB (rRepr K) (tCons X tNil)) (tCB (rRepr K) (tCons Y tNil))) σ H Q := by
  refine hA _ fun a H1 s1 h1 => ?_
  dsimp only [tNil]
  refine rRepr_ofB h1 sm hk hb ?_
  refine hB H1 s1 _ fun b H2 s2 h2 => ?_
  dsimp only [tNil]
  refine rRepr_ofB h2 sm hk hb ⟨rfl, false, ?_, kk H2 (s1.trans s2)⟩
  rw [decide_eq_true rfl]
  rfl
theorem bulk_ints (f : Po q) : PyData.bulkAll (f.map fun (x : El q) => PyData.int (x.val : Nat)) = f.length := by
  induction f with
  | nil => rw [List.map_nil, PyData.bulkAll]; rfl
  | cons x f ih =>
    rw [List.map_cons, PyData.bulkAll, ih, PyData.bulk, List.length_cons]
    omega
theorem bulk_fs : ∀ {fs : List (Po q)}, (∀ f ∈ fs, f.length ≤ 7) → PyData.bulkAll (fs.map tpd) ≤ 8 * fs.length
  | [], _ => by rw [List.map_nil, PyData.bulkAll]; exact Nat.zero_le _
  | f :: fs, h => by
    have ih := bulk_fs (fs := fs) fun g hg => h g (List.mem_cons_of_mem _ hg)
    have h7 := h f (List.mem_cons_self ..)
    have e : (tpd f).bulk = f.length := by
      unfold tpd
      rw [PyData.bulk, bulk_ints]
    rw [List.map_cons, PyData.bulkAll, e, List.length_cons]
    omega
theorem bulk_pl {x : Pl q} (o : PO x) : (pD x).bulk ≤ 9 * x.2.2.2.length + 12 := by
  obtain ⟨b, s, us, fs⟩ := x
  have l2 : us.length ≤ fs.length := by
    cases b with
    | true => exact Nat.le_of_eq (o.bent rfl)
    | false =>
      have : us.length = fs.length - 1 := (o.str rfl).1
      omega
  have h1 := bulk_fs (fs := fs) fun f hf => (o.fB f hf).2
  have h2 : (tpd us).bulk = us.length := by
    unfold tpd
    rw [PyData.bulk, bulk_ints]
  have h3 : (PyData.str (sortS b)).bulk ≤ 8 := by
    rw [PyData.bulk]
    cases b <;> decide +kernel
  show (plD b s us fs).bulk ≤ 9 * fs.length + 12
  unfold plD
  simp only [PyData.bulk, PyData.bulkAll] at h1 h2 h3 ⊢
  omega
theorem bulk_pls {m : Nat} : ∀ {w : List (Pl q)}, (∀ v ∈ w, PO v ∧ v.2.2.2.length ≤ m) → PyData.bulkAll (w.map pD) ≤ w.length * (9 * m + 13)
  | [], _ => by rw [List.map_nil, PyData.bulkAll]; exact Nat.zero_le _
  | x :: w, h => by
    have ih := bulk_pls (m := m) (w := w) fun v hv => h v (List.mem_cons_of_mem _ hv)
    obtain ⟨o, l⟩ := h x (List.mem_cons_self ..)
    have h1 := bulk_pl o
    have e : (w.length + 1) * (9 * m + 13) = w.length * (9 * m + 13) + (9 * m + 13) := Nat.succ_mul ..
    rw [List.map_cons, PyData.bulkAll, List.length_cons, e]
    omega
end
end BP
set_option Elab.async false
set_option linter.all false
set_option maxRecDepth 100000
set_option maxHeartbeats 600000
set_option pp.maxSteps 2000
namespace BP
open PySem PySem.Spec PyProof.Rows L2 Fld
theorem ip_mul {X : Cx} : PIp X .Mult (rI CMul fun i j => .int (i * j)) := iop_mul
theorem cmr {i : Int} {q : Nat} (h : q ≤ 1000) : CMul i (q : Int) := .inr ⟨by omega, by omega⟩
section
variable {σ : L2.St} {H : Hp} {t1 t2 : TE}
theorem nl_add {n m : Nat} (h1 : Yl t1 σ H (.int (n : Nat))) (h2 : Yl t2 σ H (.int (m : Nat))) : Yl (tOp (rI0 fun i j => .int (i + j)) t1 t2) σ H (.int (n + m : Nat)) :=
  fun _ k => h1 _ (h2 _ ⟨_, _, rfl, rfl, by rw [Int.natCast_add] at k; exact k⟩)
theorem nl_sub {n m : Nat} (h1 : Yl t1 σ H (.int (n : Nat))) (h2 : Yl t2 σ H (.int (m : Nat))) (le : m ≤ n) : Yl (tOp (rI0 fun i j => .int (i - j)) t1 t2) σ H (.int (n - m : Nat)) :=
  fun _ k => h1 _ (h2 _ ⟨_, _, rfl, rfl, by rw [Int.ofNat_sub le] at k; exact k⟩)
theorem nl_c (n : Nat) : Yl (tC (.int (n : Nat))) σ H (.int (n : Nat)) := fun _ k => k
end
end BP
namespace K13
open PySem PySem.Spec PyProof.Rows L2 BP Fld
section
variable {P : Program} {w : World} {K : PySem.W.Frag} {mg : Str → Option Value} {base : Heap}
theorem ok_mbh {f fL aR : Addr} {fd fdL : FuncData} {t1 : Tok} (F : Fun K "many_behind" "many_behind" sManyBehind f fd) (LP : BP.Can P w K mg base "look_at_places" 7 pLookAtPlaces (spLookP K) fL fdL) (gST : mg "STRAIGHT" = some (.str "straight" t1)) (gRO : mg "ROOT" = some (.ref aR)) (hR : ∀ (H : Hp) (q : Nat) [IsF q], PlAt (q := q) K H aR false none [] []) (m_range : mg "range" = none) : FnOk P w K mg base CX0 8 f fd pManyBehind (spMBh K) := by
  refine F.ok scManyBehind (fun vs H Q E h => ?_) (fun cdv A outer s H vs Q E hr h => ?_)
  · obtain ⟨q, _, c, b, o, us, fs, d, rfl, _⟩ := h
    rfl
  · obtain ⟨q, FF, c, b, o, us, fs, d, rfl, hP, ok, d1, d10, want⟩ := h
    have q1 := gt1 FF.mem
    have q16 := le16 FF.mem
    refine ⟨_, (pss_cons (ps_expr (pe_call LP.ok hr (by rfl) LP.g LP.kp LP.b .nil pass0 (pa_cons (pv 0) (pa_cons (pe_lst (pa_cons (pv 1) pa_nil)) pa_nil))))
      (pss_cons (ps_if (pt_cmpR (op_eqD hr.units) (pv 1) (pe_glob (v := .ref aR) rfl gRO rfl) (nomark _)) (pss_one (ps_ret (pe_op op_add (pv 0) pe_int))) pss_nil)
      (pss_cons (ps_if (pt_cmpR op_eq (pe_ix ix_tup (pv 1) pe_int (fun _ _ => rfl)) (pe_glob (v := .str "straight") rfl gST ⟨_, rfl⟩) (nomark _)) (pss_one (ps_ret (pv 0))) pss_nil)
      (pss_cons (ps_set (i := 3) scManyBehind.nd rfl (.inl rfl) pe_int)
      (pss_cons (ps_for PassesOwn.never rfl (pi_range1 rfl m_range (pa_cons (pe_op op_sub (pv 2) pe_int) pa_nil)) (pg_name (i := 4) scManyBehind.nd rfl (.inl rfl)) (pss_one (ps_aug (i := 3) scManyBehind.nd rfl (.inl rfl) (pv 0) ip_mul)))
      (pss_one (ps_ret (pe_op op_sub (pv 3) pe_int)))))))), ?_⟩
    refine ⟨.int q, rfl, .ref c, rfl, (by show 1 ≤ sizeLine; decide), fun l nl => ?_⟩
    have s0 := same_new (o := .lst [V.ref c]) nl
    refine ⟨q, FF, l, [c], rfl, .inl (.inl upd_same), fun c' hc' => ?_, fun H1 s1 => ?_⟩
    · rw [List.mem_singleton.mp hc']
      exact ⟨_, _, _, _, hP.kept s0, ok⟩
    have s01 := s0.trans s1
    have hP1 := (hP.kept s0).kept s1
    have wt := want H1 s01
    have hD := dp_pl hP1
    obtain ⟨bs, p, t, hc, hb, hF, ht⟩ := hP1
    by_cases hroot : b = false ∧ fs = []
    · obtain ⟨rfl, rfl⟩ := hroot
      obtain ⟨k1, k2⟩ := ok.str rfl
      have us0 : us = [] := List.length_eq_zero_iff.mp k1
      subst us0
      rw [k2 rfl] at hD
      refine ⟨_, rfl, _, plD (q := q) false none [] [], hD, dp_pl (hR H1 q), sh_pl root_ok, sh_pl root_ok, true, by rw [root_yes], iteT ?_⟩
      exact (nl_add (n := q) (m := 1) (yl_var (i := 0) rfl) (nl_c 1)) _ wt
    · have nr : b = true ∨ fs ≠ [] := by
        cases b with
        | true => exact .inl rfl
        | false => exact .inr fun z => hroot ⟨rfl, z⟩
      refine ⟨_, rfl, _, plD (q := q) false none [] [], hD, dp_pl (hR H1 q), sh_pl ok, sh_pl root_ok, false, by rw [root_no nr], iteF ?_⟩
      cases b with
      | false =>
        have fs0 : fs.isEmpty = false := by
          cases fs with
          | nil => exact absurd rfl (nr.resolve_left (fun z => by cases z))
          | cons _ _ => rfl
        rw [fs0] at wt
        exact ⟨.ref c, rfl, c, _, 0, _, rfl, rfl, hc, rfl, rfl, true, rfl, iteT ⟨_, rfl, wt⟩⟩
      | true =>
        refine ⟨.ref c, rfl, c, _, 0, _, rfl, rfl, hc, rfl, rfl, false, by rw [decide_eq_false (fun z => absurd (V.str.inj z) (by decide +kernel))], iteF ?_⟩
        refine ⟨_, rfl, d, 1, rfl, rfl, _, rfl, by omega, by omega, ?_⟩
        rw [show ((d : Int) - 1).toNat = d - 1 by omega]
        refine for_range (n := d - 1) (lo := 0) (fun i σ H' => H' = H1 ∧ ∃ y, σ = [some (.int q), some (.ref c), some (.int d), some (.int (q ^ i : Nat)), y]) ⟨rfl, none, rfl⟩ (fun i σ H' hi hW => ?_) (fun σ H' hW => ?_)
        · obtain ⟨rfl, y, rfl⟩ := hW
          refine ⟨_, rfl, .int q, rfl, _, q, rfl, rfl, cmr (by omega), rfl, some (.int (0 + (i : Int))), ?_⟩
          rw [Nat.pow_succ, Int.natCast_mul]
          rfl
        · obtain ⟨rfl, y, rfl⟩ := hW
          exact (nl_sub (n := q ^ (d - 1)) (m := 1) (yl_var (i := 3) rfl) (nl_c 1) (Nat.pow_pos (by omega))) _ wt
end
end K13
set_option Elab.async false
set_option linter.all false
set_option maxRecDepth 100000
set_option maxHeartbeats 600000
set_option pp.maxSteps 2000
namespace BP
open PySem PySem.Spec PyProof.Rows L2 Fld
/-- how many lie behind a place, up to a degree n + 1 -/
def spLmn (K : PySem.W.Frag) : Sp := fun vs H Q _ => ∃ (q : Nat) (_ : IsF q) (c : Addr) (x : Pl q) (n : Nat), vs = [.int q, .ref c, .int (n + 1 : Nat)] ∧ PA K H c x ∧ PO x ∧ n ≤ 9 ∧ ∀ H', Same H H' → Q (.int (mBh q x.1 x.2.2.2.isEmpty (n + 1) : Nat)) H'
end BP
namespace K13
open PySem PySem.Spec PyProof.Rows L2 BP Fld
section
variable {P : Program} {w : World} {K : PySem.W.Frag} {mg : Str → Option Value} {base : Heap}
theorem ok_lmn {f : Addr} {fd : FuncData} (F : Fun K "_law_many" "_law_many" sLMany f fd) (m_range : mg "range" = none) (m_int : mg "int" = none) : FnOk P w K mg base CX0 1 f fd pLMany (spLmn K) := by
  refine F.ok scLMany (fun vs H Q E h => ?_) (fun cdv A outer s H vs Q E hr h => ?_)
  · obtain ⟨q, _, c, x, n, rfl, _⟩ := h
    rfl
  · obtain ⟨q, FF, c, x, n, rfl, hP, ok, n9, want⟩ := h
    refine ⟨_, (pss_cons (ps_if (pt_cmpR op_eq (pe_ix ix_tup (pv 1) pe_int (fun _ _ => rfl)) pe_str (nomark _)) (pss_one (ps_ret (pe_op op_add (pv 0) (pe_callTy call_int1 (by rfl) m_int (by decide +kernel) (pa_cons (pe_cmpR (op_eqE (Nat.lt_of_le_of_lt (Nat.le_add_right _ 64) hr.units)) (pe_ix ix_tup (pv 1) pe_int (fun _ _ => rfl)) (pe_tup pa_nil) (nomark _)) pa_nil))))) pss_nil)
      (pss_cons (ps_set (i := 3) scLMany.nd rfl (.inl rfl) pe_int)
      (pss_cons (ps_for PassesOwn.never rfl (pi_range1 rfl m_range (pa_cons (pe_op op_sub (pv 2) pe_int) pa_nil)) (pg_name (i := 4) scLMany.nd rfl (.inl rfl)) (pss_one (ps_set (i := 3) scLMany.nd rfl (.inl rfl) (pe_op op_mul (pv 3) (pv 0)))))
      (pss_one (ps_ret (pe_op op_sub (pv 3) pe_int)))))), ?_⟩
    have q1 := gt1 FF.mem
    have q16 := le16 FF.mem
    obtain ⟨b, o, us, fs⟩ := x
    obtain ⟨bs, p, t, hc, hb, hF, ht⟩ := hP
    have hF : FsAt K H bs fs := hF
    have lb := hF.len
    refine ⟨.ref c, rfl, c, _, 0, _, rfl, rfl, hc, rfl, rfl, _, rfl, ?_⟩
    cases b with
    | false =>
      refine iteT ⟨.int q, rfl, .ref c, rfl, c, _, 2, _, rfl, rfl, hc, rfl, Nat.zero_le _, fun e ne => ⟨p, e, bs, rfl, rfl, BP.Same.tupS (same_new ne) hb, .inl (.inl upd_same), .inr ⟨_, rfl, _, _, rfl, rfl, ?_⟩⟩⟩
      have w := want _ (same_new (o := .tup ([] : List V)) ne)
      cases bs with
      | nil =>
        have f0 : fs = [] := List.length_eq_zero_iff.mp lb.symm
        subst f0
        exact w
      | cons v bs =>
        cases fs with
        | nil => cases lb
        | cons f fs =>
          have w' : Q (V.int ((q : Int) + 0)) (upd H e (.tup [])) := by
            rw [Int.add_zero]
            exact w
          exact w'
    | true =>
      rw [decide_eq_false sort_ne]
      refine iteF ?_
      show Ends.nx _ [some (.int q), some (.ref c), some (.int (n + 1 : Nat)), none, none] H
      dsimp only []
      refine seq_of ?_
      show tSeq _ _ _ [some (.int q), some (.ref c), some (.int (n + 1 : Nat)), some (.int 1), none] H
      refine ⟨.int (n + 1 : Nat), rfl, _, _, rfl, rfl, _, rfl, by omega, by omega, ?_⟩
      rw [show (((n + 1 : Nat) : Int) - 1).toNat = n by omega]
      refine for_range (n := n) (lo := 0) (fun i σ H' => H' = H ∧ ∃ y, σ = [some (.int q), some (.ref c), some (.int (n + 1 : Nat)), some (.int (q ^ i : Nat)), y]) ⟨rfl, none, rfl⟩ (fun i σ H' hi hW => ?_) (fun σ H' hW => ?_)
      · obtain ⟨rfl, y, rfl⟩ := hW
        refine ⟨_, rfl, .int q, rfl, _, q, rfl, rfl, cmr (by omega), rfl, some (.int (0 + (i : Int))), ?_⟩
        rw [Nat.pow_succ, Int.natCast_mul]
        rfl
      · obtain ⟨rfl, y, rfl⟩ := hW
        exact (nl_sub (n := q ^ n) (m := 1) (yl_var (i := 3) rfl) (nl_c 1) (Nat.pow_pos (by omega))) _ (want _ BP.Same.rf)
end
end K13
set_option Elab.async false
set_option linter.all false
set_option maxRecDepth 100000
set_option maxHeartbeats 600000
set_option pp.maxSteps 2000
namespace BP
open PySem PySem.Spec PyProof.Rows L2 Fld
def spLab (K : PySem.W.Frag) : Sp := fun vs H Q _ => ∃ (q : Nat) (_ : IsF q) (c e : Addr) (n : Nat) (x : Pl q) (us : List V) (ys : List (Pl q)), vs = [.int q, .ref c, .ref e, .int n] ∧ PA K H c x ∧ PO x ∧ dp x ≤ 60 ∧ SqT K H e us ∧ Pls K H us ys ∧ (∀ y ∈ ys, PO y ∧ Nr y ∧ ahP y = x) ∧ n < ys.length ∧ ∀ H', Same H H' → Q (.bl true) H'
end BP
namespace K13
open PySem PySem.Spec PyProof.Rows L2 BP Fld
section
variable {P : Program} {w : World} {K : PySem.W.Frag} {mg : Str → Option Value} {base : Heap}
theorem ok_lab {f fAHR fABB fDPT : Addr} {fd fdAHR fdABB fdDPT : FuncData} (F : Fun K "_law_are_beside" "_law_are_beside" sLAreBeside f fd) (AHR : BP.Can P w K mg base "ahead" 8 pAhead (spAhr K) fAHR fdAHR) (ABB : BP.Can P w K mg base "are_beside" 8 pAreBeside (spBss K) fABB fdABB) (DPT : BP.Can P w K mg base "depth" 8 pDepth (spDep K) fDPT fdDPT) (kAHR : KBinds K fdAHR pAhead ["place", "q"] sw2 sw2) (kDPT : KBinds K fdDPT pDepth ["place", "q"] sw2 sw2) (m_repr : mg "repr" = none) : GFn P w K mg base 9 f fd pLAreBeside (spLab K) := by
  refine gok F scLAreBeside (fun vs H Q E h => ?_) (fun cdv A outer s H vs Q E hgd hr h => ?_)
  · obtain ⟨q, _, c, e, n, x, us, ys, rfl, _⟩ := h
    rfl
  · obtain ⟨q, FF, c, e, n, x, us, ys, rfl, hc, ox, lx, he, hY, fy, hn, want⟩ := h
    refine ⟨_, (pss_cons (ps_set (i := 4) scLAreBeside.nd rfl (.inl rfl) (pe_ix ix_tup (pv 2) (pv 3) (fun _ _ => rfl)))
      (pss_cons (ps_set (i := 5) scLAreBeside.nd rfl (.inl rfl) (pe_tup (pa_cons (pe_call AHR.ok hr (by rfl) AHR.g AHR.kp AHR.b .nil pass0 (pa_cons (pv 0) (pa_cons (pv 4) pa_nil))) (pa_cons (pe_callK0 AHR.ok hr (by rfl) AHR.g AHR.kp kAHR pass0 (pk_cons (pv 4) (pk_cons (pv 0) pk_nil))) (pa_cons (pe_call ABB.ok hr (by rfl) ABB.g ABB.kp ABB.b .nil pass0 (pa_cons (pv 0) (pa_cons (pv 1) (pa_cons (pv 4) pa_nil)))) (pa_cons (pe_call ABB.ok hr (by rfl) ABB.g ABB.kp ABB.b .nil pass0 (pa_cons (pv 0) (pa_cons (pv 4) (pa_cons (pv 1) pa_nil)))) (pa_cons (pe_callK0 DPT.ok hr (by rfl) DPT.g DPT.kp kDPT pass0 (pk_cons (pv 4) (pk_cons (pv 0) pk_nil))) pa_nil)))))))
      (pss_cons (ps_if (pt_cmpR op_ne (pe_callB (call_repr_data hgd hr.units) (by rfl) m_repr (by decide +kernel) (pa_cons (pv 5) pa_nil)) (pe_callB (call_repr_data hgd hr.units) (by rfl) m_repr (by decide +kernel) (pa_cons (pe_tup (pa_cons (pv 1) (pa_cons (pv 1) (pa_cons pe_bl (pa_cons pe_bl (pa_cons (pe_op op_add (pe_call DPT.ok hr (by rfl) DPT.g DPT.kp DPT.b .nil pass0 (pa_cons (pv 0) (pa_cons (pv 1) pa_nil))) pe_int) pa_nil)))))) pa_nil)) (nomark _)) (pss_one (ps_ret pe_bl)) pss_nil)
      (pss_one (ps_ret (pe_or (pe_cmpR op_eq (pv 3) pe_int (nomark _)) (pe_one (pe_cmpR op_is_bl (pe_call ABB.ok hr (by rfl) ABB.g ABB.kp ABB.b .nil pass0 (pa_cons (pv 0) (pa_cons (pe_ix ix_tup (pv 2) (pe_op op_sub (pv 3) pe_int) (fun _ _ => rfl)) (pa_cons (pv 4) pa_nil)))) pe_bl (nomark _))))))))), ?_⟩
    obtain ⟨y, fn⟩ : ∃ y, ys[n]? = some y := ⟨_, List.getElem?_eq_getElem hn⟩
    obtain ⟨cy, gy, py⟩ := hY.get fn
    obtain ⟨oy, ny, ay⟩ := fy y (List.mem_of_getElem? fn)
    have dy := dp_ah ny
    rw [ay] at dy
    have axy : Adj x y := .inl ⟨ny, ay⟩
    have ahr : ∀ {Hx : Hp} {Qx : VK}, PA K Hx cy y → (∀ r H', Same Hx H' → Dp K H' (.ref r) (pD x) → Qx (.ref r) H') → spAhr K [.int q, .ref cy] Hx Qx E0 := fun hy k => ⟨q, FF, cy, y, rfl, hy, oy, fun _ r H' s hr => k r H' s (by rw [ay] at hr; exact dp_pa hr), fun no => absurd ny no⟩
    have bss : ∀ {Hx : Hp} {Qx : VK} {c1 c2 : Addr} {u v : Pl q}, PA K Hx c1 u → PO u → PA K Hx c2 v → PO v → Adj u v → (∀ H', Same Hx H' → Qx (.bl true) H') → spBss K [.int q, .ref c1, .ref c2] Hx Qx E0 := fun h1 o1 h2 o2 a k => ⟨q, FF, _, _, _, _, rfl, h1, o1, h2, o2, fun b H' hb s => by
      have e : b = true := hb.mpr a
      rw [e]
      exact k H' s⟩
    refine seq_of ⟨.ref e, rfl, .int n, rfl, e, us, n, .ref cy, rfl, rfl, he, atI_nat gy, ?_⟩
    show tSeq _ _ _ [some (.int q), some (.ref c), some (.ref e), some (.int n), some (.ref cy), none] H
    refine seq_of (zd_tup (Ds := [pD x, pD x, .bool true, .bool true, .int (dp y : Nat)]) (zda_cons (fun Q' kk => ⟨.int q, rfl, .ref cy, rfl, ahr py kk⟩) fun H1 s1 => zda_cons (fun Q' kk => ⟨.ref cy, rfl, .int q, rfl, ahr (py.kept s1) kk⟩) fun H2 s2 => zda_bl (fun Q' kk => ⟨.int q, rfl, .ref c, rfl, .ref cy, rfl, bss (hc.kept (s1.trans s2)) ox (py.kept (s1.trans s2)) oy axy kk⟩) fun H3 s3 => zda_bl (fun Q' kk => ⟨.int q, rfl, .ref cy, rfl, .ref c, rfl, bss (py.kept (s1.trans (s2.trans s3))) oy (hc.kept (s1.trans (s2.trans s3))) ox axy.symm kk⟩) fun H4 s4 => zda_int (fun Q' kk => ⟨.ref cy, rfl, .int q, rfl, q, FF, cy, y, rfl, py.kept (s1.trans (s2.trans (s3.trans s4))), oy, kk⟩) fun _ _ => zda_nil) (by show 5 ≤ 10; decide) _ fun T H5 s5 hT => ?_)
    show tSeq _ _ _ [some (.int q), some (.ref c), some (.ref e), some (.int n), some (.ref cy), some (.ref T)] H5
    have hc5 := hc.kept s5
    have sm : Sm (.tuple [pD x, pD x, .bool true, .bool true, .int (dp y : Nat)]) 50000 4 :=
      (Sm.tup (SmAll.cons (sm_pa ox) (SmAll.cons (sm_pa ox) (SmAll.cons ((Sm.bl true).more (Nat.le_refl _) (Nat.zero_le 3)) (SmAll.cons ((Sm.bl true).more (Nat.le_refl _) (Nat.zero_le 3)) (SmAll.cons ((Sm.num (i := (dp y : Nat)) (by omega)).more (Nat.le_refl _) (Nat.zero_le 3)) (SmAll.nil (w := 0)))))))).more (by decide) (Nat.le_refl _)
    refine ask_ne (fun Q' kk => ⟨.ref T, rfl, kk T H5 BP.Same.rf hT⟩) (fun H6 s6 => zd_tup (zda_cons (zd_pl rfl (hc5.kept s6)) fun H7 s7 => zda_cons (zd_pl rfl (hc5.kept (s6.trans s7))) fun H8 s8 => zda_bl (fun Q' kk => kk _ BP.Same.rf) fun H9 s9 => zda_bl (fun Q' kk => kk _ BP.Same.rf) fun HA sA => zda_int (fun Q' kk => ⟨.int q, rfl, .ref c, rfl, q, FF, c, x, rfl, hc5.kept (s6.trans (s7.trans (s8.trans (s9.trans sA)))), ox, fun H' s' => ⟨_, _, rfl, rfl, by
      have := kk H' s'
      rw [← dy, Int.natCast_add] at this
      exact this⟩⟩) fun _ _ => zda_nil) (by show 5 ≤ 10; decide)) sm (by decide) (by decide) (fun H6 s6 => iteF ?_)
    have s56 := s5.trans s6
    show Ends.nx _ [some (.int q), some (.ref c), some (.ref e), some (.int n), some (.ref cy), some (.ref T)] H6
    dsimp only []
    by_cases z : n = 0
    · refine ⟨.int n, rfl, rfl, _, rfl, ?_⟩
      rw [decide_eq_true (show V.int (n : Nat) = V.int 0 by rw [z]; rfl)]
      exact iteT (want _ s56)
    · refine ⟨.int n, rfl, rfl, _, rfl, ?_⟩
      rw [decide_eq_false (show ¬ V.int (n : Nat) = V.int 0 from fun e => z (by have := V.int.inj e; omega))]
      refine iteF ?_
      obtain ⟨v, fv⟩ : ∃ v, ys[n - 1]? = some v := ⟨_, List.getElem?_eq_getElem (by omega)⟩
      obtain ⟨cv, gv, pv'⟩ := hY.get fv
      obtain ⟨ov, nv, av⟩ := fy v (List.mem_of_getElem? fv)
      have dv := dp_ah nv
      rw [av] at dv
      refine ⟨.int q, rfl, .ref e, rfl, .int n, rfl, _, _, rfl, rfl, e, us, _, .ref cv, rfl, rfl, BP.Same.tupS s56 he, ?_, .ref cy, rfl, q, FF, cv, cy, v, y, rfl, pv'.kept s56, ov, py.kept s56, oy, fun b H7 hb s7 => ⟨b, false, rfl, rfl, ?_⟩⟩
      · have := atI_nat gv
        rw [show ((n - 1 : Nat) : Int) = (n : Int) - 1 by omega] at this
        exact this
      · have nb : b = false := Bool.eq_false_iff.mpr fun t => by
          rcases hb.mp t with ⟨n1, e1⟩ | ⟨n1, e1⟩ <;>
          · have := dp_ah n1
            rw [e1] at this
            omega
        subst nb
        exact want _ (s56.trans s7)
end
end K13
set_option Elab.async false
set_option linter.all false
set_option maxRecDepth 100000
set_option maxHeartbeats 1000000
set_option pp.maxSteps 2000
/-! sorted(l) of data that are alike: steps, maps, tuples of tuples. -/
namespace BP
open PySem PySem.Spec PyProof.Rows L2 PySem.W
/-- sorted(l): the same data, in their order -/
def rSortD (K : PySem.W.Frag) : List V → Hp → VK → Prop := fun vs H Q => ∃ (a : Addr) (xs : List V) (ds : List PyData), vs = [V.ref a] ∧ SqL K H a xs ∧ DpAll K H xs ds ∧ AllAlike ds ∧ Sortable ds ∧ (∀ d ∈ ds, d.depth ≤ 40) ∧
  ∀ (ys : List V) (p : Addr), H p = none → DpAll K H ys (ds.mergeSort (dataLe false id)) → Q (.ref p) (upd H p (.lst ys))
section
variable {X : Cx} {pins : List (Addr × Obj)} {σ : L2.St} {H : Hp} {s : Shared}
theorem each_of (I : Inv X pins σ H s) : ∀ {xs : List V} {us : List Value} {ds : List PyData}, DpAll X.K H xs ds → Vals xs us → EachIs (fun v d => ∃ x : V, RelV x v ∧ Dp X.K H x d) us ds
  | [], _, _, h, r => by
    cases h
    cases r
    exact .nil
  | _ :: _, _, _, h, r => by
    cases h with
    | cons h1 h2 =>
      cases r with
      | cons r1 r2 => exact .cons ⟨_, r1, h1⟩ (each_of I h2 r2)
theorem each_back : ∀ {us : List Value} {ds : List PyData}, EachIs (fun v d => ∃ x : V, RelV x v ∧ Dp X.K H x d) us ds → ∃ ys : List V, Vals ys us ∧ DpAll X.K H ys ds
  | _, _, .nil => ⟨[], .nil, .nil⟩
  | _, _, .cons ⟨x, r, d⟩ h => by
    obtain ⟨ys, v, k⟩ := each_back h
    exact ⟨x :: ys, .cons r v, .cons d k⟩
theorem each_reads (I : Inv X pins σ H s) {us : List Value} {ds : List PyData} (h : EachIs (fun v d => ∃ x : V, RelV x v ∧ Dp X.K H x d) us ds) : EachIs (fun v d => ∃ as, Reads s.heap v (id d) as) us ds := by
  induction h with
  | nil => exact .nil
  | cons h _ ih =>
    obtain ⟨x, r, d⟩ := h
    exact .cons (Dp.reads I _ _ _ d r) ih
theorem call_sortD (hu : X.A.units + 64 < cLine) : CallR X (.builtin "sorted") (rSortD X.K) := by
  intro pins s σ H vs us Q I r h
  obtain ⟨a, xs, ds, rfl, hs, hd, al, so, dp, q⟩ := h
  obtain ⟨its, rv, hl, hz⟩ := I.list hs
  rw [Vals.ref1 r]
  have e := each_of I hd rv
  have el := rv.length
  refine sorted_data (enc := id) (bs := ds) (vs := its) hl.isList e (each_reads I e) (by rw [List.map_id]; exact al) (by rw [List.map_id]; exact so) (by rw [← e.length, ← el]; exact hz) (fun b hb => by have := dp b hb; show X.A.units + 2 + b.depth < cLine; omega) fun out ho hb => ?_
  obtain ⟨ys, hv, hk⟩ := each_back hb
  obtain ⟨n, hn⟩ := PyProof.Rows.sortedAll_at s.heap its out.toArray
  have lz : ys.length ≤ sizeLine := by
    rw [hv.length, ho, ← e.length, ← el]
    exact hz
  exact ⟨.ref _, upd H (s.heap.objs.size + 1) (.lst ys), I.laid (t' := s.toks) (fun _ _ => PyProof.Rows.sortedAll_old) (Nat.le_succ _) ⟨lz, out, n, hv, hn⟩, rfl, q _ _ (I.hok.fresh (Nat.le_succ _)) hk⟩
end
end BP
set_option Elab.async false
set_option linter.all false
set_option maxRecDepth 100000
set_option maxHeartbeats 1000000
set_option pp.maxSteps 3000
/-! A comprehension with two fors: over a list and over a range. -/
namespace BP
open PySem PySem.Spec PyProof.Rows L2 Fld
section
variable {K : PySem.W.Frag}
theorem tyesI {σ : L2.St} {H : Hp} {A B : Hp → Prop} (h : A H) : tYes σ H (fun b H3 => if b = true then A H3 else B H3) := by
  show (if true = true then A H else B H)
  rw [if_pos rfl]
  exact h
theorem lc2_lr {a : Addr} {n i1 i2 : Nat} {xs : List V} {vs : List Nat} {te : TE} {σ : L2.St} {H : Hp} {Q : VK} {wi wi1 : TI} (P : Addr → Nat → Nat → Hp → Prop) (hwi : ∀ k : It → Hp → Prop, k (Itl K a) H → wi σ H k)
    (h0 : ∀ D, H D = none → P D 0 0 (upd H D (.lst []))) (hl : ∀ D i H', i ≤ xs.length → P D i 0 H' → SqL K H' a xs)
    (hw : ∀ x : V, wipe ((wipe σ vs).set i1 (some x)) vs = wipe σ vs) (hw1 : ∀ x y : V, wipe ((wipe ((wipe σ vs).set i1 (some x)) [i2]).set i2 (some y)) [i2] = wipe ((wipe σ vs).set i1 (some x)) [i2])
    (hr : ∀ D i x H' (k : It → Hp → Prop), xs[i]? = some x → P D i 0 H' → k (Itr 0 n) H' → wi1 ((wipe σ vs).set i1 (some x)) H' k)
    (hs : ∀ D i j x H', xs[i]? = some x → j < n → P D i j H' → te ((wipe ((wipe σ vs).set i1 (some x)) [i2]).set i2 (some (.int (0 + (j : Nat))))) H' fun y H4 => ∃ acc, H4 D = some (.lst acc) ∧ acc.length < sizeLine ∧ P D i (j + 1) (upd H4 D (.lst (acc ++ [y]))))
    (hx : ∀ D i H', i < xs.length → P D i n H' → P D (i + 1) 0 H') (hd : ∀ D H', P D xs.length 0 H' → Q (.ref D) H') :
    tLc2 wi (gName i1) tYes wi1 (gName i2) tYes te vs [i2] σ H Q := by
  refine hwi _ fun D hD => ⟨fun i m H' => m = xs.length - i ∧ i ≤ xs.length ∧ P D i 0 H', ⟨xs.length, by simp, Nat.zero_le _, h0 D hD⟩, ?_⟩
  rintro i m H' ⟨rfl, hi, p⟩
  have e := hl D i H' hi p
  by_cases hlt : i < xs.length
  · refine .inr ⟨⟨xs, xs[i], e, by simp [hlt]⟩, P D (i + 1) 0, fun H2 p' => ⟨xs.length - (i + 1), by omega, rfl, hlt, p'⟩, fun x H2 y => ?_⟩
    obtain ⟨e2, y⟩ := y
    subst e2
    have gx := y xs e
    refine ⟨hw x, ?_⟩
    refine tyesI ?_
    refine hr D i x H2 _ gx p ⟨fun j k H3 => k = n - j ∧ j ≤ n ∧ P D i j H3, ⟨n, by simp, Nat.zero_le _, p⟩, ?_⟩
    rintro j k H3 ⟨rfl, hj, p3⟩
    by_cases hjn : j < n
    · refine .inr ⟨hjn, P D i (j + 1), fun H4 p4 => ⟨n - (j + 1), by omega, rfl, hjn, p4⟩, fun z H4 yz => ?_⟩
      obtain ⟨ez, yz⟩ := yz
      subst ez yz
      refine ⟨hw1 _ _, ?_⟩
      refine tyesI ?_
      exact hs D i j x _ gx hjn p3
    · obtain rfl : j = n := by omega
      exact .inl ⟨Nat.le_refl _, hx D i H3 hlt p3⟩
  · obtain rfl : i = xs.length := by omega
    exact .inl ⟨⟨xs, e, Nat.le_refl _⟩, hd D H' p⟩
variable {q : Nat} [FF : IsF q]
def els (q : Nat) [IsF q] : List (El q) := (List.range q).pmap (fun i h => ⟨i, h⟩) fun i h => List.mem_range.mp h
theorem els_len : (els q).length = q := by
  unfold els
  rw [List.length_pmap, List.length_range]
theorem els_get {j : Nat} (h : j < q) : (els q)[j]? = some ⟨j, h⟩ := by
  unfold els
  rw [List.getElem?_pmap]
  simp [h]
theorem els_mem (a : El q) : a ∈ els q := List.mem_of_getElem? (els_get a.lt)
theorem els_nodup : (els q).Nodup := by
  refine List.pairwise_iff_getElem.mpr fun i j hi hj hij e => ?_
  have e : (els q)[i]? = (els q)[j]? := by rw [List.getElem?_eq_getElem hi, List.getElem?_eq_getElem hj, e]
  rw [els_len] at hi hj
  rw [els_get hj, els_get hi] at e
  have := congrArg El.val (Option.some.inj e)
  simp only at this
  omega
theorem FsAt.cat {H : Hp} : ∀ {vs us : List V} {fs gs : List (Po q)}, FsAt K H vs fs → FsAt K H us gs → FsAt K H (vs ++ us) (fs ++ gs)
  | [], _, [], _, _, h => h
  | _ :: _, _, _ :: _, _, ⟨h1, k⟩, h => ⟨h1, FsAt.cat k h⟩
  | [], _, _ :: _, _, h, _ => h.elim
  | _ :: _, _, [], _, h, _ => h.elim
/-- every head with every number behind it -/
def xpd (l : List (Po q)) : List (Po q) := l.flatMap fun h => (els q).map fun a => h ++ [a]
theorem xpd_take {l : List (Po q)} {i : Nat} {h : Po q} (e : l[i]? = some h) : xpd (l.take (i + 1)) = xpd (l.take i) ++ (els q).map fun a => h ++ [a] := by
  rw [List.take_succ, e]
  unfold xpd
  rw [List.flatMap_append]
  simp
theorem xpd_len (l : List (Po q)) : (xpd l).length = l.length * q := by
  induction l with
  | nil => simp [xpd]
  | cons a l ih =>
    have e : xpd (a :: l) = (els q).map (fun x => a ++ [x]) ++ xpd l := rfl
    rw [e, List.length_append, ih, List.length_map, els_len, List.length_cons, Nat.succ_mul]
    omega
theorem xpd_mem {l : List (Po q)} {f : Po q} : f ∈ xpd l ↔ ∃ h ∈ l, ∃ a, f = h ++ [a] := by
  unfold xpd
  rw [List.mem_flatMap]
  constructor
  · rintro ⟨h, m, e⟩
    obtain ⟨a, _, e2⟩ := List.mem_map.mp e
    exact ⟨h, m, a, e2.symm⟩
  · rintro ⟨h, m, a, rfl⟩
    exact ⟨h, m, List.mem_map.mpr ⟨a, els_mem a, rfl⟩⟩
theorem xpd_nodup : ∀ {l : List (Po q)}, l.Nodup → (xpd l).Nodup
  | [], _ => List.nodup_nil
  | h :: l, n => by
    have e : xpd (h :: l) = (els q).map (fun x => h ++ [x]) ++ xpd l := rfl
    rw [e, List.nodup_append]
    refine ⟨?_, xpd_nodup (List.nodup_cons.mp n).2, fun a ha b hb z => ?_⟩
    · unfold List.Nodup
      rw [List.pairwise_map]
      exact List.Pairwise.imp (fun h1 h2 => h1 (by simpa using h2)) els_nodup
    · obtain ⟨x, _, rfl⟩ := List.mem_map.mp ha
      obtain ⟨k, m, y, rfl⟩ := xpd_mem.mp hb
      have := List.append_inj_left' z rfl
      subst this
      exact (List.nodup_cons.mp n).1 m
/-- heads of a length -/
structure HD (k : Nat) (l : List (Po q)) : Prop where
  nd : l.Nodup
  len : ∀ f ∈ l, f.length = k + 2 ∧ co f 0 = 0 ∧ co f 1 = 0
  many : l.length = q ^ k
theorem HD.zero : HD (q := q) 0 [[0, 0]] := ⟨by simp, fun f m => by rw [List.mem_singleton.mp m]; exact ⟨rfl, rfl, rfl⟩, rfl⟩
theorem HD.next {k : Nat} {l : List (Po q)} (h : HD k l) : HD (k + 1) (xpd l) := by
  refine ⟨xpd_nodup h.nd, fun f m => ?_, by rw [xpd_len, h.many, Nat.pow_succ]⟩
  obtain ⟨g, m2, a, rfl⟩ := xpd_mem.mp m
  obtain ⟨l1, c0, c1⟩ := h.len g m2
  refine ⟨by rw [List.length_append, l1]; rfl, ?_, ?_⟩
  · match g, l1 with
    | x :: y :: t, _ => exact c0
  · match g, l1 with
    | x :: y :: t, _ => exact c1
/-- a head whose last number is not 0 -/
def lnz (f : Po q) : Bool := decide (co f (f.length - 1) ≠ 0)
theorem HD.bend {k : Nat} {l : List (Po q)} (h : HD (k + 1) l) {f : Po q} (m : f ∈ l) (z : lnz f = true) : IsB f ∧ f.length = k + 3 := by
  obtain ⟨l1, c0, c1⟩ := h.len f m
  have nn : f ≠ [] := fun e => by rw [e] at l1; cases l1
  exact ⟨⟨⟨trim_of_top (n := f.length - 1) (by omega) (of_decide_eq_true z), c0, c1⟩, nn⟩, l1⟩

theorem small9 {n : Nat} (h : n ≤ 9000) : n < sizeLine := Nat.lt_of_le_of_lt h (by decide)
/-! ### all bends up to a degree -/
def hds (q : Nat) [IsF q] : Nat → List (Po q)
  | 0 => [[0, 0]]
  | k + 1 => xpd (hds q k)
theorem hds_HD : ∀ k, HD k (hds q k)
  | 0 => HD.zero
  | k + 1 => (hds_HD k).next
def bdl (q : Nat) [IsF q] : Nat → List (Po q)
  | 0 => []
  | k + 1 => bdl q k ++ (hds q (k + 1)).filter lnz
theorem lnz_snoc (h : Po q) (a : El q) : lnz (h ++ [a]) = decide (a ≠ 0) := by
  unfold lnz co
  rw [List.length_append, List.length_singleton, Nat.add_sub_cancel, List.getD_eq_getElem?_getD, List.getElem?_append_right (Nat.le_refl _), Nat.sub_self]
  rfl
theorem els_nz : ((els q).filter fun a => decide (a ≠ 0)).length = q - 1 := by
  have e := List.Nodup.erase_eq_filter (els_nodup (q := q)) 0
  have l := List.length_erase_of_mem (els_mem (0 : El q))
  rw [e, els_len] at l
  rw [← l]
  congr 1
  refine List.filter_congr fun a _ => ?_
  by_cases h : a = 0
  · subst h
    simp
  · simp [h]
theorem xpd_nz : ∀ l : List (Po q), ((xpd l).filter lnz).length = l.length * (q - 1)
  | [] => by
    rw [List.length_nil, Nat.zero_mul]
    rfl
  | h :: l => by
    have e : xpd (h :: l) = (els q).map (fun x => h ++ [x]) ++ xpd l := rfl
    rw [e, List.filter_append, List.length_append, xpd_nz l, List.filter_map, List.length_map, List.length_cons, Nat.succ_mul]
    have e2 : ((els q).filter (lnz ∘ fun x => h ++ [x])).length = q - 1 := by
      rw [← els_nz (q := q)]
      congr 1
      exact List.filter_congr fun a _ => lnz_snoc h a
    rw [e2]
    omega
theorem bdl_len : ∀ n, (bdl q n).length = q ^ n - 1
  | 0 => rfl
  | n + 1 => by
    show (bdl q n ++ (xpd (hds q n)).filter lnz).length = _
    rw [List.length_append, bdl_len n, xpd_nz, (hds_HD n).many, Nat.pow_succ]
    have q1 : 1 < q := gt1 FF.mem
    have p : 0 < q ^ n := Nat.pow_pos (by omega)
    have e : q ^ n * (q - 1) = q ^ n * q - q ^ n := by rw [Nat.mul_sub, Nat.mul_one]
    have le : q ^ n ≤ q ^ n * q := Nat.le_mul_of_pos_right _ (by omega)
    omega
theorem bdl_bend : ∀ {n : Nat} {f : Po q}, f ∈ bdl q n → IsB f ∧ f.length ≤ n + 2
  | 0, f, h => by cases h
  | n + 1, f, h => by
    rcases List.mem_append.mp h with h | h
    · obtain ⟨h1, h2⟩ := bdl_bend h
      exact ⟨h1, by omega⟩
    · obtain ⟨m, z⟩ := List.mem_filter.mp h
      obtain ⟨b1, b2⟩ := (hds_HD (n + 1)).bend m z
      exact ⟨b1, by omega⟩
theorem bdl_nodup : ∀ n, (bdl q n).Nodup
  | 0 => List.nodup_nil
  | n + 1 => by
    show (bdl q n ++ _).Nodup
    rw [List.nodup_append]
    refine ⟨bdl_nodup n, (hds_HD (n + 1)).nd.filter _, fun a ha b hb e => ?_⟩
    obtain ⟨m, z⟩ := List.mem_filter.mp hb
    have b2 := ((hds_HD (n + 1)).bend m z).2
    have b3 := (bdl_bend ha).2
    rw [e] at b3
    omega
theorem perm_pre {α β : Type} (f : α → β) {ds es : List β} (p : es.Perm ds) : ∀ {l : List α}, l.map f = es → ∃ g : List α, g.Perm l ∧ g.map f = ds := by
  induction p with
  | nil =>
    intro l h
    exact ⟨l, .refl _, h⟩
  | cons x _ ih =>
    intro l h
    cases l with
    | nil => cases h
    | cons a l =>
      obtain ⟨h1, h2⟩ := List.cons.inj h
      obtain ⟨g, pg, eg⟩ := ih h2
      exact ⟨a :: g, pg.cons a, by rw [List.map_cons, h1, eg]⟩
  | swap x y l0 =>
    intro l h
    match l, h with
    | a :: b :: l, h =>
      obtain ⟨h1, h2⟩ := List.cons.inj h
      obtain ⟨h2, h3⟩ := List.cons.inj h2
      exact ⟨b :: a :: l, .swap a b l, by rw [List.map_cons, List.map_cons, h1, h2, h3]⟩
    | [_], h => cases (List.cons.inj h).2
    | [], h => cases h
  | trans _ _ i1 i2 =>
    intro l h
    obtain ⟨g1, q1, k1⟩ := i1 h
    obtain ⟨g2, q2, k2⟩ := i2 k1
    exact ⟨g2, q2.trans q1, k2⟩
theorem bds_ex (q : Nat) [IsF q] (n : Nat) : ∃ g : List (Po q), g.Perm (bdl q n) ∧ g.map tpd = ((bdl q n).map tpd).mergeSort (PySem.W.dataLe false id) :=
  perm_pre tpd (List.mergeSort_perm ((bdl q n).map tpd) (PySem.W.dataLe false id)).symm rfl
/-- all bends up to a degree n + 1, in Python's order -/
noncomputable def bds (q : Nat) [IsF q] (n : Nat) : List (Po q) := Classical.choose (bds_ex q n)
theorem bds_perm (n : Nat) : (bds q n).Perm (bdl q n) := (Classical.choose_spec (bds_ex q n)).1
theorem bds_map (n : Nat) : (bds q n).map tpd = ((bdl q n).map tpd).mergeSort (PySem.W.dataLe false id) := (Classical.choose_spec (bds_ex q n)).2
theorem bds_len (n : Nat) : (bds q n).length = q ^ n - 1 := by rw [(bds_perm n).length_eq, bdl_len]
theorem bds_nodup (n : Nat) : (bds q n).Nodup := (bds_perm n).nodup_iff.mpr (bdl_nodup n)
theorem bds_bend {n : Nat} {f : Po q} (h : f ∈ bds q n) : IsB f ∧ f.length ≤ n + 2 := bdl_bend ((bds_perm n).mem_iff.mp h)
theorem dp_tpd {H : Hp} {v : V} {f : Po q} (h : Dp K H v (tpd f)) : ∃ a, v = .ref a ∧ SqT K H a (vns f) := by
  unfold tpd at h
  cases h with
  | @tup a xs _ h1 h2 =>
    refine ⟨a, rfl, ?_⟩
    have : xs = vns f := by
      clear h1
      induction f generalizing xs with
      | nil =>
        cases h2
        rfl
      | cons x f ih =>
        rw [List.map_cons] at h2
        cases h2 with
        | cons h3 h4 =>
          cases h3
          rw [ih h4]
          rfl
    rw [← this]
    exact h1
theorem dpAll_fs {H : Hp} : ∀ {gs : List (Po q)} {ys : List V}, DpAll K H ys (gs.map tpd) → FsAt K H ys gs
  | [], _, h => by
    cases h
    trivial
  | g :: gs, _, h => by
    rw [List.map_cons] at h
    cases h with
    | cons h1 h2 =>
      obtain ⟨a, e, s⟩ := dp_tpd h1
      exact ⟨⟨a, e, s⟩, dpAll_fs h2⟩
theorem alike_po : ∀ f g : Po q, PySem.W.alikeAll (f.map fun (x : El q) => PyData.int (x.val : Nat)) (g.map fun (x : El q) => PyData.int (x.val : Nat)) = true
  | [], g => by simp [PySem.W.alikeAll]
  | x :: f, [] => by simp [PySem.W.alikeAll]
  | x :: f, y :: g => by
    rw [List.map_cons, List.map_cons, PySem.W.alikeAll, alike_po f g]
    simp [PySem.W.alike]
theorem alike_fs (l : List (Po q)) : PySem.W.AllAlike (l.map tpd) := PySem.W.AllAlike.of fun f g => by
  unfold tpd
  rw [PySem.W.alike]
  exact alike_po f g
theorem sortable_fs {l : List (Po q)} (h : ∀ f ∈ l, f ≠ []) : PySem.W.Sortable (l.map tpd) := .inl fun d hd => by
  obtain ⟨f, hf, rfl⟩ := List.mem_map.mp hd
  obtain ⟨x, r, e⟩ := List.exists_cons_of_ne_nil (h f hf)
  rw [e]
  exact ⟨_, _, rfl⟩
theorem depth_tpd (f : Po q) : (tpd f).depth ≤ 40 := by
  have := (sm_po f).dep
  omega
end
end BP
set_option Elab.async false
set_option linter.all false
set_option maxRecDepth 100000
set_option maxHeartbeats 2000000
set_option pp.maxSteps 3000
namespace BP
open PySem PySem.Spec PyProof.Rows L2 Fld
def spBut (K : PySem.W.Frag) : Sp := fun vs H Q _ => ∃ (q : Nat) (_ : IsF q) (n : Nat), vs = [.int q, .int (n + 1 : Nat)] ∧ n ≤ 5 ∧ q ^ n ≤ 2001 ∧ ∀ (r : Addr) (us : List V) (H' : Hp), Same H H' → H' r = some (.lst us) → FsAt K H' us (bds q n) → Q (.ref r) H'
end BP
namespace K13
open PySem PySem.Spec PyProof.Rows L2 BP Fld
section
variable {P : Program} {w : World} {K : PySem.W.Frag} {mg : Str → Option Value} {base : Heap}
theorem ok_but {f : Addr} {fd : FuncData} (F : Fun K "bends_up_to" "bends_up_to" sBendsUpTo f fd) (m_range : mg "range" = none) (m_sorted : mg "sorted" = none) : FnOk P w K mg base CX0 1 f fd pBendsUpTo (spBut K) := by
  refine F.ok scBendsUpTo (fun vs H Q E h => ?_) (fun cdv A outer s H vs Q E hr h => ?_)
  · obtain ⟨q, _, n, rfl, _⟩ := h
    rfl
  · obtain ⟨q, FF, n, rfl, n5, qn, want⟩ := h
    refine ⟨_, (pss_cons (ps_set (i := 2) scBendsUpTo.nd rfl (.inl rfl) (pe_lst (pa_cons (pe_tup (pa_cons pe_int (pa_cons pe_int pa_nil))) pa_nil)))
      (pss_cons (ps_set (i := 3) scBendsUpTo.nd rfl (.inl rfl) (pe_lst pa_nil))
      (pss_cons (ps_for PassesOwn.never rfl (pi_range1 rfl m_range (pa_cons (pe_op op_sub (pv 1) pe_int) pa_nil)) (pg_name (i := 4) scBendsUpTo.nd rfl (.inl rfl)) (pss_cons (ps_setLc2 (i := 2) (own := [("head", 5), ("number", 6)]) (vs1 := [6]) (te := tTup (StX.tStar K (tVar 5) (tCons (tVar 6) tNil))) (g := gName 5) (tt := tYes) (g1 := gName 6) (tt1 := tYes) rfl scBendsUpTo.nd rfl rfl (sw_true rfl rfl rfl (by decide +kernel)) (pi_list (pv 2)) (blkOk_by (N := nBendsUpTo) (sc := defScope sBendsUpTo) (by decide +kernel)) (by decide) (fun _ _ _ _ _ => (pg_name (i := 5) scBendsUpTo.nd rfl (.inl rfl))) (fun _ _ _ _ _ => pts_nil) (fun _ _ _ _ _ => (pi_range1 rfl m_range (pa_cons (pv 0) pa_nil))) (fun _ _ _ _ _ => (pg_name (i := 6) scBendsUpTo.nd rfl (.inl rfl))) (fun _ _ _ _ _ => pts_nil) (fun _ _ _ _ _ => (pe_tup (StX.pa_star (pv 5) (pa_cons (pv 6) pa_nil)))))
        (pss_one (ps_expr (pe_bm PySem.F.plainAttrs_list PySem.F.slot_list_extend PySem.F.type_list_extend mt_extend (pv 3) (pa_cons (pe_lc (own := [("head", 5)]) (g := gName 5) (tt := tTest (tOp rNe (tOp (rIxT K) (tVar 5) (tUn (rU fun i => V.int (-i)) (tC (V.int 1)))) (tC (V.int 0)))) rfl scBendsUpTo.nd (pi_list (pv 2)) (blkOk_by (N := nBendsUpTo) (sc := defScope sBendsUpTo) (by decide +kernel)) (fun _ _ _ _ _ => (pg_name (i := 5) scBendsUpTo.nd rfl (.inl rfl))) (fun _ _ _ _ _ => (pts_one (pt_cmpR op_ne (pe_ix ix_tup (pv 5) (pe_un un_neg pe_int) (fun _ _ => rfl)) pe_int (nomark _)))) (fun _ _ _ _ _ => (pv 5))) pa_nil))))))
      (pss_one (ps_ret (pe_callB (call_sortD hr.units) (by rfl) m_sorted (by decide +kernel) (pa_cons (pv 3) pa_nil))))))), ?_⟩
    refine ⟨(by show 2 ≤ sizeLine; decide), fun t nt => ?_⟩
    have s0 := same_new (o := .tup [V.int 0, .int 0]) nt
    refine ⟨(by show 1 ≤ sizeLine; decide), fun h nh => ?_⟩
    have s1 := s0.trans (same_new (o := .lst [V.ref t]) nh)
    show Ends.nx _ [some (.int q), some (.int (n + 1 : Nat)), some (.ref h), none, none, none, none] _
    dsimp only []
    refine ⟨(by show 0 ≤ sizeLine; decide), fun L nL => ?_⟩
    have s2 := s1.trans (same_new (o := .lst []) nL)
    show Ends.nx _ [some (.int q), some (.int (n + 1 : Nat)), some (.ref h), some (.ref L), none, none, none] _
    dsimp only []
    have hL0 : H L = none := Option.not_isSome_iff_eq_none.mp fun z => by
      obtain ⟨o, ho⟩ := Option.isSome_iff_exists.mp z
      rw [s1 _ _ ho] at nL
      cases nL
    refine ⟨.int (n + 1 : Nat), rfl, _, _, rfl, rfl, _, rfl, by omega, by omega, ?_⟩
    have en : (((n + 1 : Nat) : Int) - 1).toNat = n := by omega
    rw [en]
    have q2 : 2 ≤ q := gt1 FF.mem
    have q16 : q ≤ 16 := le16 FF.mem
    refine for_range (n := n) (lo := 0) (fun i σ H' => Same H H' ∧ ∃ (h : Addr) (us ws : List V) (y4 y5 y6 : Option V), σ = [some (.int q), some (.int (n + 1 : Nat)), some (.ref h), some (.ref L), y4, y5, y6] ∧ H' h = some (.lst us) ∧ FsAt K H' us (hds q i) ∧ H' L = some (.lst ws) ∧ FsAt K H' ws (bdl q i) ∧ h ≠ L)
      ⟨s2, h, [.ref t], [], none, none, none, rfl, ?_, ⟨⟨t, rfl, ?_⟩, trivial⟩, upd_same, trivial, ?_⟩ (fun i σ H' hi hW => ?_) (fun σ H' hW => ?_)
    · rw [upd_ne (ne_of_none upd_same nL)]
      exact upd_same
    · exact .inl (.inl (by
        have e1 : upd (upd H t (.tup [V.int 0, V.int 0])) h (.lst [V.ref t]) t = some (.tup [V.int 0, V.int 0]) := by
          rw [upd_ne (ne_of_none upd_same nh)]
          exact upd_same
        rw [upd_ne (ne_of_none e1 nL)]
        exact e1))
    · exact ne_of_none upd_same nL
    · obtain ⟨s3, h, us, ws, y4, y5, y6, rfl, hh, hU, hL, hF, hn⟩ := hW
      have hD := hds_HD (q := q) i
      have q0 : 0 < q := by omega
      have qi : q ^ i * q ≤ 2001 := by
        rw [← Nat.pow_succ]
        exact Nat.le_trans (Nat.pow_le_pow_right q0 (by omega)) qn
      have lh : (hds q i).length ≤ 2001 := by
        rw [hD.many]
        exact Nat.le_trans (Nat.le_mul_of_pos_right _ q0) qi
      have lu := hU.len
      show tSeq _ _ _ [some (.int q), some (.int (n + 1 : Nat)), some (.ref h), some (.ref L), some (.int (0 + (i : Nat))), y5, y6] H'
      have nL' : H' L ≠ none := fun z => by rw [hL] at z; cases z
      refine seq_of ?_
      refine lc2_lr (K := K) (a := h) (n := q) (xs := us) (fun D i' j H2 => H' D = none ∧ Same H' H2 ∧ ∃ acc, H2 D = some (.lst acc) ∧ FsAt K H2 acc (xpd ((hds q i).take i') ++ ((els q).take j).map fun a => (hds q i).getD i' [] ++ [a]))
        (fun k hk => ⟨.ref h, rfl, h, rfl, ⟨us, .inl (.inl hh)⟩, hk⟩) (fun D hD0 => ⟨hD0, same_new hD0, [], upd_same, trivial⟩) (fun D i' H2 hi2 hp => .inl (.inl (hp.2.1 _ _ hh))) (fun x => rfl) (fun x y => rfl) (fun D i' x H2 k hx hp hk => ⟨.int q, rfl, _, rfl, by omega, by omega, hk⟩)
        (fun D i' j x H2 hx hj hp => ?_) (fun D i' H2 hi2 hp => ?_) (fun D H2 hp => ?_)
      · obtain ⟨hD0, s4, acc, hA, hFA⟩ := hp
        obtain ⟨a, f, rfl, hf, hsq⟩ := hU.get hx
        have ea : ((hds q i).getD i' []) = f := by rw [List.getD_eq_getElem?_getD, hf]; rfl
        have lf := (hD.len f (List.mem_of_getElem? hf)).1
        have sa := BP.Same.tupS s4 hsq
        have lA := hFA.len
        have l3 : ((hds q i).take i').length * q ≤ 2001 := by
          refine Nat.le_trans (Nat.mul_le_mul_right q (Nat.le_trans (by rw [List.length_take]; exact Nat.min_le_right ..) (Nat.le_of_eq hD.many))) qi
        rw [List.length_append, List.length_map, xpd_len, List.length_take (l := els q), els_len] at lA
        have lv : (vns f).length = f.length := List.length_map ..
        refine ⟨.ref a, rfl, a, vns f, rfl, .inl sa, .int (0 + (j : Nat)), rfl, ?_, fun l nl => ⟨acc, ?_, small9 (by omega), hD0, same_upd (s4.trans (same_new nl)) hD0, _, upd_same, ?_⟩⟩
        · rw [List.length_append, lv]
          exact Nat.le_of_lt (small9 (by show f.length + 1 ≤ 9000; omega))
        · rw [upd_ne (ne_of_none hA nl)]
          exact hA
        · have e2 : (els q).take (j + 1) = (els q).take j ++ [⟨j, hj⟩] := by rw [List.take_succ, els_get hj]; rfl
          rw [e2, List.map_append, ← List.append_assoc]
          have hA2 : upd H2 l (.tup (vns f ++ [V.int (0 + (j : Nat))])) D = some (.lst acc) := by
            rw [upd_ne (ne_of_none hA nl)]
            exact hA
          refine FsAt.sq (fun a zs z => sqT_upd hA2 z) ((hFA.kept (same_new nl)).snoc ?_)
          refine .inl (.inl ?_)
          rw [upd_same, ea]
          unfold vns
          rw [List.map_append, Int.zero_add]
          rfl
      · obtain ⟨hD0, s4, acc, hA, hFA⟩ := hp
        rw [lu] at hi2
        have hf := List.getElem?_eq_getElem hi2
        refine ⟨hD0, s4, acc, hA, ?_⟩
        rw [xpd_take hf]
        have ea : ((hds q i).getD i' []) = (hds q i)[i'] := by rw [List.getD_eq_getElem?_getD, hf]; rfl
        rw [ea, List.take_of_length_le (l := els q) (by rw [els_len]; exact Nat.le_refl _)] at hFA
        rw [List.take_zero, List.map_nil, List.append_nil]
        exact hFA
      · obtain ⟨hD0, s4, acc, hA, hFA⟩ := hp
        have dL : D ≠ L := fun e => by
          rw [e] at hD0
          exact nL' hD0
        have hFA : FsAt K H2 acc (hds q (i + 1)) := by
          rw [List.take_of_length_le (i := us.length) (l := hds q i) (by omega)] at hFA
          rw [List.take_zero, List.map_nil, List.append_nil] at hFA
          exact hFA
        have hD2 := hds_HD (q := q) (i + 1)
        have eb : bdl q (i + 1) = bdl q i ++ (hds q (i + 1)).filter lnz := rfl
        have lb := bdl_len (q := q) i
        generalize hgs : hds q (i + 1) = gs at hFA hD2
        have lg : gs.length ≤ 2001 := by
          rw [hD2.many, Nat.pow_succ]
          exact qi
        have la := hFA.len
        show tDrop _ _ [some (.int q), some (.int (n + 1 : Nat)), some (.ref D), some (.ref L), some (.int (0 + (i : Nat))), y5, y6] H2
        have hL2 := s4 _ _ hL
        refine ⟨.ref L, rfl, .inl ⟨rfl, _, .inl (.inl hL2)⟩, .ref D, rfl, D, rfl, ⟨acc, .inl (.inl hA)⟩, fun G nG => lc_list (K := K) (a := D) (xs := acc) (fun i' H3 => Same H2 H3 ∧ ∃ acc3, H3 G = some (.lst acc3) ∧ FsAt K H3 acc3 ((gs.take i').filter lnz)) ⟨same_new nG, [], upd_same, trivial⟩ (fun i' H3 _ hp => .inl (.inl (hp.1 _ _ hA))) (fun i' x H3 hx hp => ?_) (fun H3 hp => ?_)⟩
        · obtain ⟨s5, acc3, hG, hF3⟩ := hp
          obtain ⟨a, f, rfl, hf, hsq⟩ := hFA.get hx
          have lf := (hD2.len f (List.mem_of_getElem? hf)).1
          have fn : f ≠ [] := fun e => by rw [e] at lf; cases lf
          have ef : vns f = vns f.dropLast ++ [vn (f.getLast fn)] := by
            have := congrArg vns (List.dropLast_concat_getLast fn).symm
            refine this.trans ?_
            unfold vns
            rw [List.map_append]
            rfl
          have ez : co f (f.length - 1) = f.getLast fn := by
            unfold co
            rw [List.getLast_eq_getElem, List.getD_eq_getElem?_getD, List.getElem?_eq_getElem (by omega)]
            rfl
          have sa := BP.Same.tupS s5 hsq
          have et : (gs.take (i' + 1)).filter lnz = (gs.take i').filter lnz ++ [f].filter lnz := by
            rw [List.take_succ, hf, List.filter_append]
            rfl
          have l3 := hF3.len
          have l4 : ((gs.take i').filter lnz).length ≤ 2001 := Nat.le_trans (List.length_filter_le ..) (Nat.le_trans (by rw [List.length_take]; exact Nat.min_le_right ..) lg)
          rw [et]
          refine ⟨rfl, .ref a, rfl, 1, rfl, a, vns f, -1, vn (f.getLast fn), rfl, rfl, sa, by rw [ef]; exact atI_last _ _, rfl, _, rfl, ?_⟩
          show (if (!decide (vn (f.getLast fn) = V.int 0)) = true then _ else _)
          refine ite2 (fun z => ?_) (fun z => ?_)
          · have z0 : lnz f = true := by
              unfold lnz
              rw [ez]
              refine decide_eq_true fun e => ?_
              rw [e] at z
              exact absurd (show (!decide (vn (0 : El q) = V.int 0)) = true from z) (by rw [decide_eq_true (p := vn (0 : El q) = V.int 0) vn_zero]; decide)
            refine ⟨.ref a, rfl, acc3, hG, small9 (by omega), same_upd s5 nG, _, upd_same, ?_⟩
            rw [List.filter_cons_of_pos z0]
            exact FsAt.sq (fun a zs z => sqT_upd hG z) (hF3.snoc sa)
          · have z0 : ¬ lnz f = true := fun e => by
              unfold lnz at e
              rw [ez] at e
              exact z (by rw [decide_eq_false (p := vn (f.getLast fn) = V.int 0) (fun h => (of_decide_eq_true e) (vn_inj (h.trans vn_zero.symm)))]; rfl)
            rw [List.filter_cons_of_neg z0]
            exact ⟨s5, acc3, hG, by rw [List.filter_nil, List.append_nil]; exact hF3⟩
        · obtain ⟨s5, acc3, hG, hF3⟩ := hp
          rw [List.take_of_length_le (by omega)] at hF3
          have hL3 := s5 _ _ hL2
          have l3 := hF3.len
          have l2 := hF.len
          have l4 : (gs.filter lnz).length ≤ 2001 := Nat.le_trans (List.length_filter_le ..) lg
          refine ⟨L, G, ws, acc3, rfl, rfl, hL3, hG, Nat.le_of_lt (small9 (by have : q ^ i ≤ q ^ i * q := Nat.le_mul_of_pos_right _ q0; omega)), same_upd (s3.trans (s4.trans s5)) hL0, D, acc, ws ++ acc3, _, _, _, rfl, ?_, ?_, upd_same, ?_, dL⟩
          · rw [upd_ne dL]
            exact s5 _ _ hA
          · exact FsAt.sq (fun a zs z => sqT_upd hL3 z) (hFA.kept s5)
          · rw [eb, hgs]
            exact FsAt.sq (fun a zs z => sqT_upd hL3 z) (FsAt.cat (hF.kept (s4.trans s5)) hF3)
    · obtain ⟨s3, h, us, ws, y4, y5, y6, rfl, hh, hU, hL, hF, hn⟩ := hW
      refine ⟨.ref L, rfl, L, ws, _, rfl, .inl (.inl hL), fs_dp hF, alike_fs _, sortable_fs (fun f hf => (bdl_bend hf).1.2), (fun d hd => by
        obtain ⟨f, _, rfl⟩ := List.mem_map.mp hd
        exact depth_tpd f), fun ys p hp hk => ?_⟩
      rw [← bds_map] at hk
      exact want p ys _ (s3.trans (same_new hp)) upd_same ((dpAll_fs hk).kept (same_new hp))
end
end K13
set_option Elab.async false
set_option linter.all false
set_option maxRecDepth 100000
set_option maxHeartbeats 1000000
set_option pp.maxSteps 3000
/-! The places behind a place. -/
namespace BP
open PySem PySem.Spec PyProof.Rows L2 Fld
section
variable {K : PySem.W.Frag} {q : Nat} [FF : IsF q]
/-- places made over a range, as a tuple -/
theorem lcr_pls {lo : Int} {n j : Nat} {wi : TI} {te : TE} {σ : L2.St} {H : Hp} {Q : VK} (φ : Nat → Pl q) (n9 : n ≤ 900) (hwi : ∀ k : It → Hp → Prop, k (Itr lo n) H → wi σ H k) (hw : ∀ x : V, wipe ((wipe σ [j]).set j (some x)) [j] = wipe σ [j])
    (hs : ∀ (i : Nat) (H' : Hp) (Q' : VK), i < n → Same H H' → (∀ r H2, Same H' H2 → PA K H2 r (φ i) → Q' (.ref r) H2) → te ((wipe σ [j]).set j (some (.int (lo + (i : Nat))))) H' Q')
    (k : ∀ r us H', Same H H' → SqT K H' r us → Pls K H' us ((List.range n).map φ) → Q (.ref r) H') : tThen (tLc wi (gName j) tYes te [j]) (kTup K) σ H Q := by
  refine hwi _ fun D nD => lc_range (fun i H' => Same H H' ∧ ∃ vs, H' D = some (.lst vs) ∧ Pls K H' vs ((List.range i).map φ)) ⟨same_new nD, [], upd_same, trivial⟩ (fun i H' hi hW => ?_) (fun H' hW => ?_)
  · obtain ⟨s1, vs, hD, hV⟩ := hW
    refine ⟨hw _, yes_kept (hs i H' _ hi s1 fun r H2 s2 hr => ⟨vs, s2 _ _ hD, ?_, same_upd (s1.trans s2) nD, vs ++ [.ref r], upd_same, ?_⟩)⟩
    · have := hV.len
      rw [List.length_map, List.length_range] at this
      exact small1000 (by omega)
    · rw [List.range_succ, List.map_append]
      exact ((hV.kept s2).snoc hr).sq fun a zs h => sqT_upd (s2 _ _ hD) h
  · obtain ⟨s1, vs, hD, hV⟩ := hW
    refine .inl ⟨D, _, rfl, .inl (.inl hD), fun r nr => ?_⟩
    have s3 := same_new (o := .tup vs) nr
    exact k r vs _ (s1.trans s3) (.inl (.inl upd_same)) (hV.kept s3)
def elN (q : Nat) [IsF q] (i : Nat) : El q := if h : i < q then ⟨i, h⟩ else 0
theorem elN_vn {i : Nat} (h : i < q) : vn (elN q i) = .int (i : Nat) := by
  unfold elN
  rw [dif_pos h]
theorem elN_inj {i j : Nat} (h : i < q) (h2 : j < q) (e : elN q i = elN q j) : i = j := by
  unfold elN at e
  rw [dif_pos h, dif_pos h2] at e
  exact congrArg El.val e
theorem elN_val (a : El q) : elN q a.val = a := by
  unfold elN
  rw [dif_pos a.lt]
/-- a number, or none for -1 -/
def opN (q : Nat) [IsF q] (i : Nat) : Option (El q) := if i = 0 then none else some (elN q (i - 1))
theorem opN_ov {i : Nat} (h : i < q + 1) : ov (opN q i) = .int (-1 + (i : Nat)) := by
  unfold opN
  split
  · rename_i e
    subst e
    rfl
  · rename_i e
    show vn (elN q (i - 1)) = _
    rw [elN_vn (by omega)]
    exact congrArg V.int (by omega)
theorem opN_inj {i j : Nat} (h : i < q + 1) (h2 : j < q + 1) (e : opN q i = opN q j) : i = j := by
  unfold opN at e
  split at e <;> split at e
  · omega
  · cases e
  · cases e
  · have := elN_inj (by omega) (by omega) (Option.some.inj e)
    omega
theorem opN_all (o : Option (El q)) : ∃ i, i < q + 1 ∧ opN q i = o := by
  cases o with
  | none => exact ⟨0, by omega, rfl⟩
  | some a =>
    have := a.lt
    refine ⟨a.val + 1, by omega, ?_⟩
    show some (elN q a.val) = _
    rw [elN_val]
theorem range_nodup {α : Type} {n : Nat} {φ : Nat → α} (h : ∀ i j, i < n → j < n → φ i = φ j → i = j) : ((List.range n).map φ).Nodup := by
  refine List.pairwise_iff_getElem.mpr fun i j hi hj hij e => ?_
  rw [List.getElem_map, List.getElem_map, List.getElem_range, List.getElem_range] at e
  rw [List.length_map, List.length_range] at hi hj
  have := h i j hi hj e
  omega
theorem range_mem {α : Type} {n : Nat} {φ : Nat → α} {y : α} : y ∈ (List.range n).map φ ↔ ∃ i, i < n ∧ φ i = y := by
  rw [List.mem_map]
  exact ⟨fun ⟨i, m, e⟩ => ⟨i, List.mem_range.mp m, e⟩, fun ⟨i, m, e⟩ => ⟨i, List.mem_range.mpr m, e⟩⟩
/-- the places behind a place, in Python's order -/
noncomputable def bhl : Pl q → Nat → List (Pl q)
  | (true, o, us, fs), n => (bds q n).map fun f => (false, o, us, fs ++ [f])
  | (false, _, _, []), _ => (List.range (q + 1)).map fun i => (true, opN q i, [], [])
  | (false, o, us, f :: fs), _ => (List.range q).map fun i => (true, o, us ++ [elN q i], f :: fs)
theorem bhl_ok {x : Pl q} {n : Nat} (ok : PO x) (l190 : x.2.2.2.length ≤ 190) (hn : x.1 = true → n ≤ 5) : ∀ y ∈ bhl x n, PO y ∧ Nr y ∧ ahP y = x ∧ y.2.2.2.length ≤ x.2.2.2.length + 1 := by
  obtain ⟨b, o, us, fs⟩ := x
  intro y hy
  cases b with
  | true =>
    have lu : us.length = fs.length := ok.bent rfl
    have l190 : fs.length ≤ 190 := l190
    obtain ⟨f, hf, rfl⟩ := List.mem_map.mp hy
    obtain ⟨b1, b2⟩ := bds_bend hf
    refine ⟨⟨(fun g hg => ?_), ?_, (fun h => by cases h), (fun _ => ⟨?_, fun z => ?_⟩)⟩, .inr ?_, ?_, ?_⟩
    · rcases List.mem_append.mp hg with h | h
      · exact ok.fB g h
      · rw [List.mem_singleton.mp h]
        exact ⟨b1, by have := hn rfl; omega⟩
    · rw [List.length_append]
      show fs.length + 1 ≤ 200
      omega
    · rw [List.length_append, lu]
      rfl
    · exact absurd z (by simp)
    · show fs ++ [f] ≠ []
      simp
    · show (true, ahO false o (fs ++ [f]), us, (fs ++ [f]).dropLast) = _
      rw [List.dropLast_concat]
      rfl
    · show (fs ++ [f]).length ≤ fs.length + 1
      rw [List.length_append]
      exact Nat.le_refl _
  | false =>
    cases fs with
    | nil =>
      obtain ⟨i, hi, rfl⟩ := range_mem.mp hy
      have o0 : o = none := (ok.str rfl).2 rfl
      have u0 : us = [] := List.length_eq_zero_iff.mp (by have := (ok.str rfl).1; simpa using this)
      subst o0
      subst u0
      exact ⟨⟨(fun f h => by cases h), Nat.zero_le _, (fun _ => rfl), (fun h => by cases h)⟩, .inl rfl, rfl, Nat.zero_le _⟩
    | cons f fs =>
      obtain ⟨i, hi, rfl⟩ := range_mem.mp hy
      have lu : us.length = (f :: fs).length - 1 := (ok.str rfl).1
      refine ⟨⟨ok.fB, ok.lf, (fun _ => ?_), (fun h => by cases h)⟩, .inl rfl, ?_, Nat.le_succ _⟩
      · show (us ++ [elN q i]).length = fs.length + 1
        rw [List.length_append, lu]
        rfl
      · show (false, ahO true o (f :: fs), (us ++ [elN q i]).dropLast, f :: fs) = _
        unfold ahO
        rw [if_neg (fun z => by cases z.2), List.dropLast_concat]
theorem bhl_nodup {x : Pl q} {n : Nat} : (bhl x n).Nodup := by
  obtain ⟨b, o, us, fs⟩ := x
  cases b with
  | true =>
    unfold bhl List.Nodup
    rw [List.pairwise_map]
    exact List.Pairwise.imp (fun h1 h2 => h1 (by simpa using congrArg (fun x : Pl q => x.2.2.2) h2)) (bds_nodup n)
  | false =>
    cases fs with
    | nil => exact range_nodup fun i j hi hj e => opN_inj hi hj (congrArg (fun x : Pl q => x.2.1) e)
    | cons f fs => exact range_nodup fun i j hi hj e => elN_inj hi hj (by
        have := congrArg (fun x : Pl q => x.2.2.1) e
        simpa using this)
theorem bhl_len (x : Pl q) (n : Nat) : (bhl x n).length = mBh q x.1 x.2.2.2.isEmpty (n + 1) := by
  obtain ⟨b, o, us, fs⟩ := x
  cases b with
  | true =>
    unfold bhl
    rw [List.length_map, bds_len]
    rfl
  | false =>
    cases fs with
    | nil =>
      unfold bhl
      rw [List.length_map, List.length_range]
      rfl
    | cons f fs =>
      unfold bhl
      rw [List.length_map, List.length_range]
      rfl
end
end BP
set_option Elab.async false
set_option linter.all false
set_option maxRecDepth 100000
set_option maxHeartbeats 2000000
set_option pp.maxSteps 3000
namespace BP
open PySem PySem.Spec PyProof.Rows L2 Fld
def spBhd (K : PySem.W.Frag) : Sp := fun vs H Q _ => ∃ (q : Nat) (_ : IsF q) (c : Addr) (x : Pl q) (n : Nat), vs = [.int q, .ref c, .int (n + 1 : Nat)] ∧ PA K H c x ∧ PO x ∧ x.2.2.2.length ≤ 190 ∧ (x.1 = true → n ≤ 5 ∧ q ^ n ≤ 2001) ∧ ∀ (r : Addr) (us : List V) (H' : Hp), Same H H' → SqT K H' r us → Pls K H' us (bhl x n) → Q (.ref r) H'
end BP
namespace K13
open PySem PySem.Spec PyProof.Rows L2 BP Fld
section
variable {P : Program} {w : World} {K : PySem.W.Frag} {mg : Str → Option Value} {base : Heap}
theorem ok_bhd {f fLKP fBUT : Addr} {fd fdLKP fdBUT : FuncData} (F : Fun K "behind" "behind" sBehind f fd) (LKP : BP.Can P w K mg base "look_at_places" 7 pLookAtPlaces (spLookP K) fLKP fdLKP) (BUT : BP.Can P w K mg base "bends_up_to" 1 pBendsUpTo (spBut K) fBUT fdBUT) {t1 t2 t3 : Tok} {aR : Addr} (gST : mg "STRAIGHT" = some (.str "straight" t1)) (gBE : mg "BENT" = some (.str "bent" t2)) (gNT : mg "NO_TURN" = some (.int (-1) t3)) (gRO : mg "ROOT" = some (.ref aR)) (hR : ∀ (H : Hp) (q : Nat) [IsF q], PlAt (q := q) K H aR false none [] []) (m_range : mg "range" = none) (m_tuple : mg "tuple" = none) : FnOk P w K mg base CX0 8 f fd pBehind (spBhd K) := by
  refine F.ok scBehind (fun vs H Q E h => ?_) (fun cdv A outer s H vs Q E hr h => ?_)
  · obtain ⟨q, _, c, x, n, rfl, _⟩ := h
    rfl
  · obtain ⟨q, FF, c, x, n, rfl, hP, ok, l190, hn, want⟩ := h
    refine ⟨_, (pss_cons (ps_expr (pe_call LKP.ok hr (by rfl) LKP.g LKP.kp LKP.b .nil pass0 (pa_cons (pv 0) (pa_cons (pe_lst (pa_cons (pv 1) pa_nil)) pa_nil))))
      (pss_cons (ps_asg (pv 1) (pg_tup rfl (pgs_cons (pg_name (i := 3) scBehind.nd rfl (.inl rfl)) (pgs_cons (pg_name (i := 4) scBehind.nd rfl (.inr rfl)) (pgs_cons (pg_name (i := 5) scBehind.nd rfl (.inr rfl)) (pgs_cons (pg_name (i := 6) scBehind.nd rfl (.inr rfl)) pgs_nil))))))
      (pss_cons (ps_if (pt_cmpR (op_eqD hr.units) (pv 1) (pe_glob (v := .ref aR) rfl gRO rfl) (nomark _)) (pss_one (ps_ret (pe_tupleOf rfl m_tuple (pe_lc (own := [("number", 8)]) (g := gName 8) (tt := tYes) rfl scBehind.nd (pi_range2 rfl m_range (pa_cons (pe_glob (v := .int (-1)) rfl gNT ⟨_, rfl⟩) (pa_cons (pv 0) pa_nil))) (blkOk_by (N := nBehind) (sc := defScope sBehind) (by decide +kernel)) (fun _ _ _ _ _ => (pg_name (i := 8) scBehind.nd rfl (.inl rfl))) (fun _ _ _ _ _ => pts_nil) (fun _ _ _ _ _ => (pe_tup (pa_cons (pe_glob (v := .str "bent") rfl gBE ⟨_, rfl⟩) (pa_cons (pv 8) (pa_cons (pe_tup pa_nil) (pa_cons (pe_tup pa_nil) pa_nil)))))))))) pss_nil)
      (pss_cons (ps_if (pt_cmpR op_eq (pv 3) (pe_glob (v := .str "straight") rfl gST ⟨_, rfl⟩) (nomark _)) (pss_one (ps_ret (pe_tupleOf rfl m_tuple (pe_lc (own := [("number", 8)]) (te := tTup (tCons (tC (V.str "bent")) (tCons (tVar 4) (tCons (tVar 5) (tCons (tTup (StX.tStar K (tVar 6) (tCons (tVar 8) tNil))) tNil))))) (g := gName 8) (tt := tYes) rfl scBehind.nd (pi_range1 rfl m_range (pa_cons (pv 0) pa_nil)) (blkOk_by (N := nBehind) (sc := defScope sBehind) (by decide +kernel)) (fun _ _ _ _ _ => (pg_name (i := 8) scBehind.nd rfl (.inl rfl))) (fun _ _ _ _ _ => pts_nil) (fun _ _ _ _ _ => (pe_tup (pa_cons (pe_glob (v := .str "bent") rfl gBE ⟨_, rfl⟩) (pa_cons (pv 4) (pa_cons (pv 5) (pa_cons (pe_tup (StX.pa_star (pv 6) (pa_cons (pv 8) pa_nil))) pa_nil)))))))))) pss_nil)
      (pss_one (ps_ret (pe_tupleOf rfl m_tuple (pe_lc (own := [("bend", 7)]) (te := tTup (tCons (tC (V.str "straight")) (tCons (tVar 4) (tCons (tTup (StX.tStar K (tVar 5) (tCons (tVar 7) tNil))) (tCons (tVar 6) tNil))))) (g := gName 7) (tt := tYes) rfl scBehind.nd (pi_list (pe_call BUT.ok (hr.mono (show 1 ≤ 7 by decide)) (by rfl) BUT.g BUT.kp BUT.b .nil pass0 (pa_cons (pv 0) (pa_cons (pv 2) pa_nil)))) (blkOk_by (N := nBehind) (sc := defScope sBehind) (by decide +kernel)) (fun _ _ _ _ _ => (pg_name (i := 7) scBehind.nd rfl (.inl rfl))) (fun _ _ _ _ _ => pts_nil) (fun _ _ _ _ _ => (pe_tup (pa_cons (pe_glob (v := .str "straight") rfl gST ⟨_, rfl⟩) (pa_cons (pv 4) (pa_cons (pe_tup (StX.pa_star (pv 5) (pa_cons (pv 7) pa_nil))) (pa_cons (pv 6) pa_nil)))))))))))))), ?_⟩
    refine ⟨.int q, rfl, .ref c, rfl, (by show 1 ≤ sizeLine; decide), fun l nl => ?_⟩
    have s0 := same_new (o := .lst [V.ref c]) nl
    refine ⟨q, FF, l, [c], rfl, .inl (.inl upd_same), fun c' hc' => ?_, fun H1 s1 => ?_⟩
    · rw [List.mem_singleton.mp hc']
      exact ⟨_, _, _, _, hP.kept s0, ok⟩
    have s01 := s0.trans s1
    have hP1 := hP.kept s01
    obtain ⟨b, o, us, fs⟩ := x
    have hD := dp_pl hP1
    obtain ⟨bs, p, t, hc, hb, hF, ht⟩ := hP1
    have lb := hF.len
    show tSeq _ _ _ [some (.int q), some (.ref c), some (.int (n + 1 : Nat)), none, none, none, none, none, none] H1
    refine ⟨.ref c, rfl, c, _, rfl, hc, rfl, _, [_, _, _], rfl, _, [_, _], rfl, _, [_], rfl, _, [], rfl, rfl, ?_⟩
    have q16 : q ≤ 16 := le16 FF.mem
    by_cases nr : b = true ∨ fs ≠ []
    rotate_left
    · have fs0 : fs = [] := Classical.byContradiction fun z => nr (.inr z)
      have b0 : b = false := by
        cases b with
        | true => exact absurd (.inl rfl) nr
        | false => rfl
      subst fs0
      subst b0
      have o0 : o = none := (ok.str rfl).2 rfl
      have u0 : us = [] := List.length_eq_zero_iff.mp (by have := (ok.str rfl).1; simpa using this)
      subst o0
      subst u0
      refine ⟨.ref c, rfl, plD false none [] [], plD (q := q) false none [] [], hD, dp_pl (hR _ q), sh_pl ok, sh_pl root_ok, true, by rw [root_yes], iteT ?_⟩
      show tThen (tLc _ (gName 8) tYes _ [8]) (kTup K) [some (.int q), some (.ref c), some (.int (n + 1 : Nat)), some (.str (sortS false)), some (ov (none : Option (El q))), some (.ref p), some (.ref t), none, none] H1 _
      refine lcr_pls (K := K) (lo := -1) (n := q + 1) (fun i => ((true, opN q i, [], []) : Pl q)) (by omega) (fun k hk => ⟨.int q, rfl, -1, q, rfl, ?_⟩) (fun x => rfl) (fun i H' Q' hi s2 hk => ?_) (fun r us H' s2 hr hu => ?_)
      · refine ⟨⟨by omega, by omega, by omega, by omega⟩, ?_⟩
        rw [show ((q : Int) - -1).toNat = q + 1 by omega]
        exact hk
      · refine ⟨.int (-1 + (i : Nat)), rfl, (by show 0 ≤ sizeLine; decide), fun e1 n1 => ⟨(by show 0 ≤ sizeLine; decide), fun e2 n2 => ⟨(by show 4 ≤ sizeLine; decide), fun r nr => hk r _ (((same_new n1).trans (same_new n2)).trans (same_new nr)) ⟨[], e1, e2, ?_, ?_, trivial, ?_⟩⟩⟩⟩
        · refine .inl (.inl ?_)
          rw [upd_same, opN_ov hi]
          rfl
        · exact BP.Same.tupS ((same_new n2).trans (same_new nr)) (.inl (.inl upd_same))
        · exact BP.Same.tupS (same_new nr) (.inl (.inl upd_same))
      · exact want r us H' (s01.trans s2) hr hu
    refine ⟨.ref c, rfl, plD b o us fs, plD (q := q) false none [] [], hD, dp_pl (hR _ q), sh_pl ok, sh_pl root_ok, false, by rw [root_no nr], iteF ?_⟩
    cases b with
    | false =>
      refine ⟨_, rfl, rfl, true, rfl, iteT ?_⟩
      show tThen (tLc _ (gName 8) tYes _ [8]) (kTup K) [some (.int q), some (.ref c), some (.int (n + 1 : Nat)), some (.str (sortS false)), some (ov o), some (.ref p), some (.ref t), none, none] H1 _
      have nf : fs ≠ [] := nr.resolve_left (by decide)
      have lu : us.length = fs.length - 1 := (ok.str rfl).1
      have lf := List.length_pos_iff.mpr nf
      have l190 : fs.length ≤ 190 := l190
      refine lcr_pls (K := K) (lo := 0) (n := q) (fun i => ((true, o, us ++ [elN q i], fs) : Pl q)) (by omega) (fun k hk => ⟨.int q, rfl, _, rfl, by omega, by omega, by rw [Int.toNat_natCast]; exact hk⟩) (fun x => rfl) (fun i H' Q' hi s2 hk => ?_) (fun r us H' s2 hr hu => ?_)
      · refine ⟨ov o, rfl, .ref p, rfl, .ref t, rfl, t, vns us, rfl, .inl (BP.Same.tupS s2 ht), .int (0 + (i : Nat)), rfl, ?_, fun e1 n1 => ⟨(by show 4 ≤ sizeLine; decide), fun r nr => hk r _ ((same_new n1).trans (same_new nr)) ⟨bs, p, e1, ?_, ?_, ?_, ?_⟩⟩⟩
        · rw [List.length_append]
          have : (vns us).length = us.length := List.length_map ..
          exact Nat.le_of_lt (small1000 (by show (vns us).length + 1 ≤ 1000; omega))
        · exact .inl (.inl upd_same)
        · exact BP.Same.tupS (s2.trans ((same_new n1).trans (same_new nr))) hb
        · exact hF.kept (s2.trans ((same_new n1).trans (same_new nr)))
        · refine BP.Same.tupS (same_new nr) (.inl (.inl ?_))
          rw [upd_same]
          unfold vns
          rw [List.map_append, Int.zero_add]
          exact congrArg (fun z => some (HO.tup (_ ++ [z]))) (elN_vn hi).symm
      · refine want r us H' (s01.trans s2) hr ?_
        obtain ⟨f, gs, e⟩ := List.exists_cons_of_ne_nil nf
        subst e
        exact hu
    | true =>
      refine ⟨_, rfl, rfl, false, by rw [decide_eq_false (p := V.str (sortS true) = V.str "straight") (fun z => absurd (V.str.inj z) (by decide +kernel))], iteF ?_⟩
      show Ends.nx _ [some (.int q), some (.ref c), some (.int (n + 1 : Nat)), some (.str (sortS true)), some (ov o), some (.ref p), some (.ref t), none, none] H1
      dsimp only []
      show tThen (tLc _ (gName 7) tYes _ [7]) (kTup K) [some (.int q), some (.ref c), some (.int (n + 1 : Nat)), some (.str (sortS true)), some (ov o), some (.ref p), some (.ref t), none, none] H1 _
      obtain ⟨n5, qn⟩ := hn rfl
      have lu : us.length = fs.length := ok.bent rfl
      have l190 : fs.length ≤ 190 := l190
      refine ⟨.int q, rfl, .int (n + 1 : Nat), rfl, q, FF, n, rfl, n5, qn, fun T vs H2 s2 hT hG => ?_⟩
      have lgs := bds_len (q := q) n
      have eB : bhl ((true, o, us, fs) : Pl q) n = (bds q n).map fun f => (false, o, us, fs ++ [f]) := rfl
      rw [eB] at want
      generalize bds q n = gs at hG lgs want
      refine ⟨T, rfl, ⟨vs, .inl (.inl hT)⟩, fun D nD => lc_list (K := K) (a := T) (xs := vs) (fun i H3 => Same H2 H3 ∧ ∃ ws, H3 D = some (.lst ws) ∧ Pls K H3 ws ((gs.take i).map fun f => ((false, o, us, fs ++ [f]) : Pl q))) ⟨same_new nD, [], upd_same, trivial⟩ (fun i H3 _ hp => .inl (.inl (hp.1 _ _ hT))) (fun i x H3 hx hp => ?_) (fun H3 hp => ?_)⟩
      · obtain ⟨s3, ws, hD, hW⟩ := hp
        obtain ⟨a, f, rfl, hf, hsq⟩ := hG.get hx
        have lw := hW.len
        have lg := hG.len
        rw [List.length_map, List.length_take] at lw
        have s23 := s2.trans s3
        refine ⟨rfl, yes_kept ?_⟩
        refine ⟨ov o, rfl, .ref p, rfl, p, bs, rfl, .inl (BP.Same.tupS s23 hb), .ref a, rfl, ?_, fun e1 n1 => ⟨.ref t, rfl, (by show 4 ≤ sizeLine; decide), fun r nr => ⟨ws, ?_, small9 (by omega), same_upd (s3.trans ((same_new n1).trans (same_new nr))) nD, ws ++ [.ref r], upd_same, ?_⟩⟩⟩
        · rw [List.length_append]
          exact Nat.le_of_lt (small1000 (by show bs.length + 1 ≤ 1000; omega))
        · exact ((same_new n1).trans (same_new nr)) _ _ hD
        · have s4 := (same_new (o := .tup (bs ++ [V.ref a])) n1).trans (same_new (o := .tup [V.str "straight", ov o, .ref e1, .ref t]) nr)
          rw [List.take_succ, hf, List.map_append]
          refine Pls.sq (fun a zs z => sqT_upd (s4 _ _ hD) z) ((hW.kept s4).snoc ⟨bs ++ [.ref a], e1, t, .inl (.inl upd_same), BP.Same.tupS (same_new nr) (.inl (.inl upd_same)), FsAt.snoc (BP.Same.tupS (s3.trans s4) hsq) (hF.kept (s23.trans s4)), BP.Same.tupS (s23.trans s4) ht⟩)
      · obtain ⟨s3, ws, hD, hW⟩ := hp
        have lg := hG.len
        rw [List.take_of_length_le (by omega)] at hW
        refine .inl ⟨D, _, rfl, .inl (.inl hD), fun r nr => ?_⟩
        have s4 := same_new (o := .tup ws) nr
        exact want r ws _ (s01.trans (s2.trans (s3.trans s4))) (.inl (.inl upd_same)) (hW.kept s4)
end
end K13
set_option Elab.async false
set_option linter.all false
set_option maxRecDepth 100000
set_option maxHeartbeats 2000000
set_option pp.maxSteps 3000
namespace BP
open PySem PySem.Spec PyProof.Rows L2 Fld
end BP
namespace K13
open PySem PySem.Spec PyProof.Rows L2 BP Fld
section
variable {P : Program} {w : World} {K : PySem.W.Frag} {mg : Str → Option Value} {base : Heap}
theorem ok_lbe {f : Addr} {fd : FuncData} (F : Fun K "_law_bends" "_law_bends" sLBends f fd) (m_range : mg "range" = none) (m_sorted : mg "sorted" = none) : FnOk P w K mg base CX0 1 f fd pLBends (spBut K) := by
  refine F.ok scLBends (fun vs H Q E h => ?_) (fun cdv A outer s H vs Q E hr h => ?_)
  · obtain ⟨q, _, n, rfl, _⟩ := h
    rfl
  · obtain ⟨q, FF, n, rfl, n5, qn, want⟩ := h
    refine ⟨_, (pss_cons (ps_par (i := 2) (j := 3) (by rfl) scLBends.nd rfl rfl (by decide) rfl rfl (pa_cons (pe_lst pa_nil) (pa_cons (pe_lst (pa_cons (pe_tup (pa_cons pe_int (pa_cons pe_int pa_nil))) pa_nil)) pa_nil)) (by rfl))
      (pss_cons (ps_for PassesOwn.never rfl (pi_range2 rfl m_range (pa_cons pe_int (pa_cons (pe_op op_add (pv 1) pe_int) pa_nil))) (pg_name (i := 4) scLBends.nd rfl (.inl rfl)) (pss_cons (ps_set (i := 5) scLBends.nd rfl (.inl rfl) (pe_lst pa_nil))
        (pss_cons (ps_for PassesOwn.never rfl (pi_list (pv 3)) (pg_name (i := 6) scLBends.nd rfl (.inr rfl)) (pss_one (ps_expr (pe_bm PySem.F.plainAttrs_list PySem.F.slot_list_extend PySem.F.type_list_extend mt_extend (pv 5) (pa_cons (pe_lc (own := [("_law_number", 7)]) (te := tOp (rCatA K) (tVar 6) (tTup (tCons (tVar 7) tNil))) (g := gName 7) (tt := tYes) rfl scLBends.nd (pi_range1 rfl m_range (pa_cons (pv 0) pa_nil)) (blkOk_by (N := nLBends) (sc := defScope sLBends) (by decide +kernel)) (fun _ _ _ _ _ => (pg_name (i := 7) scLBends.nd rfl (.inl rfl))) (fun _ _ _ _ _ => pts_nil) (fun _ _ _ _ _ => (pe_op op_catA (pv 6) (pe_tup (pa_cons (pv 7) pa_nil))))) pa_nil)))))
        (pss_cons (ps_set (i := 3) scLBends.nd rfl (.inl rfl) (pv 5))
        (pss_one (ps_expr (pe_bm PySem.F.plainAttrs_list PySem.F.slot_list_extend PySem.F.type_list_extend mt_extend (pv 2) (pa_cons (pe_lc (own := [("_law_row", 6)]) (g := gName 6) (tt := tTest (tOp rNe (tOp (rIxT K) (tVar 6) (tUn (rU fun i => V.int (-i)) (tC (V.int 1)))) (tC (V.int 0)))) rfl scLBends.nd (pi_list (pv 3)) (blkOk_by (N := nLBends) (sc := defScope sLBends) (by decide +kernel)) (fun _ _ _ _ _ => (pg_name (i := 6) scLBends.nd rfl (.inl rfl))) (fun _ _ _ _ _ => (pts_one (pt_cmpR op_ne (pe_ix ix_tup (pv 6) (pe_un un_neg pe_int) (fun _ _ => rfl)) pe_int (nomark _)))) (fun _ _ _ _ _ => (pv 6))) pa_nil))))))))
      (pss_one (ps_ret (pe_callB (call_sortD hr.units) (by rfl) m_sorted (by decide +kernel) (pa_cons (pv 2) pa_nil)))))), ?_⟩
    have q2 : 2 ≤ q := gt1 FF.mem
    have q16 : q ≤ 16 := le16 FF.mem
    have q0 : 0 < q := by omega
    refine ⟨Nat.zero_le _, fun L nL => ⟨(by show 2 ≤ sizeLine; decide), fun t nt => ⟨(by show 1 ≤ sizeLine; decide), fun h nh => ⟨_, _, rfl, ?_⟩⟩⟩⟩
    have hL0 : H L = none := nL
    have s0 := same_new (o := .lst ([] : List V)) nL
    have s1 := s0.trans (same_new (o := .tup [V.int 0, V.int 0]) nt)
    have s2 := s1.trans (same_new (o := .lst [V.ref t]) nh)
    have eL : upd (upd (upd H L (.lst [])) t (.tup [V.int 0, V.int 0])) h (.lst [V.ref t]) L = some (.lst []) := (same_new (o := .lst [V.ref t]) nh) _ _ ((same_new (o := .tup [V.int 0, V.int 0]) nt) _ _ upd_same)
    have eh : upd (upd (upd H L (.lst [])) t (.tup [V.int 0, V.int 0])) h (.lst [V.ref t]) h = some (.lst [V.ref t]) := upd_same
    have et : upd (upd (upd H L (.lst [])) t (.tup [V.int 0, V.int 0])) h (.lst [V.ref t]) t = some (.tup [V.int 0, V.int 0]) := (same_new (o := .lst [V.ref t]) nh) _ _ upd_same
    have hn0 : h ≠ L := ne_of_none ((same_new (o := .tup [V.int 0, V.int 0]) nt) _ _ upd_same) nh |>.symm
    generalize upd (upd (upd H L (.lst [])) t (.tup [V.int 0, V.int 0])) h (.lst [V.ref t]) = H0 at s2 eL eh et ⊢
    clear nL nt nh s0 s1
    show Ends.nx _ [some (.int q), some (.int (n + 1 : Nat)), some (.ref L), some (.ref h), none, none, none, none] H0
    dsimp only []
    refine ⟨.int (n + 1 : Nat), rfl, _, _, rfl, rfl, 2, _, rfl, ⟨by omega, by omega, by omega, by omega⟩, ?_⟩
    rw [show (((n + 1 : Nat) : Int) + 1 - 2).toNat = n by omega]
    refine for_range (n := n) (lo := 2) (fun i σ H' => Same H H' ∧ ∃ (h : Addr) (us ws : List V) (y4 y5 y6 y7 : Option V), σ = [some (.int q), some (.int (n + 1 : Nat)), some (.ref L), some (.ref h), y4, y5, y6, y7] ∧ H' h = some (.lst us) ∧ FsAt K H' us (hds q i) ∧ H' L = some (.lst ws) ∧ FsAt K H' ws (bdl q i) ∧ h ≠ L)
      ⟨s2, h, [.ref t], [], none, none, none, none, rfl, eh, ⟨⟨t, rfl, .inl (.inl et)⟩, trivial⟩, eL, trivial, hn0⟩ (fun i σ H' hi hW => ?_) (fun σ H' hW => ?_)
    · obtain ⟨s3, h, us, ws, y4, y5, y6, y7, rfl, hh, hU, hL, hF, hn⟩ := hW
      have hD := hds_HD (q := q) i
      have qi : q ^ i * q ≤ 2001 := by
        rw [← Nat.pow_succ]
        exact Nat.le_trans (Nat.pow_le_pow_right q0 (by omega)) qn
      have lh : (hds q i).length ≤ 2001 := by
        rw [hD.many]
        exact Nat.le_trans (Nat.le_mul_of_pos_right _ q0) qi
      have lu := hU.len
      show tSeq _ _ _ [some (.int q), some (.int (n + 1 : Nat)), some (.ref L), some (.ref h), some (.int (2 + (i : Nat))), y5, y6, y7] H'
      refine seq_of ⟨Nat.zero_le _, fun G nG => ?_⟩
      have sG := same_new (o := .lst ([] : List V)) nG
      have eG : upd H' G (.lst []) G = some (.lst []) := upd_same
      have gL : G ≠ L := fun e => by rw [e, hL] at nG; cases nG
      generalize hH1 : upd H' G (.lst []) = H1 at sG eG ⊢
      show tSeq _ _ _ [some (.int q), some (.int (n + 1 : Nat)), some (.ref L), some (.ref h), some (.int (2 + (i : Nat))), some (.ref G), y6, y7] H1
      refine ⟨.ref h, rfl, h, rfl, ⟨us, .inl (.inl (sG _ _ hh))⟩, for_list (K := K) (a := h) (xs := us) (fun i' σ'' H2 => Same H' H2 ∧ ∃ (acc : List V) (z6 z7 : Option V), H2 G = some (.lst acc) ∧ FsAt K H2 acc (xpd ((hds q i).take i')) ∧ σ'' = [some (.int q), some (.int (n + 1 : Nat)), some (.ref L), some (.ref h), some (.int (2 + (i : Nat))), some (.ref G), z6, z7])
        ⟨sG, [], y6, y7, eG, trivial, rfl⟩ (fun i' σ'' H2 _ hI => .inl (.inl (hI.1 _ _ hh))) (fun i' v σ'' H2 hv hI => ?_) (fun σ'' H2 hI => ?_)⟩
      · obtain ⟨s4, acc, z6, z7, hG, hA, rfl⟩ := hI
        obtain ⟨a, f, rfl, hf, hsq⟩ := hU.get hv
        have lf := (hD.len f (List.mem_of_getElem? hf)).1
        have lA := hA.len
        have l3 : ((hds q i).take i').length * q ≤ 2001 := Nat.le_trans (Nat.mul_le_mul_right q (Nat.le_trans (by rw [List.length_take]; exact Nat.min_le_right ..) (Nat.le_of_eq hD.many))) qi
        rw [xpd_len] at lA
        have lv : (vns f).length = f.length := List.length_map ..
        refine ⟨.ref G, rfl, .inl ⟨rfl, _, .inl (.inl hG)⟩, .int q, rfl, _, rfl, by omega, by omega, fun D nD => ?_⟩
        rw [Int.toNat_natCast]
        refine lc_range (lo := 0) (n := q) (fun j H3 => Same H2 H3 ∧ ∃ vs, H3 D = some (.lst vs) ∧ FsAt K H3 vs (((els q).take j).map fun a => f ++ [a])) ⟨same_new nD, [], upd_same, trivial⟩ (fun j H3 hj hp => ?_) (fun H3 hp => ?_)
        · obtain ⟨s5, vs, hDv, hV⟩ := hp
          have lvs := hV.len
          rw [List.length_map, List.length_take, els_len] at lvs
          refine ⟨rfl, yes_kept ⟨.ref a, rfl, .int (0 + (j : Nat)), rfl, (by show 1 ≤ sizeLine; decide), fun t nt => ?_⟩⟩
          have s6 := same_new (o := .tup [V.int (0 + (j : Nat))]) nt
          refine catA (K := K) (xs := vns f) (ys := [V.int (0 + (j : Nat))]) (BP.Same.tupS (s4.trans (s5.trans s6)) hsq) (.inl (.inl upd_same)) (Nat.le_of_lt (small9 (by show (vns f).length + 1 ≤ 9000; omega))) fun z H4 s7 hz => ⟨vs, s7 _ _ (s6 _ _ hDv), small9 (by omega), same_upd (s5.trans (s6.trans s7)) nD, vs ++ [.ref z], upd_same, ?_⟩
          have e2 : (els q).take (j + 1) = (els q).take j ++ [⟨j, hj⟩] := by rw [List.take_succ, els_get hj]; rfl
          rw [e2, List.map_append]
          refine FsAt.sq (fun a zs z => sqT_upd (s7 _ _ (s6 _ _ hDv)) z) ((hV.kept (s6.trans s7)).snoc ?_)
          unfold vns at hz ⊢
          rw [List.map_append]
          rw [Int.zero_add] at hz
          exact hz
        · obtain ⟨s5, vs, hDv, hV⟩ := hp
          rw [List.take_of_length_le (by rw [els_len]; exact Nat.le_refl _)] at hV
          have lvs := hV.len
          rw [List.length_map, els_len] at lvs
          have l4 : (acc ++ vs).length ≤ 9000 := by rw [List.length_append]; omega
          refine ⟨G, D, acc, vs, rfl, rfl, s5 _ _ hG, hDv, Nat.le_of_lt (small9 (by rw [List.length_append] at l4; exact l4)), same_upd (s4.trans s5) nG, acc ++ vs, _, _, upd_same, ?_, rfl⟩
          rw [xpd_take hf]
          exact FsAt.sq (fun a zs z => sqT_upd (s5 _ _ hG) z) (FsAt.cat (hA.kept s5) hV)
      · obtain ⟨s4, acc, z6, z7, hG, hFA, rfl⟩ := hI
        rw [List.take_of_length_le (by omega)] at hFA
        have hFA : FsAt K H2 acc (hds q (i + 1)) := hFA
        have hD2 := hds_HD (q := q) (i + 1)
        have eb : bdl q (i + 1) = bdl q i ++ (hds q (i + 1)).filter lnz := rfl
        have lb := bdl_len (q := q) i
        generalize hgs : hds q (i + 1) = gs at hFA hD2
        have lg : gs.length ≤ 2001 := by
          rw [hD2.many, Nat.pow_succ]
          exact qi
        have la := hFA.len
        show Ends.nx _ [some (.int q), some (.int (n + 1 : Nat)), some (.ref L), some (.ref h), some (.int (2 + (i : Nat))), some (.ref G), z6, z7] H2
        dsimp only []
        refine seq_of ⟨.ref G, rfl, ?_⟩
        show tDrop _ _ [some (.int q), some (.int (n + 1 : Nat)), some (.ref L), some (.ref G), some (.int (2 + (i : Nat))), some (.ref G), z6, z7] H2
        have hL2 := s4 _ _ hL
        refine ⟨.ref L, rfl, .inl ⟨rfl, _, .inl (.inl hL2)⟩, .ref G, rfl, G, rfl, ⟨acc, .inl (.inl hG)⟩, fun D nD => lc_list (K := K) (a := G) (xs := acc) (fun i' H3 => Same H2 H3 ∧ ∃ acc3, H3 D = some (.lst acc3) ∧ FsAt K H3 acc3 ((gs.take i').filter lnz)) ⟨same_new nD, [], upd_same, trivial⟩ (fun i' H3 _ hp => .inl (.inl (hp.1 _ _ hG))) (fun i' x H3 hx hp => ?_) (fun H3 hp => ?_)⟩
        · obtain ⟨s5, acc3, hDv, hF3⟩ := hp
          obtain ⟨a, f, rfl, hf, hsq⟩ := hFA.get hx
          have lf := (hD2.len f (List.mem_of_getElem? hf)).1
          have fn : f ≠ [] := fun e => by rw [e] at lf; cases lf
          have ef : vns f = vns f.dropLast ++ [vn (f.getLast fn)] := by
            have := congrArg vns (List.dropLast_concat_getLast fn).symm
            refine this.trans ?_
            unfold vns
            rw [List.map_append]
            rfl
          have ez : co f (f.length - 1) = f.getLast fn := by
            unfold co
            rw [List.getLast_eq_getElem, List.getD_eq_getElem?_getD, List.getElem?_eq_getElem (by omega)]
            rfl
          have sa := BP.Same.tupS s5 hsq
          have et : (gs.take (i' + 1)).filter lnz = (gs.take i').filter lnz ++ [f].filter lnz := by
            rw [List.take_succ, hf, List.filter_append]
            rfl
          have l3 := hF3.len
          have l4 : ((gs.take i').filter lnz).length ≤ 2001 := Nat.le_trans (List.length_filter_le ..) (Nat.le_trans (by rw [List.length_take]; exact Nat.min_le_right ..) lg)
          rw [et]
          refine ⟨rfl, .ref a, rfl, 1, rfl, a, vns f, -1, vn (f.getLast fn), rfl, rfl, sa, by rw [ef]; exact atI_last _ _, rfl, _, rfl, ?_⟩
          show (if (!decide (vn (f.getLast fn) = V.int 0)) = true then _ else _)
          refine ite2 (fun z => ?_) (fun z => ?_)
          · have z0 : lnz f = true := by
              unfold lnz
              rw [ez]
              refine decide_eq_true fun e => ?_
              rw [e] at z
              exact absurd (show (!decide (vn (0 : El q) = V.int 0)) = true from z) (by rw [decide_eq_true (p := vn (0 : El q) = V.int 0) vn_zero]; decide)
            refine ⟨.ref a, rfl, acc3, hDv, small9 (by omega), same_upd s5 nD, _, upd_same, ?_⟩
            rw [List.filter_cons_of_pos z0]
            exact FsAt.sq (fun a zs z => sqT_upd hDv z) (hF3.snoc sa)
          · have z0 : ¬ lnz f = true := fun e => by
              unfold lnz at e
              rw [ez] at e
              exact z (by rw [decide_eq_false (p := vn (f.getLast fn) = V.int 0) (fun h => (of_decide_eq_true e) (vn_inj (h.trans vn_zero.symm)))]; rfl)
            rw [List.filter_cons_of_neg z0]
            exact ⟨s5, acc3, hDv, by rw [List.filter_nil, List.append_nil]; exact hF3⟩
        · obtain ⟨s5, acc3, hDv, hF3⟩ := hp
          rw [List.take_of_length_le (by omega)] at hF3
          have hL3 := s5 _ _ hL2
          have l3 := hF3.len
          have l2 := hF.len
          have l4 : (gs.filter lnz).length ≤ 2001 := Nat.le_trans (List.length_filter_le ..) lg
          refine ⟨L, D, ws, acc3, rfl, rfl, hL3, hDv, Nat.le_of_lt (small9 (by have : q ^ i ≤ q ^ i * q := Nat.le_mul_of_pos_right _ q0; omega)), same_upd (s3.trans (s4.trans s5)) hL0, G, acc, ws ++ acc3, _, _, _, _, rfl, ?_, ?_, upd_same, ?_, gL⟩
          · rw [upd_ne gL]
            exact s5 _ _ hG
          · exact FsAt.sq (fun a zs z => sqT_upd hL3 z) (hFA.kept s5)
          · rw [eb, hgs]
            exact FsAt.sq (fun a zs z => sqT_upd hL3 z) (FsAt.cat (hF.kept (s4.trans s5)) hF3)
    · obtain ⟨s3, h, us, ws, y4, y5, y6, y7, rfl, hh, hU, hL, hF, hn⟩ := hW
      refine ⟨.ref L, rfl, L, ws, _, rfl, .inl (.inl hL), fs_dp hF, alike_fs _, sortable_fs (fun f hf => (bdl_bend hf).1.2), (fun d hd => by
        obtain ⟨f, _, rfl⟩ := List.mem_map.mp hd
        exact depth_tpd f), fun ys p hp hk => ?_⟩
      rw [← bds_map] at hk
      exact want p ys _ (s3.trans (same_new hp)) upd_same ((dpAll_fs hk).kept (same_new hp))
end
end K13
set_option Elab.async false
set_option linter.all false
set_option maxRecDepth 100000
set_option maxHeartbeats 2000000
set_option pp.maxSteps 3000
namespace K13
open PySem PySem.Spec PyProof.Rows L2 BP Fld
section
variable {P : Program} {w : World} {K : PySem.W.Frag} {mg : Str → Option Value} {base : Heap}
theorem ok_lbh {f fLBE : Addr} {fd fdLBE : FuncData} (F : Fun K "_law_behind" "_law_behind" sLBehind f fd) (LBE : BP.Can P w K mg base "_law_bends" 1 pLBends (spBut K) fLBE fdLBE) (m_range : mg "range" = none) (m_tuple : mg "tuple" = none) : FnOk P w K mg base CX0 2 f fd pLBehind (spBhd K) := by
  refine F.ok scLBehind (fun vs H Q E h => ?_) (fun cdv A outer s H vs Q E hr h => ?_)
  · obtain ⟨q, _, c, x, n, rfl, _⟩ := h
    rfl
  · obtain ⟨q, FF, c, x, n, rfl, hP, ok, l190, hn, want⟩ := h
    refine ⟨_, (pss_cons (ps_asg (pv 1) (pg_tup rfl (pgs_cons (pg_name (i := 3) scLBehind.nd rfl (.inl rfl)) (pgs_cons (pg_name (i := 4) scLBehind.nd rfl (.inr rfl)) (pgs_cons (pg_name (i := 5) scLBehind.nd rfl (.inr rfl)) (pgs_cons (pg_name (i := 6) scLBehind.nd rfl (.inr rfl)) pgs_nil))))))
      (pss_cons (ps_if (pt_cmpR op_eq (pv 3) pe_str (nomark _)) (pss_one (ps_ret (pe_tupleOf rfl m_tuple (pe_lc (own := [("_law_bend", 8)]) (te := tTup (tCons (tC (V.str "straight")) (tCons (tVar 4) (tCons (tOp (rCatA K) (tVar 5) (tTup (tCons (tVar 8) tNil))) (tCons (tVar 6) tNil))))) (g := gName 8) (tt := tYes) rfl scLBehind.nd (pi_list (pe_call LBE.ok hr (by rfl) LBE.g LBE.kp LBE.b .nil pass0 (pa_cons (pv 0) (pa_cons (pv 2) pa_nil)))) (blkOk_by (N := nLBehind) (sc := defScope sLBehind) (by decide +kernel)) (fun _ _ _ _ _ => (pg_name (i := 8) scLBehind.nd rfl (.inl rfl))) (fun _ _ _ _ _ => pts_nil) (fun _ _ _ _ _ => (pe_tup (pa_cons pe_str (pa_cons (pv 4) (pa_cons (pe_op op_catA (pv 5) (pe_tup (pa_cons (pv 8) pa_nil))) (pa_cons (pv 6) pa_nil)))))))))) pss_nil)
      (pss_cons (ps_if (pt_cmpR (op_eqE (Nat.lt_of_le_of_lt (Nat.le_add_right _ 64) hr.units)) (pv 5) (pe_tup pa_nil) (nomark _)) (pss_one (ps_ret (pe_tupleOf rfl m_tuple (pe_lc (own := [("_law_number", 7)]) (g := gName 7) (tt := tYes) rfl scLBehind.nd (pi_range1 rfl m_range (pa_cons (pe_op op_add (pv 0) pe_int) pa_nil)) (blkOk_by (N := nLBehind) (sc := defScope sLBehind) (by decide +kernel)) (fun _ _ _ _ _ => (pg_name (i := 7) scLBehind.nd rfl (.inl rfl))) (fun _ _ _ _ _ => pts_nil) (fun _ _ _ _ _ => (pe_tup (pa_cons pe_str (pa_cons (pe_op op_sub (pv 7) pe_int) (pa_cons (pe_tup pa_nil) (pa_cons (pe_tup pa_nil) pa_nil)))))))))) pss_nil)
      (pss_one (ps_ret (pe_tupleOf rfl m_tuple (pe_lc (own := [("_law_number", 7)]) (te := tTup (tCons (tC (V.str "bent")) (tCons (tVar 4) (tCons (tVar 5) (tCons (tOp (rCatA K) (tVar 6) (tTup (tCons (tVar 7) tNil))) tNil))))) (g := gName 7) (tt := tYes) rfl scLBehind.nd (pi_range1 rfl m_range (pa_cons (pv 0) pa_nil)) (blkOk_by (N := nLBehind) (sc := defScope sLBehind) (by decide +kernel)) (fun _ _ _ _ _ => (pg_name (i := 7) scLBehind.nd rfl (.inl rfl))) (fun _ _ _ _ _ => pts_nil) (fun _ _ _ _ _ => (pe_tup (pa_cons pe_str (pa_cons (pv 4) (pa_cons (pv 5) (pa_cons (pe_op op_catA (pv 6) (pe_tup (pa_cons (pv 7) pa_nil))) pa_nil))))))))))))), ?_⟩
    obtain ⟨b, o, us, fs⟩ := x
    obtain ⟨bs, p, t, hc, hb, hF, ht⟩ := hP
    have hF : FsAt K H bs fs := hF
    have lb := hF.len
    have l190 : fs.length ≤ 190 := l190
    have q16 : q ≤ 16 := le16 FF.mem
    refine ⟨.ref c, rfl, c, _, rfl, hc, rfl, _, [_, _, _], rfl, _, [_, _], rfl, _, [_], rfl, _, [], rfl, rfl, ?_⟩
    cases b with
    | true =>
      obtain ⟨n5, qn⟩ := hn rfl
      have lu : us.length = fs.length := ok.bent rfl
      refine ⟨_, rfl, rfl, true, rfl, iteT ?_⟩
      show tThen (tLc _ (gName 8) tYes _ [8]) (kTup K) [some (.int q), some (.ref c), some (.int (n + 1 : Nat)), some (.str (sortS true)), some (ov o), some (.ref p), some (.ref t), none, none] H _
      refine ⟨.int q, rfl, .int (n + 1 : Nat), rfl, q, FF, n, rfl, n5, qn, fun T vs H2 s2 hT hG => ?_⟩
      have lgs := bds_len (q := q) n
      have eB : bhl ((true, o, us, fs) : Pl q) n = (bds q n).map fun f => (false, o, us, fs ++ [f]) := rfl
      rw [eB] at want
      generalize bds q n = gs at hG lgs want
      refine ⟨T, rfl, ⟨vs, .inl (.inl hT)⟩, fun D nD => lc_list (K := K) (a := T) (xs := vs) (fun i H3 => Same H2 H3 ∧ ∃ ws, H3 D = some (.lst ws) ∧ Pls K H3 ws ((gs.take i).map fun f => ((false, o, us, fs ++ [f]) : Pl q))) ⟨same_new nD, [], upd_same, trivial⟩ (fun i H3 _ hp => .inl (.inl (hp.1 _ _ hT))) (fun i x H3 hx hp => ?_) (fun H3 hp => ?_)⟩
      · obtain ⟨s3, ws, hD, hW⟩ := hp
        obtain ⟨a, f, rfl, hf, hsq⟩ := hG.get hx
        have lw := hW.len
        have lg := hG.len
        rw [List.length_map, List.length_take] at lw
        have s23 := s2.trans s3
        refine ⟨rfl, yes_kept ?_⟩
        refine ⟨ov o, rfl, .ref p, rfl, .ref a, rfl, (by show 1 ≤ sizeLine; decide), fun e0 n0 => ?_⟩
        have s0 := same_new (o := .tup [V.ref a]) n0
        refine catA (K := K) (xs := bs) (ys := [V.ref a]) (BP.Same.tupS (s23.trans s0) hb) (.inl (.inl upd_same)) (Nat.le_of_lt (small9 (by show bs.length + 1 ≤ 9000; omega))) fun e1 H4 s4 h1 => ⟨.ref t, rfl, (by show 4 ≤ sizeLine; decide), fun r nr => ⟨ws, ?_, small9 (by omega), same_upd (s3.trans (s0.trans (s4.trans (same_new nr)))) nD, ws ++ [.ref r], upd_same, ?_⟩⟩
        · exact (s0.trans (s4.trans (same_new nr))) _ _ hD
        · have s5 := s0.trans (s4.trans (same_new (o := .tup [V.str "straight", ov o, .ref e1, .ref t]) nr))
          rw [List.take_succ, hf, List.map_append]
          refine Pls.sq (fun a zs z => sqT_upd (s5 _ _ hD) z) ((hW.kept s5).snoc ⟨bs ++ [.ref a], e1, t, .inl (.inl upd_same), BP.Same.tupS (same_new nr) h1, FsAt.snoc (BP.Same.tupS (s3.trans s5) hsq) (hF.kept (s23.trans s5)), BP.Same.tupS (s23.trans s5) ht⟩)
      · obtain ⟨s3, ws, hD, hW⟩ := hp
        have lg := hG.len
        rw [List.take_of_length_le (by omega)] at hW
        refine .inl ⟨D, _, rfl, .inl (.inl hD), fun r nr => ?_⟩
        have s4 := same_new (o := .tup ws) nr
        exact want r ws _ (s2.trans (s3.trans s4)) (.inl (.inl upd_same)) (hW.kept s4)
    | false =>
      refine ⟨_, rfl, rfl, false, by rw [decide_eq_false (p := V.str (sortS false) = V.str "bent") (fun z => absurd (V.str.inj z) (by decide +kernel))], iteF ?_⟩
      show Ends.nx _ [some (.int q), some (.ref c), some (.int (n + 1 : Nat)), some (.str (sortS false)), some (ov o), some (.ref p), some (.ref t), none, none] H
      dsimp only []
      refine ⟨_, rfl, Nat.zero_le _, fun e ne => ⟨p, e, bs, rfl, rfl, BP.Same.tupS (same_new ne) hb, .inl (.inl upd_same), _, rfl, ?_⟩⟩
      have s1 := same_new (o := .tup ([] : List V)) ne
      generalize upd H e (.tup ([] : List V)) = H1 at s1 ⊢
      cases fs with
      | nil =>
        have b0 : bs = [] := List.length_eq_zero_iff.mp lb
        subst b0
        refine iteT ?_
        show tThen (tLc _ (gName 7) tYes _ [7]) (kTup K) [some (.int q), some (.ref c), some (.int (n + 1 : Nat)), some (.str (sortS false)), some (ov o), some (.ref p), some (.ref t), none, none] H1 _
        refine lcr_pls (K := K) (lo := 0) (n := q + 1) (fun i => ((true, opN q i, [], []) : Pl q)) (by omega) (fun k hk => ⟨.int q, rfl, _, _, rfl, rfl, _, rfl, by omega, by omega, ?_⟩) (fun x => rfl) (fun i H' Q' hi s2 hk => ?_) (fun r us H' s2 hr hu => want r us H' (s1.trans s2) hr hu)
        · rw [show ((q : Int) + 1).toNat = q + 1 by omega]
          exact hk
        · refine ⟨.int (0 + (i : Nat)), rfl, _, _, rfl, rfl, (by show 0 ≤ sizeLine; decide), fun e1 n1 => ⟨(by show 0 ≤ sizeLine; decide), fun e2 n2 => ⟨(by show 4 ≤ sizeLine; decide), fun r nr => hk r _ (((same_new n1).trans (same_new n2)).trans (same_new nr)) ⟨[], e1, e2, ?_, ?_, trivial, ?_⟩⟩⟩⟩
          · refine .inl (.inl ?_)
            have ei : ov (opN q i) = V.int (0 + (i : Int) - 1) := (opN_ov hi).trans (congrArg V.int (by omega))
            rw [upd_same]
            show _ = some (HO.tup [_, ov (opN q i), _, _])
            rw [ei]
            rfl
          · exact BP.Same.tupS ((same_new n2).trans (same_new nr)) (.inl (.inl upd_same))
          · exact BP.Same.tupS (same_new nr) (.inl (.inl upd_same))
      | cons f fs =>
        have b0 : bs.isEmpty = false := by
          cases bs with
          | nil => cases lb
          | cons _ _ => rfl
        rw [b0]
        refine iteF ?_
        show Ends.nx _ [some (.int q), some (.ref c), some (.int (n + 1 : Nat)), some (.str (sortS false)), some (ov o), some (.ref p), some (.ref t), none, none] H1
        dsimp only []
        show tThen (tLc _ (gName 7) tYes _ [7]) (kTup K) [some (.int q), some (.ref c), some (.int (n + 1 : Nat)), some (.str (sortS false)), some (ov o), some (.ref p), some (.ref t), none, none] H1 _
        have lu : us.length = (f :: fs).length - 1 := (ok.str rfl).1
        refine lcr_pls (K := K) (lo := 0) (n := q) (fun i => ((true, o, us ++ [elN q i], f :: fs) : Pl q)) (by omega) (fun k hk => ⟨.int q, rfl, _, rfl, by omega, by omega, by rw [Int.toNat_natCast]; exact hk⟩) (fun x => rfl) (fun i H' Q' hi s2 hk => ?_) (fun r us H' s2 hr hu => want r us H' (s1.trans s2) hr hu)
        refine ⟨ov o, rfl, .ref p, rfl, .ref t, rfl, .int (0 + (i : Nat)), rfl, (by show 1 ≤ sizeLine; decide), fun e0 n0 => ?_⟩
        have s0 := same_new (o := .tup [V.int (0 + (i : Nat))]) n0
        have s12 := s1.trans s2
        have lvu : (vns us).length = us.length := List.length_map ..
        refine catA (K := K) (xs := vns us) (ys := [V.int (0 + (i : Nat))]) (BP.Same.tupS (s12.trans s0) ht) (.inl (.inl upd_same)) (Nat.le_of_lt (small9 (by show (vns us).length + 1 ≤ 9000; omega))) fun e1 H4 s4 h1 => ⟨(by show 4 ≤ sizeLine; decide), fun r nr => hk r _ (s0.trans (s4.trans (same_new nr))) ⟨bs, p, e1, .inl (.inl upd_same), ?_, ?_, ?_⟩⟩
        · exact BP.Same.tupS (s12.trans (s0.trans (s4.trans (same_new nr)))) hb
        · exact hF.kept (s12.trans (s0.trans (s4.trans (same_new nr))))
        · refine BP.Same.tupS (same_new nr) ?_
          show SqT K H4 e1 (vns (us ++ [elN q i]))
          rw [show vns (us ++ [elN q i]) = vns us ++ [V.int (0 + (i : Int))] by
            unfold vns
            rw [List.map_append, Int.zero_add]
            exact congrArg (fun z => _ ++ [z]) (elN_vn hi)]
          exact h1
end
end K13
set_option Elab.async false
set_option linter.all false
set_option maxRecDepth 100000
set_option maxHeartbeats 2000000
set_option pp.maxSteps 3000
namespace BP
open PySem PySem.Spec PyProof.Rows L2 Fld
section
variable {q : Nat} [FF : IsF q]
/-- what leads from a place to one behind it -/
def pcB : Pl q → Sta q
  | (false, _, _, fs) => ⟨[(none, fs.getLast?.getD [])], same⟩
  | (true, o, us, _) => ⟨[], tO (match us.getLast? with
    | some t => some t
    | none => o)⟩
theorem pcB_mul {y : Pl q} (oy : PO y) (ny : Nr y) : mulz (plZ (ahP y)) (pcB y) = plZ y := by
  have oa := ok_ah oy ny
  obtain ⟨b, o, us, fs⟩ := y
  cases b with
  | false =>
    have nf : fs ≠ [] := ny.resolve_left (fun z => by cases z)
    rcases List.eq_nil_or_concat fs with e | ⟨gs, f, e⟩
    · exact absurd e nf
    rw [List.concat_eq_append] at e
    subst e
    have lu : us.length = (gs ++ [f]).length - 1 := (oy.str rfl).1
    rw [List.length_append, List.length_singleton, Nat.add_sub_cancel] at lu
    have ea : ahP ((false, o, us, gs ++ [f]) : Pl q) = (true, o, us, gs) := by
      show (true, ahO false o (gs ++ [f]), us, (gs ++ [f]).dropLast) = _
      rw [List.dropLast_concat]
      rfl
    rw [ea] at oa ⊢
    have hf : IsB f := (oy.fB f (by simp)).1
    have hh : plT ((true, o, us, gs) : Pl q) ≠ none ∨ (plZ ((true, o, us, gs) : Pl q)).st = [] := by
      rcases bent_parts oa rfl with h | ⟨_, t, e, _⟩
      · exact .inr h.1
      · exact .inl (by rw [e]; intro z; cases z)
    have ep : pcB ((false, o, us, gs ++ [f]) : Pl q) = ⟨[(none, f)], same⟩ := by
      show (⟨[(none, (gs ++ [f]).getLast?.getD [])], same⟩ : Sta q) = _
      rw [List.getLast?_concat]
      rfl
    rw [ep]
    show act (put (⟨(plZ ((true, o, us, gs) : Pl q)).st, tO (plT ((true, o, us, gs) : Pl q))⟩ : Sta q) f) (.mat same) = _
    rw [put_turn hf hh]
    show (⟨(plT ((true, o, us, gs) : Pl q), f) :: (plZ ((true, o, us, gs) : Pl q)).st, thn same same⟩ : Sta q) = _
    rw [same_thn]
    have e1 := mkS_snoc (o := o) (us := us) (fs := gs ++ [f]) (i := gs.length) (f := f) (by simp) (by omega)
    rw [List.take_of_length_le (by simp), List.take_left] at e1
    show _ = (⟨mkS o us (gs ++ [f]), tO none⟩ : Sta q)
    rw [e1, plT_tI oa]
    rfl
  | true =>
    have lu : us.length = fs.length := oy.bent rfl
    have el : (plZ ((true, o, us, fs) : Pl q)).last = (pcB ((true, o, us, fs) : Pl q)).last := rfl
    have es : (plZ (ahP ((true, o, us, fs) : Pl q))).st = (plZ ((true, o, us, fs) : Pl q)).st := by
      show mkS (ahO true o fs) us.dropLast fs = mkS o us fs
      rw [mk_cut lu]
      by_cases f0 : fs = []
      · subst f0
        rw [mkS_nil, mkS_nil]
      · unfold ahO
        rw [if_neg (fun z => f0 z.2)]
    have e2 : mulz (plZ (ahP ((true, o, us, fs) : Pl q))) (pcB ((true, o, us, fs) : Pl q)) = ⟨(plZ (ahP ((true, o, us, fs) : Pl q))).st, thn same (pcB ((true, o, us, fs) : Pl q)).last⟩ := rfl
    rw [e2, same_thn, es, ← el]
theorem pcB_fit {y : Pl q} (oy : PO y) (ny : Nr y) : Fit (pcB y) ∧ (pcB y).st.length ≤ 1 := by
  obtain ⟨b, o, us, fs⟩ := y
  cases b with
  | false =>
    have nf : fs ≠ [] := ny.resolve_left (fun z => by cases z)
    rcases List.eq_nil_or_concat fs with e | ⟨gs, f, e⟩
    · exact absurd e nf
    rw [List.concat_eq_append] at e
    subst e
    have ep : pcB ((false, o, us, gs ++ [f]) : Pl q) = ⟨[(none, f)], same⟩ := by
      show (⟨[(none, (gs ++ [f]).getLast?.getD [])], same⟩ : Sta q) = _
      rw [List.getLast?_concat]
      rfl
    rw [ep]
    obtain ⟨h1, h2⟩ := oy.fB f (by simp)
    exact ⟨⟨⟨⟨h1, (fun h => absurd rfl h), trivial⟩, det_same⟩, (fun x h => by rw [List.mem_singleton.mp h]; exact h2), by show 1 ≤ 200; decide⟩, Nat.le_refl _⟩
  | true => exact ⟨⟨⟨trivial, det_tO _⟩, (fun x h => nomatch h), Nat.zero_le _⟩, Nat.zero_le _⟩
theorem mv_same1 : mv (same : Mat q) = [V.int 1, .int 0, .int 0, .int 0, .int 1, .int 0] := by
  show [vn (1 : El q), vn (0 : El q), vn 0, vn 0, vn 1, vn 0] = _
  rw [vn_one, vn_zero]
theorem mv_turn1 (t : El q) : mv (turn t) = [V.int 0, .int 1, .int 0, .int 1, vn t, .int 0] := by
  show [vn (0 : El q), vn (1 : El q), vn 0, vn 1, vn t, vn 0] = _
  rw [vn_one, vn_zero]
end
def spLgo (K : PySem.W.Frag) : Sp := fun vs H Q _ => ∃ (q : Nat) (_ : IsF q) (c d : Addr) (x y : Pl q), vs = [.int q, .ref c, .ref d] ∧ PA K H c x ∧ PO x ∧ PA K H d y ∧ PO y ∧ Nr y ∧ ahP y = x ∧ x.2.2.2.length ≤ 60 ∧ ∀ H', Same H H' → Q (.bl true) H'
end BP
namespace K13
open PySem PySem.Spec PyProof.Rows L2 BP Fld
section
variable {P : Program} {w : World} {K : PySem.W.Frag} {mg : Str → Option Value} {base : Heap}
theorem ok_lgo {f fPOF fPRD fSOP : Addr} {fd fdPOF fdPRD fdSOP : FuncData} (F : Fun K "_law_goes_on" "_law_goes_on" sLGoesOn f fd) (POF : BP.Can P w K mg base "place_of" 8 pPlaceOf (spPBS K) fPOF fdPOF) (PRD : BP.Can P w K mg base "product" 10 pProduct (spProd K) fPRD fdPRD) (SOP : BP.Can P w K mg base "step_of_place" 8 pStepOfPlace (spSoP K) fSOP fdSOP) (m_repr : mg "repr" = none) : GFn P w K mg base 11 f fd pLGoesOn (spLgo K) := by
  refine gok F scLGoesOn (fun vs H Q E h => ?_) (fun cdv A outer s H vs Q E hgd hr h => ?_)
  · obtain ⟨q, _, c, d, x, y, rfl, _⟩ := h
    rfl
  · obtain ⟨q, FF, c, d, x, y, rfl, hc, ox, hd, oy, ny, ea, lx, want⟩ := h
    refine ⟨_, (pss_cons (ps_if (pt_cmpR op_eq (pe_ix ix_tup (pv 2) pe_int (fun _ _ => rfl)) pe_str (nomark _)) (pss_one (ps_set (i := 3) scLGoesOn.nd rfl (.inl rfl) (pe_tup (pa_cons (pe_un un_neg pe_int) (pa_cons (pe_tup (pa_cons (pe_ix ix_tup (pe_ix ix_tup (pv 2) pe_int (fun _ _ => rfl)) (pe_un un_neg pe_int) (fun _ _ => rfl)) pa_nil)) (pa_cons (pe_tup pa_nil) (pa_cons (pe_tup (pa_cons pe_int (pa_cons pe_int (pa_cons pe_int (pa_cons pe_int (pa_cons pe_int (pa_cons pe_int pa_nil))))))) pa_nil))))))) (pss_one (ps_if (PW.pt (pw_and (pt_cmpR (op_eqE (Nat.lt_of_le_of_lt (Nat.le_add_right _ 64) hr.units)) (pe_ix ix_tup (pv 2) pe_int (fun _ _ => rfl)) (pe_tup pa_nil) (nomark _)) (pw_and1 (pt_cmpR op_lt (pe_ix ix_tup (pv 2) pe_int (fun _ _ => rfl)) pe_int (nomark _))))) (pss_one (ps_set (i := 3) scLGoesOn.nd rfl (.inl rfl) (pe_tup (pa_cons (pe_un un_neg pe_int) (pa_cons (pe_tup pa_nil) (pa_cons (pe_tup pa_nil) (pa_cons (pe_tup (pa_cons pe_int (pa_cons pe_int (pa_cons pe_int (pa_cons pe_int (pa_cons pe_int (pa_cons pe_int pa_nil))))))) pa_nil))))))) (pss_one (ps_set (i := 3) scLGoesOn.nd rfl (.inl rfl) (pe_tup (pa_cons (pe_un un_neg pe_int) (pa_cons (pe_tup pa_nil) (pa_cons (pe_tup pa_nil) (pa_cons (pe_tup (pa_cons pe_int (pa_cons pe_int (pa_cons pe_int (pa_cons pe_int (pa_cons (pe_ifExp (pt_cmpR (op_eqE (Nat.lt_of_le_of_lt (Nat.le_add_right _ 64) hr.units)) (pe_ix ix_tup (pv 2) pe_int (fun _ _ => rfl)) (pe_tup pa_nil) (nomark _)) (pe_ix ix_tup (pv 2) pe_int (fun _ _ => rfl)) (pe_ix ix_tup (pe_ix ix_tup (pv 2) pe_int (fun _ _ => rfl)) (pe_un un_neg pe_int) (fun _ _ => rfl))) (pa_cons pe_int pa_nil))))))) pa_nil))))))))))
      (pss_one (ps_ret (pe_cmpR op_eq (pe_callB (call_repr_data hgd hr.units) (by rfl) m_repr (by decide +kernel) (pa_cons (pe_call POF.ok (hr.mono (show 8 ≤ 10 by decide)) (by rfl) POF.g POF.kp POF.b .nil pass0 (pa_cons (pv 0) (pa_cons (pe_call PRD.ok hr (by rfl) PRD.g PRD.kp PRD.b .nil pass0 (pa_cons (pv 0) (pa_cons (pe_call SOP.ok (hr.mono (show 8 ≤ 10 by decide)) (by rfl) SOP.g SOP.kp SOP.b .nil pass0 (pa_cons (pv 0) (pa_cons (pv 1) pa_nil))) (pa_cons (pv 3) pa_nil)))) (pa_cons (pe_ix ix_tup (pv 2) pe_int (fun _ _ => rfl)) pa_nil)))) pa_nil)) (pe_callB (call_repr_data hgd hr.units) (by rfl) m_repr (by decide +kernel) (pa_cons (pv 2) pa_nil)) (nomark _))))), ?_⟩
    obtain ⟨fz, lz⟩ := pcB_fit oy ny
    have em := pcB_mul oy ny
    rw [ea] at em
    have fx := plZ_fit ox
    have fb : Fit (plZ y) := plZ_fit oy
    have eb : zPl y.1 (plZ y) = y := near_back oy
    have hd0 : ∀ {H' : Hp}, PA K H' d y → ∃ v1 v2 v3, SqT K H' d [.str (sortS y.1), v1, v2, v3] := fun ⟨bs, a, t, h, _⟩ => ⟨_, _, _, h⟩
    refine tSeq_by (fun (σ' : L2.St) (H' : Hp) => Same H H' ∧ ∃ r, StepAt K H' r (pcB y) ∧ σ' = [some (.int q), some (.ref c), some (.ref d), some (.ref r)]) (fun σ' H1 hI => ?_) (fun nx kx => ?_)
    rotate_left
    · obtain ⟨b, o, us, fs⟩ := y
      obtain ⟨bs, p, t, h1, h2, h3, h4⟩ := hd
      have h3 : FsAt K H bs fs := h3
      have lb := h3.len
      refine ⟨.ref d, rfl, d, _, 0, _, rfl, rfl, h1, rfl, rfl, _, rfl, ?_⟩
      cases b with
      | false =>
        have nf : fs ≠ [] := ny.resolve_left (fun z => by cases z)
        rcases List.eq_nil_or_concat fs with e | ⟨gs, f, e⟩
        · exact absurd e nf
        rw [List.concat_eq_append] at e
        subst e
        have ep : pcB ((false, o, us, gs ++ [f]) : Pl q) = ⟨[(none, f)], same⟩ := by
          show (⟨[(none, (gs ++ [f]).getLast?.getD [])], same⟩ : Sta q) = _
          rw [List.getLast?_concat]
          rfl
        rw [List.length_append, List.length_singleton] at lb
        obtain ⟨v, gv⟩ : ∃ v, bs[gs.length]? = some v := ⟨_, List.getElem?_eq_getElem (by omega)⟩
        obtain ⟨a, f', rfl, hf', hsq⟩ := h3.get gv
        have : f' = f := by
          rw [List.getElem?_append_right (Nat.le_refl _), Nat.sub_self] at hf'
          exact (Option.some.inj hf').symm
        subst this
        have ga : atI bs (-1) = some (.ref a) := by
          have := atI_back (xs := bs) (i := 0) (v := .ref a) (by omega) (by rw [lb]; exact gv)
          exact this
        refine iteT ⟨1, rfl, .ref d, rfl, d, _, 2, .ref p, rfl, rfl, h1, rfl, 1, rfl, p, bs, -1, .ref a, rfl, rfl, h2, ga, (by show 1 ≤ sizeLine; decide), fun e1 n1 => ⟨Nat.zero_le _, fun e2 n2 => ⟨(by show 6 ≤ sizeLine; decide), fun e3 n3 => ⟨(by show 4 ≤ sizeLine; decide), fun r nr => ?_⟩⟩⟩⟩
        have t1 := same_new (o := .tup [V.ref a]) n1
        have t2 := same_new (o := .tup ([] : List V)) n2
        have t3 := same_new (o := .tup [V.int 1, V.int 0, V.int 0, V.int 0, V.int 1, V.int 0]) n3
        have t4 := same_new (o := .tup [V.int (-1), V.ref e1, V.ref e2, V.ref e3]) nr
        have tt := t1.trans (t2.trans (t3.trans t4))
        refine kx _ _ ⟨tt, r, ?_, rfl⟩
        rw [ep]
        exact step_of_parts (o := none) (bs := [.ref a]) (us := []) (fs := [f']) (.inl (.inl upd_same)) (.inl (.inl ((t2.trans (t3.trans t4)) _ _ upd_same))) ⟨⟨a, rfl, BP.Same.tupS tt hsq⟩, trivial⟩ (.inl (.inl ((t3.trans t4) _ _ upd_same))) (by rw [mv_same1]; exact .inl (.inl (t4 _ _ upd_same))) (.inl rfl)
      | true =>
        rw [decide_eq_false (p := V.str (sortS true) = V.str "straight") (fun z => absurd (V.str.inj z) (by decide +kernel))]
        refine iteF ?_
        have lu : us.length = fs.length := oy.bent rfl
        refine ⟨.ref d, rfl, d, _, 2, .ref p, rfl, rfl, h1, rfl, Nat.zero_le _, fun e0 n0 => ⟨p, e0, bs, rfl, rfl, BP.Same.tupS (same_new n0) h2, .inl (.inl upd_same), _, rfl, ?_⟩⟩
        have s0 := same_new (o := .tup ([] : List V)) n0
        have h10 := BP.Same.tupS s0 h1
        have h20 := BP.Same.tupS s0 h2
        have h40 := BP.Same.tupS s0 h4
        generalize upd H e0 (.tup ([] : List V)) = H0 at s0 h10 h20 h40 ⊢
        have fin0 : pcB ((true, o, us, fs) : Pl q) = ⟨[], same⟩ → ∀ (r e1 e2 e3 : Addr), H0 e1 = none → (upd H0 e1 (.tup [])) e2 = none → (upd (upd H0 e1 (.tup [])) e2 (.tup [])) e3 = none → (upd (upd (upd H0 e1 (.tup [])) e2 (.tup [])) e3 (.tup [V.int 1, V.int 0, V.int 0, V.int 0, V.int 1, V.int 0])) r = none → nx [some (.int q), some (.ref c), some (.ref d), some (.ref r)] (upd (upd (upd (upd H0 e1 (.tup [])) e2 (.tup [])) e3 (.tup [V.int 1, V.int 0, V.int 0, V.int 0, V.int 1, V.int 0])) r (.tup [V.int (-1), .ref e1, .ref e2, .ref e3])) := fun ep r e1 e2 e3 n1 n2 n3 nr => by
          have t1 := same_new (o := .tup ([] : List V)) n1
          have t2 := same_new (o := .tup ([] : List V)) n2
          have t3 := same_new (o := .tup [V.int 1, V.int 0, V.int 0, V.int 0, V.int 1, V.int 0]) n3
          have t4 := same_new (o := .tup [V.int (-1), V.ref e1, V.ref e2, V.ref e3]) nr
          have tt := t1.trans (t2.trans (t3.trans t4))
          refine kx _ _ ⟨s0.trans tt, r, ?_, rfl⟩
          rw [ep]
          exact ⟨_, [], [], _, _, _, .inl (.inl upd_same), .inl (.inl ((t2.trans (t3.trans t4)) _ _ upd_same)), .inl (.inl ((t3.trans t4) _ _ upd_same)), (by rw [mv_same1]; exact .inl (.inl (t4 _ _ upd_same))), .inl ⟨rfl, rfl, rfl, rfl⟩⟩
        have fin1 : ∀ (t : El q), pcB ((true, o, us, fs) : Pl q) = ⟨[], turn t⟩ → ∀ (H1 : Hp) (r e1 e2 e3 : Addr), Same H0 H1 → (upd (upd H0 e1 (.tup [])) e2 (.tup [])) e2 = some (.tup []) → Same (upd (upd H0 e1 (.tup [])) e2 (.tup [])) H1 → H0 e1 = none → (upd H0 e1 (.tup [])) e2 = none → H1 e3 = none → (upd H1 e3 (.tup [V.int 0, V.int 1, V.int 0, V.int 1, vn t, V.int 0])) r = none → nx [some (.int q), some (.ref c), some (.ref d), some (.ref r)] (upd (upd H1 e3 (.tup [V.int 0, V.int 1, V.int 0, V.int 1, vn t, V.int 0])) r (.tup [V.int (-1), .ref e1, .ref e2, .ref e3])) := fun t ep H1 r e1 e2 e3 s1 e22 s12 n1 n2 n3 nr => by
          have t2 := same_new (o := .tup ([] : List V)) n2
          have t3 := same_new (o := .tup [V.int 0, V.int 1, V.int 0, V.int 1, vn t, V.int 0]) n3
          have t4 := same_new (o := .tup [V.int (-1), V.ref e1, V.ref e2, V.ref e3]) nr
          refine kx _ _ ⟨s0.trans (s1.trans (t3.trans t4)), r, ?_, rfl⟩
          rw [ep]
          exact ⟨_, [], [], _, _, _, .inl (.inl upd_same), .inl (.inl ((t3.trans t4) _ _ (s12 _ _ (t2 _ _ upd_same)))), .inl (.inl ((t3.trans t4) _ _ (s12 _ _ e22))), (by rw [mv_turn1]; exact .inl (.inl (t4 _ _ upd_same))), .inl ⟨rfl, rfl, rfl, rfl⟩⟩
        cases fs with
        | nil =>
          have b0 : bs = [] := List.length_eq_zero_iff.mp lb
          subst b0
          have u0 : us = [] := List.length_eq_zero_iff.mp lu
          subst u0
          refine iteT ⟨.ref d, rfl, d, _, 1, ov o, rfl, rfl, h10, rfl, ?_⟩
          cases o with
          | none =>
            refine ⟨_, _, rfl, rfl, _, rfl, iteT ?_⟩
            exact ⟨1, rfl, Nat.zero_le _, fun e1 n1 => ⟨Nat.zero_le _, fun e2 n2 => ⟨(by show 6 ≤ sizeLine; decide), fun e3 n3 => ⟨(by show 4 ≤ sizeLine; decide), fun r nr => fin0 rfl r e1 e2 e3 n1 n2 n3 nr⟩⟩⟩⟩
          | some t =>
            refine ⟨_, _, rfl, rfl, _, rfl, ?_⟩
            rw [decide_eq_false (p := ((t.val : Nat) : Int) < 0) (by omega)]
            refine iteF ?_
            refine ⟨1, rfl, Nat.zero_le _, fun e1 n1 => ⟨Nat.zero_le _, fun e2 n2 => ?_⟩⟩
            have t1 := same_new (o := .tup ([] : List V)) n1
            have t2 := same_new (o := .tup ([] : List V)) n2
            refine ⟨.ref d, rfl, d, _, 2, .ref p, rfl, rfl, BP.Same.tupS (t1.trans t2) h10, rfl, Nat.zero_le _, fun e4 n4 => ⟨p, e4, [], rfl, rfl, BP.Same.tupS (t1.trans (t2.trans (same_new n4))) h20, .inl (.inl upd_same), _, rfl, iteT ?_⟩⟩
            have t4 := same_new (o := .tup ([] : List V)) n4
            refine ⟨.ref d, rfl, d, _, 1, vn t, rfl, rfl, BP.Same.tupS (t1.trans (t2.trans t4)) h10, rfl, (by show 6 ≤ sizeLine; decide), fun e3 n3 => ⟨(by show 4 ≤ sizeLine; decide), fun r nr => ?_⟩⟩
            exact fin1 t rfl _ r e1 e2 e3 (t1.trans (t2.trans t4)) upd_same t4 n1 n2 n3 nr
        | cons g gs =>
          have b0 : bs.isEmpty = false := by
            cases bs with
            | nil => cases lb
            | cons _ _ => rfl
          rw [b0]
          refine iteF (iteF ?_)
          refine ⟨1, rfl, Nat.zero_le _, fun e1 n1 => ⟨Nat.zero_le _, fun e2 n2 => ?_⟩⟩
          have t1 := same_new (o := .tup ([] : List V)) n1
          have t2 := same_new (o := .tup ([] : List V)) n2
          refine ⟨.ref d, rfl, d, _, 2, .ref p, rfl, rfl, BP.Same.tupS (t1.trans t2) h10, rfl, Nat.zero_le _, fun e4 n4 => ⟨p, e4, bs, rfl, rfl, BP.Same.tupS (t1.trans (t2.trans (same_new n4))) h20, .inl (.inl upd_same), _, rfl, ?_⟩⟩
          have t4 := same_new (o := .tup ([] : List V)) n4
          rw [b0]
          refine iteF ?_
          rcases List.eq_nil_or_concat us with e | ⟨vs, x, e⟩
          · rw [e] at lu
            cases lu
          rw [List.concat_eq_append] at e
          subst e
          have gu : atI (vns (vs ++ [x])) (-1) = some (vn x) := by
            unfold vns
            rw [List.map_append]
            exact atI_last _ _
          have ep : pcB ((true, o, vs ++ [x], g :: gs) : Pl q) = ⟨[], turn x⟩ := by
            show (⟨[], tO (match (vs ++ [x]).getLast? with
              | some t => some t
              | none => o)⟩ : Sta q) = _
            rw [List.getLast?_concat]
            rfl
          refine ⟨.ref d, rfl, d, _, 3, .ref t, rfl, rfl, BP.Same.tupS (t1.trans (t2.trans t4)) h10, rfl, 1, rfl, t, _, -1, vn x, rfl, rfl, BP.Same.tupS (t1.trans (t2.trans t4)) h40, gu, (by show 6 ≤ sizeLine; decide), fun e3 n3 => ⟨(by show 4 ≤ sizeLine; decide), fun r nr => ?_⟩⟩
          exact fin1 x ep _ r e1 e2 e3 (t1.trans (t2.trans t4)) upd_same t4 n1 n2 n3 nr
    · obtain ⟨s1, r, hr1, rfl⟩ := hI
      have hc1 := hc.kept s1
      have hd1 := hd.kept s1
      dsimp only []
      refine ask_eq (D := pD y) (fun Q' kk => ?_) (fun H' s' => zd_pl rfl (hd1.kept s')) (sm_pa oy) (by decide) (by decide) (fun H' s' => want H' (s1.trans s'))
      obtain ⟨v1, v2, v3, hx⟩ := hd0 hd1
      refine ⟨.int q, rfl, .int q, rfl, .int q, rfl, .ref c, rfl, q, FF, c, x, rfl, hc1, ox, fun n H2 s2 hn => ⟨.ref r, rfl, q, FF, n, r, plZ x, pcB y, rfl, hn, fx, hr1.same s2, fz, fun u H3 s3 _ hu => ?_⟩⟩
      have hu : StepAt K H3 u (mulz (plZ x) (pcB y)) := hu
      rw [em] at hu
      refine ⟨.ref d, rfl, d, _, 0, .str (sortS y.1), rfl, rfl, BP.Same.tupS (s2.trans s3) hx, rfl, q, FF, u, plZ y, y.1, rfl, hu, fb, fun w H4 s4 hw => ?_⟩
      rw [eb] at hw
      exact kk w H4 (s2.trans (s3.trans s4)) (dp_pa hw)
end
end K13
set_option Elab.async false
set_option linter.all false
set_option maxRecDepth 100000
set_option maxHeartbeats 1000000
set_option pp.maxSteps 3000
namespace BP
open PySem PySem.Spec PyProof.Rows L2 Fld
theorem PA.sq {q : Nat} [IsF q] {K : PySem.W.Frag} {H H' : Hp} {c : Addr} {x : Pl q} (s : ∀ a xs, SqT K H a xs → SqT K H' a xs) (h : BP.PA K H c x) : BP.PA K H' c x := by
  obtain ⟨bs, p, t, h1, h2, h3, h4⟩ := h
  exact ⟨bs, p, t, s _ _ h1, s _ _ h2, h3.sq s, s _ _ h4⟩
theorem Sm.lst' {xs : List PyData} {w k : Nat} (h : SmAll xs w k) : Sm (.list xs) (w + 1) (k + 1) := by
  obtain ⟨h1, h2, h3, h4, h5⟩ := h
  refine ⟨by simp [PyData.canLay0, h1], by simp [PyData.showable, h2], by simp [PyData.intsShort, h3], ?_, ?_⟩
  · simp only [PyData.depth]
    omega
  · simp only [PyData.weight]
    omega
theorem Sm.num2 {n : Nat} (h : n < 2 ^ 24) : Sm (.int (n : Nat)) 40 0 := by
  have l5 : ((n : Nat) : Int).natAbs.log2 ≤ 24 := by
    rw [Int.natAbs_natCast]
    by_cases h0 : n = 0
    · rw [h0]
      decide
    · have := (Nat.log2_lt h0 (k := 24)).mpr h
      omega
  refine ⟨by simp [PyData.canLay0], ?_, ?_, by simp [PyData.depth], ?_⟩
  · simp only [PyData.showable]
    exact decide_eq_true (by omega)
  · simp only [PyData.intsShort]
    exact decide_eq_true (PyData.shown_int_le (by rw [Int.natAbs_natCast]; exact Nat.lt_of_lt_of_le h (by decide)))
  · simp only [PyData.weight]
    split <;> omega
theorem sm_nums {f : Nat → Nat} : ∀ {l : List Nat}, (∀ k ∈ l, f k < 2 ^ 24) → SmAll (l.map fun k => PyData.int (f k : Nat)) (l.length * 41) 0
  | [], _ => SmAll.nil
  | k :: l, h => by
    have ih := sm_nums (f := f) (l := l) fun j hj => h j (List.mem_cons_of_mem _ hj)
    refine (SmAll.cons (Sm.num2 (h k (List.mem_cons_self ..))) ih).more ?_ (Nat.le_refl _)
    rw [List.length_cons, Nat.succ_mul]
    omega
theorem dp_nums {K : PySem.W.Frag} {H : Hp} {f : Nat → Nat} : ∀ l : List Nat, DpAll K H (l.map fun k => V.int (f k : Nat)) (l.map fun k => PyData.int (f k : Nat))
  | [] => .nil
  | k :: l => .cons (.int _) (dp_nums l)
theorem mBh_le {q : Nat} {b e : Bool} {d : Nat} (h : q ≤ 16) (h6 : d ≤ 6) : mBh q b e d < 2 ^ 24 := by
  have p : q ^ (d - 1) ≤ 16 ^ 5 := Nat.le_trans (Nat.pow_le_pow_left h _) (Nat.pow_le_pow_right (by decide) (by omega))
  have p2 : (16 : Nat) ^ 5 < 2 ^ 24 := by decide
  unfold mBh
  cases b <;> cases e <;> simp <;> omega
theorem mBh_two {q : Nat} {b e : Bool} (h : q ≤ 16) : mBh q b e 2 ≤ 17 := by
  unfold mBh
  cases b <;> cases e <;> simp <;> omega
theorem mBh_one {q : Nat} {b e : Bool} {n : Nat} (h : 1 < q) (h1 : 1 ≤ n) : 0 < mBh q b e (n + 1) := by
  have p : q ^ 1 ≤ q ^ n := Nat.pow_le_pow_right (by omega) h1
  rw [Nat.pow_one] at p
  unfold mBh
  cases b <;> cases e <;> simp <;> omega
theorem bulk_two {q : Nat} [IsF q] {w : List (Pl q)} {m : Nat} (h : ∀ v ∈ w, PO v ∧ v.2.2.2.length ≤ m) (hm : m ≤ 24) (hw : w.length ≤ 2000) : (PyData.tuple [.tuple (w.map pD), .tuple (w.map pD)]).bulk ≤ 2 ^ 20 := by
  have z := bulk_pls (m := 24) (w := w) fun v hv => ⟨(h v hv).1, by have := (h v hv).2; omega⟩
  have z2 : w.length * (9 * 24 + 13) ≤ 2000 * (9 * 24 + 13) := Nat.mul_le_mul_right _ hw
  simp only [PyData.bulk, PyData.bulkAll]
  omega
def spPkT (K : PySem.W.Frag) : Sp := fun vs H Q _ => ∃ (d c l : Addr) (xs : List V), vs = [.ref d, .ref l] ∧ Deck H d c ∧ SqT K H l xs ∧ 0 < xs.length ∧ xs.length < 1000000000 ∧ ∀ (x : V) (H' : Hp), x ∈ xs → But d c H H' → Deck H' d c → Q x H'
def spLaw (K : PySem.W.Frag) : Sp := fun vs H Q _ => ∃ (a : Addr) (ns : List Int), vs = [.ref a] ∧ SqL K H a (ns.map V.int) ∧ ns.length ≤ 63 ∧ ∀ H', Q (.bl true) H'
end BP
namespace K13
open PySem PySem.Spec PyProof.Rows L2 BP Fld
section
variable {P : Program} {w : World} {K : PySem.W.Frag} {mg : Str → Option Value} {base : Heap}
theorem pk_tup {f fD : Addr} {fd fdD : FuncData} (F : Fun K "_law_pick" "_law_pick" sLPick f fd) (D : BP.Can P w K mg base "_law_draw" 1 pLDraw spDraw fD fdD) (ml : mg "len" = none) : FnOk P w K mg base CX0 2 f fd pLPick (spPkT K) := by
  refine F.ok scLPick (fun vs H Q E h => ?_) (fun cdv A outer s H vs Q E hr h => ?_)
  · obtain ⟨d, c, l, xs, rfl, _⟩ := h
    rfl
  · obtain ⟨d, c, l, xs, rfl, hk, hx, x0, x1, want⟩ := h
    refine ⟨_, pss_one (ps_ret (pe_ix ix_tup (pv 1) (pe_call D.ok hr (by rfl) D.g D.kp D.b .nil pass0 (pa_cons (pv 0) (pa_cons (pe_callB call_len_seq (by rfl) ml PySem.boot_len (pa_cons (pv 1) pa_nil)) pa_nil))) (fun _ _ => rfl))), ?_⟩
    refine ⟨.ref l, rfl, .ref d, rfl, .ref l, rfl, l, xs, rfl, .inr hx, d, c, xs.length, rfl, hk, x0, by omega, fun x H' hlt hb hk' => ?_⟩
    exact ⟨l, xs, x, xs[x], rfl, rfl, But.sqT hk hb _ _ hx, atI_nat (List.getElem?_eq_getElem hlt), want _ H' (List.getElem_mem hlt) hb hk'⟩
theorem ok_law {f fDK fSFD fDR fPKT fSPP fMBH fLMN fLBH fBHD fAHR fPOF fSOP fLAH : Addr} {fd fdDK fdSFD fdDR fdPKT fdSPP fdMBH fdLMN fdLBH fdBHD fdAHR fdPOF fdSOP fdLAH : FuncData} (F : Fun K "law" "law" sLaw f fd) (DK : BP.Can P w K mg base "_law_deck" 1 pLDeck (spDeck K) fDK fdDK) (SFD : BP.Can P w K mg base "_law_some_field" 3 pLSomeField spSF fSFD fdSFD) (DR : BP.Can P w K mg base "_law_draw" 1 pLDraw spDraw fDR fdDR) (PKT : BP.Can P w K mg base "_law_pick" 2 pLPick (spPkT K) fPKT fdPKT) (SPP : BP.Can P w K mg base "_law_some_place" 4 pLSomePlace (spSpw K) fSPP fdSPP) (MBH : BP.Can P w K mg base "many_behind" 8 pManyBehind (spMBh K) fMBH fdMBH) (LMN : BP.Can P w K mg base "_law_many" 1 pLMany (spLmn K) fLMN fdLMN) (LBH : BP.Can P w K mg base "_law_behind" 2 pLBehind (spBhd K) fLBH fdLBH) (BHD : BP.Can P w K mg base "behind" 8 pBehind (spBhd K) fBHD fdBHD) (AHR : BP.Can P w K mg base "ahead" 8 pAhead (spAhr K) fAHR fdAHR) (POF : BP.Can P w K mg base "place_of" 8 pPlaceOf (spPBS K) fPOF fdPOF) (SOP : BP.Can P w K mg base "step_of_place" 8 pStepOfPlace (spSoP K) fSOP fdSOP) (LAH : BP.Can P w K mg base "_law_ahead" 1 pLAhead (spLAh K) fLAH fdLAH) {fLAB fLGO : Addr} {fdLAB fdLGO : FuncData} (LAB : GFn P w K mg base 9 fLAB fdLAB pLAreBeside (spLab K)) (gLAB : mg "_law_are_beside" = some (.ref fLAB)) (kLAB : PySem.W.keepIn K (.ref fLAB) = true) (bLAB : Binds K fdLAB pLAreBeside []) (LGO : GFn P w K mg base 11 fLGO fdLGO pLGoesOn (spLgo K)) (gLGO : mg "_law_goes_on" = some (.ref fLGO)) (kLGO : PySem.W.keepIn K (.ref fLGO) = true) (bLGO : Binds K fdLGO pLGoesOn []) (kBHD : KBinds K fdBHD pBehind ["degree", "place", "q"] rv3 rv3) (kMBH : KBinds K fdMBH pManyBehind ["degree", "place", "q"] rv3 rv3) (m_repr : mg "repr" = none) (m_len : mg "len" = none) (m_range : mg "range" = none) (m_max : mg "max" = none) (m_set : mg "set" = none) : GFn P w K mg base 12 f fd pLaw (spLaw K) := by
  refine gok F scLaw (fun vs H Q E h => ?_) (fun cdv A outer s H vs Q E hgd hr h => ?_)
  · obtain ⟨a, ns, rfl, _⟩ := h
    rfl
  · obtain ⟨a, ns, rfl, hS, hl, want⟩ := h
    refine ⟨_, (pss_cons (ps_set (i := 1) scLaw.nd rfl (.inl rfl) (pe_call DK.ok (hr.mono (show 1 ≤ 11 by decide)) (by rfl) DK.g DK.kp DK.b .nil pass0 (pa_cons (pv 0) pa_nil)))
      (pss_cons (ps_asg (pe_tup (pa_cons (pe_call SFD.ok (hr.mono (show 3 ≤ 11 by decide)) (by rfl) SFD.g SFD.kp SFD.b .nil pass0 (pa_cons (pv 1) pa_nil)) (pa_cons (pe_tup (pa_cons pe_str (pa_cons (pe_un un_neg pe_int) (pa_cons (pe_tup pa_nil) (pa_cons (pe_tup pa_nil) pa_nil))))) (pa_cons pe_int pa_nil)))) (pg_tup rfl (pgs_cons (pg_name (i := 2) scLaw.nd rfl (.inr rfl)) (pgs_cons (pg_name (i := 3) scLaw.nd rfl (.inl rfl)) (pgs_cons (pg_name (i := 4) scLaw.nd rfl (.inr rfl)) pgs_nil)))))
      (pss_cons (ps_set (i := 5) scLaw.nd rfl (.inr rfl) (pe_call SPP.ok (hr.mono (show 4 ≤ 11 by decide)) (by rfl) SPP.g SPP.kp SPP.b .nil pass0 (pa_cons (pv 1) (pa_cons (pv 2) (pa_cons (pv 3) (pa_cons (pe_ifExp (pt_cmpR op_gt (pe_call DR.ok (hr.mono (show 1 ≤ 11 by decide)) (by rfl) DR.g DR.kp DR.b .nil pass0 (pa_cons (pv 1) (pa_cons pe_int pa_nil))) pe_int (nomark _)) (pe_call DR.ok (hr.mono (show 1 ≤ 11 by decide)) (by rfl) DR.g DR.kp DR.b .nil pass0 (pa_cons (pv 1) (pa_cons pe_int pa_nil))) (pe_op op_sub pe_int (pe_call DR.ok (hr.mono (show 1 ≤ 11 by decide)) (by rfl) DR.g DR.kp DR.b .nil pass0 (pa_cons (pv 1) (pa_cons pe_int pa_nil))))) pa_nil))))))
      (pss_cons (ps_if (pt_cmpR op_ne (pe_callB (call_repr_data hgd hr.units) (by rfl) m_repr (by decide +kernel) (pa_cons (pe_lc (own := [("_law_degree", 6)]) (g := gName 6) (tt := tYes) rfl scLaw.nd (pi_range2 rfl m_range (pa_cons pe_int (pa_cons pe_int pa_nil))) (blkOk_by (N := nLaw) (sc := defScope sLaw) (by decide +kernel)) (fun _ _ _ _ _ => (pg_name (i := 6) scLaw.nd rfl (.inl rfl))) (fun _ _ _ _ _ => pts_nil) (fun _ _ _ _ _ => (pe_call MBH.ok (hr.mono (show 8 ≤ 11 by decide)) (by rfl) MBH.g MBH.kp MBH.b .nil pass0 (pa_cons (pv 2) (pa_cons (pv 5) (pa_cons (pv 6) pa_nil)))))) pa_nil)) (pe_callB (call_repr_data hgd hr.units) (by rfl) m_repr (by decide +kernel) (pa_cons (pe_lc (own := [("_law_degree", 6)]) (g := gName 6) (tt := tYes) rfl scLaw.nd (pi_range2 rfl m_range (pa_cons pe_int (pa_cons pe_int pa_nil))) (blkOk_by (N := nLaw) (sc := defScope sLaw) (by decide +kernel)) (fun _ _ _ _ _ => (pg_name (i := 6) scLaw.nd rfl (.inl rfl))) (fun _ _ _ _ _ => pts_nil) (fun _ _ _ _ _ => (pe_call LMN.ok (hr.mono (show 1 ≤ 11 by decide)) (by rfl) LMN.g LMN.kp LMN.b .nil pass0 (pa_cons (pv 2) (pa_cons (pv 5) (pa_cons (pv 6) pa_nil)))))) pa_nil)) (nomark _)) (pss_one (ps_ret pe_bl)) pss_nil)
      (pss_cons (ps_if (pt_cmpR op_eq (pe_call DR.ok (hr.mono (show 1 ≤ 11 by decide)) (by rfl) DR.g DR.kp DR.b .nil pass0 (pa_cons (pv 1) (pa_cons pe_int pa_nil))) pe_int (nomark _)) (pss_one (ps_set (i := 4) scLaw.nd rfl (.inr rfl) pe_int)) pss_nil)
      (pss_cons (ps_set (i := 6) scLaw.nd rfl (.inl rfl) (pe_op op_add pe_int (pe_call DR.ok (hr.mono (show 1 ≤ 11 by decide)) (by rfl) DR.g DR.kp DR.b .nil pass0 (pa_cons (pv 1) (pa_cons pe_int pa_nil)))))
      (pss_cons (ps_set (i := 6) scLaw.nd rfl (.inl rfl) (pe_callB (cr_max rfl) (by rfl) m_max (by decide +kernel) (pa_cons (pe_lc (own := [("_law_near", 7)]) (g := gName 7) rfl scLaw.nd (pi_range2 rfl m_range (pa_cons pe_int (pa_cons (pe_op op_add (pv 6) pe_int) pa_nil))) (blkOk_by (N := nLaw) (sc := defScope sLaw) (by decide +kernel)) (fun _ _ _ _ _ => (pg_name (i := 7) scLaw.nd rfl (.inl rfl))) (fun _ _ _ _ _ => (pts_one (pt_cmpR op_le (pe_call LMN.ok (hr.mono (show 1 ≤ 11 by decide)) (by rfl) LMN.g LMN.kp LMN.b .nil pass0 (pa_cons (pv 2) (pa_cons (pv 5) (pa_cons (pv 7) pa_nil)))) (pv 4) (nomark _)))) (fun _ _ _ _ _ => (pv 7))) pa_nil)))
      (pss_cons (ps_set (i := 8) scLaw.nd rfl (.inl rfl) (pe_call LBH.ok (hr.mono (show 2 ≤ 11 by decide)) (by rfl) LBH.g LBH.kp LBH.b .nil pass0 (pa_cons (pv 2) (pa_cons (pv 5) (pa_cons (pv 6) pa_nil)))))
      (pss_cons (ps_if (pt_cmpR op_ne (pe_callB (call_repr_data hgd hr.units) (by rfl) m_repr (by decide +kernel) (pa_cons (pe_tup (pa_cons (pe_call BHD.ok (hr.mono (show 8 ≤ 11 by decide)) (by rfl) BHD.g BHD.kp BHD.b .nil pass0 (pa_cons (pv 2) (pa_cons (pv 5) (pa_cons (pv 6) pa_nil)))) (pa_cons (pe_callK0 BHD.ok (hr.mono (show 8 ≤ 11 by decide)) (by rfl) BHD.g BHD.kp kBHD pass0 (pk_cons (pv 6) (pk_cons (pv 5) (pk_cons (pv 2) pk_nil)))) pa_nil))) pa_nil)) (pe_callB (call_repr_data hgd hr.units) (by rfl) m_repr (by decide +kernel) (pa_cons (pe_tup (pa_cons (pv 8) (pa_cons (pv 8) pa_nil))) pa_nil)) (nomark _)) (pss_one (ps_ret pe_bl)) pss_nil)
      (pss_cons (ps_if (PW.pt (pw_or (pt_cmpR op_ne (pe_callB SkE.call_repr_int (by rfl) m_repr (by decide +kernel) (pa_cons (pe_callK0 MBH.ok (hr.mono (show 8 ≤ 11 by decide)) (by rfl) MBH.g MBH.kp kMBH pass0 (pk_cons (pv 6) (pk_cons (pv 5) (pk_cons (pv 2) pk_nil)))) pa_nil)) (pe_callB SkE.call_repr_int (by rfl) m_repr (by decide +kernel) (pa_cons (pe_callB call_len_seq (by rfl) m_len PySem.boot_len (pa_cons (pv 8) pa_nil)) pa_nil)) (nomark _)) (pw_or1 (pt_cmpR op_ne (pe_lenSetN (by rfl) hr.units (by rfl) m_len (by rfl) m_set (pv 8)) (pe_callB call_len_seq (by rfl) m_len PySem.boot_len (pa_cons (pv 8) pa_nil)) (nomark _))))) (pss_one (ps_ret pe_bl)) pss_nil)
      (pss_cons (ps_for PassesOwn.never rfl (pi_range1 rfl m_range (pa_cons pe_int pa_nil)) (pg_name (i := 9) scLaw.nd rfl (.inl rfl)) (pss_one (ps_if (pt_not (pt_val (pe_callG LAB hgd (hr.mono (show 9 ≤ 11 by decide)) (by rfl) gLAB kLAB bLAB pass0 (pa_cons (pv 2) (pa_cons (pv 5) (pa_cons (pv 8) (pa_cons (pe_call DR.ok (hr.mono (show 1 ≤ 11 by decide)) (by rfl) DR.g DR.kp DR.b .nil pass0 (pa_cons (pv 1) (pa_cons (pe_callB call_len_seq (by rfl) m_len PySem.boot_len (pa_cons (pv 8) pa_nil)) pa_nil))) pa_nil))))))) (pss_one (ps_ret pe_bl)) pss_nil)))
      (pss_cons (ps_if (pt_cmpR op_gt (pe_callB call_len_seq (by rfl) m_len PySem.boot_len (pa_cons (pe_ix ix_tup (pv 5) pe_int (fun _ _ => rfl)) pa_nil)) pe_int (nomark _)) (pss_one (ps_ret pe_bl)) pss_nil)
      (pss_cons (ps_if (pt_cmpR (op_neD hr.units) (pv 5) (pv 3) (nomark _)) (pss_cons (ps_set (i := 7) scLaw.nd rfl (.inl rfl) (pe_call AHR.ok (hr.mono (show 8 ≤ 11 by decide)) (by rfl) AHR.g AHR.kp AHR.b .nil pass0 (pa_cons (pv 2) (pa_cons (pv 5) pa_nil))))
        (pss_one (ps_if (pt_cmpR op_ne (pe_callB (call_repr_data hgd hr.units) (by rfl) m_repr (by decide +kernel) (pa_cons (pe_tup (pa_cons (pv 7) (pa_cons (pe_call POF.ok (hr.mono (show 8 ≤ 11 by decide)) (by rfl) POF.g POF.kp POF.b .nil pass0 (pa_cons (pv 2) (pa_cons (pe_call SOP.ok (hr.mono (show 8 ≤ 11 by decide)) (by rfl) SOP.g SOP.kp SOP.b .nil pass0 (pa_cons (pv 2) (pa_cons (pv 5) pa_nil))) (pa_cons (pe_ix ix_tup (pv 7) pe_int (fun _ _ => rfl)) pa_nil)))) pa_nil))) pa_nil)) (pe_callB (call_repr_data hgd hr.units) (by rfl) m_repr (by decide +kernel) (pa_cons (pe_tup (pa_cons (pe_call LAH.ok (hr.mono (show 1 ≤ 11 by decide)) (by rfl) LAH.g LAH.kp LAH.b .nil pass0 (pa_cons (pv 5) pa_nil)) (pa_cons (pv 7) pa_nil))) pa_nil)) (nomark _)) (pss_one (ps_ret pe_bl)) pss_nil))) (pss_one (ps_if (pt_cmpR op_notN (pe_call AHR.ok (hr.mono (show 8 ≤ 11 by decide)) (by rfl) AHR.g AHR.kp AHR.b .nil pass0 (pa_cons (pv 2) (pa_cons (pv 5) pa_nil))) pe_non (nomark _)) (pss_one (ps_ret pe_bl)) pss_nil)))
      (pss_one (ps_ret (pe_and (pe_callG LGO hgd hr (by rfl) gLGO kLGO bLGO pass0 (pa_cons (pv 2) (pa_cons (pv 5) (pa_cons (pe_call PKT.ok (hr.mono (show 2 ≤ 11 by decide)) (by rfl) PKT.g PKT.kp PKT.b .nil pass0 (pa_cons (pv 1) (pa_cons (pv 8) pa_nil))) pa_nil)))) (pe_one (pe_callG LGO hgd hr (by rfl) gLGO kLGO bLGO pass0 (pa_cons (pv 2) (pa_cons (pv 5) (pa_cons (pe_ix ix_tup (pv 8) pe_int (fun _ _ => rfl)) pa_nil))))))))))))))))))))), ?_⟩
    refine seq_of ⟨.ref a, rfl, a, ns, rfl, hS, hl, fun d c H1 s1 nd nc hk => ?_⟩
    show tSeq _ _ _ [some (.ref a), some (.ref d), none, none, none, none, none, none, none, none] H1
    refine seq_of ⟨.ref d, rfl, d, c, rfl, hk, fun q H2 hq b2 k2 => ⟨1, rfl, Nat.zero_le _, fun a1 n1 => ⟨Nat.zero_le _, fun a2 n2 => ⟨(by show 4 ≤ sizeLine; decide), fun R nR => ⟨(by show 3 ≤ sizeLine; decide), fun T nT => ⟨T, _, rfl, .inl (.inl upd_same), rfl, _, [_, _], rfl, _, [_], rfl, _, [], rfl, rfl, ?_⟩⟩⟩⟩⟩⟩
    haveI FF : IsF q := ⟨hq⟩
    have q16 := le16 FF.mem
    have q1 := gt1 FF.mem
    have t1 := same_new (o := .tup ([] : List V)) n1
    have t2 := same_new (o := .tup ([] : List V)) n2
    have t3 := same_new (o := .tup [V.str "straight", .int (-1), .ref a1, .ref a2]) nR
    have t4 := same_new (o := .tup [V.int q, .ref R, .int 200]) nT
    have k4 := k2.same (t1.trans (t2.trans (t3.trans t4)))
    have hR4 : PA K (upd (upd (upd (upd H2 a1 (.tup [])) a2 (.tup [])) R (.tup [V.str "straight", .int (-1), .ref a1, .ref a2])) T (.tup [V.int q, .ref R, .int 200])) R (rtP : Pl q) := ⟨[], a1, a2, .inl (.inl (t4 _ _ upd_same)), .inl (.inl (t4 _ _ (t3 _ _ (t2 _ _ upd_same)))), trivial, .inl (.inl (t4 _ _ (t3 _ _ upd_same)))⟩
    generalize upd (upd (upd (upd H2 a1 (.tup [])) a2 (.tup [])) R (.tup [V.str "straight", .int (-1), .ref a1, .ref a2])) T (.tup [V.int q, .ref R, .int 200]) = H4 at k4 hR4 ⊢
    have oR : PO (rtP : Pl q) := ⟨(fun f h => nomatch h), Nat.zero_le _, (fun z => by cases z), fun _ => ⟨rfl, fun _ => rfl⟩⟩
    clear t1 t2 t3 t4 n1 n2 nR nT k2 b2 hk nd nc s1 hS hl
    show tSeq _ _ _ [some (.ref a), some (.ref d), some (.int q), some (.ref R), some (.int 200), none, none, none, none, none] H4
    -- the place
    refine seq_by (fun v H' => But d c H4 H' ∧ Deck H' d c ∧ ∃ (r : Addr) (x : Pl q), v = .ref r ∧ PA K H' r x ∧ PO x ∧ dp x ≤ 46) (fun Qv kk => ?_) (fun v H5 hv => ?_)
    · have fin : ∀ (n : Nat) (H6 : Hp), n ≤ 46 → But d c H4 H6 → Deck H6 d c → spSpw K [.ref d, .int q, .ref R, .int (n : Nat)] H6 Qv E0 := fun n H6 ln b6 k6 => ⟨q, FF, d, c, R, n, rtP, rfl, k6, by omega, PA.sq (fun a xs e => But.sqT k4 b6 _ _ e) hR4, oR, Nat.zero_le _, fun r y H7 b7 k7 hy oy _ dy => kk _ _ ⟨b6.trans b7, k7, r, y, rfl, hy, oy, by rw [dy]; show 0 + n ≤ 46; omega⟩⟩
      refine ⟨.ref d, rfl, .int q, rfl, .ref R, rfl, .ref d, rfl, d, c, 8, rfl, k4, by decide, by decide, fun x H5 hx b5 k5 => ⟨_, _, rfl, rfl, _, rfl, ite2 (fun z => ?_) (fun z => ?_)⟩⟩
      · exact ⟨.ref d, rfl, d, c, 9, rfl, k5, by decide, by decide, fun x H6 hx b6 k6 => fin x H6 (by omega) (b5.trans b6) k6⟩
      · refine ⟨.ref d, rfl, d, c, 30, rfl, k5, by decide, by decide, fun x H6 hx b6 k6 => ⟨_, _, rfl, rfl, ?_⟩⟩
        have := fin (46 - x) H6 (by omega) (b5.trans b6) k6
        rw [show ((46 - x : Nat) : Int) = (46 : Int) - (x : Int) by omega] at this
        exact this
    obtain ⟨b5, k5, r, x, rfl, hx5, ox, lx⟩ := hv
    have hR5 : PA K H5 R (rtP : Pl q) := PA.sq (fun a xs e => But.sqT k4 b5 _ _ e) hR4
    clear hR4 b5 k4
    have lf : x.2.2.2.length ≤ 23 := by unfold dp at lx; omega
    show tSeq _ _ _ [some (.ref a), some (.ref d), some (.int q), some (.ref R), some (.int 200), some (.ref r), none, none, none, none] H5
    -- how many
    have oi : ∀ i : Nat, (2 + (i : Int)) = ((i + 1 + 1 : Nat) : Int) := fun i => by omega
    refine ask_ne (D := .list ((List.range 5).map fun k => PyData.int (mBh q x.1 x.2.2.2.isEmpty (k + 1 + 1) : Nat))) (fun Q' kk => ?_) (fun H' s' Q' kk => ?_) (Sm.lst' (sm_nums fun k hk => mBh_le q16 (by have := List.mem_range.mp hk; omega))) (by decide) (by decide) (fun H6 s6 => iteF ?_)
    · refine ⟨2, 7, rfl, ⟨by decide, by decide, by decide, by decide⟩, fun D nD => lc_range (lo := 2) (n := 5) (fun i H2 => Same H5 H2 ∧ H2 D = some (.lst ((List.range i).map fun k => V.int (mBh q x.1 x.2.2.2.isEmpty (k + 1 + 1) : Nat)))) ⟨same_new nD, upd_same⟩ (fun i H2 hi hp => ⟨rfl, yes_kept ?_⟩) (fun H2 hp => kk D H2 hp.1 (.lst (.inl (.inl hp.2)) (dp_nums _)))⟩
      obtain ⟨s2, hD⟩ := hp
      refine ⟨.int q, rfl, .ref r, rfl, .int (2 + (i : Nat)), rfl, q, FF, r, x.1, x.2.1, x.2.2.1, x.2.2.2, i + 1 + 1, by rw [oi]; rfl, hx5.kept s2, ox, by omega, by omega, fun H3 s3 => ⟨_, s3 _ _ hD, Nat.lt_of_le_of_lt (show _ ≤ 5 by rw [List.length_map, List.length_range]; omega) (by decide), same_upd (s2.trans s3) nD, ?_⟩⟩
      rw [upd_same, List.range_succ, List.map_append]
      rfl
    · refine ⟨2, 7, rfl, ⟨by decide, by decide, by decide, by decide⟩, fun D nD => lc_range (lo := 2) (n := 5) (fun i H2 => Same H' H2 ∧ H2 D = some (.lst ((List.range i).map fun k => V.int (mBh q x.1 x.2.2.2.isEmpty (k + 1 + 1) : Nat)))) ⟨same_new nD, upd_same⟩ (fun i H2 hi hp => ⟨rfl, yes_kept ?_⟩) (fun H2 hp => kk D H2 hp.1 (.lst (.inl (.inl hp.2)) (dp_nums _)))⟩
      obtain ⟨s2, hD⟩ := hp
      refine ⟨.int q, rfl, .ref r, rfl, .int (2 + (i : Nat)), rfl, q, FF, r, x, i + 1, by rw [oi]; rfl, (hx5.kept s').kept s2, ox, by omega, fun H3 s3 => ⟨_, s3 _ _ hD, Nat.lt_of_le_of_lt (show _ ≤ 5 by rw [List.length_map, List.length_range]; omega) (by decide), same_upd (s2.trans s3) nD, ?_⟩⟩
      rw [upd_same, List.range_succ, List.map_append]
      rfl
    show Ends.nx _ [some (.ref a), some (.ref d), some (.int q), some (.ref R), some (.int 200), some (.ref r), none, none, none, none] H6
    dsimp only []
    have k6 := k5.same s6
    have hx6 := hx5.kept s6
    have hR6 := hR5.kept s6
    clear hx5 hR5 k5 s6
    -- the bound
    refine tSeq_by (fun (σ' : L2.St) (H' : Hp) => But d c H6 H' ∧ Deck H' d c ∧ ∃ m : Nat, 200 ≤ m ∧ m ≤ 2000 ∧ σ' = [some (.ref a), some (.ref d), some (.int q), some (.ref R), some (.int m), some (.ref r), none, none, none, none]) (fun σ' H7 hI => ?_) (fun nx kx => ?_)
    rotate_left
    · refine ⟨.ref d, rfl, d, c, 16, rfl, k6, by decide, by decide, fun x H7 hx b7 k7 => ⟨rfl, _, rfl, ite2 (fun _ => ?_) (fun _ => ?_)⟩⟩
      · exact kx _ _ ⟨b7, k7, 2000, by decide, by decide, rfl⟩
      · exact kx _ _ ⟨b7, k7, 200, by decide, by decide, rfl⟩
    obtain ⟨b7, k7, m, m1, m2, rfl⟩ := hI
    refine seq_of ⟨.ref d, rfl, d, c, 5, rfl, k7, by decide, by decide, fun e H8 he b8 k8 => ⟨_, _, rfl, rfl, ?_⟩⟩
    have sq8 : ∀ a xs, SqT K H6 a xs → SqT K H8 a xs := fun a xs h => But.sqT k7 b8 _ _ (But.sqT k6 b7 _ _ h)
    have hx8 := PA.sq sq8 hx6
    have hR8 := PA.sq sq8 hR6
    clear sq8 hx6 hR6 b7 b8 k7 k6
    show tSeq _ _ _ [some (.ref a), some (.ref d), some (.int q), some (.ref R), some (.int m), some (.ref r), some (.int (2 + (e : Nat))), none, none, none] H8
    -- the degree
    refine seq_by (fun v H' => Same H8 H' ∧ ∃ n : Nat, v = .int (n + 1 : Nat) ∧ 1 ≤ n ∧ n ≤ 5 ∧ mBh q x.1 x.2.2.2.isEmpty (n + 1) ≤ 2000) (fun Qv kk => ?_) (fun v H9 hv => ?_)
    · refine ⟨.int (2 + (e : Nat)), rfl, _, _, rfl, rfl, 2, _, rfl, ⟨by omega, by omega, by omega, by omega⟩, fun D nD => ?_⟩
      rw [show ((2 : Int) + (e : Int) + 1 - 2).toNat = e + 1 by omega]
      refine lc_range (lo := 2) (n := e + 1) (fun i H2 => Same H8 H2 ∧ ∃ ns : List Int, H2 D = some (.lst (ns.map V.int)) ∧ ns.length ≤ i ∧ (∀ m' ∈ ns, ∃ k : Nat, k < i ∧ m' = (k + 1 + 1 : Nat) ∧ mBh q x.1 x.2.2.2.isEmpty (k + 1 + 1) ≤ m) ∧ (1 ≤ i → 0 < ns.length)) ⟨same_new nD, [], upd_same, Nat.le_refl _, (fun m' h => nomatch h), (fun h => absurd h (by decide))⟩ (fun i H2 hi hp => ?_) (fun H2 hp => ?_)
      · obtain ⟨s2, ns, hD, ln, hns, h1⟩ := hp
        refine ⟨rfl, .int q, rfl, .ref r, rfl, .int (2 + (i : Nat)), rfl, q, FF, r, x, i + 1, by rw [oi]; rfl, hx8.kept s2, ox, by omega, fun H3 s3 => ⟨.int m, rfl, _, _, rfl, rfl, _, rfl, ?_⟩⟩
        refine ite2 (fun z => ?_) (fun z => ?_)
        · have z : mBh q x.1 x.2.2.2.isEmpty (i + 1 + 1) ≤ m := by
            have := of_decide_eq_true z
            omega
          refine ⟨.int (2 + (i : Nat)), rfl, _, s3 _ _ hD, Nat.lt_of_le_of_lt (show _ ≤ 5 by rw [List.length_map]; omega) (by decide), same_upd (s2.trans s3) nD, ns ++ [2 + (i : Int)], by rw [upd_same, List.map_append]; rfl, by rw [List.length_append]; exact Nat.succ_le_succ ln, fun m' hm' => ?_, fun _ => by rw [List.length_append]; exact Nat.succ_pos _⟩
          rcases List.mem_append.mp hm' with h | h
          · obtain ⟨k, k1, k2, k3⟩ := hns m' h
            exact ⟨k, by omega, k2, k3⟩
          · rw [List.mem_singleton.mp h]
            exact ⟨i, by omega, oi i, z⟩
        · have z : ¬ mBh q x.1 x.2.2.2.isEmpty (i + 1 + 1) ≤ m := fun le => z (decide_eq_true (by omega))
          refine ⟨s2.trans s3, ns, s3 _ _ hD, by omega, fun m' hm' => ?_, fun _ => ?_⟩
          · obtain ⟨k, k1, k2, k3⟩ := hns m' hm'
            exact ⟨k, by omega, k2, k3⟩
          · by_cases i0 : i = 0
            · subst i0
              exact absurd (Nat.le_trans (mBh_two q16) (by omega)) z
            · exact h1 (by omega)
      · obtain ⟨s2, ns, hD, ln, hns, h1⟩ := hp
        refine ⟨D, ns, rfl, .inl (.inl hD), h1 (by omega), fun m' hm' _ => ?_⟩
        obtain ⟨k, k1, k2, k3⟩ := hns m' hm'
        subst k2
        exact kk _ _ ⟨s2, k + 1, rfl, by omega, by omega, by omega⟩
    obtain ⟨s9, n, rfl, n1, n5, hm⟩ := hv
    have k9 := k8.same s9
    have hx9 := hx8.kept s9
    have hR9 := hR8.kept s9
    clear hx8 hR8 k8 s9
    have hn : x.1 = true → n ≤ 5 ∧ q ^ n ≤ 2001 := fun h => by
      rw [h] at hm
      have hm : q ^ n - 1 ≤ 2000 := hm
      exact ⟨n5, by omega⟩
    show tSeq _ _ _ [some (.ref a), some (.ref d), some (.int q), some (.ref R), some (.int m), some (.ref r), some (.int (n + 1 : Nat)), none, none, none] H9
    -- the places behind
    refine seq_of ⟨.int q, rfl, .ref r, rfl, .int (n + 1 : Nat), rfl, q, FF, r, x, n, rfl, hx9, ox, by omega, hn, fun u us HA sA hu hU => ?_⟩
    have lw := bhl_len x n
    have hok := bhl_ok (n := n) ox (by omega) (fun h => (hn h).1)
    have hnd : (bhl x n).Nodup := bhl_nodup
    have lpos : 0 < (bhl x n).length := by rw [lw]; exact mBh_one q1 n1
    have l2000 : (bhl x n).length ≤ 2000 := by rw [lw]; exact hm
    have hb24 : ∀ v ∈ bhl x n, PO v ∧ v.2.2.2.length ≤ 24 := fun v hv => ⟨(hok v hv).1, by have := (hok v hv).2.2.2; omega⟩
    have bd := pl_bound hb24 (by decide)
    obtain ⟨W, hW⟩ : ∃ W, W = bhl x n := ⟨_, rfl⟩
    rw [← hW] at hU lw hok hnd lpos l2000 hb24 bd
    have kA := k9.same sA
    have hxA := hx9.kept sA
    have hRA := hR9.kept sA
    clear hx9 hR9 k9 sA
    show tSeq _ _ _ [some (.ref a), some (.ref d), some (.int q), some (.ref R), some (.int m), some (.ref r), some (.int (n + 1 : Nat)), none, some (.ref u), none] HA
    refine ask_neB (D := .tuple [.tuple (W.map pD), .tuple (W.map pD)]) (zd_tup (zda_cons (fun Q' kk => ⟨.int q, rfl, .ref r, rfl, .int (n + 1 : Nat), rfl, q, FF, r, x, n, rfl, hxA, ox, by omega, hn, fun u2 us2 H' s' hu2 hU2 => kk u2 H' s' (.tup hu2 (by rw [hW]; exact hU2.dp))⟩) fun HB sB => zda_cons (fun Q' kk => ⟨.int (n + 1 : Nat), rfl, .ref r, rfl, .int q, rfl, q, FF, r, x, n, rfl, hxA.kept sB, ox, by omega, hn, fun u2 us2 H' s' hu2 hU2 => kk u2 H' s' (.tup hu2 (by rw [hW]; exact hU2.dp))⟩) fun _ _ => zda_nil) (by show 2 ≤ 10; decide))
      (fun H' s' => zd_tup (zda_cons (zd_tupV rfl (BP.Same.tupS s' hu) (hU.kept s')) fun HB sB => zda_cons (zd_tupV rfl (BP.Same.tupS (s'.trans sB) hu) (hU.kept (s'.trans sB))) fun _ _ => zda_nil) (by show 2 ≤ 10; decide)) (Sm.tup (SmAll.cons bd (SmAll.cons bd (SmAll.nil (w := 0))))) (by decide) (bulk_two hb24 (Nat.le_refl _) l2000) (fun HB sB => iteF ?_)
    show Ends.nx _ [some (.ref a), some (.ref d), some (.int q), some (.ref R), some (.int m), some (.ref r), some (.int (n + 1 : Nat)), none, some (.ref u), none] HB
    dsimp only []
    have kB := kA.same sB
    have hxB := hxA.kept sB
    have hRB := hRA.kept sB
    have huB := BP.Same.tupS sB hu
    have hUB := hU.kept sB
    clear kA hxA hRA hu hU sB
    have lu := hUB.len
    have mlt : mBh q x.1 x.2.2.2.isEmpty (n + 1) < 100000 := by omega
    -- how many, and that they are unlike
    refine ⟨.int (n + 1 : Nat), rfl, .ref r, rfl, .int q, rfl, q, FF, r, x.1, x.2.1, x.2.2.1, x.2.2.2, n + 1, rfl, hxB, ox, by omega, by omega, fun HC sC => ⟨_, rfl, lg_small (by rw [Int.natAbs_natCast]; exact mlt), .ref u, rfl, u, us, rfl, .inr (BP.Same.tupS sC huB), _, rfl, lg_small (by rw [Int.natAbs_natCast, lu, lw]; exact mlt), rfl, false, ?_, iteF ?_⟩⟩
    · rw [lu, lw, decide_eq_true rfl]
      rfl
    have kC := kB.same sC
    have hxC := hxB.kept sC
    have hRC := hRB.kept sC
    have huC := BP.Same.tupS sC huB
    have hUC := hUB.kept sC
    clear kB hxB hRB huB hUB sC
    obtain ⟨ps, eu⟩ := hUC.refs
    subst eu
    have lp : ps.length = W.length := by rw [← lu, List.length_map]
    refine ⟨.ref u, rfl, u, ps, W.map plK, rfl, huC, by rw [List.length_map, lp], fun i p k e1 e2 => ?_, by rw [List.length_map]; omega, keys_nodup (fun v hv => (hok v hv).1) hnd, .ref u, rfl, u, ps.map V.ref, rfl, .inr huC, rfl, false, ?_, iteF ?_⟩
    · rw [List.getElem?_map] at e2
      obtain ⟨y, fy, rfl⟩ := Option.map_eq_some_iff.mp e2
      obtain ⟨cy, gy, py⟩ := hUC.get fy
      rw [List.getElem?_map, e1] at gy
      cases gy
      exact ⟨by rw [plK_data]; exact dp_pa py, plK_dep y⟩
    · rw [List.length_map, List.length_map, lp, decide_eq_true rfl]
      rfl
    show Ends.nx _ [some (.ref a), some (.ref d), some (.int q), some (.ref R), some (.int m), some (.ref r), some (.int (n + 1 : Nat)), none, some (.ref u), none] HC
    dsimp only []
    generalize ps.map V.ref = us at huC hUC lu
    -- three of them
    refine ⟨3, rfl, by decide, by decide, for_range (lo := 0) (n := (3 : Int).toNat) (fun i σ H' => But d c HC H' ∧ Deck H' d c ∧ ∃ y9, σ = [some (.ref a), some (.ref d), some (.int q), some (.ref R), some (.int m), some (.ref r), some (.int (n + 1 : Nat)), none, some (.ref u), y9]) ⟨But.refl, kC, none, rfl⟩ (fun i σ H' hi hW' => ?_) (fun σ HD hW' => ?_)⟩
    · obtain ⟨b', k', y9, rfl⟩ := hW'
      have sq := But.sqT (K := K) kC b'
      refine ⟨.int q, rfl, .ref r, rfl, .ref u, rfl, .ref d, rfl, .ref u, rfl, u, us, rfl, .inr (sq _ _ huC), d, c, us.length, rfl, k', by omega, by omega, fun j H2 hj b2 k2 => ?_⟩
      have sq2 : ∀ a xs, SqT K HC a xs → SqT K H2 a xs := fun a xs h => But.sqT k' b2 _ _ (sq _ _ h)
      exact ⟨q, FF, r, u, j, x, us, W, rfl, PA.sq sq2 hxC, ox, by omega, sq2 _ _ huC, hUC.sq sq2, (fun y hy => ⟨(hok y hy).1, (hok y hy).2.1, (hok y hy).2.2.1⟩), by omega, fun H3 s3 => ⟨true, rfl, iteF ⟨b'.trans (b2.trans (But.of s3)), k2.same s3, _, rfl⟩⟩⟩
    obtain ⟨b', kD, y9, rfl⟩ := hW'
    have sq := But.sqT (K := K) kC b'
    have hxD := PA.sq sq hxC
    have hRD := PA.sq sq hRC
    have huD := sq _ _ huC
    have hUD := hUC.sq sq
    clear sq b' kC hxC hRC huC hUC
    dsimp only []
    obtain ⟨bs, p, t, g1, g2, g3, g4⟩ := hxD
    have hxD : PA K HD r x := ⟨bs, p, t, g1, g2, g3, g4⟩
    refine ⟨.ref r, rfl, r, _, 2, .ref p, rfl, rfl, g1, rfl, p, bs, rfl, .inr g2, _, _, rfl, rfl, _, rfl, ite2 (fun _ => want _) (fun _ => ?_)⟩
    show Ends.nx _ [some (.ref a), some (.ref d), some (.int q), some (.ref R), some (.int m), some (.ref r), some (.int (n + 1 : Nat)), none, some (.ref u), y9] HD
    dsimp only []
    -- the place ahead
    refine tSeq_by (fun (σ' : L2.St) (H' : Hp) => Same HD H' ∧ ∃ y7, σ' = [some (.ref a), some (.ref d), some (.int q), some (.ref R), some (.int m), some (.ref r), some (.int (n + 1 : Nat)), y7, some (.ref u), y9]) (fun σ' HE hI => ?_) (fun nx kx => ?_)
    rotate_left
    · refine ⟨.ref r, rfl, .ref R, rfl, pD x, pD (rtP : Pl q), dp_pa hxD, dp_pa hRD, sh_pa ox, sh_pa oR, ?_⟩
      by_cases nr : Nr x
      · have ne : PyData.eqv (pD x) (pD (rtP : Pl q)) = false := by
          cases z : PyData.eqv (pD x) (pD (rtP : Pl q)) with
          | false => rfl
          | true =>
            have := (eqv_pl ox).mp z
            subst this
            exact absurd nr (by rintro (h | h); cases h; exact h rfl)
        rw [ne]
        refine ⟨true, rfl, iteT ?_⟩
        refine seq_of ⟨.int q, rfl, .ref r, rfl, q, FF, r, x, rfl, hxD, ox, fun _ e HE sE hE => ?_, fun no => absurd nr no⟩
        have oa := ok_ah ox nr
        have hxE := hxD.kept sE
        show tIfS _ _ _ _ [some (.ref a), some (.ref d), some (.int q), some (.ref R), some (.int m), some (.ref r), some (.int (n + 1 : Nat)), some (.ref e), some (.ref u), y9] HE
        obtain ⟨bs', p', t', f1, f2, f3, f4⟩ := hE
        have hE : PA K HE e (ahP x) := ⟨bs', p', t', f1, f2, f3, f4⟩
        refine ask_ne (D := .tuple [pD (ahP x), pD (ahP x)]) (zd_tup (zda_cons (zd_pl rfl hE) fun H2 s2 => zda_cons (fun Q' kk => ⟨.int q, rfl, .int q, rfl, .ref r, rfl, q, FF, r, x, rfl, hxE.kept s2, ox, fun n' H3 s3 hn' => ⟨.ref e, rfl, e, _, 0, .str (sortS (ahP x).1), rfl, rfl, BP.Same.tupS (s2.trans s3) f1, rfl, q, FF, n', plZ x, (ahP x).1, rfl, hn', plZ_fit ox, fun w' H4 s4 hw' => kk w' H4 (s3.trans s4) (dp_pa (by rw [← two_up ox nr]; exact hw'))⟩⟩) fun _ _ => zda_nil) (by show 2 ≤ 10; decide))
          (fun H2 s2 => zd_tup (zda_cons (fun Q' kk => ⟨.ref r, rfl, q, FF, r, x, rfl, hxE.kept s2, ox, nr, fun w' H3 s3 hw' => kk w' H3 s3 (dp_pa hw')⟩) fun H3 s3 => zda_cons (zd_pl rfl (hE.kept (s2.trans s3))) fun _ _ => zda_nil) (by show 2 ≤ 10; decide)) (sm2 (sm_pa oa) (sm_pa oa)) (by decide) (by decide) (fun H2 s2 => iteF ?_)
        exact kx _ _ ⟨sE.trans s2, _, rfl⟩
      · have e : x = rtP := dp_root ox nr
        have eq : PyData.eqv (pD x) (pD (rtP : Pl q)) = true := (eqv_pl ox).mpr e
        rw [eq]
        refine ⟨false, rfl, iteF ?_⟩
        exact ⟨.int q, rfl, .ref r, rfl, q, FF, r, x, rfl, hxD, ox, fun n' => absurd n' nr, fun _ H' s' => ⟨rfl, false, rfl, iteF (kx _ _ ⟨s', _, rfl⟩)⟩⟩
    obtain ⟨sE, y7, rfl⟩ := hI
    have kE := kD.same sE
    have hxE := hxD.kept sE
    have huE := BP.Same.tupS sE huD
    have hUE := hUD.kept sE
    clear kD hxD hRD huD hUD sE g1 g2 g3 g4
    -- what leads on
    refine ⟨.int q, rfl, .ref r, rfl, .ref d, rfl, .ref u, rfl, d, c, u, us, rfl, kE, huE, by omega, by omega, fun v H2 hv b2 k2 => ?_⟩
    obtain ⟨i, gi⟩ := List.getElem?_of_mem hv
    have il : i < us.length := (List.getElem?_eq_some_iff.mp gi).1
    obtain ⟨y, fy⟩ : ∃ y, W[i]? = some y := ⟨_, List.getElem?_eq_getElem (by omega)⟩
    obtain ⟨cy, gy, py⟩ := hUE.get fy
    rw [gi] at gy
    cases gy
    obtain ⟨oy, ny, ay, _⟩ := hok y (List.mem_of_getElem? fy)
    have sq2 := But.sqT (K := K) kE b2
    refine ⟨q, FF, r, cy, x, y, rfl, PA.sq sq2 hxE, ox, PA.sq sq2 py, oy, ny, ay, by omega, fun H3 s3 => ⟨true, rfl, iteT ?_⟩⟩
    obtain ⟨y0, f0⟩ : ∃ y0, W[0]? = some y0 := ⟨_, List.getElem?_eq_getElem lpos⟩
    obtain ⟨c0, g0, p0⟩ := hUE.get f0
    obtain ⟨o0, n0, a0, _⟩ := hok y0 (List.mem_of_getElem? f0)
    exact ⟨.int q, rfl, .ref r, rfl, .ref u, rfl, u, us, 0, .ref c0, rfl, rfl, BP.Same.tupS s3 (sq2 _ _ huE), atI_nat g0, q, FF, r, c0, x, y0, rfl, (PA.sq sq2 hxE).kept s3, ox, (PA.sq sq2 p0).kept s3, o0, n0, a0, by omega, fun H4 _ => want H4⟩
end
end K13
set_option Elab.async false
set_option linter.all false
set_option maxRecDepth 100000
set_option maxHeartbeats 8000000
set_option pp.maxSteps 3
namespace BP
open PySem PySem.Spec PyProof.Rows L2 Fld
/-- the root, as the top has written it -/
def rootIs (K : PySem.W.Frag) (p : Addr) : Bool := match K.lookup p with
  | some ⟨.type "tuple", none, .seq its _, _⟩ => decide (its.size ≤ sizeLine) && (match its.toList with
    | [.str s _, .int i _, b, t] => decide (s = "straight") && decide (i = -1) && rowIs K b [] && rowIs K t []
    | _ => false)
  | _ => false
theorem root_at {K : PySem.W.Frag} {p : Addr} (h : rootIs K p = true) : ∀ (H : Hp) (q : Nat) [IsF q], PlAt (q := q) K H p false none [] [] := by
  unfold rootIs at h
  split at h
  · rename_i its n sl e
    rw [Bool.and_eq_true, decide_eq_true_eq] at h
    obtain ⟨hz, h⟩ := h
    split at h
    · rename_i s tk0 i tk b t ei
      simp only [Bool.and_eq_true, decide_eq_true_eq] at h
      obtain ⟨⟨⟨e0, e1⟩, h2⟩, h3⟩ := h
      obtain ⟨pb, rfl, hb, _⟩ := row_is h2
      obtain ⟨pt, rfl, ht, _⟩ := row_is h3
      subst e0 e1
      intro H q FF
      refine ⟨[], pb, pt, .inr ⟨_, its, n, e, rfl, rfl, hz, ?_⟩, hb H, trivial, ht H⟩
      rw [ei]
      exact .cons ⟨tk0, rfl⟩ (.cons ⟨tk, rfl⟩ (.cons rfl (.cons rfl .nil)))
    · cases h
  · cases h
theorem same_at {K : PySem.W.Frag} {p : Addr} (h : rowIs K (.ref p) [1, 0, 0, 0, 1, 0] = true) : ∀ (H : Hp) (q : Nat) [IsF q], SqT K H p (mv (same : Mat q)) := by
  obtain ⟨p', e, hp, _⟩ := row_is h
  cases e
  intro H q FF
  have e : mv (Fld.same : Mat q) = [.int 1, .int 0, .int 0, .int 0, .int 1, .int 0] := by
    unfold mv Fld.same
    simp only []
    rw [vn_one, vn_zero]
  rw [e]
  exact hp H
end BP
namespace K13
open PySem PySem.Spec PyProof.Rows L2 BP Fld
/-! What the top has written. -/
theorem all_mk {l : PySem.W.OpenLaw} {w : World} {K : PySem.W.Frag} {h : Heap} {mg : Str → Option Value} {fa : Addr} (X : K.In h) (G : h.Ns mainGlobals mg) (hfa : mg "law" = some (.ref fa))
    {dS : Addr} (aS : PySem.W.nsIn K mainGlobals "SUMS" = some (some (.ref dS))) (tS : tabIs K dS Fld.S = true)
    {dP : Addr} (aP : PySem.W.nsIn K mainGlobals "PRODUCTS" = some (some (.ref dP))) (tP : tabIs K dP Fld.M = true)
    {tk : Tok} (aN : PySem.W.nsIn K mainGlobals "NO_TURN" = some (some (.int (-1) tk)))
    {t_aST : Tok} (aST : PySem.W.nsIn K mainGlobals "STRAIGHT" = some (some (.str "straight" t_aST)))
    {t_aBE : Tok} (aBE : PySem.W.nsIn K mainGlobals "BENT" = some (some (.str "bent" t_aBE)))
    {aR : Addr} (aRO : PySem.W.nsIn K mainGlobals "ROOT" = some (some (.ref aR))) (tR : rootIs K aR = true)
    {aS0 : Addr} (aSA : PySem.W.nsIn K mainGlobals "SAME" = some (some (.ref aS0))) (tA : rowIs K (.ref aS0) [1, 0, 0, 0, 1, 0] = true)
    {C : Addr} (aC : PySem.W.nsIn K mainGlobals "LeastRow" = some (some (.ref C))) (c1 : PySem.W.plainGet K C Str.empty = true) (c2 : PySem.W.hasDictIn K C = true) (c3 : PySem.W.plainOver K C = true) (c4 : PySem.W.findIn K (.ref C) "__setattr__" = some (some (.builtin "object.__setattr__")))
    (c5 : PySem.W.findIn K (.ref C) "q" = some none) (c6 : PySem.W.findIn K (.ref C) "turns" = some none) (c7 : PySem.W.findIn K (.ref C) "bends" = some none) (c8 : PySem.W.findIn K (.ref C) "last" = some none) (c9 : PySem.W.makesIn K C = true) (cA : PySem.W.keepIn K (.ref C) = true)
    {f0 : Addr} {od0 an0 : Option Addr} {sl0 : Array (Option Value)} {oc0 kV0 dc0 pm0 cd0 ct0 : Value}
    {f1 : Addr} {od1 an1 : Option Addr} {sl1 : Array (Option Value)} {oc1 kV1 dc1 pm1 cd1 ct1 : Value}
    {f2 : Addr} {od2 an2 : Option Addr} {sl2 : Array (Option Value)} {oc2 kV2 dc2 pm2 cd2 ct2 : Value}
    {f3 : Addr} {od3 an3 : Option Addr} {sl3 : Array (Option Value)} {oc3 kV3 dc3 pm3 cd3 ct3 : Value}
    {f4 : Addr} {od4 an4 : Option Addr} {sl4 : Array (Option Value)} {oc4 kV4 dc4 pm4 cd4 ct4 : Value}
    {f5 : Addr} {od5 an5 : Option Addr} {sl5 : Array (Option Value)} {oc5 kV5 dc5 pm5 cd5 ct5 : Value}
    {f6 : Addr} {od6 an6 : Option Addr} {sl6 : Array (Option Value)} {oc6 kV6 dc6 pm6 cd6 ct6 : Value}
    {f7 : Addr} {od7 an7 : Option Addr} {sl7 : Array (Option Value)} {oc7 kV7 dc7 pm7 cd7 ct7 : Value}
    {f8 : Addr} {od8 an8 : Option Addr} {sl8 : Array (Option Value)} {oc8 kV8 dc8 pm8 cd8 ct8 : Value}
    {f9 : Addr} {od9 an9 : Option Addr} {sl9 : Array (Option Value)} {oc9 kV9 dc9 pm9 cd9 ct9 : Value}
    {f10 : Addr} {od10 an10 : Option Addr} {sl10 : Array (Option Value)} {oc10 kV10 dc10 pm10 cd10 ct10 : Value}
    {f11 : Addr} {od11 an11 : Option Addr} {sl11 : Array (Option Value)} {oc11 kV11 dc11 pm11 cd11 ct11 : Value}
    {f12 : Addr} {od12 an12 : Option Addr} {sl12 : Array (Option Value)} {oc12 kV12 dc12 pm12 cd12 ct12 : Value}
    {f13 : Addr} {od13 an13 : Option Addr} {sl13 : Array (Option Value)} {oc13 kV13 dc13 pm13 cd13 ct13 : Value}
    {f14 : Addr} {od14 an14 : Option Addr} {sl14 : Array (Option Value)} {oc14 kV14 dc14 pm14 cd14 ct14 : Value}
    {f15 : Addr} {od15 an15 : Option Addr} {sl15 : Array (Option Value)} {oc15 kV15 dc15 pm15 cd15 ct15 : Value}
    {f16 : Addr} {od16 an16 : Option Addr} {sl16 : Array (Option Value)} {oc16 kV16 dc16 pm16 cd16 ct16 : Value}
    {f17 : Addr} {od17 an17 : Option Addr} {sl17 : Array (Option Value)} {oc17 kV17 dc17 pm17 cd17 ct17 : Value}
    {f18 : Addr} {od18 an18 : Option Addr} {sl18 : Array (Option Value)} {oc18 kV18 dc18 pm18 cd18 ct18 : Value}
    {f19 : Addr} {od19 an19 : Option Addr} {sl19 : Array (Option Value)} {oc19 kV19 dc19 pm19 cd19 ct19 : Value}
    {f20 : Addr} {od20 an20 : Option Addr} {sl20 : Array (Option Value)} {oc20 kV20 dc20 pm20 cd20 ct20 : Value}
    {f21 : Addr} {od21 an21 : Option Addr} {sl21 : Array (Option Value)} {oc21 kV21 dc21 pm21 cd21 ct21 : Value}
    {f22 : Addr} {od22 an22 : Option Addr} {sl22 : Array (Option Value)} {oc22 kV22 dc22 pm22 cd22 ct22 : Value}
    {f23 : Addr} {od23 an23 : Option Addr} {sl23 : Array (Option Value)} {oc23 kV23 dc23 pm23 cd23 ct23 : Value}
    {f24 : Addr} {od24 an24 : Option Addr} {sl24 : Array (Option Value)} {oc24 kV24 dc24 pm24 cd24 ct24 : Value}
    {f25 : Addr} {od25 an25 : Option Addr} {sl25 : Array (Option Value)} {oc25 kV25 dc25 pm25 cd25 ct25 : Value}
    {f26 : Addr} {od26 an26 : Option Addr} {sl26 : Array (Option Value)} {oc26 kV26 dc26 pm26 cd26 ct26 : Value}
    {f27 : Addr} {od27 an27 : Option Addr} {sl27 : Array (Option Value)} {oc27 kV27 dc27 pm27 cd27 ct27 : Value}
    {f28 : Addr} {od28 an28 : Option Addr} {sl28 : Array (Option Value)} {oc28 kV28 dc28 pm28 cd28 ct28 : Value}
    {f29 : Addr} {od29 an29 : Option Addr} {sl29 : Array (Option Value)} {oc29 kV29 dc29 pm29 cd29 ct29 : Value}
    {f30 : Addr} {od30 an30 : Option Addr} {sl30 : Array (Option Value)} {oc30 kV30 dc30 pm30 cd30 ct30 : Value}
    {f31 : Addr} {od31 an31 : Option Addr} {sl31 : Array (Option Value)} {oc31 kV31 dc31 pm31 cd31 ct31 : Value}
    {f32 : Addr} {od32 an32 : Option Addr} {sl32 : Array (Option Value)} {oc32 kV32 dc32 pm32 cd32 ct32 : Value}
    {f33 : Addr} {od33 an33 : Option Addr} {sl33 : Array (Option Value)} {oc33 kV33 dc33 pm33 cd33 ct33 : Value}
    {f34 : Addr} {od34 an34 : Option Addr} {sl34 : Array (Option Value)} {oc34 kV34 dc34 pm34 cd34 ct34 : Value}
    {f35 : Addr} {od35 an35 : Option Addr} {sl35 : Array (Option Value)} {oc35 kV35 dc35 pm35 cd35 ct35 : Value}
    {f36 : Addr} {od36 an36 : Option Addr} {sl36 : Array (Option Value)} {oc36 kV36 dc36 pm36 cd36 ct36 : Value}
    {f37 : Addr} {od37 an37 : Option Addr} {sl37 : Array (Option Value)} {oc37 kV37 dc37 pm37 cd37 ct37 : Value}
    {f38 : Addr} {od38 an38 : Option Addr} {sl38 : Array (Option Value)} {oc38 kV38 dc38 pm38 cd38 ct38 : Value}
    {f39 : Addr} {od39 an39 : Option Addr} {sl39 : Array (Option Value)} {oc39 kV39 dc39 pm39 cd39 ct39 : Value}
    {f40 : Addr} {od40 an40 : Option Addr} {sl40 : Array (Option Value)} {oc40 kV40 dc40 pm40 cd40 ct40 : Value}
    {f41 : Addr} {od41 an41 : Option Addr} {sl41 : Array (Option Value)} {oc41 kV41 dc41 pm41 cd41 ct41 : Value}
    {f42 : Addr} {od42 an42 : Option Addr} {sl42 : Array (Option Value)} {oc42 kV42 dc42 pm42 cd42 ct42 : Value}
    {f43 : Addr} {od43 an43 : Option Addr} {sl43 : Array (Option Value)} {oc43 kV43 dc43 pm43 cd43 ct43 : Value}
    {f44 : Addr} {od44 an44 : Option Addr} {sl44 : Array (Option Value)} {oc44 kV44 dc44 pm44 cd44 ct44 : Value}
    {f45 : Addr} {od45 an45 : Option Addr} {sl45 : Array (Option Value)} {oc45 kV45 dc45 pm45 cd45 ct45 : Value}
    {f46 : Addr} {od46 an46 : Option Addr} {sl46 : Array (Option Value)} {oc46 kV46 dc46 pm46 cd46 ct46 : Value}
    {f47 : Addr} {od47 an47 : Option Addr} {sl47 : Array (Option Value)} {oc47 kV47 dc47 pm47 cd47 ct47 : Value}
    {f48 : Addr} {od48 an48 : Option Addr} {sl48 : Array (Option Value)} {oc48 kV48 dc48 pm48 cd48 ct48 : Value}
    {f49 : Addr} {od49 an49 : Option Addr} {sl49 : Array (Option Value)} {oc49 kV49 dc49 pm49 cd49 ct49 : Value}
    {f50 : Addr} {od50 an50 : Option Addr} {sl50 : Array (Option Value)} {oc50 kV50 dc50 pm50 cd50 ct50 : Value}
    {f51 : Addr} {od51 an51 : Option Addr} {sl51 : Array (Option Value)} {oc51 kV51 dc51 pm51 cd51 ct51 : Value}
    {f52 : Addr} {od52 an52 : Option Addr} {sl52 : Array (Option Value)} {oc52 kV52 dc52 pm52 cd52 ct52 : Value}
    {f53 : Addr} {od53 an53 : Option Addr} {sl53 : Array (Option Value)} {oc53 kV53 dc53 pm53 cd53 ct53 : Value}
    {f54 : Addr} {od54 an54 : Option Addr} {sl54 : Array (Option Value)} {oc54 kV54 dc54 pm54 cd54 ct54 : Value}
    {f55 : Addr} {od55 an55 : Option Addr} {sl55 : Array (Option Value)} {oc55 kV55 dc55 pm55 cd55 ct55 : Value}
    {f56 : Addr} {od56 an56 : Option Addr} {sl56 : Array (Option Value)} {oc56 kV56 dc56 pm56 cd56 ct56 : Value}
    {f57 : Addr} {od57 an57 : Option Addr} {sl57 : Array (Option Value)} {oc57 kV57 dc57 pm57 cd57 ct57 : Value}
    {f58 : Addr} {od58 an58 : Option Addr} {sl58 : Array (Option Value)} {oc58 kV58 dc58 pm58 cd58 ct58 : Value}
    {f59 : Addr} {od59 an59 : Option Addr} {sl59 : Array (Option Value)} {oc59 kV59 dc59 pm59 cd59 ct59 : Value}
    {f60 : Addr} {od60 an60 : Option Addr} {sl60 : Array (Option Value)} {oc60 kV60 dc60 pm60 cd60 ct60 : Value}
    (a0 : PySem.W.nsIn K mainGlobals "_law_deck" = some (some (.ref f0))) (l0 : K.lookup f0 = some ⟨oc0, od0, .func (PySem.W.fnOf "_law_deck" "_law_deck" (defArgs sLDeck) (defBody sLDeck) (defScope sLDeck) .none kV0 dc0 pm0 an0 cd0 ct0), sl0⟩) (e0 : PySem.W.codeIn K cd0 "_law_deck" = true) (k0 : PySem.W.keepIn K (.ref f0) = true)
    (a1 : PySem.W.nsIn K mainGlobals "_law_draw" = some (some (.ref f1))) (l1 : K.lookup f1 = some ⟨oc1, od1, .func (PySem.W.fnOf "_law_draw" "_law_draw" (defArgs sLDraw) (defBody sLDraw) (defScope sLDraw) .none kV1 dc1 pm1 an1 cd1 ct1), sl1⟩) (e1 : PySem.W.codeIn K cd1 "_law_draw" = true) (k1 : PySem.W.keepIn K (.ref f1) = true)
    (a2 : PySem.W.nsIn K mainGlobals "_law_pick" = some (some (.ref f2))) (l2 : K.lookup f2 = some ⟨oc2, od2, .func (PySem.W.fnOf "_law_pick" "_law_pick" (defArgs sLPick) (defBody sLPick) (defScope sLPick) .none kV2 dc2 pm2 an2 cd2 ct2), sl2⟩) (e2 : PySem.W.codeIn K cd2 "_law_pick" = true) (k2 : PySem.W.keepIn K (.ref f2) = true)
    (a3 : PySem.W.nsIn K mainGlobals "_law_some_field" = some (some (.ref f3))) (l3 : K.lookup f3 = some ⟨oc3, od3, .func (PySem.W.fnOf "_law_some_field" "_law_some_field" (defArgs sLSomeField) (defBody sLSomeField) (defScope sLSomeField) .none kV3 dc3 pm3 an3 cd3 ct3), sl3⟩) (e3 : PySem.W.codeIn K cd3 "_law_some_field" = true) (k3 : PySem.W.keepIn K (.ref f3) = true)
    (a4 : PySem.W.nsIn K mainGlobals "_law_some_bend" = some (some (.ref f4))) (l4 : K.lookup f4 = some ⟨oc4, od4, .func (PySem.W.fnOf "_law_some_bend" "_law_some_bend" (defArgs sLSomeBend) (defBody sLSomeBend) (defScope sLSomeBend) .none kV4 dc4 pm4 an4 cd4 ct4), sl4⟩) (e4 : PySem.W.codeIn K cd4 "_law_some_bend" = true) (k4 : PySem.W.keepIn K (.ref f4) = true)
    (a5 : PySem.W.nsIn K mainGlobals "_law_some_place" = some (some (.ref f5))) (l5 : K.lookup f5 = some ⟨oc5, od5, .func (PySem.W.fnOf "_law_some_place" "_law_some_place" (defArgs sLSomePlace) (defBody sLSomePlace) (defScope sLSomePlace) .none kV5 dc5 pm5 an5 cd5 ct5), sl5⟩) (e5 : PySem.W.codeIn K cd5 "_law_some_place" = true) (k5 : PySem.W.keepIn K (.ref f5) = true)
    (a6 : PySem.W.nsIn K mainGlobals "is_integer" = some (some (.ref f6))) (l6 : K.lookup f6 = some ⟨oc6, od6, .func (PySem.W.fnOf "is_integer" "is_integer" (defArgs sIsInteger) (defBody sIsInteger) (defScope sIsInteger) .none kV6 dc6 pm6 an6 cd6 ct6), sl6⟩) (e6 : PySem.W.codeIn K cd6 "is_integer" = true) (k6 : PySem.W.keepIn K (.ref f6) = true)
    (a7 : PySem.W.nsIn K mainGlobals "is_number" = some (some (.ref f7))) (l7 : K.lookup f7 = some ⟨oc7, od7, .func (PySem.W.fnOf "is_number" "is_number" (defArgs sIsNumber) (defBody sIsNumber) (defScope sIsNumber) .none kV7 dc7 pm7 an7 cd7 ct7), sl7⟩) (e7 : PySem.W.codeIn K cd7 "is_number" = true) (k7 : PySem.W.keepIn K (.ref f7) = true)
    (a8 : PySem.W.nsIn K mainGlobals "are_numbers" = some (some (.ref f8))) (l8 : K.lookup f8 = some ⟨oc8, od8, .func (PySem.W.fnOf "are_numbers" "are_numbers" (defArgs sAreNumbers) (defBody sAreNumbers) (defScope sAreNumbers) .none kV8 dc8 pm8 an8 cd8 ct8), sl8⟩) (e8 : PySem.W.codeIn K cd8 "are_numbers" = true) (k8 : PySem.W.keepIn K (.ref f8) = true)
    (a9 : PySem.W.nsIn K mainGlobals "is_one_letter" = some (some (.ref f9))) (l9 : K.lookup f9 = some ⟨oc9, od9, .func (PySem.W.fnOf "is_one_letter" "is_one_letter" (defArgs sIsOneLetter) (defBody sIsOneLetter) (defScope sIsOneLetter) .none kV9 dc9 pm9 an9 cd9 ct9), sl9⟩) (e9 : PySem.W.codeIn K cd9 "is_one_letter" = true) (k9 : PySem.W.keepIn K (.ref f9) = true)
    (a10 : PySem.W.nsIn K mainGlobals "is_bend" = some (some (.ref f10))) (l10 : K.lookup f10 = some ⟨oc10, od10, .func (PySem.W.fnOf "is_bend" "is_bend" (defArgs sIsBend) (defBody sIsBend) (defScope sIsBend) .none kV10 dc10 pm10 an10 cd10 ct10), sl10⟩) (e10 : PySem.W.codeIn K cd10 "is_bend" = true) (k10 : PySem.W.keepIn K (.ref f10) = true)
    (a11 : PySem.W.nsIn K mainGlobals "is_place" = some (some (.ref f11))) (l11 : K.lookup f11 = some ⟨oc11, od11, .func (PySem.W.fnOf "is_place" "is_place" (defArgs sIsPlace) (defBody sIsPlace) (defScope sIsPlace) .none kV11 dc11 pm11 an11 cd11 ct11), sl11⟩) (e11 : PySem.W.codeIn K cd11 "is_place" = true) (k11 : PySem.W.keepIn K (.ref f11) = true)
    (a12 : PySem.W.nsIn K mainGlobals "look_at_places" = some (some (.ref f12))) (l12 : K.lookup f12 = some ⟨oc12, od12, .func (PySem.W.fnOf "look_at_places" "look_at_places" (defArgs sLookAtPlaces) (defBody sLookAtPlaces) (defScope sLookAtPlaces) .none kV12 dc12 pm12 an12 cd12 ct12), sl12⟩) (e12 : PySem.W.codeIn K cd12 "look_at_places" = true) (k12 : PySem.W.keepIn K (.ref f12) = true)
    (a13 : PySem.W.nsIn K mainGlobals "many_behind" = some (some (.ref f13))) (l13 : K.lookup f13 = some ⟨oc13, od13, .func (PySem.W.fnOf "many_behind" "many_behind" (defArgs sManyBehind) (defBody sManyBehind) (defScope sManyBehind) .none kV13 dc13 pm13 an13 cd13 ct13), sl13⟩) (e13 : PySem.W.codeIn K cd13 "many_behind" = true) (k13 : PySem.W.keepIn K (.ref f13) = true)
    (a14 : PySem.W.nsIn K mainGlobals "_law_many" = some (some (.ref f14))) (l14 : K.lookup f14 = some ⟨oc14, od14, .func (PySem.W.fnOf "_law_many" "_law_many" (defArgs sLMany) (defBody sLMany) (defScope sLMany) .none kV14 dc14 pm14 an14 cd14 ct14), sl14⟩) (e14 : PySem.W.codeIn K cd14 "_law_many" = true) (k14 : PySem.W.keepIn K (.ref f14) = true)
    (a15 : PySem.W.nsIn K mainGlobals "_law_bends" = some (some (.ref f15))) (l15 : K.lookup f15 = some ⟨oc15, od15, .func (PySem.W.fnOf "_law_bends" "_law_bends" (defArgs sLBends) (defBody sLBends) (defScope sLBends) .none kV15 dc15 pm15 an15 cd15 ct15), sl15⟩) (e15 : PySem.W.codeIn K cd15 "_law_bends" = true) (k15 : PySem.W.keepIn K (.ref f15) = true)
    (a16 : PySem.W.nsIn K mainGlobals "_law_behind" = some (some (.ref f16))) (l16 : K.lookup f16 = some ⟨oc16, od16, .func (PySem.W.fnOf "_law_behind" "_law_behind" (defArgs sLBehind) (defBody sLBehind) (defScope sLBehind) .none kV16 dc16 pm16 an16 cd16 ct16), sl16⟩) (e16 : PySem.W.codeIn K cd16 "_law_behind" = true) (k16 : PySem.W.keepIn K (.ref f16) = true)
    (a17 : PySem.W.nsIn K mainGlobals "bends_up_to" = some (some (.ref f17))) (l17 : K.lookup f17 = some ⟨oc17, od17, .func (PySem.W.fnOf "bends_up_to" "bends_up_to" (defArgs sBendsUpTo) (defBody sBendsUpTo) (defScope sBendsUpTo) .none kV17 dc17 pm17 an17 cd17 ct17), sl17⟩) (e17 : PySem.W.codeIn K cd17 "bends_up_to" = true) (k17 : PySem.W.keepIn K (.ref f17) = true)
    (a18 : PySem.W.nsIn K mainGlobals "behind" = some (some (.ref f18))) (l18 : K.lookup f18 = some ⟨oc18, od18, .func (PySem.W.fnOf "behind" "behind" (defArgs sBehind) (defBody sBehind) (defScope sBehind) .none kV18 dc18 pm18 an18 cd18 ct18), sl18⟩) (e18 : PySem.W.codeIn K cd18 "behind" = true) (k18 : PySem.W.keepIn K (.ref f18) = true)
    (a19 : PySem.W.nsIn K mainGlobals "place_ahead" = some (some (.ref f19))) (l19 : K.lookup f19 = some ⟨oc19, od19, .func (PySem.W.fnOf "place_ahead" "place_ahead" (defArgs sPlaceAhead) (defBody sPlaceAhead) (defScope sPlaceAhead) .none kV19 dc19 pm19 an19 cd19 ct19), sl19⟩) (e19 : PySem.W.codeIn K cd19 "place_ahead" = true) (k19 : PySem.W.keepIn K (.ref f19) = true)
    (a20 : PySem.W.nsIn K mainGlobals "ahead" = some (some (.ref f20))) (l20 : K.lookup f20 = some ⟨oc20, od20, .func (PySem.W.fnOf "ahead" "ahead" (defArgs sAhead) (defBody sAhead) (defScope sAhead) .none kV20 dc20 pm20 an20 cd20 ct20), sl20⟩) (e20 : PySem.W.codeIn K cd20 "ahead" = true) (k20 : PySem.W.keepIn K (.ref f20) = true)
    (a21 : PySem.W.nsIn K mainGlobals "opposite" = some (some (.ref f21))) (l21 : K.lookup f21 = some ⟨oc21, od21, .func (PySem.W.fnOf "opposite" "opposite" (defArgs sOpposite) (defBody sOpposite) (defScope sOpposite) .none kV21 dc21 pm21 an21 cd21 ct21), sl21⟩) (e21 : PySem.W.codeIn K cd21 "opposite" = true) (k21 : PySem.W.keepIn K (.ref f21) = true)
    (a22 : PySem.W.nsIn K mainGlobals "minus" = some (some (.ref f22))) (l22 : K.lookup f22 = some ⟨oc22, od22, .func (PySem.W.fnOf "minus" "minus" (defArgs sMinus) (defBody sMinus) (defScope sMinus) .none kV22 dc22 pm22 an22 cd22 ct22), sl22⟩) (e22 : PySem.W.codeIn K cd22 "minus" = true) (k22 : PySem.W.keepIn K (.ref f22) = true)
    (a23 : PySem.W.nsIn K mainGlobals "times" = some (some (.ref f23))) (l23 : K.lookup f23 = some ⟨oc23, od23, .func (PySem.W.fnOf "times" "times" (defArgs sTimes) (defBody sTimes) (defScope sTimes) .none kV23 dc23 pm23 an23 cd23 ct23), sl23⟩) (e23 : PySem.W.codeIn K cd23 "times" = true) (k23 : PySem.W.keepIn K (.ref f23) = true)
    (a24 : PySem.W.nsIn K mainGlobals "straight_determinant" = some (some (.ref f24))) (l24 : K.lookup f24 = some ⟨oc24, od24, .func (PySem.W.fnOf "straight_determinant" "straight_determinant" (defArgs sStraightDeterminant) (defBody sStraightDeterminant) (defScope sStraightDeterminant) .none kV24 dc24 pm24 an24 cd24 ct24), sl24⟩) (e24 : PySem.W.codeIn K cd24 "straight_determinant" = true) (k24 : PySem.W.keepIn K (.ref f24) = true)
    (a25 : PySem.W.nsIn K mainGlobals "is_straight" = some (some (.ref f25))) (l25 : K.lookup f25 = some ⟨oc25, od25, .func (PySem.W.fnOf "is_straight" "is_straight" (defArgs sIsStraight) (defBody sIsStraight) (defScope sIsStraight) .none kV25 dc25 pm25 an25 cd25 ct25), sl25⟩) (e25 : PySem.W.codeIn K cd25 "is_straight" = true) (k25 : PySem.W.keepIn K (.ref f25) = true)
    (a26 : PySem.W.nsIn K mainGlobals "is_step" = some (some (.ref f26))) (l26 : K.lookup f26 = some ⟨oc26, od26, .func (PySem.W.fnOf "is_step" "is_step" (defArgs sIsStep) (defBody sIsStep) (defScope sIsStep) .none kV26 dc26 pm26 an26 cd26 ct26), sl26⟩) (e26 : PySem.W.codeIn K cd26 "is_step" = true) (k26 : PySem.W.keepIn K (.ref f26) = true)
    (a27 : PySem.W.nsIn K mainGlobals "look_at_steps" = some (some (.ref f27))) (l27 : K.lookup f27 = some ⟨oc27, od27, .func (PySem.W.fnOf "look_at_steps" "look_at_steps" (defArgs sLookAtSteps) (defBody sLookAtSteps) (defScope sLookAtSteps) .none kV27 dc27 pm27 an27 cd27 ct27), sl27⟩) (e27 : PySem.W.codeIn K cd27 "look_at_steps" = true) (k27 : PySem.W.keepIn K (.ref f27) = true)
    (a28 : PySem.W.nsIn K mainGlobals "inverse" = some (some (.ref f28))) (l28 : K.lookup f28 = some ⟨oc28, od28, .func (PySem.W.fnOf "inverse" "inverse" (defArgs sInverse) (defBody sInverse) (defScope sInverse) .none kV28 dc28 pm28 an28 cd28 ct28), sl28⟩) (e28 : PySem.W.codeIn K cd28 "inverse" = true) (k28 : PySem.W.keepIn K (.ref f28) = true)
    (a29 : PySem.W.nsIn K mainGlobals "turn_and_map" = some (some (.ref f29))) (l29 : K.lookup f29 = some ⟨oc29, od29, .func (PySem.W.fnOf "turn_and_map" "turn_and_map" (defArgs sTurnAndMap) (defBody sTurnAndMap) (defScope sTurnAndMap) .none kV29 dc29 pm29 an29 cd29 ct29), sl29⟩) (e29 : PySem.W.codeIn K cd29 "turn_and_map" = true) (k29 : PySem.W.keepIn K (.ref f29) = true)
    (a30 : PySem.W.nsIn K mainGlobals "place_by_step" = some (some (.ref f30))) (l30 : K.lookup f30 = some ⟨oc30, od30, .func (PySem.W.fnOf "place_by_step" "place_by_step" (defArgs sPlaceByStep) (defBody sPlaceByStep) (defScope sPlaceByStep) .none kV30 dc30 pm30 an30 cd30 ct30), sl30⟩) (e30 : PySem.W.codeIn K cd30 "place_by_step" = true) (k30 : PySem.W.keepIn K (.ref f30) = true)
    (a31 : PySem.W.nsIn K mainGlobals "place_of" = some (some (.ref f31))) (l31 : K.lookup f31 = some ⟨oc31, od31, .func (PySem.W.fnOf "place_of" "place_of" (defArgs sPlaceOf) (defBody sPlaceOf) (defScope sPlaceOf) .none kV31 dc31 pm31 an31 cd31 ct31), sl31⟩) (e31 : PySem.W.codeIn K cd31 "place_of" = true) (k31 : PySem.W.keepIn K (.ref f31) = true)
    (a32 : PySem.W.nsIn K mainGlobals "turn_by" = some (some (.ref f32))) (l32 : K.lookup f32 = some ⟨oc32, od32, .func (PySem.W.fnOf "turn_by" "turn_by" (defArgs sTurnBy) (defBody sTurnBy) (defScope sTurnBy) .none kV32 dc32 pm32 an32 cd32 ct32), sl32⟩) (e32 : PySem.W.codeIn K cd32 "turn_by" = true) (k32 : PySem.W.keepIn K (.ref f32) = true)
    (a33 : PySem.W.nsIn K mainGlobals "straight_step" = some (some (.ref f33))) (l33 : K.lookup f33 = some ⟨oc33, od33, .func (PySem.W.fnOf "straight_step" "straight_step" (defArgs sStraightStep) (defBody sStraightStep) (defScope sStraightStep) .none kV33 dc33 pm33 an33 cd33 ct33), sl33⟩) (e33 : PySem.W.codeIn K cd33 "straight_step" = true) (k33 : PySem.W.keepIn K (.ref f33) = true)
    (a34 : PySem.W.nsIn K mainGlobals "place_step" = some (some (.ref f34))) (l34 : K.lookup f34 = some ⟨oc34, od34, .func (PySem.W.fnOf "place_step" "place_step" (defArgs sPlaceStep) (defBody sPlaceStep) (defScope sPlaceStep) .none kV34 dc34 pm34 an34 cd34 ct34), sl34⟩) (e34 : PySem.W.codeIn K cd34 "place_step" = true) (k34 : PySem.W.keepIn K (.ref f34) = true)
    (a35 : PySem.W.nsIn K mainGlobals "step_of_place" = some (some (.ref f35))) (l35 : K.lookup f35 = some ⟨oc35, od35, .func (PySem.W.fnOf "step_of_place" "step_of_place" (defArgs sStepOfPlace) (defBody sStepOfPlace) (defScope sStepOfPlace) .none kV35 dc35 pm35 an35 cd35 ct35), sl35⟩) (e35 : PySem.W.codeIn K cd35 "step_of_place" = true) (k35 : PySem.W.keepIn K (.ref f35) = true)
    (a36 : PySem.W.nsIn K mainGlobals "_law_ahead" = some (some (.ref f36))) (l36 : K.lookup f36 = some ⟨oc36, od36, .func (PySem.W.fnOf "_law_ahead" "_law_ahead" (defArgs sLAhead) (defBody sLAhead) (defScope sLAhead) .none kV36 dc36 pm36 an36 cd36 ct36), sl36⟩) (e36 : PySem.W.codeIn K cd36 "_law_ahead" = true) (k36 : PySem.W.keepIn K (.ref f36) = true)
    (a37 : PySem.W.nsIn K mainGlobals "are_beside" = some (some (.ref f37))) (l37 : K.lookup f37 = some ⟨oc37, od37, .func (PySem.W.fnOf "are_beside" "are_beside" (defArgs sAreBeside) (defBody sAreBeside) (defScope sAreBeside) .none kV37 dc37 pm37 an37 cd37 ct37), sl37⟩) (e37 : PySem.W.codeIn K cd37 "are_beside" = true) (k37 : PySem.W.keepIn K (.ref f37) = true)
    (a38 : PySem.W.nsIn K mainGlobals "place_depth" = some (some (.ref f38))) (l38 : K.lookup f38 = some ⟨oc38, od38, .func (PySem.W.fnOf "place_depth" "place_depth" (defArgs sPlaceDepth) (defBody sPlaceDepth) (defScope sPlaceDepth) .none kV38 dc38 pm38 an38 cd38 ct38), sl38⟩) (e38 : PySem.W.codeIn K cd38 "place_depth" = true) (k38 : PySem.W.keepIn K (.ref f38) = true)
    (a39 : PySem.W.nsIn K mainGlobals "depth" = some (some (.ref f39))) (l39 : K.lookup f39 = some ⟨oc39, od39, .func (PySem.W.fnOf "depth" "depth" (defArgs sDepth) (defBody sDepth) (defScope sDepth) .none kV39 dc39 pm39 an39 cd39 ct39), sl39⟩) (e39 : PySem.W.codeIn K cd39 "depth" = true) (k39 : PySem.W.keepIn K (.ref f39) = true)
    (a40 : PySem.W.nsIn K mainGlobals "_law_are_beside" = some (some (.ref f40))) (l40 : K.lookup f40 = some ⟨oc40, od40, .func (PySem.W.fnOf "_law_are_beside" "_law_are_beside" (defArgs sLAreBeside) (defBody sLAreBeside) (defScope sLAreBeside) .none kV40 dc40 pm40 an40 cd40 ct40), sl40⟩) (e40 : PySem.W.codeIn K cd40 "_law_are_beside" = true) (k40 : PySem.W.keepIn K (.ref f40) = true)
    (a41 : PySem.W.findIn K (.ref C) "__init__" = some (some (.ref f41))) (l41 : K.lookup f41 = some ⟨oc41, od41, .func (PySem.W.fnOf "__init__" "LeastRow.__init__" (defArgs sLeastRowInit) (defBody sLeastRowInit) (defScope sLeastRowInit) .none kV41 dc41 pm41 an41 cd41 ct41), sl41⟩) (e41 : PySem.W.codeIn K cd41 "LeastRow.__init__" = true) (k41 : PySem.W.keepIn K (.ref f41) = true) (i41 : PySem.W.isFn K (.ref f41) = true)
    (a42 : PySem.W.nsIn K mainGlobals "plus" = some (some (.ref f42))) (l42 : K.lookup f42 = some ⟨oc42, od42, .func (PySem.W.fnOf "plus" "plus" (defArgs sPlus) (defBody sPlus) (defScope sPlus) .none kV42 dc42 pm42 an42 cd42 ct42), sl42⟩) (e42 : PySem.W.codeIn K cd42 "plus" = true) (k42 : PySem.W.keepIn K (.ref f42) = true)
    (a43 : PySem.W.nsIn K mainGlobals "summed" = some (some (.ref f43))) (l43 : K.lookup f43 = some ⟨oc43, od43, .func (PySem.W.fnOf "summed" "summed" (defArgs sSummed) (defBody sSummed) (defScope sSummed) .none kV43 dc43 pm43 an43 cd43 ct43), sl43⟩) (e43 : PySem.W.codeIn K cd43 "summed" = true) (k43 : PySem.W.keepIn K (.ref f43) = true)
    (a44 : PySem.W.nsIn K mainGlobals "straight_then" = some (some (.ref f44))) (l44 : K.lookup f44 = some ⟨oc44, od44, .func (PySem.W.fnOf "straight_then" "straight_then" (defArgs sStraightThen) (defBody sStraightThen) (defScope sStraightThen) .none kV44 dc44 pm44 an44 cd44 ct44), sl44⟩) (e44 : PySem.W.codeIn K cd44 "straight_then" = true) (k44 : PySem.W.keepIn K (.ref f44) = true)
    (a45 : PySem.W.nsIn K mainGlobals "trimmed" = some (some (.ref f45))) (l45 : K.lookup f45 = some ⟨oc45, od45, .func (PySem.W.fnOf "trimmed" "trimmed" (defArgs sTrimmed) (defBody sTrimmed) (defScope sTrimmed) .none kV45 dc45 pm45 an45 cd45 ct45), sl45⟩) (e45 : PySem.W.codeIn K cd45 "trimmed" = true) (k45 : PySem.W.keepIn K (.ref f45) = true)
    (a46 : PySem.W.nsIn K mainGlobals "one_plus" = some (some (.ref f46))) (l46 : K.lookup f46 = some ⟨oc46, od46, .func (PySem.W.fnOf "one_plus" "one_plus" (defArgs sOnePlus) (defBody sOnePlus) (defScope sOnePlus) .none kV46 dc46 pm46 an46 cd46 ct46), sl46⟩) (e46 : PySem.W.codeIn K cd46 "one_plus" = true) (k46 : PySem.W.keepIn K (.ref f46) = true)
    (a47 : PySem.W.nsIn K mainGlobals "one_times" = some (some (.ref f47))) (l47 : K.lookup f47 = some ⟨oc47, od47, .func (PySem.W.fnOf "one_times" "one_times" (defArgs sOneTimes) (defBody sOneTimes) (defScope sOneTimes) .none kV47 dc47 pm47 an47 cd47 ct47), sl47⟩) (e47 : PySem.W.codeIn K cd47 "one_times" = true) (k47 : PySem.W.keepIn K (.ref f47) = true)
    (a48 : PySem.W.nsIn K mainGlobals "one_put" = some (some (.ref f48))) (l48 : K.lookup f48 = some ⟨oc48, od48, .func (PySem.W.fnOf "one_put" "one_put" (defArgs sOnePut) (defBody sOnePut) (defScope sOnePut) .none kV48 dc48 pm48 an48 cd48 ct48), sl48⟩) (e48 : PySem.W.codeIn K cd48 "one_put" = true) (k48 : PySem.W.keepIn K (.ref f48) = true)
    (a49 : PySem.W.nsIn K mainGlobals "one_scaled" = some (some (.ref f49))) (l49 : K.lookup f49 = some ⟨oc49, od49, .func (PySem.W.fnOf "one_scaled" "one_scaled" (defArgs sOneScaled) (defBody sOneScaled) (defScope sOneScaled) .none kV49 dc49 pm49 an49 cd49 ct49), sl49⟩) (e49 : PySem.W.codeIn K cd49 "one_scaled" = true) (k49 : PySem.W.keepIn K (.ref f49) = true)
    (a50 : PySem.W.nsIn K mainGlobals "bend_ahead" = some (some (.ref f50))) (l50 : K.lookup f50 = some ⟨oc50, od50, .func (PySem.W.fnOf "bend_ahead" "bend_ahead" (defArgs sBendAhead) (defBody sBendAhead) (defScope sBendAhead) .none kV50 dc50 pm50 an50 cd50 ct50), sl50⟩) (e50 : PySem.W.codeIn K cd50 "bend_ahead" = true) (k50 : PySem.W.keepIn K (.ref f50) = true)
    (a51 : PySem.W.findIn K (.ref C) "add_to_last_bend" = some (some (.ref f51))) (l51 : K.lookup f51 = some ⟨oc51, od51, .func (PySem.W.fnOf "add_to_last_bend" "LeastRow.add_to_last_bend" (defArgs sLeastRowAddToLastBend) (defBody sLeastRowAddToLastBend) (defScope sLeastRowAddToLastBend) .none kV51 dc51 pm51 an51 cd51 ct51), sl51⟩) (e51 : PySem.W.codeIn K cd51 "LeastRow.add_to_last_bend" = true) (k51 : PySem.W.keepIn K (.ref f51) = true) (i51 : PySem.W.isFn K (.ref f51) = true)
    (a52 : PySem.W.findIn K (.ref C) "put_bend" = some (some (.ref f52))) (l52 : K.lookup f52 = some ⟨oc52, od52, .func (PySem.W.fnOf "put_bend" "LeastRow.put_bend" (defArgs sLeastRowPutBend) (defBody sLeastRowPutBend) (defScope sLeastRowPutBend) .none kV52 dc52 pm52 an52 cd52 ct52), sl52⟩) (e52 : PySem.W.codeIn K cd52 "LeastRow.put_bend" = true) (k52 : PySem.W.keepIn K (.ref f52) = true) (i52 : PySem.W.isFn K (.ref f52) = true)
    (a53 : PySem.W.findIn K (.ref C) "put_piece" = some (some (.ref f53))) (l53 : K.lookup f53 = some ⟨oc53, od53, .func (PySem.W.fnOf "put_piece" "LeastRow.put_piece" (defArgs sLeastRowPutPiece) (defBody sLeastRowPutPiece) (defScope sLeastRowPutPiece) .none kV53 dc53 pm53 an53 cd53 ct53), sl53⟩) (e53 : PySem.W.codeIn K cd53 "LeastRow.put_piece" = true) (k53 : PySem.W.keepIn K (.ref f53) = true) (i53 : PySem.W.isFn K (.ref f53) = true)
    (a54 : PySem.W.findIn K (.ref C) "as_step" = some (some (.ref f54))) (l54 : K.lookup f54 = some ⟨oc54, od54, .func (PySem.W.fnOf "as_step" "LeastRow.as_step" (defArgs sLeastRowAsStep) (defBody sLeastRowAsStep) (defScope sLeastRowAsStep) .none kV54 dc54 pm54 an54 cd54 ct54), sl54⟩) (e54 : PySem.W.codeIn K cd54 "LeastRow.as_step" = true) (k54 : PySem.W.keepIn K (.ref f54) = true) (i54 : PySem.W.isFn K (.ref f54) = true)
    (a55 : PySem.W.nsIn K mainGlobals "step_and_row" = some (some (.ref f55))) (l55 : K.lookup f55 = some ⟨oc55, od55, .func (PySem.W.fnOf "step_and_row" "step_and_row" (defArgs sStepAndRow) (defBody sStepAndRow) (defScope sStepAndRow) .none kV55 dc55 pm55 an55 cd55 ct55), sl55⟩) (e55 : PySem.W.codeIn K cd55 "step_and_row" = true) (k55 : PySem.W.keepIn K (.ref f55) = true)
    (a56 : PySem.W.nsIn K mainGlobals "row_by_step" = some (some (.ref f56))) (l56 : K.lookup f56 = some ⟨oc56, od56, .func (PySem.W.fnOf "row_by_step" "row_by_step" (defArgs sRowByStep) (defBody sRowByStep) (defScope sRowByStep) .none kV56 dc56 pm56 an56 cd56 ct56), sl56⟩) (e56 : PySem.W.codeIn K cd56 "row_by_step" = true) (k56 : PySem.W.keepIn K (.ref f56) = true)
    (a57 : PySem.W.nsIn K mainGlobals "step_then" = some (some (.ref f57))) (l57 : K.lookup f57 = some ⟨oc57, od57, .func (PySem.W.fnOf "step_then" "step_then" (defArgs sStepThen) (defBody sStepThen) (defScope sStepThen) .none kV57 dc57 pm57 an57 cd57 ct57), sl57⟩) (e57 : PySem.W.codeIn K cd57 "step_then" = true) (k57 : PySem.W.keepIn K (.ref f57) = true)
    (a58 : PySem.W.nsIn K mainGlobals "product" = some (some (.ref f58))) (l58 : K.lookup f58 = some ⟨oc58, od58, .func (PySem.W.fnOf "product" "product" (defArgs sProduct) (defBody sProduct) (defScope sProduct) .none kV58 dc58 pm58 an58 cd58 ct58), sl58⟩) (e58 : PySem.W.codeIn K cd58 "product" = true) (k58 : PySem.W.keepIn K (.ref f58) = true)
    (a59 : PySem.W.nsIn K mainGlobals "_law_goes_on" = some (some (.ref f59))) (l59 : K.lookup f59 = some ⟨oc59, od59, .func (PySem.W.fnOf "_law_goes_on" "_law_goes_on" (defArgs sLGoesOn) (defBody sLGoesOn) (defScope sLGoesOn) .none kV59 dc59 pm59 an59 cd59 ct59), sl59⟩) (e59 : PySem.W.codeIn K cd59 "_law_goes_on" = true) (k59 : PySem.W.keepIn K (.ref f59) = true)
    (a60 : PySem.W.nsIn K mainGlobals "law" = some (some (.ref f60))) (l60 : K.lookup f60 = some ⟨oc60, od60, .func (PySem.W.fnOf "law" "law" (defArgs sLaw) (defBody sLaw) (defScope sLaw) .none kV60 dc60 pm60 an60 cd60 ct60), sl60⟩) (e60 : PySem.W.codeIn K cd60 "law" = true) (k60 : PySem.W.keepIn K (.ref f60) = true)
    (z0 : PySem.W.nsIn K mainGlobals "all" = some none)
    (z1 : PySem.W.nsIn K mainGlobals "bool" = some none)
    (z2 : PySem.W.nsIn K mainGlobals "enumerate" = some none)
    (z3 : PySem.W.nsIn K mainGlobals "int" = some none)
    (z4 : PySem.W.nsIn K mainGlobals "isinstance" = some none)
    (z5 : PySem.W.nsIn K mainGlobals "len" = some none)
    (z6 : PySem.W.nsIn K mainGlobals "list" = some none)
    (z7 : PySem.W.nsIn K mainGlobals "max" = some none)
    (z8 : PySem.W.nsIn K mainGlobals "min" = some none)
    (z9 : PySem.W.nsIn K mainGlobals "range" = some none)
    (z10 : PySem.W.nsIn K mainGlobals "repr" = some none)
    (z11 : PySem.W.nsIn K mainGlobals "reversed" = some none)
    (z12 : PySem.W.nsIn K mainGlobals "set" = some none)
    (z13 : PySem.W.nsIn K mainGlobals "sorted" = some none)
    (z14 : PySem.W.nsIn K mainGlobals "tuple" = some none)
    (z15 : PySem.W.nsIn K mainGlobals "zip" = some none)
    : ∃ fd : FuncData, (∀ (s : Shared) (v : Value), BindsTo s fd ⟨[v], []⟩ [("_law_script", v)]) ∧ ∀ base : Heap, K.In base → base.Ns mainGlobals mg → GFn l.prog w K mg base 12 fa fd ["_law_script"] (spLaw K) := by
  have e := hfa.symm.trans (PySem.W.mg_of X G a60)
  cases e
  have F0 := fun_mk (st := sLDeck) l0 e0 k0
  have b0 := F0.binds (ps := pLDeck) fun _ _ _ _ _ _ us hl => match us, hl with | [_], _ => rfl
  have g0 := PySem.W.mg_of X G a0
  have F1 := fun_mk (st := sLDraw) l1 e1 k1
  have b1 := F1.binds (ps := pLDraw) fun _ _ _ _ _ _ us hl => match us, hl with | [_, _], _ => rfl
  have g1 := PySem.W.mg_of X G a1
  have F2 := fun_mk (st := sLPick) l2 e2 k2
  have b2 := F2.binds (ps := pLPick) fun _ _ _ _ _ _ us hl => match us, hl with | [_, _], _ => rfl
  have g2 := PySem.W.mg_of X G a2
  have F3 := fun_mk (st := sLSomeField) l3 e3 k3
  have b3 := F3.binds (ps := pLSomeField) fun _ _ _ _ _ _ us hl => match us, hl with | [_], _ => rfl
  have g3 := PySem.W.mg_of X G a3
  have F4 := fun_mk (st := sLSomeBend) l4 e4 k4
  have b4 := F4.binds (ps := pLSomeBend) fun _ _ _ _ _ _ us hl => match us, hl with | [_, _, _], _ => rfl
  have g4 := PySem.W.mg_of X G a4
  have F5 := fun_mk (st := sLSomePlace) l5 e5 k5
  have b5 := F5.binds (ps := pLSomePlace) fun _ _ _ _ _ _ us hl => match us, hl with | [_, _, _, _], _ => rfl
  have g5 := PySem.W.mg_of X G a5
  have F6 := fun_mk (st := sIsInteger) l6 e6 k6
  have b6 := F6.binds (ps := pIsInteger) fun _ _ _ _ _ _ us hl => match us, hl with | [_], _ => rfl
  have g6 := PySem.W.mg_of X G a6
  have F7 := fun_mk (st := sIsNumber) l7 e7 k7
  have b7 := F7.binds (ps := pIsNumber) fun _ _ _ _ _ _ us hl => match us, hl with | [_, _], _ => rfl
  have g7 := PySem.W.mg_of X G a7
  have F8 := fun_mk (st := sAreNumbers) l8 e8 k8
  have b8 := F8.binds (ps := pAreNumbers) fun _ _ _ _ _ _ us hl => match us, hl with | [_, _], _ => rfl
  have g8 := PySem.W.mg_of X G a8
  have F9 := fun_mk (st := sIsOneLetter) l9 e9 k9
  have b9 := F9.binds (ps := pIsOneLetter) fun _ _ _ _ _ _ us hl => match us, hl with | [_, _], _ => rfl
  have g9 := PySem.W.mg_of X G a9
  have F10 := fun_mk (st := sIsBend) l10 e10 k10
  have b10 := F10.binds (ps := pIsBend) fun _ _ _ _ _ _ us hl => match us, hl with | [_, _], _ => rfl
  have g10 := PySem.W.mg_of X G a10
  have F11 := fun_mk (st := sIsPlace) l11 e11 k11
  have b11 := F11.binds (ps := pIsPlace) fun _ _ _ _ _ _ us hl => match us, hl with | [_, _], _ => rfl
  have g11 := PySem.W.mg_of X G a11
  have F12 := fun_mk (st := sLookAtPlaces) l12 e12 k12
  have b12 := F12.binds (ps := pLookAtPlaces) fun _ _ _ _ _ _ us hl => match us, hl with | [_, _], _ => rfl
  have g12 := PySem.W.mg_of X G a12
  have F13 := fun_mk (st := sManyBehind) l13 e13 k13
  have b13 := F13.binds (ps := pManyBehind) fun _ _ _ _ _ _ us hl => match us, hl with | [_, _, _], _ => rfl
  have g13 := PySem.W.mg_of X G a13
  have F14 := fun_mk (st := sLMany) l14 e14 k14
  have b14 := F14.binds (ps := pLMany) fun _ _ _ _ _ _ us hl => match us, hl with | [_, _, _], _ => rfl
  have g14 := PySem.W.mg_of X G a14
  have F15 := fun_mk (st := sLBends) l15 e15 k15
  have b15 := F15.binds (ps := pLBends) fun _ _ _ _ _ _ us hl => match us, hl with | [_, _], _ => rfl
  have g15 := PySem.W.mg_of X G a15
  have F16 := fun_mk (st := sLBehind) l16 e16 k16
  have b16 := F16.binds (ps := pLBehind) fun _ _ _ _ _ _ us hl => match us, hl with | [_, _, _], _ => rfl
  have g16 := PySem.W.mg_of X G a16
  have F17 := fun_mk (st := sBendsUpTo) l17 e17 k17
  have b17 := F17.binds (ps := pBendsUpTo) fun _ _ _ _ _ _ us hl => match us, hl with | [_, _], _ => rfl
  have g17 := PySem.W.mg_of X G a17
  have F18 := fun_mk (st := sBehind) l18 e18 k18
  have b18 := F18.binds (ps := pBehind) fun _ _ _ _ _ _ us hl => match us, hl with | [_, _, _], _ => rfl
  have g18 := PySem.W.mg_of X G a18
  have F19 := fun_mk (st := sPlaceAhead) l19 e19 k19
  have b19 := F19.binds (ps := pPlaceAhead) fun _ _ _ _ _ _ us hl => match us, hl with | [_], _ => rfl
  have g19 := PySem.W.mg_of X G a19
  have F20 := fun_mk (st := sAhead) l20 e20 k20
  have b20 := F20.binds (ps := pAhead) fun _ _ _ _ _ _ us hl => match us, hl with | [_, _], _ => rfl
  have g20 := PySem.W.mg_of X G a20
  have F21 := fun_mk (st := sOpposite) l21 e21 k21
  have b21 := F21.binds (ps := pOpposite) fun _ _ _ _ _ _ us hl => match us, hl with | [_, _], _ => rfl
  have g21 := PySem.W.mg_of X G a21
  have F22 := fun_mk (st := sMinus) l22 e22 k22
  have b22 := F22.binds (ps := pMinus) fun _ _ _ _ _ _ us hl => match us, hl with | [_, _, _], _ => rfl
  have g22 := PySem.W.mg_of X G a22
  have F23 := fun_mk (st := sTimes) l23 e23 k23
  have b23 := F23.binds (ps := pTimes) fun _ _ _ _ _ _ us hl => match us, hl with | [_, _, _], _ => rfl
  have g23 := PySem.W.mg_of X G a23
  have F24 := fun_mk (st := sStraightDeterminant) l24 e24 k24
  have b24 := F24.binds (ps := pStraightDeterminant) fun _ _ _ _ _ _ us hl => match us, hl with | [_, _], _ => rfl
  have g24 := PySem.W.mg_of X G a24
  have F25 := fun_mk (st := sIsStraight) l25 e25 k25
  have b25 := F25.binds (ps := pIsStraight) fun _ _ _ _ _ _ us hl => match us, hl with | [_, _], _ => rfl
  have g25 := PySem.W.mg_of X G a25
  have F26 := fun_mk (st := sIsStep) l26 e26 k26
  have b26 := F26.binds (ps := pIsStep) fun _ _ _ _ _ _ us hl => match us, hl with | [_, _], _ => rfl
  have g26 := PySem.W.mg_of X G a26
  have F27 := fun_mk (st := sLookAtSteps) l27 e27 k27
  have b27 := F27.binds (ps := pLookAtSteps) fun _ _ _ _ _ _ us hl => match us, hl with | [_, _], _ => rfl
  have g27 := PySem.W.mg_of X G a27
  have F28 := fun_mk (st := sInverse) l28 e28 k28
  have b28 := F28.binds (ps := pInverse) fun _ _ _ _ _ _ us hl => match us, hl with | [_, _], _ => rfl
  have g28 := PySem.W.mg_of X G a28
  have F29 := fun_mk (st := sTurnAndMap) l29 e29 k29
  have b29 := F29.binds (ps := pTurnAndMap) fun _ _ _ _ _ _ us hl => match us, hl with | [_, _], _ => rfl
  have g29 := PySem.W.mg_of X G a29
  have F30 := fun_mk (st := sPlaceByStep) l30 e30 k30
  have b30 := F30.binds (ps := pPlaceByStep) fun _ _ _ _ _ _ us hl => match us, hl with | [_, _, _], _ => rfl
  have g30 := PySem.W.mg_of X G a30
  have F31 := fun_mk (st := sPlaceOf) l31 e31 k31
  have b31 := F31.binds (ps := pPlaceOf) fun _ _ _ _ _ _ us hl => match us, hl with | [_, _, _], _ => rfl
  have g31 := PySem.W.mg_of X G a31
  have F32 := fun_mk (st := sTurnBy) l32 e32 k32
  have b32 := F32.binds (ps := pTurnBy) fun _ _ _ _ _ _ us hl => match us, hl with | [_], _ => rfl
  have g32 := PySem.W.mg_of X G a32
  have F33 := fun_mk (st := sStraightStep) l33 e33 k33
  have b33 := F33.binds (ps := pStraightStep) fun _ _ _ _ _ _ us hl => match us, hl with | [_], _ => rfl
  have g33 := PySem.W.mg_of X G a33
  have F34 := fun_mk (st := sPlaceStep) l34 e34 k34
  have b34 := F34.binds (ps := pPlaceStep) fun _ _ _ _ _ _ us hl => match us, hl with | [_], _ => rfl
  have g34 := PySem.W.mg_of X G a34
  have F35 := fun_mk (st := sStepOfPlace) l35 e35 k35
  have b35 := F35.binds (ps := pStepOfPlace) fun _ _ _ _ _ _ us hl => match us, hl with | [_, _], _ => rfl
  have g35 := PySem.W.mg_of X G a35
  have F36 := fun_mk (st := sLAhead) l36 e36 k36
  have b36 := F36.binds (ps := pLAhead) fun _ _ _ _ _ _ us hl => match us, hl with | [_], _ => rfl
  have g36 := PySem.W.mg_of X G a36
  have F37 := fun_mk (st := sAreBeside) l37 e37 k37
  have b37 := F37.binds (ps := pAreBeside) fun _ _ _ _ _ _ us hl => match us, hl with | [_, _, _], _ => rfl
  have g37 := PySem.W.mg_of X G a37
  have F38 := fun_mk (st := sPlaceDepth) l38 e38 k38
  have b38 := F38.binds (ps := pPlaceDepth) fun _ _ _ _ _ _ us hl => match us, hl with | [_], _ => rfl
  have g38 := PySem.W.mg_of X G a38
  have F39 := fun_mk (st := sDepth) l39 e39 k39
  have b39 := F39.binds (ps := pDepth) fun _ _ _ _ _ _ us hl => match us, hl with | [_, _], _ => rfl
  have g39 := PySem.W.mg_of X G a39
  have F40 := fun_mk (st := sLAreBeside) l40 e40 k40
  have b40 := F40.binds (ps := pLAreBeside) fun _ _ _ _ _ _ us hl => match us, hl with | [_, _, _, _], _ => rfl
  have g40 := PySem.W.mg_of X G a40
  have F41 := fun_mk (st := sLeastRowInit) l41 e41 k41
  have b41 := F41.binds (ps := pLeastRowInit) fun _ _ _ _ _ _ us hl => match us, hl with | [_, _, _], _ => rfl
  have F42 := fun_mk (st := sPlus) l42 e42 k42
  have b42 := F42.binds (ps := pPlus) fun _ _ _ _ _ _ us hl => match us, hl with | [_, _, _], _ => rfl
  have g42 := PySem.W.mg_of X G a42
  have F43 := fun_mk (st := sSummed) l43 e43 k43
  have b43 := F43.binds (ps := pSummed) fun _ _ _ _ _ _ us hl => match us, hl with | [_, _, _, _, _, _], _ => rfl
  have g43 := PySem.W.mg_of X G a43
  have F44 := fun_mk (st := sStraightThen) l44 e44 k44
  have b44 := F44.binds (ps := pStraightThen) fun _ _ _ _ _ _ us hl => match us, hl with | [_, _, _], _ => rfl
  have g44 := PySem.W.mg_of X G a44
  have F45 := fun_mk (st := sTrimmed) l45 e45 k45
  have b45 := F45.binds (ps := pTrimmed) fun _ _ _ _ _ _ us hl => match us, hl with | [_], _ => rfl
  have g45 := PySem.W.mg_of X G a45
  have F46 := fun_mk (st := sOnePlus) l46 e46 k46
  have b46 := F46.binds (ps := pOnePlus) fun _ _ _ _ _ _ us hl => match us, hl with | [_, _, _], _ => rfl
  have g46 := PySem.W.mg_of X G a46
  have F47 := fun_mk (st := sOneTimes) l47 e47 k47
  have b47 := F47.binds (ps := pOneTimes) fun _ _ _ _ _ _ us hl => match us, hl with | [_, _, _], _ => rfl
  have g47 := PySem.W.mg_of X G a47
  have F48 := fun_mk (st := sOnePut) l48 e48 k48
  have b48 := F48.binds (ps := pOnePut) fun _ _ _ _ _ _ us hl => match us, hl with | [_, _, _], _ => rfl
  have g48 := PySem.W.mg_of X G a48
  have F49 := fun_mk (st := sOneScaled) l49 e49 k49
  have b49 := F49.binds (ps := pOneScaled) fun _ _ _ _ _ _ us hl => match us, hl with | [_, _, _], _ => rfl
  have g49 := PySem.W.mg_of X G a49
  have F50 := fun_mk (st := sBendAhead) l50 e50 k50
  have b50 := F50.binds (ps := pBendAhead) fun _ _ _ _ _ _ us hl => match us, hl with | [_, _, _], _ => rfl
  have g50 := PySem.W.mg_of X G a50
  have F51 := fun_mk (st := sLeastRowAddToLastBend) l51 e51 k51
  have b51 := F51.binds (ps := pLeastRowAddToLastBend) fun _ _ _ _ _ _ us hl => match us, hl with | [_, _], _ => rfl
  have F52 := fun_mk (st := sLeastRowPutBend) l52 e52 k52
  have b52 := F52.binds (ps := pLeastRowPutBend) fun _ _ _ _ _ _ us hl => match us, hl with | [_, _], _ => rfl
  have F53 := fun_mk (st := sLeastRowPutPiece) l53 e53 k53
  have b53 := F53.binds (ps := pLeastRowPutPiece) fun _ _ _ _ _ _ us hl => match us, hl with | [_, _], _ => rfl
  have F54 := fun_mk (st := sLeastRowAsStep) l54 e54 k54
  have b54 := F54.binds (ps := pLeastRowAsStep) fun _ _ _ _ _ _ us hl => match us, hl with | [_], _ => rfl
  have F55 := fun_mk (st := sStepAndRow) l55 e55 k55
  have b55 := F55.binds (ps := pStepAndRow) fun _ _ _ _ _ _ us hl => match us, hl with | [_, _, _], _ => rfl
  have g55 := PySem.W.mg_of X G a55
  have F56 := fun_mk (st := sRowByStep) l56 e56 k56
  have b56 := F56.binds (ps := pRowByStep) fun _ _ _ _ _ _ us hl => match us, hl with | [_], _ => rfl
  have g56 := PySem.W.mg_of X G a56
  have F57 := fun_mk (st := sStepThen) l57 e57 k57
  have b57 := F57.binds (ps := pStepThen) fun _ _ _ _ _ _ us hl => match us, hl with | [_, _, _], _ => rfl
  have g57 := PySem.W.mg_of X G a57
  have F58 := fun_mk (st := sProduct) l58 e58 k58
  have b58 := F58.binds (ps := pProduct) fun _ _ _ _ _ _ us hl => match us, hl with | [_, _, _], _ => rfl
  have g58 := PySem.W.mg_of X G a58
  have F59 := fun_mk (st := sLGoesOn) l59 e59 k59
  have b59 := F59.binds (ps := pLGoesOn) fun _ _ _ _ _ _ us hl => match us, hl with | [_, _, _], _ => rfl
  have g59 := PySem.W.mg_of X G a59
  have F60 := fun_mk (st := sLaw) l60 e60 k60
  have g60 := PySem.W.mg_of X G a60
  have m0 := PySem.W.mg_none_of X G z0
  have m1 := PySem.W.mg_none_of X G z1
  have m2 := PySem.W.mg_none_of X G z2
  have m3 := PySem.W.mg_none_of X G z3
  have m4 := PySem.W.mg_none_of X G z4
  have m5 := PySem.W.mg_none_of X G z5
  have m6 := PySem.W.mg_none_of X G z6
  have m7 := PySem.W.mg_none_of X G z7
  have m8 := PySem.W.mg_none_of X G z8
  have m9 := PySem.W.mg_none_of X G z9
  have m10 := PySem.W.mg_none_of X G z10
  have m11 := PySem.W.mg_none_of X G z11
  have m12 := PySem.W.mg_none_of X G z12
  have m13 := PySem.W.mg_none_of X G z13
  have m14 := PySem.W.mg_none_of X G z14
  have m15 := PySem.W.mg_none_of X G z15
  have gS := PySem.W.mg_of X G aS
  have gP := PySem.W.mg_of X G aP
  have gN := PySem.W.mg_of X G aN
  have gC := PySem.W.mg_of X G aC
  have gST := PySem.W.mg_of X G aST
  have gBE := PySem.W.mg_of X G aBE
  have gRO := PySem.W.mg_of X G aRO
  have gSA := PySem.W.mg_of X G aSA
  have hR := fun (H : Hp) (q : Nat) (F : Fld.IsF q) => @root_at K aR tR H q F
  have hSm := fun (H : Hp) (q : Nat) (F : Fld.IsF q) => @same_at K aS0 tA H q F
  have LCC : LC K C := ⟨⟨c1, c2, c3, c4⟩, c5, c6, c7, c8⟩
  have kb0 := kb_sw2 (a := "q") (b := "place") F20 fun _ _ _ _ _ _ _ _ => rfl
  have kb1 := kb_sw2 (a := "q") (b := "place") F39 fun _ _ _ _ _ _ _ _ => rfl
  have kb2 := kb_rv3 (a := "q") (b := "place") (c := "degree") F18 fun _ _ _ _ _ _ _ _ _ => rfl
  have kb3 := kb_rv3 (a := "q") (b := "place") (c := "degree") F13 fun _ _ _ _ _ _ _ _ _ => rfl
  refine ⟨PySem.W.fnOf "law" "law" (defArgs sLaw) (defBody sLaw) (defScope sLaw) .none kV60 dc60 pm60 an60 cd60 ct60, fun s v => .of_eq rfl, fun base _ _ => ?_⟩
  have O0 := ok_deck (P := l.prog) (w := w) (K := K) (mg := mg) (base := base) (k := 0) F0 m3 m6
  have O1 := ok_draw (P := l.prog) (w := w) (K := K) (mg := mg) (base := base) (k := 0) F1 m3 m7
  have O2 := ok_pick (P := l.prog) (w := w) (K := K) (mg := mg) (base := base) F2 ⟨O1, g1, k1, b1⟩ m5
  have O2T := pk_tup (P := l.prog) (w := w) (K := K) (mg := mg) (base := base) F2 ⟨O1, g1, k1, b1⟩ m5
  have O3 := ok_sf (P := l.prog) (w := w) (K := K) (mg := mg) (base := base) F3 ⟨O1, g1, k1, b1⟩ ⟨O2, g2, k2, b2⟩
  have O4 := ok_sbd (P := l.prog) (w := w) (K := K) (mg := mg) (base := base) F4 ⟨O1, g1, k1, b1⟩ ⟨O2, g2, k2, b2⟩ m8 m6 m9 m14
  have O5 := ok_spw (P := l.prog) (w := w) (K := K) (mg := mg) (base := base) F5 ⟨O1, g1, k1, b1⟩ ⟨O4, g4, k4, b4⟩ m9
  have O6 := ok_isint (P := l.prog) (w := w) (K := K) (mg := mg) (base := base) (k := 0) F6 m3 m1 m4
  have O7 := ok_isnum (P := l.prog) (w := w) (K := K) (mg := mg) (base := base) F7 ⟨O6, g6, k6, b6⟩
  have O8 := ok_aren (P := l.prog) (w := w) (K := K) (mg := mg) (base := base) F8 ⟨O7, g7, k7, b7⟩ m14 m0 m4
  have O9 := ok_ispo (P := l.prog) (w := w) (K := K) (mg := mg) (base := base) F9 ⟨O8, g8, k8, b8⟩ m5
  have O10 := ok_isbd (P := l.prog) (w := w) (K := K) (mg := mg) (base := base) F10 ⟨O9, g9, k9, b9⟩ m5
  have O11 := ok_ispl (P := l.prog) (w := w) (K := K) (mg := mg) (base := base) F11 ⟨O6, g6, k6, b6⟩ ⟨O10, g10, k10, b10⟩ ⟨O8, g8, k8, b8⟩ gN gST gBE m5 m14 m4 m0
  have O12 := ok_lookp (P := l.prog) (w := w) (K := K) (mg := mg) (base := base) F12 ⟨O11, g11, k11, b11⟩
  have O13 := ok_mbh (P := l.prog) (w := w) (K := K) (mg := mg) (base := base) F13 ⟨O12, g12, k12, b12⟩ gST gRO hR m9
  have O14 := ok_lmn (P := l.prog) (w := w) (K := K) (mg := mg) (base := base) F14 m9 m3
  have O15 := ok_lbe (P := l.prog) (w := w) (K := K) (mg := mg) (base := base) F15 m9 m13
  have O16 := ok_lbh (P := l.prog) (w := w) (K := K) (mg := mg) (base := base) F16 ⟨O15, g15, k15, b15⟩ m9 m14
  have O17 := ok_but (P := l.prog) (w := w) (K := K) (mg := mg) (base := base) F17 m9 m13
  have O18 := ok_bhd (P := l.prog) (w := w) (K := K) (mg := mg) (base := base) F18 ⟨O12, g12, k12, b12⟩ ⟨O17, g17, k17, b17⟩ gST gBE gN gRO hR m9 m14
  have O19 := ok_pahead (P := l.prog) (w := w) (K := K) (mg := mg) (base := base) F19 gST gBE gRO hR m5
  have O20 := ok_ahr (P := l.prog) (w := w) (K := K) (mg := mg) (base := base) F20 ⟨O12, g12, k12, b12⟩ ⟨O19, g19, k19, b19⟩
  have O21 := ok_opposite (P := l.prog) (w := w) (K := K) (mg := mg) (base := base) (k := 0) F21 gS tS
  have O22 := ok_minus (P := l.prog) (w := w) (K := K) (mg := mg) (base := base) F22 ⟨O21, g21, k21, b21⟩ gS tS
  have O23 := ok_times (P := l.prog) (w := w) (K := K) (mg := mg) (base := base) (k := 0) F23 gP tP
  have O24 := ok_det (P := l.prog) (w := w) (K := K) (mg := mg) (base := base) F24 ⟨O22, g22, k22, b22⟩ ⟨O23, g23, k23, b23⟩
  have O25 := ok_isst (P := l.prog) (w := w) (K := K) (mg := mg) (base := base) F25 ⟨O8, g8, k8, b8⟩ ⟨O24, g24, k24, b24⟩ m5
  have O26 := ok_issp (P := l.prog) (w := w) (K := K) (mg := mg) (base := base) F26 ⟨O6, g6, k6, b6⟩ ⟨O10, g10, k10, b10⟩ ⟨O8, g8, k8, b8⟩ ⟨O25, g25, k25, b25⟩ gN m5 m14 m4 m0 m7
  have O27 := ok_looks (P := l.prog) (w := w) (K := K) (mg := mg) (base := base) F27 ⟨O26, g26, k26, b26⟩
  have O28 := ok_inverse (P := l.prog) (w := w) (K := K) (mg := mg) (base := base) (k := 0) F28 gP tP
  have O29 := ok_turn_and_map (P := l.prog) (w := w) (K := K) (mg := mg) (base := base) F29 ⟨O28, g28, k28, b28⟩ ⟨O22, g22, k22, b22⟩ ⟨O23, g23, k23, b23⟩ gN
  have O30 := ok_pbs (P := l.prog) (w := w) (K := K) (mg := mg) (base := base) F30 ⟨O29, g29, k29, b29⟩ gN gST gBE m5
  have O31 := ok_pof (P := l.prog) (w := w) (K := K) (mg := mg) (base := base) F31 ⟨O27, g27, k27, b27⟩ ⟨O30, g30, k30, b30⟩ gST gBE
  have O32 := ok_turn_by (P := l.prog) (w := w) (K := K) (mg := mg) (base := base) (k := 0) F32 
  have O33 := ok_sts (P := l.prog) (w := w) (K := K) (mg := mg) (base := base) F33 gN
  have O34 := ok_pst (P := l.prog) (w := w) (K := K) (mg := mg) (base := base) F34 ⟨O32, g32, k32, b32⟩ ⟨O33, g33, k33, b33⟩ gN gST gSA hSm m5
  have O35 := ok_sop (P := l.prog) (w := w) (K := K) (mg := mg) (base := base) F35 ⟨O12, g12, k12, b12⟩ ⟨O34, g34, k34, b34⟩
  have O36 := ok_lah (P := l.prog) (w := w) (K := K) (mg := mg) (base := base) F36 
  have O37 := ok_abb (P := l.prog) (w := w) (K := K) (mg := mg) (base := base) F37 ⟨O12, g12, k12, b12⟩ ⟨O19, g19, k19, b19⟩
  have O38 := ok_pld (P := l.prog) (w := w) (K := K) (mg := mg) (base := base) F38 gBE m5
  have O39 := ok_dpt (P := l.prog) (w := w) (K := K) (mg := mg) (base := base) F39 ⟨O12, g12, k12, b12⟩ ⟨O38, g38, k38, b38⟩
  have O40 := ok_lab (P := l.prog) (w := w) (K := K) (mg := mg) (base := base) F40 ⟨O20, g20, k20, b20⟩ ⟨O37, g37, k37, b37⟩ ⟨O39, g39, k39, b39⟩ kb0 kb1 m10
  have O41 := ok_linit (P := l.prog) (w := w) (K := K) (mg := mg) (base := base) F41 LCC m5 m6
  have O42 := ok_plus (P := l.prog) (w := w) (K := K) (mg := mg) (base := base) (k := 0) F42 gS tS
  have O43 := ok_summed (P := l.prog) (w := w) (K := K) (mg := mg) (base := base) F43 ⟨O42, g42, k42, b42⟩ ⟨O23, g23, k23, b23⟩
  have O44 := ok_then (P := l.prog) (w := w) (K := K) (mg := mg) (base := base) F44 ⟨O43, g43, k43, b43⟩
  have O45 := ok_trimmed (P := l.prog) (w := w) (K := K) (mg := mg) (base := base) (k := 0) F45 m5 m14
  have O46 := ok_one_plus (P := l.prog) (w := w) (K := K) (mg := mg) (base := base) F46 ⟨O42, g42, k42, b42⟩ ⟨O45, g45, k45, b45⟩ g46 k46 b46 m5 m6 m2
  have O47 := ok_one_times (P := l.prog) (w := w) (K := K) (mg := mg) (base := base) F47 ⟨O42, g42, k42, b42⟩ ⟨O23, g23, k23, b23⟩ ⟨O45, g45, k45, b45⟩ m5 m2
  have O48 := ok_one_put (P := l.prog) (w := w) (K := K) (mg := mg) (base := base) F48 ⟨O46, g46, k46, b46⟩ ⟨O47, g47, k47, b47⟩ ⟨O45, g45, k45, b45⟩ m11
  have O49 := ok_one_scaled (P := l.prog) (w := w) (K := K) (mg := mg) (base := base) F49 ⟨O23, g23, k23, b23⟩ ⟨O45, g45, k45, b45⟩
  have O50 := ok_bend_ahead (P := l.prog) (w := w) (K := K) (mg := mg) (base := base) F50 ⟨O28, g28, k28, b28⟩ ⟨O48, g48, k48, b48⟩ ⟨O49, g49, k49, b49⟩ ⟨O42, g42, k42, b42⟩
  have O51 := ok_add (P := l.prog) (w := w) (K := K) (mg := mg) (base := base) F51 LCC ⟨O46, g46, k46, b46⟩ ⟨O44, g44, k44, b44⟩ ⟨O32, g32, k32, b32⟩ gN
  have O52 := ok_put_bend (P := l.prog) (w := w) (K := K) (mg := mg) (base := base) F52 LCC ⟨O29, g29, k29, b29⟩ ⟨O50, g50, k50, b50⟩ ⟨O51, ⟨a51, i51, k51⟩, b51⟩ gN m5
  have O53 := ok_put_piece (P := l.prog) (w := w) (K := K) (mg := mg) (base := base) F53 LCC ⟨O44, g44, k44, b44⟩ ⟨O52, ⟨a52, i52, k52⟩, b52⟩
  have O54 := ok_as (P := l.prog) (w := w) (K := K) (mg := mg) (base := base) F54 LCC gN m5 m14
  have O55 := ok_sr (P := l.prog) (w := w) (K := K) (mg := mg) (base := base) F55 LCC ⟨c9, a41, i41, cA⟩ gC ⟨O41, ⟨a41, i41, k41⟩, b41⟩ ⟨O53, ⟨a53, i53, k53⟩, b53⟩ ⟨O54, ⟨a54, i54, k54⟩, b54⟩
  have O56 := ok_row (P := l.prog) (w := w) (K := K) (mg := mg) (base := base) F56 ⟨O32, g32, k32, b32⟩ gN m15 m14
  have O57 := ok_sthen (P := l.prog) (w := w) (K := K) (mg := mg) (base := base) F57 ⟨O55, g55, k55, b55⟩ ⟨O56, g56, k56, b56⟩
  have O58 := ok_prod (P := l.prog) (w := w) (K := K) (mg := mg) (base := base) F58 ⟨O27, g27, k27, b27⟩ ⟨O57, g57, k57, b57⟩
  have O59 := ok_lgo (P := l.prog) (w := w) (K := K) (mg := mg) (base := base) F59 ⟨O31, g31, k31, b31⟩ ⟨O58, g58, k58, b58⟩ ⟨O35, g35, k35, b35⟩ m10
  exact ok_law F60 ⟨O0, g0, k0, b0⟩ ⟨O3, g3, k3, b3⟩ ⟨O1, g1, k1, b1⟩ ⟨O2T, g2, k2, b2⟩ ⟨O5, g5, k5, b5⟩ ⟨O13, g13, k13, b13⟩ ⟨O14, g14, k14, b14⟩ ⟨O16, g16, k16, b16⟩ ⟨O18, g18, k18, b18⟩ ⟨O20, g20, k20, b20⟩ ⟨O31, g31, k31, b31⟩ ⟨O35, g35, k35, b35⟩ ⟨O36, g36, k36, b36⟩ O40 g40 k40 b40 O59 g59 k59 b59 kb2 kb3 m10 m5 m9 m7 m12
end K13
set_option Elab.async false
set_option linter.all false
set_option maxRecDepth 100000
set_option maxHeartbeats 2000000
namespace HX
open PySem PySem.Spec PyProof.Rows L2
/-- a law: F gives the written part, the function object, the promise over every base -/
theorem walkGE {l : PySem.W.OpenLaw} {n k : Nat} {q : Program} {loose : List Str} {XP : (Str → Option Value) → Heap → Prop} {YP : World → Heap → Prop} {d : DefRec} {x : Str}
    (hn : l.most = some n) (hn2 : n ≤ sizeLine) (hdf : d.params.defaults = []) (hr : Room k callerA)
    (F : ∀ (w : World) (mg : Str → Option Value) (fa : Addr) (h : Heap), YP w h → h.Ns mainGlobals mg → mg d.name = some (.ref fa) →
      ∃ (K : PySem.W.Frag) (sp : Sp), K.In h ∧ (∀ (H : Hp) (a : Addr) (ns : List Int), ns.length ≤ n → Only H → SqL K H a (ns.map V.int) → sp [.ref a] H (fun v _ => v = .bl true) fun _ _ _ => False) ∧
        ∃ fd : FuncData, (∀ (s : Shared) (u : Value), BindsTo s fd ⟨[u], []⟩ [(x, u)]) ∧ ∀ base : Heap, K.In base → base.Ns mainGlobals mg → BP.GFn l.prog w K mg base k fa fd [x] sp) :
    PySem.W.WalkO q loose XP YP l.row.toRowW d [] (fun f vs => PySem.call f vs) := by
  refine Att.attach_call hn hdf fun w s₀ s₁ mg mb fa o pm cd doc a vs ns G Y ho hd hcd hmg hobj hints hlen hg => ?_
  obtain ⟨K, sp, KX, hsp, fd, hb, hF⟩ := F w mg fa _ Y G.T.g hmg
  exact BP.law_callG KX G.T.g G.T.b G.T.builtins G.T.nolimit hg hobj hints (Nat.le_trans hlen hn2) hr hF hb (fun H o sq => hsp H a ns hlen o sq)
end HX
set_option Elab.async false
set_option linter.all false
set_option maxRecDepth 100000
set_option maxHeartbeats 0
namespace HY
open PySem PySem.Spec PyProof.Rows L2 BP Fld K13 BP
theorem facts {w : World} {K : PySem.W.Frag} {h : Heap} {mg : Str → Option Value} {f : Addr} (X : K.In h) (G : h.Ns mainGlobals mg) (hfa : mg ("law" : Str) = some (.ref f)) (c : He.SaysE fa fn K) (x : ex K = true) (cd : He.SaysD [] fdl K) :
    ∃ fd : FuncData, (∀ (s : Shared) (v : Value), BindsTo s fd ⟨[v], []⟩ [("_law_script", v)]) ∧ ∀ base : Heap, K.In base → base.Ns mainGlobals mg → GFn PySem.Challenge.rw_bentplane_k38_places_behind_a_place.prog w K mg base 12 f fd ["_law_script"] (spLaw K) := by
  unfold ex at x
  obtain ⟨x, x6⟩ := He.ba x
  obtain ⟨x, x5⟩ := He.ba x
  obtain ⟨x, x4⟩ := He.ba x
  obtain ⟨x, x3⟩ := He.ba x
  obtain ⟨x, x2⟩ := He.ba x
  obtain ⟨x0, x1⟩ := He.ba x
  obtain ⟨tk, aN⟩ := HX.intB_ok x4
  obtain ⟨tk0, aST⟩ := HX.strB_ok x5
  obtain ⟨tk1, aBE⟩ := HX.strB_ok x6
  obtain ⟨oc0, od0, sl0, kV0, dc0, pm0, an0, cd0, ct0, l0, e0⟩ := c.def_ 0 rfl
  obtain ⟨oc1, od1, sl1, kV1, dc1, pm1, an1, cd1, ct1, l1, e1⟩ := c.def_ 1 rfl
  obtain ⟨oc2, od2, sl2, kV2, dc2, pm2, an2, cd2, ct2, l2, e2⟩ := c.def_ 2 rfl
  obtain ⟨oc3, od3, sl3, kV3, dc3, pm3, an3, cd3, ct3, l3, e3⟩ := c.def_ 3 rfl
  obtain ⟨oc4, od4, sl4, kV4, dc4, pm4, an4, cd4, ct4, l4, e4⟩ := c.def_ 4 rfl
  obtain ⟨oc5, od5, sl5, kV5, dc5, pm5, an5, cd5, ct5, l5, e5⟩ := c.def_ 5 rfl
  obtain ⟨oc6, od6, sl6, kV6, dc6, pm6, an6, cd6, ct6, l6, e6⟩ := c.def_ 6 rfl
  obtain ⟨oc7, od7, sl7, kV7, dc7, pm7, an7, cd7, ct7, l7, e7⟩ := c.def_ 7 rfl
  obtain ⟨oc8, od8, sl8, kV8, dc8, pm8, an8, cd8, ct8, l8, e8⟩ := c.def_ 8 rfl
  obtain ⟨oc9, od9, sl9, kV9, dc9, pm9, an9, cd9, ct9, l9, e9⟩ := c.def_ 9 rfl
  obtain ⟨oc10, od10, sl10, kV10, dc10, pm10, an10, cd10, ct10, l10, e10⟩ := c.def_ 10 rfl
  obtain ⟨oc11, od11, sl11, kV11, dc11, pm11, an11, cd11, ct11, l11, e11⟩ := c.def_ 11 rfl
  obtain ⟨oc12, od12, sl12, kV12, dc12, pm12, an12, cd12, ct12, l12, e12⟩ := c.def_ 12 rfl
  obtain ⟨oc13, od13, sl13, kV13, dc13, pm13, an13, cd13, ct13, l13, e13⟩ := c.def_ 13 rfl
  obtain ⟨oc14, od14, sl14, kV14, dc14, pm14, an14, cd14, ct14, l14, e14⟩ := c.def_ 14 rfl
  obtain ⟨oc15, od15, sl15, kV15, dc15, pm15, an15, cd15, ct15, l15, e15⟩ := c.def_ 15 rfl
  obtain ⟨oc16, od16, sl16, kV16, dc16, pm16, an16, cd16, ct16, l16, e16⟩ := c.def_ 16 rfl
  obtain ⟨oc17, od17, sl17, kV17, dc17, pm17, an17, cd17, ct17, l17, e17⟩ := c.def_ 17 rfl
  obtain ⟨oc18, od18, sl18, kV18, dc18, pm18, an18, cd18, ct18, l18, e18⟩ := c.def_ 18 rfl
  obtain ⟨oc19, od19, sl19, kV19, dc19, pm19, an19, cd19, ct19, l19, e19⟩ := c.def_ 19 rfl
  obtain ⟨oc20, od20, sl20, kV20, dc20, pm20, an20, cd20, ct20, l20, e20⟩ := c.def_ 20 rfl
  obtain ⟨oc21, od21, sl21, kV21, dc21, pm21, an21, cd21, ct21, l21, e21⟩ := c.def_ 21 rfl
  obtain ⟨oc22, od22, sl22, kV22, dc22, pm22, an22, cd22, ct22, l22, e22⟩ := c.def_ 22 rfl
  obtain ⟨oc23, od23, sl23, kV23, dc23, pm23, an23, cd23, ct23, l23, e23⟩ := c.def_ 23 rfl
  obtain ⟨oc24, od24, sl24, kV24, dc24, pm24, an24, cd24, ct24, l24, e24⟩ := c.def_ 24 rfl
  obtain ⟨oc25, od25, sl25, kV25, dc25, pm25, an25, cd25, ct25, l25, e25⟩ := c.def_ 25 rfl
  obtain ⟨oc26, od26, sl26, kV26, dc26, pm26, an26, cd26, ct26, l26, e26⟩ := c.def_ 26 rfl
  obtain ⟨oc27, od27, sl27, kV27, dc27, pm27, an27, cd27, ct27, l27, e27⟩ := c.def_ 27 rfl
  obtain ⟨oc28, od28, sl28, kV28, dc28, pm28, an28, cd28, ct28, l28, e28⟩ := c.def_ 28 rfl
  obtain ⟨oc29, od29, sl29, kV29, dc29, pm29, an29, cd29, ct29, l29, e29⟩ := c.def_ 29 rfl
  obtain ⟨oc30, od30, sl30, kV30, dc30, pm30, an30, cd30, ct30, l30, e30⟩ := c.def_ 30 rfl
  obtain ⟨oc31, od31, sl31, kV31, dc31, pm31, an31, cd31, ct31, l31, e31⟩ := c.def_ 31 rfl
  obtain ⟨oc32, od32, sl32, kV32, dc32, pm32, an32, cd32, ct32, l32, e32⟩ := c.def_ 32 rfl
  obtain ⟨oc33, od33, sl33, kV33, dc33, pm33, an33, cd33, ct33, l33, e33⟩ := c.def_ 33 rfl
  obtain ⟨oc34, od34, sl34, kV34, dc34, pm34, an34, cd34, ct34, l34, e34⟩ := c.def_ 34 rfl
  obtain ⟨oc35, od35, sl35, kV35, dc35, pm35, an35, cd35, ct35, l35, e35⟩ := c.def_ 35 rfl
  obtain ⟨oc36, od36, sl36, kV36, dc36, pm36, an36, cd36, ct36, l36, e36⟩ := c.def_ 36 rfl
  obtain ⟨oc37, od37, sl37, kV37, dc37, pm37, an37, cd37, ct37, l37, e37⟩ := c.def_ 37 rfl
  obtain ⟨oc38, od38, sl38, kV38, dc38, pm38, an38, cd38, ct38, l38, e38⟩ := c.def_ 38 rfl
  obtain ⟨oc39, od39, sl39, kV39, dc39, pm39, an39, cd39, ct39, l39, e39⟩ := c.def_ 39 rfl
  obtain ⟨oc40, od40, sl40, kV40, dc40, pm40, an40, cd40, ct40, l40, e40⟩ := c.def_ 40 rfl
  obtain ⟨oc41, od41, sl41, kV41, dc41, pm41, an41, cd41, ct41, l41, e41⟩ := c.def_ 41 rfl
  obtain ⟨oc42, od42, sl42, kV42, dc42, pm42, an42, cd42, ct42, l42, e42⟩ := c.def_ 42 rfl
  obtain ⟨oc43, od43, sl43, kV43, dc43, pm43, an43, cd43, ct43, l43, e43⟩ := c.def_ 43 rfl
  obtain ⟨oc44, od44, sl44, kV44, dc44, pm44, an44, cd44, ct44, l44, e44⟩ := c.def_ 44 rfl
  obtain ⟨oc45, od45, sl45, kV45, dc45, pm45, an45, cd45, ct45, l45, e45⟩ := c.def_ 45 rfl
  obtain ⟨oc46, od46, sl46, kV46, dc46, pm46, an46, cd46, ct46, l46, e46⟩ := c.def_ 46 rfl
  obtain ⟨oc47, od47, sl47, kV47, dc47, pm47, an47, cd47, ct47, l47, e47⟩ := c.def_ 47 rfl
  obtain ⟨oc48, od48, sl48, kV48, dc48, pm48, an48, cd48, ct48, l48, e48⟩ := c.def_ 48 rfl
  obtain ⟨oc49, od49, sl49, kV49, dc49, pm49, an49, cd49, ct49, l49, e49⟩ := c.def_ 49 rfl
  obtain ⟨oc50, od50, sl50, kV50, dc50, pm50, an50, cd50, ct50, l50, e50⟩ := c.def_ 50 rfl
  obtain ⟨oc51, od51, sl51, kV51, dc51, pm51, an51, cd51, ct51, l51, e51⟩ := c.def_ 51 rfl
  obtain ⟨oc52, od52, sl52, kV52, dc52, pm52, an52, cd52, ct52, l52, e52⟩ := c.def_ 52 rfl
  obtain ⟨oc53, od53, sl53, kV53, dc53, pm53, an53, cd53, ct53, l53, e53⟩ := c.def_ 53 rfl
  obtain ⟨oc54, od54, sl54, kV54, dc54, pm54, an54, cd54, ct54, l54, e54⟩ := c.def_ 54 rfl
  obtain ⟨oc55, od55, sl55, kV55, dc55, pm55, an55, cd55, ct55, l55, e55⟩ := c.def_ 55 rfl
  obtain ⟨oc56, od56, sl56, kV56, dc56, pm56, an56, cd56, ct56, l56, e56⟩ := c.def_ 56 rfl
  obtain ⟨oc57, od57, sl57, kV57, dc57, pm57, an57, cd57, ct57, l57, e57⟩ := c.def_ 57 rfl
  obtain ⟨oc58, od58, sl58, kV58, dc58, pm58, an58, cd58, ct58, l58, e58⟩ := c.def_ 58 rfl
  obtain ⟨oc59, od59, sl59, kV59, dc59, pm59, an59, cd59, ct59, l59, e59⟩ := c.def_ 59 rfl
  obtain ⟨oc60, od60, sl60, kV60, dc60, pm60, an60, cd60, ct60, l60, e60⟩ := c.def_ 60 rfl
  obtain ⟨a41, m41⟩ := He.ba (c.fact 82 rfl)
  obtain ⟨i41, k41⟩ := He.ba m41
  obtain ⟨a51, m51⟩ := He.ba (c.fact 101 rfl)
  obtain ⟨i51, k51⟩ := He.ba m51
  obtain ⟨a52, m52⟩ := He.ba (c.fact 102 rfl)
  obtain ⟨i52, k52⟩ := He.ba m52
  obtain ⟨a53, m53⟩ := He.ba (c.fact 103 rfl)
  obtain ⟨i53, k53⟩ := He.ba m53
  obtain ⟨a54, m54⟩ := He.ba (c.fact 104 rfl)
  obtain ⟨i54, k54⟩ := He.ba m54
  obtain ⟨c1, cx⟩ := He.ba (c.fact 118 rfl)
  obtain ⟨c2, cx⟩ := He.ba cx
  obtain ⟨c3, c4⟩ := He.ba cx
  obtain ⟨c9, cx⟩ := He.ba (c.fact 123 rfl)
  obtain ⟨_, cx⟩ := He.ba cx
  obtain ⟨_, cA⟩ := He.ba cx
  exact K13.all_mk X G hfa (He.eqO_ok (c.fact 124 rfl)) x0 (He.eqO_ok (c.fact 125 rfl)) x1 aN aST aBE (He.eqO_ok (c.fact 126 rfl)) x2 (He.eqO_ok (c.fact 127 rfl)) x3 (He.eqO_ok (c.fact 117 rfl)) c1 c2 c3 (He.eqO_ok c4) (He.eqO_ok (c.fact 119 rfl)) (He.eqO_ok (c.fact 120 rfl)) (He.eqO_ok (c.fact 121 rfl)) (He.eqO_ok (c.fact 122 rfl)) c9 cA (He.eqO_ok (c.fact 0 rfl)) l0 e0 (He.keep_ok (x := "_law_deck") (c.fact 1 rfl)) (He.eqO_ok (c.fact 2 rfl)) l1 e1 (He.keep_ok (x := "_law_draw") (c.fact 3 rfl)) (He.eqO_ok (c.fact 4 rfl)) l2 e2 (He.keep_ok (x := "_law_pick") (c.fact 5 rfl)) (He.eqO_ok (c.fact 6 rfl)) l3 e3 (He.keep_ok (x := "_law_some_field") (c.fact 7 rfl)) (He.eqO_ok (c.fact 8 rfl)) l4 e4 (He.keep_ok (x := "_law_some_bend") (c.fact 9 rfl)) (He.eqO_ok (c.fact 10 rfl)) l5 e5 (He.keep_ok (x := "_law_some_place") (c.fact 11 rfl)) (He.eqO_ok (c.fact 12 rfl)) l6 e6 (He.keep_ok (x := "is_integer") (c.fact 13 rfl)) (He.eqO_ok (c.fact 14 rfl)) l7 e7 (He.keep_ok (x := "is_number") (c.fact 15 rfl)) (He.eqO_ok (c.fact 16 rfl)) l8 e8 (He.keep_ok (x := "are_numbers") (c.fact 17 rfl)) (He.eqO_ok (c.fact 18 rfl)) l9 e9 (He.keep_ok (x := "is_one_letter") (c.fact 19 rfl)) (He.eqO_ok (c.fact 20 rfl)) l10 e10 (He.keep_ok (x := "is_bend") (c.fact 21 rfl)) (He.eqO_ok (c.fact 22 rfl)) l11 e11 (He.keep_ok (x := "is_place") (c.fact 23 rfl)) (He.eqO_ok (c.fact 24 rfl)) l12 e12 (He.keep_ok (x := "look_at_places") (c.fact 25 rfl)) (He.eqO_ok (c.fact 26 rfl)) l13 e13 (He.keep_ok (x := "many_behind") (c.fact 27 rfl)) (He.eqO_ok (c.fact 28 rfl)) l14 e14 (He.keep_ok (x := "_law_many") (c.fact 29 rfl)) (He.eqO_ok (c.fact 30 rfl)) l15 e15 (He.keep_ok (x := "_law_bends") (c.fact 31 rfl)) (He.eqO_ok (c.fact 32 rfl)) l16 e16 (He.keep_ok (x := "_law_behind") (c.fact 33 rfl)) (He.eqO_ok (c.fact 34 rfl)) l17 e17 (He.keep_ok (x := "bends_up_to") (c.fact 35 rfl)) (He.eqO_ok (c.fact 36 rfl)) l18 e18 (He.keep_ok (x := "behind") (c.fact 37 rfl)) (He.eqO_ok (c.fact 38 rfl)) l19 e19 (He.keep_ok (x := "place_ahead") (c.fact 39 rfl)) (He.eqO_ok (c.fact 40 rfl)) l20 e20 (He.keep_ok (x := "ahead") (c.fact 41 rfl)) (He.eqO_ok (c.fact 42 rfl)) l21 e21 (He.keep_ok (x := "opposite") (c.fact 43 rfl)) (He.eqO_ok (c.fact 44 rfl)) l22 e22 (He.keep_ok (x := "minus") (c.fact 45 rfl)) (He.eqO_ok (c.fact 46 rfl)) l23 e23 (He.keep_ok (x := "times") (c.fact 47 rfl)) (He.eqO_ok (c.fact 48 rfl)) l24 e24 (He.keep_ok (x := "straight_determinant") (c.fact 49 rfl)) (He.eqO_ok (c.fact 50 rfl)) l25 e25 (He.keep_ok (x := "is_straight") (c.fact 51 rfl)) (He.eqO_ok (c.fact 52 rfl)) l26 e26 (He.keep_ok (x := "is_step") (c.fact 53 rfl)) (He.eqO_ok (c.fact 54 rfl)) l27 e27 (He.keep_ok (x := "look_at_steps") (c.fact 55 rfl)) (He.eqO_ok (c.fact 56 rfl)) l28 e28 (He.keep_ok (x := "inverse") (c.fact 57 rfl)) (He.eqO_ok (c.fact 58 rfl)) l29 e29 (He.keep_ok (x := "turn_and_map") (c.fact 59 rfl)) (He.eqO_ok (c.fact 60 rfl)) l30 e30 (He.keep_ok (x := "place_by_step") (c.fact 61 rfl)) (He.eqO_ok (c.fact 62 rfl)) l31 e31 (He.keep_ok (x := "place_of") (c.fact 63 rfl)) (He.eqO_ok (c.fact 64 rfl)) l32 e32 (He.keep_ok (x := "turn_by") (c.fact 65 rfl)) (He.eqO_ok (c.fact 66 rfl)) l33 e33 (He.keep_ok (x := "straight_step") (c.fact 67 rfl)) (He.eqO_ok (c.fact 68 rfl)) l34 e34 (He.keep_ok (x := "place_step") (c.fact 69 rfl)) (He.eqO_ok (c.fact 70 rfl)) l35 e35 (He.keep_ok (x := "step_of_place") (c.fact 71 rfl)) (He.eqO_ok (c.fact 72 rfl)) l36 e36 (He.keep_ok (x := "_law_ahead") (c.fact 73 rfl)) (He.eqO_ok (c.fact 74 rfl)) l37 e37 (He.keep_ok (x := "are_beside") (c.fact 75 rfl)) (He.eqO_ok (c.fact 76 rfl)) l38 e38 (He.keep_ok (x := "place_depth") (c.fact 77 rfl)) (He.eqO_ok (c.fact 78 rfl)) l39 e39 (He.keep_ok (x := "depth") (c.fact 79 rfl)) (He.eqO_ok (c.fact 80 rfl)) l40 e40 (He.keep_ok (x := "_law_are_beside") (c.fact 81 rfl)) (He.eqO_ok a41) l41 e41 k41 i41 (He.eqO_ok (c.fact 83 rfl)) l42 e42 (He.keep_ok (x := "plus") (c.fact 84 rfl)) (He.eqO_ok (c.fact 85 rfl)) l43 e43 (He.keep_ok (x := "summed") (c.fact 86 rfl)) (He.eqO_ok (c.fact 87 rfl)) l44 e44 (He.keep_ok (x := "straight_then") (c.fact 88 rfl)) (He.eqO_ok (c.fact 89 rfl)) l45 e45 (He.keep_ok (x := "trimmed") (c.fact 90 rfl)) (He.eqO_ok (c.fact 91 rfl)) l46 e46 (He.keep_ok (x := "one_plus") (c.fact 92 rfl)) (He.eqO_ok (c.fact 93 rfl)) l47 e47 (He.keep_ok (x := "one_times") (c.fact 94 rfl)) (He.eqO_ok (c.fact 95 rfl)) l48 e48 (He.keep_ok (x := "one_put") (c.fact 96 rfl)) (He.eqO_ok (c.fact 97 rfl)) l49 e49 (He.keep_ok (x := "one_scaled") (c.fact 98 rfl)) (He.eqO_ok (c.fact 99 rfl)) l50 e50 (He.keep_ok (x := "bend_ahead") (c.fact 100 rfl)) (He.eqO_ok a51) l51 e51 k51 i51 (He.eqO_ok a52) l52 e52 k52 i52 (He.eqO_ok a53) l53 e53 k53 i53 (He.eqO_ok a54) l54 e54 k54 i54 (He.eqO_ok (c.fact 105 rfl)) l55 e55 (He.keep_ok (x := "step_and_row") (c.fact 106 rfl)) (He.eqO_ok (c.fact 107 rfl)) l56 e56 (He.keep_ok (x := "row_by_step") (c.fact 108 rfl)) (He.eqO_ok (c.fact 109 rfl)) l57 e57 (He.keep_ok (x := "step_then") (c.fact 110 rfl)) (He.eqO_ok (c.fact 111 rfl)) l58 e58 (He.keep_ok (x := "product") (c.fact 112 rfl)) (He.eqO_ok (c.fact 113 rfl)) l59 e59 (He.keep_ok (x := "_law_goes_on") (c.fact 114 rfl)) (He.eqO_ok (c.fact 115 rfl)) l60 e60 (He.keep_ok (x := "law") (c.fact 116 rfl)) (He.eqO_ok (c.fact 128 rfl)) (He.eqO_ok (c.fact 129 rfl)) (He.eqO_ok (c.fact 130 rfl)) (He.eqO_ok (c.fact 131 rfl)) (He.eqO_ok (c.fact 132 rfl)) (He.eqO_ok (c.fact 133 rfl)) (He.eqO_ok (c.fact 134 rfl)) (He.eqO_ok (c.fact 135 rfl)) (He.eqO_ok (c.fact 136 rfl)) (He.eqO_ok (c.fact 137 rfl)) (He.eqO_ok (c.fact 138 rfl)) (He.eqO_ok (c.fact 139 rfl)) (He.eqO_ok (c.fact 140 rfl)) (He.eqO_ok (c.fact 141 rfl)) (He.eqO_ok (c.fact 142 rfl)) (He.eqO_ok (c.fact 143 rfl))
end HY
open PySem PySem.W PyProof.Rows
theorem PySem.Challenge.cw_bentplane_k38_places_behind_a_place_holds : PySem.Challenge.rw_bentplane_k38_places_behind_a_place.Holds := by
  w_on; o_law
  refine HandSHeadRun.head_any (r := OpenLaw.row PySem.Challenge.rw_bentplane_k38_places_behind_a_place) (q := HY.qv) (H := HY.hk) (ob := HY.ob) (M := 20000) (loose := HY.loose) (d := HandSHeadRun.topDef (OpenLaw.row PySem.Challenge.rw_bentplane_k38_places_behind_a_place).prog 75) (kwd := []) HY.ob_eq
    (by kernel_rfl) (fun s => by kernel_rfl) HY.run (by kernel_rfl) (by kernel_rfl) (by kernel_rfl) (by rfl) (by first | assumption | decide +kernel) (by decide +kernel) ⟨rfl, rfl, rfl, rfl, rfl, by decide +kernel⟩ ?hw ?hc
  case hw => w_witness2
  case hc =>
    refine HX.walkGE (l := PySem.Challenge.rw_bentplane_k38_places_behind_a_place) (n := 63) (k := 12) (x := "_law_script") rfl (by decide) (by kernel_rfl) ⟨rfl, by decide, by decide⟩ ?F
    intro w mg fa h Y G hmg0
    obtain ⟨K, KX, c, x, cd⟩ := Y
    have hmg : mg ("law" : PySem.Str) = some (.ref fa) := by
      have e : (HandSHeadRun.topDef (OpenLaw.row PySem.Challenge.rw_bentplane_k38_places_behind_a_place).prog 75).name = ("law" : PySem.Str) := by kernel_rfl
      rw [← e]
      exact hmg0
    exact ⟨K, BP.spLaw K, KX, fun H a ns hl _ hS => ⟨a, ns, rfl, hS, hl, fun _ => rfl⟩, HY.facts KX G hmg c x cd⟩
