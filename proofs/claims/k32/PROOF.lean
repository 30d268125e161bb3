import PyProof.Rows.All
import Wide.All
import OpenK.AllK
import Wide.FinOn
import KE.KStateDown
import HandS.Head0
import HandS.Head1
import HandS.Head2
import HandS.HeadEnd
import HandS.HeadHook1
import HandS.Words
import PySem.Challenge.RW_bentplane_k32_whole_places_and_steps_cou
import HandS.ForMost
import HandS.Style
import HandS.Strs
import HandS.IsInst
import HandS.Wide
import HandS.RaiseMore
import PyProof.ReprRoads
import KE.GoesEnum
import HandS.Rev
import HandS.Zip
import HandS.Star
import HandS.Conv
import HandS.Walk
import HandS.TupAny
set_option Elab.async false
set_option linter.all false
set_option maxRecDepth 100000
set_option maxHeartbeats 2000000
/-! A head by one run, with facts of one's own about the written part. -/
namespace HX
open PySem PySem.Spec PyProof.Rows L2
/-- what the module's names reach in so many steps, some of it twice -/
def layer (g : Addr → Option Obj) (as : List Addr) : List Addr := as.flatMap fun a => match g a with
  | some o => He.refsO o
  | none => []
def reach (g : Addr → Option Obj) : Nat → List Addr → List Addr
  | 0, as => as
  | n + 1, as => as ++ reach g n (layer g as)
def part (n : Nat) (g : Addr → Option Obj) : PySem.W.Frag := He.frG g (reach g n [mainGlobals])
abbrev Al : Type := He.Al × Bool
def seenX (fa : List He.Fa) (fn : List He.FnD) (ex : PySem.W.Frag → Bool) (K : PySem.W.Frag) : Al := (He.obsE fa fn K, ex K)
def obsX (n : Nat) (fa : List He.Fa) (fn : List He.FnD) (ex : PySem.W.Frag → Bool) (g : Addr → Option Obj) : Al := seenX fa fn ex (part n g)
def hookX (n : Nat) (fa : List He.Fa) (fn : List He.FnD) (ex : PySem.W.Frag → Bool) : PySem.W.Hook where
  α := Al
  obs := fun s => obsX n fa fn ex s.heap.get?
  val := fun _ => (He.valE fn, true)
  says := fun _ h => ∃ K : PySem.W.Frag, K.In h ∧ He.SaysE fa fn K ∧ ex K = true
  of := fun _ _ e => ⟨_, He.frG_in, congrArg (fun z : Al => z.1) e, congrArg (fun z : Al => z.2) e⟩
  keeps := fun _ _ _ ⟨K, hK, c⟩ k => ⟨K, PySem.W.Frag.In.keeps hK k, c⟩
theorem obsX_eq {n : Nat} {fa : List He.Fa} {fn : List He.FnD} {ex : PySem.W.Frag → Bool} {g : Addr → Option Obj} {s : Shared} (h : ∀ a, g a = s.heap.get? a) : obsX n fa fn ex g = (hookX n fa fn ex).obs s := by
  have e : g = s.heap.get? := funext h
  rw [e] <;> rfl
/-- the module's name x is this integer -/
def intB (K : PySem.W.Frag) (x : Str) (i : Int) : Bool := match PySem.W.nsIn K mainGlobals x with
  | some (some (.int j _)) => decide (j = i)
  | _ => false
theorem intB_ok {K : PySem.W.Frag} {x : Str} {i : Int} (h : intB K x i = true) : ∃ t, PySem.W.nsIn K mainGlobals x = some (some (.int i t)) := by
  unfold intB at h
  split at h
  · rename_i j t e
    rw [of_decide_eq_true h] at e
    exact ⟨t, e⟩
  · cases h
/-- the module's name x is this text -/
def strB (K : PySem.W.Frag) (x s : Str) : Bool := match PySem.W.nsIn K mainGlobals x with
  | some (some (.str y _)) => decide (y = s)
  | _ => false
theorem strB_ok {K : PySem.W.Frag} {x s : Str} (h : strB K x s = true) : ∃ t, PySem.W.nsIn K mainGlobals x = some (some (.str s t)) := by
  unfold strB at h
  split at h
  · rename_i y t e
    rw [of_decide_eq_true h] at e
    exact ⟨t, e⟩
  · cases h
/-- a run's equation from three: the facts, the functions, the rest each by a run of its own -/
theorem join3 {β : Type} {x : Option SharedT} {A : SharedT → β} {a : β} {n : Nat} {fa : List He.Fa} {fn : List He.FnD} {ex : PySem.W.Frag → Bool} {gt : SharedT → Addr → Option Obj}
    (h0 : x.map A = some a)
    (h1 : x.map (fun s => fa.all fun f => f.ok (part n (gt s))) = some true)
    (h2 : x.map (fun s => (fn.all fun d => (He.Fa.code d.at_ d.qual).ok (part n (gt s)), fn.map fun d => He.fnObs (part n (gt s)) d.at_)) = some (true, fn.map He.FnD.val))
    (h3 : x.map (fun s => ex (part n (gt s))) = some true) :
    x.map (fun s => (A s, obsX n fa fn ex (gt s))) = some (a, (He.valE fn, true)) := by
  cases x with
  | none => cases h0
  | some s =>
    have e0 : A s = a := Option.some.inj h0
    have e1 : (fa.all fun f => f.ok (part n (gt s))) = true := Option.some.inj h1
    have e2 : ((fn.all fun d => (He.Fa.code d.at_ d.qual).ok (part n (gt s))), fn.map fun d => He.fnObs (part n (gt s)) d.at_) = (true, fn.map He.FnD.val) := Option.some.inj h2
    have e3 : ex (part n (gt s)) = true := Option.some.inj h3
    have e4 : (fn.all fun d => (He.Fa.code d.at_ d.qual).ok (part n (gt s))) = true := congrArg (fun z : Bool × List He.FnV => z.1) e2
    have e5 : (fn.map fun d => He.fnObs (part n (gt s)) d.at_) = fn.map He.FnD.val := congrArg (fun z : Bool × List He.FnV => z.2) e2
    show some (A s, ((((fa.all fun f => f.ok (part n (gt s))) && fn.all fun d => (He.Fa.code d.at_ d.qual).ok (part n (gt s))), fn.map fun d => He.fnObs (part n (gt s)) d.at_), ex (part n (gt s)))) = some (a, ((true, fn.map He.FnD.val), true))
    rw [e0, e1, e3, e4, e5]
    rfl
/-- .. and joined with two things that are seen beside -/
theorem join3' {γ : Type} {x : Option SharedT} {A : SharedT → Bool} {B : SharedT → γ} {a : Bool} {b : γ} {O : SharedT → Al} {o : Al}
    (h : x.map (fun s => ((A s, B s), O s)) = some ((a, b), o)) : x.map (fun s => (A s, B s, O s)) = some (a, b, o) := by
  cases x with
  | none => cases h
  | some s =>
    have e := Option.some.inj h
    have e1 : A s = a := congrArg (fun z : (Bool × γ) × Al => z.1.1) e
    have e2 : B s = b := congrArg (fun z : (Bool × γ) × Al => z.1.2) e
    have e3 : O s = o := congrArg (fun z : (Bool × γ) × Al => z.2) e
    show some (A s, B s, O s) = some (a, b, o)
    rw [e1, e2, e3]
end HX
set_option Elab.async false
set_option linter.all false
set_option maxRecDepth 100000
set_option maxHeartbeats 4000000
/-! The ten fields: sums and products of numbers below q, reckoned, and what holds of them. No Python here. -/
namespace Fld
def fields : List Nat := [2, 3, 4, 5, 7, 8, 9, 11, 13, 16]
def chr : Nat → Nat
  | 4 => 2 | 8 => 2 | 16 => 2 | 9 => 3 | q => q
/-- a with w: w^k = w + 1 -/
def up (q a : Nat) : Nat := if 2 * a < q then 2 * a else Nat.xor (2 * a - q) 3
def mul2 (q a b : Nat) : Nat :=
  let a1 := up q a
  let a2 := up q a1
  let a3 := up q a2
  Nat.xor (Nat.xor (if b % 2 = 1 then a else 0) (if b / 2 % 2 = 1 then a1 else 0)) (Nat.xor (if b / 4 % 2 = 1 then a2 else 0) (if b / 8 % 2 = 1 then a3 else 0))
def S (q a b : Nat) : Nat := match q with
  | 4 => Nat.xor a b | 8 => Nat.xor a b | 16 => Nat.xor a b
  | 9 => (a % 3 + b % 3) % 3 + 3 * ((a / 3 + b / 3) % 3)
  | q => (a + b) % q
def M (q a b : Nat) : Nat := match q with
  | 4 => mul2 4 a b | 8 => mul2 8 a b | 16 => mul2 16 a b
  | 9 => (a % 3 * (b % 3) + a / 3 * (b / 3)) % 3 + 3 * ((a % 3 * (b / 3) + a / 3 * (b % 3) + a / 3 * (b / 3)) % 3)
  | q => a * b % q
def below (n : Nat) (p : Nat → Bool) : Bool := (List.range n).all p
theorem of_below {n : Nat} {p : Nat → Bool} (h : below n p = true) {a : Nat} (ha : a < n) : p a = true :=
  List.all_eq_true.mp h a (List.mem_range.mpr ha)
/-- a, a a, .. -/
def pw (q a : Nat) : Nat → Nat
  | 0 => 1
  | n + 1 => M q (pw q a n) a
def inv (q a : Nat) : Nat := ((List.range q).find? fun b => M q a b == 1).getD 0
def ord (q a : Nat) : Nat := ((List.range q).find? fun n => n != 0 && pw q a n == 1).getD 0
/-- the law's sum of digits, from the unit on, k digits more -/
def dsum (p a b unit : Nat) : Nat → Nat
  | 0 => 0
  | k + 1 => (a / unit + b / unit) % p * unit + dsum p a b (unit * p) k
/-- the number of digits -/
def len : Nat → Nat
  | 4 => 2 | 8 => 3 | 16 => 4 | 9 => 2 | _ => 1
def okField (q : Nat) : Bool :=
  decide (1 < q) && decide (q ≤ 16) && decide (1 < chr q) && decide (chr q ≤ q) && decide (chr q ^ len q = q) &&
  below q (fun a => below q fun b => decide (M q a b < q) && decide (S q a b < q) && decide (M q a b = M q b a) && decide (dsum (chr q) a b 1 (len q) = S q a b) &&
    below q fun c => decide (M q c (S q a b) = S q (M q c a) (M q c b)) && decide (M q (M q a b) c = M q a (M q c b))) &&
  below (chr q) (fun a => below (chr q) fun b => decide (M q a b = a * b % chr q)) &&
  below q (fun a => decide (M q 0 a = 0) && decide (M q 1 a = a) && decide (M q a 0 = 0) && decide (M q a 1 = a)) &&
  below (len q) (fun k => decide ((if chr q < q then pw q (chr q) k else chr q ^ k) = chr q ^ k)) &&
  decide (chr q = q ∨ pw q (chr q) (len q) = 1 + chr q) &&
  below q (fun a => decide (a = 0) || (decide (1 ≤ ord q a) && decide (ord q a < q) && decide (pw q a (ord q a) = 1) && (below (ord q a) fun n => decide (n = 0) || decide (pw q a n ≠ 1)) &&
    decide (inv q a < q) && decide (M q a (inv q a) = 1) && below (inv q a) fun b => decide (M q a b ≠ 1))) &&
  below q (fun n => decide (n = 0) || decide (((List.range (q - 1)).filter fun i => n % ord q (i + 1) == 0).length = Nat.gcd n (q - 1)))
theorem all_ok : fields.all okField = true := by decide +kernel
theorem ok {q : Nat} (h : q ∈ fields) : okField q = true := List.all_eq_true.mp all_ok q h

section
variable {q : Nat} (h : q ∈ fields)
include h
theorem gt1 : 1 < q := by
  have o := ok h
  simp only [okField, Bool.and_eq_true, decide_eq_true_eq] at o
  omega
theorem le16 : q ≤ 16 := by
  have o := ok h
  simp only [okField, Bool.and_eq_true, decide_eq_true_eq] at o
  omega
theorem chr_gt : 1 < chr q := by
  have o := ok h
  simp only [okField, Bool.and_eq_true, decide_eq_true_eq] at o
  omega
theorem chr_le : chr q ≤ q := by
  have o := ok h
  simp only [okField, Bool.and_eq_true, decide_eq_true_eq] at o
  omega
theorem chr_len : chr q ^ len q = q := by
  have o := ok h
  simp only [okField, Bool.and_eq_true, decide_eq_true_eq] at o
  omega
theorem two {a b : Nat} (ha : a < q) (hb : b < q) : M q a b < q ∧ S q a b < q ∧ M q a b = M q b a ∧ dsum (chr q) a b 1 (len q) = S q a b := by
  have o := ok h
  unfold okField at o
  simp only [Bool.and_eq_true] at o
  have t := of_below (of_below o.1.1.1.1.1.1.2 ha) hb
  simp only [Bool.and_eq_true, decide_eq_true_eq] at t
  exact ⟨t.1.1.1.1, t.1.1.1.2, t.1.1.2, t.1.2⟩
theorem three {a b c : Nat} (ha : a < q) (hb : b < q) (hc : c < q) : M q c (S q a b) = S q (M q c a) (M q c b) ∧ M q (M q a b) c = M q a (M q c b) := by
  have o := ok h
  unfold okField at o
  simp only [Bool.and_eq_true] at o
  have t := of_below (of_below o.1.1.1.1.1.1.2 ha) hb
  simp only [Bool.and_eq_true] at t
  have u := of_below t.2 hc
  simp only [Bool.and_eq_true, decide_eq_true_eq] at u
  exact u
theorem small {a b : Nat} (ha : a < chr q) (hb : b < chr q) : M q a b = a * b % chr q := by
  have o := ok h
  unfold okField at o
  simp only [Bool.and_eq_true] at o
  have t := of_below (of_below o.1.1.1.1.1.2 ha) hb
  exact of_decide_eq_true t
theorem one {a : Nat} (ha : a < q) : M q 0 a = 0 ∧ M q 1 a = a ∧ M q a 0 = 0 ∧ M q a 1 = a := by
  have o := ok h
  unfold okField at o
  simp only [Bool.and_eq_true] at o
  have t := of_below o.1.1.1.1.2 ha
  simp only [Bool.and_eq_true, decide_eq_true_eq] at t
  exact ⟨t.1.1.1, t.1.1.2, t.1.2, t.2⟩
theorem root {k : Nat} (hk : k < len q) : (if chr q < q then pw q (chr q) k else chr q ^ k) = chr q ^ k := by
  have o := ok h
  unfold okField at o
  simp only [Bool.and_eq_true] at o
  exact of_decide_eq_true (of_below o.1.1.1.2 hk)
theorem next : chr q = q ∨ pw q (chr q) (len q) = 1 + chr q := by
  have o := ok h
  unfold okField at o
  simp only [Bool.and_eq_true] at o
  exact of_decide_eq_true o.1.1.2
theorem unit {a : Nat} (ha : a < q) (h0 : a ≠ 0) : 1 ≤ ord q a ∧ ord q a < q ∧ pw q a (ord q a) = 1 ∧ (∀ n, n < ord q a → n ≠ 0 → pw q a n ≠ 1) ∧ inv q a < q ∧ M q a (inv q a) = 1 ∧ ∀ b, b < inv q a → M q a b ≠ 1 := by
  have o := ok h
  unfold okField at o
  simp only [Bool.and_eq_true] at o
  have t := of_below o.1.2 ha
  rw [Bool.or_eq_true] at t
  rcases t with t | t
  · exact absurd (of_decide_eq_true t) h0
  · simp only [Bool.and_eq_true, decide_eq_true_eq] at t
    refine ⟨t.1.1.1.1.1.1, t.1.1.1.1.1.2, t.1.1.1.1.2, fun n hn n0 => ?_, t.1.1.2, t.1.2, fun b hb => of_decide_eq_true (of_below t.2 hb)⟩
    have u := of_below t.1.1.1.2 hn
    rw [Bool.or_eq_true] at u
    rcases u with u | u
    · exact absurd (of_decide_eq_true u) n0
    · exact of_decide_eq_true u
theorem many {n : Nat} (hn : n < q) (h0 : n ≠ 0) : ((List.range (q - 1)).filter fun i => n % ord q (i + 1) == 0).length = Nat.gcd n (q - 1) := by
  have o := ok h
  unfold okField at o
  simp only [Bool.and_eq_true] at o
  have t := of_below o.2 hn
  rw [Bool.or_eq_true] at t
  rcases t with t | t
  · exact absurd (of_decide_eq_true t) h0
  · exact of_decide_eq_true t

/-! ### powers -/
theorem pw_lt {a : Nat} (ha : a < q) : ∀ n, pw q a n < q
  | 0 => gt1 h
  | n + 1 => (two h (pw_lt ha n) ha).1
theorem assoc {a b c : Nat} (ha : a < q) (hb : b < q) (hc : c < q) : M q (M q a b) c = M q a (M q b c) := by
  rw [(three h ha hb hc).2, (two h hb hc).2.2.1]
theorem pw_add {a : Nat} (ha : a < q) (m : Nat) : ∀ n, pw q a (m + n) = M q (pw q a m) (pw q a n)
  | 0 => ((one h (pw_lt h ha m)).2.2.2).symm
  | n + 1 => by
    show M q (pw q a (m + n)) a = M q (pw q a m) (M q (pw q a n) a)
    rw [pw_add ha m n, assoc h (pw_lt h ha m) (pw_lt h ha n) ha]
theorem pw_sq {a : Nat} (ha : a < q) : ∀ n, pw q (M q a a) n = pw q a (2 * n)
  | 0 => rfl
  | n + 1 => by
    show M q (pw q (M q a a) n) (M q a a) = pw q a (2 * n + 1 + 1)
    rw [pw_sq ha n, ← assoc h (pw_lt h ha _) ha ha]
    rfl
theorem pw_ord {a : Nat} (ha : a < q) (h0 : a ≠ 0) : ∀ k, pw q a (k * ord q a) = 1
  | 0 => by rw [Nat.zero_mul]; rfl
  | k + 1 => by
    rw [Nat.succ_mul, pw_add h ha, pw_ord ha h0 k, (unit h ha h0).2.2.1, (one h (gt1 h)).2.1]
theorem pw_mod {a : Nat} (ha : a < q) (h0 : a ≠ 0) (n : Nat) : pw q a (n % ord q a) = pw q a n := by
  have e : n / ord q a * ord q a + n % ord q a = n := by
    rw [Nat.mul_comm]
    exact Nat.div_add_mod n (ord q a)
  have p := pw_add h ha (n / ord q a * ord q a) (n % ord q a)
  rw [e, pw_ord h ha h0, (one h (pw_lt h ha _)).2.1] at p
  exact p.symm
theorem pw_zero : ∀ n, n ≠ 0 → pw q 0 n = 0
  | 0, z => absurd rfl z
  | n + 1, _ => (one h (pw_lt h (Nat.lt_trans Nat.zero_lt_one (gt1 h)) n)).2.2.1
end
end Fld
set_option Elab.async false
set_option linter.all false
set_option maxRecDepth 100000
set_option maxHeartbeats 0
namespace HY
open PySem PySem.Spec PyProof.Rows L2
open PySem.W
def topS (i : Nat) : Stmt := PySem.Challenge.pw_bentplane_k32_whole_places_and_steps_cou.main.body.getD i (.Pass ⟨0, 0, 0, 0⟩)
abbrev sAhead : Stmt := topS 58
abbrev sAreNumbers : Stmt := topS 10
abbrev sBarredNumber : Stmt := topS 42
abbrev sBendAt : Stmt := topS 44
abbrev sBendDegrees : Stmt := topS 32
abbrev sBendNumber : Stmt := topS 39
abbrev sDegreesOf : Stmt := topS 33
abbrev sDepth : Stmt := topS 60
abbrev sInverse : Stmt := topS 8
abbrev sIsBend : Stmt := topS 27
abbrev sIsInteger : Stmt := topS 3
abbrev sIsNumber : Stmt := topS 4
abbrev sIsOneLetter : Stmt := topS 11
abbrev sIsPlace : Stmt := topS 51
abbrev sIsStep : Stmt := topS 29
abbrev sIsStraight : Stmt := topS 26
abbrev sLAhead : Stmt := topS 67
abbrev sLAlongChain : Stmt := topS 76
abbrev sLChain : Stmt := topS 68
abbrev sLDeck : Stmt := topS 63
abbrev sLDepth : Stmt := topS 66
abbrev sLDraw : Stmt := topS 64
abbrev sLEdge : Stmt := topS 71
abbrev sLGreat : Stmt := topS 70
abbrev sLInBlock : Stmt := topS 75
abbrev sLManyPlaces : Stmt := topS 73
abbrev sLPick : Stmt := topS 65
abbrev sLPower : Stmt := topS 72
abbrev sLRank : Stmt := topS 74
abbrev sLSomeField : Stmt := topS 69
abbrev sLaw : Stmt := topS 77
abbrev sLookAtPlaces : Stmt := topS 52
abbrev sLookAtSteps : Stmt := topS 30
abbrev sManyBehind : Stmt := topS 61
abbrev sManyBends : Stmt := topS 36
abbrev sManySteps : Stmt := topS 37
abbrev sManyStraight : Stmt := topS 35
abbrev sMinus : Stmt := topS 5
abbrev sNothing : Stmt := topS 31
abbrev sOpposite : Stmt := topS 7
abbrev sPlaceAhead : Stmt := topS 57
abbrev sPlaceByStep : Stmt := topS 55
abbrev sPlaceDepth : Stmt := topS 59
abbrev sPlaceOf : Stmt := topS 56
abbrev sPlaceStep : Stmt := topS 53
abbrev sSecondAt : Stmt := topS 46
abbrev sSecondNumber : Stmt := topS 41
abbrev sStepAt : Stmt := topS 43
abbrev sStepNumber : Stmt := topS 38
abbrev sStepOfPlace : Stmt := topS 54
abbrev sStraightAt : Stmt := topS 45
abbrev sStraightDeterminant : Stmt := topS 15
abbrev sStraightNumber : Stmt := topS 40
abbrev sTimes : Stmt := topS 6
def keysI (es : List DictEntry) : Bool := es.all fun e => match e.key with
  | .int i _ => e.hash == hashInt i
  | _ => false
def intOf : Value → Option Int
  | .int i _ => some i
  | _ => none
def rowIs (K : PySem.W.Frag) (v : Value) (r : List Nat) : Bool := match v with
  | .ref p => (match K.lookup p with
    | some ⟨.type "tuple", none, .seq its _, _⟩ => decide (its.size ≤ sizeLine) && decide (its.toList.map intOf = r.map fun (n : Nat) => some ((n : Nat) : Int))
    | _ => false)
  | _ => false
def tabIs (K : PySem.W.Frag) (d : Addr) (f : Nat → Nat → Nat → Nat) : Bool := match K.lookup d with
  | some ⟨.type "dict", none, .dict es _, sl⟩ => decide (sl.size = 0) && keysI es.toList && Fld.fields.all fun q => (match findBy Value.isInt es (q : Nat) with
    | some (.ref p) => (match K.lookup p with
      | some ⟨.type "tuple", none, .seq its _, _⟩ => decide (its.size = q) && Fld.below q fun a => rowIs K (its.toList.getD a .none) ((List.range q).map (f q a))
      | _ => false)
    | _ => false)
  | _ => false
def xw : Nat → Nat → Nat
  | 0, n => if n = 3 then 1 else if n = 5 then 2 else if n = 7 then 1 else 0
  | 1, n => if n = 4 then 1 else if n = 7 then 1 else 0
  | _ + 2, n => if n = 6 then 1 else 0
def expIs (K : PySem.W.Frag) (d : Addr) : Bool := match K.lookup d with
  | some ⟨.type "dict", none, .dict es _, sl⟩ => decide (sl.size = 0) && keysI es.toList && [2, 3, 4, 5, 6].all fun n => (match findBy Value.isInt es ((n : Nat) : Int) with
    | some v => rowIs K v [xw 0 (n + 1), xw 1 (n + 1), xw 2 (n + 1)]
    | _ => false)
  | _ => false
def rootIs (K : PySem.W.Frag) (p : Addr) : Bool := match K.lookup p with
  | some ⟨.type "tuple", none, .seq its _, _⟩ => decide (its.size ≤ sizeLine) && (match its.toList with
    | [.str s _, .int i _, b, t] => decide (s = "straight") && decide (i = -1) && rowIs K b [] && rowIs K t []
    | _ => false)
  | _ => false
def nothIs (K : PySem.W.Frag) (p : Addr) : Bool := match K.lookup p with
  | some ⟨.type "tuple", none, .seq its _, _⟩ => decide (its.size ≤ sizeLine) && (match its.toList with
    | [.int i _, b, t, l] => decide (i = -1) && rowIs K b [] && rowIs K t [] && rowIs K l [1, 0, 0, 0, 1, 0]
    | _ => false)
  | _ => false
abbrev R : PySem.W.OpenRow := PySem.W.OpenLaw.row PySem.Challenge.rw_bentplane_k32_whole_places_and_steps_cou
abbrev qv : Program := PySem.W.view R.prog [77]
def loose0 : List Str := [("SUMS" : Str), ("PRODUCTS" : Str), ("__name__" : Str), ("is_integer" : Str), ("is_number" : Str), ("minus" : Str), ("times" : Str), ("opposite" : Str), ("inverse" : Str), ("are_numbers" : Str), ("is_one_letter" : Str), ("SAME" : Str), ("turn_by" : Str), ("straight_determinant" : Str), ("NO_TURN" : Str), ("NOTHING" : Str), ("turn_and_map" : Str), ("straight_step" : Str), ("PlaneError" : Str), ("BadStep" : Str), ("BadPlace" : Str), ("is_straight" : Str), ("is_bend" : Str), ("is_step" : Str), ("look_at_steps" : Str), ("nothing" : Str), ("bend_degrees" : Str), ("degrees_of" : Str), ("many_straight" : Str), ("many_bends" : Str), ("many_steps" : Str), ("step_number" : Str), ("bend_number" : Str), ("straight_number" : Str), ("second_number" : Str), ("barred_number" : Str), ("step_at" : Str), ("bend_at" : Str), ("straight_at" : Str), ("second_at" : Str)]
def loose1 : List Str := [("STRAIGHT" : Str), ("BENT" : Str), ("ROOT" : Str), ("is_place" : Str), ("look_at_places" : Str), ("place_step" : Str), ("step_of_place" : Str), ("place_by_step" : Str), ("place_of" : Str), ("place_ahead" : Str), ("ahead" : Str), ("place_depth" : Str), ("depth" : Str), ("many_behind" : Str), ("_law_deck" : Str), ("_law_draw" : Str), ("_law_pick" : Str), ("_law_depth" : Str), ("_law_ahead" : Str), ("_law_chain" : Str), ("_law_some_field" : Str), ("_law_great" : Str), ("_law_edge" : Str), ("_law_power" : Str), ("_law_many_places" : Str), ("_law_rank" : Str), ("_law_in_block" : Str), ("_law_along_chain" : Str)]
def loose : List Str := loose0 ++ loose1
def fn0 : List He.FnD := [⟨("_law_deck", none), "_law_deck", "_law_deck", defArgs sLDeck, defBody sLDeck, defScope sLDeck⟩, ⟨("_law_draw", none), "_law_draw", "_law_draw", defArgs sLDraw, defBody sLDraw, defScope sLDraw⟩, ⟨("_law_pick", none), "_law_pick", "_law_pick", defArgs sLPick, defBody sLPick, defScope sLPick⟩, ⟨("_law_some_field", none), "_law_some_field", "_law_some_field", defArgs sLSomeField, defBody sLSomeField, defScope sLSomeField⟩, ⟨("_law_power", none), "_law_power", "_law_power", defArgs sLPower, defBody sLPower, defScope sLPower⟩, ⟨("_law_many_places", none), "_law_many_places", "_law_many_places", defArgs sLManyPlaces, defBody sLManyPlaces, defScope sLManyPlaces⟩, ⟨("many_straight", none), "many_straight", "many_straight", defArgs sManyStraight, defBody sManyStraight, defScope sManyStraight⟩, ⟨("many_bends", none), "many_bends", "many_bends", defArgs sManyBends, defBody sManyBends, defScope sManyBends⟩, ⟨("many_steps", none), "many_steps", "many_steps", defArgs sManySteps, defBody sManySteps, defScope sManySteps⟩, ⟨("_law_great", none), "_law_great", "_law_great", defArgs sLGreat, defBody sLGreat, defScope sLGreat⟩, ⟨("_law_edge", none), "_law_edge", "_law_edge", defArgs sLEdge, defBody sLEdge, defScope sLEdge⟩, ⟨("is_integer", none), "is_integer", "is_integer", defArgs sIsInteger, defBody sIsInteger, defScope sIsInteger⟩, ⟨("is_number", none), "is_number", "is_number", defArgs sIsNumber, defBody sIsNumber, defScope sIsNumber⟩, ⟨("are_numbers", none), "are_numbers", "are_numbers", defArgs sAreNumbers, defBody sAreNumbers, defScope sAreNumbers⟩, ⟨("is_one_letter", none), "is_one_letter", "is_one_letter", defArgs sIsOneLetter, defBody sIsOneLetter, defScope sIsOneLetter⟩, ⟨("is_bend", none), "is_bend", "is_bend", defArgs sIsBend, defBody sIsBend, defScope sIsBend⟩, ⟨("opposite", none), "opposite", "opposite", defArgs sOpposite, defBody sOpposite, defScope sOpposite⟩, ⟨("minus", none), "minus", "minus", defArgs sMinus, defBody sMinus, defScope sMinus⟩, ⟨("times", none), "times", "times", defArgs sTimes, defBody sTimes, defScope sTimes⟩, ⟨("straight_determinant", none), "straight_determinant", "straight_determinant", defArgs sStraightDeterminant, defBody sStraightDeterminant, defScope sStraightDeterminant⟩]
def fn1 : List He.FnD := [⟨("is_straight", none), "is_straight", "is_straight", defArgs sIsStraight, defBody sIsStraight, defScope sIsStraight⟩, ⟨("is_step", none), "is_step", "is_step", defArgs sIsStep, defBody sIsStep, defScope sIsStep⟩, ⟨("look_at_steps", none), "look_at_steps", "look_at_steps", defArgs sLookAtSteps, defBody sLookAtSteps, defScope sLookAtSteps⟩, ⟨("place_by_step", none), "place_by_step", "place_by_step", defArgs sPlaceByStep, defBody sPlaceByStep, defScope sPlaceByStep⟩, ⟨("place_of", none), "place_of", "place_of", defArgs sPlaceOf, defBody sPlaceOf, defScope sPlaceOf⟩, ⟨("inverse", none), "inverse", "inverse", defArgs sInverse, defBody sInverse, defScope sInverse⟩, ⟨("barred_number", none), "barred_number", "barred_number", defArgs sBarredNumber, defBody sBarredNumber, defScope sBarredNumber⟩, ⟨("second_at", none), "second_at", "second_at", defArgs sSecondAt, defBody sSecondAt, defScope sSecondAt⟩, ⟨("straight_at", none), "straight_at", "straight_at", defArgs sStraightAt, defBody sStraightAt, defScope sStraightAt⟩, ⟨("bend_at", none), "bend_at", "bend_at", defArgs sBendAt, defBody sBendAt, defScope sBendAt⟩, ⟨("step_at", none), "step_at", "step_at", defArgs sStepAt, defBody sStepAt, defScope sStepAt⟩, ⟨("is_place", none), "is_place", "is_place", defArgs sIsPlace, defBody sIsPlace, defScope sIsPlace⟩, ⟨("look_at_places", none), "look_at_places", "look_at_places", defArgs sLookAtPlaces, defBody sLookAtPlaces, defScope sLookAtPlaces⟩, ⟨("place_depth", none), "place_depth", "place_depth", defArgs sPlaceDepth, defBody sPlaceDepth, defScope sPlaceDepth⟩, ⟨("depth", none), "depth", "depth", defArgs sDepth, defBody sDepth, defScope sDepth⟩, ⟨("bend_degrees", none), "bend_degrees", "bend_degrees", defArgs sBendDegrees, defBody sBendDegrees, defScope sBendDegrees⟩, ⟨("degrees_of", none), "degrees_of", "degrees_of", defArgs sDegreesOf, defBody sDegreesOf, defScope sDegreesOf⟩, ⟨("bend_number", none), "bend_number", "bend_number", defArgs sBendNumber, defBody sBendNumber, defScope sBendNumber⟩, ⟨("second_number", none), "second_number", "second_number", defArgs sSecondNumber, defBody sSecondNumber, defScope sSecondNumber⟩, ⟨("straight_number", none), "straight_number", "straight_number", defArgs sStraightNumber, defBody sStraightNumber, defScope sStraightNumber⟩]
def fn2 : List He.FnD := [⟨("step_number", none), "step_number", "step_number", defArgs sStepNumber, defBody sStepNumber, defScope sStepNumber⟩, ⟨("place_step", none), "place_step", "place_step", defArgs sPlaceStep, defBody sPlaceStep, defScope sPlaceStep⟩, ⟨("step_of_place", none), "step_of_place", "step_of_place", defArgs sStepOfPlace, defBody sStepOfPlace, defScope sStepOfPlace⟩, ⟨("nothing", none), "nothing", "nothing", defArgs sNothing, defBody sNothing, defScope sNothing⟩, ⟨("_law_rank", none), "_law_rank", "_law_rank", defArgs sLRank, defBody sLRank, defScope sLRank⟩, ⟨("_law_in_block", none), "_law_in_block", "_law_in_block", defArgs sLInBlock, defBody sLInBlock, defScope sLInBlock⟩, ⟨("_law_depth", none), "_law_depth", "_law_depth", defArgs sLDepth, defBody sLDepth, defScope sLDepth⟩, ⟨("_law_ahead", none), "_law_ahead", "_law_ahead", defArgs sLAhead, defBody sLAhead, defScope sLAhead⟩, ⟨("_law_chain", none), "_law_chain", "_law_chain", defArgs sLChain, defBody sLChain, defScope sLChain⟩, ⟨("place_ahead", none), "place_ahead", "place_ahead", defArgs sPlaceAhead, defBody sPlaceAhead, defScope sPlaceAhead⟩, ⟨("ahead", none), "ahead", "ahead", defArgs sAhead, defBody sAhead, defScope sAhead⟩, ⟨("many_behind", none), "many_behind", "many_behind", defArgs sManyBehind, defBody sManyBehind, defScope sManyBehind⟩, ⟨("_law_along_chain", none), "_law_along_chain", "_law_along_chain", defArgs sLAlongChain, defBody sLAlongChain, defScope sLAlongChain⟩, ⟨("law", none), "law", "law", defArgs sLaw, defBody sLaw, defScope sLaw⟩]
def fn : List He.FnD := fn0 ++ fn1 ++ fn2
def fa0 : List He.Fa := [.glo "_law_deck", .keep "_law_deck", .glo "_law_draw", .keep "_law_draw", .glo "_law_pick", .keep "_law_pick", .glo "_law_some_field", .keep "_law_some_field", .glo "_law_power", .keep "_law_power", .glo "_law_many_places", .keep "_law_many_places", .glo "many_straight", .keep "many_straight", .glo "many_bends", .keep "many_bends", .glo "many_steps", .keep "many_steps", .glo "_law_great", .keep "_law_great", .glo "_law_edge", .keep "_law_edge", .glo "is_integer", .keep "is_integer", .glo "is_number", .keep "is_number", .glo "are_numbers", .keep "are_numbers", .glo "is_one_letter", .keep "is_one_letter", .glo "is_bend", .keep "is_bend", .glo "opposite", .keep "opposite", .glo "minus", .keep "minus", .glo "times", .keep "times", .glo "straight_determinant", .keep "straight_determinant"]
def fa1 : List He.Fa := [.glo "is_straight", .keep "is_straight", .glo "is_step", .keep "is_step", .glo "look_at_steps", .keep "look_at_steps", .glo "place_by_step", .keep "place_by_step", .glo "place_of", .keep "place_of", .glo "inverse", .keep "inverse", .glo "barred_number", .keep "barred_number", .glo "second_at", .keep "second_at", .glo "straight_at", .keep "straight_at", .glo "bend_at", .keep "bend_at", .glo "step_at", .keep "step_at", .glo "is_place", .keep "is_place", .glo "look_at_places", .keep "look_at_places", .glo "place_depth", .keep "place_depth", .glo "depth", .keep "depth", .glo "bend_degrees", .keep "bend_degrees", .glo "degrees_of", .keep "degrees_of", .glo "bend_number", .keep "bend_number", .glo "second_number", .keep "second_number", .glo "straight_number", .keep "straight_number"]
def fa2 : List He.Fa := [.glo "step_number", .keep "step_number", .glo "place_step", .keep "place_step", .glo "step_of_place", .keep "step_of_place", .glo "nothing", .keep "nothing", .glo "_law_rank", .keep "_law_rank", .glo "_law_in_block", .keep "_law_in_block", .glo "_law_depth", .keep "_law_depth", .glo "_law_ahead", .keep "_law_ahead", .glo "_law_chain", .keep "_law_chain", .glo "place_ahead", .keep "place_ahead", .glo "ahead", .keep "ahead", .glo "many_behind", .keep "many_behind", .glo "_law_along_chain", .keep "_law_along_chain", .glo "law", .keep "law", .glo "SUMS", .glo "PRODUCTS", .glo "NOTHING", .glo "ROOT", .glo "SAME", .free "all", .free "bool", .free "divmod", .free "enumerate", .free "int", .free "isinstance", .free "len"]
def fa3 : List He.Fa := [.free "list", .free "max", .free "range", .free "repr", .free "reversed", .free "tuple", .free "zip"]
def fa : List He.Fa := fa0 ++ fa1 ++ fa2 ++ fa3
def ex (K : PySem.W.Frag) : Bool := (tabIs K (He.ga K "SUMS") Fld.S) && (tabIs K (He.ga K "PRODUCTS") Fld.M) && (nothIs K (He.ga K "NOTHING")) && (rootIs K (He.ga K "ROOT")) && (rowIs K (.ref (He.ga K "SAME")) [1, 0, 0, 0, 1, 0]) && (HX.intB K "NO_TURN" (-1)) && (HX.strB K "STRAIGHT" "straight") && (HX.strB K "BENT" "bent")
abbrev hk : PySem.W.Hook := HX.hookX 5 fa fn ex
def ob (s : PySem.W.SharedT) : HX.Al := HX.obsX 5 fa fn ex (HandSHeadRun.getT s)
theorem ob_eq (s : PySem.W.SharedT) : ob s = hk.obs s.abs := HX.obsX_eq (HandSHeadRun.getT_eq s)
theorem runF0 (w : World) (os : OsState) : (HandSHeadRun.endF (HandSHeadRun.stepQ (HandSHeadRun.denQ HandSHeadRun.tabQ) R.prog (w.withFollow "special-get-raises" false)) 20000 R.prog (w.withFollow "special-get-raises" false) os).map (fun s => (HandSHeadRun.looksF R.prog (boot_heap (w.withFollow "special-get-raises" false).params) s.abs, HandSHeadRun.seenQ qv loose (importedModules R.prog.main.body) (fun s => xlAt qv [] s && recOk R.toRowW.records s) s.abs)) = some (true, PySem.W.openGood qv loose) := by kernel_rfl
theorem runF1 (w : World) (os : OsState) : (HandSHeadRun.endF (HandSHeadRun.stepQ (HandSHeadRun.denQ HandSHeadRun.tabQ) R.prog (w.withFollow "special-get-raises" false)) 20000 R.prog (w.withFollow "special-get-raises" false) os).map (fun s => fa.all fun f => f.ok (HX.part 5 (HandSHeadRun.getT s))) = some true := by kernel_rfl
theorem runF2 (w : World) (os : OsState) : (HandSHeadRun.endF (HandSHeadRun.stepQ (HandSHeadRun.denQ HandSHeadRun.tabQ) R.prog (w.withFollow "special-get-raises" false)) 20000 R.prog (w.withFollow "special-get-raises" false) os).map (fun s => (fn.all fun d => (He.Fa.code d.at_ d.qual).ok (HX.part 5 (HandSHeadRun.getT s)), fn.map fun d => He.fnObs (HX.part 5 (HandSHeadRun.getT s)) d.at_)) = some (true, fn.map He.FnD.val) := by kernel_rfl
theorem runF3 (w : World) (os : OsState) : (HandSHeadRun.endF (HandSHeadRun.stepQ (HandSHeadRun.denQ HandSHeadRun.tabQ) R.prog (w.withFollow "special-get-raises" false)) 20000 R.prog (w.withFollow "special-get-raises" false) os).map (fun s => ex (HX.part 5 (HandSHeadRun.getT s))) = some true := by kernel_rfl
theorem runF (w : World) : HandSHeadRun.RunEq R qv hk ob 20000 loose (w.withFollow "special-get-raises" false) := fun os =>
  HX.join3' (HX.join3 (runF0 w os) (runF1 w os) (runF2 w os) (runF3 w os))
theorem runT0 (w : World) (os : OsState) : (HandSHeadRun.endF (HandSHeadRun.stepQ (HandSHeadRun.denQ HandSHeadRun.tabQ) R.prog (w.withFollow "special-get-raises" true)) 20000 R.prog (w.withFollow "special-get-raises" true) os).map (fun s => (HandSHeadRun.looksF R.prog (boot_heap (w.withFollow "special-get-raises" true).params) s.abs, HandSHeadRun.seenQ qv loose (importedModules R.prog.main.body) (fun s => xlAt qv [] s && recOk R.toRowW.records s) s.abs)) = some (true, PySem.W.openGood qv loose) := by kernel_rfl
theorem runT1 (w : World) (os : OsState) : (HandSHeadRun.endF (HandSHeadRun.stepQ (HandSHeadRun.denQ HandSHeadRun.tabQ) R.prog (w.withFollow "special-get-raises" true)) 20000 R.prog (w.withFollow "special-get-raises" true) os).map (fun s => fa.all fun f => f.ok (HX.part 5 (HandSHeadRun.getT s))) = some true := by kernel_rfl
theorem runT2 (w : World) (os : OsState) : (HandSHeadRun.endF (HandSHeadRun.stepQ (HandSHeadRun.denQ HandSHeadRun.tabQ) R.prog (w.withFollow "special-get-raises" true)) 20000 R.prog (w.withFollow "special-get-raises" true) os).map (fun s => (fn.all fun d => (He.Fa.code d.at_ d.qual).ok (HX.part 5 (HandSHeadRun.getT s)), fn.map fun d => He.fnObs (HX.part 5 (HandSHeadRun.getT s)) d.at_)) = some (true, fn.map He.FnD.val) := by kernel_rfl
theorem runT3 (w : World) (os : OsState) : (HandSHeadRun.endF (HandSHeadRun.stepQ (HandSHeadRun.denQ HandSHeadRun.tabQ) R.prog (w.withFollow "special-get-raises" true)) 20000 R.prog (w.withFollow "special-get-raises" true) os).map (fun s => ex (HX.part 5 (HandSHeadRun.getT s))) = some true := by kernel_rfl
theorem runT (w : World) : HandSHeadRun.RunEq R qv hk ob 20000 loose (w.withFollow "special-get-raises" true) := fun os =>
  HX.join3' (HX.join3 (runT0 w os) (runT1 w os) (runT2 w os) (runT3 w os))
theorem run (w : World) : HandSHeadRun.RunEq R qv hk ob 20000 loose w := PySem.W.byRow2 "special-get-raises" (P := fun w => HandSHeadRun.RunEq R qv hk ob 20000 loose w) runF runT w
end HY
set_option Elab.async false
set_option linter.all false
set_option maxRecDepth 100000
set_option maxHeartbeats 4000000
/-! General rules of mine: repr of data, index of a tuple of ints, a written dict with int keys, defs that know that no repr runs around them. -/
namespace BP
open PySem PySem.Spec PyProof.Rows L2

/-! ### repr of data -/
def rRepr (K : PySem.W.Frag) : List V → Hp → VK → Prop := fun xs H Q =>
  ∃ a d, xs = [.ref a] ∧ Dp K H (.ref a) d ∧ d.showable = true ∧ d.hasDict = false ∧ d.depth ≤ 40 ∧ d.shown.length ≤ sizeLine ∧ Q (.str d.shown) H
section
variable {X : Cx}
theorem call_repr_data (hg : X.A.guards = some []) (hu : X.A.units + 64 < cLine) : CallR X (.builtin "repr") (rRepr X.K) := by
  intro pins s σ H xs us Q I r h
  obtain ⟨a, d, rfl, hd, hs, hn, hdep, hz, q⟩ := h
  obtain ⟨u, rfl, ru⟩ := vals1 r
  have e : u = Value.ref a := ru
  subst e
  obtain ⟨as, rd⟩ := Dp.reads I d _ _ hd rfl
  refine repr_of_reads' rd hs (PyData.noDict_hsm hn) hg (by omega) (fun b o e => e) (fun h' u tk hk => ?_) hz
  exact ⟨.str d.shown, H, I.kept hk, ⟨_, rfl⟩, q⟩
end

/-! ### t.index(n) of a tuple of whole numbers -/
theorem flat_ints (ys : List Int) : (ys.map V.int).all flatV = true := by
  rw [List.all_map]
  exact List.all_eq_true.mpr fun _ _ => rfl
def rTupIx (K : PySem.W.Frag) : V → List V → Hp → VK → Prop := fun x xs H Q =>
  ∃ p, ∃ ys : List Int, ∃ z j, x = .ref p ∧ xs = [.int z] ∧ SqT K H p (ys.map V.int) ∧ ys[j]? = some z ∧ (∀ m, m < j → ys[m]? ≠ some z) ∧ Q (.int (j : Nat)) H
theorem mt_tupIx {X : Cx} : MtR X "tuple.index" (rTupIx X.K) := by
  intro pins s σ H x xs v us Q I rx rs h
  obtain ⟨p, ys, z, j, rfl, rfl, hq, hy, hno, q⟩ := h
  cases rx
  obtain ⟨u, rfl, t, rfl⟩ := vals1 rs
  obtain ⟨its, r, pl, hz⟩ := I.tuple hq
  obtain ⟨⟨cls, dd, dt, sl⟩, ho, hc, n, hd⟩ := pl
  simp only at hc hd
  subst hc hd
  have hl : its.toArray.size = ys.length := by
    rw [List.size_toArray, ← r.length, List.length_map]
  have hj : j < its.toArray.size := by
    rw [hl]
    exact (List.getElem?_eq_some_iff.mp hy).1
  have look : ∀ (m : Nat) (hm : m < its.toArray.size), ∃ y t', ys[m]? = some y ∧ its.toArray[m] = Value.int y t' := by
    intro m hm
    have hm' : m < ys.length := by
      rw [← hl]
      exact hm
    obtain ⟨w, hw, t', hw'⟩ := r.get (i := m) (x := .int ys[m]) (by simp [hm'])
    refine ⟨ys[m], t', List.getElem?_eq_getElem hm', ?_⟩
    have e := (List.getElem?_eq_some_iff.mp hw).2
    rw [← hw', ← e]
    simp
  have ev : ∀ (y : Int) (t' : Tok), eqU (.int z) (Value.int y t') = decide (y = z) := by
    intro y t'
    show eqV (.int y) (.int z) = _
    by_cases e : y = z
    · subst e
      simp [eqV]
    · simp [eqV, e]
  refine call_meets PySem.F.slot_tuple_index ⟨_, ho, rfl⟩ PySem.F.entry_tuple_index (PySem.F.args_tuple_index_2 _ _)
    (TI.tuple_indexAt p its.toArray n dd sl (.int z t) (eqU (.int z)) j hj ?_ ?_)
    ⟨ho, fun w hw => mem_eqAt (x := .int z) ⟨t, rfl⟩ rfl r (flat_ints ys) w (by simpa using hw), ⟨.int (j : Nat), H, I.tok _, ⟨_, rfl⟩, q⟩⟩
  · obtain ⟨y, t', h1, h2⟩ := look j hj
    rw [h2, ev]
    rw [hy] at h1
    cases h1
    exact decide_eq_true rfl
  · intro m hm hmj
    obtain ⟨y, t', h1, h2⟩ := look m hm
    rw [h2, ev]
    exact decide_eq_false fun e => hno m hmj (e ▸ h1)

/-! ### a dict of the module whose keys are whole numbers -/
def keysI (es : List DictEntry) : Bool := es.all fun e => match e.key with
  | .int i _ => e.hash == hashInt i
  | _ => false
def KDI (K : PySem.W.Frag) (d : Addr) (i : Int) (v : V) : Prop :=
  ∃ es n u, K.lookup d = some ⟨.type "dict", none, .dict es n, #[]⟩ ∧ keysI es.toList = true ∧ findBy Value.isInt es i = some u ∧ RelV v u
theorem ix_kint {X : Cx} : IxR X (fun x y H Q => ∃ p i v, x = .ref p ∧ y = .int i ∧ KDI X.K p i v ∧ Q v H) := by
  intro value slice pins s σ H x y v u Q I rx ry h hs
  obtain ⟨p, i, z, rfl, rfl, ⟨es, n, u0, hl, hk, e, ru⟩, q⟩ := h
  obtain rfl : v = Value.ref p := rx
  obtain ⟨t, rfl⟩ := ry
  have hm : s.heap.MapOf (intKind X.prog X.w) p (fun k => findBy Value.isInt es k) := by
    refine ⟨_, es, n, I.kIn _ _ hl, ⟨rfl, rfl, rfl⟩, rfl, fun e he => ?_, fun _ => rfl⟩
    have q := List.all_eq_true.mp hk e (Array.mem_toList_iff.mpr he)
    split at q
    · rename_i i t' ek
      refine ⟨i, ?_, beq_iff_eq.mp q⟩
      rw [ek]
      exact intKind_is X.prog X.w i t'
    · cases q
  exact tail_any hm.typeIs slot_dict_getitem.lookup (wpAny_getItem_of (intKind_is X.prog X.w i t) hm e ⟨z, H, I.tok _, ru, q⟩) hs
end BP
set_option Elab.async false
set_option linter.all false
set_option maxRecDepth 100000
set_option maxHeartbeats 4000000
/-! Defs that are called where no repr is under way: their promise may use that. -/
namespace BP
open PySem PySem.Spec PyProof.Rows L2

section
variable (P : Program) (w : World) (K : PySem.W.Frag) (mg : Str → Option Value) (base : Heap)
/-- as FnOk, but only where no guard is up -/
structure GFn (k : Nat) (f : Addr) (fd : FuncData) (ps : List Str) (sp : Sp) : Prop where
  len : ∀ vs H Q E, sp vs H Q E → vs.length = ps.length
  run : ∀ (A : Around) (outer : List Env) (s : Shared) (H : Hp) (args : Args) (us : List Value) (vs : List V) (Q : VK) (E : XK),
    A.guards = some [] → Room k A → Env0 P w K mg base A outer s H → BindsTo s fd args (ps.zip us) → Vals vs us → sp vs H Q E →
    codeAny (model P w) A (.call (.ref f) args) (CR CX0 outer P w H s Q E) s
end

section
variable {P : Program} {w : World} {K : PySem.W.Frag} {mg : Str → Option Value} {base : Heap}
theorem FnOk.g {k : Nat} {f : Addr} {fd : FuncData} {ps : List Str} {sp : Sp} (F : FnOk P w K mg base CX0 k f fd ps sp) : GFn P w K mg base k f fd ps sp :=
  ⟨F.len, fun A outer s H args us vs Q E _ hr => F.run A outer s H args us vs Q E hr⟩

theorem gfn_of {k : Nat} {f : Addr} {name qual : Str} {params : Arguments} {body : List Stmt} {scope : Scope} {dV kV doc pm cdv ct oc : Value} {an od : Option Addr} {osl : Array (Option Value)} {N ps : List Str} {sp : Sp}
    (look : K.lookup f = some ⟨oc, od, .func (PySem.W.fnOf name qual params body scope dV kV doc pm an cdv ct), osl⟩) (code : PySem.W.codeIn K cdv qual = true) (S : FnScope N ps scope)
    (len : ∀ vs H Q E, sp vs H Q E → vs.length = ps.length)
    (hb : ∀ (A : Around) (outer : List Env) (s : Shared) (H : Hp) (vs : List V) (Q : VK) (E : XK), A.guards = some [] → Room k (A.deeper (envOfC qual scope s.heap.objs.size f cdv)) → sp vs H Q E →
      ∃ t, PSs (cxOf CX0 P w K mg base N qual scope f cdv A outer s H E) body t ∧ t { nx := fun _ H' => Q .non H', rt := Q } (start N vs) H) :
    GFn P w K mg base (k + 1) f (PySem.W.fnOf name qual params body scope dV kV doc pm an cdv ct) ps sp := by
  refine ⟨len, fun A outer s H args us vs Q E hg room env bnd rel want => ?_⟩
  have hl := len _ _ _ _ want
  have inK : K.In s.heap := env.mod.kin.keeps fun b o e => (env.bs b o e).1
  have noLim : s.heap.NoLimit := env.mod.nolimit.keeps fun b o e => (env.bs b o e).1
  have kinds : ∀ y ∈ ps.zip us, scope.names.lookup y.1 = some .local ∨ (scope.names.lookup y.1 = some .cell ∧ ((cellsFrom (s.heap.objs.size + 1) scope.names []).lookup y.1).isSome = true) := by
    intro ⟨n, v⟩ hy
    cases S.par n (List.of_mem_zip hy).1 with
    | inl q => exact .inl q
    | inr q => exact .inr ⟨q, PySem.W.cellsFrom_some _ _ _ (.inl q)⟩
  refine codeAny_call_function room.depth (inK _ _ look) rfl S.co S.gen rfl
    (PySem.W.codeRec_of inK code) (bnd _ _ _ _ ?_)
  refine wpAny_newFunctionEnv_cells S.kind kinds fun env1 he s1 x => ?_
  subst he
  refine ⟨noLim.keeps x.toInCall.keep, codeAny_func ?_⟩
  obtain ⟨t, ht, hq⟩ := hb A outer s H vs Q E hg (room.deeper _) want
  have inv0 : Inv (cxOf CX0 P w K mg base N qual scope f cdv A outer s H E) [] (start N vs) H s1 :=
    inv_start S room.hd env hl rel x
  refine wpAny_mono (ht.run [] s1 (start N vs) H _ inv0 hq) (fun fl s' hs => ?_) fun _ _ z => z
  cases fl with
  | ret u =>
    obtain ⟨v, σ', H', J, rv, q⟩ := hs
    exact ⟨v, H', J.os, J.bare, J.base, J.hok, rv, q⟩
  | next =>
    obtain ⟨σ', H', J, q⟩ := hs
    exact ⟨V.non, H', J.os, J.bare, J.base, J.hok, rfl, q⟩
  | brk =>
    obtain ⟨_, _, _, q⟩ := hs
    exact q.elim
  | cont =>
    obtain ⟨_, _, _, q⟩ := hs
    exact q.elim

/-- by the text's def -/
theorem gok {x qual : Str} {st : Stmt} {f : Addr} {fd : FuncData} {N ps : List Str} {k : Nat} {sp : Sp} (F : Fun K x qual st f fd) (S : FnScope N ps (defScope st)) (len : ∀ vs H Q E, sp vs H Q E → vs.length = ps.length)
    (hb : ∀ (cdv : Value) (A : Around) (outer : List Env) (s : Shared) (H : Hp) (vs : List V) (Q : VK) (E : XK), A.guards = some [] → Room k (A.deeper (envOfC qual (defScope st) s.heap.objs.size f cdv)) → sp vs H Q E →
      ∃ t, PSs (cxOf CX0 P w K mg base N qual (defScope st) f cdv A outer s H E).nox (defBody st) t ∧ t { nx := fun _ H' => Q .non H', rt := Q } (start N vs) H) : GFn P w K mg base (k + 1) f fd ps sp := by
  obtain ⟨oc, od, kV, doc, pm, an, cdv, ct, osl, rfl, lk, cd⟩ := F.ex
  refine gfn_of lk cd S len fun A outer s H vs Q E hg hr want => ?_
  obtain ⟨t, h, q⟩ := hb cdv A outer s H vs Q E hg hr want
  exact ⟨t, h.nox, q⟩
end

section
variable {X : Cx} {k : Nat} {f : Addr} {fd : FuncData} {ps : List Str} {sp : Sp} {E : XK} {x : Str} {p pos : Pos} {e : Expr} {es : List Expr} {t : TA}
theorem pe_callG (F : GFn X.prog X.w X.K X.mg X.base k f fd ps sp) (gd : X.A.guards = some []) (hr : Room k X.A) (hg : Gl X x) (hm : X.mg x = some (.ref f)) (hk : PySem.W.keepIn X.K (.ref f) = true)
    (hb : Binds X.K fd ps []) (hx : Passes CX0 X E)
    (ha : PA X (e :: es) t) (hdb : (x == ("__debug__" : Str)) = false := by decide) (he : starEach (e :: es) X.env = (false, eval e X.env) :: starEach es X.env := by rfl)
    (hpl : (backTo pos (starEach es X.env)).any (·.1) = false := by rfl) :
    PE X (.Call (.Name x p) (e :: es) [] pos) (tCall sp [] E t) := by
  refine ⟨fun pins s σ H Q I h => wpAny_Call_Name_kw (ld_glob I hg hm ?_ hdb)⟩
  have args := ha.run pos pins s σ H _ I h
  refine PySem.W.callWith_K (h₀ := X.base) I.ok.mod.kin hk (thn args fun us s1 h1 => ?_) he hpl
  obtain ⟨vs, H1, I1, r, q⟩ := h1
  refine ⟨I1.kIn, ?_⟩
  have q' : sp vs H1 Q E := by
    have q0 : sp (vs ++ []) H1 Q E := q
    rw [List.append_nil] at q0
    exact q0
  have hl : (us ++ []).length = ps.length := by
    rw [List.append_nil, ← r.length]
    exact F.len _ _ _ _ q'
  have bd := hb s1 us I1.kIn hl
  rw [List.append_nil] at bd
  refine wpAny_call (codeAny_mono (F.run X.A X.stack s1 H1 ⟨us, []⟩ us vs Q E gd hr I1.env0 bd r q') fun res s' hq => ?_)
  match res, hq with
  | .error er, hq => exact hx pins σ H1 s1 er s' I1 hq
  | .ok (.ret u), hq => exact I1.after hq
end

/-! ### the law's own call -/
section
variable {P : Program} {w : World} {K : PySem.W.Frag} {mg mb : Str → Option Value} {k : Nat} {fa a : Addr} {fd : FuncData} {x : Str} {sp : Sp} {s₁ : Shared} {vs : List Value} {ns : List Int}
/-- what the caller of the law wants -/
def Fine (s₀ : Shared) (r : Result) (s' : Shared) : Prop :=
  r = .ok (.ret (.bool true)) ∧ OldK s₀.heap s'.heap ∧ s'.os = s₀.os ∧ AllBare s'.gens
theorem law_core (KX : K.In s₁.heap) (hns : s₁.heap.Ns mainGlobals mg) (hb : s₁.heap.Ns builtinsNs mb) (hbb : ∀ x : Str, x ≠ "__name__" → mb x = bootBuiltins x) (hlim : s₁.heap.NoLimit) (hg : s₁.gens = #[])
    (ha : s₁.heap.get? a = some { cls := .type "list", data := .seq vs.toArray }) (hr : Room k callerA)
    (F : ∀ base : Heap, K.In base → base.Ns mainGlobals mg → GFn P w K mg base k fa fd [x] sp) (hbind : ∀ (s : Shared) (u : Value), BindsTo s fd ⟨[u], []⟩ [(x, u)])
    (H : Hp) (only : Only H) (ok : HOk P w H s₁.heap) (hA : ∀ b, H b ≠ none → b = a) (hK : H a ≠ none → K.lookup a = none)
    (want : sp [.ref a] H (fun v _ => v = .bl true) fun _ _ _ => False) :
    codeAny (model P w) callerA (.call (.ref fa) ⟨[.ref a], []⟩) (Fine s₁) s₁ := by
  have at_a : ∀ {b : Addr} {o : Obj}, s₁.heap.get? b = some o → H b ≠ none → o = { cls := .type "list", data := .seq vs.toArray } := by
    intro b o e n
    rw [hA b n, ha] at e
    exact (Option.some.inj e).symm
  have free : ∀ {b : Addr} {o : Obj} {es : Array DictEntry} {ep : Nat}, s₁.heap.get? b = some o → o.data = .dict es ep → H b = none := by
    intro b o es ep e d
    refine Classical.byContradiction fun n => ?_
    rw [at_a e n] at d
    exact nomatch d
  have keepNs : ∀ {b : Addr} {m : Str → Option Value}, s₁.heap.Ns b m → (hidT s₁.heap H).Ns b m := by
    intro b m z
    obtain ⟨o, es, ep, e, d, r⟩ := z
    exact ⟨o, es, ep, hidT_get e (free e d), d, r⟩
  have KB : K.In (hidT s₁.heap H) := by
    intro b o e
    refine hidT_get (KX b o e) (Classical.byContradiction fun n => ?_)
    have eb := hA b n
    subst eb
    rw [hK n] at e
    cases e
  obtain ⟨mc, lim1, lim2⟩ := hlim
  have M : Mod K mg (hidT s₁.heap H) := ⟨KB, keepNs hns, ⟨mb, keepNs hb, hbb⟩, ⟨mc, keepNs lim1, lim2⟩⟩
  have env : Env0 P w K mg (hidT s₁.heap H) callerA [] s₁ H := by
    refine ⟨rfl, M, fun b o e => of_hidT e, Nat.le_of_eq (hidT_size _ _), trivial, fun b z => ?_, ok, .of_eq hg⟩
    exact absurd (show b ∈ ([] : List Addr) from z) (by simp)
  have run := (F _ KB (keepNs hns)).run callerA [] s₁ H ⟨[.ref a], []⟩ [.ref a] [.ref a] _ _ rfl hr env (hbind s₁ (.ref a)) (.cons rfl .nil) want
  refine codeAny_mono run fun r s' h => ?_
  match r, h with
  | .error e, h => exact False.elim h
  | .ok (.ret u), ⟨v, H', os, bare, un, ok', rv, q⟩ =>
    have q' : v = .bl true := q
    subst q'
    have ru : u = Value.bool true := rv
    subst ru
    refine ⟨rfl, OldK.of_keep fun b o e => ?_, os, bare⟩
    cases hb : H b with
    | none => exact un.keep b o e hb (fun z => absurd (show b ∈ ([] : List Addr) from z) (by simp)) (by simp)
    | some t =>
      cases only b with
      | inl z =>
        rw [hb] at z
        cases z
      | inr z =>
        obtain ⟨ob, xs, z⟩ := z
        have one := (ok b _ z).1
        have two := (ok' b _ (un.frzs b ob _ z)).1
        rw [e] at one
        cases one
        exact two

theorem law_callG (KX : K.In s₁.heap) (hns : s₁.heap.Ns mainGlobals mg) (hb : s₁.heap.Ns builtinsNs mb) (hbb : ∀ x : Str, x ≠ "__name__" → mb x = bootBuiltins x) (hlim : s₁.heap.NoLimit) (hg : s₁.gens = #[])
    (ha : s₁.heap.get? a = some { cls := .type "list", data := .seq vs.toArray }) (hi : IntsAre vs ns) (hl : ns.length ≤ sizeLine) (hr : Room k callerA)
    (F : ∀ base : Heap, K.In base → base.Ns mainGlobals mg → GFn P w K mg base k fa fd [x] sp) (hbind : ∀ (s : Shared) (u : Value), BindsTo s fd ⟨[u], []⟩ [(x, u)])
    (want : ∀ H : Hp, Only H → SqL K H a (ns.map V.int) → sp [.ref a] H (fun v _ => v = .bl true) fun _ _ _ => False) :
    codeAny (model P w) callerA (.call (.ref fa) ⟨[.ref a], []⟩) (Fine s₁) s₁ := by
  have rv := vals_ints hi
  cases hk : K.lookup a with
  | some o =>
    have e := KX a o hk
    rw [ha] at e
    cases e
    have nowhere : ∀ b : Addr, (fun _ => none : Hp) b ≠ none → b = a := fun b z => absurd rfl z
    refine law_core KX hns hb hbb hlim hg ha hr F hbind (fun _ => none) (fun _ => .inl rfl) (fun b u z => nomatch z) nowhere (fun z => absurd rfl z) (want _ (fun _ => .inl rfl) (.inr ?_))
    refine ⟨_, vs.toArray, _, hk, rfl, rfl, rfl, ?_, by simpa using rv⟩
    rw [List.size_toArray, hi.length]
    exact hl
  | none =>
    let H : Hp := upd (fun _ => none) a (.frz { cls := .type "list", data := .seq vs.toArray } (.lst (ns.map V.int)))
    have off : ∀ b, b ≠ a → H b = none := fun b n => upd_ne n
    have on : H a = _ := upd_same
    refine law_core KX hns hb hbb hlim hg ha hr F hbind H (fun b => ?_) (fun b u z => ?_) (fun b z => Classical.byContradiction fun n => z (off b n)) (fun _ => hk) (want H (fun b => ?_) (.inl (.inr ⟨_, on⟩)))
    · by_cases n : b = a
      · subst n
        exact .inr ⟨_, _, on⟩
      · exact .inl (off b n)
    · by_cases n : b = a
      · subst n
        rw [on] at z
        cases z
        refine ⟨ha, ?_, vs, _, rv, ha⟩
        rw [List.length_map]
        exact hl
      · rw [off b n] at z
        cases z
    · by_cases n : b = a
      · subst n
        exact .inr ⟨_, _, on⟩
      · exact .inl (off b n)
end

theorem walkG {l : PySem.W.OpenLaw} {n k : Nat} {q : Program} {loose : List Str} {XP : (Str → Option Value) → Heap → Prop} {YP : World → Heap → Prop} {d : DefRec} {K : Params → PySem.W.Frag} {sp : World → Sp} {x : Str}
    (hn : l.most = some n) (hn2 : n ≤ sizeLine) (hdf : d.params.defaults = []) (hr : Room k callerA) (hY : ∀ (w : World) (h : Heap), YP w h → (K w.params).In h)
    (F : ∀ (w : World) (mg : Str → Option Value) (fa : Addr) (h : Heap), (K w.params).In h → h.Ns mainGlobals mg → mg d.name = some (.ref fa) →
      ∃ fd : FuncData, (∀ (s : Shared) (u : Value), BindsTo s fd ⟨[u], []⟩ [(x, u)]) ∧
        ∀ base : Heap, (K w.params).In base → base.Ns mainGlobals mg → GFn l.prog w (K w.params) mg base k fa fd [x] (sp w))
    (want : ∀ (w : World) (H : Hp) (a : Addr) (ns : List Int), ns.length ≤ n → Only H → SqL (K w.params) H a (ns.map V.int) → sp w [.ref a] H (fun v _ => v = .bl true) fun _ _ _ => False) :
    PySem.W.WalkO q loose XP YP l.row.toRowW d [] (fun f vs => PySem.call f vs) := by
  refine Att.attach_call hn hdf fun w s₀ s₁ mg mb fa o pm cd doc a vs ns G Y ho hd hcd hmg hobj hints hlen hg => ?_
  have KX := hY w _ Y
  obtain ⟨fd, hb, hF⟩ := F w mg fa _ KX G.T.g hmg
  exact law_callG KX G.T.g G.T.b G.T.builtins G.T.nolimit hg hobj hints (Nat.le_trans hlen hn2) hr hF hb (fun H o sq => want w H a ns hlen o sq)
end BP
set_option Elab.async false
set_option linter.all false
set_option maxRecDepth 100000
set_option maxHeartbeats 4000000
/-! Calls by keywords alone. -/
namespace BP
open PySem PySem.Spec PyProof.Rows L2
section
variable {X : Cx} {CX : CXT} {k : Nat} {f : Addr} {fd : FuncData} {ps ks : List Str} {sp : Sp} {E : XK} {x : Str} {p pos : Pos} {kws : List Keyword} {tk : TA} {g : List Value → List Value → List Value} {gV : List V → List V → List V}
theorem pe_callK0 (F : FnOk X.prog X.w X.K X.mg X.base CX k f fd ps sp) (hr : Room k X.A) (hg : Gl X x) (hm : X.mg x = some (.ref f)) (hk : PySem.W.keepIn X.K (.ref f) = true)
    (hb : KBinds X.K fd ps ks g gV) (hx : Passes CX X E) (hkw : PK X kws tk)
    (hall : (backToKw pos (keywordEach kws X.env)).all (·.1.isSome) = true := by rfl)
    (hks : (backToKw pos (keywordEach kws X.env)).filterMap (·.1) = ks := by rfl)
    (hdb : (x == ("__debug__" : Str)) = false := by decide)
    (hpl : ((backTo pos (starEach [] X.env)).any (·.1) || (backToKw pos (keywordEach kws X.env)).any (·.1.isNone)) = false := by rfl) :
    PE X (.Call (.Name x p) [] kws pos) (tCallK sp gV E tNil tk) := by
  refine ⟨fun pins s σ H Q I h => wpAny_Call_Name_kw (ld_glob I hg hm ?_ hdb)⟩
  have run := hkw.run pos pins s σ H _ I h
  refine PySem.W.callWith_KW0 (h₀ := X.base) I.ok.mod.kin hk hall (thn run fun ws s2 hh => ?_) hpl
  obtain ⟨zs, H2, I2, rz, q2⟩ := hh
  refine ⟨I2.kIn, ?_⟩
  rw [hks]
  exact run_fnk (us := []) F hr hb hx I2 .nil rz q2
end
/-- two keywords, the other way round -/
def sw2 {α : Type} : List α → List α → List α
  | [], x :: y :: _ => [y, x]
  | _, _ => []
/-- three keywords: the last two, then the first one -/
def sw3 {α : Type} : List α → List α → List α
  | [], x :: y :: z :: _ => [y, z, x]
  | _, _ => []
/-- three keywords, backwards -/
def rv3 {α : Type} : List α → List α → List α
  | [], x :: y :: z :: _ => [z, y, x]
  | _, _ => []
theorem sw2_rel : ∀ {vs : List V} {us : List Value} {zs : List V} {ws : List Value}, Vals vs us → Vals zs ws → Vals (sw2 vs zs) (sw2 us ws)
  | _, _, _, _, .nil, .cons a (.cons b _) => .cons b (.cons a .nil)
  | _, _, _, _, .nil, .nil => .nil
  | _, _, _, _, .nil, .cons _ .nil => .nil
  | _, _, _, _, .cons _ _, .nil => .nil
  | _, _, _, _, .cons _ _, .cons _ .nil => .nil
  | _, _, _, _, .cons _ _, .cons _ (.cons _ _) => .nil
theorem sw3_rel : ∀ {vs : List V} {us : List Value} {zs : List V} {ws : List Value}, Vals vs us → Vals zs ws → Vals (sw3 vs zs) (sw3 us ws)
  | _, _, _, _, .nil, .cons a (.cons b (.cons c _)) => .cons b (.cons c (.cons a .nil))
  | _, _, _, _, .nil, .nil => .nil
  | _, _, _, _, .nil, .cons _ .nil => .nil
  | _, _, _, _, .nil, .cons _ (.cons _ .nil) => .nil
  | _, _, _, _, .cons _ _, .nil => .nil
  | _, _, _, _, .cons _ _, .cons _ .nil => .nil
  | _, _, _, _, .cons _ _, .cons _ (.cons _ .nil) => .nil
  | _, _, _, _, .cons _ _, .cons _ (.cons _ (.cons _ _)) => .nil
theorem rv3_rel : ∀ {vs : List V} {us : List Value} {zs : List V} {ws : List Value}, Vals vs us → Vals zs ws → Vals (rv3 vs zs) (rv3 us ws)
  | _, _, _, _, .nil, .cons a (.cons b (.cons c _)) => .cons c (.cons b (.cons a .nil))
  | _, _, _, _, .nil, .nil => .nil
  | _, _, _, _, .nil, .cons _ .nil => .nil
  | _, _, _, _, .nil, .cons _ (.cons _ .nil) => .nil
  | _, _, _, _, .cons _ _, .nil => .nil
  | _, _, _, _, .cons _ _, .cons _ .nil => .nil
  | _, _, _, _, .cons _ _, .cons _ (.cons _ .nil) => .nil
  | _, _, _, _, .cons _ _, .cons _ (.cons _ (.cons _ _)) => .nil
section
variable {K : PySem.W.Frag} {x qual : Str} {st : Stmt} {f : Addr} {fd : FuncData}
theorem kb_sw2 {a b : Str} (F : Fun K x qual st f fd)
    (h : ∀ (kV doc pm : Value) (an : Option Addr) (cdv ct u v : Value), bindArgs (PySem.W.fnOf x qual (defArgs st) (defBody st) (defScope st) .none kV doc pm an cdv ct) ⟨[], [(b, u), (a, v)]⟩ = pure [(a, v), (b, u)]) : KBinds K fd [a, b] [b, a] sw2 sw2 := by
  obtain ⟨oc, od, kV, doc, pm, an, cdv, ct, osl, rfl, _⟩ := F.ex
  refine ⟨fun s us ws _ hl => ?_, sw2_rel⟩
  match us, ws, hl with
  | [], u :: v :: r, _ => exact .of_eq (h kV doc pm an cdv ct u v)
theorem kb_sw3 {a b c : Str} (F : Fun K x qual st f fd)
    (h : ∀ (kV doc pm : Value) (an : Option Addr) (cdv ct u v w : Value), bindArgs (PySem.W.fnOf x qual (defArgs st) (defBody st) (defScope st) .none kV doc pm an cdv ct) ⟨[], [(c, u), (a, v), (b, w)]⟩ = pure [(a, v), (b, w), (c, u)]) : KBinds K fd [a, b, c] [c, a, b] sw3 sw3 := by
  obtain ⟨oc, od, kV, doc, pm, an, cdv, ct, osl, rfl, _⟩ := F.ex
  refine ⟨fun s us ws _ hl => ?_, sw3_rel⟩
  match us, ws, hl with
  | [], u :: v :: w :: r, _ => exact .of_eq (h kV doc pm an cdv ct u v w)
theorem kb_rv3 {a b c : Str} (F : Fun K x qual st f fd)
    (h : ∀ (kV doc pm : Value) (an : Option Addr) (cdv ct u v w : Value), bindArgs (PySem.W.fnOf x qual (defArgs st) (defBody st) (defScope st) .none kV doc pm an cdv ct) ⟨[], [(c, u), (b, v), (a, w)]⟩ = pure [(a, w), (b, v), (c, u)]) : KBinds K fd [a, b, c] [c, b, a] rv3 rv3 := by
  obtain ⟨oc, od, kV, doc, pm, an, cdv, ct, osl, rfl, _⟩ := F.ex
  refine ⟨fun s us ws _ hl => ?_, rv3_rel⟩
  match us, ws, hl with
  | [], u :: v :: w :: r, _ => exact .of_eq (h kV doc pm an cdv ct u v w)
end
end BP
set_option Elab.async false
set_option linter.all false
set_option maxRecDepth 100000
set_option maxHeartbeats 4000000
/-! enumerate of a tuple. -/
namespace BP
open PySem PySem.Spec PyProof.Rows L2
theorem meets_enumT {v : Value} {o : Obj} {N : Heap → Prop} (B : Begins v o N) :
    Meets (Builtin.«enumerate.__new__» ⟨[.type "enumerate", v], []⟩) (fun _ R s => N s.heap ∧
      R (.ok (.ret (.ref (s.heap.push o).objs.size))) { s with heap := (s.heap.push o).push { cls := .type "enumerate", data := .fields #[.none, .bool false, .ref s.heap.objs.size, rawInt 0, .none, .none] } }) :=
  .of_wp fun prog w A R s h => by
    obtain ⟨hp, g, d, tk, os⟩ := s
    obtain ⟨h1, h⟩ := h
    have hsub := sub_enumerate
    have q1 : ∀ {A' : Around} {E : Value → Shared → Prop} {Q : Value → Shared → Prop}, Q (.ref hp.objs.size) ⟨hp.push o, g, d, tk, os⟩ → wpAny (model prog w) A' (pyIter v) Q E ⟨hp, g, d, tk, os⟩ := by
      intro A' E Q q
      exact B.iter prog w _ _ ⟨hp, g, d, tk, os⟩ _ h1 q
    wp_walk using q1
    refine wpAny_stack_any fun ss => wpAny_pure ?_
    split
    · rename_i c _ _ _ _ _
      cases (c == Value.type "enumerate")
      · wp_walk using q1
        exact ⟨_, rfl, h⟩
      · wp_walk using q1
        exact ⟨_, rfl, h⟩
    · wp_walk using q1
      exact ⟨_, rfl, h⟩
theorem call_enumT {prog : Program} {w : World} {A : Around} {E : Value → Shared → Prop} {s : Shared} {t : Addr} {items : Array Value} {Q : Value → Shared → Prop} (htup : s.heap.IsTuple t items)
    (h : ∀ g', IsEnum g' (s.heap.objs.size + 1) s.heap.objs.size 0 .none → g'.IsTupleIter s.heap.objs.size t 0 → g'.objs.size = s.heap.objs.size + 2 →
      (∀ b o, s.heap.get? b = some o → g'.get? b = some o) → Q (.ref (s.heap.objs.size + 1)) { s with heap := g' }) :
    wpAny (model prog w) A (call (.type "enumerate") [.ref t]) Q E s := by
  refine callType_new F.called_enumerate (by decide) (F.typeCall_enumerate_1 _) (F.newCall_enumerate_1 _) (fun obj => F.args_object_init_2 obj _) F.entry_enumerate_new (meets_enumT (begins_tuple t items)) ⟨htup, ?_⟩
  have hzz : (s.heap.push { cls := .type "tuple_iterator", data := .fields #[.ref t, .int 0 0] }).objs.size = s.heap.objs.size + 1 := Heap.size_push ..
  show _ ∧ _
  rw [hzz]
  have it0 : (s.heap.push { cls := .type "tuple_iterator", data := .fields #[.ref t, .int 0 0] }).get? s.heap.objs.size = some _ := Heap.get?_push_size _ rfl
  have hee : IsEnum ((s.heap.push { cls := .type "tuple_iterator", data := .fields #[.ref t, .int 0 0] }).push { cls := .type "enumerate", data := .fields #[.none, .bool false, .ref s.heap.objs.size, rawInt 0, .none, .none] }) (s.heap.objs.size + 1) s.heap.objs.size 0 .none := by
    have e := Heap.get?_push_size (s.heap.push { cls := .type "tuple_iterator", data := .fields #[.ref t, .int 0 0] }) (o := { cls := .type "enumerate", data := .fields #[.none, .bool false, .ref s.heap.objs.size, rawInt 0, .none, .none] }) rfl
    rw [hzz] at e
    exact e
  refine ⟨⟨_, hee, rfl⟩, h _ hee ⟨_, Heap.get?_push_of_some _ it0, rfl, rfl⟩ (by rw [Heap.size_push, hzz]) fun b o x => Heap.get?_push_of_some _ (Heap.get?_push_of_some _ x)⟩
/-- the tuple at a as it stands, each item in a new pair -/
def IteT (K : PySem.W.Frag) (a : Addr) : It :=
  ⟨fun i H => ∃ (xs : List V) (x : V), SqT K H a xs ∧ xs[i]? = some x,
   fun i H v H' => ∃ T x, v = .ref T ∧ H T = none ∧ H' = upd H T (.tup [.int (i : Nat), x]) ∧ ∀ xs, SqT K H a xs → xs[i]? = some x,
   fun i H => ∃ xs : List V, SqT K H a xs ∧ xs.length ≤ i⟩
theorem turn_enumT {P : Program} {w : World} {K : PySem.W.Frag} {elts : List Expr} {kk : Nat} {tpos : Pos} (a e it : Addr) (hai : a ≠ it) :
    Turn P w K (.Tuple elts kk tpos) (IteT K a) [e, it] e (fun i h => (∃ od, IsEnum h e it ((i : Nat) : Int) od) ∧ h.IsTupleIter it a i ∧ e ≠ it) where
  mem := by simp
  obj := fun i h ss b hb => by
    obtain ⟨⟨od, hee⟩, ⟨o, hoo, hcc, hdd⟩, _⟩ := ss
    have z : b = e ∨ b = it := by simpa using hb
    cases z with
    | inl z =>
      rw [z]
      exact ⟨_, hee, fun v q => nomatch q⟩
    | inr z =>
      rw [z]
      refine ⟨o, hoo, fun v q => ?_⟩
      rw [hdd] at q
      cases q
  keep := fun i h g' ss k => by
    obtain ⟨⟨od, hee⟩, hin, hnn⟩ := ss
    exact ⟨⟨od, k e (by simp) _ hee⟩, hin.at fun o q => k it (by simp) o q, hnn⟩
  item := by
    intro X hP hw hK hcc i pl0 s σ H E I hfp ss hgo
    subst hP hw hK
    obtain ⟨⟨od, hee⟩, hii, hnn⟩ := ss
    obtain ⟨xs, x, hq, hxx⟩ := hgo
    obtain ⟨ws, rvs, p, hzz⟩ := I.tuple hq
    obtain ⟨u, huu, ruu⟩ := rvs.get hxx
    have helt : e < s.heap.objs.size := Heap.lt_size hee
    have hil : it < s.heap.objs.size := by
      obtain ⟨_, y, _⟩ := hii
      exact Heap.lt_size y
    have hea : e ≠ a := fun z => by
      obtain ⟨o, hoo, hc1, _⟩ := p
      rw [← z, hee] at hoo
      cases hoo
      have h3 : (Value.type "enumerate") = Value.type "tuple" := hc1
      injection h3 with h3
      exact absurd h3 (by decide)
    have hil2 : i < ws.toArray.size := by
      rw [List.size_toArray]
      exact (List.getElem?_eq_some_iff.mp huu).1
    refine wpAny_pyNext_enum_itemD (Draws.tuple (prog := X.prog) (w := X.w) (A := X.A.in1) (I.ok.hd hcc) it a hai ws.toArray) hee ⟨hii, (show s.heap.IsTuple a ws.toArray from p)⟩ hil2 hnn (by simp [hnn, hea]) fun y g' tk hy hoo hst htT hsz hkk => ?_
    have ey : y = u := by
      have e1 : ws[i]? = some y := by simpa using hy
      rw [huu] at e1
      exact (Option.some.inj e1).symm
    subst ey
    refine ⟨_, rfl, wpAny_letOwnedTupleGo_enum (s := { s with heap := g', toks := tk + 1 }) hoo fun h'' he' sb => ?_⟩
    have hT2 := (sb.2 _ (Nat.ne_of_gt helt)).trans htT
    have new : ObjOk X.prog X.w (upd H s.heap.objs.size (.tup [.int (i : Nat), x])) h'' s.heap.objs.size (.tup [.int (i : Nat), x]) :=
      ⟨by show 2 ≤ sizeLine; decide, [.int i tk, y], .cons ⟨_, rfl⟩ (.cons ruu .nil), ⟨_, hT2, rfl, _, rfl⟩⟩
    have far : ∀ b, b ∉ [e, it] → b ≠ e ∧ b ≠ it := fun b hb => ⟨fun z => hb (by simp [z]), fun z => hb (by simp [z])⟩
    have J1 : Inv X pl0 σ (upd H s.heap.objs.size (.tup [.int (i : Nat), x])) { s with heap := h'', toks := tk + 1 } := by
      refine I.turnedNew (ch := [e, it]) (fun b ob hb q => ?_) hfp (Nat.le_refl _) new
      obtain ⟨n1, n2⟩ := far b hb
      exact (sb.2 b n1).trans (hkk b ob n1 n2 q)
    refine ⟨.ref s.heap.objs.size, _, J1, rfl, ⟨_, x, rfl, I.hok.fresh (Nat.le_refl _), rfl, fun ys hy => by rw [I.tuple_inj hy hq]; exact hxx⟩, ⟨⟨y, ?_⟩, hst.1.at fun o q => (sb.2 it (Ne.symm hnn)).trans q, hnn⟩, fun b hb => ?_⟩
    · have e1 : ((i + 1 : Nat) : Int) = (i : Int) + 1 := by omega
      rw [e1]
      exact he'
    · have hb' : b < s.heap.objs.size := by
        have z : b = e ∨ b = it := by simpa using hb
        cases z with
        | inl z => rw [z]; exact helt
        | inr z => rw [z]; exact hil
      rw [upd_ne (Nat.ne_of_lt hb')]
      exact (hfp b hb).1
  done := by
    intro X hP hw hK hcc i pl0 s σ H E I hfp ss hgo
    subst hP hw hK
    obtain ⟨⟨od, hee⟩, hii, hnn⟩ := ss
    obtain ⟨xs, hq, hxx⟩ := hgo
    obtain ⟨ws, rvs, p, hzz⟩ := I.tuple hq
    obtain ⟨f0, f1, f2, f3, f4, f5⟩ := hfp it (by simp)
    have hsq := rvs.length
    have T : s.TypeIs (.ref e) "enumerate" := ⟨_, hee, rfl⟩
    unfold pyNext
    refine wpAny_bind (wpAny_attempt (wpAny_callSpecial?_slot (name := Str.ofString "__next__") T F.slot_enumerate_next
      (wpAny_call_entry F.slot_enumerate_next T F.entry_enumerate_next ?_ (F.args_enumerate_next_1 _))))
    show wpAny _ _ (field (.ref e) 2 >>= _) _ _ _
    refine wpAny_bind (wpAny_field hee rfl (x := .ref it) rfl ?_)
    refine wpAny_bind (wpAny_nextOf_tuple_end (by exact I.ok.hd hcc) hii (show s.heap.IsTuple a ws.toArray from p) (by simp; omega) fun g' x eb hx' => ?_)
    obtain ⟨o, hoo, hcs⟩ := hx'
    refine wpAny_bind (wpAny_isInstance (T := "StopIteration") (b := true) ⟨o, hoo, hcs⟩ isSubtype_stop ?_)
    exact wpAny_pure ⟨rfl, I.turned (t' := s.toks) (fun b o hb q => eb b o hb q) f0 f1 f3 f4 f5⟩
  self := fun A i s Q E ss h => by
    obtain ⟨⟨_, hee⟩, _⟩ := ss
    exact wpAny_pyIter_enum hee h
def iEnumT (K : PySem.W.Frag) (ta : TA) : TI := fun σ H R => ta σ H fun vs H1 => ∃ a xs, vs = [.ref a] ∧ SqT K H1 a xs ∧ R (IteT K a) H1
theorem pi_enumT {X : Cx} {e : Expr} {ta : TA} {p pos tpos : Pos} {elts : List Expr} {kk : Nat} (hgo : Gl X "enumerate") (hmg : X.mg "enumerate" = none) (hargs : PA X [e] ta) (hst : starEach [e] X.env = [(false, eval e X.env)] := by rfl) :
    PI X (.Tuple elts kk tpos) (.Call (.Name "enumerate" p) [e] [] pos) (iEnumT X.K ta) := by
  refine ⟨fun pl0 s σ H R I h => ?_⟩
  refine Call_ (ld_blt I hgo hmg boot_enumerate (PyProof.Rows.callWith_type1 (thn (hargs.run pos pl0 s σ H _ I h) fun us sh1 hh => ?_) hst rfl))
  obtain ⟨vs, H1, J1, r1, a, xs, ex, hq, q⟩ := hh
  subst ex
  cases r1 with
  | cons r rr =>
    cases rr
    cases r
    obtain ⟨ws, rvs, p', hzz⟩ := J1.tuple hq
    have hal : a < sh1.heap.objs.size := by
      obtain ⟨o, hoo, _⟩ := p'
      exact Heap.lt_size hoo
    refine call_enumT (show sh1.heap.IsTuple a ws.toArray from p') fun g' hee hii hsz hkk => wpAny_pyIter_enum hee ?_
    have J2 : Inv X pl0 σ H1 { sh1 with heap := g' } := J1.kept (t' := sh1.toks) hkk
    refine ⟨sh1.heap.objs.size + 1, [sh1.heap.objs.size + 1, sh1.heap.objs.size], _, _, H1, rfl, J2, turn_enumT a (sh1.heap.objs.size + 1) sh1.heap.objs.size (Nat.ne_of_lt hal), ⟨⟨.none, hee⟩, hii, Nat.succ_ne_self _⟩, fun b hb => ?_, q⟩
    have z : b = sh1.heap.objs.size + 1 ∨ b = sh1.heap.objs.size := by simpa using hb
    have hbl : sh1.heap.objs.size ≤ b := by
      cases z with
      | inl z =>
        rw [z]
        exact Nat.le_add_right _ _
      | inr z =>
        rw [z]
        exact Nat.le_refl _
    exact J1.fpOk hbl (J1.hok.fresh hbl)
/-- for k, x in enumerate(t) -/
theorem for_enumT {K : PySem.W.Frag} {a : Addr} {xs : List V} {g : TG} {tb : TS} {D : Ends} {σ : L2.St} {H : Hp} (Inv0 : Nat → L2.St → Hp → Prop) (hst0 : Inv0 0 σ H) (hsq : ∀ i σ H, i ≤ xs.length → Inv0 i σ H → SqT K H a xs)
    (hst : ∀ (i : Nat) (x : V) (σ : L2.St) (H : Hp) (T : Addr), xs[i]? = some x → Inv0 i σ H → H T = none → g (.ref T) σ (upd H T (.tup [.int (i : Nat), x])) fun σ2 H2 => tb { D with nx := Inv0 (i + 1), ct := Inv0 (i + 1), bk := D.nx } σ2 H2)
    (hdd : ∀ σ H, Inv0 xs.length σ H → D.nx σ H) :
    ∃ W : Nat → Nat → L2.St → Hp → Prop, (∃ m, W 0 m σ H) ∧ ∀ i m σ H, W i m σ H →
      ((IteT K a).stop i H ∧ D.nx σ H) ∨ ((IteT K a).go i H ∧ ∃ N : L2.St → Hp → Prop, (∀ σ' H', N σ' H' → ∃ m', m' < m ∧ W (i + 1) m' σ' H') ∧ ∀ x H', (IteT K a).yld i H x H' → g x σ H' fun σ2 H2 => tb { D with nx := N, ct := N, bk := D.nx } σ2 H2) := by
  refine ⟨fun i m σ H => m = xs.length - i ∧ i ≤ xs.length ∧ Inv0 i σ H, ⟨xs.length, by simp, Nat.zero_le _, hst0⟩, ?_⟩
  rintro i m σ H ⟨rfl, hin, p⟩
  have q := hsq i σ H hin p
  by_cases hlt : i < xs.length
  · refine .inr ⟨⟨xs, xs[i], q, by simp [hlt]⟩, Inv0 (i + 1), fun σ' H' p' => ⟨xs.length - (i + 1), by omega, rfl, hlt, p'⟩, fun x H' y => ?_⟩
    obtain ⟨T, z, rfl, nT, rfl, f⟩ := y
    exact hst i z σ H T (f xs q) p nT
  · have e : i = xs.length := by omega
    subst e
    exact .inl ⟨⟨xs, q, Nat.le_refl _⟩, hdd σ H p⟩
end BP
set_option Elab.async false
set_option linter.all false
set_option maxRecDepth 100000
set_option maxHeartbeats 4000000
/-! The numbers of a field as a type of their own, a field in Lean's own sense. No Python here. -/
namespace Fld
def neg (q a : Nat) : Nat := ((List.range q).find? fun b => S q a b == 0).getD 0
def okSum (q : Nat) : Bool := below q fun a => decide (S q a 0 = a) && decide (neg q a < q) && decide (S q a (neg q a) = 0) && (below (neg q a) fun b => decide (S q a b ≠ 0)) &&
  below q fun b => decide (S q a b = S q b a) && below q fun c => decide (S q (S q a b) c = S q a (S q b c))
theorem all_sum : fields.all okSum = true := by decide +kernel
structure El (q : Nat) where
  val : Nat
  lt : val < q
deriving DecidableEq
theorem El.ext {q : Nat} {a b : El q} (h : a.val = b.val) : a = b := by
  cases a
  cases b
  cases h
  rfl
class IsF (q : Nat) : Prop where
  mem : q ∈ fields
section
variable {q : Nat} (h : q ∈ fields)
include h
theorem sum1 {a : Nat} (ha : a < q) : S q a 0 = a ∧ neg q a < q ∧ S q a (neg q a) = 0 ∧ ∀ b, b < neg q a → S q a b ≠ 0 := by
  have t := of_below (List.all_eq_true.mp all_sum q h) ha
  simp only [Bool.and_eq_true, decide_eq_true_eq] at t
  exact ⟨t.1.1.1.1, t.1.1.1.2, t.1.1.2, fun b hb => of_decide_eq_true (of_below t.1.2 hb)⟩
theorem sum3 {a b c : Nat} (ha : a < q) (hb : b < q) (hc : c < q) : S q a b = S q b a ∧ S q (S q a b) c = S q a (S q b c) := by
  have t := of_below (List.all_eq_true.mp all_sum q h) ha
  simp only [Bool.and_eq_true, decide_eq_true_eq] at t
  have u := of_below t.2 hb
  simp only [Bool.and_eq_true, decide_eq_true_eq] at u
  exact ⟨u.1, of_decide_eq_true (of_below u.2 hc)⟩
end
namespace El
variable {q : Nat} [F : IsF q]
def zero : El q := ⟨0, Nat.lt_trans Nat.zero_lt_one (gt1 F.mem)⟩
def one : El q := ⟨1, gt1 F.mem⟩
def add (a b : El q) : El q := ⟨S q a.val b.val, (two F.mem a.lt b.lt).2.1⟩
def mul (a b : El q) : El q := ⟨M q a.val b.val, (two F.mem a.lt b.lt).1⟩
def opp (a : El q) : El q := ⟨neg q a.val, (sum1 F.mem a.lt).2.1⟩
def under (a : El q) : El q := if h : a.val = 0 then zero else ⟨Fld.inv q a.val, (unit F.mem a.lt h).2.2.2.2.1⟩
def nat : Nat → El q
  | 0 => zero
  | n + 1 => add (nat n) one
def npw (a : El q) : Nat → El q
  | 0 => one
  | n + 1 => mul (npw a n) a
def int : Int → El q
  | .ofNat n => nat n
  | .negSucc n => opp (nat (n + 1))
theorem add_zero (a : El q) : add a zero = a := El.ext (sum1 F.mem a.lt).1
theorem add_comm (a b : El q) : add a b = add b a := El.ext (sum3 F.mem a.lt b.lt a.lt).1
theorem add_assoc (a b c : El q) : add (add a b) c = add a (add b c) := El.ext (sum3 F.mem a.lt b.lt c.lt).2
theorem add_opp (a : El q) : add a (opp a) = zero := El.ext (sum1 F.mem a.lt).2.2.1
theorem opp_add (a : El q) : add (opp a) a = zero := by rw [add_comm, add_opp]
theorem mul_comm (a b : El q) : mul a b = mul b a := El.ext (two F.mem a.lt b.lt).2.2.1
theorem mul_one (a : El q) : mul a one = a := El.ext (Fld.one F.mem a.lt).2.2.2
theorem mul_assoc (a b c : El q) : mul (mul a b) c = mul a (mul b c) := El.ext (assoc F.mem a.lt b.lt c.lt)
theorem distrib (a b c : El q) : mul a (add b c) = add (mul a b) (mul a c) := El.ext (three F.mem b.lt c.lt a.lt).1
theorem zero_mul (a : El q) : mul zero a = zero := El.ext (Fld.one F.mem a.lt).1
theorem opp_uniq {a b : El q} (h : add a b = zero) : b = opp a := by
  have e : add (opp a) (add a b) = add (opp a) zero := by rw [h]
  rw [← add_assoc, opp_add, add_zero, add_comm, add_zero] at e
  exact e
theorem opp_zero : opp (zero : El q) = zero := (opp_uniq (add_zero zero)).symm
theorem opp_opp (a : El q) : opp (opp a) = a := (opp_uniq (opp_add a)).symm
theorem int_neg : ∀ i : Int, int (q := q) (-i) = opp (int i)
  | .ofNat 0 => opp_zero.symm
  | .ofNat (n + 1) => rfl
  | .negSucc n => (opp_opp _).symm
theorem zm (a : El q) : mul (opp one) a = opp a := by
  refine opp_uniq ?_
  have e : add a (mul (opp one) a) = mul a (add one (opp one)) := by
    rw [distrib, mul_one, mul_comm a (opp one)]
  rw [e, add_opp, mul_comm, zero_mul]
theorem opp_mul (a b : El q) : mul (opp a) b = opp (mul a b) := by
  rw [← zm a, mul_assoc, zm]
theorem mul_under {a : El q} (h : a ≠ zero) : mul a (under a) = one := by
  have h0 : a.val ≠ 0 := fun z => h (El.ext z)
  unfold under
  rw [dif_neg h0]
  exact El.ext (unit F.mem a.lt h0).2.2.2.2.2.1
instance : Lean.Grind.CommRing (El q) where
  add := add
  mul := mul
  natCast := ⟨nat⟩
  ofNat n := ⟨nat n⟩
  nsmul := ⟨fun n a => mul (nat n) a⟩
  npow := ⟨npw⟩
  neg := opp
  sub a b := add a (opp b)
  intCast := ⟨int⟩
  zsmul := ⟨fun i a => mul (int i) a⟩
  add_zero := add_zero
  add_comm := add_comm
  add_assoc := add_assoc
  mul_assoc := mul_assoc
  mul_one a := by
    show mul a (add zero one) = a
    rw [add_comm, add_zero, mul_one]
  mul_comm := mul_comm
  one_mul a := by
    show mul (add zero one) a = a
    rw [add_comm, add_zero, mul_comm, mul_one]
  left_distrib := distrib
  right_distrib a b c := by
    show mul (add a b) c = add (mul a c) (mul b c)
    rw [mul_comm, distrib, mul_comm c, mul_comm c]
  zero_mul := zero_mul
  mul_zero a := by
    show mul a zero = zero
    rw [mul_comm, zero_mul]
  pow_zero a := by
    show one = add zero one
    rw [add_comm, add_zero]
  pow_succ a n := rfl
  ofNat_succ n := by
    show add (nat n) one = add (nat n) (add zero one)
    rw [add_comm zero, add_zero]
  neg_add_cancel := opp_add
  sub_eq_add_neg a b := rfl
  neg_zsmul i a := by
    show mul (int (-i)) a = opp (mul (int i) a)
    rw [int_neg, opp_mul]
  intCast_neg := int_neg
theorem val_zero : (0 : El q).val = 0 := rfl
theorem val_one : (1 : El q).val = 1 := by
  show S q 0 1 = 1
  rw [(sum3 F.mem (Nat.lt_trans Nat.zero_lt_one (gt1 F.mem)) (gt1 F.mem) (gt1 F.mem)).1]
  exact (sum1 F.mem (gt1 F.mem)).1
theorem one_eq : (1 : El q) = one := El.ext val_one
theorem zero_eq : (0 : El q) = zero := rfl
theorem ne_zero {a : El q} : a ≠ 0 ↔ a.val ≠ 0 := ⟨fun h z => h (El.ext z), fun h z => h (by rw [z]; rfl)⟩
theorem one_ne : (0 : El q) ≠ 1 := fun z => by
  have e := congrArg El.val z
  rw [val_zero, val_one] at e
  cases e
theorem mul_inv {a : El q} (h : a ≠ 0) : a * under a = 1 := (mul_under h).trans one_eq.symm
theorem under_zero : under (0 : El q) = 0 := by
  unfold under
  rw [dif_pos val_zero]
  rfl
theorem inv_inv (a : El q) : under (under a) = a := by
  by_cases h : a = 0
  · rw [h, under_zero, under_zero]
  · have e := mul_inv h
    have h2 : under a ≠ 0 := fun z => by
      rw [z] at e
      exact one_ne (by rw [← e]; grind)
    have e2 := mul_inv h2
    have : a = a * (under a * under (under a)) := by rw [e2]; grind
    grind
def zpw (a : El q) : Int → El q
  | .ofNat n => npw a n
  | .negSucc n => under (npw a (n + 1))
theorem under_one : under (one : El q) = one := by
  have h : (1 : El q) ≠ 0 := fun z => one_ne z.symm
  have e := mul_inv h
  rw [← one_eq]
  have e2 : (1 : El q) * under 1 = under 1 := by grind
  rw [← e2, e]
theorem zpw_neg (a : El q) : ∀ i : Int, zpw a (-i) = under (zpw a i)
  | .ofNat 0 => under_one.symm
  | .ofNat (n + 1) => rfl
  | .negSucc n => (inv_inv _).symm
instance : Lean.Grind.Field (El q) where
  inv := under
  div a b := mul a (under b)
  zpow := ⟨zpw⟩
  div_eq_mul_inv a b := rfl
  zero_ne_one := one_ne
  inv_zero := under_zero
  mul_inv_cancel h := mul_inv h
  zpow_zero a := by
    show one = 1
    exact one_eq.symm
  zpow_succ a n := rfl
  zpow_neg := zpw_neg
example (a b : El q) (h : a ≠ 0) : a * (b / a) = b := by grind
end El
end Fld
set_option Elab.async false
set_option linter.all false
set_option maxRecDepth 100000
set_option maxHeartbeats 4000000
/-! Polynomials of one letter as lists of numbers, straight maps, and rows of pieces as least rows. No Python here. -/
namespace Fld
variable {q : Nat} [F : IsF q]
abbrev Po (q : Nat) := List (El q)
/-- the number of the i-th power -/
def co (f : Po q) (i : Nat) : El q := f.getD i 0
theorem co_nil (i : Nat) : co ([] : Po q) i = 0 := rfl
theorem co_zero (a : El q) (f : Po q) : co (a :: f) 0 = a := rfl
theorem co_succ (a : El q) (f : Po q) (i : Nat) : co (a :: f) (i + 1) = co f i := rfl
theorem co_out {f : Po q} {i : Nat} (h : f.length ≤ i) : co f i = 0 := by
  unfold co
  rw [List.getD_eq_getElem?_getD, List.getElem?_eq_none h]
  rfl
/-- without zeros at the end -/
def trim : Po q → Po q
  | [] => []
  | a :: f => if trim f = [] then (if a = 0 then [] else [a]) else a :: trim f
theorem co_trim : ∀ (f : Po q) (i : Nat), co (trim f) i = co f i
  | [], _ => rfl
  | a :: f, i => by
    have ih := co_trim f
    unfold trim
    by_cases h : trim f = []
    · rw [if_pos h]
      have z : ∀ j, co f j = 0 := fun j => by rw [← ih j, h]; rfl
      by_cases ha : a = 0
      · rw [if_pos ha]
        cases i with
        | zero => rw [co_zero, ha]; rfl
        | succ i => rw [co_succ, z]; rfl
      · rw [if_neg ha]
        cases i with
        | zero => rfl
        | succ i => rw [co_succ, co_succ, z]; rfl
    · rw [if_neg h]
      cases i with
      | zero => rfl
      | succ i => rw [co_succ, co_succ, ih]
theorem trim_nil_iff : ∀ f : Po q, trim f = [] ↔ ∀ i, co f i = 0
  | [] => ⟨fun _ _ => rfl, fun _ => rfl⟩
  | a :: f => by
    have ih := trim_nil_iff f
    unfold trim
    constructor
    · intro h i
      by_cases h1 : trim f = []
      · rw [if_pos h1] at h
        by_cases ha : a = 0
        · cases i with
          | zero => exact ha
          | succ i => exact ih.mp h1 i
        · rw [if_neg ha] at h
          cases h
      · rw [if_neg h1] at h
        cases h
    · intro h
      have h1 : trim f = [] := ih.mpr fun i => h (i + 1)
      rw [if_pos h1, if_pos (show a = 0 from h 0)]
/-- two lists with the same numbers are the same without zeros -/
theorem trim_ext : ∀ {f g : Po q}, (∀ i, co f i = co g i) → trim f = trim g
  | [], g, h => ((trim_nil_iff g).mpr fun i => (h i).symm).symm
  | a :: f, [], h => (trim_nil_iff (a :: f)).mpr h
  | a :: f, b :: g, h => by
    have e : a = b := h 0
    subst e
    have ih : trim f = trim g := trim_ext fun i => h (i + 1)
    unfold trim
    rw [ih]
theorem trim_trim (f : Po q) : trim (trim f) = trim f := trim_ext (co_trim f)
theorem trim_len : ∀ f : Po q, (trim f).length ≤ f.length
  | [] => Nat.le_refl _
  | a :: f => by
    have ih := trim_len f
    unfold trim
    by_cases h : trim f = []
    · rw [if_pos h]
      by_cases ha : a = 0
      · rw [if_pos ha]
        exact Nat.zero_le _
      · rw [if_neg ha]
        exact Nat.succ_le_succ (Nat.zero_le _)
    · rw [if_neg h]
      exact Nat.succ_le_succ ih
theorem trim_of_top : ∀ {f : Po q} {n : Nat}, f.length = n + 1 → co f n ≠ 0 → trim f = f
  | [], _, h, _ => by cases h
  | a :: f, 0, h, h0 => by
    have e : f = [] := List.eq_nil_of_length_eq_zero (Nat.succ.inj h)
    subst e
    unfold trim
    rw [if_pos (show trim ([] : Po q) = [] from rfl), if_neg (show ¬ a = 0 from h0)]
  | a :: f, n + 1, h, h0 => by
    have ih := trim_of_top (f := f) (n := n) (Nat.succ.inj h) h0
    unfold trim
    rw [ih]
    cases f with
    | nil => cases h
    | cons b f => rfl
theorem top_of_trim {f : Po q} (h : trim f = f) {n : Nat} (hl : f.length = n + 1) : co f n ≠ 0 := by
  intro h0
  have key : ∀ (f : Po q) (n : Nat), f.length = n + 1 → co f n = 0 → (trim f).length ≤ n := by
    intro f
    induction f with
    | nil => intro n hl; cases hl
    | cons a f ih =>
      intro n hl h0
      cases n with
      | zero =>
        have e : f = [] := List.eq_nil_of_length_eq_zero (Nat.succ.inj hl)
        subst e
        have ha : a = 0 := h0
        unfold trim
        rw [if_pos (show trim ([] : Po q) = [] from rfl), if_pos ha]
        exact Nat.le_refl _
      | succ n =>
        have l := ih n (Nat.succ.inj hl) h0
        unfold trim
        by_cases h : trim f = []
        · rw [if_pos h]
          by_cases ha : a = 0
          · rw [if_pos ha]
            exact Nat.zero_le _
          · rw [if_neg ha]
            exact Nat.succ_le_succ (Nat.zero_le _)
        · rw [if_neg h]
          exact Nat.succ_le_succ l
  have l := key f n hl h0
  rw [h, hl] at l
  omega
/-- equal, if none has a zero at the end -/
theorem canon_ext {f g : Po q} (hf : trim f = f) (hg : trim g = g) (h : ∀ i, co f i = co g i) : f = g := by
  rw [← hf, ← hg]
  exact trim_ext h

/-! ### sums, multiples -/
def pad : Po q → Po q → Po q
  | [], g => g
  | a :: f, [] => a :: f
  | a :: f, b :: g => (a + b) :: pad f g
theorem co_pad : ∀ (f g : Po q) (i : Nat), co (pad f g) i = co f i + co g i
  | [], g, i => by
    show co g i = 0 + co g i
    grind
  | a :: f, [], i => by
    show co (a :: f) i = co (a :: f) i + 0
    grind
  | a :: f, b :: g, 0 => rfl
  | a :: f, b :: g, i + 1 => co_pad f g i
def pl (f g : Po q) : Po q := trim (pad f g)
theorem co_pl (f g : Po q) (i : Nat) : co (pl f g) i = co f i + co g i := by
  unfold pl
  rw [co_trim, co_pad]
theorem pl_canon (f g : Po q) : trim (pl f g) = pl f g := trim_trim _
def sc (f : Po q) (c : El q) : Po q := trim (f.map fun x => x * c)
theorem co_map (f : Po q) (c : El q) : ∀ i, co (f.map fun x => x * c) i = co f i * c := by
  intro i
  induction f generalizing i with
  | nil =>
    show (0 : El q) = 0 * c
    grind
  | cons a f ih =>
    cases i with
    | zero => rfl
    | succ i => exact ih i
theorem co_sc (f : Po q) (c : El q) (i : Nat) : co (sc f c) i = co f i * c := by
  unfold sc
  rw [co_trim, co_map]
/-- times (e y + k) -/
def ml (g : Po q) (e k : El q) : Po q := pad (g.map fun x => x * k) (0 :: g.map fun x => x * e)
theorem co_ml_zero (g : Po q) (e k : El q) : co (ml g e k) 0 = co g 0 * k := by
  unfold ml
  rw [co_pad, co_map, co_zero]
  grind
theorem co_ml_succ (g : Po q) (e k : El q) (i : Nat) : co (ml g e k) (i + 1) = co g (i + 1) * k + co g i * e := by
  unfold ml
  rw [co_pad, co_map, co_succ, co_map]
/-- f (e y + k), by Horner -/
def sh (e k : El q) : Po q → Po q
  | [] => []
  | a :: f => pad [a] (ml (sh e k f) e k)
theorem co_one_zero (a : El q) : co [a] 0 = a := rfl
theorem co_one_succ (a : El q) (i : Nat) : co [a] (i + 1) = 0 := rfl
theorem co_sh_zero (e k a : El q) (f : Po q) : co (sh e k (a :: f)) 0 = a + co (sh e k f) 0 * k := by
  show co (pad [a] (ml (sh e k f) e k)) 0 = _
  rw [co_pad, co_ml_zero, co_one_zero]
theorem co_sh_succ (e k a : El q) (f : Po q) (i : Nat) : co (sh e k (a :: f)) (i + 1) = co (sh e k f) (i + 1) * k + co (sh e k f) i * e := by
  show co (pad [a] (ml (sh e k f) e k)) (i + 1) = _
  rw [co_pad, co_ml_succ, co_one_succ]
  grind
/-- only the numbers count -/
theorem sh_ext (e k : El q) : ∀ {f g : Po q}, (∀ i, co f i = co g i) → ∀ i, co (sh e k f) i = co (sh e k g) i := by
  have zero : ∀ f : Po q, (∀ i, co f i = 0) → ∀ i, co (sh e k f) i = 0 := by
    intro f
    induction f with
    | nil => intro _ i; rfl
    | cons a f ih =>
      intro h i
      have z := ih fun i => h (i + 1)
      cases i with
      | zero =>
        rw [co_sh_zero, z, show a = 0 from h 0]
        grind
      | succ i =>
        rw [co_sh_succ, z, z]
        grind
  intro f
  induction f with
  | nil =>
    intro g h i
    rw [zero g fun i => (h i).symm]
    rfl
  | cons a f ih =>
    intro g h i
    cases g with
    | nil =>
      rw [zero (a :: f) h]
      rfl
    | cons b g =>
      have z := ih (g := g) fun i => h (i + 1)
      have e0 : a = b := h 0
      cases i with
      | zero => rw [co_sh_zero, co_sh_zero, z, e0]
      | succ i => rw [co_sh_succ, co_sh_succ, z, z]
theorem sh_pad (e k : El q) : ∀ (f g : Po q) (i : Nat), co (sh e k (pad f g)) i = co (sh e k f) i + co (sh e k g) i
  | [], g, i => by
    show co (sh e k g) i = 0 + _
    grind
  | a :: f, [], i => by
    show co (sh e k (a :: f)) i = _ + 0
    grind
  | a :: f, b :: g, 0 => by
    show co (sh e k ((a + b) :: pad f g)) 0 = _
    rw [co_sh_zero, co_sh_zero, co_sh_zero, sh_pad e k f g]
    grind
  | a :: f, b :: g, i + 1 => by
    show co (sh e k ((a + b) :: pad f g)) (i + 1) = _
    rw [co_sh_succ, co_sh_succ, co_sh_succ, sh_pad e k f g, sh_pad e k f g]
    grind
theorem sh_map (e k c : El q) : ∀ (f : Po q) (i : Nat), co (sh e k (f.map fun x => x * c)) i = co (sh e k f) i * c
  | [], i => by
    show (0 : El q) = 0 * c
    grind
  | a :: f, 0 => by
    show co (sh e k (a * c :: f.map fun x => x * c)) 0 = _
    rw [co_sh_zero, co_sh_zero, sh_map e k c f]
    grind
  | a :: f, i + 1 => by
    show co (sh e k (a * c :: f.map fun x => x * c)) (i + 1) = _
    rw [co_sh_succ, co_sh_succ, sh_map e k c f, sh_map e k c f]
    grind
/-- one change of the letter behind another one -/
theorem sh_sh (e k e0 k0 : El q) : ∀ (f : Po q) (i : Nat), co (sh e0 k0 (sh e k f)) i = co (sh (e * e0) (e * k0 + k) f) i
  | [], _ => rfl
  | a :: f, i => by
    have ih := sh_sh e k e0 k0 f
    have one : ∀ j, co (sh e0 k0 [a]) j = co [a] j := by
      intro j
      cases j with
      | zero =>
        rw [co_sh_zero]
        show a + 0 * k0 = a
        grind
      | succ j =>
        rw [co_sh_succ]
        show (0 : El q) * k0 + 0 * e0 = 0
        grind
    have l : ∀ j, co (sh e0 k0 (sh e k (a :: f))) j = co [a] j + co (sh e0 k0 (ml (sh e k f) e k)) j := by
      intro j
      show co (sh e0 k0 (pad [a] (ml (sh e k f) e k))) j = _
      rw [sh_pad, one]
    have m : ∀ j, co (sh e0 k0 (ml (sh e k f) e k)) j = co (sh e0 k0 (sh e k f)) j * k + co (sh e0 k0 (0 :: (sh e k f).map fun x => x * e)) j := by
      intro j
      unfold ml
      rw [sh_pad, sh_map]
    rw [l, m]
    cases i with
    | zero =>
      rw [co_sh_zero, co_sh_zero, sh_map, ih]
      show a + (_ + (0 + _)) = _
      grind
    | succ i =>
      rw [co_sh_succ, co_sh_succ, sh_map, sh_map, ih, ih]
      show (0 : El q) + _ = _
      grind
/-- no number beyond -/
theorem sh_out (e k : El q) : ∀ (f : Po q) (i : Nat), f.length ≤ i → co (sh e k f) i = 0
  | [], _, _ => rfl
  | a :: f, 0, h => by cases h
  | a :: f, i + 1, h => by
    have hl : f.length ≤ i := Nat.le_of_succ_le_succ h
    rw [co_sh_succ, sh_out e k f i hl, sh_out e k f (i + 1) (Nat.le_succ_of_le hl)]
    grind
def epow (e : El q) : Nat → El q
  | 0 => 1
  | n + 1 => epow e n * e
theorem sh_top (e k : El q) : ∀ (f : Po q) (n : Nat), f.length = n + 1 → co (sh e k f) n = co f n * epow e n
  | [], _, h => by cases h
  | a :: f, 0, h => by
    have e0 : f = [] := List.eq_nil_of_length_eq_zero (Nat.succ.inj h)
    subst e0
    rw [co_sh_zero]
    show a + 0 * k = a * 1
    grind
  | a :: f, n + 1, h => by
    have hl : f.length = n + 1 := Nat.succ.inj h
    rw [co_sh_succ, sh_out e k f (n + 1) (by omega), sh_top e k f n hl, co_succ]
    show 0 * k + _ = _ * (epow e n * e)
    grind
theorem epow_ne {e : El q} (h : e ≠ 0) : ∀ n, epow e n ≠ 0
  | 0 => fun z => El.one_ne z.symm
  | n + 1 => fun z => by
    have ih := epow_ne h n
    have z' : epow e n * e = 0 := z
    grind
end Fld
set_option Elab.async false
set_option linter.all false
set_option maxRecDepth 100000
set_option maxHeartbeats 4000000
/-! Straight maps, and rows of pieces that come to least rows. No Python here. -/
namespace Fld
variable {q : Nat} [F : IsF q]
structure Mat (q : Nat) where
  a : El q
  b : El q
  c : El q
  d : El q
  e : El q
  f : El q
deriving DecidableEq
/-- m, then n -/
def thn (m n : Mat q) : Mat q :=
  ⟨n.a * m.a + n.b * m.d, n.a * m.b + n.b * m.e, n.a * m.c + n.b * m.f + n.c, n.d * m.a + n.e * m.d, n.d * m.b + n.e * m.e, n.d * m.c + n.e * m.f + n.f⟩
def same : Mat q := ⟨1, 0, 0, 0, 1, 0⟩
def turn (t : El q) : Mat q := ⟨0, 1, 0, 1, t, 0⟩
def det (m : Mat q) : El q := m.a * m.e - m.b * m.d
theorem Mat.ext' {m n : Mat q} (h1 : m.a = n.a) (h2 : m.b = n.b) (h3 : m.c = n.c) (h4 : m.d = n.d) (h5 : m.e = n.e) (h6 : m.f = n.f) : m = n := by
  cases m
  cases n
  simp only [Mat.mk.injEq]
  exact ⟨h1, h2, h3, h4, h5, h6⟩
theorem thn_assoc (l m n : Mat q) : thn (thn l m) n = thn l (thn m n) := by
  unfold thn
  refine Mat.ext' ?_ ?_ ?_ ?_ ?_ ?_ <;> simp only [] <;> grind
theorem thn_same (m : Mat q) : thn m same = m := by
  unfold thn same
  refine Mat.ext' ?_ ?_ ?_ ?_ ?_ ?_ <;> simp only [] <;> grind
theorem same_thn (m : Mat q) : thn same m = m := by
  unfold thn same
  refine Mat.ext' ?_ ?_ ?_ ?_ ?_ ?_ <;> simp only [] <;> grind
theorem det_thn (m n : Mat q) : det (thn m n) = det m * det n := by
  unfold thn det
  simp only []
  grind
theorem ne_mul {a b : El q} (h : a ≠ 0) (k : b ≠ 0) : a * b ≠ 0 := fun z => by grind
theorem det_ne {m n : Mat q} (h : det m ≠ 0) (k : det n ≠ 0) : det (thn m n) ≠ 0 := by
  rw [det_thn]
  exact ne_mul h k
theorem det_turn (t : El q) : det (turn t) ≠ 0 := by
  unfold det turn
  simp only []
  intro z
  exact El.one_ne (q := q) (by grind)
theorem det_same : det (same : Mat q) ≠ 0 := by
  unfold det same
  simp only []
  intro z
  exact El.one_ne (q := q) (by grind)
/-- d = 0, the others not -/
def Tri (m : Mat q) : Prop := m.d = 0 ∧ m.a ≠ 0 ∧ m.e ≠ 0
theorem Tri.thn {m n : Mat q} (h : Tri m) (k : Tri n) : Tri (thn m n) := by
  obtain ⟨h1, h2, h3⟩ := h
  obtain ⟨k1, k2, k3⟩ := k
  unfold Fld.thn
  refine ⟨?_, ?_, ?_⟩
  · simp only []
    grind
  · simp only []
    intro z
    exact ne_mul k2 h2 (by grind)
  · simp only []
    intro z
    exact ne_mul k3 h3 (by grind)
theorem Tri.det {m : Mat q} (h : Tri m) : det m ≠ 0 := by
  obtain ⟨h1, h2, h3⟩ := h
  unfold Fld.det
  intro z
  exact ne_mul h2 h3 (by grind)
/-- a turn, perhaps none, and a map behind it with d = 0 -/
def tm (l : Mat q) : Option (El q) × Mat q :=
  if l.d = 0 then (none, l) else (some (l.e * El.under l.d), ⟨l.b - l.a * (l.e * El.under l.d), l.a, l.c, 0, l.d, l.f⟩)
def tmap (o : Option (El q)) (b : Mat q) : Mat q := match o with
  | none => b
  | some t => thn (turn t) b
theorem tm_back (l : Mat q) : tmap (tm l).1 (tm l).2 = l := by
  unfold tm
  by_cases h : l.d = 0
  · rw [if_pos h]
    rfl
  · rw [if_neg h]
    have u := El.mul_inv h
    unfold tmap thn turn
    refine Mat.ext' ?_ ?_ ?_ ?_ ?_ ?_ <;> simp only [] <;> grind
theorem tm_tri {l : Mat q} (h : det l ≠ 0) : Tri (tm l).2 := by
  unfold tm
  by_cases h0 : l.d = 0
  · rw [if_pos h0]
    refine ⟨h0, fun z => h ?_, fun z => h ?_⟩
    · unfold det
      rw [h0, z]
      grind
    · unfold det
      rw [h0, z]
      grind
  · rw [if_neg h0]
    have u := El.mul_inv h0
    refine ⟨rfl, fun z => h ?_, h0⟩
    have z' : l.b - l.a * (l.e * El.under l.d) = 0 := z
    unfold det
    grind
theorem tm_tmap {b : Mat q} (h : Tri b) : ∀ o, tm (tmap o b) = (o, b)
  | none => by
    unfold tmap tm
    rw [if_pos h.1]
  | some t => by
    obtain ⟨h1, h2, h3⟩ := h
    have u := El.mul_inv h3
    have e : thn (turn t) b = ⟨b.b, b.a + b.b * t, b.c, b.e, b.e * t, b.f⟩ := by
      unfold thn turn
      refine Mat.ext' ?_ ?_ ?_ ?_ ?_ ?_ <;> simp only [] <;> grind
    show tm (thn (turn t) b) = _
    rw [e]
    unfold tm
    rw [if_neg h3]
    simp only [Prod.mk.injEq, Option.some.injEq]
    refine ⟨by grind, ?_⟩
    refine Mat.ext' ?_ ?_ ?_ ?_ ?_ ?_ <;> simp only [] <;> grind
theorem tmap_thn (o : Option (El q)) (b m : Mat q) : thn (tmap o b) m = tmap o (thn b m) := by
  cases o with
  | none => rfl
  | some t => exact thn_assoc _ _ _
theorem det_tmap {b : Mat q} (h : det b ≠ 0) (o : Option (El q)) : det (tmap o b) ≠ 0 := by
  cases o with
  | none => exact h
  | some t => exact det_ne (det_turn t) h

/-! ### a bend behind a map with d = 0 -/
def ahead (b : Mat q) (f : Po q) : Po q × Mat q :=
  (sc (0 :: 0 :: (trim (sh b.e b.f f)).drop 2) (El.under b.a), ⟨b.a, b.b + co (trim (sh b.e b.f f)) 1, b.c + co (trim (sh b.e b.f f)) 0, 0, b.e, b.f⟩)
theorem co_drop (f : Po q) : ∀ i, co (f.drop 2) i = co f (i + 2) := by
  intro i
  unfold co
  rw [List.getD_eq_getElem?_getD, List.getD_eq_getElem?_getD, List.getElem?_drop, Nat.add_comm]
theorem co_ahead_low (b : Mat q) (f : Po q) : co (ahead b f).1 0 = 0 ∧ co (ahead b f).1 1 = 0 := by
  unfold ahead
  rw [co_sc, co_sc]
  constructor
  · show (0 : El q) * _ = 0
    grind
  · show (0 : El q) * _ = 0
    grind
theorem co_ahead (b : Mat q) (f : Po q) (i : Nat) : co (ahead b f).1 (i + 2) = co (sh b.e b.f f) (i + 2) * El.under b.a := by
  unfold ahead
  rw [co_sc]
  show co ((trim (sh b.e b.f f)).drop 2) i * _ = _
  rw [co_drop, co_trim]
theorem ahead_snd (b : Mat q) (f : Po q) : (ahead b f).2 = ⟨b.a, b.b + co (sh b.e b.f f) 1, b.c + co (sh b.e b.f f) 0, 0, b.e, b.f⟩ := by
  unfold ahead
  rw [co_trim, co_trim]
theorem ahead_canon (b : Mat q) (f : Po q) : trim (ahead b f).1 = (ahead b f).1 := trim_trim _
theorem ahead_tri {b : Mat q} (h : Tri b) (f : Po q) : Tri (ahead b f).2 := ⟨rfl, h.2.1, h.2.2⟩
/-- what a bend is: no zero at the end, no constant, nothing linear -/
def Lo (f : Po q) : Prop := trim f = f ∧ co f 0 = 0 ∧ co f 1 = 0
def IsB (f : Po q) : Prop := Lo f ∧ f ≠ []
theorem ahead_lo (b : Mat q) (f : Po q) : Lo (ahead b f).1 := ⟨ahead_canon b f, co_ahead_low b f⟩
theorem Lo.ext {f g : Po q} (hf : Lo f) (hg : Lo g) (h : ∀ i, co f (i + 2) = co g (i + 2)) : f = g := by
  refine canon_ext hf.1 hg.1 fun i => ?_
  match i with
  | 0 => rw [hf.2.1, hg.2.1]
  | 1 => rw [hf.2.2, hg.2.2]
  | i + 2 => exact h i
theorem Lo.pl {f g : Po q} (hf : Lo f) (hg : Lo g) : Lo (pl f g) := by
  refine ⟨pl_canon f g, ?_, ?_⟩
  · rw [co_pl, hf.2.1, hg.2.1]
    grind
  · rw [co_pl, hf.2.2, hg.2.2]
    grind
theorem nil_of_co {f : Po q} (h : trim f = f) (z : ∀ i, co f i = 0) : f = [] := by
  rw [← h]
  exact (trim_nil_iff f).mpr z
theorem IsB.top {f : Po q} (h : IsB f) : ∃ n, f.length = n + 3 ∧ co f (n + 2) ≠ 0 := by
  obtain ⟨⟨h1, h2, h3⟩, h0⟩ := h
  cases e : f.length with
  | zero => exact absurd (List.eq_nil_of_length_eq_zero e) h0
  | succ n =>
    have t := top_of_trim h1 e
    match n, e, t with
    | 0, e, t => exact absurd h2 t
    | 1, e, t => exact absurd h3 t
    | n + 2, e, t => exact ⟨n, rfl, t⟩
/-- a bend stays one of the same degree -/
theorem ahead_len {b : Mat q} (h : Tri b) {f : Po q} (hf : IsB f) : (ahead b f).1.length = f.length := by
  obtain ⟨n, hl, ht⟩ := hf.top
  have top : co (sh b.e b.f f) (n + 2) ≠ 0 := by
    rw [sh_top b.e b.f f (n + 2) hl]
    exact ne_mul ht (epow_ne h.2.2 _)
  have u : El.under b.a ≠ 0 := fun z => by
    have e := El.mul_inv h.2.1
    rw [z] at e
    exact El.one_ne (by rw [← e]; grind)
  have t2 : co (ahead b f).1 (n + 2) ≠ 0 := by
    rw [co_ahead]
    exact ne_mul top u
  have out : ∀ i, n + 3 ≤ i → co (ahead b f).1 i = 0 := by
    intro i hi
    obtain ⟨j, rfl⟩ : ∃ j, i = j + 2 := ⟨i - 2, by omega⟩
    rw [co_ahead, sh_out b.e b.f f (j + 2) (by omega)]
    grind
  have len1 : n + 2 < (ahead b f).1.length := by
    refine Classical.byContradiction fun z => t2 (co_out (by omega))
  have len2 : (ahead b f).1.length ≤ n + 3 := by
    refine Classical.byContradiction fun z => ?_
    obtain ⟨m, hm⟩ : ∃ m, (ahead b f).1.length = m + 1 := ⟨(ahead b f).1.length - 1, by omega⟩
    exact top_of_trim (ahead_canon b f) hm (out m (by omega))
  omega
theorem ahead_isB {b : Mat q} (h : Tri b) {f : Po q} (hf : IsB f) : IsB (ahead b f).1 := by
  refine ⟨ahead_lo b f, fun z => ?_⟩
  have l := ahead_len h hf
  obtain ⟨n, hl, _⟩ := hf.top
  rw [z, hl] at l
  cases l
/-- one map behind another one -/
theorem ahead_thn {b0 b : Mat q} (h0 : Tri b0) (h : Tri b) (f : Po q) :
    (ahead (thn b0 b) f).1 = (ahead b0 (ahead b f).1).1 ∧ (ahead (thn b0 b) f).2 = thn (ahead b0 (ahead b f).1).2 (ahead b f).2 := by
  obtain ⟨z0, a0, e0⟩ := h0
  obtain ⟨z, a1, e1⟩ := h
  have ua := El.mul_inv a1
  have ua0 := El.mul_inv a0
  -- the change of the letter, in two steps
  have ee : (thn b0 b).e = b.e * b0.e := by
    unfold thn
    simp only []
    grind
  have ef : (thn b0 b).f = b.e * b0.f + b.f := by
    unfold thn
    simp only []
    grind
  have ea : (thn b0 b).a = b.a * b0.a := by
    unfold thn
    simp only []
    grind
  have s1 : ∀ i, co (sh (thn b0 b).e (thn b0 b).f f) i = co (sh b0.e b0.f (sh b.e b.f f)) i := by
    intro i
    rw [ee, ef, sh_sh]
  generalize hp : sh b.e b.f f = p at s1
  have m2 : ∀ i, co (ahead b f).1 (i + 2) = co p (i + 2) * El.under b.a := by
    intro i
    rw [co_ahead, hp]
  have low := co_ahead_low b f
  generalize hm : (ahead b f).1 = m at m2 low
  have parts : ∀ i, co p i = co (pad [co p 0, co p 1] (m.map fun x => x * b.a)) i := by
    intro i
    rw [co_pad, co_map]
    match i with
    | 0 =>
      show co p 0 = co p 0 + co m 0 * b.a
      rw [low.1]
      grind
    | 1 =>
      show co p 1 = co p 1 + co m 1 * b.a
      rw [low.2]
      grind
    | i + 2 =>
      show co p (i + 2) = 0 + co m (i + 2) * b.a
      rw [m2]
      grind
  have s2 : ∀ i, co (sh b0.e b0.f p) i = co (sh b0.e b0.f [co p 0, co p 1]) i + co (sh b0.e b0.f m) i * b.a := by
    intro i
    rw [sh_ext b0.e b0.f parts i, sh_pad, sh_map]
  have t0 : co (sh b0.e b0.f [co p 0, co p 1]) 0 = co p 0 + co p 1 * b0.f := by
    rw [co_sh_zero, co_sh_zero]
    show _ + (_ + 0 * _) * _ = _
    grind
  have t1 : co (sh b0.e b0.f [co p 0, co p 1]) 1 = co p 1 * b0.e := by
    rw [co_sh_succ, co_sh_zero, co_sh_succ]
    show (0 * _ + 0 * _) * _ + (_ + 0 * _) * _ = _
    grind
  have t2 : ∀ i, co (sh b0.e b0.f [co p 0, co p 1]) (i + 2) = 0 := fun i => sh_out _ _ _ _ (by simp)
  have u2 : El.under (b.a * b0.a) = El.under b.a * El.under b0.a := by
    have e := El.mul_inv (ne_mul a1 a0)
    grind
  constructor
  · refine (ahead_lo _ _).ext (ahead_lo _ _) fun i => ?_
    rw [co_ahead, co_ahead, s1, s2, t2, ea, u2]
    grind
  · rw [ahead_snd, ahead_snd, ahead_snd, s1, s1, s2, s2, t0, t1, hp]
    unfold thn
    refine Mat.ext' ?_ ?_ ?_ ?_ ?_ ?_ <;> simp only [] <;> grind
theorem ahead_pl (b : Mat q) (g h : Po q) : (ahead b (pl g h)).1 = pl (ahead b g).1 (ahead b h).1 ∧ (ahead b (pl g h)).2 = (ahead (ahead b g).2 h).2 ∧ (ahead (ahead b g).2 h).1 = (ahead b h).1 := by
  have s : ∀ i, co (sh b.e b.f (pl g h)) i = co (sh b.e b.f g) i + co (sh b.e b.f h) i := by
    intro i
    rw [← sh_pad]
    refine sh_ext _ _ (fun j => ?_) i
    rw [co_pl, co_pad]
  refine ⟨(ahead_lo _ _).ext ((ahead_lo _ _).pl (ahead_lo _ _)) fun i => ?_, ?_, ?_⟩
  · rw [co_pl, co_ahead, co_ahead, co_ahead, s]
    grind
  · rw [ahead_snd, ahead_snd, ahead_snd, s, s]
    refine Mat.ext' ?_ ?_ ?_ ?_ ?_ ?_ <;> simp only [] <;> grind
  · rw [ahead_snd]
    rfl
theorem ahead_nil {b : Mat q} (h : b.d = 0) : (ahead b []).1 = [] ∧ (ahead b []).2 = b := by
  constructor
  · refine nil_of_co (ahead_canon b _) fun i => ?_
    match i with
    | 0 => exact (co_ahead_low b _).1
    | 1 => exact (co_ahead_low b _).2
    | i + 2 =>
      rw [co_ahead]
      show (0 : El q) * _ = 0
      grind
  · rw [ahead_snd]
    show (⟨b.a, b.b + 0, b.c + 0, 0, b.e, b.f⟩ : Mat q) = b
    refine Mat.ext' ?_ ?_ ?_ ?_ ?_ ?_ <;> simp only [] <;> grind
theorem ahead_ne {b : Mat q} (h : Tri b) {f : Po q} (hf : Lo f) (z : (ahead b f).1 = []) : f = [] := by
  refine Classical.byContradiction fun n => ?_
  exact (ahead_isB h ⟨hf, n⟩).2 z

/-! ### states -/
structure Sta (q : Nat) where
  st : List (Option (El q) × Po q)
  last : Mat q
inductive Pc (q : Nat) where
  | mat (m : Mat q)
  | bd (f : Po q)
def put (s : Sta q) (f : Po q) : Sta q := match (tm s.last).1, s.st with
  | none, (t, g) :: r => if pl g (ahead (tm s.last).2 f).1 = [] then ⟨r, tmap t (ahead (tm s.last).2 f).2⟩ else ⟨(t, pl g (ahead (tm s.last).2 f).1) :: r, (ahead (tm s.last).2 f).2⟩
  | n, r => ⟨(n, (ahead (tm s.last).2 f).1) :: r, (ahead (tm s.last).2 f).2⟩
def act (s : Sta q) : Pc q → Sta q
  | .mat m => ⟨s.st, thn s.last m⟩
  | .bd f => put s f
def run (s : Sta q) (l : List (Pc q)) : Sta q := l.foldl act s
def empty : Sta q := ⟨[], same⟩
def tp : Option (El q) → List (Pc q)
  | none => []
  | some t => [.mat (turn t)]
def rowSt : List (Option (El q) × Po q) → List (Pc q)
  | [] => []
  | (t, g) :: r => rowSt r ++ tp t ++ [.bd g]
theorem rowSt_cons (t : Option (El q)) (g : Po q) (r : List (Option (El q) × Po q)) : rowSt ((t, g) :: r) = rowSt r ++ tp t ++ [.bd g] := rfl
def rowOf (s : Sta q) : List (Pc q) := rowSt s.st ++ [.mat s.last]
def Good : List (Option (El q) × Po q) → Prop
  | [] => True
  | (t, g) :: r => IsB g ∧ (r ≠ [] → t ≠ none) ∧ Good r
def Okay (s : Sta q) : Prop := Good s.st ∧ det s.last ≠ 0
def PcOk : Pc q → Prop
  | .mat m => det m ≠ 0
  | .bd f => IsB f
theorem run_app (s : Sta q) (l m : List (Pc q)) : run s (l ++ m) = run (run s l) m := List.foldl_append
theorem put_push {s : Sta q} {f : Po q} (h : (tm s.last).1 ≠ none ∨ s.st = []) : put s f = ⟨((tm s.last).1, (ahead (tm s.last).2 f).1) :: s.st, (ahead (tm s.last).2 f).2⟩ := by
  unfold put
  split
  · rename_i t g r e1 e2
    rcases h with h | h
    · exact absurd e1 h
    · rw [e2] at h
      cases h
  · rename_i e1
    rfl
theorem put_add {s : Sta q} {f : Po q} {t : Option (El q)} {g : Po q} {r : List (Option (El q) × Po q)} (h : (tm s.last).1 = none) (e : s.st = (t, g) :: r) :
    put s f = if pl g (ahead (tm s.last).2 f).1 = [] then ⟨r, tmap t (ahead (tm s.last).2 f).2⟩ else ⟨(t, pl g (ahead (tm s.last).2 f).1) :: r, (ahead (tm s.last).2 f).2⟩ := by
  unfold put
  rw [h, e]
theorem put_ok {s : Sta q} (hs : Okay s) {f : Po q} (hf : IsB f) : Okay (put s f) := by
  obtain ⟨g0, d0⟩ := hs
  have tri := tm_tri d0
  have at' := ahead_tri tri f
  have ab := ahead_isB tri hf
  by_cases h : (tm s.last).1 ≠ none ∨ s.st = []
  · rw [put_push h]
    refine ⟨⟨ab, fun n => ?_, g0⟩, at'.det⟩
    rcases h with h | h
    · exact h
    · exact absurd h n
  · have h1 : (tm s.last).1 = none := Classical.byContradiction fun z => h (.inl z)
    cases e : s.st with
    | nil => exact absurd (.inr e) h
    | cons p r =>
      obtain ⟨t, g⟩ := p
      rw [put_add h1 e]
      rw [e] at g0
      obtain ⟨b0, n0, r0⟩ := g0
      by_cases z : pl g (ahead (tm s.last).2 f).1 = []
      · rw [if_pos z]
        exact ⟨r0, det_tmap at'.det t⟩
      · rw [if_neg z]
        exact ⟨⟨⟨b0.1.pl ab.1, z⟩, n0, r0⟩, at'.det⟩
theorem act_ok {s : Sta q} (hs : Okay s) : ∀ {p : Pc q}, PcOk p → Okay (act s p)
  | .mat m, h => ⟨hs.1, det_ne hs.2 h⟩
  | .bd f, h => put_ok hs h
theorem run_ok : ∀ {l : List (Pc q)} {s : Sta q}, Okay s → (∀ p ∈ l, PcOk p) → Okay (run s l)
  | [], _, hs, _ => hs
  | p :: l, s, hs, h => run_ok (l := l) (act_ok hs (h p (List.mem_cons_self ..))) fun x hx => h x (List.mem_cons_of_mem _ hx)
/-- a map and then a bend: the bend and then the map -/
theorem put_mat {s : Sta q} (hs : Okay s) {b : Mat q} (hb : Tri b) (f : Po q) : put (act s (.mat b)) f = act (put s (ahead b f).1) (.mat (ahead b f).2) := by
  have tri := tm_tri hs.2
  have e : tm (thn s.last b) = ((tm s.last).1, thn (tm s.last).2 b) := by
    have h := tm_tmap (tri.thn hb) (tm s.last).1
    rw [← tmap_thn, tm_back] at h
    exact h
  obtain ⟨a1, a2⟩ := ahead_thn tri hb f
  show put ⟨s.st, thn s.last b⟩ f = _
  by_cases h : (tm s.last).1 ≠ none ∨ s.st = []
  · rw [put_push (s := ⟨s.st, thn s.last b⟩) (by rw [e]; exact h), put_push h]
    simp only []
    rw [e]
    simp only []
    rw [a1, a2]
    rfl
  · have h1 : (tm s.last).1 = none := Classical.byContradiction fun z => h (.inl z)
    cases es : s.st with
    | nil => exact absurd (.inr es) h
    | cons p r =>
      obtain ⟨t, g⟩ := p
      rw [put_add (s := ⟨(t, g) :: r, thn s.last b⟩) (by rw [e]; exact h1) rfl, put_add h1 es]
      simp only []
      rw [e]
      simp only []
      rw [a1, a2]
      by_cases z : pl g (ahead (tm s.last).2 (ahead b f).1).1 = []
      · rw [if_pos z, if_pos z]
        show _ = (⟨r, thn (tmap t _) _⟩ : Sta q)
        rw [tmap_thn]
      · rw [if_neg z, if_neg z]
        rfl
theorem pl_nil_left {g : Po q} (h : trim g = g) : pl [] g = g := h
theorem pl_assoc (f g h : Po q) : pl (pl f g) h = pl f (pl g h) := by
  refine canon_ext (pl_canon _ _) (pl_canon _ _) fun i => ?_
  rw [co_pl, co_pl, co_pl, co_pl]
  grind
theorem pl_nil_right {g : Po q} (h : trim g = g) : pl g [] = g := by
  refine canon_ext (pl_canon _ _) h fun i => ?_
  rw [co_pl, co_nil]
  grind
/-- two bends are their sum -/
theorem put_put {s : Sta q} (hs : Okay s) {g h : Po q} (hg : IsB g) (hh : IsB h) : put (put s g) h = if pl g h = [] then s else put s (pl g h) := by
  have tri := tm_tri hs.2
  obtain ⟨p1, p2, p3⟩ := ahead_pl (tm s.last).2 g h
  have tg := ahead_tri tri g
  have tmg : tm (ahead (tm s.last).2 g).2 = (none, (ahead (tm s.last).2 g).2) := tm_tmap tg none
  have tmt : ∀ t, tm (tmap t (ahead (tm s.last).2 g).2) = (t, (ahead (tm s.last).2 g).2) := fun t => tm_tmap tg t
  have ig := ahead_isB tri hg
  have ih := ahead_isB tri hh
  have back : pl g h = [] → (ahead (ahead (tm s.last).2 g).2 h).2 = (tm s.last).2 := fun z => by
    rw [← p2, z, (ahead_nil tri.1).2]
  have zz : pl (ahead (tm s.last).2 g).1 (ahead (tm s.last).2 h).1 = [] ↔ pl g h = [] := by
    rw [← p1]
    constructor
    · intro z
      exact ahead_ne tri (hg.1.pl hh.1) z
    · intro z
      rw [z, (ahead_nil tri.1).1]
  by_cases c : (tm s.last).1 ≠ none ∨ s.st = []
  · rw [put_push c]
    rw [put_add (t := (tm s.last).1) (g := (ahead (tm s.last).2 g).1) (r := s.st) (by rw [tmg]) rfl]
    simp only []
    rw [tmg]
    simp only []
    rw [p3]
    by_cases z : pl g h = []
    · rw [if_pos (zz.mpr z), if_pos z, back z, tm_back]
    · rw [if_neg (fun y => z (zz.mp y)), if_neg z, put_push c, p1, p2]
  · have h1 : (tm s.last).1 = none := Classical.byContradiction fun z => c (.inl z)
    cases es : s.st with
    | nil => exact absurd (.inr es) c
    | cons p r =>
      obtain ⟨t, g0⟩ := p
      have gd := hs.1
      rw [es] at gd
      obtain ⟨b0, n0, r0⟩ := gd
      have l0 : s = ⟨(t, g0) :: r, tmap none (tm s.last).2⟩ := by
        have e := tm_back s.last
        rw [h1] at e
        rw [e, ← es]
      rw [put_add h1 es]
      -- the direct way
      have direct : pl g h ≠ [] → put s (pl g h) = if pl (pl g0 (ahead (tm s.last).2 g).1) (ahead (tm s.last).2 h).1 = [] then ⟨r, tmap t (ahead (ahead (tm s.last).2 g).2 h).2⟩ else ⟨(t, pl (pl g0 (ahead (tm s.last).2 g).1) (ahead (tm s.last).2 h).1) :: r, (ahead (ahead (tm s.last).2 g).2 h).2⟩ := by
        intro _
        rw [put_add h1 es, p1, p2, pl_assoc]
      have none_way : pl g h = [] → pl (pl g0 (ahead (tm s.last).2 g).1) (ahead (tm s.last).2 h).1 = g0 := by
        intro z
        rw [pl_assoc, zz.mpr z, pl_nil_right b0.1.1]
      by_cases z1 : pl g0 (ahead (tm s.last).2 g).1 = []
      · rw [if_pos z1]
        have e2 : pl (pl g0 (ahead (tm s.last).2 g).1) (ahead (tm s.last).2 h).1 = (ahead (tm s.last).2 h).1 := by
          rw [z1]
          exact ih.1.1
        have c2 : (tm (tmap t (ahead (tm s.last).2 g).2)).1 ≠ none ∨ r = [] := by
          rw [tmt]
          by_cases hr : r = []
          · exact .inr hr
          · exact .inl (n0 hr)
        rw [put_push (s := ⟨r, tmap t (ahead (tm s.last).2 g).2⟩) c2]
        simp only []
        rw [tmt]
        simp only []
        rw [p3]
        by_cases z : pl g h = []
        · rw [if_pos z]
          have e3 := none_way z
          rw [e2] at e3
          rw [e3, back z]
          rw [l0]
          simp only [tmap]
          rw [show tm (tm s.last).2 = (none, (tm s.last).2) from tm_tmap tri none]
        · rw [if_neg z, direct z, e2, if_neg ih.2]
      · rw [if_neg z1]
        rw [put_add (s := ⟨(t, pl g0 (ahead (tm s.last).2 g).1) :: r, (ahead (tm s.last).2 g).2⟩) (by rw [tmg]) rfl]
        simp only []
        rw [tmg]
        simp only []
        rw [p3]
        by_cases z : pl g h = []
        · rw [if_pos z, none_way z, if_neg b0.2, back z]
          exact l0.symm
        · rw [if_neg z, direct z]
theorem run_tp (s : Sta q) (t : Option (El q)) (m : Mat q) : act (run s (tp t)) (.mat m) = act s (.mat (tmap t m)) := by
  cases t with
  | none => rfl
  | some t =>
    show (⟨s.st, thn (thn s.last (turn t)) m⟩ : Sta q) = ⟨s.st, thn s.last (thn (turn t) m)⟩
    rw [thn_assoc]
theorem rowSt_ok : ∀ {r : List (Option (El q) × Po q)}, Good r → ∀ p ∈ rowSt r, PcOk p
  | [], _, p, hp => by cases hp
  | (t, g) :: r, ⟨h1, h2, h3⟩, p, hp => by
    rcases List.mem_append.mp hp with hp | hp
    · rcases List.mem_append.mp hp with hp | hp
      · exact rowSt_ok h3 p hp
      · cases t with
        | none => cases hp
        | some t =>
          rw [List.mem_singleton.mp hp]
          exact det_turn t
    · rw [List.mem_singleton.mp hp]
      exact h1
theorem tp_ok (t : Option (El q)) : ∀ p ∈ tp t, PcOk p := by
  intro p hp
  cases t with
  | none => cases hp
  | some t =>
    rw [List.mem_singleton.mp hp]
    exact det_turn t
/-- THE LEAST ROW DOES THE SAME: behind any state -/
theorem run_act {s t : Sta q} (hs : Okay s) (ht : Okay t) : ∀ {p : Pc q}, PcOk p → run s (rowOf (act t p)) = act (run s (rowOf t)) p
  | .mat m, _ => by
    unfold rowOf
    rw [run_app, run_app]
    show (⟨(run s (rowSt t.st)).st, thn (run s (rowSt t.st)).last (thn t.last m)⟩ : Sta q) = ⟨(run s (rowSt t.st)).st, thn (thn (run s (rowSt t.st)).last t.last) m⟩
    rw [thn_assoc]
  | .bd f, hf => by
    have tri := tm_tri ht.2
    have r1 : run s (rowOf t) = act (run s (rowSt t.st)) (.mat t.last) := by
      unfold rowOf
      rw [run_app]
      rfl
    -- what is left to do behind the bends of t
    have key : ∀ u : Sta q, Okay u → act (act u (.mat t.last)) (.bd f) = act (act (run u (tp (tm t.last).1)) (.bd (ahead (tm t.last).2 f).1)) (.mat (ahead (tm t.last).2 f).2) := by
      intro u hu
      have e : act u (.mat t.last) = act (run u (tp (tm t.last).1)) (.mat (tm t.last).2) := by
        rw [run_tp, tm_back]
      rw [e]
      exact put_mat (run_ok hu (tp_ok _)) tri f
    have okR : Okay (run s (rowSt t.st)) := run_ok hs (rowSt_ok ht.1)
    rw [r1, key _ okR]
    show run s (rowOf (put t f)) = _
    by_cases c : (tm t.last).1 ≠ none ∨ t.st = []
    · rw [put_push c]
      unfold rowOf
      rw [rowSt_cons]
      rw [run_app, run_app, run_app]
      rfl
    · have h1 : (tm t.last).1 = none := Classical.byContradiction fun z => c (.inl z)
      cases es : t.st with
      | nil => exact absurd (.inr es) c
      | cons p r =>
        obtain ⟨t0, g0⟩ := p
        rw [put_add h1 es, h1]
        have gd := ht.1
        rw [es] at gd
        obtain ⟨b0, n0, r0⟩ := gd
        have okr : Okay (run s (rowSt r)) := run_ok hs (rowSt_ok r0)
        have ok2 : Okay (run (run s (rowSt r)) (tp t0)) := run_ok okr (tp_ok _)
        have e1 : run s (rowSt ((t0, g0) :: r)) = act (run (run s (rowSt r)) (tp t0)) (.bd g0) := by
          rw [rowSt_cons]
          rw [run_app, run_app]
          rfl
        have e2 : act (run (run s (rowSt ((t0, g0) :: r))) (tp none)) (.bd (ahead (tm t.last).2 f).1) = put (put (run (run s (rowSt r)) (tp t0)) g0) (ahead (tm t.last).2 f).1 := by
          rw [e1]
          rfl
        rw [e2, put_put ok2 b0 (ahead_isB tri hf)]
        by_cases z : pl g0 (ahead (tm t.last).2 f).1 = []
        · rw [if_pos z, if_pos z, run_tp]
          unfold rowOf
          rw [run_app]
          rfl
        · rw [if_neg z, if_neg z]
          unfold rowOf
          rw [rowSt_cons]
          rw [run_app, run_app, run_app]
          rfl
theorem run_empty {s : Sta q} : run s (rowOf empty) = s := by
  show (⟨s.st, thn s.last same⟩ : Sta q) = s
  rw [thn_same]
theorem empty_ok : Okay (empty : Sta q) := ⟨trivial, det_same⟩
/-- a row, and the row of its step -/
theorem run_run {s : Sta q} (hs : Okay s) {l : List (Pc q)} (hl : ∀ p ∈ l, PcOk p) : run s (rowOf (run empty l)) = run s l := by
  have gen : ∀ (l : List (Pc q)) (t : Sta q), Okay t → (∀ p ∈ l, PcOk p) → run s (rowOf (run t l)) = run (run s (rowOf t)) l := by
    intro l
    induction l with
    | nil => intro t _ _; rfl
    | cons p l ih =>
      intro t ht hl
      show run s (rowOf (run (act t p) l)) = run (act (run s (rowOf t)) p) l
      rw [ih _ (act_ok ht (hl p (List.mem_cons_self ..))) fun x hx => hl x (List.mem_cons_of_mem _ hx), run_act hs ht (hl p (List.mem_cons_self ..))]
  rw [gen l empty empty_ok hl, run_empty]
end Fld
set_option Elab.async false
set_option linter.all false
set_option maxRecDepth 100000
set_option maxHeartbeats 4000000
/-! Data over the layer: lists of numbers, lists of such lists, written tables, the deck of a law's draws. -/
namespace BP
open PySem PySem.Spec PyProof.Rows L2

/-! ### numbers as values -/
abbrev iv (ns : List Nat) : List V := ns.map fun n => V.int (n : Nat)
abbrev dat (ns : List Int) : PyData := .list (ns.map PyData.int)
abbrev datN (ns : List Nat) : PyData := .list (ns.map fun n => PyData.int (n : Nat))
abbrev datR (rows : List (List Nat)) : PyData := .list (rows.map datN)
theorem dpAll_ints {K : PySem.W.Frag} {H : Hp} : ∀ ns : List Int, DpAll K H (ns.map V.int) (ns.map PyData.int)
  | [] => .nil
  | n :: r => .cons (.int n) (dpAll_ints r)
theorem dpAll_nats {K : PySem.W.Frag} {H : Hp} : ∀ ns : List Nat, DpAll K H (iv ns) (ns.map fun n => PyData.int (n : Nat))
  | [] => .nil
  | n :: r => .cons (.int (n : Nat)) (dpAll_nats r)
theorem dp_ints {K : PySem.W.Frag} {H : Hp} {a : Addr} {ns : List Int} (h : SqL K H a (ns.map V.int)) : Dp K H (.ref a) (dat ns) := .lst h (dpAll_ints ns)
theorem dp_nats {K : PySem.W.Frag} {H : Hp} {a : Addr} {ns : List Nat} (h : SqL K H a (iv ns)) : Dp K H (.ref a) (datN ns) := .lst h (dpAll_nats ns)
theorem canLay_ints : ∀ ns : List Int, PyData.canLayAll0 (ns.map PyData.int) = true
  | [] => by simp [PyData.canLayAll0]
  | n :: r => by simp [PyData.canLayAll0, PyData.canLay0, canLay_ints r]
theorem depth_ints : ∀ ns : List Int, PyData.depthAll (ns.map PyData.int) = 0
  | [] => by simp [PyData.depthAll]
  | n :: r => by simp [PyData.depthAll, PyData.depth, depth_ints r]
theorem shaped_ints (ns : List Int) : SeqAt.shaped (dat ns) = true := by
  unfold SeqAt.shaped dat
  simp [PyData.canLay0, canLay_ints, PyData.depth, depth_ints]
theorem shaped_nats (ns : List Nat) : SeqAt.shaped (datN ns) = true := by
  have e : datN ns = dat (ns.map fun (n : Nat) => (n : Int)) := by
    unfold datN dat
    rw [List.map_map]
    rfl
  rw [e]
  exact shaped_ints _
theorem eqv_nil (ns : List Int) : PyData.eqv (dat ns) (dat []) = ns.isEmpty := by
  cases ns with
  | nil => simp [PyData.eqv, PyData.eqvAll]
  | cons n r => simp [PyData.eqv, PyData.eqvAll]
theorem eqvAll_refl : ∀ ns : List Nat, PyData.eqvAll (ns.map fun n => PyData.int (n : Nat)) (ns.map fun n => PyData.int (n : Nat)) = true
  | [] => by simp [PyData.eqvAll]
  | n :: r => by simp [PyData.eqvAll, PyData.eqv, eqvAll_refl r]
theorem eqv_refl_nats (ns : List Nat) : PyData.eqv (datN ns) (datN ns) = true := by
  unfold datN
  simp [PyData.eqv, eqvAll_refl]

/-! ### heaps -/
theorem same_new {H : Hp} {p : Addr} {o : HO} (h : H p = none) : Same H (upd H p o) := fun b x e => by
  rw [upd_ne (ne_of_none e h)]
  exact e
/-- all stands as it stood, but what is at d and at c -/
def But (d c : Addr) (H H' : Hp) : Prop := ∀ b x, b ≠ d → b ≠ c → H b = some x → H' b = some x
theorem But.of {d c : Addr} {H H' : Hp} (h : Same H H') : But d c H H' := fun b x _ _ e => h b x e
theorem But.refl {d c : Addr} {H : Hp} : But d c H H := fun b x _ _ e => e
theorem But.trans {d c : Addr} {H H' H'' : Hp} (h : But d c H H') (k : But d c H' H'') : But d c H H'' := fun b x n m e => k b x n m (h b x n m e)

/-- at D a list of lists of numbers, none of them at c -/
def Rows (c : Addr) (H : Hp) (D : Addr) (rows : List (List Nat)) : Prop :=
  ∃ ps : List Addr, D ≠ c ∧ (∀ p ∈ ps, p ≠ c) ∧ H D = some (.lst (ps.map V.ref)) ∧ ps.length = rows.length ∧ ∀ (i : Nat) (p : Addr) (r : List Nat), ps[i]? = some p → rows[i]? = some r → H p = some (.lst (iv r))
theorem Rows.same {c : Addr} {H H' : Hp} {D : Addr} {rows : List (List Nat)} (h : Rows c H D rows) (s : Same H H') : Rows c H' D rows := by
  obtain ⟨ps, n1, n2, h1, h2, h3⟩ := h
  exact ⟨ps, n1, n2, s _ _ h1, h2, fun i p r a b => s _ _ (h3 i p r a b)⟩
theorem dpAll_rows {K : PySem.W.Frag} {H : Hp} : ∀ (ps : List Addr) (rows : List (List Nat)), ps.length = rows.length → (∀ (i : Nat) (p : Addr) (r : List Nat), ps[i]? = some p → rows[i]? = some r → H p = some (.lst (iv r))) → DpAll K H (ps.map V.ref) (rows.map datN)
  | [], [], _, _ => .nil
  | p :: ps, r :: rows, hl, h => by
    refine .cons (dp_nats (.inl (.inl (h 0 p r rfl rfl)))) (dpAll_rows ps rows (by simpa using hl) fun i p' r' a b => ?_)
    exact h (i + 1) p' r' (by simpa using a) (by simpa using b)
  | [], _ :: _, hl, _ => by simp at hl
  | _ :: _, [], hl, _ => by simp at hl
theorem Rows.dp {K : PySem.W.Frag} {c : Addr} {H : Hp} {D : Addr} {rows : List (List Nat)} (h : Rows c H D rows) : Dp K H (.ref D) (datR rows) := by
  obtain ⟨ps, _, _, h1, h2, h3⟩ := h
  exact .lst (.inl (.inl h1)) (dpAll_rows ps rows h2 h3)
/-- one row is read -/
theorem Rows.row {c : Addr} {H : Hp} {D : Addr} {rows : List (List Nat)} (h : Rows c H D rows) {i : Nat} {r : List Nat} (e : rows[i]? = some r) : ∃ (ps : List Addr) (p : Addr), H D = some (.lst (ps.map V.ref)) ∧ (ps.map V.ref)[i]? = some (.ref p) ∧ H p = some (.lst (iv r)) := by
  obtain ⟨ps, _, _, h1, h2, h3⟩ := h
  have hi : i < ps.length := by
    rw [h2]
    exact (List.getElem?_eq_some_iff.mp e).1
  refine ⟨ps, ps[i], h1, ?_, h3 i _ r (List.getElem?_eq_getElem hi) e⟩
  rw [List.getElem?_map, List.getElem?_eq_getElem hi]
  rfl
/-- the table of f over the numbers below q -/
def tab (f : Nat → Nat → Nat) (q : Nat) : List (List Nat) := (List.range q).map fun a => (List.range q).map (f a)
theorem tab_row {f : Nat → Nat → Nat} {q a : Nat} (h : a < q) : (tab f q)[a]? = some ((List.range q).map (f a)) := by
  unfold tab
  rw [List.getElem?_map, List.getElem?_range h]
  rfl
theorem iv_at {f : Nat → Nat} {q b : Nat} (h : b < q) : (iv ((List.range q).map f))[b]? = some (.int (f b : Nat)) := by
  unfold iv
  rw [List.getElem?_map, List.getElem?_map, List.getElem?_range h]
  rfl

/-! ### written tables -/
def intOf : Value → Option Int
  | .int i _ => some i
  | _ => none
def rowIs (K : PySem.W.Frag) (v : Value) (r : List Nat) : Bool := match v with
  | .ref p => (match K.lookup p with
    | some ⟨.type "tuple", none, .seq its _, _⟩ => decide (its.size ≤ sizeLine) && decide (its.toList.map intOf = r.map fun (n : Nat) => some ((n : Nat) : Int))
    | _ => false)
  | _ => false
def tabIs (K : PySem.W.Frag) (d : Addr) (f : Nat → Nat → Nat → Nat) : Bool := match K.lookup d with
  | some ⟨.type "dict", none, .dict es _, sl⟩ => decide (sl.size = 0) && keysI es.toList && Fld.fields.all fun q => (match findBy Value.isInt es (q : Nat) with
    | some (.ref p) => (match K.lookup p with
      | some ⟨.type "tuple", none, .seq its _, _⟩ => decide (its.size = q) && Fld.below q fun a => rowIs K (its.toList.getD a .none) ((List.range q).map (f q a))
      | _ => false)
    | _ => false)
  | _ => false
theorem vals_of_ints : ∀ {us : List Value} {r : List Nat}, us.map intOf = r.map (fun (n : Nat) => some ((n : Nat) : Int)) → Vals (iv r) us
  | [], [], _ => .nil
  | u :: us, n :: r, h => by
    injection h with h1 h2
    refine .cons ?_ (vals_of_ints h2)
    cases u with
    | int i t => exact ⟨t, by rw [Option.some.inj h1]⟩
    | _ => cases h1
  | [], _ :: _, h => nomatch h
  | _ :: _, [], h => nomatch h
theorem row_is {K : PySem.W.Frag} {v : Value} {r : List Nat} (h : rowIs K v r = true) : ∃ p, v = .ref p ∧ (∀ H, SqT K H p (iv r)) ∧ ∃ o, K.lookup p = some o ∧ o.cls = .type "tuple" ∧ o.dict = none := by
  unfold rowIs at h
  split at h
  · rename_i p
    split at h
    · rename_i its n sl e
      rw [Bool.and_eq_true, decide_eq_true_eq, decide_eq_true_eq] at h
      exact ⟨p, rfl, fun H => .inr ⟨_, its, n, e, rfl, rfl, h.1, vals_of_ints h.2⟩, _, e, rfl, rfl⟩
    · cases h
  · cases h
/-- the table's entry at q: a tuple of the rows -/
def TabAt (K : PySem.W.Frag) (d : Addr) (f : Nat → Nat → Nat → Nat) (q : Nat) : Prop :=
  ∃ p vs, KDI K d (q : Nat) (.ref p) ∧ (∀ H, SqT K H p vs) ∧ ∀ a, a < q → ∃ r, vs[a]? = some (.ref r) ∧ (∀ H, SqT K H r (iv ((List.range q).map (f q a)))) ∧ ∃ o, K.lookup r = some o ∧ o.cls = .type "tuple" ∧ o.dict = none
theorem refs_of {K : PySem.W.Frag} {g : Nat → List Nat} : ∀ (us : List Value) , (∀ a, a < us.length → rowIs K (us.getD a .none) (g a) = true) → ∃ vs, Vals vs us ∧ ∀ a, a < us.length → ∃ r, vs[a]? = some (.ref r) ∧ (∀ H, SqT K H r (iv (g a))) ∧ ∃ o, K.lookup r = some o ∧ o.cls = .type "tuple" ∧ o.dict = none
  | us, h => by
    induction us generalizing g with
    | nil => exact ⟨[], .nil, fun a ha => absurd ha (Nat.not_lt_zero _)⟩
    | cons u us ih =>
      obtain ⟨p, e, hp, ho⟩ := row_is (h 0 (Nat.succ_pos _))
      have e' : u = .ref p := e
      subst e'
      obtain ⟨vs, hv, hr⟩ := ih (g := fun a => g (a + 1)) fun a ha => h (a + 1) (Nat.succ_lt_succ ha)
      refine ⟨V.ref p :: vs, .cons rfl hv, fun a ha => ?_⟩
      cases a with
      | zero => exact ⟨p, rfl, hp, ho⟩
      | succ a => exact hr a (Nat.lt_of_succ_lt_succ ha)
theorem tab_at {K : PySem.W.Frag} {d : Addr} {f : Nat → Nat → Nat → Nat} (h : tabIs K d f = true) {q : Nat} (hq : q ∈ Fld.fields) : TabAt K d f q := by
  unfold tabIs at h
  split at h
  · rename_i es n sl0 e
    rw [Bool.and_eq_true, Bool.and_eq_true, decide_eq_true_eq] at h
    have z : sl0 = #[] := Array.eq_empty_of_size_eq_zero h.1.1
    subst z
    have t := List.all_eq_true.mp h.2 q hq
    split at t
    · rename_i p ep
      split at t
      · rename_i its m sl e2
        rw [Bool.and_eq_true, decide_eq_true_eq] at t
        have hl : its.toList.length = q := by
          rw [Array.length_toList]
          exact t.1
        obtain ⟨vs, hv, hr⟩ := refs_of (K := K) (g := fun a => (List.range q).map (f q a)) its.toList fun a ha => by
          rw [hl] at ha
          exact Fld.of_below t.2 ha
        have sz : its.size ≤ sizeLine := by
          rw [t.1]
          exact Nat.le_trans (Fld.le16 hq) (by decide)
        refine ⟨p, vs, ⟨es, n, _, e, h.1.2, ep, rfl⟩, fun H => .inr ⟨_, its, m, e2, rfl, rfl, sz, hv⟩, fun a ha => hr a ?_⟩
        rw [hl]
        exact ha
      · cases t
    · cases t
  · cases h

/-! ### the deck -/
abbrev kC : Key := Sum.inr "cells"
abbrev kM : Key := Sum.inr "mixed"
abbrev kD : Key := Sum.inr "draws"
theorem st1 : ¬ Str.ofString "cells" = Str.ofString "mixed" := by decide +kernel
theorem st2 : ¬ Str.ofString "cells" = Str.ofString "draws" := by decide +kernel
theorem st3 : ¬ Str.ofString "mixed" = Str.ofString "draws" := by decide +kernel
theorem ne1 : ¬ kC = kM := by decide +kernel
theorem ne2 : ¬ kC = kD := by decide +kernel
theorem ne3 : ¬ kM = kD := by decide +kernel
abbrev deckD (c : Addr) (m n : Int) : List (Key × V) := [(kC, .ref c), (kM, .int m), (kD, .int n)]
theorem deck_C {c : Addr} {m n : Int} : valV (deckD c m n) kC = some (.ref c) := valV_pos rfl
theorem deck_M {c : Addr} {m n : Int} : valV (deckD c m n) kM = some (.int m) := by
  rw [valV_neg ne1]
  exact valV_pos rfl
theorem deck_D {c : Addr} {m n : Int} : valV (deckD c m n) kD = some (.int n) := by
  rw [valV_neg ne2, valV_neg ne3]
  exact valV_pos rfl
theorem deck_put {c : Addr} {m n k : Int} : putK (deckD c m n) kD (.int k) = deckD c m k := by
  unfold putK
  rw [if_pos (by simp)]
  simp [deckD, st2, st3]
theorem deck_merge {c : Addr} {m n : Int} : mergeK [] (deckD c m n) = deckD c m n := by
  have a1 : putK ([] : List (Key × V)) kC (.ref c) = [(kC, .ref c)] := by
    unfold putK
    rw [if_neg (by simp)]
    rfl
  have a2 : putK [(kC, V.ref c)] kM (.int m) = [(kC, .ref c), (kM, .int m)] := by
    unfold putK
    rw [if_neg (by simp [st1])]
    rfl
  have a3 : putK [(kC, V.ref c), (kM, .int m)] kD (.int n) = deckD c m n := by
    unfold putK
    rw [if_neg (by simp [st2, st3])]
    rfl
  show putK (putK (putK [] kC (.ref c)) kM (.int m)) kD (.int n) = _
  rw [a1, a2, a3]
/-- at d the dict of a deck, at c its list of cells -/
def Deck (H : Hp) (d c : Addr) : Prop :=
  ∃ (cells : List Int) (m n : Int), H d = some (.dK (deckD c m n)) ∧ H c = some (.lst (cells.map V.int)) ∧ cells.length ≤ 63 ∧ 0 ≤ m ∧ m < 2147483647
theorem Deck.same {H H' : Hp} {d c : Addr} (h : Deck H d c) (s : Same H H') : Deck H' d c := by
  obtain ⟨cells, m, n, h1, h2, h3⟩ := h
  exact ⟨cells, m, n, s _ _ h1, s _ _ h2, h3⟩
theorem Deck.lst {H : Hp} {d c p : Addr} {xs : List V} (h : Deck H d c) (e : H p = some (.lst xs)) (n : p ≠ c) : p ≠ d := by
  obtain ⟨cells, m, k, h1, _⟩ := h
  exact ne_of e h1 (fun z => by cases z)
theorem Rows.but {H H' : Hp} {d c D : Addr} {rows : List (List Nat)} (h : Rows c H D rows) (k : Deck H d c) (b : But d c H H') : Rows c H' D rows := by
  obtain ⟨ps, n1, n2, h1, h2, h3⟩ := h
  refine ⟨ps, n1, n2, b _ _ (k.lst h1 n1) n1 h1, h2, fun i p r hp hr => ?_⟩
  have np := n2 p (List.mem_of_getElem? hp)
  have e := h3 i p r hp hr
  exact b _ _ (k.lst e np) np e
/-- a new thing is neither -/
theorem Deck.new {H : Hp} {d c p : Addr} (h : Deck H d c) (e : H p = none) : p ≠ d ∧ p ≠ c := by
  obtain ⟨cells, m, k, h1, h2, _⟩ := h
  refine ⟨fun z => ?_, fun z => ?_⟩
  · rw [z, h1] at e
    cases e
  · rw [z, h2] at e
    cases e
end BP
set_option Elab.async false
set_option linter.all false
set_option maxRecDepth 100000
set_option maxHeartbeats 4000000
/-! Numbers of a field and lists of them as the layer's values; what loops make of lists, by their numbers. -/
namespace Fld
variable {q : Nat} [F : IsF q]
theorem co_set (l : Po q) (k : Nat) (x : El q) (h : k < l.length) (j : Nat) : co (l.set k x) j = if j = k then x else co l j := by
  unfold co
  rw [List.getD_eq_getElem?_getD, List.getD_eq_getElem?_getD]
  by_cases e : j = k
  · subst e
    rw [if_pos rfl, List.getElem?_set_self h]
    rfl
  · rw [if_neg e, List.getElem?_set_ne (fun z => e z.symm)]
theorem co_get {l : Po q} {k : Nat} {x : El q} (h : l[k]? = some x) : co l k = x := by
  unfold co
  rw [List.getD_eq_getElem?_getD, h]
  rfl
theorem get_co {l : Po q} {k : Nat} (h : k < l.length) : l[k]? = some (co l k) := by
  unfold co
  rw [List.getD_eq_getElem?_getD, List.getElem?_eq_getElem h]
  rfl
theorem co_take (l : Po q) (n j : Nat) : co (l.take n) j = if j < n then co l j else 0 := by
  unfold co
  rw [List.getD_eq_getElem?_getD, List.getD_eq_getElem?_getD, List.getElem?_take]
  by_cases h : j < n
  · rw [if_pos h, if_pos h]
  · rw [if_neg h, if_neg h]
    rfl
theorem trim_step {l : Po q} {n : Nat} (h : co l n = 0) : trim (l.take (n + 1)) = trim (l.take n) := by
  refine trim_ext fun j => ?_
  rw [co_take, co_take]
  by_cases h1 : j < n
  · rw [if_pos h1, if_pos (by omega)]
  · rw [if_neg h1]
    by_cases h2 : j = n
    · subst h2
      rw [if_pos (by omega), h]
    · rw [if_neg (by omega)]
theorem trim_stop {l : Po q} {n : Nat} (hn : n < l.length) (h : co l n ≠ 0) : trim (l.take (n + 1)) = l.take (n + 1) := by
  refine trim_of_top (n := n) ?_ ?_
  · rw [List.length_take]
    omega
  · rw [co_take, if_pos (by omega)]
    exact h
/-- f times g, number by number: the first i of f -/
def cvs (f g : Po q) : Nat → Nat → El q
  | 0, _ => 0
  | i + 1, n => cvs f g i n + if i ≤ n then co f i * co g (n - i) else 0
theorem cvs_two (f : Po q) (k e : El q) : ∀ m n, cvs f [k, e] m n = (if n < m then co f n * k else 0) + (if 1 ≤ n ∧ n - 1 < m then co f (n - 1) * e else 0)
  | 0, n => by
    rw [if_neg (by omega), if_neg (by omega)]
    show (0 : El q) = 0 + 0
    grind
  | m + 1, n => by
    show cvs f [k, e] m n + (if m ≤ n then co f m * co [k, e] (n - m) else 0) = _
    rw [cvs_two f k e m n]
    by_cases h1 : n < m
    · rw [if_pos h1, if_pos (show n < m + 1 by omega), if_neg (show ¬ m ≤ n by omega)]
      by_cases h2 : 1 ≤ n
      · rw [if_pos ⟨h2, by omega⟩, if_pos ⟨h2, by omega⟩]
        grind
      · rw [if_neg (by omega), if_neg (by omega)]
        grind
    · by_cases h2 : n = m
      · subst h2
        rw [if_neg h1, if_pos (show n < n + 1 by omega), if_pos (Nat.le_refl _), Nat.sub_self]
        show 0 + _ + co f n * k = _
        by_cases h3 : 1 ≤ n
        · rw [if_pos ⟨h3, by omega⟩, if_pos ⟨h3, by omega⟩]
          grind
        · rw [if_neg (by omega), if_neg (by omega)]
          grind
      · by_cases h3 : n = m + 1
        · subst h3
          rw [if_neg h1, if_neg (by omega), if_pos (by omega), if_neg (by omega), if_pos ⟨by omega, by omega⟩]
          have e1 : m + 1 - m = 1 := by omega
          have e2 : m + 1 - 1 = m := by omega
          rw [e1, e2]
          show (0 : El q) + 0 + co f m * e = 0 + co f m * e
          grind
        · rw [if_neg h1, if_neg (by omega), if_pos (by omega), if_neg (by omega), if_neg (by omega)]
          obtain ⟨j, hj⟩ : ∃ j, n - m = j + 2 := ⟨n - m - 2, by omega⟩
          rw [hj]
          show (0 : El q) + 0 + co f m * 0 = 0 + 0
          grind
theorem cvs_ml (f : Po q) (k e : El q) (n : Nat) : cvs f [k, e] f.length n = co (ml f e k) n := by
  rw [cvs_two]
  cases n with
  | zero =>
    rw [co_ml_zero, if_neg (show ¬ (1 ≤ 0 ∧ 0 - 1 < f.length) by omega)]
    by_cases h : 0 < f.length
    · rw [if_pos h]
      grind
    · rw [if_neg h, co_out (by omega)]
      grind
  | succ n =>
    rw [co_ml_succ]
    have e1 : n + 1 - 1 = n := by omega
    rw [e1]
    by_cases h : n + 1 < f.length
    · rw [if_pos h, if_pos ⟨by omega, by omega⟩]
    · rw [if_neg h, co_out (f := f) (i := n + 1) (by omega)]
      by_cases h2 : n < f.length
      · rw [if_pos ⟨by omega, h2⟩]
        grind
      · rw [if_neg (by omega), co_out (by omega)]
        grind
/-- the value at y -/
def ev (y : El q) : Po q → El q
  | [] => 0
  | a :: f => ev y f * y + a
theorem sh_step (e k x : El q) (f : Po q) {t : Po q} (h : ∀ n, co t n = cvs (trim (sh e k f)) [k, e] (trim (sh e k f)).length n) : pl t (trim [x]) = trim (sh e k (x :: f)) := by
  refine canon_ext (pl_canon _ _) (trim_trim _) fun n => ?_
  rw [co_pl, h, co_trim, co_trim, cvs_ml]
  have ex : ∀ j, co (ml (trim (sh e k f)) e k) j = co (ml (sh e k f) e k) j := by
    intro j
    cases j with
    | zero => rw [co_ml_zero, co_ml_zero, co_trim]
    | succ j => rw [co_ml_succ, co_ml_succ, co_trim, co_trim]
  rw [ex]
  show _ = co (pad [x] (ml (sh e k f) e k)) n
  rw [co_pad]
  grind
end Fld
namespace BP
open PySem PySem.Spec PyProof.Rows L2 Fld
section
variable {q : Nat} [F : IsF q]
abbrev vn (x : El q) : V := .int (x.val : Nat)
abbrev vns (l : Po q) : List V := l.map vn
theorem vns_get {l : Po q} {k : Nat} (h : k < l.length) : (vns l)[k]? = some (vn (co l k)) := by
  unfold vns
  rw [List.getElem?_map, get_co h]
  rfl
theorem of_vns {l : Po q} {k : Nat} {x : V} (h : (vns l)[k]? = some x) : k < l.length ∧ x = vn (co l k) := by
  have hk : k < l.length := by
    have := (List.getElem?_eq_some_iff.mp h).1
    rw [List.length_map] at this
    exact this
  rw [vns_get hk] at h
  exact ⟨hk, (Option.some.inj h).symm⟩
theorem vns_set (l : Po q) (k : Nat) (x : El q) : (vns l).set k (vn x) = vns (l.set k x) := by
  unfold vns
  rw [List.map_set]
theorem cut_take (xs : List V) (n : Nat) : cutV xs none (some (n : Int)) = xs.take n := by
  unfold cutV
  rw [HT.sIx_none, HT.sIx_nat]
  rw [List.drop_zero, Nat.sub_zero]
  by_cases h : n ≤ xs.length
  · rw [Nat.min_eq_left h]
  · rw [Nat.min_eq_right (by omega), List.take_length, List.take_of_length_le (by omega)]
theorem ixN_nat {n k : Nat} (h : k < n) : ixN n (k : Int) = some k := by
  unfold ixN
  rw [if_pos (by omega), if_pos (by omega)]
  simp
end
theorem Same.tupS {K : PySem.W.Frag} {H H' : Hp} {a : Addr} {xs : List V} (s : Same H H') (h : SqT K H a xs) : SqT K H' a xs := by
  rcases h with h | h
  · rcases h with h | ⟨o, h⟩
    · exact .inl (.inl (s _ _ h))
    · exact .inl (.inr ⟨o, s _ _ h⟩)
  · exact .inr h
end BP
set_option Elab.async false
set_option linter.all false
set_option maxRecDepth 100000
set_option maxHeartbeats 4000000
namespace K13
open PySem PySem.Spec PyProof.Rows L2 BP
def topS (i : Nat) : Stmt := PySem.Challenge.pw_bentplane_k32_whole_places_and_steps_cou.main.body.getD i (.Pass ⟨0, 0, 0, 0⟩)
abbrev sIsInteger : Stmt := topS 3
abbrev nIsInteger : List Str := ["thing"]
abbrev pIsInteger : List Str := ["thing"]
theorem scIsInteger : FnScope nIsInteger pIsInteger (defScope sIsInteger) := ⟨rfl, rfl, rfl, by decide +kernel, rfl, by decide +kernel, by decide +kernel⟩
abbrev sIsNumber : Stmt := topS 4
abbrev nIsNumber : List Str := ["q", "thing"]
abbrev pIsNumber : List Str := ["q", "thing"]
theorem scIsNumber : FnScope nIsNumber pIsNumber (defScope sIsNumber) := ⟨rfl, rfl, rfl, by decide +kernel, rfl, by decide +kernel, by decide +kernel⟩
abbrev sMinus : Stmt := topS 5
abbrev nMinus : List Str := ["q", "a", "b"]
abbrev pMinus : List Str := ["q", "a", "b"]
theorem scMinus : FnScope nMinus pMinus (defScope sMinus) := ⟨rfl, rfl, rfl, by decide +kernel, rfl, by decide +kernel, by decide +kernel⟩
abbrev sTimes : Stmt := topS 6
abbrev nTimes : List Str := ["q", "a", "b"]
abbrev pTimes : List Str := ["q", "a", "b"]
theorem scTimes : FnScope nTimes pTimes (defScope sTimes) := ⟨rfl, rfl, rfl, by decide +kernel, rfl, by decide +kernel, by decide +kernel⟩
abbrev sOpposite : Stmt := topS 7
abbrev nOpposite : List Str := ["q", "a"]
abbrev pOpposite : List Str := ["q", "a"]
theorem scOpposite : FnScope nOpposite pOpposite (defScope sOpposite) := ⟨rfl, rfl, rfl, by decide +kernel, rfl, by decide +kernel, by decide +kernel⟩
abbrev sInverse : Stmt := topS 8
abbrev nInverse : List Str := ["q", "a"]
abbrev pInverse : List Str := ["q", "a"]
theorem scInverse : FnScope nInverse pInverse (defScope sInverse) := ⟨rfl, rfl, rfl, by decide +kernel, rfl, by decide +kernel, by decide +kernel⟩
abbrev sAreNumbers : Stmt := topS 10
abbrev nAreNumbers : List Str := ["q", "thing", "part"]
abbrev pAreNumbers : List Str := ["q", "thing"]
theorem scAreNumbers : FnScope nAreNumbers pAreNumbers (defScope sAreNumbers) := ⟨rfl, rfl, rfl, by decide +kernel, rfl, by decide +kernel, by decide +kernel⟩
abbrev sIsOneLetter : Stmt := topS 11
abbrev nIsOneLetter : List Str := ["q", "thing"]
abbrev pIsOneLetter : List Str := ["q", "thing"]
theorem scIsOneLetter : FnScope nIsOneLetter pIsOneLetter (defScope sIsOneLetter) := ⟨rfl, rfl, rfl, by decide +kernel, rfl, by decide +kernel, by decide +kernel⟩
abbrev sTurnBy : Stmt := topS 14
abbrev nTurnBy : List Str := ["number"]
abbrev pTurnBy : List Str := ["number"]
theorem scTurnBy : FnScope nTurnBy pTurnBy (defScope sTurnBy) := ⟨rfl, rfl, rfl, by decide +kernel, rfl, by decide +kernel, by decide +kernel⟩
abbrev sStraightDeterminant : Stmt := topS 15
abbrev nStraightDeterminant : List Str := ["q", "numbers", "a", "b", "_", "d", "e"]
abbrev pStraightDeterminant : List Str := ["q", "numbers"]
theorem scStraightDeterminant : FnScope nStraightDeterminant pStraightDeterminant (defScope sStraightDeterminant) := ⟨rfl, rfl, rfl, by decide +kernel, rfl, by decide +kernel, by decide +kernel⟩
abbrev sTurnAndMap : Stmt := topS 19
abbrev nTurnAndMap : List Str := ["q", "straight", "a", "b", "c", "d", "e", "f", "number"]
abbrev pTurnAndMap : List Str := ["q", "straight"]
theorem scTurnAndMap : FnScope nTurnAndMap pTurnAndMap (defScope sTurnAndMap) := ⟨rfl, rfl, rfl, by decide +kernel, rfl, by decide +kernel, by decide +kernel⟩
abbrev sStraightStep : Stmt := topS 20
abbrev nStraightStep : List Str := ["straight"]
abbrev pStraightStep : List Str := ["straight"]
theorem scStraightStep : FnScope nStraightStep pStraightStep (defScope sStraightStep) := ⟨rfl, rfl, rfl, by decide +kernel, rfl, by decide +kernel, by decide +kernel⟩
abbrev sIsStraight : Stmt := topS 26
abbrev nIsStraight : List Str := ["q", "thing"]
abbrev pIsStraight : List Str := ["q", "thing"]
theorem scIsStraight : FnScope nIsStraight pIsStraight (defScope sIsStraight) := ⟨rfl, rfl, rfl, by decide +kernel, rfl, by decide +kernel, by decide +kernel⟩
abbrev sIsBend : Stmt := topS 27
abbrev nIsBend : List Str := ["q", "thing"]
abbrev pIsBend : List Str := ["q", "thing"]
theorem scIsBend : FnScope nIsBend pIsBend (defScope sIsBend) := ⟨rfl, rfl, rfl, by decide +kernel, rfl, by decide +kernel, by decide +kernel⟩
abbrev sIsStep : Stmt := topS 29
abbrev nIsStep : List Str := ["q", "thing", "start", "bends", "turns", "last", "bend"]
abbrev pIsStep : List Str := ["q", "thing"]
theorem scIsStep : FnScope nIsStep pIsStep (defScope sIsStep) := ⟨rfl, rfl, rfl, by decide +kernel, rfl, by decide +kernel, by decide +kernel⟩
abbrev sLookAtSteps : Stmt := topS 30
abbrev nLookAtSteps : List Str := ["q", "things", "thing"]
abbrev pLookAtSteps : List Str := ["q", "things"]
theorem scLookAtSteps : FnScope nLookAtSteps pLookAtSteps (defScope sLookAtSteps) := ⟨rfl, rfl, rfl, by decide +kernel, rfl, by decide +kernel, by decide +kernel⟩
abbrev sNothing : Stmt := topS 31
abbrev nNothing : List Str := []
abbrev pNothing : List Str := []
theorem scNothing : FnScope nNothing pNothing (defScope sNothing) := ⟨rfl, rfl, rfl, by decide +kernel, rfl, by decide +kernel, by decide +kernel⟩
abbrev sBendDegrees : Stmt := topS 32
abbrev nBendDegrees : List Str := ["step", "bend"]
abbrev pBendDegrees : List Str := ["step"]
theorem scBendDegrees : FnScope nBendDegrees pBendDegrees (defScope sBendDegrees) := ⟨rfl, rfl, rfl, by decide +kernel, rfl, by decide +kernel, by decide +kernel⟩
abbrev sDegreesOf : Stmt := topS 33
abbrev nDegreesOf : List Str := ["q", "step"]
abbrev pDegreesOf : List Str := ["q", "step"]
theorem scDegreesOf : FnScope nDegreesOf pDegreesOf (defScope sDegreesOf) := ⟨rfl, rfl, rfl, by decide +kernel, rfl, by decide +kernel, by decide +kernel⟩
abbrev sManyStraight : Stmt := topS 35
abbrev nManyStraight : List Str := ["q"]
abbrev pManyStraight : List Str := ["q"]
theorem scManyStraight : FnScope nManyStraight pManyStraight (defScope sManyStraight) := ⟨rfl, rfl, rfl, by decide +kernel, rfl, by decide +kernel, by decide +kernel⟩
abbrev sManyBends : Stmt := topS 36
abbrev nManyBends : List Str := ["q", "degree", "found", "_"]
abbrev pManyBends : List Str := ["q", "degree"]
theorem scManyBends : FnScope nManyBends pManyBends (defScope sManyBends) := ⟨rfl, rfl, rfl, by decide +kernel, rfl, by decide +kernel, by decide +kernel⟩
abbrev sManySteps : Stmt := topS 37
abbrev nManySteps : List Str := ["q", "degrees", "found", "at", "degree"]
abbrev pManySteps : List Str := ["q", "degrees"]
theorem scManySteps : FnScope nManySteps pManySteps (defScope sManySteps) := ⟨rfl, rfl, rfl, by decide +kernel, rfl, by decide +kernel, by decide +kernel⟩
abbrev sStepNumber : Stmt := topS 38
abbrev nStepNumber : List Str := ["q", "step", "start", "bends", "turns", "last", "found", "bend", "turn"]
abbrev pStepNumber : List Str := ["q", "step"]
theorem scStepNumber : FnScope nStepNumber pStepNumber (defScope sStepNumber) := ⟨rfl, rfl, rfl, by decide +kernel, rfl, by decide +kernel, by decide +kernel⟩
abbrev sBendNumber : Stmt := topS 39
abbrev nBendNumber : List Str := ["q", "bend", "found", "number"]
abbrev pBendNumber : List Str := ["q", "bend"]
theorem scBendNumber : FnScope nBendNumber pBendNumber (defScope sBendNumber) := ⟨rfl, rfl, rfl, by decide +kernel, rfl, by decide +kernel, by decide +kernel⟩
abbrev sStraightNumber : Stmt := topS 40
abbrev nStraightNumber : List Str := ["q", "straight", "a", "b", "c", "d", "e", "f", "found"]
abbrev pStraightNumber : List Str := ["q", "straight"]
theorem scStraightNumber : FnScope nStraightNumber pStraightNumber (defScope sStraightNumber) := ⟨rfl, rfl, rfl, by decide +kernel, rfl, by decide +kernel, by decide +kernel⟩
abbrev sSecondNumber : Stmt := topS 41
abbrev nSecondNumber : List Str := ["q", "a", "b", "d", "e", "barred"]
abbrev pSecondNumber : List Str := ["q", "a", "b", "d", "e"]
theorem scSecondNumber : FnScope nSecondNumber pSecondNumber (defScope sSecondNumber) := ⟨rfl, rfl, rfl, by decide +kernel, rfl, by decide +kernel, by decide +kernel⟩
abbrev sBarredNumber : Stmt := topS 42
abbrev nBarredNumber : List Str := ["q", "a", "b", "d"]
abbrev pBarredNumber : List Str := ["q", "a", "b", "d"]
theorem scBarredNumber : FnScope nBarredNumber pBarredNumber (defScope sBarredNumber) := ⟨rfl, rfl, rfl, by decide +kernel, rfl, by decide +kernel, by decide +kernel⟩
abbrev sStepAt : Stmt := topS 43
abbrev nStepAt : List Str := ["q", "degrees", "number", "left", "at", "last", "turns", "_", "turn", "bends", "degree"]
abbrev pStepAt : List Str := ["q", "degrees", "number"]
theorem scStepAt : FnScope nStepAt pStepAt (defScope sStepAt) := ⟨rfl, rfl, rfl, by decide +kernel, rfl, by decide +kernel, by decide +kernel⟩
abbrev sBendAt : Stmt := topS 44
abbrev nBendAt : List Str := ["q", "degree", "number", "left", "highest", "numbers", "_", "lower"]
abbrev pBendAt : List Str := ["q", "degree", "number"]
theorem scBendAt : FnScope nBendAt pBendAt (defScope sBendAt) := ⟨rfl, rfl, rfl, by decide +kernel, rfl, by decide +kernel, by decide +kernel⟩
abbrev sStraightAt : Stmt := topS 45
abbrev nStraightAt : List Str := ["q", "number", "left", "f", "second", "c", "a", "b", "d", "e"]
abbrev pStraightAt : List Str := ["q", "number"]
theorem scStraightAt : FnScope nStraightAt pStraightAt (defScope sStraightAt) := ⟨rfl, rfl, rfl, by decide +kernel, rfl, by decide +kernel, by decide +kernel⟩
abbrev sSecondAt : Stmt := topS 46
abbrev nSecondAt : List Str := ["q", "a", "b", "number", "d", "e"]
abbrev pSecondAt : List Str := ["q", "a", "b", "number"]
theorem scSecondAt : FnScope nSecondAt pSecondAt (defScope sSecondAt) := ⟨rfl, rfl, rfl, by decide +kernel, rfl, by decide +kernel, by decide +kernel⟩
abbrev sIsPlace : Stmt := topS 51
abbrev nIsPlace : List Str := ["q", "thing", "sort", "start", "bends", "turns", "bend"]
abbrev pIsPlace : List Str := ["q", "thing"]
theorem scIsPlace : FnScope nIsPlace pIsPlace (defScope sIsPlace) := ⟨rfl, rfl, rfl, by decide +kernel, rfl, by decide +kernel, by decide +kernel⟩
abbrev sLookAtPlaces : Stmt := topS 52
abbrev nLookAtPlaces : List Str := ["q", "things", "thing"]
abbrev pLookAtPlaces : List Str := ["q", "things"]
theorem scLookAtPlaces : FnScope nLookAtPlaces pLookAtPlaces (defScope sLookAtPlaces) := ⟨rfl, rfl, rfl, by decide +kernel, rfl, by decide +kernel, by decide +kernel⟩
abbrev sPlaceStep : Stmt := topS 53
abbrev nPlaceStep : List Str := ["place", "sort", "start", "bends", "turns"]
abbrev pPlaceStep : List Str := ["place"]
theorem scPlaceStep : FnScope nPlaceStep pPlaceStep (defScope sPlaceStep) := ⟨rfl, rfl, rfl, by decide +kernel, rfl, by decide +kernel, by decide +kernel⟩
abbrev sStepOfPlace : Stmt := topS 54
abbrev nStepOfPlace : List Str := ["q", "place"]
abbrev pStepOfPlace : List Str := ["q", "place"]
theorem scStepOfPlace : FnScope nStepOfPlace pStepOfPlace (defScope sStepOfPlace) := ⟨rfl, rfl, rfl, by decide +kernel, rfl, by decide +kernel, by decide +kernel⟩
abbrev sPlaceByStep : Stmt := topS 55
abbrev nPlaceByStep : List Str := ["q", "step", "sort", "start", "bends", "turns", "last", "number", "_"]
abbrev pPlaceByStep : List Str := ["q", "step", "sort"]
theorem scPlaceByStep : FnScope nPlaceByStep pPlaceByStep (defScope sPlaceByStep) := ⟨rfl, rfl, rfl, by decide +kernel, rfl, by decide +kernel, by decide +kernel⟩
abbrev sPlaceOf : Stmt := topS 56
abbrev nPlaceOf : List Str := ["q", "step", "sort"]
abbrev pPlaceOf : List Str := ["q", "step", "sort"]
theorem scPlaceOf : FnScope nPlaceOf pPlaceOf (defScope sPlaceOf) := ⟨rfl, rfl, rfl, by decide +kernel, rfl, by decide +kernel, by decide +kernel⟩
abbrev sPlaceAhead : Stmt := topS 57
abbrev nPlaceAhead : List Str := ["place", "sort", "start", "bends", "turns"]
abbrev pPlaceAhead : List Str := ["place"]
theorem scPlaceAhead : FnScope nPlaceAhead pPlaceAhead (defScope sPlaceAhead) := ⟨rfl, rfl, rfl, by decide +kernel, rfl, by decide +kernel, by decide +kernel⟩
abbrev sAhead : Stmt := topS 58
abbrev nAhead : List Str := ["q", "place"]
abbrev pAhead : List Str := ["q", "place"]
theorem scAhead : FnScope nAhead pAhead (defScope sAhead) := ⟨rfl, rfl, rfl, by decide +kernel, rfl, by decide +kernel, by decide +kernel⟩
abbrev sPlaceDepth : Stmt := topS 59
abbrev nPlaceDepth : List Str := ["place", "sort", "_", "bends"]
abbrev pPlaceDepth : List Str := ["place"]
theorem scPlaceDepth : FnScope nPlaceDepth pPlaceDepth (defScope sPlaceDepth) := ⟨rfl, rfl, rfl, by decide +kernel, rfl, by decide +kernel, by decide +kernel⟩
abbrev sDepth : Stmt := topS 60
abbrev nDepth : List Str := ["q", "place"]
abbrev pDepth : List Str := ["q", "place"]
theorem scDepth : FnScope nDepth pDepth (defScope sDepth) := ⟨rfl, rfl, rfl, by decide +kernel, rfl, by decide +kernel, by decide +kernel⟩
abbrev sManyBehind : Stmt := topS 61
abbrev nManyBehind : List Str := ["q", "place", "degree", "found", "_"]
abbrev pManyBehind : List Str := ["q", "place", "degree"]
theorem scManyBehind : FnScope nManyBehind pManyBehind (defScope sManyBehind) := ⟨rfl, rfl, rfl, by decide +kernel, rfl, by decide +kernel, by decide +kernel⟩
abbrev sLDeck : Stmt := topS 63
abbrev nLDeck : List Str := ["_law_script", "_law_mixed", "_law_cell"]
abbrev pLDeck : List Str := ["_law_script"]
theorem scLDeck : FnScope nLDeck pLDeck (defScope sLDeck) := ⟨rfl, rfl, rfl, by decide +kernel, rfl, by decide +kernel, by decide +kernel⟩
abbrev sLDraw : Stmt := topS 64
abbrev nLDraw : List Str := ["_law_deck_here", "_law_many", "_law_number", "_law_cell"]
abbrev pLDraw : List Str := ["_law_deck_here", "_law_many"]
theorem scLDraw : FnScope nLDraw pLDraw (defScope sLDraw) := ⟨rfl, rfl, rfl, by decide +kernel, rfl, by decide +kernel, by decide +kernel⟩
abbrev sLPick : Stmt := topS 65
abbrev nLPick : List Str := ["_law_deck_here", "_law_some"]
abbrev pLPick : List Str := ["_law_deck_here", "_law_some"]
theorem scLPick : FnScope nLPick pLPick (defScope sLPick) := ⟨rfl, rfl, rfl, by decide +kernel, rfl, by decide +kernel, by decide +kernel⟩
abbrev sLDepth : Stmt := topS 66
abbrev nLDepth : List Str := ["_law_place"]
abbrev pLDepth : List Str := ["_law_place"]
theorem scLDepth : FnScope nLDepth pLDepth (defScope sLDepth) := ⟨rfl, rfl, rfl, by decide +kernel, rfl, by decide +kernel, by decide +kernel⟩
abbrev sLAhead : Stmt := topS 67
abbrev nLAhead : List Str := ["_law_place", "_law_sort", "_law_start", "_law_bends", "_law_turns"]
abbrev pLAhead : List Str := ["_law_place"]
theorem scLAhead : FnScope nLAhead pLAhead (defScope sLAhead) := ⟨rfl, rfl, rfl, by decide +kernel, rfl, by decide +kernel, by decide +kernel⟩
abbrev sLChain : Stmt := topS 68
abbrev nLChain : List Str := ["_law_place", "_law_found", "_law_level"]
abbrev pLChain : List Str := ["_law_place"]
theorem scLChain : FnScope nLChain pLChain (defScope sLChain) := ⟨rfl, rfl, rfl, by decide +kernel, rfl, by decide +kernel, by decide +kernel⟩
abbrev sLSomeField : Stmt := topS 69
abbrev nLSomeField : List Str := ["_law_deck_here"]
abbrev pLSomeField : List Str := ["_law_deck_here"]
theorem scLSomeField : FnScope nLSomeField pLSomeField (defScope sLSomeField) := ⟨rfl, rfl, rfl, by decide +kernel, rfl, by decide +kernel, by decide +kernel⟩
abbrev sLGreat : Stmt := topS 70
abbrev nLGreat : List Str := ["_law_deck_here", "_law_many", "_law_number", "_law_turn"]
abbrev pLGreat : List Str := ["_law_deck_here", "_law_many"]
theorem scLGreat : FnScope nLGreat pLGreat (defScope sLGreat) := ⟨rfl, rfl, rfl, by decide +kernel, rfl, by decide +kernel, by decide +kernel⟩
abbrev sLEdge : Stmt := topS 71
abbrev nLEdge : List Str := ["_law_deck_here", "_law_many", "_law_way"]
abbrev pLEdge : List Str := ["_law_deck_here", "_law_many"]
theorem scLEdge : FnScope nLEdge pLEdge (defScope sLEdge) := ⟨rfl, rfl, rfl, by decide +kernel, rfl, by decide +kernel, by decide +kernel⟩
abbrev sLPower : Stmt := topS 72
abbrev nLPower : List Str := ["_law_number", "_law_exponent", "_law_found", "_law_turn"]
abbrev pLPower : List Str := ["_law_number", "_law_exponent"]
theorem scLPower : FnScope nLPower pLPower (defScope sLPower) := ⟨rfl, rfl, rfl, by decide +kernel, rfl, by decide +kernel, by decide +kernel⟩
abbrev sLManyPlaces : Stmt := topS 73
abbrev nLManyPlaces : List Str := ["_law_q", "_law_degrees", "_law_found", "_law_degree"]
abbrev pLManyPlaces : List Str := ["_law_q", "_law_degrees"]
theorem scLManyPlaces : FnScope nLManyPlaces pLManyPlaces (defScope sLManyPlaces) := ⟨rfl, rfl, rfl, by decide +kernel, rfl, by decide +kernel, by decide +kernel⟩
abbrev sLRank : Stmt := topS 74
abbrev nLRank : List Str := ["_law_q", "_law_place", "_law_sort", "_law_start", "_law_bends", "_law_turns", "_law_rank_here", "_law_bend", "_law_number", "_law_turn"]
abbrev pLRank : List Str := ["_law_q", "_law_place"]
theorem scLRank : FnScope nLRank pLRank (defScope sLRank) := ⟨rfl, rfl, rfl, by decide +kernel, rfl, by decide +kernel, by decide +kernel⟩
abbrev sLInBlock : Stmt := topS 75
abbrev nLInBlock : List Str := ["_law_q", "_law_degrees", "_law_at", "_law_part", "_law_straights", "_law_step", "_law_place", "_law_told", "_law_same"]
abbrev pLInBlock : List Str := ["_law_q", "_law_degrees", "_law_at", "_law_part", "_law_straights"]
theorem scLInBlock : FnScope nLInBlock pLInBlock (defScope sLInBlock) := ⟨rfl, rfl, rfl, by decide +kernel, rfl, by decide +kernel, by decide +kernel⟩
abbrev sLAlongChain : Stmt := topS 76
abbrev nLAlongChain : List Str := ["_law_deck_here", "_law_q", "_law_place", "_law_found", "_law_chain_here", "_law_near", "_law_far", "_law_degree", "_law_less"]
abbrev pLAlongChain : List Str := ["_law_deck_here", "_law_q", "_law_place"]
theorem scLAlongChain : FnScope nLAlongChain pLAlongChain (defScope sLAlongChain) := ⟨rfl, rfl, rfl, by decide +kernel, rfl, by decide +kernel, by decide +kernel⟩
abbrev sLaw : Stmt := topS 77
abbrev nLaw : List Str := ["_law_script", "_law_deck_here", "_law_q", "_law_many", "_law_degrees", "_law_straights", "_law_places", "_law_at", "_law_part", "_law_place", "_law_turn"]
abbrev pLaw : List Str := ["_law_script"]
theorem scLaw : FnScope nLaw pLaw (defScope sLaw) := ⟨rfl, rfl, rfl, by decide +kernel, rfl, by decide +kernel, by decide +kernel⟩
/-! names of defs that this text has not, for promises that name them -/
abbrev pPlus : List Str := ["q", "a", "b"]
abbrev pTrimmed : List Str := ["numbers"]
abbrev pSummed : List Str := ["q", "a", "b", "c", "d"]
end K13
set_option Elab.async false
set_option linter.all false
set_option maxRecDepth 100000
set_option maxHeartbeats 4000000
set_option pp.maxSteps 400
namespace BP
open PySem PySem.Spec PyProof.Rows L2 Fld
/-- a def that may be called by its name -/
structure Can (P : Program) (w : World) (K : PySem.W.Frag) (mg : Str → Option Value) (base : Heap) (x : Str) (k : Nat) (ps : List Str) (sp : Sp) (f : Addr) (fd : FuncData) : Prop where
  ok : FnOk P w K mg base CX0 k f fd ps sp
  g : mg x = some (.ref f)
  kp : PySem.W.keepIn K (.ref f) = true
  b : Binds K fd ps []
/-- a promise that asks what is never so: for a call that is never reached -/
theorem never {P : Program} {w : World} {K : PySem.W.Frag} {mg : Str → Option Value} {base : Heap} {k : Nat} {f : Addr} {fd : FuncData} {ps : List Str} : FnOk P w K mg base CX0 k f fd ps (fun _ _ _ _ => False) :=
  ⟨fun _ _ _ _ h => h.elim, fun _ _ _ _ _ _ _ _ _ _ _ _ _ h => h.elim⟩
/-! ### promises over numbers of a field -/
def spE2 (g : ∀ {q : Nat} [IsF q], El q → El q → El q) : Sp := fun vs H Q _ => ∃ (q : Nat) (_ : IsF q) (a b : El q), vs = [.int q, vn a, vn b] ∧ Q (vn (g a b)) H
def spE1 (g : ∀ {q : Nat} [IsF q], El q → El q) : Sp := fun vs H Q _ => ∃ (q : Nat) (_ : IsF q) (a : El q), vs = [.int q, vn a] ∧ Q (vn (g a)) H
def spInvE : Sp := fun vs H Q _ => ∃ (q : Nat) (_ : IsF q) (a : El q), a ≠ 0 ∧ vs = [.int q, vn a] ∧ Q (vn (El.under a)) H
theorem under_val {q : Nat} [F : IsF q] {a : El q} (h : a ≠ 0) : (El.under a).val = Fld.inv q a.val := by
  unfold El.under
  rw [dif_neg (El.ne_zero.mp h)]
/-- a list of numbers, without zeros at the end, as a new tuple -/
def spTrim (K : PySem.W.Frag) : Sp := fun vs H Q _ => ∃ (q : Nat) (_ : IsF q) (a : Addr) (l : Po q), vs = [.ref a] ∧ SqL K H a (vns l) ∧ l.length ≤ 200 ∧ ∀ (p : Addr) (H' : Hp), Same H H' → H p = none → H' p = some (.tup (vns (trim l))) → Q (.ref p) H'
/-- two polynomials and a third one from them, a new tuple -/
def spPl (K : PySem.W.Frag) : Sp := fun vs H Q _ => ∃ (q : Nat) (_ : IsF q) (a b : Addr) (f g : Po q), vs = [.int q, .ref a, .ref b] ∧ SqT K H a (vns f) ∧ SqT K H b (vns g) ∧ f.length ≤ 100 ∧ g.length ≤ 100 ∧
  ∀ (p : Addr) (H' : Hp), Same H H' → H p = none → H' p = some (.tup (vns (pl f g))) → Q (.ref p) H'
def spTm (K : PySem.W.Frag) : Sp := fun vs H Q _ => ∃ (q : Nat) (_ : IsF q) (a b : Addr) (f g : Po q), vs = [.int q, .ref a, .ref b] ∧ SqT K H a (vns f) ∧ SqT K H b (vns g) ∧ f.length ≤ 100 ∧ g.length ≤ 100 ∧
  ∀ (t : Po q) (p : Addr) (H' : Hp), trim t = t → t.length ≤ f.length + g.length → (∀ n, co t n = cvs f g f.length n) → Same H H' → H p = none → H' p = some (.tup (vns t)) → Q (.ref p) H'
def spSc (K : PySem.W.Frag) : Sp := fun vs H Q _ => ∃ (q : Nat) (_ : IsF q) (a : Addr) (f : Po q) (c : El q), vs = [.int q, .ref a, vn c] ∧ SqT K H a (vns f) ∧ f.length ≤ 100 ∧
  ∀ (p : Addr) (H' : Hp), Same H H' → H p = none → H' p = some (.tup (vns (sc f c))) → Q (.ref p) H'
def spEv (K : PySem.W.Frag) : Sp := fun vs H Q _ => ∃ (q : Nat) (_ : IsF q) (a : Addr) (f : Po q) (y : El q), vs = [.int q, .ref a, vn y] ∧ SqT K H a (vns f) ∧ ∀ H', Same H H' → Q (vn (ev y f)) H'
def spSh (K : PySem.W.Frag) : Sp := fun vs H Q _ => ∃ (q : Nat) (_ : IsF q) (a b : Addr) (f : Po q) (k e : El q), vs = [.int q, .ref a, .ref b] ∧ SqT K H a (vns f) ∧ SqT K H b (vns [k, e]) ∧ f.length ≤ 20 ∧
  ∀ (p : Addr) (H' : Hp), Same H H' → H p = none → H' p = some (.tup (vns (trim (sh e k f)))) → Q (.ref p) H'
end BP
theorem BP.none_of {H H' : L2.Hp} {p : PySem.Addr} (s : L2.Same H H') (h : H' p = none) : H p = none := by
  cases e : H p with
  | none => rfl
  | some o =>
    rw [s _ _ e] at h
    cases h
namespace K13
open PySem PySem.Spec PyProof.Rows L2 BP Fld
section
variable {P : Program} {w : World} {K : PySem.W.Frag} {mg : Str → Option Value} {base : Heap}
theorem ok_times {f d : Addr} {fd : FuncData} {k : Nat} (F : Fun K "times" "times" sTimes f fd) (g : mg "PRODUCTS" = some (.ref d)) (T : tabIs K d Fld.M = true) : FnOk P w K mg base CX0 (k + 1) f fd pTimes (spE2 (fun a b => a * b)) := by
  refine F.ok scTimes (fun vs H Q E h => ?_) (fun cdv A outer s H vs Q E hr h => ?_)
  · obtain ⟨q, _, a, b, rfl, _⟩ := h
    rfl
  · obtain ⟨q, FF, a, b, rfl, want⟩ := h
    refine ⟨_, (pss_one (ps_ret (pe_ix ix_tup (pe_ix ix_tup (pe_ix ix_kint (pe_glob (v := .ref d) rfl g rfl) (pv 0) (fun _ _ => rfl)) (pv 1) (fun _ _ => rfl)) (pv 2) (fun _ _ => rfl)))), ?_⟩
    obtain ⟨p, vs, h1, h2, h3⟩ := tab_at T FF.mem
    obtain ⟨r, e, h4, _⟩ := h3 a.val a.lt
    exact ⟨.int q, rfl, d, q, .ref p, rfl, rfl, h1, vn a, rfl, p, vs, (a.val : Nat), .ref r, rfl, rfl, h2 _, atI_nat e, vn b, rfl, r, _, (b.val : Nat), _, rfl, rfl, h4 _, atI_nat (iv_at b.lt), want⟩
theorem ok_opposite {f d : Addr} {fd : FuncData} {k : Nat} (F : Fun K "opposite" "opposite" sOpposite f fd) (g : mg "SUMS" = some (.ref d)) (T : tabIs K d Fld.S = true) : FnOk P w K mg base CX0 (k + 1) f fd pOpposite (spE1 (fun a => -a)) := by
  refine F.ok scOpposite (fun vs H Q E h => ?_) (fun cdv A outer s H vs Q E hr h => ?_)
  · obtain ⟨q, _, a, rfl, _⟩ := h
    rfl
  · obtain ⟨q, FF, a, rfl, want⟩ := h
    refine ⟨_, (pss_one (ps_ret (pe_bm PySem.F.plainAttrs_tuple PySem.F.slot_tuple_index PySem.F.type_tuple_index mt_tupIx (pe_ix ix_tup (pe_ix ix_kint (pe_glob (v := .ref d) rfl g rfl) (pv 0) (fun _ _ => rfl)) (pv 1) (fun _ _ => rfl)) (pa_cons pe_int pa_nil)))), ?_⟩
    obtain ⟨p, vs, h1, h2, h3⟩ := tab_at T FF.mem
    obtain ⟨r, e, h4, o, ho⟩ := h3 a.val a.lt
    obtain ⟨_, u1, u2, u3⟩ := sum1 FF.mem a.lt
    have ew : iv ((List.range q).map (S q a.val)) = (((List.range q).map (S q a.val)).map fun n => ((n : Nat) : Int)).map V.int := by
      rw [List.map_map]
      rfl
    refine ⟨.int q, rfl, d, q, .ref p, rfl, rfl, h1, vn a, rfl, p, vs, (a.val : Nat), .ref r, rfl, rfl, h2 _, atI_nat e, .inr (.inl ⟨rfl, o, ho⟩), ?_⟩
    refine ⟨r, ((List.range q).map (S q a.val)).map fun n => ((n : Nat) : Int), 0, neg q a.val, rfl, rfl, ?_, ?_, fun m hm hx => ?_, want⟩
    · rw [← ew]
      exact h4 _
    · rw [List.getElem?_map, List.getElem?_map, List.getElem?_range u1]
      show some ((S q a.val (neg q a.val) : Nat) : Int) = some 0
      rw [u2]
      rfl
    · rw [List.getElem?_map, List.getElem?_map, List.getElem?_range (Nat.lt_trans hm u1)] at hx
      have hx' : ((S q a.val m : Nat) : Int) = 0 := Option.some.inj hx
      exact u3 m hm (by omega)
theorem ok_inverse {f d : Addr} {fd : FuncData} {k : Nat} (F : Fun K "inverse" "inverse" sInverse f fd) (g : mg "PRODUCTS" = some (.ref d)) (T : tabIs K d Fld.M = true) : FnOk P w K mg base CX0 (k + 1) f fd pInverse spInvE := by
  refine F.ok scInverse (fun vs H Q E h => ?_) (fun cdv A outer s H vs Q E hr h => ?_)
  · obtain ⟨q, _, a, _, rfl, _⟩ := h
    rfl
  · obtain ⟨q, FF, a, h0, rfl, want⟩ := h
    refine ⟨_, (pss_one (ps_ret (pe_bm PySem.F.plainAttrs_tuple PySem.F.slot_tuple_index PySem.F.type_tuple_index mt_tupIx (pe_ix ix_tup (pe_ix ix_kint (pe_glob (v := .ref d) rfl g rfl) (pv 0) (fun _ _ => rfl)) (pv 1) (fun _ _ => rfl)) (pa_cons pe_int pa_nil)))), ?_⟩
    obtain ⟨p, vs, h1, h2, h3⟩ := tab_at T FF.mem
    obtain ⟨r, e, h4, o, ho⟩ := h3 a.val a.lt
    obtain ⟨_, _, _, _, u1, u2, u3⟩ := unit FF.mem a.lt (El.ne_zero.mp h0)
    have ew : iv ((List.range q).map (M q a.val)) = (((List.range q).map (M q a.val)).map fun n => ((n : Nat) : Int)).map V.int := by
      rw [List.map_map]
      rfl
    refine ⟨.int q, rfl, d, q, .ref p, rfl, rfl, h1, vn a, rfl, p, vs, (a.val : Nat), .ref r, rfl, rfl, h2 _, atI_nat e, .inr (.inl ⟨rfl, o, ho⟩), ?_⟩
    have want' : Q (.int (Fld.inv q a.val : Nat)) H := by
      rw [← under_val h0]
      exact want
    refine ⟨r, ((List.range q).map (M q a.val)).map fun n => ((n : Nat) : Int), 1, Fld.inv q a.val, rfl, rfl, ?_, ?_, fun m hm hx => ?_, want'⟩
    · rw [← ew]
      exact h4 _
    · rw [List.getElem?_map, List.getElem?_map, List.getElem?_range u1]
      show some ((M q a.val (Fld.inv q a.val) : Nat) : Int) = some 1
      rw [u2]
      rfl
    · rw [List.getElem?_map, List.getElem?_map, List.getElem?_range (Nat.lt_trans hm u1)] at hx
      have hx' : ((M q a.val m : Nat) : Int) = 1 := Option.some.inj hx
      exact u3 m hm (by omega)
theorem ok_minus {f d fO : Addr} {fd fdO : FuncData} (F : Fun K "minus" "minus" sMinus f fd) (O : BP.Can P w K mg base "opposite" 1 pOpposite (spE1 (fun a => -a)) fO fdO) (g : mg "SUMS" = some (.ref d)) (T : tabIs K d Fld.S = true) : FnOk P w K mg base CX0 2 f fd pMinus (spE2 (fun a b => a - b)) := by
  refine F.ok scMinus (fun vs H Q E h => ?_) (fun cdv A outer s H vs Q E hr h => ?_)
  · obtain ⟨q, _, a, b, rfl, _⟩ := h
    rfl
  · obtain ⟨q, FF, a, b, rfl, want⟩ := h
    refine ⟨_, (pss_one (ps_ret (pe_ix ix_tup (pe_ix ix_tup (pe_ix ix_kint (pe_glob (v := .ref d) rfl g rfl) (pv 0) (fun _ _ => rfl)) (pv 1) (fun _ _ => rfl)) (pe_call O.ok hr (by rfl) O.g O.kp O.b .nil pass0 (pa_cons (pv 0) (pa_cons (pv 2) pa_nil))) (fun _ _ => rfl)))), ?_⟩
    obtain ⟨p, vs, h1, h2, h3⟩ := tab_at T FF.mem
    obtain ⟨r, e, h4, _⟩ := h3 a.val a.lt
    refine ⟨.int q, rfl, d, q, .ref p, rfl, rfl, h1, vn a, rfl, p, vs, (a.val : Nat), .ref r, rfl, rfl, h2 _, atI_nat e, .int q, rfl, vn b, rfl, q, FF, b, rfl, ?_⟩
    exact ⟨r, _, ((-b : El q).val : Nat), _, rfl, rfl, h4 _, atI_nat (iv_at (-b : El q).lt), want⟩
end
end K13
set_option Elab.async false
set_option linter.all false
set_option maxRecDepth 100000
set_option maxHeartbeats 4000000
set_option pp.maxSteps 400
namespace Fld
theorem pl_comm {q : Nat} [F : IsF q] (f g : Po q) : pl f g = pl g f := by
  refine canon_ext (pl_canon _ _) (pl_canon _ _) fun i => ?_
  rw [co_pl, co_pl]
  grind
theorem trim_pl {q : Nat} [F : IsF q] {l f g : Po q} (h : ∀ j, co l j = co f j + co g j) : trim l = pl f g := by
  refine canon_ext (trim_trim _) (pl_canon _ _) fun i => ?_
  rw [co_trim, co_pl, h]
end Fld
namespace BP
open PySem PySem.Spec PyProof.Rows L2 Fld
theorem yes_kept {σ : L2.St} {H : Hp} {A B : Hp → Prop} (h : A H) : tYes σ H (fun b H3 => if b = true then A H3 else B H3) := by
  show (if true = true then A H else B H)
  rw [if_pos rfl]
  exact h
end BP
namespace K13
open PySem PySem.Spec PyProof.Rows L2 BP Fld
section
variable {P : Program} {w : World} {K : PySem.W.Frag} {mg : Str → Option Value} {base : Heap}
abbrev Plus (P : Program) (w : World) (K : PySem.W.Frag) (mg : Str → Option Value) (base : Heap) := BP.Can P w K mg base "plus" 1 pPlus (spE2 (fun a b => a + b))
abbrev Times (P : Program) (w : World) (K : PySem.W.Frag) (mg : Str → Option Value) (base : Heap) := BP.Can P w K mg base "times" 1 pTimes (spE2 (fun a b => a * b))
abbrev Trimmed (P : Program) (w : World) (K : PySem.W.Frag) (mg : Str → Option Value) (base : Heap) := BP.Can P w K mg base "trimmed" 1 pTrimmed (spTrim K)
def spPlC (K : PySem.W.Frag) (C : Nat → Nat → Prop) : Sp := fun vs H Q _ => ∃ (q : Nat) (_ : IsF q) (a b : Addr) (f g : Po q), vs = [.int q, .ref a, .ref b] ∧ SqT K H a (vns f) ∧ SqT K H b (vns g) ∧ f.length ≤ 100 ∧ g.length ≤ 100 ∧ C f.length g.length ∧
  ∀ (p : Addr) (H' : Hp), Same H H' → H p = none → H' p = some (.tup (vns (pl f g))) → Q (.ref p) H'
end
end K13
set_option Elab.async false
set_option linter.all false
set_option maxRecDepth 100000
set_option maxHeartbeats 4000000
set_option pp.maxSteps 400
namespace Fld
variable {q : Nat} [F : IsF q]
/-- the map that undoes a map, as the program reckons it -/
def mund (m : Mat q) : Mat q :=
  ⟨m.e * El.under (det m), m.b * -(El.under (det m)), -(m.e * El.under (det m) * m.c + m.b * -(El.under (det m)) * m.f + 0),
   m.d * -(El.under (det m)), m.a * El.under (det m), -(m.d * -(El.under (det m)) * m.c + m.a * El.under (det m) * m.f + 0)⟩
theorem thn_mund {m : Mat q} (h : det m ≠ 0) : thn m (mund m) = same := by
  have u := El.mul_inv h
  unfold det at u h
  unfold thn mund same det
  refine Mat.ext' ?_ ?_ ?_ ?_ ?_ ?_ <;> simp only [] <;> grind
theorem mund_thn {m : Mat q} (h : det m ≠ 0) : thn (mund m) m = same := by
  have u := El.mul_inv h
  unfold det at u h
  unfold thn mund same det
  refine Mat.ext' ?_ ?_ ?_ ?_ ?_ ?_ <;> simp only [] <;> grind
theorem El.add_nil (a : El q) : a + 0 = a := by grind
end Fld
namespace BP
open PySem PySem.Spec PyProof.Rows L2 Fld
section
variable {q : Nat} [F : IsF q]
abbrev mv (m : Mat q) : List V := [vn m.a, vn m.b, vn m.c, vn m.d, vn m.e, vn m.f]
abbrev ov : Option (El q) → V
  | none => .int (-1)
  | some t => vn t
theorem vn_zero : vn (0 : El q) = .int 0 := rfl
theorem vn_one : vn (1 : El q) = .int 1 := by
  show V.int ((1 : El q).val : Nat) = _
  rw [El.val_one]
  rfl
theorem vn_inj {a b : El q} (h : vn a = vn b) : a = b := by
  have z := V.int.inj h
  exact El.ext (by omega)
end
def spTurn : Sp := fun vs H Q _ => ∃ (q : Nat) (_ : IsF q) (t : El q), vs = [vn t] ∧ ∀ (p : Addr) (H' : Hp), Same H H' → H p = none → H' p = some (.tup (mv (turn t))) → Q (.ref p) H'
def spSummed : Sp := fun vs H Q _ => ∃ (q : Nat) (_ : IsF q) (a x b y c : El q), vs = [.int q, vn a, vn x, vn b, vn y, vn c] ∧ Q (vn (a * x + b * y + c)) H
def spDet (K : PySem.W.Frag) : Sp := fun vs H Q _ => ∃ (q : Nat) (_ : IsF q) (p : Addr) (m : Mat q), vs = [.int q, .ref p] ∧ SqT K H p (mv m) ∧ Q (vn (det m)) H
def spPoint (K : PySem.W.Frag) : Sp := fun vs H Q _ => ∃ (q : Nat) (_ : IsF q) (p t : Addr) (m : Mat q) (x y : El q), vs = [.int q, .ref p, .ref t] ∧ SqT K H p (mv m) ∧ SqT K H t [vn x, vn y] ∧
  ∀ (r : Addr) (H' : Hp), Same H H' → H r = none → H' r = some (.tup [vn (m.a * x + m.b * y + m.c), vn (m.d * x + m.e * y + m.f)]) → Q (.ref r) H'
def spThn (K : PySem.W.Frag) : Sp := fun vs H Q _ => ∃ (q : Nat) (_ : IsF q) (p t : Addr) (m n : Mat q), vs = [.int q, .ref p, .ref t] ∧ SqT K H p (mv m) ∧ SqT K H t (mv n) ∧
  ∀ (r : Addr) (H' : Hp), Same H H' → H r = none → H' r = some (.tup (mv (thn m n))) → Q (.ref r) H'
def spUnd (K : PySem.W.Frag) : Sp := fun vs H Q _ => ∃ (q : Nat) (_ : IsF q) (p : Addr) (m : Mat q), vs = [.int q, .ref p] ∧ SqT K H p (mv m) ∧ det m ≠ 0 ∧
  ∀ (r : Addr) (H' : Hp), Same H H' → H r = none → H' r = some (.tup (mv (mund m))) → Q (.ref r) H'
def spTm2 (K : PySem.W.Frag) : Sp := fun vs H Q _ => ∃ (q : Nat) (_ : IsF q) (p : Addr) (m : Mat q), vs = [.int q, .ref p] ∧ SqT K H p (mv m) ∧
  ∀ (r t : Addr) (H' : Hp), Same H H' → H r = none → H' r = some (.tup [ov (tm m).1, .ref t]) → SqT K H' t (mv (tm m).2) → Q (.ref r) H'
def spAhead (K : PySem.W.Frag) : Sp := fun vs H Q _ => ∃ (q : Nat) (_ : IsF q) (p t : Addr) (b : Mat q) (f : Po q), vs = [.int q, .ref p, .ref t] ∧ SqT K H p (mv b) ∧ SqT K H t (vns f) ∧ Tri b ∧ IsB f ∧ f.length ≤ 7 ∧
  ∀ (r u v : Addr) (H' : Hp), Same H H' → H r = none → H' r = some (.tup [.ref u, .ref v]) → H' u = some (.tup (vns (ahead b f).1)) → H' v = some (.tup (mv (ahead b f).2)) → Q (.ref r) H'
end BP
namespace K13
open PySem PySem.Spec PyProof.Rows L2 BP Fld
section
variable {P : Program} {w : World} {K : PySem.W.Frag} {mg : Str → Option Value} {base : Heap}
abbrev Minus (P : Program) (w : World) (K : PySem.W.Frag) (mg : Str → Option Value) (base : Heap) := BP.Can P w K mg base "minus" 2 pMinus (spE2 (fun a b => a - b))
abbrev Opp (P : Program) (w : World) (K : PySem.W.Frag) (mg : Str → Option Value) (base : Heap) := BP.Can P w K mg base "opposite" 1 pOpposite (spE1 (fun a => -a))
abbrev Inve (P : Program) (w : World) (K : PySem.W.Frag) (mg : Str → Option Value) (base : Heap) := BP.Can P w K mg base "inverse" 1 pInverse spInvE
abbrev Summed (P : Program) (w : World) (K : PySem.W.Frag) (mg : Str → Option Value) (base : Heap) := BP.Can P w K mg base "summed" 2 pSummed spSummed
theorem ok_turn_by {f : Addr} {fd : FuncData} {k : Nat} (F : Fun K "turn_by" "turn_by" sTurnBy f fd) : FnOk P w K mg base CX0 (k + 1) f fd pTurnBy spTurn := by
  refine F.ok scTurnBy (fun vs H Q E h => ?_) (fun cdv A outer s H vs Q E hr h => ?_)
  · obtain ⟨q, _, t, rfl, _⟩ := h
    rfl
  · obtain ⟨q, FF, t, rfl, want⟩ := h
    refine ⟨_, (pss_one (ps_ret (pe_tup (pa_cons pe_int (pa_cons pe_int (pa_cons pe_int (pa_cons pe_int (pa_cons (pv 0) (pa_cons pe_int pa_nil))))))))), ?_⟩
    refine ⟨vn t, rfl, (by show 6 ≤ sizeLine; decide), fun p np => want p _ (same_new np) np ?_⟩
    rw [upd_same]
    unfold mv turn
    simp only []
    rw [vn_one, vn_zero]
theorem ok_det {f fM fT : Addr} {fd fdM fdT : FuncData} (F : Fun K "straight_determinant" "straight_determinant" sStraightDeterminant f fd) (MN : Minus P w K mg base fM fdM) (TM : Times P w K mg base fT fdT) : FnOk P w K mg base CX0 3 f fd pStraightDeterminant (spDet K) := by
  refine F.ok scStraightDeterminant (fun vs H Q E h => ?_) (fun cdv A outer s H vs Q E hr h => ?_)
  · obtain ⟨q, _, p, m, rfl, _⟩ := h
    rfl
  · obtain ⟨q, FF, p, m, rfl, hp, want⟩ := h
    have hr1 := hr.mono (show 1 ≤ 2 by decide)
    refine ⟨_, (pss_cons (ps_asg (pv 1) (pg_tup rfl (pgs_cons (pg_name (i := 2) scStraightDeterminant.nd rfl (.inl rfl)) (pgs_cons (pg_name (i := 3) scStraightDeterminant.nd rfl (.inl rfl)) (pgs_cons (pg_name (i := 4) scStraightDeterminant.nd rfl (.inl rfl)) (pgs_cons (pg_name (i := 5) scStraightDeterminant.nd rfl (.inl rfl)) (pgs_cons (pg_name (i := 6) scStraightDeterminant.nd rfl (.inl rfl)) (pgs_cons (pg_name (i := 4) scStraightDeterminant.nd rfl (.inl rfl)) pgs_nil))))))))
      (pss_one (ps_ret (pe_call MN.ok hr (by rfl) MN.g MN.kp MN.b .nil pass0 (pa_cons (pv 0) (pa_cons (pe_call TM.ok hr1 (by rfl) TM.g TM.kp TM.b .nil pass0 (pa_cons (pv 0) (pa_cons (pv 2) (pa_cons (pv 6) pa_nil)))) (pa_cons (pe_call TM.ok hr1 (by rfl) TM.g TM.kp TM.b .nil pass0 (pa_cons (pv 0) (pa_cons (pv 3) (pa_cons (pv 5) pa_nil)))) pa_nil))))))), ?_⟩
    refine ⟨.ref p, rfl, ?_⟩
    refine ⟨p, _, rfl, hp, rfl, _, [_, _, _, _, _], rfl, _, [_, _, _, _], rfl, _, [_, _, _], rfl, _, [_, _], rfl, _, [_], rfl, _, [], rfl, rfl, ?_⟩
    exact ⟨.int q, rfl, .int q, rfl, vn m.a, rfl, vn m.e, rfl, q, FF, m.a, m.e, rfl, .int q, rfl, vn m.b, rfl, vn m.d, rfl, q, FF, m.b, m.d, rfl, q, FF, m.a * m.e, m.b * m.d, rfl, want⟩
end
end K13
set_option Elab.async false
set_option linter.all false
set_option maxRecDepth 100000
set_option maxHeartbeats 4000000
set_option pp.maxSteps 400
namespace Fld
variable {q : Nat} [F : IsF q]
theorem shp_len {e k : El q} (he : e ≠ 0) {f : Po q} {n : Nat} (hl : f.length = n + 1) (ht : co f n ≠ 0) : (trim (sh e k f)).length = n + 1 := by
  have top : co (trim (sh e k f)) n ≠ 0 := by
    rw [co_trim, sh_top e k f n hl]
    exact ne_mul ht (epow_ne he _)
  have a : n < (trim (sh e k f)).length := Classical.byContradiction fun z => top (co_out (by omega))
  have b : (trim (sh e k f)).length ≤ n + 1 := by
    refine Classical.byContradiction fun z => ?_
    obtain ⟨m, hm⟩ : ∃ m, (trim (sh e k f)).length = m + 1 := ⟨(trim (sh e k f)).length - 1, by omega⟩
    refine top_of_trim (trim_trim _) hm ?_
    rw [co_trim]
    exact sh_out e k f m (by omega)
  omega
end Fld
namespace K13
open PySem PySem.Spec PyProof.Rows L2 BP Fld
section
variable {P : Program} {w : World} {K : PySem.W.Frag} {mg : Str → Option Value} {base : Heap}
theorem ok_turn_and_map {f fI fM fT : Addr} {fd fdI fdM fdT : FuncData} {tk : Tok} (F : Fun K "turn_and_map" "turn_and_map" sTurnAndMap f fd) (IV : Inve P w K mg base fI fdI) (MN : Minus P w K mg base fM fdM) (TM : Times P w K mg base fT fdT) (gNT : mg "NO_TURN" = some (.int (-1) tk)) :
    FnOk P w K mg base CX0 3 f fd pTurnAndMap (spTm2 K) := by
  refine F.ok scTurnAndMap (fun vs H Q E h => ?_) (fun cdv A outer s H vs Q E hr h => ?_)
  · obtain ⟨q, _, p, m, rfl, _⟩ := h
    rfl
  · obtain ⟨q, FF, p, m, rfl, hp, want⟩ := h
    have hr1 := hr.mono (show 1 ≤ 2 by decide)
    refine ⟨_, (pss_cons (ps_asg (pv 1) (pg_tup rfl (pgs_cons (pg_name (i := 2) scTurnAndMap.nd rfl (.inl rfl)) (pgs_cons (pg_name (i := 3) scTurnAndMap.nd rfl (.inl rfl)) (pgs_cons (pg_name (i := 4) scTurnAndMap.nd rfl (.inl rfl)) (pgs_cons (pg_name (i := 5) scTurnAndMap.nd rfl (.inl rfl)) (pgs_cons (pg_name (i := 6) scTurnAndMap.nd rfl (.inl rfl)) (pgs_cons (pg_name (i := 7) scTurnAndMap.nd rfl (.inl rfl)) pgs_nil))))))))
      (pss_cons (ps_if (pt_cmpR op_eq (pv 5) pe_int (nomark _)) (pss_one (ps_ret (pe_tup (pa_cons (pe_glob (v := .int (-1)) rfl gNT ⟨_, rfl⟩) (pa_cons (pv 1) pa_nil))))) pss_nil)
      (pss_cons (ps_set (i := 8) scTurnAndMap.nd rfl (.inl rfl) (pe_call TM.ok hr1 (by rfl) TM.g TM.kp TM.b .nil pass0 (pa_cons (pv 0) (pa_cons (pv 6) (pa_cons (pe_call IV.ok hr1 (by rfl) IV.g IV.kp IV.b .nil pass0 (pa_cons (pv 0) (pa_cons (pv 5) pa_nil))) pa_nil)))))
      (pss_one (ps_ret (pe_tup (pa_cons (pv 8) (pa_cons (pe_tup (pa_cons (pe_call MN.ok hr (by rfl) MN.g MN.kp MN.b .nil pass0 (pa_cons (pv 0) (pa_cons (pv 3) (pa_cons (pe_call TM.ok hr1 (by rfl) TM.g TM.kp TM.b .nil pass0 (pa_cons (pv 0) (pa_cons (pv 2) (pa_cons (pv 8) pa_nil)))) pa_nil)))) (pa_cons (pv 2) (pa_cons (pv 4) (pa_cons pe_int (pa_cons (pv 5) (pa_cons (pv 7) pa_nil))))))) pa_nil)))))))), ?_⟩
    refine ⟨.ref p, rfl, ?_⟩
    refine ⟨p, _, rfl, hp, rfl, _, [_, _, _, _, _], rfl, _, [_, _, _, _], rfl, _, [_, _, _], rfl, _, [_, _], rfl, _, [_], rfl, _, [], rfl, rfl, ?_⟩
    refine ⟨vn m.d, rfl, rfl, _, rfl, ite2 (fun h0 => ?_) (fun h0 => ?_)⟩
    · have hd : m.d = 0 := vn_inj (by rw [vn_zero]; exact of_decide_eq_true h0)
      have et : tm m = (none, m) := by
        unfold tm
        rw [if_pos hd]
      refine ⟨.ref p, rfl, (by show 2 ≤ sizeLine; decide), fun r nr => ?_⟩
      refine want r p _ (same_new nr) nr ?_ (BP.Same.tupS (same_new nr) ?_)
      · rw [upd_same, et]
      · rw [et]
        exact hp
    · have hd : m.d ≠ 0 := fun z => h0 (decide_eq_true (by rw [z]; rfl))
      have et : tm m = (some (m.e * El.under m.d), ⟨m.b - m.a * (m.e * El.under m.d), m.a, m.c, 0, m.d, m.f⟩) := by
        unfold tm
        rw [if_neg hd]
      refine ⟨.int q, rfl, vn m.e, rfl, .int q, rfl, vn m.d, rfl, q, FF, m.d, hd, rfl, q, FF, m.e, El.under m.d, rfl, ?_⟩
      refine ⟨vn (m.e * El.under m.d), rfl, .int q, rfl, vn m.b, rfl, .int q, rfl, vn m.a, rfl, vn (m.e * El.under m.d), rfl, q, FF, m.a, m.e * El.under m.d, rfl, q, FF, m.b, m.a * (m.e * El.under m.d), rfl, ?_⟩
      refine ⟨vn m.a, rfl, vn m.c, rfl, vn m.d, rfl, vn m.f, rfl, (by show 6 ≤ sizeLine; decide), fun u nu => ?_⟩
      refine ⟨(by show 2 ≤ sizeLine; decide), fun r nr => ?_⟩
      have s1 := same_new (o := .tup [vn (m.b - m.a * (m.e * El.under m.d)), vn m.a, vn m.c, V.int 0, vn m.d, vn m.f]) nu
      have s2 := same_new (o := .tup [vn (m.e * El.under m.d), .ref u]) nr
      refine want r u _ (s1.trans s2) (none_of s1 nr) ?_ (.inl (.inl (s2 _ _ ?_)))
      · rw [upd_same, et]
      · rw [upd_same, et]
        rfl
end
end K13
set_option Elab.async false
set_option linter.all false
set_option maxRecDepth 100000
set_option maxHeartbeats 4000000
set_option pp.maxSteps 400
namespace BP
open PySem PySem.Spec PyProof.Rows L2 Fld
section
variable {X : Cx} {o : Expr} {f : Str} {pos : Pos} {ta : TE}
/-- a target that is an attribute, inside a target of several -/
def gFld (K : PySem.W.Frag) (ta : TE) (f : Str) : TG := fun v σ H Q => ta σ H fun x H2 => ∃ a C dx fs, x = .ref a ∧ H2 a = some (.ins C dx fs) ∧ Cls K C ∧ NoAttr K C f ∧ fs.length < 1000 ∧ Q σ (upd H2 a (.ins C dx (putF f v fs)))
theorem pg_fld (ha : PE X o ta) : PG X (.Attribute o f pos) (gFld X.K ta f) := by
  refine ⟨fun pins s σ H v u Q I r h => ?_⟩
  rw [assign_Attribute]
  refine wpAny_bind (wpAny_holding (thn (ha.run pins s σ H _ I h) fun ov s1 ⟨x, H1, I1, rx, a, C, dx, fs, ex, ea, c, n, l, q⟩ => ?_))
  subst ex
  obtain rfl : ov = Value.ref a := rx
  refine wpAny_bind (wpAny_standAt (wpAny_bind (wpAny_holding (setattr_ok I1 ea c n l r fun s3 I3 => ?_))))
  exact wpAny_release ⟨σ, _, I3, q⟩
end
/-- a method that may be called -/
structure Mth (P : Program) (w : World) (K : PySem.W.Frag) (mg : Str → Option Value) (base : Heap) (C : Addr) (x : Str) (k : Nat) (ps : List Str) (sp : Sp) (f : Addr) (fd : FuncData) : Prop where
  ok : FnOk P w K mg base CX0 k f fd ps sp
  m : Meth K C x f
  b : Binds K fd ps []
/-! ### the object -/
theorem lk (g k : Str) (v : V) (r : List (Str × V)) : ((k, v) :: r).lookup g = if g = k then some v else r.lookup g := by
  by_cases h : g = k
  · have hb : (g == k) = true := beq_iff_eq.mpr h
    simp only [List.lookup, hb, if_pos h]
  · have hb : (g == k) = false := beq_eq_false_iff_ne.mpr h
    simp only [List.lookup, hb, if_neg h]
abbrev flds (q : Nat) (t b l : Addr) : List (Str × V) := [("q", .int q), ("turns", .ref t), ("bends", .ref b), ("last", .ref l)]
theorem n1 : ¬ ("q" : Str) = "turns" := by decide +kernel
theorem n2 : ¬ ("q" : Str) = "bends" := by decide +kernel
theorem n3 : ¬ ("q" : Str) = "last" := by decide +kernel
theorem n4 : ¬ ("turns" : Str) = "bends" := by decide +kernel
theorem n5 : ¬ ("turns" : Str) = "last" := by decide +kernel
theorem n6 : ¬ ("bends" : Str) = "last" := by decide +kernel
section
variable {q : Nat} {t b l : Addr}
theorem fl_q : (flds q t b l).lookup ("q" : Str) = some (.int q) := by rw [lk, if_pos rfl]
theorem fl_t : (flds q t b l).lookup ("turns" : Str) = some (.ref t) := by rw [lk, if_neg fun z => n1 z.symm, lk, if_pos rfl]
theorem fl_b : (flds q t b l).lookup ("bends" : Str) = some (.ref b) := by rw [lk, if_neg fun z => n2 z.symm, lk, if_neg fun z => n4 z.symm, lk, if_pos rfl]
theorem fl_l : (flds q t b l).lookup ("last" : Str) = some (.ref l) := by rw [lk, if_neg fun z => n3 z.symm, lk, if_neg fun z => n5 z.symm, lk, if_neg fun z => n6 z.symm, lk, if_pos rfl]
theorem fl_no {m : Str} (h1 : ¬ m = "q") (h2 : ¬ m = "turns") (h3 : ¬ m = "bends") (h4 : ¬ m = "last") : (flds q t b l).lookup m = none := by
  rw [lk, if_neg h1, lk, if_neg h2, lk, if_neg h3, lk, if_neg h4]
  rfl
theorem pf (f k : Str) (v x : V) (r : List (Str × V)) : putF f v ((k, x) :: r) = if k = f then (k, v) :: r else (k, x) :: putF f v r := rfl
theorem fl_put {l' : Addr} : putF "last" (.ref l') (flds q t b l) = flds q t b l' := by
  rw [pf, if_neg n3, pf, if_neg n5, pf, if_neg n6, pf, if_pos rfl]
theorem fl_mk : putF "last" (.ref l) (putF "bends" (.ref b) (putF "turns" (.ref t) (putF "q" (.int q) []))) = flds q t b l := by
  rw [show putF ("q" : Str) (V.int q) [] = [(("q" : Str), V.int q)] from rfl]
  rw [pf "turns" "q", if_neg n1, show putF ("turns" : Str) (V.ref t) [] = [(("turns" : Str), V.ref t)] from rfl]
  rw [pf "bends" "q", if_neg n2, pf "bends" "turns", if_neg n4, show putF ("bends" : Str) (V.ref b) [] = [(("bends" : Str), V.ref b)] from rfl]
  rw [pf "last" "q", if_neg n3, pf "last" "turns", if_neg n5, pf "last" "bends", if_neg n6]
  rfl
end
section
variable {q : Nat} [F : IsF q] {K : PySem.W.Frag}
/-- what lies at the end of the two lists comes first -/
def Stk (K : PySem.W.Frag) (H : Hp) : List (Option (El q) × Po q) → List V → List V → Prop
  | [], ts, bs => ts = [] ∧ bs = []
  | (o, g) :: r, ts, bs => ∃ ts' bs' a, ts = ts' ++ [ov o] ∧ bs = bs' ++ [.ref a] ∧ SqT K H a (vns g) ∧ Stk K H r ts' bs'
theorem Stk.len {H : Hp} : ∀ {st : List (Option (El q) × Po q)} {ts bs : List V}, Stk K H st ts bs → ts.length = st.length ∧ bs.length = st.length
  | [], _, _, ⟨e1, e2⟩ => by
    subst e1
    subst e2
    exact ⟨rfl, rfl⟩
  | (o, g) :: r, _, _, ⟨ts', bs', a, e1, e2, _, k⟩ => by
    subst e1
    subst e2
    obtain ⟨h1, h2⟩ := Stk.len k
    rw [List.length_append, List.length_append, h1, h2]
    exact ⟨rfl, rfl⟩
theorem Stk.kept {H H' : Hp} (kp : ∀ a xs, SqT K H a xs → SqT K H' a xs) : ∀ {st : List (Option (El q) × Po q)} {ts bs : List V}, Stk K H st ts bs → Stk K H' st ts bs
  | [], _, _, h => h
  | (o, g) :: r, _, _, ⟨ts', bs', a, e1, e2, h, k⟩ => ⟨ts', bs', a, e1, e2, kp _ _ h, Stk.kept kp k⟩
structure LAt (K : PySem.W.Frag) (C : Addr) (H : Hp) (p dx t b l : Addr) (ts bs : List V) (s : Sta q) : Prop where
  ob : H p = some (.ins C dx (flds q t b l))
  la : SqT K H l (mv s.last)
  lt : H t = some (.lst ts)
  lb : H b = some (.lst bs)
  sk : Stk K H s.st ts bs
  nb : t ≠ b
def But3 (p t b : Addr) (H H' : Hp) : Prop := ∀ c o, c ≠ p → c ≠ t → c ≠ b → H c = some o → H' c = some o
theorem But3.refl {p t b : Addr} {H : Hp} : But3 p t b H H := fun _ _ _ _ _ e => e
theorem But3.trans {p t b : Addr} {H H1 H2 : Hp} (h : But3 p t b H H1) (k : But3 p t b H1 H2) : But3 p t b H H2 := fun c o x y z e => k c o x y z (h c o x y z e)
theorem But3.of {p t b : Addr} {H H' : Hp} (s : Same H H') : But3 p t b H H' := fun c o _ _ _ e => s c o e
theorem But3.p {p t b : Addr} {H : Hp} {x : HO} : But3 p t b H (upd H p x) := fun c o h _ _ e => by rw [upd_ne h]; exact e
theorem But3.t {p t b : Addr} {H : Hp} {x : HO} : But3 p t b H (upd H t x) := fun c o _ h _ e => by rw [upd_ne h]; exact e
theorem But3.b {p t b : Addr} {H : Hp} {x : HO} : But3 p t b H (upd H b x) := fun c o _ _ h e => by rw [upd_ne h]; exact e
theorem But3.sqT {p t b C dx : Addr} {H H' : Hp} {fs : List (Str × V)} {ts bs : List V} (B : But3 p t b H H') (h1 : H p = some (.ins C dx fs)) (h2 : H t = some (.lst ts)) (h3 : H b = some (.lst bs)) : ∀ (a : Addr) (xs : List V), SqT K H a xs → SqT K H' a xs := by
  intro a xs h
  rcases h with (h | ⟨o, h⟩) | h
  · exact .inl (.inl (B _ _ (ne_of h h1 (by intro z; cases z)) (ne_of h h2 (by intro z; cases z)) (ne_of h h3 (by intro z; cases z)) h))
  · exact .inl (.inr ⟨o, B _ _ (ne_of h h1 (by intro z; cases z)) (ne_of h h2 (by intro z; cases z)) (ne_of h h3 (by intro z; cases z)) h⟩)
  · exact .inr h
section
variable {C : Addr} {H H' : Hp} {p dx t b l : Addr} {ts bs : List V} {s : Sta q}
theorem LAt.kp (S : LAt K C H p dx t b l ts bs s) (B : But3 p t b H H') : ∀ (a : Addr) (xs : List V), SqT K H a xs → SqT K H' a xs := B.sqT S.ob S.lt S.lb
theorem LAt.npt (S : LAt K C H p dx t b l ts bs s) : p ≠ t := ne_of S.ob S.lt (by intro z; cases z)
theorem LAt.npb (S : LAt K C H p dx t b l ts bs s) : p ≠ b := ne_of S.ob S.lb (by intro z; cases z)
theorem LAt.same (S : LAt K C H p dx t b l ts bs s) (h : Same H H') : LAt K C H' p dx t b l ts bs s :=
  ⟨h _ _ S.ob, BP.Same.tupS h S.la, h _ _ S.lt, h _ _ S.lb, S.sk.kept fun _ _ => BP.Same.tupS h, S.nb⟩
/-- another last map -/
theorem LAt.setl {l' : Addr} {m : Mat q} (S : LAt K C H p dx t b l ts bs s) (h : SqT K H l' (mv m)) : LAt K C (upd H p (.ins C dx (flds q t b l'))) p dx t b l' ts bs ⟨s.st, m⟩ :=
  ⟨upd_same, S.kp .p _ _ h, by rw [upd_ne S.npt.symm]; exact S.lt, by rw [upd_ne S.npb.symm]; exact S.lb, S.sk.kept (S.kp .p), S.nb⟩
/-- one more at the end -/
theorem LAt.push {a : Addr} {o : Option (El q)} {g : Po q} (S : LAt K C H p dx t b l ts bs s) (h : SqT K H a (vns g)) : LAt K C (upd (upd H t (.lst (ts ++ [ov o]))) b (.lst (bs ++ [.ref a]))) p dx t b l (ts ++ [ov o]) (bs ++ [.ref a]) ⟨(o, g) :: s.st, s.last⟩ := by
  have B : But3 p t b H (upd (upd H t (.lst (ts ++ [ov o]))) b (.lst (bs ++ [.ref a]))) := But3.t.trans .b
  exact ⟨by rw [upd_ne S.npb, upd_ne S.npt]; exact S.ob, S.kp B _ _ S.la, by rw [upd_ne S.nb, upd_same], upd_same, ⟨ts, bs, a, rfl, rfl, S.kp B _ _ h, S.sk.kept (S.kp B)⟩, S.nb⟩
end
structure LC (K : PySem.W.Frag) (C : Addr) : Prop where
  cl : Cls K C
  nq : NoAttr K C "q"
  nt : NoAttr K C "turns"
  nb : NoAttr K C "bends"
  nl : NoAttr K C "last"
end
theorem last_concat (xs : List V) (y : V) : (xs ++ [y])[(xs ++ [y]).length - 1]? = some y := by simp
def spAdd (K : PySem.W.Frag) (C : Addr) : Sp := fun vs H Q _ => ∃ (q : Nat) (_ : IsF q) (p dx t b l u : Addr) (ts bs : List V) (o : Option (El q)) (g f : Po q) (r : List (Option (El q) × Po q)) (m : Mat q),
  vs = [.ref p, .ref u] ∧ LAt K C H p dx t b l ts bs ⟨(o, g) :: r, m⟩ ∧ SqT K H u (vns f) ∧ g.length ≤ 100 ∧ f.length ≤ 100 ∧ ts.length ≤ 1000 ∧
    ∀ (l' : Addr) (ts' bs' : List V) (H' : Hp), LAt K C H' p dx t b l' ts' bs' (if pl g f = [] then ⟨r, tmap o m⟩ else ⟨(o, pl g f) :: r, m⟩) → But3 p t b H H' → Q .non H'
end BP
namespace BP
open PySem PySem.Spec PyProof.Rows L2 Fld
section
variable {q : Nat} [F : IsF q]
theorem dpAll_po {K : PySem.W.Frag} {H : Hp} : ∀ l : Po q, DpAll K H (vns l) (l.map fun (x : El q) => PyData.int (x.val : Nat))
  | [] => .nil
  | x :: r => .cons (.int _) (dpAll_po r)
theorem shaped_intsT (ns : List Int) : SeqAt.shaped (.tuple (ns.map PyData.int)) = true := by
  unfold SeqAt.shaped
  simp [PyData.canLay0, canLay_ints, PyData.depth, depth_ints]
theorem shaped_po (l : Po q) : SeqAt.shaped (.tuple (l.map fun (x : El q) => PyData.int (x.val : Nat))) = true := by
  have e : (l.map fun (x : El q) => PyData.int (x.val : Nat)) = (l.map fun (x : El q) => ((x.val : Nat) : Int)).map PyData.int := by
    rw [List.map_map]
    rfl
  rw [e]
  exact shaped_intsT _
theorem eqv_po (l : Po q) : PyData.eqv (.tuple (l.map fun (x : El q) => PyData.int (x.val : Nat))) (.tuple []) = l.isEmpty := by
  cases l with
  | nil => simp [PyData.eqv, PyData.eqvAll]
  | cons n r => simp [PyData.eqv, PyData.eqvAll]
end
end BP
namespace K13
open PySem PySem.Spec PyProof.Rows L2 BP Fld
section
variable {P : Program} {w : World} {K : PySem.W.Frag} {mg : Str → Option Value} {base : Heap}
end
end K13
set_option Elab.async false
set_option linter.all false
set_option maxRecDepth 100000
set_option maxHeartbeats 4000000
set_option pp.maxSteps 400
namespace Fld
variable {q : Nat} [F : IsF q]
theorem pl_len (f g : Po q) {n : Nat} (hf : f.length ≤ n) (hg : g.length ≤ n) : (pl f g).length ≤ n := by
  refine Classical.byContradiction fun z => ?_
  obtain ⟨m, hm⟩ : ∃ m, (pl f g).length = m + 1 := ⟨(pl f g).length - 1, by omega⟩
  refine top_of_trim (pl_canon f g) hm ?_
  rw [co_pl, co_out (f := f) (by omega), co_out (f := g) (by omega)]
  grind
def B7 (st : List (Option (El q) × Po q)) : Prop := ∀ x ∈ st, x.2.length ≤ 7
def PcOk7 : Pc q → Prop
  | .mat m => det m ≠ 0
  | .bd f => IsB f ∧ f.length ≤ 7
theorem PcOk7.ok : ∀ {p : Pc q}, PcOk7 p → PcOk p
  | .mat _, h => h
  | .bd _, h => h.1
theorem put_b7 {s : Sta q} (hs : Okay s) {f : Po q} (hf : IsB f) (h7 : f.length ≤ 7) (hb : B7 s.st) : B7 (put s f).st ∧ (put s f).st.length ≤ s.st.length + 1 := by
  have la : (ahead (tm s.last).2 f).1.length ≤ 7 := by rw [ahead_len (tm_tri hs.2) hf]; exact h7
  by_cases h : (tm s.last).1 ≠ none ∨ s.st = []
  · rw [put_push h]
    refine ⟨fun x hx => ?_, Nat.le_refl _⟩
    rcases List.mem_cons.mp hx with e | e
    · rw [e]
      exact la
    · exact hb x e
  · have h1 : (tm s.last).1 = none := Classical.byContradiction fun z => h (.inl z)
    cases e : s.st with
    | nil => exact absurd (.inr e) h
    | cons p r =>
      obtain ⟨t, g⟩ := p
      rw [put_add h1 e]
      rw [e] at hb
      by_cases z : pl g (ahead (tm s.last).2 f).1 = []
      · rw [if_pos z]
        refine ⟨fun x hx => hb x (List.mem_cons_of_mem _ hx), ?_⟩
        show r.length ≤ r.length + 1 + 1
        omega
      · rw [if_neg z]
        refine ⟨fun x hx => ?_, ?_⟩
        · rcases List.mem_cons.mp hx with e | e
          · rw [e]
            exact pl_len _ _ (hb (t, g) (List.mem_cons_self ..)) la
          · exact hb x (List.mem_cons_of_mem _ e)
        · show r.length + 1 ≤ r.length + 1 + 1
          omega
theorem act_b7 {s : Sta q} (hs : Okay s) (hb : B7 s.st) : ∀ {p : Pc q}, PcOk7 p → B7 (act s p).st ∧ (act s p).st.length ≤ s.st.length + 1
  | .mat m, _ => ⟨hb, Nat.le_succ _⟩
  | .bd f, h => put_b7 hs h.1 h.2 hb
end Fld
namespace BP
open PySem PySem.Spec PyProof.Rows L2 Fld
section
variable {q : Nat} [F : IsF q]
def PieceAt (K : PySem.W.Frag) (H : Hp) (c : Addr) : Pc q → Prop
  | .mat m => ∃ u, SqT K H c [.str "straight", .ref u] ∧ SqT K H u (mv m)
  | .bd f => ∃ u, SqT K H c [.str "bend", .ref u] ∧ SqT K H u (vns f)
theorem PieceAt.kept {K : PySem.W.Frag} {H H' : Hp} {c : Addr} (kp : ∀ a xs, SqT K H a xs → SqT K H' a xs) : ∀ {x : Pc q}, PieceAt K H c x → PieceAt K H' c x
  | .mat _, ⟨u, h1, h2⟩ => ⟨u, kp _ _ h1, kp _ _ h2⟩
  | .bd _, ⟨u, h1, h2⟩ => ⟨u, kp _ _ h1, kp _ _ h2⟩
def StepAt (K : PySem.W.Frag) (H : Hp) (c : Addr) (z : Sta q) : Prop := ∃ (start : V) (ts bs : List V) (t b l : Addr), SqT K H c [start, .ref b, .ref t, .ref l] ∧ SqT K H b bs ∧ SqT K H t ts ∧ SqT K H l (mv z.last) ∧
  ((z.st = [] ∧ start = .int (-1) ∧ ts = [] ∧ bs = []) ∨ (z.st ≠ [] ∧ Stk K H z.st (start :: ts) bs))
theorem StepAt.kept {K : PySem.W.Frag} {H H' : Hp} {c : Addr} {z : Sta q} (kp : ∀ a xs, SqT K H a xs → SqT K H' a xs) (h : StepAt K H c z) : StepAt K H' c z := by
  obtain ⟨start, ts, bs, t, b, l, h1, h2, h3, h4, h5⟩ := h
  exact ⟨start, ts, bs, t, b, l, kp _ _ h1, kp _ _ h2, kp _ _ h3, kp _ _ h4, h5.imp id fun x => ⟨x.1, x.2.kept kp⟩⟩
end
def spPutB (K : PySem.W.Frag) (C : Addr) : Sp := fun vs H Q _ => ∃ (q : Nat) (_ : IsF q) (p dx t b l u : Addr) (ts bs : List V) (z : Sta q) (f : Po q),
  vs = [.ref p, .ref u] ∧ LAt K C H p dx t b l ts bs z ∧ SqT K H u (vns f) ∧ Okay z ∧ B7 z.st ∧ z.st.length ≤ 900 ∧ IsB f ∧ f.length ≤ 7 ∧
    ∀ (l' : Addr) (ts' bs' : List V) (H' : Hp), LAt K C H' p dx t b l' ts' bs' (put z f) → But3 p t b H H' → Q .non H'
def spPutP (K : PySem.W.Frag) (C : Addr) : Sp := fun vs H Q _ => ∃ (q : Nat) (_ : IsF q) (p dx t b l c : Addr) (ts bs : List V) (z : Sta q) (x : Pc q),
  vs = [.ref p, .ref c] ∧ LAt K C H p dx t b l ts bs z ∧ PieceAt K H c x ∧ Okay z ∧ B7 z.st ∧ z.st.length ≤ 900 ∧ PcOk7 x ∧
    ∀ (l' : Addr) (ts' bs' : List V) (H' : Hp), LAt K C H' p dx t b l' ts' bs' (act z x) → But3 p t b H H' → Q .non H'
def spLInit (K : PySem.W.Frag) (C : Addr) : Sp := fun vs H Q _ => ∃ (q : Nat) (_ : IsF q) (p dx c : Addr) (z : Sta q), vs = [.ref p, .int q, .ref c] ∧ H p = some (.ins C dx []) ∧ StepAt K H c z ∧ z.st.length ≤ 900 ∧
  ∀ (t b l : Addr) (ts bs : List V) (H' : Hp), LAt K C H' p dx t b l ts bs z → (∀ a o, H a = some o → a ≠ p → H' a = some o) → H t = none → H b = none → Q .non H'
def spAs (K : PySem.W.Frag) (C : Addr) : Sp := fun vs H Q _ => ∃ (q : Nat) (_ : IsF q) (p dx t b l : Addr) (ts bs : List V) (z : Sta q), vs = [.ref p] ∧ LAt K C H p dx t b l ts bs z ∧
  ∀ (r : Addr) (H' : Hp), Same H H' → H r = none → StepAt K H' r z → Q (.ref r) H'
theorem cut_one (x : V) (xs : List V) : cutV (x :: xs) (some 1) none = xs := by
  have i1 : HT.sIx (x :: xs).length 0 (some 1) = 1 := by
    have e := HT.sIx_nat (x :: xs).length 0 1
    rw [show ((1 : Nat) : Int) = 1 from rfl] at e
    have : (x :: xs).length = xs.length + 1 := rfl
    omega
  unfold cutV
  rw [i1, HT.sIx_none]
  exact List.take_of_length_le (by simp)
end BP
namespace K13
open PySem PySem.Spec PyProof.Rows L2 BP Fld
section
variable {P : Program} {w : World} {K : PySem.W.Frag} {mg : Str → Option Value} {base : Heap}
end
end K13
set_option Elab.async false
set_option linter.all false
set_option maxRecDepth 100000
set_option maxHeartbeats 4000000
set_option pp.maxSteps 400
namespace BP
open PySem PySem.Spec PyProof.Rows L2
/-- over a list or a tuple -/
def iSeqA (K : PySem.W.Frag) (tl : TE) : TI := fun σ H R => tl σ H fun x H1 => ∃ a, x = .ref a ∧ (((∃ xs, SqL K H1 a xs) ∧ R (Itl K a) H1) ∨ ((∃ xs, SqT K H1 a xs) ∧ R (Itt K a) H1))
theorem pi_seqA {X : Cx} {tg l : Expr} {tl : TE} (hl : PE X l tl) : PI X tg l (iSeqA X.K tl) := ⟨fun pins s σ H R I h => thn (hl.run pins s σ H _ I h) fun v s1 ⟨x, H1, J, r1, a, ea, alt⟩ => by
  subst ea
  cases r1
  have fresh : ∀ b ∈ [s1.heap.objs.size], FpOk X pins H1 b := fun b hb => by
    obtain rfl : b = s1.heap.objs.size := List.mem_singleton.mp hb
    exact J.fpOk (Nat.le_refl _) (J.hok.fresh (Nat.le_refl _))
  rcases alt with ⟨⟨ys, hy⟩, k⟩ | ⟨⟨ys, hy⟩, k⟩
  · obtain ⟨vals, _, isl, _⟩ := J.list hy
    exact wpAny_pyIter_list isl.isList ⟨_, _, _, _, H1, rfl, J.kept (t' := s1.toks) (fun _ _ w => Heap.get?_push_of_some _ w), turn_list a _, ⟨_, Heap.get?_push_size _ rfl, rfl, rfl⟩, fresh, k⟩
  · obtain ⟨vals, _, ist, _⟩ := J.tuple hy
    exact wpAny_pyIter_tuple (show s1.heap.IsTuple a vals.toArray from ist) ⟨_, _, _, _, H1, rfl, J.kept (t' := s1.toks) (fun _ _ w => Heap.get?_push_of_some _ w), turn_tuple a _, ⟨_, Heap.get?_push_size _ rfl, rfl, rfl⟩, fresh, k⟩⟩
end BP
namespace Fld
variable {q : Nat} [F : IsF q]
theorem run_b7 : ∀ (l : List (Pc q)) {s : Sta q}, Okay s → B7 s.st → (∀ p ∈ l, PcOk7 p) → Okay (run s l) ∧ B7 (run s l).st ∧ (run s l).st.length ≤ s.st.length + l.length
  | [], s, h1, h2, _ => ⟨h1, h2, Nat.le_refl _⟩
  | p :: l, s, h1, h2, h3 => by
    have hp := h3 p (List.mem_cons_self ..)
    have a := act_b7 h1 h2 hp
    obtain ⟨x, y, z⟩ := run_b7 l (act_ok h1 hp.ok) a.1 fun r hr => h3 r (List.mem_cons_of_mem _ hr)
    refine ⟨x, y, Nat.le_trans z ?_⟩
    have := a.2
    rw [List.length_cons]
    omega
theorem run_take {z : Sta q} {ps : List (Pc q)} {i : Nat} {x : Pc q} (h : ps[i]? = some x) : run z (ps.take (i + 1)) = act (run z (ps.take i)) x := by
  rw [List.take_add_one, h, run_app]
  rfl
/-- a piece that undoes a piece, as the program reckons it -/
def und : Pc q → Pc q
  | .mat m => .mat (mund m)
  | .bd f => .bd (sc f (-1))
end Fld
namespace BP
open PySem PySem.Spec PyProof.Rows L2 Fld
section
variable {K : PySem.W.Frag} {a b : Addr} {xs ys : List V}
theorem walk_revT : Walk (RT.ItvT K a xs.length) xs.length (fun H => SqT K H a xs) (fun i H x H' => H' = H ∧ xs[xs.length - 1 - i]? = some x) :=
  ⟨fun i H hi q => ⟨hi, xs, xs[xs.length - 1 - i]'(by omega), q, List.getElem?_eq_getElem _⟩, fun H q => Nat.le_refl _, fun i H x H' hi q y => ⟨y.1, y.2 xs q⟩⟩
theorem walk_zipTm (hn : ys.length ≤ xs.length) : Walk (RZ.ItzT K a b) ys.length (fun H => SqT K H a xs ∧ SqT K H b ys) (YPair (fun i => xs[i]?) (fun i => ys[i]?)) := by
  refine ⟨fun i H hi q => ⟨xs, ys, _, _, q.1, q.2, List.getElem?_eq_getElem (Nat.lt_of_lt_of_le hi hn), List.getElem?_eq_getElem hi⟩, fun H q => ⟨xs, ys, q.1, q.2, .inr (Nat.le_refl _)⟩, fun i H v H' hi q y => ?_⟩
  obtain ⟨T, x', y', e1, hT, e2, f1, f2⟩ := y
  exact ⟨T, x', y', e1, hT, e2, f1 xs q.1, f2 ys q.2⟩
end
theorem sqT_upd {K : PySem.W.Frag} {H : Hp} {r a : Addr} {zs xs : List V} {o : HO} (h : H r = some (.lst zs)) (k : SqT K H a xs) : SqT K (upd H r o) a xs := by
  rcases k with (k | ⟨u, k⟩) | k
  · exact .inl (.inl (by rw [upd_ne (ne_of k h (by intro z; cases z))]; exact k))
  · exact .inl (.inr ⟨u, by rw [upd_ne (ne_of k h (by intro z; cases z))]; exact k⟩)
  · exact .inr k
section
variable {q : Nat} [F : IsF q] {K : PySem.W.Frag}
def PsAt (K : PySem.W.Frag) (H : Hp) : List V → List (Pc q) → Prop
  | [], [] => True
  | x :: xs, p :: ps => (∃ c, x = .ref c ∧ PieceAt K H c p) ∧ PsAt K H xs ps
  | _, _ => False
theorem PsAt.kept {H H' : Hp} (kp : ∀ a xs, SqT K H a xs → SqT K H' a xs) : ∀ {xs : List V} {ps : List (Pc q)}, PsAt K H xs ps → PsAt K H' xs ps
  | [], [], _ => trivial
  | _ :: _, _ :: _, ⟨⟨c, e, h⟩, k⟩ => ⟨⟨c, e, h.kept kp⟩, PsAt.kept kp k⟩
  | [], _ :: _, h => h.elim
  | _ :: _, [], h => h.elim
theorem PsAt.len {H : Hp} : ∀ {xs : List V} {ps : List (Pc q)}, PsAt K H xs ps → xs.length = ps.length
  | [], [], _ => rfl
  | _ :: _, _ :: _, ⟨_, k⟩ => by rw [List.length_cons, List.length_cons, PsAt.len k]
  | [], _ :: _, h => h.elim
  | _ :: _, [], h => h.elim
theorem PsAt.get {H : Hp} : ∀ {xs : List V} {ps : List (Pc q)} {i : Nat} {x : V}, PsAt K H xs ps → xs[i]? = some x → ∃ c p, x = .ref c ∧ ps[i]? = some p ∧ PieceAt K H c p
  | [], [], _, _, _, e => by cases e
  | x :: xs, p :: ps, 0, y, ⟨⟨c, e, h⟩, _⟩, g => by
    cases g
    exact ⟨c, p, e, rfl, h⟩
  | x :: xs, p :: ps, i + 1, y, ⟨_, k⟩, g => PsAt.get (i := i) k g
  | [], _ :: _, _, _, h, _ => h.elim
  | _ :: _, [], _, _, h, _ => h.elim
theorem PsAt.add {H : Hp} {c : Addr} {p : Pc q} (hp : PieceAt K H c p) : ∀ {xs : List V} {ps : List (Pc q)}, PsAt K H xs ps → PsAt K H (xs ++ [.ref c]) (ps ++ [p])
  | [], [], _ => ⟨⟨c, rfl, hp⟩, trivial⟩
  | _ :: _, _ :: _, ⟨h, k⟩ => ⟨h, PsAt.add hp k⟩
  | [], _ :: _, h => h.elim
  | _ :: _, [], h => h.elim
def RowAt (K : PySem.W.Frag) (H : Hp) (a : Addr) (ps : List (Pc q)) : Prop := ∃ xs, SqT K H a xs ∧ PsAt K H xs ps
theorem RowAt.kept {H H' : Hp} {a : Addr} {ps : List (Pc q)} (kp : ∀ a xs, SqT K H a xs → SqT K H' a xs) (h : RowAt K H a ps) : RowAt K H' a ps := by
  obtain ⟨xs, h1, h2⟩ := h
  exact ⟨xs, kp _ _ h1, h2.kept kp⟩
theorem Stk.at {H : Hp} : ∀ {st : List (Option (El q) × Po q)} {ts bs : List V}, Stk K H st ts bs → ∀ {i : Nat}, i < st.length →
    ∃ o g a, st.drop (st.length - (i + 1)) = (o, g) :: st.drop (st.length - i) ∧ ts[i]? = some (ov o) ∧ bs[i]? = some (.ref a) ∧ SqT K H a (vns g)
  | [], _, _, _, i, hi => absurd hi (Nat.not_lt_zero i)
  | (o, g) :: r, _, _, ⟨ts', bs', a, e1, e2, hg, k⟩, i, hi => by
    subst e1
    subst e2
    obtain ⟨l1, l2⟩ := k.len
    rw [List.length_cons] at hi ⊢
    by_cases h : i = r.length
    · subst h
      refine ⟨o, g, a, ?_, ?_, ?_, hg⟩
      · rw [Nat.sub_self, show r.length + 1 - r.length = 1 by omega]
        rfl
      · rw [List.getElem?_append_right (by omega), l1, Nat.sub_self]
        rfl
      · rw [List.getElem?_append_right (by omega), l2, Nat.sub_self]
        rfl
    · obtain ⟨o', g', a', h1, h2, h3, h4⟩ := Stk.at k (i := i) (by omega)
      refine ⟨o', g', a', ?_, ?_, ?_, h4⟩
      · rw [show r.length + 1 - (i + 1) = (r.length - (i + 1)) + 1 by omega, show r.length + 1 - i = (r.length - i) + 1 by omega]
        exact h1
      · rw [List.getElem?_append_left (by omega)]
        exact h2
      · rw [List.getElem?_append_left (by omega)]
        exact h3
end
/-- a row of pieces, a list or a tuple -/
def RowE {q : Nat} [IsF q] (K : PySem.W.Frag) (H : Hp) (a : Addr) (ps : List (Pc q)) : Prop := ∃ xs, (SqL K H a xs ∨ SqT K H a xs) ∧ PsAt K H xs ps
theorem RowAt.e {q : Nat} [IsF q] {K : PySem.W.Frag} {H : Hp} {a : Addr} {ps : List (Pc q)} (h : RowAt K H a ps) : RowE K H a ps := by
  obtain ⟨xs, h1, h2⟩ := h
  exact ⟨xs, .inr h1, h2⟩
def spSR (K : PySem.W.Frag) : Sp := fun vs H Q _ => ∃ (q : Nat) (_ : IsF q) (c a : Addr) (z : Sta q) (ps : List (Pc q)), vs = [.int q, .ref c, .ref a] ∧ StepAt K H c z ∧ RowE K H a ps ∧ Okay z ∧ B7 z.st ∧ (∀ x ∈ ps, PcOk7 x) ∧ z.st.length + ps.length ≤ 900 ∧
  ∀ (r : Addr) (H' : Hp), Same H H' → H r = none → StepAt K H' r (run z ps) → Q (.ref r) H'
def spSBR (K : PySem.W.Frag) : Sp := fun vs H Q _ => ∃ (q : Nat) (_ : IsF q) (a : Addr) (ps : List (Pc q)), vs = [.int q, .ref a] ∧ RowAt K H a ps ∧ (∀ x ∈ ps, PcOk7 x) ∧ ps.length ≤ 900 ∧
  ∀ (r : Addr) (H' : Hp), Same H H' → H r = none → StepAt K H' r (run empty ps) → Q (.ref r) H'
def spRow (K : PySem.W.Frag) : Sp := fun vs H Q _ => ∃ (q : Nat) (_ : IsF q) (c : Addr) (z : Sta q), vs = [.ref c] ∧ StepAt K H c z ∧ z.st.length ≤ 900 ∧
  ∀ (r : Addr) (H' : Hp), Same H H' → H r = none → RowAt K H' r (rowOf z) → Q (.ref r) H'
def spPU (K : PySem.W.Frag) : Sp := fun vs H Q _ => ∃ (q : Nat) (_ : IsF q) (c : Addr) (x : Pc q), vs = [.int q, .ref c] ∧ PieceAt K H c x ∧ PcOk7 x ∧
  ∀ (r : Addr) (H' : Hp), Same H H' → H r = none → PieceAt K H' r (und x) → Q (.ref r) H'
def spRU (K : PySem.W.Frag) : Sp := fun vs H Q _ => ∃ (q : Nat) (_ : IsF q) (a : Addr) (ps : List (Pc q)), vs = [.int q, .ref a] ∧ RowAt K H a ps ∧ (∀ x ∈ ps, PcOk7 x) ∧ ps.length ≤ 900 ∧
  ∀ (r : Addr) (H' : Hp), Same H H' → H r = none → RowAt K H' r ((ps.map und).reverse) → Q (.ref r) H'
end BP
namespace BP
open PySem PySem.Spec PyProof.Rows L2 Fld
/-- the step nothing, as the top has written it -/
def nothIs (K : PySem.W.Frag) (p : Addr) : Bool := match K.lookup p with
  | some ⟨.type "tuple", none, .seq its _, _⟩ => decide (its.size ≤ sizeLine) && (match its.toList with
    | [.int i _, b, t, l] => decide (i = -1) && rowIs K b [] && rowIs K t [] && rowIs K l [1, 0, 0, 0, 1, 0]
    | _ => false)
  | _ => false
theorem noth_at {K : PySem.W.Frag} {p : Addr} (h : nothIs K p = true) : ∀ (H : Hp) (q : Nat) [IsF q], StepAt K H p (empty : Sta q) := by
  unfold nothIs at h
  split at h
  · rename_i its n sl e
    rw [Bool.and_eq_true, decide_eq_true_eq] at h
    obtain ⟨hz, h⟩ := h
    split at h
    · rename_i i tk b t l ei
      simp only [Bool.and_eq_true, decide_eq_true_eq] at h
      obtain ⟨⟨⟨e1, h2⟩, h3⟩, h4⟩ := h
      obtain ⟨pb, rfl, hb, _⟩ := row_is h2
      obtain ⟨pt, rfl, ht, _⟩ := row_is h3
      obtain ⟨pl, rfl, hl, _⟩ := row_is h4
      subst e1
      intro H q FF
      refine ⟨.int (-1), [], [], pt, pb, pl, .inr ⟨_, its, n, e, rfl, rfl, hz, ?_⟩, hb H, ht H, ?_, .inl ⟨rfl, rfl, rfl, rfl⟩⟩
      · rw [ei]
        exact .cons ⟨tk, rfl⟩ (.cons rfl (.cons rfl (.cons rfl .nil)))
      · have e : mv (Fld.same : Mat q) = [.int 1, .int 0, .int 0, .int 0, .int 1, .int 0] := by
          unfold mv Fld.same
          simp only []
          rw [vn_one, vn_zero]
        show SqT K _ pl (mv (Fld.same : Mat q))
        rw [e]
        exact hl H
    · cases h
  · cases h
end BP
namespace K13
open PySem PySem.Spec PyProof.Rows L2 BP Fld
section
variable {P : Program} {w : World} {K : PySem.W.Frag} {mg : Str → Option Value} {base : Heap}
end
end K13
set_option Elab.async false
set_option linter.all false
set_option maxRecDepth 100000
set_option maxHeartbeats 4000000
set_option pp.maxSteps 400
namespace BP
open PySem PySem.Spec PyProof.Rows L2 Fld
/-- a statement that is never reached -/
theorem ps_dead {X : Cx} {st : Stmt} : PS X st (fun _ _ _ => False) := ⟨fun _ _ _ _ _ _ h => h.elim⟩
theorem sqT_ty {K : PySem.W.Frag} {H : Hp} {a : Addr} {xs : List V} (h : SqT K H a xs) : TyX K H (.ref a) (.type "tuple") := by
  rcases h with (h | ⟨o, h⟩) | ⟨o, its, n, h, c, _⟩
  · exact .base (.tup h)
  · exact .fTuple h
  · exact .kTuple h c
theorem all_rep (n : Nat) : (List.replicate n true).all id = true := by
  induction n with
  | zero => rfl
  | succ n ih => exact ih
theorem rep_add (n : Nat) : (List.replicate n true).map V.bl ++ [V.bl true] = (List.replicate (n + 1) true).map V.bl := by
  rw [List.replicate_succ']
  rw [List.map_append]
  rfl
def spI1 : Sp := fun vs H Q _ => ∃ i : Int, vs = [.int i] ∧ Q (.bl true) H
def spIsN : Sp := fun vs H Q _ => ∃ (q : Nat) (_ : IsF q) (a : El q), vs = [.int q, vn a] ∧ Q (.bl true) H
def spAreN (K : PySem.W.Frag) : Sp := fun vs H Q _ => ∃ (q : Nat) (_ : IsF q) (a : Addr) (f : Po q), vs = [.int q, .ref a] ∧ SqT K H a (vns f) ∧ f.length ≤ 900 ∧ ∀ H', Same H H' → Q (.bl true) H'
def spIsPo (K : PySem.W.Frag) : Sp := fun vs H Q _ => ∃ (q : Nat) (_ : IsF q) (a : Addr) (f : Po q), vs = [.int q, .ref a] ∧ SqT K H a (vns f) ∧ f.length ≤ 900 ∧ trim f = f ∧ f ≠ [] ∧ ∀ H', Same H H' → Q (.bl true) H'
def spIsSt (K : PySem.W.Frag) : Sp := fun vs H Q _ => ∃ (q : Nat) (_ : IsF q) (a : Addr) (m : Mat q), vs = [.int q, .ref a] ∧ SqT K H a (mv m) ∧ det m ≠ 0 ∧ ∀ H', Same H H' → Q (.bl true) H'
def spIsBd (K : PySem.W.Frag) : Sp := fun vs H Q _ => ∃ (q : Nat) (_ : IsF q) (a : Addr) (f : Po q), vs = [.int q, .ref a] ∧ SqT K H a (vns f) ∧ IsB f ∧ f.length ≤ 7 ∧ ∀ H', Same H H' → Q (.bl true) H'
end BP
namespace K13
open PySem PySem.Spec PyProof.Rows L2 BP Fld
section
variable {P : Program} {w : World} {K : PySem.W.Frag} {mg : Str → Option Value} {base : Heap}
theorem ok_isint {f : Addr} {fd : FuncData} {k : Nat} (F : Fun K "is_integer" "is_integer" sIsInteger f fd) (m_int : mg "int" = none) (m_bool : mg "bool" = none) (m_isinstance : mg "isinstance" = none) : FnOk P w K mg base CX0 (k + 1) f fd pIsInteger spI1 := by
  refine F.ok scIsInteger (fun vs H Q E h => ?_) (fun cdv A outer s H vs Q E hr h => ?_)
  · obtain ⟨i, rfl, _⟩ := h
    rfl
  · obtain ⟨i, rfl, want⟩ := h
    refine ⟨_, (pss_one (ps_ret (pe_and (pe_callB call_isi (by rfl) m_isinstance (by decide +kernel) (pa_cons (pv 0) (pa_cons (pe_bltn (v := .ty "int") (by rfl) m_int (by decide +kernel) rfl) pa_nil))) (pe_one (pe_not (pe_callB call_isi (by rfl) m_isinstance (by decide +kernel) (pa_cons (pv 0) (pa_cons (pe_bltn (v := .ty "bool") (by rfl) m_bool (by decide +kernel) rfl) pa_nil)))))))), ?_⟩
    refine ⟨.int i, rfl, .int i, .ty "int", .type "int", .type "int", true, rfl, .ty _, .base (.int _), kit_ty (by decide +kernel), true, rfl, iteT ?_⟩
    exact ⟨.int i, rfl, .int i, .ty "bool", .type "int", .type "bool", false, rfl, .ty _, .base (.int _), kit_ty (by decide +kernel), false, rfl, want⟩
theorem ok_isnum {f fI : Addr} {fd fdI : FuncData} (F : Fun K "is_number" "is_number" sIsNumber f fd) (IS_INTEGER : BP.Can P w K mg base "is_integer" 1 pIsInteger spI1 fI fdI) : FnOk P w K mg base CX0 2 f fd pIsNumber spIsN := by
  refine F.ok scIsNumber (fun vs H Q E h => ?_) (fun cdv A outer s H vs Q E hr h => ?_)
  · obtain ⟨q, _, a, rfl, _⟩ := h
    rfl
  · obtain ⟨q, FF, a, rfl, want⟩ := h
    refine ⟨_, (pss_one (ps_ret (pe_and (pe_call IS_INTEGER.ok hr (by rfl) IS_INTEGER.g IS_INTEGER.kp IS_INTEGER.b .nil pass0 (pa_cons (pv 1) pa_nil)) (pe_one (pe_chain op_le op_lt pe_int (pv 1) (pv 0)))))), ?_⟩
    have lt := a.lt
    refine ⟨vn a, rfl, _, rfl, true, rfl, iteT ⟨vn a, rfl, 0, a.val, rfl, rfl, true, ?_, iteT ⟨.int q, rfl, a.val, q, rfl, rfl, ?_⟩⟩⟩
    · show V.bl (decide ((0 : Int) ≤ (a.val : Int))) = _
      rw [decide_eq_true (by omega)]
    · show Q (.bl (decide ((a.val : Int) < (q : Int)))) H
      rw [decide_eq_true (by omega)]
      exact want
theorem ok_aren {f fI : Addr} {fd fdI : FuncData} (F : Fun K "are_numbers" "are_numbers" sAreNumbers f fd) (IS_NUMBER : BP.Can P w K mg base "is_number" 2 pIsNumber spIsN fI fdI) (m_tuple : mg "tuple" = none) (m_all : mg "all" = none) (m_isinstance : mg "isinstance" = none) : FnOk P w K mg base CX0 3 f fd pAreNumbers (spAreN K) := by
  refine F.ok scAreNumbers (fun vs H Q E h => ?_) (fun cdv A outer s H vs Q E hr h => ?_)
  · obtain ⟨q, _, a, f, rfl, _⟩ := h
    rfl
  · obtain ⟨q, FF, a, f, rfl, ha, lf, want⟩ := h
    refine ⟨_, (pss_one (ps_ret (pe_and (pe_callB call_isi (by rfl) m_isinstance (by decide +kernel) (pa_cons (pv 1) (pa_cons (pe_bltn (v := .ty "tuple") (by rfl) m_tuple (by decide +kernel) rfl) pa_nil))) (pe_one (pe_callB (cr_all (by rfl)) (by rfl) m_all (by decide +kernel) (pa_cons (pe_lc (own := [("part", 2)]) (g := gName 2) (tt := tYes) rfl scAreNumbers.nd (pi_tup (pv 1)) (blkOk_by (N := nAreNumbers) (sc := defScope sAreNumbers) (by decide +kernel)) (fun _ _ _ _ _ => (pg_name (i := 2) scAreNumbers.nd rfl (.inl rfl))) (fun _ _ _ _ _ => pts_nil) (fun _ _ _ _ _ => (pe_call IS_NUMBER.ok hr (by rfl) IS_NUMBER.g IS_NUMBER.kp IS_NUMBER.b .nil pass0 (pa_cons (pv 0) (pa_cons (pv 2) pa_nil))))) pa_nil)))))), ?_⟩
    refine ⟨.ref a, rfl, .ref a, .ty "tuple", .type "tuple", .type "tuple", true, rfl, .ty _, sqT_ty ha, kit_ty (by decide +kernel), true, rfl, iteT ?_⟩
    refine ⟨.ref a, rfl, a, rfl, ⟨_, ha⟩, fun D nD => ?_⟩
    refine lc_tup (K := K) (a := a) (xs := vns f) (fun i H' => Same H H' ∧ H' D = some (.lst ((List.replicate i true).map V.bl))) ⟨same_new nD, upd_same⟩ (fun i H' _ hW => BP.Same.tupS hW.1 ha) (fun i x H' hx hW => ?_) (fun H' hW => ?_)
    · obtain ⟨s1, hD⟩ := hW
      obtain ⟨hi, rfl⟩ := of_vns hx
      refine ⟨rfl, yes_kept ?_⟩
      refine ⟨.int q, rfl, vn (co f i), rfl, q, FF, co f i, rfl, _, hD, ?_, fun b x e => ?_, ?_⟩
      · rw [List.length_map, List.length_replicate]
        exact small1000 (by omega)
      · rw [upd_ne (ne_of_none e nD)]
        exact s1 b x e
      · rw [upd_same, rep_add]
    · obtain ⟨s1, hD⟩ := hW
      refine ⟨D, _, rfl, .inl (.inl hD), ?_⟩
      rw [all_rep]
      exact want H' s1
theorem ok_ispo {f fI : Addr} {fd fdI : FuncData} (F : Fun K "is_one_letter" "is_one_letter" sIsOneLetter f fd) (ARE_NUMBERS : BP.Can P w K mg base "are_numbers" 3 pAreNumbers (spAreN K) fI fdI) (m_len : mg "len" = none) : FnOk P w K mg base CX0 4 f fd pIsOneLetter (spIsPo K) := by
  refine F.ok scIsOneLetter (fun vs H Q E h => ?_) (fun cdv A outer s H vs Q E hr h => ?_)
  · obtain ⟨q, _, a, f, rfl, _⟩ := h
    rfl
  · obtain ⟨q, FF, a, f, rfl, ha, lf, tf, nf, want⟩ := h
    refine ⟨_, (pss_one (ps_ret (pe_and (pe_call ARE_NUMBERS.ok hr (by rfl) ARE_NUMBERS.g ARE_NUMBERS.kp ARE_NUMBERS.b .nil pass0 (pa_cons (pv 0) (pa_cons (pv 1) pa_nil))) (pe_one (pe_or (pe_cmpR op_eq (pe_callB call_len_seq (by rfl) m_len PySem.boot_len (pa_cons (pv 1) pa_nil)) pe_int (nomark _)) (pe_one (pe_cmpR op_ne (pe_ix ix_tup (pv 1) (pe_un un_neg pe_int) (fun _ _ => rfl)) pe_int (nomark _)))))))), ?_⟩
    obtain ⟨n, hn⟩ : ∃ n, f.length = n + 1 := by
      cases e : f.length with
      | zero => exact absurd (List.eq_nil_of_length_eq_zero e) nf
      | succ n => exact ⟨n, rfl⟩
    have top := top_of_trim tf hn
    refine ⟨.int q, rfl, .ref a, rfl, q, FF, a, f, rfl, ha, lf, fun H1 s1 => ⟨true, rfl, iteT ?_⟩⟩
    have ha1 := BP.Same.tupS s1 ha
    refine ⟨.ref a, rfl, a, _, rfl, .inr ha1, rfl, false, ?_, iteF ?_⟩
    · show V.bl (decide (V.int ((vns f).length : Nat) = V.int 0)) = _
      rw [decide_eq_false]
      rw [List.length_map, hn]
      exact fun z => absurd (V.int.inj z) (by omega)
    · refine ⟨.ref a, rfl, 1, rfl, a, _, -1, vn (co f n), rfl, rfl, ha1, ?_, rfl, ?_⟩
      · unfold atI
        rw [List.length_map, hn]
        have e : ixN (n + 1) (-1) = some n := by
          unfold ixN
          rw [if_neg (by decide), if_pos (by omega)]
          congr 1
          omega
        rw [e]
        exact vns_get (by omega)
      · rw [decide_eq_false (show ¬ vn (co f n) = V.int 0 from fun z => top (vn_inj (by rw [vn_zero]; exact z)))]
        exact want H1 s1
theorem ok_isst {f fI fD : Addr} {fd fdI fdD : FuncData} (F : Fun K "is_straight" "is_straight" sIsStraight f fd) (ARE_NUMBERS : BP.Can P w K mg base "are_numbers" 3 pAreNumbers (spAreN K) fI fdI) (STRAIGHT_DETERMINANT : BP.Can P w K mg base "straight_determinant" 3 pStraightDeterminant (spDet K) fD fdD) (m_len : mg "len" = none) : FnOk P w K mg base CX0 4 f fd pIsStraight (spIsSt K) := by
  refine F.ok scIsStraight (fun vs H Q E h => ?_) (fun cdv A outer s H vs Q E hr h => ?_)
  · obtain ⟨q, _, a, m, rfl, _⟩ := h
    rfl
  · obtain ⟨q, FF, a, m, rfl, ha, dm, want⟩ := h
    refine ⟨_, (pss_one (ps_ret (pe_and (pe_call ARE_NUMBERS.ok hr (by rfl) ARE_NUMBERS.g ARE_NUMBERS.kp ARE_NUMBERS.b .nil pass0 (pa_cons (pv 0) (pa_cons (pv 1) pa_nil))) (pe_and (pe_cmpR op_eq (pe_callB call_len_seq (by rfl) m_len PySem.boot_len (pa_cons (pv 1) pa_nil)) pe_int (nomark _)) (pe_one (pe_cmpR op_ne (pe_call STRAIGHT_DETERMINANT.ok hr (by rfl) STRAIGHT_DETERMINANT.g STRAIGHT_DETERMINANT.kp STRAIGHT_DETERMINANT.b .nil pass0 (pa_cons (pv 0) (pa_cons (pv 1) pa_nil))) pe_int (nomark _))))))), ?_⟩
    refine ⟨.int q, rfl, .ref a, rfl, q, FF, a, [m.a, m.b, m.c, m.d, m.e, m.f], rfl, ha, (by show 6 ≤ 900; decide), fun H1 s1 => ⟨true, rfl, iteT ?_⟩⟩
    have ha1 := BP.Same.tupS s1 ha
    refine ⟨.ref a, rfl, a, _, rfl, .inr ha1, rfl, true, rfl, iteT ?_⟩
    refine ⟨.int q, rfl, .ref a, rfl, q, FF, a, m, rfl, ha1, rfl, ?_⟩
    rw [decide_eq_false (show ¬ vn (det m) = V.int 0 from fun z => dm (vn_inj (by rw [vn_zero]; exact z)))]
    exact want H1 s1
theorem ok_isbd {f fI : Addr} {fd fdI : FuncData} (F : Fun K "is_bend" "is_bend" sIsBend f fd) (IS_ONE_LETTER : BP.Can P w K mg base "is_one_letter" 4 pIsOneLetter (spIsPo K) fI fdI) (m_len : mg "len" = none) : FnOk P w K mg base CX0 5 f fd pIsBend (spIsBd K) := by
  refine F.ok scIsBend (fun vs H Q E h => ?_) (fun cdv A outer s H vs Q E hr h => ?_)
  · obtain ⟨q, _, a, f, rfl, _⟩ := h
    rfl
  · obtain ⟨q, FF, a, f, rfl, ha, bf, l7, want⟩ := h
    refine ⟨_, (pss_one (ps_ret (pe_and (pe_call IS_ONE_LETTER.ok hr (by rfl) IS_ONE_LETTER.g IS_ONE_LETTER.kp IS_ONE_LETTER.b .nil pass0 (pa_cons (pv 0) (pa_cons (pv 1) pa_nil))) (pe_and (pe_chain op_le op_le pe_int (pe_callB call_len_seq (by rfl) m_len PySem.boot_len (pa_cons (pv 1) pa_nil)) pe_int) (pe_and (pe_cmpR op_eq (pe_ix ix_tup (pv 1) pe_int (fun _ _ => rfl)) pe_int (nomark _)) (pe_one (pe_cmpR op_eq (pe_ix ix_tup (pv 1) pe_int (fun _ _ => rfl)) pe_int (nomark _)))))))), ?_⟩
    obtain ⟨n, hn, top⟩ := bf.top
    obtain ⟨⟨b1, b2, b3⟩, b4⟩ := bf
    refine ⟨.int q, rfl, .ref a, rfl, q, FF, a, f, rfl, ha, by omega, b1, b4, fun H1 s1 => ⟨true, rfl, iteT ?_⟩⟩
    have ha1 := BP.Same.tupS s1 ha
    have z0 : vn (co f 0) = V.int 0 := by rw [b2]; exact vn_zero
    have z1 : vn (co f 1) = V.int 0 := by rw [b3]; exact vn_zero
    refine ⟨.ref a, rfl, a, _, rfl, .inr ha1, 3, ((vns f).length : Nat), rfl, rfl, true, ?_, iteT ⟨((vns f).length : Nat), 7, rfl, rfl, true, ?_, iteT ?_⟩⟩
    · rw [List.length_map, hn]
      show V.bl (decide ((3 : Int) ≤ ((n + 3 : Nat) : Int))) = _
      rw [decide_eq_true (by omega)]
    · rw [List.length_map]
      show V.bl (decide ((f.length : Int) ≤ 7)) = _
      rw [decide_eq_true (by omega)]
    · refine ⟨.ref a, rfl, a, _, 0, vn (co f 0), rfl, rfl, ha1, atI_nat (j := 0) (vns_get (l := f) (k := 0) (by omega)), ?_⟩
      rw [z0]
      refine ⟨rfl, true, rfl, iteT ?_⟩
      refine ⟨.ref a, rfl, a, _, 1, vn (co f 1), rfl, rfl, ha1, atI_nat (j := 1) (vns_get (l := f) (k := 1) (by omega)), ?_⟩
      rw [z1]
      exact ⟨rfl, want H1 s1⟩
end
end K13
set_option Elab.async false
set_option linter.all false
set_option maxRecDepth 100000
set_option maxHeartbeats 4000000
set_option pp.maxSteps 400
namespace Fld
variable {q : Nat} [F : IsF q]
theorem good_all : ∀ {st : List (Option (El q) × Po q)}, Good st → ∀ x ∈ st, IsB x.2
  | [], _, _, h => by cases h
  | (t, g) :: r, ⟨h1, _, h3⟩, x, h => by
    rcases List.mem_cons.mp h with e | e
    · rw [e]
      exact h1
    · exact good_all h3 x e
theorem rowSt_ok7 : ∀ {st : List (Option (El q) × Po q)}, (∀ x ∈ st, IsB x.2) → B7 st → ∀ p ∈ rowSt st, PcOk7 p
  | [], _, _, p, h => by cases h
  | (t, g) :: r, h1, h2, p, h => by
    rw [rowSt_cons] at h
    rcases List.mem_append.mp h with h | h
    · rcases List.mem_append.mp h with h | h
      · exact rowSt_ok7 (fun x hx => h1 x (List.mem_cons_of_mem _ hx)) (fun x hx => h2 x (List.mem_cons_of_mem _ hx)) p h
      · cases t with
        | none => cases h
        | some c =>
          rw [List.mem_singleton.mp h]
          exact det_turn c
    · rw [List.mem_singleton.mp h]
      exact ⟨h1 (t, g) (List.mem_cons_self ..), h2 (t, g) (List.mem_cons_self ..)⟩
theorem rowOf_ok7 {z : Sta q} (h : Okay z) (b : B7 z.st) : ∀ p ∈ rowOf z, PcOk7 p := by
  intro p hp
  rcases List.mem_append.mp hp with e | e
  · exact rowSt_ok7 (good_all h.1) b p e
  · rw [List.mem_singleton.mp e]
    exact h.2
theorem rowSt_len : ∀ st : List (Option (El q) × Po q), (rowSt st).length ≤ 2 * st.length
  | [] => Nat.le_refl _
  | (t, g) :: r => by
    have := rowSt_len r
    rw [rowSt_cons, List.length_append, List.length_append]
    cases t with
    | none =>
      show (rowSt r).length + 0 + 1 ≤ 2 * (r.length + 1)
      omega
    | some c =>
      show (rowSt r).length + 1 + 1 ≤ 2 * (r.length + 1)
      omega
theorem rowOf_len (z : Sta q) : (rowOf z).length ≤ 2 * z.st.length + 1 := by
  have := rowSt_len z.st
  unfold rowOf
  rw [List.length_append]
  show (rowSt z.st).length + 1 ≤ _
  omega
/-- what a row does with a point -/
def mvp : El q × El q → Pc q → El q × El q
  | (x, y), .mat m => (m.a * x + m.b * y + m.c, m.d * x + m.e * y + m.f)
  | (x, y), .bd f => (x + ev y f, y)
def go (l : List (Pc q)) (p : El q × El q) : El q × El q := l.foldl mvp p
theorem go_take {ps : List (Pc q)} {p : El q × El q} {i : Nat} {x : Pc q} (h : ps[i]? = some x) : go (ps.take (i + 1)) p = mvp (go (ps.take i) p) x := by
  unfold go
  rw [List.take_add_one, h, List.foldl_append]
  rfl
theorem neg_ne {x : El q} (h : x ≠ 0) : -x ≠ 0 := fun z => h (by grind)
/-- the undone pieces are pieces again -/
theorem det_mund {m : Mat q} (h : det m ≠ 0) : det (mund m) ≠ 0 := by
  intro z
  have e : det (thn m (mund m)) = det m * det (mund m) := det_thn _ _
  rw [thn_mund h, z] at e
  exact det_same (q := q) (by rw [e]; grind)
theorem sc_len (f : Po q) (c : El q) : (sc f c).length ≤ f.length := by
  unfold sc
  exact Nat.le_trans (trim_len _) (by rw [List.length_map]; exact Nat.le_refl _)
theorem und_ok7 : ∀ {p : Pc q}, PcOk7 p → PcOk7 (und p)
  | .mat _, h => det_mund h
  | .bd f, ⟨⟨⟨h1, h2, h3⟩, h4⟩, h5⟩ => by
    refine ⟨⟨⟨trim_trim _, ?_, ?_⟩, fun z => h4 ?_⟩, Nat.le_trans (sc_len f _) h5⟩
    · rw [co_sc, h2]
      grind
    · rw [co_sc, h3]
      grind
    · refine nil_of_co h1 fun i => ?_
      have e : co (sc f (-1)) i = 0 := by
        rw [z]
        rfl
      rw [co_sc] at e
      grind
theorem und_row_ok7 {ps : List (Pc q)} (h : ∀ p ∈ ps, PcOk7 p) : ∀ p ∈ (ps.map und).reverse, PcOk7 p := by
  intro p hp
  obtain ⟨x, hx, rfl⟩ := List.mem_map.mp (List.mem_reverse.mp hp)
  exact und_ok7 (h x hx)
end Fld
namespace BP
open PySem PySem.Spec PyProof.Rows L2 Fld
/-- a step that is one -/
def Fit {q : Nat} [IsF q] (z : Sta q) : Prop := Okay z ∧ B7 z.st ∧ z.st.length ≤ 200
def spIsPc (K : PySem.W.Frag) : Sp := fun vs H Q _ => ∃ (q : Nat) (_ : IsF q) (c : Addr) (x : Pc q), vs = [.int q, .ref c] ∧ PieceAt K H c x ∧ PcOk7 x ∧ ∀ H', Same H H' → Q (.bl true) H'
def spLookR (K : PySem.W.Frag) : Sp := fun vs H Q _ => ∃ (q : Nat) (_ : IsF q) (a : Addr) (ps : List (Pc q)), vs = [.int q, .ref a] ∧ RowAt K H a ps ∧ (∀ x ∈ ps, PcOk7 x) ∧ ∀ H', Same H H' → Q .non H'
def spIsSp (K : PySem.W.Frag) : Sp := fun vs H Q _ => ∃ (q : Nat) (_ : IsF q) (c : Addr) (z : Sta q), vs = [.int q, .ref c] ∧ StepAt K H c z ∧ Fit z ∧ ∀ H', Same H H' → Q (.bl true) H'
def spLookS (K : PySem.W.Frag) : Sp := fun vs H Q _ => ∃ (q : Nat) (_ : IsF q) (a : Addr) (cs : List Addr), vs = [.int q, .ref a] ∧ SqL K H a (cs.map V.ref) ∧ (∀ c ∈ cs, ∃ z : Sta q, StepAt K H c z ∧ Fit z) ∧ ∀ H', Same H H' → Q .non H'
def spNo (K : PySem.W.Frag) : Sp := fun vs H Q _ => vs = [] ∧ ∀ (r : Addr) (H' : Hp), Same H H' → (∀ (q : Nat) [IsF q], StepAt K H' r (empty : Sta q)) → Q (.ref r) H'
def spRowOf (K : PySem.W.Frag) : Sp := fun vs H Q _ => ∃ (q : Nat) (_ : IsF q) (c : Addr) (z : Sta q), vs = [.int q, .ref c] ∧ StepAt K H c z ∧ Fit z ∧ ∀ (r : Addr) (H' : Hp), Same H H' → H r = none → RowAt K H' r (rowOf z) → Q (.ref r) H'
def spProd (K : PySem.W.Frag) : Sp := fun vs H Q _ => ∃ (q : Nat) (_ : IsF q) (c d : Addr) (y z : Sta q), vs = [.int q, .ref c, .ref d] ∧ StepAt K H c y ∧ Fit y ∧ StepAt K H d z ∧ Fit z ∧
  ∀ (r : Addr) (H' : Hp), Same H H' → H r = none → StepAt K H' r (run y (rowOf z)) → Q (.ref r) H'
def spUndo (K : PySem.W.Frag) : Sp := fun vs H Q _ => ∃ (q : Nat) (_ : IsF q) (c : Addr) (z : Sta q), vs = [.int q, .ref c] ∧ StepAt K H c z ∧ Fit z ∧
  ∀ (r : Addr) (H' : Hp), Same H H' → H r = none → StepAt K H' r (run empty (((rowOf z).map und).reverse)) → Q (.ref r) H'
def spPtRow (K : PySem.W.Frag) : Sp := fun vs H Q _ => ∃ (q : Nat) (_ : IsF q) (t a : Addr) (x y : El q) (ps : List (Pc q)), vs = [.int q, .ref t, .ref a] ∧ SqT K H t [vn x, vn y] ∧ RowAt K H a ps ∧
  ∀ (r : Addr) (H' : Hp), Same H H' → SqT K H' r [vn (go ps (x, y)).1, vn (go ps (x, y)).2] → Q (.ref r) H'
def spPtAft (K : PySem.W.Frag) : Sp := fun vs H Q _ => ∃ (q : Nat) (_ : IsF q) (c t : Addr) (x y : El q) (z : Sta q), vs = [.int q, .ref c, .ref t] ∧ StepAt K H c z ∧ Fit z ∧ SqT K H t [vn x, vn y] ∧
  ∀ (r : Addr) (H' : Hp), Same H H' → SqT K H' r [vn (go (rowOf z) (x, y)).1, vn (go (rowOf z) (x, y)).2] → Q (.ref r) H'
/-- the bends of a step, one by one -/
theorem Stk.bend {q : Nat} [IsF q] {K : PySem.W.Frag} {H : Hp} : ∀ {st : List (Option (El q) × Po q)} {ts bs : List V}, Stk K H st ts bs → ∀ {i : Nat} {v : V}, bs[i]? = some v → ∃ (a : Addr) (x : Option (El q) × Po q), v = .ref a ∧ x ∈ st ∧ SqT K H a (vns x.2)
  | [], _, _, ⟨_, e⟩, i, v, h => by
    subst e
    cases h
  | (o, g) :: r, _, _, ⟨ts', bs', a, e1, e2, hg, k⟩, i, v, h => by
    subst e2
    by_cases hi : i < bs'.length
    · rw [List.getElem?_append_left hi] at h
      obtain ⟨a', x, e, m, s⟩ := Stk.bend k h
      exact ⟨a', x, e, List.mem_cons_of_mem _ m, s⟩
    · rw [List.getElem?_append_right (by omega)] at h
      cases e : i - bs'.length with
      | zero =>
        rw [e] at h
        cases h
        exact ⟨a, (o, g), rfl, List.mem_cons_self .., hg⟩
      | succ n =>
        rw [e] at h
        cases h
/-- the turns of a step are numbers -/
theorem Stk.turns {q : Nat} [IsF q] {K : PySem.W.Frag} {H : Hp} : ∀ {st : List (Option (El q) × Po q)} {ts bs : List V}, Good st → Stk K H st ts bs → ∀ {y : V} {tt : List V}, ts = y :: tt → ∃ f : Po q, tt = vns f
  | [], _, _, _, ⟨e, _⟩, y, tt, h => by
    rw [e] at h
    cases h
  | (o, g) :: r, _, _, ⟨_, g2, g3⟩, ⟨ts', bs', a, e1, e2, hg, k⟩, y, tt, h => by
    cases e : ts' with
    | nil =>
      rw [e1, e] at h
      cases h
      exact ⟨[], rfl⟩
    | cons z zz =>
      obtain ⟨f, hf⟩ := Stk.turns g3 k e
      rw [e1, e] at h
      obtain ⟨rfl, h2⟩ := List.cons.inj h
      have rn : r ≠ [] := fun z0 => by
        have := k.len.1
        rw [z0, e] at this
        cases this
      cases o with
      | none => exact absurd rfl (g2 rn)
      | some c =>
        refine ⟨f ++ [c], ?_⟩
        rw [← h2, hf]
        unfold vns
        rw [List.map_append]
        rfl
/-- the first turn is none or a number -/
theorem Stk.first {q : Nat} [IsF q] {K : PySem.W.Frag} {H : Hp} : ∀ {st : List (Option (El q) × Po q)} {ts bs : List V}, Stk K H st ts bs → ∀ {y : V} {tt : List V}, ts = y :: tt → ∃ o : Option (El q), y = ov o
  | [], _, _, ⟨e, _⟩, y, tt, h => by
    rw [e] at h
    cases h
  | (o, g) :: r, _, _, ⟨ts', bs', a, e1, e2, hg, k⟩, y, tt, h => by
    cases e : ts' with
    | nil =>
      rw [e1, e] at h
      cases h
      exact ⟨o, rfl⟩
    | cons z zz =>
      rw [e1, e] at h
      obtain ⟨rfl, _⟩ := List.cons.inj h
      exact Stk.first k e
end BP
namespace K13
open PySem PySem.Spec PyProof.Rows L2 BP Fld
section
variable {P : Program} {w : World} {K : PySem.W.Frag} {mg : Str → Option Value} {base : Heap}
theorem ok_issp {f fI fB fN fS : Addr} {fd fdI fdB fdN fdS : FuncData} {tk : Tok} (F : Fun K "is_step" "is_step" sIsStep f fd) (IS_INTEGER : BP.Can P w K mg base "is_integer" 1 pIsInteger spI1 fI fdI) (IS_BEND : BP.Can P w K mg base "is_bend" 5 pIsBend (spIsBd K) fB fdB)
    (ARE_NUMBERS : BP.Can P w K mg base "are_numbers" 3 pAreNumbers (spAreN K) fN fdN) (IS_STRAIGHT : BP.Can P w K mg base "is_straight" 4 pIsStraight (spIsSt K) fS fdS) (gNT : mg "NO_TURN" = some (.int (-1) tk)) (m_len : mg "len" = none) (m_tuple : mg "tuple" = none) (m_isinstance : mg "isinstance" = none) (m_all : mg "all" = none) (m_max : mg "max" = none) :
    FnOk P w K mg base CX0 6 f fd pIsStep (spIsSp K) := by
  refine F.ok scIsStep (fun vs H Q E h => ?_) (fun cdv A outer s H vs Q E hr h => ?_)
  · obtain ⟨q, _, c, z, rfl, _⟩ := h
    rfl
  · obtain ⟨q, FF, c, z, rfl, ⟨start, ts, bs, t, b, l, hc, hb, ht, hl, cs⟩, ⟨ok, b7, l2⟩, want⟩ := h
    have hr1 := hr.mono (show 1 ≤ 5 by decide)
    have hr3 := hr.mono (show 3 ≤ 5 by decide)
    have hr4 := hr.mono (show 4 ≤ 5 by decide)
    obtain ⟨fo, hfo⟩ : ∃ o : Option (El q), start = ov o := by
      rcases cs with ⟨_, e, _, _⟩ | ⟨_, k⟩
      · exact ⟨none, e⟩
      · exact k.first rfl
    obtain ⟨ft, hft⟩ : ∃ f : Po q, ts = vns f := by
      rcases cs with ⟨_, _, e, _⟩ | ⟨_, k⟩
      · exact ⟨[], e⟩
      · exact k.turns ok.1 rfl
    have lb : bs.length = z.st.length := by
      rcases cs with ⟨e, _, _, e2⟩ | ⟨_, k⟩
      · rw [e, e2]
        rfl
      · exact k.len.2
    have lt : ft.length = bs.length - 1 := by
      have e0 : ts.length = ft.length := by rw [hft, List.length_map]
      rcases cs with ⟨_, _, e1, e2⟩ | ⟨_, k⟩
      · rw [← e0, e1, e2]
        rfl
      · have := k.len.1
        rw [List.length_cons] at this
        omega
    have hbend : ∀ {i : Nat} {v : V}, bs[i]? = some v → ∃ (a : Addr) (f : Po q), v = .ref a ∧ IsB f ∧ f.length ≤ 7 ∧ SqT K H a (vns f) := by
      intro i v hi
      rcases cs with ⟨_, _, _, e2⟩ | ⟨_, k⟩
      · rw [e2] at hi
        cases hi
      · obtain ⟨a, x, e, m, s⟩ := k.bend hi
        exact ⟨a, x.2, e, good_all ok.1 x m, b7 x m, s⟩
    have hz : bs.length = 0 → start = .int (-1) := by
      intro h0
      rcases cs with ⟨_, e, _, _⟩ | ⟨ne, k⟩
      · exact e
      · exact absurd (List.eq_nil_of_length_eq_zero (by rw [← lb]; exact h0)) ne
    obtain ⟨si, hsi, si1, si2⟩ : ∃ i : Int, start = .int i ∧ -1 ≤ i ∧ i < (q : Int) := by
      cases fo with
      | none => exact ⟨-1, hfo, by omega, by omega⟩
      | some x => exact ⟨(x.val : Nat), hfo, by omega, by have := x.lt; omega⟩
    subst hft
    subst hsi
    refine ⟨_, (pss_cons (ps_if (PW.pt (pw_or (pt_not (pt_val (pe_callB call_isi (by rfl) m_isinstance (by decide +kernel) (pa_cons (pv 1) (pa_cons (pe_bltn (v := .ty "tuple") (by rfl) m_tuple (by decide +kernel) rfl) pa_nil))))) (pw_or1 (pt_cmpR op_ne (pe_callB call_len_seq (by rfl) m_len PySem.boot_len (pa_cons (pv 1) pa_nil)) pe_int (nomark _))))) (pss_one (ps_ret pe_bl)) pss_nil)
      (pss_cons (ps_asg (pv 1) (pg_tup rfl (pgs_cons (pg_name (i := 2) scIsStep.nd rfl (.inl rfl)) (pgs_cons (pg_name (i := 3) scIsStep.nd rfl (.inl rfl)) (pgs_cons (pg_name (i := 4) scIsStep.nd rfl (.inl rfl)) (pgs_cons (pg_name (i := 5) scIsStep.nd rfl (.inl rfl)) pgs_nil))))))
      (pss_cons (ps_if (PW.pt (pw_or (pt_not (pt_val (pe_call IS_INTEGER.ok hr1 (by rfl) IS_INTEGER.g IS_INTEGER.kp IS_INTEGER.b .nil pass0 (pa_cons (pv 2) pa_nil)))) (pw_or1 (pt_not (pt_chain op_le op_lt (pe_glob (v := .int (-1)) rfl gNT ⟨_, rfl⟩) (pv 2) (pv 0)))))) (pss_one (ps_ret pe_bl)) pss_nil)
      (pss_cons (ps_if (PW.pt (pw_or (pt_not (pt_val (pe_callB call_isi (by rfl) m_isinstance (by decide +kernel) (pa_cons (pv 3) (pa_cons (pe_bltn (v := .ty "tuple") (by rfl) m_tuple (by decide +kernel) rfl) pa_nil))))) (pw_or1 (pt_not (pt_val (pe_callB (cr_all (by rfl)) (by rfl) m_all (by decide +kernel) (pa_cons (pe_lc (own := [("bend", 6)]) (g := gName 6) (tt := tYes) rfl scIsStep.nd (pi_tup (pv 3)) (blkOk_by (N := nIsStep) (sc := defScope sIsStep) (by decide +kernel)) (fun _ _ _ _ _ => (pg_name (i := 6) scIsStep.nd rfl (.inl rfl))) (fun _ _ _ _ _ => pts_nil) (fun _ _ _ _ _ => (pe_call IS_BEND.ok hr (by rfl) IS_BEND.g IS_BEND.kp IS_BEND.b .nil pass0 (pa_cons (pv 0) (pa_cons (pv 6) pa_nil))))) pa_nil))))))) (pss_one (ps_ret pe_bl)) pss_nil)
      (pss_cons (ps_if (PW.pt (pw_and (pt_cmpR op_eq (pe_callB call_len_seq (by rfl) m_len PySem.boot_len (pa_cons (pv 3) pa_nil)) pe_int (nomark _)) (pw_and1 (pt_cmpR op_ne (pv 2) (pe_glob (v := .int (-1)) rfl gNT ⟨_, rfl⟩) (nomark _))))) (pss_one (ps_ret pe_bl)) pss_nil)
      (pss_one (ps_ret (pe_and (pe_call ARE_NUMBERS.ok hr3 (by rfl) ARE_NUMBERS.g ARE_NUMBERS.kp ARE_NUMBERS.b .nil pass0 (pa_cons (pv 0) (pa_cons (pv 4) pa_nil))) (pe_and (pe_cmpR op_eq (pe_callB call_len_seq (by rfl) m_len PySem.boot_len (pa_cons (pv 4) pa_nil)) (pe_callB (call_max2 rfl) (by rfl) m_max (by decide +kernel) (pa_cons (pe_op op_sub (pe_callB call_len_seq (by rfl) m_len PySem.boot_len (pa_cons (pv 3) pa_nil)) pe_int) (pa_cons pe_int pa_nil))) (nomark _)) (pe_one (pe_call IS_STRAIGHT.ok hr4 (by rfl) IS_STRAIGHT.g IS_STRAIGHT.kp IS_STRAIGHT.b .nil pass0 (pa_cons (pv 0) (pa_cons (pv 5) pa_nil))))))))))))), ?_⟩
    refine ⟨.ref c, rfl, .ref c, .ty "tuple", .type "tuple", .type "tuple", true, rfl, .ty _, sqT_ty hc, kit_ty (by decide +kernel), true, rfl, iteF ?_⟩
    refine ⟨.ref c, rfl, c, _, rfl, .inr hc, rfl, _, rfl, iteF ?_⟩
    refine ⟨.ref c, rfl, c, _, rfl, hc, rfl, _, [_, _, _], rfl, _, [_, _], rfl, _, [_], rfl, _, [], rfl, rfl, ?_⟩
    -- start
    refine ⟨.int si, rfl, si, rfl, true, rfl, iteF ?_⟩
    refine ⟨.int si, rfl, -1, si, rfl, rfl, true, ?_, iteT ⟨.int q, rfl, si, q, rfl, rfl, ?_⟩⟩
    · show V.bl (decide ((-1 : Int) ≤ si)) = _
      rw [decide_eq_true (by omega)]
    refine ⟨true, ?_, iteF ?_⟩
    · show V.bl (decide (si < (q : Int))) = _
      rw [decide_eq_true (by omega)]
    -- bends
    refine ⟨.ref b, rfl, .ref b, .ty "tuple", .type "tuple", .type "tuple", true, rfl, .ty _, sqT_ty hb, kit_ty (by decide +kernel), true, rfl, iteF ?_⟩
    refine ⟨.ref b, rfl, b, rfl, ⟨_, hb⟩, fun D nD => ?_⟩
    refine lc_tup (K := K) (a := b) (xs := bs) (fun i H' => Same H H' ∧ H' D = some (.lst ((List.replicate i true).map V.bl))) ⟨same_new nD, upd_same⟩ (fun i H' _ hW => BP.Same.tupS hW.1 hb) (fun i x H' hx hW => ?_) (fun H' hW => ?_)
    · obtain ⟨s1, hD⟩ := hW
      obtain ⟨a, f, rfl, f1, f2, f3⟩ := hbend hx
      have hi : i < bs.length := (List.getElem?_eq_some_iff.mp hx).1
      refine ⟨rfl, yes_kept ?_⟩
      refine ⟨.int q, rfl, .ref a, rfl, q, FF, a, f, rfl, BP.Same.tupS s1 f3, f1, f2, fun H3 s3 => ⟨_, s3 _ _ hD, ?_, fun b x e => ?_, ?_⟩⟩
      · rw [List.length_map, List.length_replicate]
        exact small1000 (by omega)
      · rw [upd_ne (ne_of_none e nD)]
        exact s3 _ _ (s1 b x e)
      · rw [upd_same, rep_add]
    · obtain ⟨s1, hD⟩ := hW
      refine ⟨D, _, rfl, .inl (.inl hD), true, by rw [all_rep], iteF ?_⟩
      have hb1 := BP.Same.tupS s1 hb
      refine ⟨.ref b, rfl, b, _, rfl, .inr hb1, rfl, _, rfl, ?_⟩
      refine ite2 (fun h0 => ?_) (fun h0 => iteF ?_)
      · have e0 : bs.length = 0 := by
          have := V.int.inj (of_decide_eq_true h0)
          omega
        have e1 : si = -1 := V.int.inj (hz e0)
        refine ⟨.int si, rfl, rfl, false, ?_, iteF ?_⟩
        · rw [decide_eq_true (show V.int si = V.int (-1) by rw [e1])]
          rfl
        · have ht1 := BP.Same.tupS s1 ht
          refine ⟨.int q, rfl, .ref t, rfl, q, FF, t, ft, rfl, ht1, by omega, fun H3 s3 => ⟨true, rfl, iteT ?_⟩⟩
          refine ⟨.ref t, rfl, t, _, rfl, .inr (BP.Same.tupS s3 ht1), .ref b, rfl, b, _, rfl, .inr (BP.Same.tupS s3 hb1), _, 1, rfl, rfl, _, _, rfl, rfl, true, ?_, iteT ⟨.int q, rfl, .ref l, rfl, q, FF, l, z.last, rfl, BP.Same.tupS (s1.trans s3) hl, ok.2, fun H4 s4 => want H4 ((s1.trans s3).trans s4)⟩⟩
          show V.bl (decide (V.int ((vns ft).length : Nat) = V.int (if (0 : Int) > ((bs.length : Nat) : Int) - 1 then 0 else ((bs.length : Nat) : Int) - 1))) = _
          rw [decide_eq_true]
          rw [List.length_map]
          by_cases h : (0 : Int) > ((bs.length : Nat) : Int) - 1
          · rw [if_pos h]
            congr 1
            omega
          · rw [if_neg h]
            congr 1
            omega
      · have ht1 := BP.Same.tupS s1 ht
        refine ⟨.int q, rfl, .ref t, rfl, q, FF, t, ft, rfl, ht1, by omega, fun H3 s3 => ⟨true, rfl, iteT ?_⟩⟩
        refine ⟨.ref t, rfl, t, _, rfl, .inr (BP.Same.tupS s3 ht1), .ref b, rfl, b, _, rfl, .inr (BP.Same.tupS s3 hb1), _, 1, rfl, rfl, _, _, rfl, rfl, true, ?_, iteT ⟨.int q, rfl, .ref l, rfl, q, FF, l, z.last, rfl, BP.Same.tupS (s1.trans s3) hl, ok.2, fun H4 s4 => want H4 ((s1.trans s3).trans s4)⟩⟩
        show V.bl (decide (V.int ((vns ft).length : Nat) = V.int (if (0 : Int) > ((bs.length : Nat) : Int) - 1 then 0 else ((bs.length : Nat) : Int) - 1))) = _
        rw [decide_eq_true]
        rw [List.length_map]
        by_cases h : (0 : Int) > ((bs.length : Nat) : Int) - 1
        · rw [if_pos h]
          congr 1
          omega
        · rw [if_neg h]
          congr 1
          omega
theorem ok_looks {f fI : Addr} {fd fdI : FuncData} (F : Fun K "look_at_steps" "look_at_steps" sLookAtSteps f fd) (IS_STEP : BP.Can P w K mg base "is_step" 6 pIsStep (spIsSp K) fI fdI) : FnOk P w K mg base CX0 7 f fd pLookAtSteps (spLookS K) := by
  refine F.ok scLookAtSteps (fun vs H Q E h => ?_) (fun cdv A outer s H vs Q E hr h => ?_)
  · obtain ⟨q, _, a, cs, rfl, _⟩ := h
    rfl
  · obtain ⟨q, FF, a, cs, rfl, ha, hcs, want⟩ := h
    refine ⟨_, (pss_one (ps_for PassesOwn.never rfl (pi_list (pv 1)) (pg_name (i := 2) scLookAtSteps.nd rfl (.inl rfl)) (pss_one (ps_if (pt_not (pt_val (pe_call IS_STEP.ok hr (by rfl) IS_STEP.g IS_STEP.kp IS_STEP.b .nil pass0 (pa_cons (pv 0) (pa_cons (pv 2) pa_nil))))) (pss_one ps_dead) pss_nil)))), ?_⟩
    refine ⟨.ref a, rfl, a, rfl, ⟨_, ha⟩, for_list (K := K) (a := a) (xs := cs.map V.ref) (fun i σ H' => Same H H' ∧ ∃ y2, σ = [some (.int q), some (.ref a), y2])
      ⟨fun _ _ z => z, _, rfl⟩ (fun i σ H' _ hW => hW.1.seq ha) (fun i x σ H' hi hW => ?_) (fun σ H' hW => ?_)⟩
    · obtain ⟨s1, y2, rfl⟩ := hW
      rw [List.getElem?_map] at hi
      cases e : cs[i]? with
      | none =>
        rw [e] at hi
        cases hi
      | some c =>
        rw [e] at hi
        obtain rfl := Option.some.inj hi
        obtain ⟨z, h1, h2⟩ := hcs c (List.mem_of_getElem? e)
        exact ⟨.int q, rfl, .ref c, rfl, q, FF, c, z, rfl, h1.kept fun _ _ => BP.Same.tupS s1, h2, fun H3 s3 => ⟨true, rfl, iteF ⟨s1.trans s3, _, rfl⟩⟩⟩
    · exact want H' hW.1
theorem ok_no {f aN : Addr} {fd : FuncData} {k : Nat} (F : Fun K "nothing" "nothing" sNothing f fd) (gNO : mg "NOTHING" = some (.ref aN)) (hN : ∀ (H : Hp) (q : Nat) [IsF q], StepAt K H aN (empty : Sta q)) : FnOk P w K mg base CX0 (k + 1) f fd pNothing (spNo K) := by
  refine F.ok scNothing (fun vs H Q E h => ?_) (fun cdv A outer s H vs Q E hr h => ?_)
  · obtain ⟨rfl, _⟩ := h
    rfl
  · obtain ⟨rfl, want⟩ := h
    refine ⟨_, (pss_one (ps_ret (pe_glob (v := .ref aN) rfl gNO rfl))), ?_⟩
    exact want aN H (fun _ _ z => z) fun q FF => hN H q
theorem one_in {q : Nat} [IsF q] {H : Hp} {c : Addr} {z : Sta q} (h : StepAt K H c z) (g : Fit z) : ∀ d ∈ [c], ∃ z : Sta q, StepAt K H d z ∧ Fit z := fun d hd => ⟨z, by rw [List.mem_singleton.mp hd]; exact h, g⟩
theorem two_in {q : Nat} [IsF q] {H : Hp} {c d : Addr} {y z : Sta q} (h : StepAt K H c y) (g : Fit y) (h2 : StepAt K H d z) (g2 : Fit z) : ∀ e ∈ [c, d], ∃ z : Sta q, StepAt K H e z ∧ Fit z := fun e he => by
  rcases List.mem_cons.mp he with z1 | z1
  · exact ⟨y, by rw [z1]; exact h, g⟩
  · exact ⟨z, by rw [List.mem_singleton.mp z1]; exact h2, g2⟩
end
end K13
set_option Elab.async false
set_option linter.all false
set_option maxRecDepth 100000
set_option maxHeartbeats 4000000
namespace BP
open PySem PySem.Spec PyProof.Rows L2
theorem getC {H : Hp} {d c : Addr} {m n : Int} (h : H d = some (.dK (deckD c m n))) : DGet H d (.str "cells") (some (.ref c)) := by
  have g := DGet.k (k := kC) h
  rw [deck_C] at g
  exact g
theorem getM {H : Hp} {d c : Addr} {m n : Int} (h : H d = some (.dK (deckD c m n))) : DGet H d (.str "mixed") (some (.int m)) := by
  have g := DGet.k (k := kM) h
  rw [deck_M] at g
  exact g
theorem getD {H : Hp} {d c : Addr} {m n : Int} (h : H d = some (.dK (deckD c m n))) : DGet H d (.str "draws") (some (.int n)) := by
  have g := DGet.k (k := kD) h
  rw [deck_D] at g
  exact g
theorem putD {H : Hp} {d c : Addr} {m n k : Int} (h : H d = some (.dK (deckD c m n))) : DPut H d (.str "draws") (.int k) (upd H d (.dK (deckD c m k))) := by
  have g := DPut.k (k := kD) (v := .int k) h (by show 3 < sizeLine; decide)
  rw [deck_put] at g
  exact g
theorem modB (i : Int) {j : Int} (h : 0 < j) : 0 ≤ i % j ∧ i % j < j := ⟨Int.emod_nonneg i (by omega), Int.emod_lt_of_pos i h⟩
theorem modN (i : Int) {n : Nat} (h : 0 < n) : ∃ x : Nat, i % (n : Int) = (x : Int) ∧ x < n := by
  obtain ⟨a, b⟩ := modB i (j := (n : Int)) (by omega)
  exact ⟨(i % (n : Int)).toNat, by omega, by omega⟩
theorem cut_ints (ns : List Int) (lo hi : Option Int) : ∃ ms : List Int, cutV (ns.map V.int) lo hi = ms.map V.int ∧ ms.length ≤ ns.length := by
  refine ⟨(ns.drop (HT.sIx ns.length 0 lo)).take (HT.sIx ns.length ns.length hi - HT.sIx ns.length 0 lo), ?_, ?_⟩
  · unfold cutV
    rw [List.length_map, List.map_take, List.map_drop]
  · rw [List.length_take, List.length_drop]
    omega
end BP
namespace K13
open PySem PySem.Spec PyProof.Rows L2 BP Fld
section
variable {P : Program} {w : World} {K : PySem.W.Frag} {mg : Str → Option Value} {base : Heap}
/-! ### the deck is made -/
def spDeck (K : PySem.W.Frag) : Sp := fun vs H Q _ => ∃ (a : Addr) (ns : List Int), vs = [.ref a] ∧ SqL K H a (ns.map V.int) ∧ ns.length ≤ 63 ∧ ∀ (d c : Addr) (H' : Hp), Same H H' → H d = none → H c = none → Deck H' d c → Q (.ref d) H'
theorem ok_deck {f : Addr} {fd : FuncData} {k : Nat} (F : Fun K "_law_deck" "_law_deck" sLDeck f fd) (mi : mg "int" = none) (ml : mg "list" = none) : FnOk P w K mg base CX0 (k + 1) f fd pLDeck (spDeck K) := by
  refine F.ok scLDeck (fun vs H Q E h => ?_) (fun cdv A outer s H vs Q E hr h => ?_)
  · obtain ⟨a, ns, rfl, _⟩ := h
    rfl
  · obtain ⟨a, ns, rfl, hS, hl, want⟩ := h
    refine ⟨_, pss_cons (ps_set (i := 1) scLDeck.nd rfl (.inl rfl) pe_int)
      (pss_cons (ps_for PassesOwn.never rfl (pi_list (pe_slice sl_list (pv 0) po_none (po_some pe_int))) (pg_name (i := 2) scLDeck.nd rfl (.inl rfl))
        (pss_one (ps_set (i := 1) scLDeck.nd rfl (.inl rfl) (pe_op op_mod (pe_callTy call_int1 (by rfl) mi (by decide +kernel) (pa_cons (pe_op op_add (pe_op op_add (pe_op op_mul (pv 1) pe_int) (pe_op op_mod (pe_callTy call_int1 (by rfl) mi (by decide +kernel) (pa_cons (pv 2) pa_nil)) pe_int)) pe_int) pa_nil)) pe_int))))
      (pss_one (ps_ret (pe_disp (pps_cons pe_str (pe_revL (pe_callTy call_list_of (by rfl) ml (by decide +kernel) (pa_cons (pe_slice sl_list (pv 0) po_none (po_some pe_int)) pa_nil))) (pps_cons pe_str (pv 1) (pps_cons pe_str pe_int pps_nil)))
        (by rfl) (by rfl) (fun z => by cases z) (by decide))))), ?_⟩
    obtain ⟨ms, em, lm⟩ := cut_ints ns none (some 63)
    refine ⟨.ref a, rfl, 63, rfl, a, _, rfl, hS, fun p np => ?_⟩
    have s1 : Same H (upd H p (.lst (cutV (ns.map V.int) none (some 63)))) := same_new np
    refine ⟨p, rfl, ⟨_, .inl (.inl upd_same)⟩, for_list (xs := ms.map V.int) (fun i σ H' => H' = upd H p (.lst (cutV (ns.map V.int) none (some 63))) ∧ ∃ (m : Int) (y : Option V), σ = [some (.ref a), some (.int m), y] ∧ 0 ≤ m ∧ m < 2147483647)
      ⟨rfl, 10881332, none, rfl, by decide, by decide⟩ (fun i σ H' _ hW => ?_) (fun i x σ H' hx hW => ?_) (fun σ H' hW => ?_)⟩
    · obtain ⟨rfl, _⟩ := hW
      rw [em]
      exact .inl (.inl upd_same)
    · obtain ⟨rfl, m, y, rfl, m0, m1⟩ := hW
      obtain ⟨n, rfl⟩ : ∃ n : Int, x = .int n := by
        rw [List.getElem?_map] at hx
        cases e : ms[i]? with
        | none =>
          rw [e] at hx
          cases hx
        | some n =>
          rw [e] at hx
          exact ⟨n, (Option.some.inj hx).symm⟩
      refine ⟨.int m, rfl, m, 48271, rfl, rfl, .inl ⟨by omega, by omega⟩, .int n, rfl, .inl ⟨n, rfl, n, 2147483629, rfl, rfl, (by show (0 : Int) < _; decide), _, _, rfl, rfl, _, 71, rfl, rfl, .inl ⟨_, rfl, _, 2147483587, rfl, rfl, (by show (0 : Int) < _; decide), ?_⟩⟩⟩
      obtain ⟨z1, z2⟩ := modB (m * 48271 + n % 2147483629 + 71) (j := 2147483587) (by decide)
      exact ⟨rfl, _, _, rfl, z1, by omega⟩
    · obtain ⟨rfl, m, y, rfl, m0, m1⟩ := hW
      refine fun d nd => ⟨.ref a, rfl, 63, rfl, a, _, rfl, (same_new nd).seq (s1.seq hS), fun q nq => ?_⟩
      have s2 := s1.trans (same_new (o := .dK []) nd)
      have s3 := s2.trans (same_new (o := .lst (cutV (ns.map V.int) none (some 63))) nq)
      refine ⟨q, _, rfl, .inl (.inl (.inl upd_same)), fun l hl' => ⟨l, _, rfl, .inl (.inl upd_same), fun c nc => ?_⟩⟩
      have s4 := s3.trans (same_new (o := .lst (cutV (ns.map V.int) none (some 63))) hl')
      have s5 := s4.trans (same_new (o := .lst (cutV (ns.map V.int) none (some 63)).reverse) nc)
      have hd1 : (upd (upd H p (.lst (cutV (ns.map V.int) none (some 63)))) d (.dK [])) d = some (.dK []) := upd_same
      have hd2 := same_new (o := .lst (cutV (ns.map V.int) none (some 63))) nq _ _ hd1
      have hd3 := same_new (o := .lst (cutV (ns.map V.int) none (some 63))) hl' _ _ hd2
      have ncd : d ≠ c := ne_of_none hd3 nc
      have free_p : ∀ {b : Addr}, (upd H p (.lst (cutV (ns.map V.int) none (some 63)))) b = none → H b = none := by
        intro b hb
        cases e : H b with
        | none => rfl
        | some o =>
          rw [s1 _ _ e] at hb
          cases hb
      have hdn : H d = none := free_p nd
      have hcn : H c = none := by
        cases e : H c with
        | none => rfl
        | some o =>
          rw [s4 _ _ e] at nc
          cases nc
      refine ⟨.int m, rfl, ?_, deckD c m 0, rfl, (by show 3 ≤ 15; decide), ?_⟩
      · rw [upd_ne ncd]
        exact hd3
      · rw [deck_merge]
        refine want d c _ ?_ hdn hcn ?_
        · intro b x e
          rw [upd_ne (ne_of_none e hdn)]
          exact s5 b x e
        · refine ⟨ms.reverse, m, 0, upd_same, ?_, ?_, m0, m1⟩
          · rw [upd_ne ncd.symm, upd_same, em, List.map_reverse]
          · rw [List.length_reverse]
            omega
/-! ### a draw -/
def spDraw : Sp := fun vs H Q _ => ∃ (d c : Addr) (n : Nat), vs = [.ref d, .int n] ∧ Deck H d c ∧ 0 < n ∧ n < 1000000000 ∧ ∀ (x : Nat) (H' : Hp), x < n → But d c H H' → Deck H' d c → Q (.int x) H'
theorem ok_draw {f : Addr} {fd : FuncData} {k : Nat} (F : Fun K "_law_draw" "_law_draw" sLDraw f fd) (mi : mg "int" = none) (mm : mg "max" = none) : FnOk P w K mg base CX0 (k + 1) f fd pLDraw spDraw := by
  refine F.ok scLDraw (fun vs H Q E h => ?_) (fun cdv A outer s H vs Q E hr h => ?_)
  · obtain ⟨d, c, n, rfl, _⟩ := h
    rfl
  · obtain ⟨d, c, n, rfl, ⟨cells, m, k0, hd, hc, hl, m0, m1⟩, n0, n1, want⟩ := h
    have hu := hu_of hr
    refine ⟨_, pss_cons (ps_dput hu (pv 0) pe_str (pe_op op_add (pe_dget hu (pv 0) pe_str (fun _ _ => rfl)) pe_int) rfl)
      (pss_cons (ps_set (i := 2) scLDraw.nd rfl (.inl rfl) (pe_op op_add (pe_dget hu (pv 0) pe_str (fun _ _ => rfl)) (pe_op op_mul pe_int (pe_dget hu (pv 0) pe_str (fun _ _ => rfl)))))
      (pss_cons (ps_if (pt_cmpR (op_neD hr.units) (pe_dget hu (pv 0) pe_str (fun _ _ => rfl)) (pe_lst pa_nil) (nomark _))
        (pss_cons (ps_set (i := 3) scLDraw.nd rfl (.inl rfl) (pe_bm0 PySem.F.plainAttrs_list PySem.F.slot_list_pop PySem.F.type_list_pop mt_pop (pe_dget hu (pv 0) pe_str (fun _ _ => rfl))))
        (pss_cons (ps_if (pt_cmpR op_ge (pv 3) (pe_op op_pow pe_int pe_int) (nomark _))
          (pss_cons (ps_expr (pe_bm PySem.F.plainAttrs_list PySem.F.slot_list_append PySem.F.type_list_append mt_append (pe_dget hu (pv 0) pe_str (fun _ _ => rfl)) (pa_cons (pe_op op_fdivN (pv 3) (pe_callB (call_max2 rfl) (by rfl) mm (by decide +kernel) (pa_cons pe_int (pa_cons (pv 1) pa_nil)))) pa_nil)))
          (pss_one (ps_ret (pe_op op_mod (pe_callTy call_int1 (by rfl) mi (by decide +kernel) (pa_cons (pv 3) pa_nil)) (pv 1))))) pss_nil)
        (pss_one (ps_set (i := 2) scLDraw.nd rfl (.inl rfl) (pe_op op_add (pv 2) (pe_op op_mod (pe_callTy call_int1 (by rfl) mi (by decide +kernel) (pa_cons (pv 3) pa_nil)) pe_int)))))) pss_nil)
      (pss_cons (ps_set (i := 2) scLDraw.nd rfl (.inl rfl) (pe_op op_mod (pe_callTy call_int1 (by rfl) mi (by decide +kernel) (pa_cons (pe_op op_add (pe_op op_mul (pv 2) pe_int) pe_int) pa_nil)) pe_int))
      (pss_cons (ps_set (i := 2) scLDraw.nd rfl (.inl rfl) (pe_op op_mod (pe_callTy call_int1 (by rfl) mi (by decide +kernel) (pa_cons (pe_op op_add (pe_op op_add (pe_op op_mul (pv 2) (pv 2)) (pe_op op_mul pe_int (pe_dget hu (pv 0) pe_str (fun _ _ => rfl)))) pe_int) pa_nil)) pe_int))
      (pss_cons (ps_set (i := 2) scLDraw.nd rfl (.inl rfl) (pe_op op_mod (pe_callTy call_int1 (by rfl) mi (by decide +kernel) (pa_cons (pe_op op_mul (pv 2) pe_int) pa_nil)) pe_int))
      (pss_one (ps_ret (pe_op op_mod (pe_callTy call_int1 (by rfl) mi (by decide +kernel) (pa_cons (pe_op op_fdiv (pv 2) pe_int) pa_nil)) (pv 1))))))))), ?_⟩
    -- draws
    refine ⟨.ref d, rfl, d, .int k0, rfl, getD hd, k0, 1, rfl, rfl, .ref d, rfl, d, _, rfl, putD hd, ?_⟩
    have ndc : d ≠ c := ne_of hd hc (by intro z; cases z)
    generalize k0 + 1 = dr
    have hd1 : (upd H d (.dK (deckD c m dr))) d = some (.dK (deckD c m dr)) := upd_same
    have hc1 : (upd H d (.dK (deckD c m dr))) c = some (.lst (cells.map V.int)) := by
      rw [upd_ne ndc.symm]
      exact hc
    have b1 : But d c H (upd H d (.dK (deckD c m dr))) := fun b x e1 e2 e => by
      rw [upd_ne e1]
      exact e
    generalize upd H d (.dK (deckD c m dr)) = H1 at hd1 hc1 b1 ⊢
    refine ⟨.ref d, rfl, d, .int m, rfl, getM hd1, .ref d, rfl, d, .int dr, rfl, getD hd1, 64627, dr, rfl, rfl, .inl ⟨by decide, by decide⟩, m, _, rfl, rfl, ?_⟩
    have done : ∀ (i : Int) (H' : Hp), But d c H H' → Deck H' d c → Q (.int (i % (n : Int))) H' := by
      intro i H' hb hk
      obtain ⟨x, e, hx⟩ := modN i n0
      rw [e]
      exact want x H' hx hb hk
    -- the cells
    refine ⟨.ref d, rfl, d, .ref c, rfl, getC hd1, Nat.zero_le _, fun p np => ?_⟩
    have sp := same_new (o := .lst []) np
    have hd2 := sp _ _ hd1
    have hc2 := sp _ _ hc1
    have b2 := b1.trans (But.of sp)
    have hp2 : (upd H1 p (.lst [])) p = some (.lst (([] : List Int).map V.int)) := upd_same
    generalize upd H1 p (.lst []) = H2 at hd2 hc2 b2 hp2 ⊢
    refine ⟨dat cells, dat [], dp_ints (.inl (.inl hc2)), dp_ints (.inl (.inl hp2)), shaped_ints _, shaped_ints _, _, rfl, ?_⟩
    rw [eqv_nil]
    cases cells with
    | nil =>
      refine iteF ?_
      obtain ⟨z1, z2⟩ := modB ((m + 64627 * dr) * 39373 + 71) (j := 2147483647) (by decide)
      obtain ⟨z3, z4⟩ := modB ((((m + 64627 * dr) * 39373 + 71) % 2147483647) * (((m + 64627 * dr) * 39373 + 71) % 2147483647) + 52919 * dr + 43) (j := 2147483587) (by decide)
      refine ⟨.int (m + 64627 * dr), rfl, (m + 64627 * dr), 39373, rfl, rfl, .inr ⟨by decide, by decide⟩, _, 71, rfl, rfl, .inl ⟨_, rfl, _, 2147483647, rfl, rfl, (by show (0 : Int) < _; decide), ?_⟩⟩
      refine ⟨.int (((m + 64627 * dr) * 39373 + 71) % 2147483647), rfl, .int (((m + 64627 * dr) * 39373 + 71) % 2147483647), rfl, (((m + 64627 * dr) * 39373 + 71) % 2147483647), (((m + 64627 * dr) * 39373 + 71) % 2147483647), rfl, rfl, .inl ⟨by omega, by omega⟩, .ref d, rfl, d, .int dr, rfl, getD hd2, 52919, dr, rfl, rfl, .inl ⟨by decide, by decide⟩, _, _, rfl, rfl, _, 43, rfl, rfl, .inl ⟨_, rfl, _, 2147483587, rfl, rfl, (by show (0 : Int) < _; decide), ?_⟩⟩
      refine ⟨.int (((((m + 64627 * dr) * 39373 + 71) % 2147483647) * (((m + 64627 * dr) * 39373 + 71) % 2147483647) + 52919 * dr + 43) % 2147483587), rfl, (((((m + 64627 * dr) * 39373 + 71) % 2147483647) * (((m + 64627 * dr) * 39373 + 71) % 2147483647) + 52919 * dr + 43) % 2147483587), 40692, rfl, rfl, .inl ⟨by omega, by omega⟩, .inl ⟨_, rfl, _, 2147483563, rfl, rfl, (by show (0 : Int) < _; decide), ?_⟩⟩
      refine ⟨_, rfl, _, 64, rfl, rfl, ⟨by decide, by decide⟩, .inl ⟨_, rfl, .int n, rfl, _, n, rfl, rfl, (by show (0 : Int) < (n : Int); omega), ?_⟩⟩
      exact done _ _ b2 ⟨[], m, dr, hd2, hc2, Nat.zero_le _, m0, m1⟩
    | cons y0 ys =>
      refine iteT ?_
      obtain ⟨xs, x, ex⟩ : ∃ xs x, y0 :: ys = xs ++ [x] := ⟨(y0 :: ys).dropLast, (y0 :: ys).getLast (by simp), (List.dropLast_concat_getLast (by simp)).symm⟩
      rw [ex] at hc2 hl
      have lx : xs.length ≤ 62 := by
        rw [List.length_append] at hl
        simpa using hl
      have eM : (xs ++ [x]).map V.int = xs.map V.int ++ [.int x] := by simp
      rw [eM] at hc2
      refine ⟨.ref d, rfl, d, .ref c, rfl, getC hd2, .inl ⟨rfl, _, .inl (.inl hc2)⟩, c, _, .int x, rfl, rfl, hc2, ?_, ?_⟩
      · rw [List.length_append, List.getElem?_append_right (by simp)]
        simp
      · rw [List.dropLast_concat]
        have hc3 : (upd H2 c (.lst (xs.map V.int))) c = some (.lst (xs.map V.int)) := upd_same
        have hd3 : (upd H2 c (.lst (xs.map V.int))) d = some (.dK (deckD c m dr)) := by
          rw [upd_ne ndc]
          exact hd2
        have b3 : But d c H (upd H2 c (.lst (xs.map V.int))) := b2.trans fun b z e1 e2 e => by
          rw [upd_ne e2]
          exact e
        generalize upd H2 c (.lst (xs.map V.int)) = H3 at hc3 hd3 b3 ⊢
        refine ⟨.int x, rfl, 10, 18, rfl, rfl, ⟨by decide, by decide, by decide⟩, x, _, rfl, rfl, _, rfl, ite2 (fun _ => ?_) (fun _ => ?_)⟩
        · refine ⟨.ref d, rfl, d, .ref c, rfl, getC hd3, .inl ⟨rfl, _, .inl (.inl hc3)⟩, .int x, rfl, .int n, rfl, 2, n, rfl, x, _, rfl, rfl, ?_, ?_⟩
          · show (if (n : Int) > 2 then (n : Int) else 2) ≠ 0 ∧ (if (n : Int) > 2 then (n : Int) else 2).natAbs < 1073741824
            split <;> omega
          · refine ⟨c, xs.map V.int, _, rfl, rfl, hc3, ?_, ?_⟩
            · rw [List.length_map]
              exact small1000 (by omega)
            · refine ⟨.int x, rfl, .inl ⟨x, rfl, .int n, rfl, x, n, rfl, rfl, (by show (0 : Int) < (n : Int); omega), ?_⟩⟩
              refine done x _ (b3.trans fun b z e1 e2 e => ?_) ⟨xs ++ [x.fdiv (if (n : Int) > 2 then (n : Int) else 2)], m, dr, ?_, ?_, ?_, m0, m1⟩
              · rw [upd_ne e2]
                exact e
              · rw [upd_ne ndc]
                exact hd3
              · rw [upd_same, List.map_append]
                rfl
              · rw [List.length_append]
                show xs.length + 1 ≤ 63
                omega
        · refine ⟨.int (m + 64627 * dr), rfl, .int x, rfl, .inl ⟨x, rfl, x, 2147483629, rfl, rfl, (by show (0 : Int) < _; decide), (m + 64627 * dr), _, rfl, rfl, ?_⟩⟩
          obtain ⟨z1, z2⟩ := modB ((m + 64627 * dr + x % 2147483629) * 39373 + 71) (j := 2147483647) (by decide)
          obtain ⟨z3, z4⟩ := modB ((((m + 64627 * dr + x % 2147483629) * 39373 + 71) % 2147483647) * (((m + 64627 * dr + x % 2147483629) * 39373 + 71) % 2147483647) + 52919 * dr + 43) (j := 2147483587) (by decide)
          refine ⟨.int (m + 64627 * dr + x % 2147483629), rfl, (m + 64627 * dr + x % 2147483629), 39373, rfl, rfl, .inr ⟨by decide, by decide⟩, _, 71, rfl, rfl, .inl ⟨_, rfl, _, 2147483647, rfl, rfl, (by show (0 : Int) < _; decide), ?_⟩⟩
          refine ⟨.int (((m + 64627 * dr + x % 2147483629) * 39373 + 71) % 2147483647), rfl, .int (((m + 64627 * dr + x % 2147483629) * 39373 + 71) % 2147483647), rfl, (((m + 64627 * dr + x % 2147483629) * 39373 + 71) % 2147483647), (((m + 64627 * dr + x % 2147483629) * 39373 + 71) % 2147483647), rfl, rfl, .inl ⟨by omega, by omega⟩, .ref d, rfl, d, .int dr, rfl, getD hd3, 52919, dr, rfl, rfl, .inl ⟨by decide, by decide⟩, _, _, rfl, rfl, _, 43, rfl, rfl, .inl ⟨_, rfl, _, 2147483587, rfl, rfl, (by show (0 : Int) < _; decide), ?_⟩⟩
          refine ⟨.int (((((m + 64627 * dr + x % 2147483629) * 39373 + 71) % 2147483647) * (((m + 64627 * dr + x % 2147483629) * 39373 + 71) % 2147483647) + 52919 * dr + 43) % 2147483587), rfl, (((((m + 64627 * dr + x % 2147483629) * 39373 + 71) % 2147483647) * (((m + 64627 * dr + x % 2147483629) * 39373 + 71) % 2147483647) + 52919 * dr + 43) % 2147483587), 40692, rfl, rfl, .inl ⟨by omega, by omega⟩, .inl ⟨_, rfl, _, 2147483563, rfl, rfl, (by show (0 : Int) < _; decide), ?_⟩⟩
          refine ⟨_, rfl, _, 64, rfl, rfl, ⟨by decide, by decide⟩, .inl ⟨_, rfl, .int n, rfl, _, n, rfl, rfl, (by show (0 : Int) < (n : Int); omega), ?_⟩⟩
          exact done _ _ b3 ⟨xs, m, dr, hd3, hc3, by omega, m0, m1⟩
/-! ### one of some -/
def spPick : Sp := fun vs H Q _ => ∃ (d c l : Addr) (xs : List V), vs = [.ref d, .ref l] ∧ Deck H d c ∧ l ≠ c ∧ H l = some (.lst xs) ∧ 0 < xs.length ∧ xs.length < 1000 ∧ ∀ (x : V) (H' : Hp), x ∈ xs → But d c H H' → Deck H' d c → Q x H'
theorem ok_pick {f fD : Addr} {fd fdD : FuncData} (F : Fun K "_law_pick" "_law_pick" sLPick f fd) (D : BP.Can P w K mg base "_law_draw" 1 pLDraw spDraw fD fdD) (ml : mg "len" = none) : FnOk P w K mg base CX0 2 f fd pLPick spPick := by
  refine F.ok scLPick (fun vs H Q E h => ?_) (fun cdv A outer s H vs Q E hr h => ?_)
  · obtain ⟨d, c, l, xs, rfl, _⟩ := h
    rfl
  · obtain ⟨d, c, l, xs, rfl, hk, nl, hx, x0, x1, want⟩ := h
    refine ⟨_, pss_one (ps_ret (pe_ix ix_list (pv 1) (pe_call D.ok hr (by rfl) D.g D.kp D.b .nil pass0 (pa_cons (pv 0) (pa_cons (pe_callB call_len_seq (by rfl) ml PySem.boot_len (pa_cons (pv 1) pa_nil)) pa_nil))) (fun _ _ => rfl))), ?_⟩
    refine ⟨.ref l, rfl, .ref d, rfl, .ref l, rfl, l, xs, rfl, .inl (.inl (.inl hx)), d, c, xs.length, rfl, hk, x0, by omega, fun x H' hlt hb hk' => ?_⟩
    have hx' := hb _ _ (hk.lst hx nl) nl hx
    exact ⟨l, xs, x, xs[x], rfl, rfl, .inl (.inl hx'), atI_nat (List.getElem?_eq_getElem hlt), want _ H' (List.getElem_mem hlt) hb hk'⟩
/-! ### a field number -/
def spSF : Sp := fun vs H Q _ => ∃ (d c : Addr), vs = [.ref d] ∧ Deck H d c ∧ ∀ (q : Nat) (H' : Hp), q ∈ fields → But d c H H' → Deck H' d c → Q (.int q) H'
theorem in_fields {ls : List Int} {x : V} (hx : x ∈ ls.map V.int) (h : ls.all (fun i => fields.any fun q => decide (i = (q : Int))) = true) : ∃ q : Nat, q ∈ fields ∧ x = .int q := by
  obtain ⟨i, hi, rfl⟩ := List.mem_map.mp hx
  obtain ⟨q, hq, e⟩ := List.any_eq_true.mp (List.all_eq_true.mp h i hi)
  exact ⟨q, hq, by rw [of_decide_eq_true e]⟩
theorem ok_sf {f fD fP : Addr} {fd fdD fdP : FuncData} (F : Fun K "_law_some_field" "_law_some_field" sLSomeField f fd) (D : BP.Can P w K mg base "_law_draw" 1 pLDraw spDraw fD fdD) (C : BP.Can P w K mg base "_law_pick" 2 pLPick spPick fP fdP) : FnOk P w K mg base CX0 3 f fd pLSomeField spSF := by
  refine F.ok scLSomeField (fun vs H Q E h => ?_) (fun cdv A outer s H vs Q E hr h => ?_)
  · obtain ⟨d, c, rfl, _⟩ := h
    rfl
  · obtain ⟨d, c, rfl, hk, want⟩ := h
    have hr1 := hr.mono (show 1 ≤ 2 by decide)
    refine ⟨_, pss_cons (ps_if (pt_cmpR op_eq (pe_call D.ok hr1 (by rfl) D.g D.kp D.b .nil pass0 (pa_cons (pv 0) (pa_cons pe_int pa_nil))) pe_int (nomark _))
        (pss_one (ps_ret (pe_call C.ok hr (by rfl) C.g C.kp C.b .nil pass0 (pa_cons (pv 0) (pa_cons (pe_lst (pa_cons pe_int (pa_cons pe_int (pa_cons pe_int (pa_cons pe_int (pa_cons pe_int (pa_cons pe_int (pa_cons pe_int (pa_cons pe_int (pa_cons pe_int (pa_cons pe_int pa_nil))))))))))) pa_nil))))) pss_nil)
      (pss_one (ps_ret (pe_call C.ok hr (by rfl) C.g C.kp C.b .nil pass0 (pa_cons (pv 0) (pa_cons (pe_lst (pa_cons pe_int (pa_cons pe_int (pa_cons pe_int (pa_cons pe_int (pa_cons pe_int (pa_cons pe_int pa_nil))))))) pa_nil))))), ?_⟩
    refine ⟨.ref d, rfl, d, c, 5, rfl, hk, by decide, by decide, fun x H1 hx hb hk1 => ⟨rfl, _, rfl, ite2 (fun _ => ?_) (fun _ => ?_)⟩⟩
    · refine ⟨.ref d, rfl, (by show 10 ≤ sizeLine; decide), fun l nl => ?_⟩
      have s1 := same_new (o := .lst ([7, 8, 9, 11, 13, 16, 2, 3, 4, 5].map V.int)) nl
      have nw := hk1.new nl
      refine ⟨d, c, l, [7, 8, 9, 11, 13, 16, 2, 3, 4, 5].map V.int, rfl, hk1.same s1, nw.2, upd_same, by decide, by decide, fun x H2 hx hb2 hk2 => ?_⟩
      obtain ⟨q, hq, rfl⟩ := in_fields hx (by decide)
      exact want q H2 hq (hb.trans ((But.of s1).trans hb2)) hk2
    · refine ⟨.ref d, rfl, (by show 6 ≤ sizeLine; decide), fun l nl => ?_⟩
      have s1 := same_new (o := .lst ([2, 3, 4, 5, 2, 3].map V.int)) nl
      have nw := hk1.new nl
      refine ⟨d, c, l, [2, 3, 4, 5, 2, 3].map V.int, rfl, hk1.same s1, nw.2, upd_same, by decide, by decide, fun x H2 hx hb2 hk2 => ?_⟩
      obtain ⟨q, hq, rfl⟩ := in_fields hx (by decide)
      exact want q H2 hq (hb.trans ((But.of s1).trans hb2)) hk2
end
end K13
set_option Elab.async false
set_option linter.all false
set_option maxRecDepth 100000
set_option maxHeartbeats 4000000
/-! How many straight maps, rows of bends and steps there are. No Python here. -/
namespace Cnt
open Fld
/-- the number that undoes a sum -/
def ng (q a : Nat) : Nat := match q with
  | 4 => a | 8 => a | 16 => a
  | 9 => (3 - a % 3) % 3 + 3 * ((3 - a / 3) % 3)
  | q => (q - a) % q
def bump (l : List Nat) (i x : Nat) : List Nat := l.set i (l.getD i 0 + x)
def zeros (q : Nat) : List Nat := List.replicate q 0
/-- how often a product is told, behind the first n numbers, and m more of the next one -/
def oft1 (q a : Nat) (l : List Nat) (m : Nat) : List Nat := (List.range m).foldl (fun l e => bump l (M q a e) 1) l
def oft (q n : Nat) : List Nat := (List.range n).foldl (fun l a => oft1 q a l q) (zeros q)
def mps1 (q : Nat) (o : List Nat) (a : Nat) (l : List Nat) (m : Nat) : List Nat := (List.range m).foldl (fun l e => bump l (S q a (ng q e)) (o.getD a 0 * o.getD e 0 * q * q)) l
def mps (q : Nat) (o : List Nat) (n : Nat) : List Nat := (List.range n).foldl (fun l a => mps1 q o a l q) (zeros q)
def mp (q : Nat) : List Nat := mps q (oft q q) q
def strt (q : Nat) : Nat := (q * q - 1) * (q * q - q) * q * q
theorem bump_len (l : List Nat) (i x : Nat) : (bump l i x).length = l.length := List.length_set
theorem foldl_succ {α : Type} (f : α → Nat → α) (x : α) (n : Nat) : (List.range (n + 1)).foldl f x = f ((List.range n).foldl f x) n := by
  rw [List.range_succ, List.foldl_append]
  rfl
def okCnt (q : Nat) : Bool := decide ((mp q).length = q) && decide ((mp q).drop 1 = List.replicate (q - 1) (strt q / (q - 1))) && decide (strt q / (q - 1) * (q - 1) = strt q) && below q fun a => decide (ng q a < q)
theorem all_cnt : fields.all okCnt = true := by decide +kernel
theorem ok16 {q : Nat} (h : q ∈ fields) : okCnt q = true := List.all_eq_true.mp all_cnt q h
end Cnt
namespace Cnt
open Fld
section
variable {q : Nat} (h : q ∈ fields)
include h
theorem mp_len : (mp q).length = q := by
  have o := ok16 h
  simp only [okCnt, Bool.and_eq_true, decide_eq_true_eq] at o
  exact o.1.1.1
theorem mp_drop : (mp q).drop 1 = List.replicate (q - 1) (strt q / (q - 1)) := by
  have o := ok16 h
  simp only [okCnt, Bool.and_eq_true, decide_eq_true_eq] at o
  exact o.1.1.2
theorem strt_div : strt q / (q - 1) * (q - 1) = strt q := by
  have o := ok16 h
  simp only [okCnt, Bool.and_eq_true, decide_eq_true_eq] at o
  exact o.1.2
theorem ng_lt {a : Nat} (ha : a < q) : ng q a < q := by
  have o := ok16 h
  simp only [okCnt, Bool.and_eq_true] at o
  have := of_below o.2 ha
  exact of_decide_eq_true this
theorem mp_sum : ((mp q).drop 1).sum = strt q := by
  have rp : ∀ (n x : Nat), (List.replicate n x).sum = n * x := by
    intro n x
    induction n with
    | zero => rw [Nat.zero_mul]; rfl
    | succ n ih => rw [List.replicate_succ, List.sum_cons, ih, Nat.succ_mul, Nat.add_comm]
  rw [mp_drop h, rp]
  have := strt_div h
  rw [Nat.mul_comm] at this
  exact this
theorem mp_at {d : Nat} (h1 : 1 ≤ d) (h2 : d < q) : (mp q)[d]? = some (strt q / (q - 1)) := by
  have e : ((mp q).drop 1)[d - 1]? = some (strt q / (q - 1)) := by
    rw [mp_drop h, List.getElem?_replicate, if_pos (by omega)]
  rw [List.getElem?_drop] at e
  rw [show 1 + (d - 1) = d by omega] at e
  exact e
end
/-! ### rows of bends -/
/-- the bends of a degree -/
def bds (q d : Nat) : Nat := (q - 1) * q ^ (d - 2)
def wts (q : Nat) (l : List Nat) : Nat := (l.map fun d => q * bds q d).prod
/-- a start, turns and bends of such degrees -/
def chs (q : Nat) : List Nat → Nat
  | [] => 1
  | d :: r => (q + 1) * bds q d * wts q r
theorem chs_snoc (q : Nat) (l : List Nat) (d : Nat) : chs q (l ++ [d]) = chs q l * ((if l.length = 0 then q + 1 else q) * bds q d) := by
  cases l with
  | nil => simp [chs, wts]
  | cons x r => simp [chs, wts, Nat.mul_assoc]
theorem chs_q (q : Nat) (l : List Nat) (h : l ≠ []) : q * chs q l = (q + 1) * wts q l := by
  cases l with
  | nil => exact absurd rfl h
  | cons d r =>
    show q * ((q + 1) * bds q d * wts q r) = (q + 1) * wts q (d :: r)
    have : wts q (d :: r) = q * bds q d * wts q r := by simp [wts]
    rw [this]
    ac_rfl
theorem wts_rev (q : Nat) (l : List Nat) : wts q l.reverse = wts q l := by
  induction l with
  | nil => rfl
  | cons d r ih =>
    have e : wts q (r.reverse ++ [d]) = wts q r.reverse * (q * bds q d) := by simp [wts]
    rw [List.reverse_cons, e, ih]
    show _ = wts q (d :: r)
    have : wts q (d :: r) = q * bds q d * wts q r := by simp [wts]
    rw [this, Nat.mul_comm]
theorem chs_rev {q : Nat} (hq : 0 < q) (l : List Nat) : chs q l.reverse = chs q l := by
  cases l with
  | nil => rfl
  | cons d r =>
    refine Nat.eq_of_mul_eq_mul_left hq ?_
    rw [chs_q q _ (by simp), chs_q q _ (by simp), wts_rev]
/-! ### rows of bends with a product of degrees -/
def dvs (n : Nat) : List Nat := [2, 3, 4, 5, 6].filter fun d => n % d == 0
def mbr (q : Nat) : Nat → Nat → Nat
  | 0, _ => 0
  | k + 1, n => if n = 1 then 1 else ((dvs n).map fun d => q * bds q d * mbr q k (n / d)).sum
/-- rows and what is left of the product -/
def nxt (x : List Nat × Nat) : List (List Nat × Nat) := if 1 < x.2 then (dvs x.2).map fun d => (x.1 ++ [d], x.2 / d) else []
def frt (n : Nat) : Nat → List (List Nat × Nat)
  | 0 => [([], n)]
  | t + 1 => (frt n t).flatMap nxt
def fnd (n : Nat) : Nat → List (List Nat)
  | 0 => []
  | t + 1 => fnd n t ++ ((frt n t).filter fun x => x.2 == 1).map Prod.fst
def ew (q : Nat) (l : List Nat) : Nat := if l = [] then q + 1 else q * chs q l
theorem ew_snoc (q : Nat) (l : List Nat) (d : Nat) : ew q (l ++ [d]) = ew q l * (q * bds q d) := by
  unfold ew
  rw [if_neg (by simp), chs_snoc]
  by_cases e : l = []
  · subst e
    simp [chs]
    ac_rfl
  · rw [if_neg e, if_neg (by simpa using e)]
    ac_rfl
def tot (q k : Nat) (f : List (List Nat × Nat)) : Nat := (f.map fun x => ew q x.1 * mbr q k x.2).sum
def dne (q : Nat) (f : List (List Nat × Nat)) : Nat := (f.map fun x => if x.2 = 1 then ew q x.1 else 0).sum
theorem sum_mul (c : Nat) (l : List Nat) : (l.map fun x => c * x).sum = c * l.sum := by
  induction l with
  | nil => rfl
  | cons x r ih => rw [List.map_cons, List.sum_cons, List.sum_cons, ih, Nat.mul_add]
theorem tot_one (q k : Nat) (x : List Nat × Nat) : (if x.2 = 1 then ew q x.1 else 0) + tot q k (nxt x) = (if x.2 = 0 then 0 else ew q x.1 * mbr q (k + 1) x.2) := by
  obtain ⟨l, n⟩ := x
  unfold tot nxt
  by_cases h1 : n = 1
  · subst h1
    simp [mbr]
  · by_cases h0 : n = 0
    · subst h0
      simp
    · rw [if_neg h1, if_neg h0, if_pos (show 1 < n by omega), List.map_map, Nat.zero_add]
      show _ = ew q l * (if n = 1 then 1 else ((dvs n).map fun d => q * bds q d * mbr q k (n / d)).sum)
      rw [if_neg h1, ← sum_mul, List.map_map]
      congr 1
      refine List.map_congr_left fun d _ => ?_
      show ew q (l ++ [d]) * mbr q k (n / d) = ew q l * (q * bds q d * mbr q k (n / d))
      rw [ew_snoc, Nat.mul_assoc]
theorem tot_app (q k : Nat) (f g : List (List Nat × Nat)) : tot q k (f ++ g) = tot q k f + tot q k g := by
  unfold tot
  rw [List.map_append, List.sum_append]
theorem tot_step (q k : Nat) : ∀ f : List (List Nat × Nat), (∀ x ∈ f, x.2 ≠ 0) → dne q f + tot q k (f.flatMap nxt) = tot q (k + 1) f
  | [], _ => rfl
  | x :: r, h => by
    have ih := tot_step q k r fun y hy => h y (List.mem_cons_of_mem _ hy)
    have o := tot_one q k x
    rw [if_neg (h x (List.mem_cons_self ..))] at o
    rw [List.flatMap_cons, tot_app]
    unfold dne tot at *
    rw [List.map_cons, List.map_cons, List.sum_cons, List.sum_cons, ← ih, ← o]
    omega
theorem dvs_le {n d : Nat} (h : d ∈ dvs n) : 2 ≤ d ∧ d ≤ 6 ∧ n % d = 0 := by
  unfold dvs at h
  rw [List.mem_filter] at h
  obtain ⟨h1, h2⟩ := h
  have : n % d = 0 := by simpa using h2
  simp at h1
  omega
theorem div_pos' {n d : Nat} (h : d ∈ dvs n) (hn : n ≠ 0) : n / d ≠ 0 := by
  obtain ⟨h1, h2, h3⟩ := dvs_le h
  have := Nat.div_add_mod n d
  intro e
  rw [e, h3] at this
  omega
theorem frt_ok (n : Nat) (hn : n ≠ 0) : ∀ t x, x ∈ frt n t → x.2 ≠ 0 ∧ x.2 * 2 ^ t ≤ n
  | 0, x, h => by
    rw [show frt n 0 = [([], n)] from rfl, List.mem_singleton] at h
    subst h
    exact ⟨hn, by simp⟩
  | t + 1, x, h => by
    rw [show frt n (t + 1) = (frt n t).flatMap nxt from rfl, List.mem_flatMap] at h
    obtain ⟨y, hy, hx⟩ := h
    obtain ⟨a, b⟩ := frt_ok n hn t y hy
    unfold nxt at hx
    split at hx
    · rw [List.mem_map] at hx
      obtain ⟨d, hd, rfl⟩ := hx
      refine ⟨div_pos' hd a, ?_⟩
      obtain ⟨d1, d2, d3⟩ := dvs_le hd
      show y.2 / d * 2 ^ (t + 1) ≤ n
      have e : y.2 / d * 2 ≤ y.2 := Nat.le_trans (Nat.mul_le_mul_left _ d1) (Nat.div_mul_le_self _ _)
      calc y.2 / d * 2 ^ (t + 1) = y.2 / d * 2 * 2 ^ t := by rw [Nat.pow_succ]; ac_rfl
        _ ≤ y.2 * 2 ^ t := Nat.mul_le_mul_right _ e
        _ ≤ n := b
    · cases hx
theorem frt_end {n : Nat} (hn : n ≠ 0) (t : Nat) (h : n < 2 ^ t) : frt n t = [] := by
  cases e : frt n t with
  | nil => rfl
  | cons x r =>
    obtain ⟨a, b⟩ := frt_ok n hn t x (by rw [e]; exact List.mem_cons_self ..)
    have : 1 * 2 ^ t ≤ x.2 * 2 ^ t := Nat.mul_le_mul_right _ (by omega)
    omega
theorem frt_ne (n : Nat) : ∀ t x, x ∈ frt n (t + 1) → x.1 ≠ []
  | t, x, h => by
    rw [show frt n (t + 1) = (frt n t).flatMap nxt from rfl, List.mem_flatMap] at h
    obtain ⟨y, hy, hx⟩ := h
    unfold nxt at hx
    split at hx
    · rw [List.mem_map] at hx
      obtain ⟨d, hd, rfl⟩ := hx
      simp
    · cases hx
theorem fnd_ne {n : Nat} (hn : n ≠ 1) : ∀ t l, l ∈ fnd n t → l ≠ []
  | 0, l, h => by cases h
  | t + 1, l, h => by
    rw [show fnd n (t + 1) = fnd n t ++ ((frt n t).filter fun x => x.2 == 1).map Prod.fst from rfl, List.mem_append] at h
    rcases h with h | h
    · exact fnd_ne hn t l h
    · rw [List.mem_map] at h
      obtain ⟨x, hx, rfl⟩ := h
      rw [List.mem_filter] at hx
      cases t with
      | zero =>
        obtain ⟨h1, h2⟩ := hx
        rw [show frt n 0 = [([], n)] from rfl, List.mem_singleton] at h1
        subst h1
        exact absurd (by simpa using h2) hn
      | succ t => exact frt_ne n t x hx.1
def sms (q : Nat) (f : List (List Nat)) : Nat := (f.map (chs q)).sum
theorem dne_eq (q : Nat) : ∀ f : List (List Nat × Nat), dne q f = (((f.filter fun x => x.2 == 1).map Prod.fst).map (ew q)).sum
  | [] => rfl
  | x :: r => by
    have ih := dne_eq q r
    unfold dne at *
    rw [List.map_cons, List.sum_cons, ih]
    by_cases h : x.2 = 1
    · rw [if_pos h, List.filter_cons_of_pos (by simpa using h)]
      simp
    · rw [if_neg h, List.filter_cons_of_neg (by simpa using h), Nat.zero_add]
theorem ew_sum (q : Nat) : ∀ f : List (List Nat), (∀ l ∈ f, l ≠ []) → (f.map (ew q)).sum = q * sms q f
  | [], _ => rfl
  | l :: r, h => by
    have ih := ew_sum q r fun y hy => h y (List.mem_cons_of_mem _ hy)
    rw [List.map_cons, List.sum_cons, ih]
    unfold ew sms
    rw [if_neg (h l (List.mem_cons_self ..)), List.map_cons, List.sum_cons, Nat.mul_add]
theorem rounds (q : Nat) {n : Nat} (h0 : n ≠ 0) (h1 : n ≠ 1) (k : Nat) : ∀ t, t ≤ k → q * sms q (fnd n t) + tot q (k - t) (frt n t) = (q + 1) * mbr q k n
  | 0, _ => by
    show q * 0 + ((q + 1) * mbr q k n + 0) = _
    simp
  | t + 1, ht => by
    have ih := rounds q h0 h1 k t (by omega)
    have e : k - t = k - (t + 1) + 1 := by omega
    rw [e, ← tot_step q _ _ fun x hx => (frt_ok n h0 t x hx).1, dne_eq] at ih
    rw [← ew_sum q _ (fnd_ne h1 _)]
    rw [← ew_sum q _ (fnd_ne h1 t)] at ih
    rw [show fnd n (t + 1) = fnd n t ++ ((frt n t).filter fun x => x.2 == 1).map Prod.fst from rfl, List.map_append, List.sum_append]
    rw [show frt n (t + 1) = (frt n t).flatMap nxt from rfl, ← ih]
    omega
/-- all rows of bends whose degrees have the product n -/
theorem all_rows {q n : Nat} (h0 : n ≠ 0) (h1 : n ≠ 1) (k : Nat) (h : n < 2 ^ k) : q * sms q (fnd n k) = (q + 1) * mbr q k n := by
  have := rounds q h0 h1 k k (Nat.le_refl _)
  rw [frt_end h0 k h] at this
  exact this
theorem fnd_one : ∀ t, fnd 1 (t + 1) = [[]] ∧ frt 1 (t + 1) = []
  | 0 => ⟨rfl, rfl⟩
  | t + 1 => by
    obtain ⟨a, b⟩ := fnd_one t
    refine ⟨?_, ?_⟩
    · rw [show fnd 1 (t + 1 + 1) = fnd 1 (t + 1) ++ ((frt 1 (t + 1)).filter fun x => x.2 == 1).map Prod.fst from rfl, a, b]
      rfl
    · rw [show frt 1 (t + 1 + 1) = (frt 1 (t + 1)).flatMap nxt from rfl, b]
      rfl
/-- what is asked of all degrees of pairs -/
def deg (q n : Nat) : Nat := if n = 1 then strt q else strt q * (q + 1) * mbr q 11 n / q
theorem deg_eq {q n : Nat} (hq : 0 < q) (h0 : n ≠ 0) (h : n ≤ 1000) : deg q n = sms q (fnd n 11) * strt q := by
  unfold deg
  by_cases h1 : n = 1
  · subst h1
    rw [if_pos rfl, (fnd_one 10).1]
    simp [sms, chs]
  · rw [if_neg h1, Nat.mul_assoc, ← all_rows h0 h1 11 (Nat.lt_of_le_of_lt h (by decide)), show strt q * (q * sms q (fnd n 11)) = q * (sms q (fnd n 11) * strt q) by ac_rfl, Nat.mul_div_cancel_left _ hq]
/-! ### sizes -/
def sq2 (f : List (List Nat × Nat)) : Nat := (f.map fun x => x.2 * x.2).sum
theorem sq_nxt (x : List Nat × Nat) (h : x.2 ≠ 0) : (if x.2 = 1 then 1 else 0) + sq2 (nxt x) ≤ x.2 * x.2 := by
  obtain ⟨l, n⟩ := x
  have h : n ≠ 0 := h
  show (if n = 1 then 1 else 0) + sq2 (nxt (l, n)) ≤ n * n
  unfold nxt
  by_cases h1 : n = 1
  · subst h1
    simp [sq2]
  · rw [if_neg h1, if_pos (show 1 < n by omega), Nat.zero_add]
    have w : ∀ d, 0 < d → (n / d) * (n / d) * (d * d) ≤ n * n := by
      intro d hd
      have e : n / d * d ≤ n := Nat.div_mul_le_self _ _
      calc (n / d) * (n / d) * (d * d) = (n / d * d) * (n / d * d) := by ac_rfl
        _ ≤ n * n := Nat.mul_self_le_mul_self e
    have w2 := w 2 (by decide)
    have w3 := w 3 (by decide)
    have w4 := w 4 (by decide)
    have w5 := w 5 (by decide)
    have w6 := w 6 (by decide)
    have gen : ∀ ds : List Nat, sq2 (((ds.filter fun d => n % d == 0).map fun d => (l ++ [d], n / d))) ≤ (ds.map fun d => n / d * (n / d)).sum := by
      intro ds
      induction ds with
      | nil => exact Nat.le_refl _
      | cons d r ih =>
        rw [List.map_cons, List.sum_cons]
        by_cases hd : n % d = 0
        · rw [List.filter_cons_of_pos (by simpa using hd)]
          unfold sq2 at *
          rw [List.map_cons, List.map_cons, List.sum_cons]
          show n / d * (n / d) + _ ≤ _
          omega
        · rw [List.filter_cons_of_neg (by simpa using hd)]
          omega
    have g := gen [2, 3, 4, 5, 6]
    simp only [List.map_cons, List.map_nil, List.sum_cons, List.sum_nil] at g
    refine Nat.le_trans g ?_
    generalize n / 2 * (n / 2) = a2 at *
    generalize n / 3 * (n / 3) = a3 at *
    generalize n / 4 * (n / 4) = a4 at *
    generalize n / 5 * (n / 5) = a5 at *
    generalize n / 6 * (n / 6) = a6 at *
    generalize n * n = b at *
    omega
theorem sq2_app (f g : List (List Nat × Nat)) : sq2 (f ++ g) = sq2 f + sq2 g := by
  unfold sq2
  rw [List.map_append, List.sum_append]
theorem sq_step : ∀ f : List (List Nat × Nat), (∀ x ∈ f, x.2 ≠ 0) → (f.filter fun x => x.2 == 1).length + sq2 (f.flatMap nxt) ≤ sq2 f
  | [], _ => Nat.le_refl _
  | x :: r, h => by
    have ih := sq_step r fun y hy => h y (List.mem_cons_of_mem _ hy)
    have o := sq_nxt x (h x (List.mem_cons_self ..))
    rw [List.flatMap_cons, sq2_app]
    have e : sq2 (x :: r) = x.2 * x.2 + sq2 r := rfl
    rw [e]
    by_cases h1 : x.2 = 1
    · rw [if_pos h1] at o
      rw [List.filter_cons_of_pos (by simpa using h1), List.length_cons]
      omega
    · rw [if_neg h1] at o
      rw [List.filter_cons_of_neg (by simpa using h1)]
      omega
theorem sizes {n : Nat} (hn : n ≠ 0) : ∀ t, (fnd n t).length + sq2 (frt n t) ≤ n * n
  | 0 => by
    show 0 + (n * n + 0) ≤ n * n
    omega
  | t + 1 => by
    have ih := sizes hn t
    have s := sq_step (frt n t) fun x hx => (frt_ok n hn t x hx).1
    rw [show fnd n (t + 1) = fnd n t ++ ((frt n t).filter fun x => x.2 == 1).map Prod.fst from rfl, List.length_append, List.length_map, show frt n (t + 1) = (frt n t).flatMap nxt from rfl]
    omega
theorem len_sq : ∀ f : List (List Nat × Nat), (∀ x ∈ f, x.2 ≠ 0) → f.length ≤ sq2 f
  | [], _ => Nat.le_refl _
  | x :: r, h => by
    have ih := len_sq r fun y hy => h y (List.mem_cons_of_mem _ hy)
    have e : sq2 (x :: r) = x.2 * x.2 + sq2 r := rfl
    have p : 1 * 1 ≤ x.2 * x.2 := Nat.mul_self_le_mul_self (Nat.pos_of_ne_zero (h x (List.mem_cons_self ..)))
    rw [e, List.length_cons]
    omega
theorem small {n : Nat} (h0 : n ≠ 0) (h : n ≤ 1000) (t : Nat) : (fnd n t).length + (frt n t).length ≤ 1000000 := by
  have a := sizes h0 t
  have b := len_sq (frt n t) fun x hx => (frt_ok n h0 t x hx).1
  have c : n * n ≤ 1000 * 1000 := Nat.mul_self_le_mul_self h
  omega
/-! ### bounds -/
theorem bds_le {q d : Nat} (hq : 0 < q) (h : q ≤ 16) (hd : d ≤ 6) : bds q d ≤ 2 ^ 20 := by
  unfold bds
  have a : q ^ (d - 2) ≤ 16 ^ 4 := Nat.le_trans (Nat.pow_le_pow_left h _) (Nat.pow_le_pow_right (by decide) (by omega))
  calc (q - 1) * q ^ (d - 2) ≤ 16 * 16 ^ 4 := Nat.mul_le_mul (by omega) a
    _ = 2 ^ 20 := by decide
theorem mbr_le {q : Nat} (hq : 0 < q) (h : q ≤ 16) : ∀ k n, mbr q k n ≤ (2 ^ 27) ^ k
  | 0, n => Nat.zero_le _
  | k + 1, n => by
    unfold mbr
    split
    · rw [← Nat.pow_mul]
      exact Nat.one_le_two_pow
    · have gen : ∀ ds : List Nat, (∀ d ∈ ds, d ≤ 6) → (ds.map fun d => q * bds q d * mbr q k (n / d)).sum ≤ ds.length * (2 ^ 24 * (2 ^ 27) ^ k) := by
        intro ds
        induction ds with
        | nil => intro _; exact Nat.zero_le _
        | cons d r ih =>
          intro hd
          have i := ih fun y hy => hd y (List.mem_cons_of_mem _ hy)
          have o : q * bds q d * mbr q k (n / d) ≤ 2 ^ 24 * (2 ^ 27) ^ k := by
            refine Nat.mul_le_mul ?_ (mbr_le hq h k _)
            calc q * bds q d ≤ 16 * 2 ^ 20 := Nat.mul_le_mul h (bds_le hq h (hd d (List.mem_cons_self ..)))
              _ = 2 ^ 24 := by decide
          rw [List.map_cons, List.sum_cons, List.length_cons, Nat.succ_mul]
          omega
      have g := gen (dvs n) fun d hd => (dvs_le hd).2.1
      have l5 : (dvs n).length ≤ 8 := Nat.le_trans (List.length_filter_le _ _) (by decide)
      refine Nat.le_trans g (Nat.le_trans (Nat.mul_le_mul_right _ l5) ?_)
      rw [Nat.pow_succ, ← Nat.mul_assoc]
      rw [Nat.mul_comm]
      exact Nat.mul_le_mul_left _ (by decide)
theorem wts_le {q : Nat} (hq : 0 < q) (h : q ≤ 16) : ∀ l : List Nat, (∀ d ∈ l, d ≤ 6) → wts q l ≤ (2 ^ 24) ^ l.length
  | [], _ => Nat.le_refl _
  | d :: r, hd => by
    have ih := wts_le hq h r fun y hy => hd y (List.mem_cons_of_mem _ hy)
    have e : wts q (d :: r) = q * bds q d * wts q r := by simp [wts]
    rw [e, List.length_cons, Nat.pow_succ, Nat.mul_comm]
    refine Nat.mul_le_mul ih ?_
    calc q * bds q d ≤ 16 * 2 ^ 20 := Nat.mul_le_mul h (bds_le hq h (hd d (List.mem_cons_self ..)))
      _ = 2 ^ 24 := by decide
theorem chs_le {q : Nat} (hq : 0 < q) (h : q ≤ 16) (l : List Nat) (hd : ∀ d ∈ l, d ≤ 6) : chs q l ≤ (2 ^ 25) ^ l.length := by
  cases l with
  | nil => exact Nat.le_refl _
  | cons d r =>
    have a := wts_le hq h r fun y hy => hd y (List.mem_cons_of_mem _ hy)
    show (q + 1) * bds q d * wts q r ≤ _
    rw [List.length_cons, Nat.pow_succ, Nat.mul_comm]
    refine Nat.mul_le_mul (Nat.le_trans a (Nat.pow_le_pow_left (by decide) _)) ?_
    calc (q + 1) * bds q d ≤ 32 * 2 ^ 20 := Nat.mul_le_mul (by omega) (bds_le hq h (hd d (List.mem_cons_self ..)))
      _ = 2 ^ 25 := by decide
theorem strt_le {q : Nat} (h : q ≤ 16) : strt q ≤ 2 ^ 24 := by
  unfold strt
  have a : q * q ≤ 16 * 16 := Nat.mul_self_le_mul_self h
  calc (q * q - 1) * (q * q - q) * q * q ≤ 256 * 256 * 16 * 16 := Nat.mul_le_mul (Nat.mul_le_mul (Nat.mul_le_mul (by omega) (by omega)) h) h
    _ = 2 ^ 24 := by decide
theorem log_lt {n k m : Nat} (h : n ≤ 2 ^ k) (hk : k < m) : n.log2 < m := by
  by_cases e : n = 0
  · subst e
    exact Nat.lt_of_le_of_lt (Nat.zero_le _) hk
  · exact (Nat.log2_lt e).mpr (Nat.lt_of_le_of_lt h (Nat.pow_lt_pow_right (by decide) hk))
end Cnt
set_option Elab.async false
set_option linter.all false
set_option maxRecDepth 100000
set_option maxHeartbeats 1000000
set_option pp.maxSteps 400
/-! Numbers of straight maps, bends and steps, and back. No Python here. -/
namespace Fld

/-- how many rows of bends of told degrees (the last one first) -/
def pB (q : Nat) : List Nat → Nat
  | [] => 1
  | d :: r => pB q r * Cnt.bds q d
/-- how many straight places -/
def mP (q : Nat) (ds : List Nat) : Nat := if ds = [] then 1 else (q + 1) * q ^ (ds.length - 1) * pB q ds
/-- a number from digits, the lowest one first -/
def enD (q : Nat) : List Nat → Nat → Nat
  | [], r => r
  | t :: ts, r => enD q ts r * q + t
def deD (q : Nat) : Nat → Nat → List Nat
  | 0, _ => []
  | i + 1, m => m % q :: deD q i (m / q)
theorem deD_len (q : Nat) : ∀ i m, (deD q i m).length = i
  | 0, _ => rfl
  | i + 1, m => by
    show (deD q i (m / q)).length + 1 = i + 1
    rw [deD_len q i]
theorem deD_lt {q : Nat} (h : 0 < q) : ∀ i m, ∀ x ∈ deD q i m, x < q
  | 0, _, _, hx => by cases hx
  | i + 1, m, x, hx => by
    rcases List.mem_cons.mp hx with e | e
    · rw [e]
      exact Nat.mod_lt _ h
    · exact deD_lt h i _ x e
theorem en_de (q : Nat) : ∀ i m, enD q (deD q i m) (m / q ^ i) = m
  | 0, m => by
    show m / 1 = m
    exact Nat.div_one m
  | i + 1, m => by
    show enD q (deD q i (m / q)) (m / q ^ (i + 1)) * q + m % q = m
    rw [Nat.pow_succ', ← Nat.div_div_eq_div_mul, en_de q i (m / q)]
    exact Nat.div_add_mod' m q
theorem deD_snoc (q : Nat) : ∀ i m, deD q (i + 1) m = deD q i m ++ [m / q ^ i % q]
  | 0, m => by
    show [m % q] = [] ++ [m / 1 % q]
    rw [Nat.div_one]
    rfl
  | i + 1, m => by
    show m % q :: deD q (i + 1) (m / q) = m % q :: (deD q i (m / q) ++ [m / q ^ (i + 1) % q])
    rw [deD_snoc q i, Nat.pow_succ', ← Nat.div_div_eq_div_mul]
/-- the same from the highest digit on -/
def hor (q : Nat) (r : Nat) (l : List Nat) : Nat := l.foldl (fun a t => a * q + t) r
theorem hor_rev (q : Nat) (r : Nat) (ts : List Nat) : hor q r ts.reverse = enD q ts r := by
  unfold hor
  rw [List.foldl_reverse]
  induction ts with
  | nil => rfl
  | cons t ts ih =>
    show (List.foldr (fun x y => y * q + x) r ts) * q + t = enD q ts r * q + t
    rw [ih]
theorem hor_snoc (q r : Nat) (l : List Nat) (t : Nat) : hor q r (l ++ [t]) = hor q r l * q + t := by
  unfold hor
  rw [List.foldl_append]
  rfl
theorem hor_from (q r : Nat) : ∀ l : List Nat, hor q r l = r * q ^ l.length + hor q 0 l := fun l => by
  suffices h : ∀ (l : List Nat) (r s : Nat), hor q (r + s) l = r * q ^ l.length + hor q s l by
    have := h l r 0
    rwa [Nat.add_zero] at this
  intro l
  induction l with
  | nil =>
    intro r s
    show r + s = r * q ^ 0 + s
    rw [Nat.pow_zero, Nat.mul_one]
  | cons t l ih =>
    intro r s
    show hor q ((r + s) * q + t) l = r * q ^ (l.length + 1) + hor q (s * q + t) l
    have e : (r + s) * q + t = r * q + (s * q + t) := by
      rw [Nat.add_mul, Nat.add_assoc]
    rw [e, ih, Nat.pow_succ, Nat.mul_assoc, Nat.mul_comm q]
/-! ### bends -/
/-- a bend by its number, as plain numbers -/
def bAt (q d n : Nat) : List Nat := 0 :: 0 :: ((deD q (d - 2) (n / (q - 1))).reverse ++ [n % (q - 1) + 1])
/-- the number of a bend: what stands between, and the last one -/
def bNum (q : Nat) (f : List Nat) : Nat := hor q 0 ((f.drop 2).take (f.length - 3)) * (q - 1) + (f.getLastD 0 - 1)
theorem bAt_len (q d n : Nat) (h : 2 ≤ d) : (bAt q d n).length = d + 1 := by
  unfold bAt
  simp only [List.length_cons, List.length_append, List.length_reverse, deD_len, List.length_nil]
  omega
theorem bAt_mid (q d n : Nat) (h : 2 ≤ d) : ((bAt q d n).drop 2).take ((bAt q d n).length - 3) = (deD q (d - 2) (n / (q - 1))).reverse := by
  rw [bAt_len q d n h]
  show ((deD q (d - 2) (n / (q - 1))).reverse ++ [n % (q - 1) + 1]).take (d + 1 - 3) = _
  rw [List.take_left' (by rw [List.length_reverse, deD_len]; omega)]
theorem bAt_last (q d n : Nat) : (bAt q d n).getLastD 0 = n % (q - 1) + 1 := by
  unfold bAt
  rw [show (0 :: 0 :: ((deD q (d - 2) (n / (q - 1))).reverse ++ [n % (q - 1) + 1]) : List Nat) = (0 :: 0 :: (deD q (d - 2) (n / (q - 1))).reverse) ++ [n % (q - 1) + 1] from rfl, List.getLastD_eq_getLast?, List.getLast?_concat]
  rfl
theorem bNum_at {q d n : Nat} (h : 2 ≤ d) (hn : n < Cnt.bds q d) : bNum q (bAt q d n) = n := by
  unfold bNum
  rw [bAt_mid q d n h, bAt_last, hor_rev]
  have h1 : 0 < q - 1 := by
    unfold Cnt.bds at hn
    refine Nat.pos_of_ne_zero fun z => ?_
    rw [z, Nat.zero_mul] at hn
    omega
  have h2 : n / (q - 1) < q ^ (d - 2) := by
    unfold Cnt.bds at hn
    rw [Nat.div_lt_iff_lt_mul h1, Nat.mul_comm]
    exact hn
  have e := en_de q (d - 2) (n / (q - 1))
  rw [Nat.div_eq_of_lt h2] at e
  rw [e, Nat.add_sub_cancel]
  exact Nat.div_add_mod' n (q - 1)
/-! ### rows of bends, the last one first -/
def enB (q : Nat) : List (List Nat) → Nat → Nat
  | [], s => s
  | f :: r, s => enB q r s * Cnt.bds q (f.length - 1) + bNum q f
def deB (q : Nat) : List Nat → Nat → List (List Nat)
  | [], _ => []
  | d :: r, m => bAt q d (m % Cnt.bds q d) :: deB q r (m / Cnt.bds q d)
theorem bds_pos {q d : Nat} (h : 2 ≤ q) : 0 < Cnt.bds q d := Nat.mul_pos (by omega) (Nat.pow_pos (by omega))
theorem pB_pos {q : Nat} (h : 2 ≤ q) : ∀ ds, 0 < pB q ds
  | [] => by
    show 0 < 1
    omega
  | d :: r => Nat.mul_pos (pB_pos h r) (bds_pos h)
theorem deB_len (q : Nat) : ∀ ds m, (deB q ds m).length = ds.length
  | [], _ => rfl
  | d :: r, m => by
    show (deB q r _).length + 1 = r.length + 1
    rw [deB_len q r]
theorem deB_degs {q : Nat} : ∀ {ds : List Nat} (m : Nat), (∀ d ∈ ds, 2 ≤ d) → (deB q ds m).map (fun f => f.length - 1) = ds
  | [], _, _ => rfl
  | d :: r, m, h => by
    show ((bAt q d (m % Cnt.bds q d)).length - 1) :: ((deB q r (m / Cnt.bds q d)).map fun f => f.length - 1) = d :: r
    rw [bAt_len q d _ (h d (List.mem_cons_self ..)), deB_degs _ fun x hx => h x (List.mem_cons_of_mem _ hx), Nat.add_sub_cancel]
theorem enB_de {q : Nat} (hq : 2 ≤ q) : ∀ {ds : List Nat} (m : Nat), (∀ d ∈ ds, 2 ≤ d) → enB q (deB q ds m) (m / pB q ds) = m
  | [], m, _ => by
    show m / 1 = m
    exact Nat.div_one m
  | d :: r, m, h => by
    have h2 := h d (List.mem_cons_self ..)
    show enB q (deB q r (m / Cnt.bds q d)) (m / (pB q r * Cnt.bds q d)) * Cnt.bds q ((bAt q d (m % Cnt.bds q d)).length - 1) + bNum q (bAt q d (m % Cnt.bds q d)) = m
    rw [Nat.mul_comm (pB q r), ← Nat.div_div_eq_div_mul, enB_de hq _ fun x hx => h x (List.mem_cons_of_mem _ hx), bAt_len q d _ h2, bNum_at h2 (Nat.mod_lt _ (bds_pos hq)), Nat.add_sub_cancel]
    exact Nat.div_add_mod' m (Cnt.bds q d)
/-! ### the number of a straight place -/
/-- start, bends (the last one first), turns (the last one first): its number -/
def rk (q : Nat) (s : Nat) (bs : List (List Nat)) (ts : List Nat) : Nat := enD q ts (enB q bs s)
/-- the start from 0 on, for so many degrees (the last one first) and a number -/
def tOf (q : Nat) (ds : List Nat) (m : Nat) : List Nat := deD q (ds.length - 1) m
def bOf (q : Nat) (ds : List Nat) (m : Nat) : List (List Nat) := deB q ds (m / q ^ (ds.length - 1))
def sOf (q : Nat) (ds : List Nat) (m : Nat) : Nat := m / q ^ (ds.length - 1) / pB q ds
theorem rk_of {q : Nat} (hq : 2 ≤ q) {ds : List Nat} (h : ∀ d ∈ ds, 2 ≤ d) (m : Nat) : rk q (sOf q ds m) (bOf q ds m) (tOf q ds m) = m := by
  unfold rk sOf bOf tOf
  rw [enB_de hq _ h, en_de]
theorem sOf_lt {q : Nat} (hq : 2 ≤ q) {ds : List Nat} (h : ds ≠ []) {m : Nat} (hm : m < mP q ds) : sOf q ds m ≤ q := by
  unfold mP at hm
  rw [if_neg h] at hm
  unfold sOf
  rw [Nat.div_div_eq_div_mul]
  refine Nat.lt_succ_iff.mp ((Nat.div_lt_iff_lt_mul (Nat.mul_pos (Nat.pow_pos (by omega)) (pB_pos hq ds))).mpr ?_)
  rw [Nat.succ_eq_add_one, ← Nat.mul_assoc]
  exact hm
theorem sOf_nil {q m : Nat} (hm : m < mP q []) : sOf q [] m = 0 := by
  unfold mP at hm
  rw [if_pos rfl] at hm
  unfold sOf pB
  have e : m = 0 := by omega
  subst e
  simp
end Fld
set_option Elab.async false
set_option linter.all false
set_option maxRecDepth 100000
set_option maxHeartbeats 1000000
set_option pp.maxSteps 600
/-! Straight maps by their numbers; steps by theirs. No Python here. -/
namespace Fld
theorem pB_snoc (q : Nat) : ∀ (r : List Nat) (d : Nat), pB q (r ++ [d]) = pB q r * Cnt.bds q d
  | [], d => by
    show 1 * Cnt.bds q d = 1 * Cnt.bds q d
    rfl
  | x :: r, d => by
    show pB q (r ++ [d]) * Cnt.bds q x = pB q r * Cnt.bds q x * Cnt.bds q d
    rw [pB_snoc q r d]
    ac_rfl
theorem deB_snoc (q : Nat) : ∀ (r : List Nat) (d m : Nat), deB q (r ++ [d]) m = deB q r m ++ [bAt q d (m / pB q r % Cnt.bds q d)]
  | [], d, m => by
    show [bAt q d (m % Cnt.bds q d)] = [bAt q d (m / 1 % Cnt.bds q d)]
    rw [Nat.div_one]
  | x :: r, d, m => by
    show bAt q x (m % Cnt.bds q x) :: deB q (r ++ [d]) (m / Cnt.bds q x) = bAt q x (m % Cnt.bds q x) :: (deB q r (m / Cnt.bds q x) ++ [bAt q d (m / (pB q r * Cnt.bds q x) % Cnt.bds q d)])
    rw [deB_snoc q r d, Nat.div_div_eq_div_mul, Nat.mul_comm (pB q r)]
theorem mP_chs {q : Nat} : ∀ rs : List Nat, mP q rs = Cnt.chs q rs.reverse
  | [] => rfl
  | d :: r => by
    rw [List.reverse_cons, Cnt.chs_snoc, ← mP_chs r, List.length_reverse]
    unfold mP
    rw [if_neg (by simp)]
    cases r with
    | nil => simp [pB]
    | cons x r =>
      rw [if_neg (by simp), if_neg (by simp)]
      show (q + 1) * q ^ (r.length + 1) * (pB q (x :: r) * Cnt.bds q d) = (q + 1) * q ^ r.length * pB q (x :: r) * (q * Cnt.bds q d)
      rw [Nat.pow_succ]
      ac_rfl
section
variable {q : Nat} [F : IsF q]
/-- the number n, if it is one -/
def el (n : Nat) : El q := ⟨n % q, Nat.mod_lt _ (Nat.lt_trans Nat.zero_lt_one (gt1 F.mem))⟩
theorem el_val {n : Nat} (h : n < q) : (el n : El q).val = n := Nat.mod_eq_of_lt h
theorem val_zero : (0 : El q).val = 0 := rfl
theorem ne_zero {x : El q} (h : x.val ≠ 0) : x ≠ 0 := fun z => h (by rw [z]; rfl)
theorem el_ne {n : Nat} (h : n < q) (h0 : n ≠ 0) : (el n : El q) ≠ 0 := ne_zero (by rw [el_val h]; exact h0)
/-- the number e for which a e - b d is 0 -/
def bar (a b d : El q) : El q := b * d * El.under a
theorem det_bar {a b c d e f : El q} (ha : a ≠ 0) (h : e ≠ bar a b d) : det (⟨a, b, c, d, e, f⟩ : Mat q) ≠ 0 := by
  intro z
  unfold det at z
  simp only [] at z
  have i := El.mul_inv ha
  refine h ?_
  unfold bar
  grind
theorem det_low {b c d e f : El q} (hb : b ≠ 0) (hd : d ≠ 0) : det (⟨0, b, c, d, e, f⟩ : Mat q) ≠ 0 := by
  intro z
  unfold det at z
  simp only [] at z
  have i := El.mul_inv hb
  refine hd ?_
  grind
/-- the second two numbers, by theirs -/
def secD (a : Nat) (q k : Nat) : Nat := if a = 0 then k / q + 1 else k / (q - 1)
def secE (br a q k : Nat) : Nat := if a = 0 then k % q else if br ≤ k % (q - 1) then k % (q - 1) + 1 else k % (q - 1)
def secN (br a q d e : Nat) : Nat := if a = 0 then (d - 1) * q + e else d * (q - 1) + (if br < e then e - 1 else e)
theorem secN_at (br a : Nat) {q k : Nat} (h : 1 < q) : secN br a q (secD a q k) (secE br a q k) = k := by
  unfold secN secD secE
  by_cases ha : a = 0
  · rw [if_pos ha, if_pos ha, if_pos ha, Nat.add_sub_cancel]
    exact Nat.div_add_mod' k q
  · rw [if_neg ha, if_neg ha, if_neg ha]
    have e : (if br < (if br ≤ k % (q - 1) then k % (q - 1) + 1 else k % (q - 1)) then (if br ≤ k % (q - 1) then k % (q - 1) + 1 else k % (q - 1)) - 1 else (if br ≤ k % (q - 1) then k % (q - 1) + 1 else k % (q - 1))) = k % (q - 1) := by
      by_cases hb : br ≤ k % (q - 1)
      · rw [if_pos hb, if_pos (by omega)]
        omega
      · rw [if_neg hb, if_neg (by omega)]
    rw [e]
    exact Nat.div_add_mod' k (q - 1)
theorem secD_lt (a : Nat) {q k : Nat} (h : 1 < q) (hk : k < q * q - q) : secD a q k < q := by
  have e : q * q - q = q * (q - 1) := by rw [Nat.mul_sub, Nat.mul_one]
  rw [e] at hk
  unfold secD
  split
  · have := (Nat.div_lt_iff_lt_mul (by omega : 0 < q)).mpr (by rw [Nat.mul_comm]; exact hk)
    omega
  · exact (Nat.div_lt_iff_lt_mul (by omega)).mpr hk
theorem secE_lt (br a : Nat) {q k : Nat} (h : 1 < q) : secE br a q k < q := by
  unfold secE
  have h1 := Nat.mod_lt k (by omega : 0 < q)
  have h2 := Nat.mod_lt k (by omega : 0 < q - 1)
  split
  · exact h1
  · split <;> omega
/-! the parts of the number of a straight map -/
def nF (q n : Nat) : Nat := n % q
def nK (q n : Nat) : Nat := n / q % (q * q - q)
def nC (q n : Nat) : Nat := n / q / (q * q - q) % q
theorem qq_pos {q : Nat} (h : 1 < q) : 0 < q * q - q := by
  have e : q * q - q = q * (q - 1) := by rw [Nat.mul_sub, Nat.mul_one]
  rw [e]
  exact Nat.mul_pos (Nat.lt_trans Nat.zero_lt_one h) (Nat.sub_pos_of_lt h)
def nA (q n : Nat) : Nat := (n / q / (q * q - q) / q + 1) / q
def nB (q n : Nat) : Nat := (n / q / (q * q - q) / q + 1) % q
theorem nA_lt {n : Nat} (hn : n < Cnt.strt q) : nA q n < q := by
  have q1 := gt1 F.mem
  have q2 := qq_pos q1
  unfold Cnt.strt at hn
  have h1 : n / q < (q * q - 1) * (q * q - q) * q := (Nat.div_lt_iff_lt_mul (by omega)).mpr hn
  have h2 : n / q / (q * q - q) < (q * q - 1) * q := (Nat.div_lt_iff_lt_mul q2).mpr (by rw [Nat.mul_right_comm]; exact h1)
  have h3 : n / q / (q * q - q) / q < q * q - 1 := (Nat.div_lt_iff_lt_mul (by omega)).mpr h2
  unfold nA
  exact (Nat.div_lt_iff_lt_mul (by omega)).mpr (by omega)
theorem nAB {n : Nat} : nA q n * q + nB q n = n / q / (q * q - q) / q + 1 := Nat.div_add_mod' _ q
theorem nB_ne {n : Nat} (h : nA q n = 0) : nB q n ≠ 0 := fun z => by
  have := nAB (q := q) (n := n)
  rw [h, z, Nat.zero_mul] at this
  exact Nat.succ_ne_zero _ this.symm
/-- the straight map with a number -/
def sAt (q : Nat) [IsF q] (n : Nat) : Mat q :=
  ⟨el (nA q n), el (nB q n), el (nC q n), el (secD (nA q n) q (nK q n)),
    el (secE (bar (el (nA q n)) (el (nB q n)) (el (secD (nA q n) q (nK q n))) : El q).val (nA q n) q (nK q n)), el (nF q n)⟩
theorem sAt_ok {n : Nat} (hn : n < Cnt.strt q) : det (sAt q n) ≠ 0 := by
  have q1 := gt1 F.mem
  have ha := nA_lt hn
  have hb : nB q n < q := Nat.mod_lt _ (by omega)
  have hk : nK q n < q * q - q := Nat.mod_lt _ (qq_pos q1)
  have hd := secD_lt (nA q n) q1 hk
  unfold sAt
  by_cases h0 : nA q n = 0
  · have ea : (el (nA q n) : El q) = 0 := El.ext (by rw [el_val ha, h0]; rfl)
    rw [ea]
    refine det_low (el_ne hb (nB_ne h0)) (el_ne hd ?_)
    unfold secD
    rw [if_pos h0]
    exact Nat.succ_ne_zero _
  · refine det_bar (el_ne ha h0) fun z => ?_
    have z2 := congrArg El.val z
    rw [el_val (secE_lt _ _ q1)] at z2
    revert z2
    generalize (bar (el (nA q n)) (el (nB q n)) (el (secD (nA q n) q (nK q n))) : El q).val = br
    unfold secE
    rw [if_neg h0]
    split <;> omega
/-- the number of a straight map -/
def sNum (m : Mat q) : Nat := (((m.a.val * q + m.b.val - 1) * q + m.c.val) * (q * q - q) + secN (bar m.a m.b m.d).val m.a.val q m.d.val m.e.val) * q + m.f.val
theorem sNum_at {n : Nat} (hn : n < Cnt.strt q) : sNum (sAt q n) = n := by
  have q1 := gt1 F.mem
  have ha := nA_lt hn
  have hb : nB q n < q := Nat.mod_lt _ (by omega)
  have hc : nC q n < q := Nat.mod_lt _ (by omega)
  have hf : nF q n < q := Nat.mod_lt _ (by omega)
  have hk : nK q n < q * q - q := Nat.mod_lt _ (qq_pos q1)
  have hd := secD_lt (nA q n) q1 hk
  unfold sNum sAt
  simp only []
  rw [el_val ha, el_val hb, el_val hc, el_val hd, el_val hf, el_val (secE_lt _ _ q1), secN_at _ _ q1, nAB, Nat.add_sub_cancel]
  unfold nC nK nF
  rw [Nat.div_add_mod' (n / q / (q * q - q)) q, Nat.div_add_mod' (n / q) (q * q - q)]
  exact Nat.div_add_mod' n q
end
end Fld
set_option Elab.async false
set_option linter.all false
set_option maxRecDepth 100000
set_option maxHeartbeats 1000000
set_option pp.maxSteps 600
/-! The step with a number. No Python here. -/
namespace Fld
section
variable {q : Nat} [F : IsF q]
def pol (l : List Nat) : Po q := l.map el
theorem pol_val {l : List Nat} (h : ∀ x ∈ l, x < q) : (pol l : Po q).map El.val = l := by
  unfold pol
  rw [List.map_map]
  induction l with
  | nil => rfl
  | cons a l ih =>
    rw [List.map_cons, ih fun x hx => h x (List.mem_cons_of_mem _ hx)]
    show (el a : El q).val :: l = a :: l
    rw [el_val (h a (List.mem_cons_self ..))]
theorem bAt_lt {d n : Nat} : ∀ x ∈ bAt q d n, x < q := by
  have q1 := gt1 F.mem
  intro x hx
  unfold bAt at hx
  rcases List.mem_cons.mp hx with e | hx
  · omega
  rcases List.mem_cons.mp hx with e | hx
  · omega
  rcases List.mem_append.mp hx with hx | hx
  · exact deD_lt (by omega) _ _ x (List.mem_reverse.mp hx)
  · rw [List.mem_singleton.mp hx]
    have := Nat.mod_lt n (by omega : 0 < q - 1)
    omega
theorem bAt_isB {d n : Nat} (h : 2 ≤ d) : IsB (pol (bAt q d n) : Po q) := by
  have q1 := gt1 F.mem
  have len : (pol (bAt q d n) : Po q).length = d + 1 := by
    unfold pol
    rw [List.length_map, bAt_len q d n h]
  have top : co (pol (bAt q d n) : Po q) d ≠ 0 := by
    have e : (bAt q d n)[d]? = some (n % (q - 1) + 1) := by
      have l := bAt_last q d n
      rw [List.getLastD_eq_getLast?, List.getLast?_eq_getElem?, bAt_len q d n h, Nat.add_sub_cancel] at l
      cases g : (bAt q d n)[d]? with
      | none =>
        rw [g] at l
        cases l
      | some x =>
        rw [g] at l
        exact congrArg some l
    have lt := bAt_lt (q := q) _ (List.mem_of_getElem? e)
    unfold co pol
    rw [List.getD_eq_getElem?_getD, List.getElem?_map, e]
    exact el_ne lt (Nat.succ_ne_zero _)
  refine ⟨⟨trim_of_top len top, ?_, ?_⟩, fun z => ?_⟩
  · show (el 0 : El q) = 0
    exact El.ext (el_val (by omega))
  · show (el 0 : El q) = 0
    exact El.ext (el_val (by omega))
  · rw [z] at len
    cases len
/-- a start as a turn -/
def so (s : Nat) : Option (El q) := if s = 0 then none else some (el (s - 1))
/-- from 0 on: none, and the numbers -/
def tv : Option (El q) → Nat
  | none => 0
  | some t => t.val + 1
theorem tv_so {s : Nat} (h : s ≤ q) : tv (so s : Option (El q)) = s := by
  have q1 := gt1 F.mem
  unfold so
  split
  · rename_i e
    exact e.symm
  · show (el (s - 1) : El q).val + 1 = s
    rw [el_val (by omega)]
    omega
def bsN (st : List (Option (El q) × Po q)) : List (List Nat) := st.map fun x => x.2.map El.val
def tsN (st : List (Option (El q) × Po q)) : List Nat := st.dropLast.map fun x => tv x.1 - 1
def sN (st : List (Option (El q) × Po q)) : Nat := (st.getLast?.map fun x => tv x.1).getD 0
/-- the number of the place in which a step lies -/
def nRk (st : List (Option (El q) × Po q)) : Nat := rk q (sN st) (bsN st) (tsN st)
def nStep (z : Sta q) : Nat := nRk z.st * Cnt.strt q + sNum z.last
/-- turns, a start and bends -/
def mkSt (ts : List Nat) (o : Option (El q)) (gs : List (Po q)) : List (Option (El q) × Po q) := (ts.map (fun t => some (el t)) ++ [o]).zip gs
theorem mk_cons (t : Nat) (ts : List Nat) (o : Option (El q)) (g : Po q) (gs : List (Po q)) : mkSt (t :: ts) o (g :: gs) = (some (el t), g) :: mkSt ts o gs := rfl
theorem mk_ne {ts : List Nat} {o : Option (El q)} {gs : List (Po q)} (h : gs.length = ts.length + 1) : mkSt ts o gs ≠ [] := by
  intro z
  have e : (mkSt ts o gs).length = gs.length := by
    unfold mkSt
    rw [List.length_zip, List.length_append, List.length_map, h]
    exact Nat.min_self _
  rw [z, h] at e
  exact Nat.succ_ne_zero _ e.symm
theorem mk_all : ∀ {ts : List Nat} {o : Option (El q)} {gs : List (Po q)}, gs.length = ts.length + 1 → (∀ t ∈ ts, t < q) →
    (mkSt ts o gs).map (·.2) = gs ∧ tsN (mkSt ts o gs) = ts ∧ sN (mkSt ts o gs) = tv o ∧ ((∀ g ∈ gs, IsB g) → Good (mkSt ts o gs))
  | [], o, [g], _, _ => ⟨rfl, rfl, rfl, fun h => ⟨h g (List.mem_cons_self ..), fun z => absurd rfl z, True.intro⟩⟩
  | t :: ts, o, g :: gs, hl, ht => by
    have hl' : gs.length = ts.length + 1 := Nat.succ.inj hl
    obtain ⟨h1, h2, h3, h4⟩ := mk_all (o := o) hl' fun x hx => ht x (List.mem_cons_of_mem _ hx)
    have ne := mk_ne (o := o) hl'
    rw [mk_cons]
    obtain ⟨y, r, er⟩ := List.exists_cons_of_ne_nil ne
    refine ⟨?_, ?_, ?_, fun h => ⟨h g (List.mem_cons_self ..), fun _ => (fun z => nomatch z), h4 fun x hx => h x (List.mem_cons_of_mem _ hx)⟩⟩
    · rw [List.map_cons, h1]
    · unfold tsN at h2 ⊢
      rw [er] at h2 ⊢
      rw [List.dropLast_cons₂, List.map_cons, h2]
      show ((el t : El q).val + 1 - 1) :: ts = t :: ts
      rw [el_val (ht t (List.mem_cons_self ..)), Nat.add_sub_cancel]
    · unfold sN at h3 ⊢
      rw [er] at h3 ⊢
      rw [List.getLast?_cons_cons]
      exact h3
  | [], _, [], h, _ => by cases h
  | [], _, _ :: _ :: _, h, _ => by cases h
  | _ :: _, _, [], h, _ => by cases h
/-- the step with a number: degrees (the last one first), the number of its place and of its last map -/
def stOf (q : Nat) [IsF q] (rs : List Nat) (m : Nat) : List (Option (El q) × Po q) := mkSt (tOf q rs m) (so (sOf q rs m)) ((bOf q rs m).map pol)
def zOf (q : Nat) [IsF q] (rs : List Nat) (m n : Nat) : Sta q := ⟨stOf q rs m, sAt q n⟩
theorem deB_pol : ∀ (rs : List Nat) (m : Nat), ((deB q rs m).map pol : List (Po q)).map (fun g => g.map El.val) = deB q rs m
  | [], _ => rfl
  | d :: r, m => by
    show (pol (bAt q d (m % Cnt.bds q d)) : Po q).map El.val :: ((deB q r (m / Cnt.bds q d)).map pol : List (Po q)).map (fun g => g.map El.val) = _
    rw [pol_val bAt_lt, deB_pol r]
    rfl
theorem deB_isB : ∀ {rs : List Nat} (m : Nat), (∀ d ∈ rs, 2 ≤ d ∧ d ≤ 6) → ∀ g ∈ ((deB q rs m).map pol : List (Po q)), IsB g ∧ g.length ≤ 7
  | [], _, _, g, hg => by cases hg
  | d :: r, m, h, g, hg => by
    obtain ⟨h2, h6⟩ := h d (List.mem_cons_self ..)
    rcases List.mem_cons.mp hg with e | e
    · rw [e]
      refine ⟨bAt_isB h2, ?_⟩
      unfold pol
      rw [List.length_map, bAt_len q d _ h2]
      omega
    · exact deB_isB _ (fun x hx => h x (List.mem_cons_of_mem _ hx)) g e
theorem stOf_nil (m : Nat) : stOf q [] m = [] := rfl
theorem stOf_len {rs : List Nat} (h0 : rs ≠ []) (m : Nat) : ((bOf q rs m).map pol : List (Po q)).length = (tOf q rs m).length + 1 := by
  unfold bOf tOf
  rw [List.length_map, deB_len, deD_len]
  have := List.length_pos_iff.mpr h0
  omega
theorem stOf_all {rs : List Nat} {m : Nat} (hm : m < mP q rs) : bsN (stOf q rs m) = bOf q rs m ∧ tsN (stOf q rs m) = tOf q rs m ∧ sN (stOf q rs m) = sOf q rs m ∧ ((∀ d ∈ rs, 2 ≤ d ∧ d ≤ 6) → Good (stOf q rs m) ∧ ∀ x ∈ stOf q rs m, x.2.length ≤ 7) := by
  have q1 := gt1 F.mem
  by_cases h0 : rs = []
  · subst h0
    exact ⟨rfl, rfl, (sOf_nil hm).symm, fun _ => ⟨True.intro, fun x hx => by cases hx⟩⟩
  · obtain ⟨a1, a2, a3, a4⟩ := mk_all (q := q) (o := so (sOf q rs m)) (stOf_len h0 m) (deD_lt (by omega) _ _)
    have e2 : (stOf q rs m).map (·.2) = ((bOf q rs m).map pol : List (Po q)) := a1
    refine ⟨?_, a2, a3.trans (tv_so (sOf_lt (by omega) h0 hm)), fun hd => ⟨a4 fun g hg => (deB_isB _ hd g hg).1, fun x hx => ?_⟩⟩
    · have : bsN (stOf q rs m) = ((stOf q rs m).map (·.2)).map (fun g => g.map El.val) := by
        unfold bsN
        rw [List.map_map]
        rfl
      rw [this, e2]
      exact deB_pol _ _
    · refine (deB_isB (q := q) (m / q ^ (rs.length - 1)) hd x.2 ?_).2
      have : x.2 ∈ (stOf q rs m).map (·.2) := List.mem_map.mpr ⟨x, hx, rfl⟩
      rw [e2] at this
      exact this
theorem nRk_of {rs : List Nat} (hd : ∀ d ∈ rs, 2 ≤ d ∧ d ≤ 6) {m : Nat} (hm : m < mP q rs) : nRk (stOf q rs m) = m := by
  have q1 := gt1 F.mem
  obtain ⟨e1, e2, e3, _⟩ := stOf_all hm
  unfold nRk
  rw [e1, e2, e3]
  exact rk_of (by omega) (fun d h => (hd d h).1) m
theorem nStep_of {rs : List Nat} (hd : ∀ d ∈ rs, 2 ≤ d ∧ d ≤ 6) {m n : Nat} (hm : m < mP q rs) (hn : n < Cnt.strt q) : nStep (zOf q rs m n) = m * Cnt.strt q + n := by
  unfold nStep zOf
  simp only []
  rw [nRk_of hd hm, sNum_at hn]
theorem zOf_len (rs : List Nat) (m n : Nat) : (zOf q rs m n).st.length = rs.length := by
  by_cases h0 : rs = []
  · subst h0
    rfl
  · have h := stOf_len (q := q) h0 m
    show (mkSt _ _ _).length = _
    unfold mkSt
    rw [List.length_zip, List.length_append, List.length_map, List.length_singleton, h, Nat.min_self]
    unfold tOf
    rw [deD_len]
    have := List.length_pos_iff.mpr h0
    omega
theorem zOf_degs {rs : List Nat} (hd : ∀ d ∈ rs, 2 ≤ d ∧ d ≤ 6) {m : Nat} (n : Nat) (hm : m < mP q rs) : (zOf q rs m n).st.map (fun x => x.2.length - 1) = rs := by
  obtain ⟨e1, _⟩ := stOf_all hm
  have : (stOf q rs m).map (fun x => x.2.length - 1) = (bsN (stOf q rs m)).map (fun f => f.length - 1) := by
    unfold bsN
    rw [List.map_map]
    refine List.map_congr_left fun x _ => ?_
    show _ = (x.2.map El.val).length - 1
    rw [List.length_map]
  show (stOf q rs m).map _ = rs
  rw [this, e1]
  exact deB_degs _ fun d h => (hd d h).1
end
end Fld
namespace BP
open Fld
theorem zOf_fit {q : Nat} [F : IsF q] {rs : List Nat} (hd : ∀ d ∈ rs, 2 ≤ d ∧ d ≤ 6) (hl : rs.length ≤ 12) {m n : Nat} (hm : m < mP q rs) (hn : n < Cnt.strt q) : Fit (zOf q rs m n) := by
  obtain ⟨_, _, _, e4⟩ := stOf_all hm
  obtain ⟨g, b⟩ := e4 hd
  refine ⟨⟨g, sAt_ok hn⟩, b, ?_⟩
  rw [zOf_len]
  omega
end BP
set_option Elab.async false
set_option linter.all false
set_option maxRecDepth 100000
set_option maxHeartbeats 4000000
set_option pp.maxSteps 1000
namespace BP
open PySem PySem.Spec PyProof.Rows L2 Fld
theorem ip_mul {X : Cx} : PIp X .Mult (rI CMul fun i j => .int (i * j)) := iop_mul
theorem cmr {i : Int} {q : Nat} (h : q ≤ 1000) : CMul i (q : Int) := .inr ⟨by omega, by omega⟩
theorem strt_int {q : Nat} (h : q ∈ fields) : ((q : Int) * q - 1) * ((q : Int) * q - q) * q * q = ((Cnt.strt q : Nat) : Int) := by
  have a : fields.all (fun q => decide (((q : Int) * q - 1) * ((q : Int) * q - q) * q * q = ((Cnt.strt q : Nat) : Int))) = true := by decide +kernel
  exact of_decide_eq_true (List.all_eq_true.mp a q h)
def spStr : Sp := fun vs H Q _ => ∃ q : Nat, vs = [.int q] ∧ q ∈ fields ∧ Q (.int (Cnt.strt q : Nat)) H
def spBds : Sp := fun vs H Q _ => ∃ q d : Nat, vs = [.int q, .int d] ∧ q ∈ fields ∧ 2 ≤ d ∧ d ≤ 6 ∧ Q (.int (Cnt.bds q d : Nat)) H
/-- degrees, as a tuple -/
def Dgs (K : PySem.W.Frag) (H : Hp) (a : Addr) (ds : List Nat) : Prop := SqT K H a (iv ds) ∧ (∀ d ∈ ds, 2 ≤ d ∧ d ≤ 6) ∧ ds.length ≤ 12
def spStp (K : PySem.W.Frag) : Sp := fun vs H Q _ => ∃ (q : Nat) (a : Addr) (ds : List Nat), vs = [.int q, .ref a] ∧ q ∈ fields ∧ Dgs K H a ds ∧ ∀ H', Same H H' → Q (.int (Cnt.strt q * Cnt.chs q ds : Nat)) H'
end BP
namespace K13
open PySem PySem.Spec PyProof.Rows L2 BP Fld
section
variable {P : Program} {w : World} {K : PySem.W.Frag} {mg : Str → Option Value} {base : Heap}
theorem ok_manystr {f : Addr} {fd : FuncData} {k : Nat} (F : Fun K "many_straight" "many_straight" sManyStraight f fd) : FnOk P w K mg base CX0 (k + 1) f fd pManyStraight spStr := by
  refine F.ok scManyStraight (fun vs H Q E h => ?_) (fun cdv A outer s H vs Q E hr h => ?_)
  · obtain ⟨q, rfl, _⟩ := h
    rfl
  · obtain ⟨q, rfl, hq, want⟩ := h
    have q16 := le16 hq
    rw [← strt_int hq] at want
    have c : ∀ i : Int, CMul i (q : Int) := fun i => cmr (by omega)
    have c2 : ∀ i : Int, CMul i ((q : Int) * q - q) := by
      intro i
      have h1 : (q : Int) * q ≤ 16 * 16 := Int.mul_le_mul (by omega) (by omega) (by omega) (by omega)
      have h2 : 0 ≤ (q : Int) * q := Int.mul_nonneg (by omega) (by omega)
      exact .inr ⟨by omega, by omega⟩
    exact ⟨_, (pss_one (ps_ret (pe_op op_mul (pe_op op_mul (pe_op op_mul (pe_op op_sub (pe_op op_mul (pv 0) (pv 0)) pe_int) (pe_op op_sub (pe_op op_mul (pv 0) (pv 0)) (pv 0))) (pv 0)) (pv 0)))), ⟨.int q, rfl, .int q, rfl, q, q, rfl, rfl, c _, _, 1, rfl, rfl, .int q, rfl, .int q, rfl, q, q, rfl, rfl, c _, .int q, rfl, _, q, rfl, rfl, _, _, rfl, rfl, c2 _, .int q, rfl, _, q, rfl, rfl, c _, .int q, rfl, _, q, rfl, rfl, c _, want⟩⟩
theorem ok_manybd {f : Addr} {fd : FuncData} {k : Nat} (F : Fun K "many_bends" "many_bends" sManyBends f fd) (m_range : mg "range" = none) : FnOk P w K mg base CX0 (k + 1) f fd pManyBends spBds := by
  refine F.ok scManyBends (fun vs H Q E h => ?_) (fun cdv A outer s H vs Q E hr h => ?_)
  · obtain ⟨q, d, rfl, _⟩ := h
    rfl
  · obtain ⟨q, d, rfl, hq, d2, d6, want⟩ := h
    have q16 := le16 hq
    have q1 := gt1 hq
    refine ⟨_, (pss_cons (ps_set (i := 2) scManyBends.nd rfl (.inl rfl) (pe_op op_sub (pv 0) pe_int))
      (pss_cons (ps_for PassesOwn.never rfl (pi_range1 rfl m_range (pa_cons (pe_op op_sub (pv 1) pe_int) pa_nil)) (pg_name (i := 3) scManyBends.nd rfl (.inl rfl)) (pss_one (ps_aug (i := 2) scManyBends.nd rfl (.inl rfl) (pv 0) ip_mul)))
      (pss_one (ps_ret (pv 2))))), ?_⟩
    refine ⟨.int q, rfl, q, 1, rfl, rfl, ?_⟩
    refine ⟨.int d, rfl, d, 2, rfl, rfl, _, rfl, by omega, by omega, ?_⟩
    rw [show ((d : Int) - 2).toNat = d - 2 by omega]
    refine for_range (n := d - 2) (lo := 0) (fun i σ H' => H' = H ∧ ∃ y, σ = [some (.int q), some (.int d), some (.int ((q - 1) * q ^ i : Nat)), y]) ⟨rfl, none, ?_⟩ (fun i σ H' hi hW => ?_) (fun σ H' hW => ?_)
    · have e : ((q - 1) * q ^ 0 : Nat) = q - 1 := by simp
      rw [e]
      show _ = [some (V.int q), some (V.int d), some (V.int ((q - 1 : Nat) : Int)), none]
      rw [Int.ofNat_sub (by omega)]
      rfl
    · obtain ⟨rfl, y, rfl⟩ := hW
      refine ⟨_, rfl, .int q, rfl, _, q, rfl, rfl, cmr (by omega), rfl, some (.int (0 + (i : Int))), ?_⟩
      have e : ((q - 1) * q ^ (i + 1) : Nat) = (q - 1) * q ^ i * q := by rw [Nat.pow_succ, Nat.mul_assoc]
      rw [e, Int.natCast_mul]
      rfl
    · obtain ⟨rfl, y, rfl⟩ := hW
      exact ⟨_, rfl, want⟩
theorem ok_manyst {f fS fB : Addr} {fd fdS fdB : FuncData} {k : Nat} (F : Fun K "many_steps" "many_steps" sManySteps f fd) (STR : BP.Can P w K mg base "many_straight" 1 pManyStraight spStr fS fdS) (BDS : BP.Can P w K mg base "many_bends" 1 pManyBends spBds fB fdB) (m_enumerate : mg "enumerate" = none) : FnOk P w K mg base CX0 2 f fd pManySteps (spStp K) := by
  refine F.ok scManySteps (fun vs H Q E h => ?_) (fun cdv A outer s H vs Q E hr h => ?_)
  · obtain ⟨q, a, ds, rfl, _⟩ := h
    rfl
  · obtain ⟨q, a, ds, rfl, hq, ⟨hS, hd, hl⟩, want⟩ := h
    have q16 := le16 hq
    have q1 := gt1 hq
    refine ⟨_, (pss_cons (ps_set (i := 2) scManySteps.nd rfl (.inl rfl) (pe_call STR.ok hr (by rfl) STR.g STR.kp STR.b .nil pass0 (pa_cons (pv 0) pa_nil)))
      (pss_cons (ps_for PassesOwn.never rfl (pi_enumT (by rfl) m_enumerate (pa_cons (pv 1) pa_nil)) (pg_tup rfl (pgs_cons (pg_name (i := 3) scManySteps.nd rfl (.inl rfl)) (pgs_cons (pg_name (i := 4) scManySteps.nd rfl (.inl rfl)) pgs_nil))) (pss_one (ps_aug (i := 2) scManySteps.nd rfl (.inl rfl) (pe_op op_mul (pe_ifExp (pt_cmpR op_eq (pv 3) pe_int (nomark _)) (pe_op op_add (pv 0) pe_int) (pv 0)) (pe_call BDS.ok hr (by rfl) BDS.g BDS.kp BDS.b .nil pass0 (pa_cons (pv 0) (pa_cons (pv 4) pa_nil)))) ip_mul)))
      (pss_one (ps_ret (pv 2))))), ?_⟩
    refine ⟨.int q, rfl, q, rfl, hq, ?_⟩
    refine ⟨.ref a, rfl, a, _, rfl, hS, for_enumT (K := K) (a := a) (xs := iv ds) (fun i σ H' => Same H H' ∧ ∃ y z, σ = [some (.int q), some (.ref a), some (.int (Cnt.strt q * Cnt.chs q (ds.take i) : Nat)), y, z]) ⟨fun _ _ z => z, none, none, ?_⟩ (fun i σ H' _ hW => BP.Same.tupS hW.1 hS) (fun i x σ H' T' hi hW nT => ?_) (fun σ H' hW => ?_)⟩
    · show _ = [some (V.int q), some (V.ref a), some (V.int ((Cnt.strt q * 1 : Nat) : Int)), none, none]
      rw [Nat.mul_one]
      rfl
    · obtain ⟨s1, y, z, rfl⟩ := hW
      obtain ⟨d, ed, rfl⟩ : ∃ d : Nat, ds[i]? = some d ∧ x = .int d := by
        rw [List.getElem?_map] at hi
        cases e : ds[i]? with
        | none =>
          rw [e] at hi
          cases hi
        | some d =>
          rw [e] at hi
          exact ⟨d, rfl, (Option.some.inj hi).symm⟩
      have hi' : i < ds.length := (List.getElem?_eq_some_iff.mp ed).1
      obtain ⟨d2, d6⟩ := hd d (List.mem_of_getElem? ed)
      have sT := same_new (o := .tup [V.int (i : Nat), .int (d : Nat)]) nT
      refine ⟨T', _, rfl, .inl (.inl upd_same), rfl, _, [_], rfl, _, [], rfl, rfl, ?_⟩
      have hlen : (ds.take i).length = i := by rw [List.length_take]; omega
      have et : ds.take (i + 1) = ds.take i ++ [d] := by
        rw [List.take_add_one, ed]
        rfl
      have num : ∀ t : Nat, t = (if i = 0 then q + 1 else q) → CMul (t : Int) (Cnt.bds q d : Nat) ∧ CMul (Cnt.strt q * Cnt.chs q (ds.take i) : Nat) ((t : Int) * (Cnt.bds q d : Nat)) ∧
          ((Cnt.strt q * Cnt.chs q (ds.take i) : Nat) : Int) * ((t : Int) * (Cnt.bds q d : Nat)) = (Cnt.strt q * Cnt.chs q (ds.take (i + 1)) : Nat) := by
        intro t ht
        have b1 := Cnt.bds_le (by omega : 0 < q) q16 d6
        have t17 : t ≤ 17 := by rw [ht]; split <;> omega
        have p1 : t * Cnt.bds q d ≤ 17 * 2 ^ 20 := Nat.mul_le_mul t17 b1
        have p2 : ((t : Int) * (Cnt.bds q d : Nat)) = ((t * Cnt.bds q d : Nat) : Int) := (Int.natCast_mul ..).symm
        refine ⟨.inl ⟨by omega, by omega⟩, ?_, ?_⟩
        · rw [p2]
          exact .inr ⟨by omega, by omega⟩
        · have e3 : Cnt.strt q * Cnt.chs q (ds.take (i + 1)) = Cnt.strt q * Cnt.chs q (ds.take i) * (t * Cnt.bds q d) := by
            rw [et, Cnt.chs_snoc, hlen, ht, Nat.mul_assoc]
          rw [e3, p2, ← Int.natCast_mul]
      refine ⟨_, rfl, .int (i : Nat), rfl, rfl, _, rfl, ite2 (fun h => ?_) (fun h => ?_)⟩
      · have h0 : i = 0 := by
          have := V.int.inj (of_decide_eq_true h)
          omega
        obtain ⟨n1, n2, n3⟩ := num (q + 1) (by rw [if_pos h0])
        have e1 : ((q : Int) + 1) = ((q + 1 : Nat) : Int) := by omega
        rw [← e1] at n1 n2 n3
        refine ⟨.int q, rfl, q, 1, rfl, rfl, .int q, rfl, .int d, rfl, q, d, rfl, hq, d2, d6, _, _, rfl, rfl, n1, _, _, rfl, rfl, n2, s1.trans sT, some (.int (i : Nat)), some (.int (d : Nat)), ?_⟩
        rw [← n3]
        rfl
      · have h0 : ¬ i = 0 := fun z => h (decide_eq_true (by rw [z]; rfl))
        obtain ⟨n1, n2, n3⟩ := num q (by rw [if_neg h0])
        refine ⟨.int q, rfl, .int q, rfl, .int d, rfl, q, d, rfl, hq, d2, d6, _, _, rfl, rfl, n1, _, _, rfl, rfl, n2, s1.trans sT, some (.int (i : Nat)), some (.int (d : Nat)), ?_⟩
        rw [← n3]
        rfl
    · obtain ⟨s1, y, z, rfl⟩ := hW
      rw [show (iv ds).length = ds.length from List.length_map .., List.take_of_length_le (Nat.le_refl _)]
      exact ⟨_, rfl, want H' s1⟩
end
end K13
set_option Elab.async false
set_option linter.all false
set_option maxRecDepth 100000
set_option maxHeartbeats 4000000
set_option pp.maxSteps 400
namespace BP
open PySem PySem.Spec PyProof.Rows L2 Fld
def rLenK (K : PySem.W.Frag) : List V → Hp → VK → Prop := fun xs H Q => ∃ p ys, xs = [V.ref p] ∧ (SqL K H p ys ∨ SqT K H p ys) ∧ Q (V.int (ys.length : Nat)) H
theorem bit_and1 (n : Nat) : Builtin.bitAnd (n : Int) 1 = ((n % 2 : Nat) : Int) := by
  have h : n &&& 1 = n % 2 := Nat.and_one_is_mod n
  rw [← h]
  rfl
section
variable {q : Nat} [FF : IsF q]
/-- the degrees of the bends, the first one first -/
def dgV (st : List (Option (El q) × Po q)) : List V := (st.map fun x => V.int ((x.2.length : Nat) - 1 : Int)).reverse
theorem dgV_len (st : List (Option (El q) × Po q)) : (dgV st).length = st.length := by
  unfold dgV
  rw [List.length_reverse, List.length_map]
theorem dgV_at {st r : List (Option (El q) × Po q)} {i : Nat} (hi : i < st.length) {x : Option (El q) × Po q} (h : st.drop (st.length - (i + 1)) = x :: r) : (dgV st)[i]? = some (V.int ((x.2.length : Nat) - 1 : Int)) := by
  unfold dgV
  have hk : st.length - (i + 1) < st.length := by omega
  have d := List.drop_eq_getElem_cons hk
  rw [h] at d
  have e := (List.cons.inj d).1
  rw [List.getElem?_reverse (by rw [List.length_map]; exact hi), List.length_map, List.getElem?_map, show st.length - 1 - i = st.length - (i + 1) by omega, List.getElem?_eq_getElem hk, ← e]
  rfl
end
def spBDg (K : PySem.W.Frag) : Sp := fun vs H Q _ => ∃ (q : Nat) (_ : IsF q) (c : Addr) (z : Sta q), vs = [.ref c] ∧ StepAt K H c z ∧ z.st.length ≤ 900 ∧ ∀ (r : Addr) (H' : Hp), Same H H' → SqT K H' r (dgV z.st) → Q (.ref r) H'
def spDgs (K : PySem.W.Frag) : Sp := fun vs H Q _ => ∃ (q : Nat) (_ : IsF q) (c : Addr) (z : Sta q), vs = [.int q, .ref c] ∧ StepAt K H c z ∧ Fit z ∧ ∀ (r : Addr) (H' : Hp), Same H H' → SqT K H' r (dgV z.st) → Q (.ref r) H'
end BP
namespace K13
open PySem PySem.Spec PyProof.Rows L2 BP Fld
section
variable {P : Program} {w : World} {K : PySem.W.Frag} {mg : Str → Option Value} {base : Heap}
theorem ok_bdg {f : Addr} {fd : FuncData} {k : Nat} (F : Fun K "bend_degrees" "bend_degrees" sBendDegrees f fd) (m_len : mg "len" = none) (m_tuple : mg "tuple" = none) : FnOk P w K mg base CX0 (k + 1) f fd pBendDegrees (spBDg K) := by
  refine F.ok scBendDegrees (fun vs H Q E h => ?_) (fun cdv A outer s H vs Q E hr h => ?_)
  · obtain ⟨q, _, c, z, rfl, _⟩ := h
    rfl
  · obtain ⟨q, FF, c, z, rfl, hc, l9, want⟩ := h
    refine ⟨_, (pss_one (ps_ret (pe_tupleOf rfl m_tuple (pe_lc (own := [("bend", 1)]) (g := gName 1) (tt := tYes) rfl scBendDegrees.nd (pi_tup (pe_ix ix_tup (pv 0) pe_int (fun _ _ => rfl))) (blkOk_by (N := nBendDegrees) (sc := defScope sBendDegrees) (by decide +kernel)) (fun _ _ _ _ _ => (pg_name (i := 1) scBendDegrees.nd rfl (.inl rfl))) (fun _ _ _ _ _ => pts_nil) (fun _ _ _ _ _ => (pe_op op_sub (pe_callB (r := rLenK K) call_len_seq (by rfl) m_len PySem.boot_len (pa_cons (pv 1) pa_nil)) pe_int)))))), ?_⟩
    obtain ⟨start, ts, bs, t, b, l, h1, h2, h3, h4, h5⟩ := id hc
    obtain ⟨tt, hk⟩ : ∃ tt, Stk K H z.st tt bs := by
      rcases h5 with ⟨e1, e2, e3, e4⟩ | ⟨e1, e2⟩
      · exact ⟨[], by rw [e1, e4]; exact ⟨rfl, rfl⟩⟩
      · exact ⟨_, e2⟩
    have lb := (hk.len).2
    refine ⟨.ref c, rfl, c, _, 1, .ref b, rfl, rfl, h1, atI_nat (j := 1) rfl, b, rfl, ⟨bs, h2⟩, fun D nD => ?_⟩
    refine lc_it (walk_tup (K := K) (a := b) (xs := bs)) (fun i H' => Same H H' ∧ H' D = some (.lst ((dgV z.st).take i))) ⟨same_new nD, upd_same⟩ (fun i H' _ hW => BP.Same.tupS hW.1 h2) (fun i x H1 H2 hi hW hy => ?_) (fun H1 hW => ?_)
    · obtain ⟨s1, hD⟩ := hW
      obtain ⟨rfl, hx⟩ := hy
      obtain ⟨o, g, a, d1, d2, d3, d4⟩ := hk.at (i := i) (by omega)
      rw [d3] at hx
      obtain rfl := Option.some.inj hx
      have hg := BP.Same.tupS s1 d4
      refine ⟨rfl, yes_kept ?_⟩
      refine ⟨.ref a, rfl, a, vns g, rfl, .inr hg, _, 1, rfl, rfl, _, hD, ?_, fun b x e => ?_, ?_⟩
      · exact Nat.lt_of_le_of_lt (List.length_take_le ..) (Nat.lt_of_lt_of_le (show i < 1000 by omega) (by decide))
      · rw [upd_ne (ne_of_none e nD)]
        exact s1 b x e
      · rw [upd_same, List.take_add_one, dgV_at (by omega) d1]
        show _ = some (HO.lst (_ ++ [V.int ((g.length : Nat) - 1 : Int)]))
        rw [show (vns g).length = g.length from List.length_map ..]
    · obtain ⟨s1, hD⟩ := hW
      rw [lb, ← dgV_len z.st, List.take_length] at hD
      refine .inl ⟨D, _, rfl, .inl (.inl hD), fun r nr => ?_⟩
      have s2 := same_new (o := .tup (dgV z.st)) nr
      exact want r _ (s1.trans s2) (.inl (.inl upd_same))
theorem ok_dgs {f fL fB : Addr} {fd fdL fdB : FuncData} (F : Fun K "degrees_of" "degrees_of" sDegreesOf f fd) (LS : BP.Can P w K mg base "look_at_steps" 7 pLookAtSteps (spLookS K) fL fdL) (BD : BP.Can P w K mg base "bend_degrees" 7 pBendDegrees (spBDg K) fB fdB) : FnOk P w K mg base CX0 8 f fd pDegreesOf (spDgs K) := by
  refine F.ok scDegreesOf (fun vs H Q E h => ?_) (fun cdv A outer s H vs Q E hr h => ?_)
  · obtain ⟨q, _, c, z, rfl, _⟩ := h
    rfl
  · obtain ⟨q, FF, c, z, rfl, hc, fz, want⟩ := h
    refine ⟨_, (pss_cons (ps_expr (pe_call LS.ok hr (by rfl) LS.g LS.kp LS.b .nil pass0 (pa_cons (pv 0) (pa_cons (pe_lst (pa_cons (pv 1) pa_nil)) pa_nil))))
      (pss_one (ps_ret (pe_call BD.ok hr (by rfl) BD.g BD.kp BD.b .nil pass0 (pa_cons (pv 1) pa_nil))))), ?_⟩
    refine ⟨.int q, rfl, .ref c, rfl, (by show 1 ≤ sizeLine; decide), fun l nl => ?_⟩
    have s0 := same_new (o := .lst [V.ref c]) nl
    have hc0 := hc.kept fun _ _ => BP.Same.tupS s0
    refine ⟨q, FF, l, [c], rfl, .inl (.inl upd_same), fun e he => ?_, fun H1 s1 => ?_⟩
    · exact ⟨z, by rw [List.mem_singleton.mp he]; exact hc0, fz⟩
    · exact ⟨.ref c, rfl, q, FF, c, z, rfl, hc0.kept fun _ _ => BP.Same.tupS s1, Nat.le_trans fz.2.2 (by decide), fun r H2 s2 h2 => want r H2 (s0.trans (s1.trans s2)) h2⟩
end
end K13
set_option Elab.async false
set_option linter.all false
set_option maxRecDepth 100000
set_option maxHeartbeats 4000000
set_option pp.maxSteps 400
/-! t[::-1] of a tuple. -/
namespace BP
open PySem PySem.Spec PyProof.Rows L2 Fld
theorem adjust_rev (n : Nat) : Builtin.Slice.sliceAdjust none none (-1) (n : Int) = ((n : Int) - 1, -1) := rfl
theorem places_rev (n : Nat) : Builtin.Slice.slicePlaces ((n : Int) - 1) (-1) (-1) = n := by
  unfold Builtin.Slice.slicePlaces
  rw [if_neg (by omega)]
  by_cases h : (n : Int) - 1 > -1
  · rw [if_pos h]
    have e : ((n : Int) - 1 - -1 - 1) / (- -1) = (n : Int) - 1 := by
      rw [show (- -1 : Int) = 1 by omega, Int.ediv_one]
      omega
    rw [e]
    omega
  · rw [if_neg h]
    omega
theorem pick_rev (xs : List Value) : ((List.range xs.length).filterMap fun (k : Nat) => xs.toArray[(((xs.length : Nat) : Int) - 1 + (k : Int) * -1).toNat]?).toArray = xs.reverse.toArray := by
  have e : ∀ n, n ≤ xs.length → ((List.range n).filterMap fun (k : Nat) => xs.toArray[(((xs.length : Nat) : Int) - 1 + (k : Int) * -1).toNat]?) = xs.reverse.take n := by
    intro n hn
    induction n with
    | zero => rfl
    | succ n ih =>
      rw [List.range_succ, List.filterMap_append, ih (by omega), List.take_add_one]
      have e1 : (((xs.length : Nat) : Int) - 1 + (n : Int) * -1).toNat = xs.length - 1 - n := by omega
      have e2 : xs.reverse[n]? = xs[xs.length - 1 - n]? := List.getElem?_reverse (by omega)
      have h3 : xs[xs.length - 1 - n]? = some (xs[xs.length - 1 - n]'(by omega)) := List.getElem?_eq_getElem _
      rw [e2, h3]
      congr 1
      show List.filterMap _ [n] = _
      rw [List.filterMap_cons, e1]
      rw [List.getElem?_toArray, h3]
      rfl
  rw [e xs.length (Nat.le_refl _), List.take_of_length_le (by rw [List.length_reverse]; exact Nat.le_refl _)]
section
variable {prog : Program} {w : World} {A : Around} {E : Value → Shared → Prop} {s : Shared}
theorem rev_applied {sl : Addr} {vl vu vs : Value} {n : Nat} {Q : Int × Int × Nat → Shared → Prop} (hs : s.heap.IsSliceOf sl vl vu vs) (pl : IsPart vl none) (pu : IsPart vu none) (pt : IsPart vs (some (-1)))
    (h : Q ((n : Int) - 1, -1, n) s) : wpAny (model prog w) A (Builtin.Slice.sliceApplied (.ref sl) (pure (n : Int))) Q E s := by
  obtain ⟨os, ho, hc, hd⟩ := hs
  unfold Builtin.Slice.sliceApplied Builtin.Slice.sliceFields
  refine wpAny_bind (wpAny_bind (wpAny_field ho hd (x := vl) rfl (wpAny_bind (wpAny_field ho hd (x := vu) rfl (wpAny_bind (wpAny_field ho hd (x := vs) rfl (wpAny_pure (wpAny_bind (HT.slicePart_ pt ?_)))))))))
  show wpAny _ _ (if ((-1 : Int) == 0) = true then _ else _) _ _ s
  rw [if_neg (by decide)]
  refine wpAny_bind (HT.slicePart_ pl (wpAny_bind (HT.slicePart_ pu (wpAny_bind (wpAny_pure ?_)))))
  show wpAny _ _ (pure ((n : Int) - 1, (-1 : Int), Builtin.Slice.slicePlaces ((n : Int) - 1) (-1) (-1))) _ _ s
  rw [places_rev]
  exact wpAny_pure h
theorem get_rev {t sl : Addr} {xs : List Value} {vl vu vs : Value} {Q : Value → Shared → Prop} (ht : IsTup s.heap t xs.toArray) (hs : s.heap.IsSliceOf sl vl vu vs) (pl : IsPart vl none) (pu : IsPart vu none) (pt : IsPart vs (some (-1)))
    (h : Q (.ref s.heap.objs.size) { s with heap := s.heap.push { cls := .type "tuple", data := .seq xs.reverse.toArray } }) (hz : xs.length ≤ sizeLine) : wpAny (model prog w) A (getItem (.ref t) (.ref sl)) Q E s := by
  have hfit : sizeOk (.seq xs.reverse.toArray) := by
    show xs.reverse.toArray.size ≤ sizeLine
    rw [List.size_toArray, List.length_reverse]
    exact hz
  obtain ⟨os, ho, hc, hd⟩ := id hs
  have hT : s.TypeIs (.ref sl) "slice" := ⟨os, ho, hc⟩
  unfold getItem
  (with_reducible refine wpAny_holding ?_); have _here := hT
  refine wpAny_bind (wpAny_sequenceKey ht.typeIs (by decide) (wpAny_bind (wpAny_callSpecial?_slot (name := Str.ofString "__getitem__") ht.typeIs PyProof.Rows.slot_tuple_getitem (wpAny_call_entry PyProof.Rows.slot_tuple_getitem ht.typeIs entry_tuple_getitem ?_ (args_tuple_getitem _ _)))))
  show wpAny _ _ (Builtin.Tuple.tupleItemsOf (Value.ref t) >>= _) _ _ s
  refine wpAny_bind (tupleItemsOf_ ht (wpAny_bind (wpAny_typeOf hT ?_)))
  rw [if_pos (by decide)]
  refine wpAny_bind (rev_applied hs pl pu pt ?_)
  rw [List.size_toArray]
  have hno : ¬ ((((xs.length : Nat) : Int) - 1 == 0 && (-1 : Int) == 1 && xs.length == xs.length) = true) := by
    intro q
    rw [Bool.and_eq_true, Bool.and_eq_true] at q
    exact absurd q.1.2 (by decide)
  show wpAny _ _ (if ((((xs.length : Nat) : Int) - 1 == 0 && (-1 : Int) == 1 && xs.length == xs.length) = true) then _ else _) _ _ s
  rw [if_neg hno, pick_rev]
  exact wpAny_bind (m := Builtin.Tuple.tupleExact _) (wpAny_newObj_type (wpAny_pure ⟨_, rfl, wpAny_pure h⟩) hfit)
end
section
variable {X : Cx} {e : Expr} {te : TE} {k : Nat} {p1 p2 p3 pos : Pos}
def tRevT (K : PySem.W.Frag) (te : TE) : TE := fun σ H Q => te σ H fun x H1 => ∃ a xs, x = .ref a ∧ SqT K H1 a xs ∧ ∀ p, H1 p = none → Q (.ref p) (upd H1 p (.tup xs.reverse))
theorem pe_revT (he : PE X e te) : PE X (.Subscript e (.Slice none none (some (.UnaryOp .USub (.Constant (.int 1) k p1) p2)) p3) pos) (tRevT X.K te) := by
  refine ⟨fun pins s σ H Q I h => Subscript_ (thn (he.run pins s σ H _ I h) fun v s1 ⟨x, H1, I1, r1, a, xs, ex, hx, q⟩ => ?_)⟩
  subst ex
  cases r1
  have minus : PO X (some (.UnaryOp .USub (.Constant (.int 1) k p1) p2)) _ := po_some (pe_un un_neg pe_int)
  have nothing1 := fun (s : Shared) (G : Hp) (J : Inv X pins σ G s) => po_none.run pins s σ G (fun o G' => o = none ∧ G' = G) J ⟨rfl, rfl⟩
  refine wpAny_Slice (thn (nothing1 s1 H1 I1) fun vl s2 ⟨l, H2, I2, pl, el, e2⟩ => ?_)
  subst el e2
  refine thn (nothing1 s2 H2 I2) fun vu s3 ⟨u, H3, I3, pu, eu, e3⟩ => ?_
  subst eu e3
  refine thn (minus.run pins s3 σ H3 (fun o G => o = some (-1) ∧ G = H3) I3 ⟨1, rfl, -1, rfl, rfl, rfl⟩) fun vs s4 ⟨o, H4, I4, pt, eo, e4⟩ => ?_
  subst eo e4
  have I5 : Inv X pins σ H4 { s4 with heap := s4.heap.push { cls := .type "slice", data := .fields #[vl, vu, vs] } } := I4.kept (t' := s4.toks) fun b ob z => Heap.get?_push_of_some _ z
  obtain ⟨its, r, ht, hz⟩ := I5.tuple hx
  refine tail_any (ops := [.ref a, .ref s4.heap.objs.size]) ht.typeIs PyProof.Rows.slot_tuple_getitem.lookup (get_rev ht (Heap.IsSliceOf.new _ vl vu vs) pl pu pt ?_ (by rw [← r.length]; exact hz)) (by with_unfolding_all rfl)
  refine ⟨.ref _, _, I5.laid (t' := s4.toks) (o := .tup xs.reverse) (fun b ob z => Heap.get?_push_of_some _ z) (Nat.le_refl _) ?_, rfl, q _ (I5.hok.fresh (Nat.le_refl _))⟩
  exact ⟨by rw [List.length_reverse]; exact hz, _, r.reverse, IsTup.new _ _⟩
end
end BP
set_option Elab.async false
set_option linter.all false
set_option maxRecDepth 100000
set_option maxHeartbeats 400000
set_option pp.maxSteps 2000
namespace BP
open PySem PySem.Spec PyProof.Rows L2 Fld
theorem cm_small {i j : Nat} (h : j < 1073741824) : CMul (i : Int) (j : Int) := .inr ⟨by omega, by omega⟩
theorem cm_left {i j : Nat} (h : i < 1073741824) : CMul (i : Int) (j : Int) := .inl ⟨by omega, by omega⟩
theorem iv_get {l : List Nat} {i : Nat} {x : V} (h : (iv l)[i]? = some x) : ∃ d : Nat, l[i]? = some d ∧ x = .int (d : Nat) := by
  rw [List.getElem?_map] at h
  cases e : l[i]? with
  | none =>
    rw [e] at h
    cases h
  | some d =>
    rw [e] at h
    exact ⟨d, rfl, (Option.some.inj h).symm⟩
theorem isB_len {q : Nat} [IsF q] {f : Po q} (h : IsB f) : 3 ≤ f.length := by
  obtain ⟨⟨h1, h2, h3⟩, h4⟩ := h
  refine Classical.byContradiction fun n => ?_
  match f, h1, h2, h3, h4 with
  | [], _, _, _, h4 => exact h4 rfl
  | [a], h1, h2, _, _ => exact top_of_trim h1 (n := 0) rfl h2
  | [a, b], h1, _, h3, _ => exact top_of_trim h1 (n := 1) rfl h3
  | _ :: _ :: _ :: r, _, _, _, _ =>
    simp only [List.length_cons] at n
    omega
theorem cut_mid {q : Nat} [IsF q] (f : Po q) (h : 3 ≤ f.length) : cutV (vns f) (some 2) (some (-1)) = iv (((f.map El.val).drop 2).take ((f.map El.val).length - 3)) := by
  unfold cutV
  have e1 : HT.sIx (vns f).length 0 (some 2) = 2 := by
    rw [show HT.sIx (vns f).length 0 (some 2) = min 2 (vns f).length from HT.sIx_nat _ _ 2, List.length_map]
    omega
  have e2 : HT.sIx (vns f).length (vns f).length (some (-1)) = f.length - 1 := by
    show (if (-1 : Int) < 0 then ((-1 : Int) + ((vns f).length : Int)).toNat else min (-1 : Int).toNat (vns f).length) = _
    rw [if_pos (by omega), List.length_map]
    omega
  rw [e1, e2, show f.length - 1 - 2 = f.length - 3 by omega]
  show _ = List.map (fun n : Nat => V.int (n : Nat)) _
  rw [List.length_map, List.map_take, List.map_drop, List.map_map]
  rfl
theorem yl_varE {σ : L2.St} {H : Hp} {i : Nat} {n m : Nat} (h : σ[i]? = some (some (.int (n : Nat)))) (e : n = m) : ∀ Q : VK, Q (.int (m : Nat)) H → tVar i σ H Q := fun _ k => ⟨_, h, by rw [e]; exact k⟩
section
variable {σ : L2.St} {H : Hp} {K : PySem.W.Frag} {t1 t2 t3 : TE}
def Yl (te : TE) (σ : L2.St) (H : Hp) (v : V) : Prop := ∀ Q : VK, Q v H → te σ H Q
theorem yl_var {i : Nat} {v : V} (h : σ[i]? = some (some v)) : Yl (tVar i) σ H v := fun _ k => ⟨v, h, k⟩
theorem yl_c {v : V} : Yl (tC v) σ H v := fun _ k => k
theorem nl_add {n m : Nat} (h1 : Yl t1 σ H (.int (n : Nat))) (h2 : Yl t2 σ H (.int (m : Nat))) : Yl (tOp (rI0 fun i j => .int (i + j)) t1 t2) σ H (.int (n + m : Nat)) :=
  fun _ k => h1 _ (h2 _ ⟨_, _, rfl, rfl, by rw [Int.natCast_add] at k; exact k⟩)
theorem nl_sub {n m : Nat} (h1 : Yl t1 σ H (.int (n : Nat))) (h2 : Yl t2 σ H (.int (m : Nat))) (le : m ≤ n) : Yl (tOp (rI0 fun i j => .int (i - j)) t1 t2) σ H (.int (n - m : Nat)) :=
  fun _ k => h1 _ (h2 _ ⟨_, _, rfl, rfl, by rw [Int.ofNat_sub le] at k; exact k⟩)
theorem nl_mul {n m : Nat} (h1 : Yl t1 σ H (.int (n : Nat))) (h2 : Yl t2 σ H (.int (m : Nat))) (le : m < 1073741824) : Yl (tOp (rI CMul fun i j => .int (i * j)) t1 t2) σ H (.int (n * m : Nat)) :=
  fun _ k => h1 _ (h2 _ ⟨_, _, rfl, rfl, cm_small le, by rw [Int.natCast_mul] at k; exact k⟩)
theorem nl_mulL {n m : Nat} (h1 : Yl t1 σ H (.int (n : Nat))) (h2 : Yl t2 σ H (.int (m : Nat))) (le : n < 1073741824) : Yl (tOp (rI CMul fun i j => .int (i * j)) t1 t2) σ H (.int (n * m : Nat)) :=
  fun _ k => h1 _ (h2 _ ⟨_, _, rfl, rfl, cm_left le, by rw [Int.natCast_mul] at k; exact k⟩)
theorem nl_div {n m : Nat} (h1 : Yl t1 σ H (.int (n : Nat))) (h2 : Yl t2 σ H (.int (m : Nat))) (h0 : 0 < m) (le : m < 1073741824) : Yl (tOp (rI CDiv fun i j => .int (i / j)) t1 t2) σ H (.int (n / m : Nat)) :=
  fun _ k => h1 _ (h2 _ ⟨_, _, rfl, rfl, ⟨by omega, by omega⟩, by rw [Int.natCast_ediv] at k; exact k⟩)
theorem nl_mod {n m : Nat} (h1 : Yl t1 σ H (.int (n : Nat))) (h2 : Yl t2 σ H (.int (m : Nat))) (h0 : 0 < m) : Yl (tOp (rI (fun _ j => 0 < j) fun i j => .int (i % j)) t1 t2) σ H (.int (n % m : Nat)) :=
  fun _ k => h1 _ (h2 _ ⟨_, _, rfl, rfl, by omega, by rw [Int.natCast_emod] at k; exact k⟩)
theorem nl_c (n : Nat) : Yl (tC (.int (n : Nat))) σ H (.int (n : Nat)) := yl_c
end
def spBNum (K : PySem.W.Frag) : Sp := fun vs H Q _ => ∃ (q : Nat) (_ : IsF q) (a : Addr) (f : Po q), vs = [.int q, .ref a] ∧ SqT K H a (vns f) ∧ IsB f ∧ f.length ≤ 7 ∧ ∀ H', Same H H' → Q (.int (bNum q (f.map El.val) : Nat)) H'
def spBar : Sp := fun vs H Q _ => ∃ (q : Nat) (_ : IsF q) (a b d : El q), vs = [.int q, vn a, vn b, vn d] ∧ a ≠ 0 ∧ Q (vn (bar a b d)) H
def spSec : Sp := fun vs H Q _ => ∃ (q : Nat) (_ : IsF q) (a b d e : El q), vs = [.int q, vn a, vn b, vn d, vn e] ∧ (a.val = 0 → d.val ≠ 0) ∧ Q (.int (secN (bar a b d).val a.val q d.val e.val : Nat)) H
def spSNum (K : PySem.W.Frag) : Sp := fun vs H Q _ => ∃ (q : Nat) (_ : IsF q) (p : Addr) (m : Mat q), vs = [.int q, .ref p] ∧ SqT K H p (mv m) ∧ det m ≠ 0 ∧ Q (.int (sNum m : Nat)) H
theorem det_zero {q : Nat} [IsF q] {m : Mat q} (h : det m ≠ 0) : (m.a.val = 0 → m.d.val ≠ 0) ∧ 1 ≤ m.a.val * q + m.b.val := by
  have q1 := gt1 (IsF.mem (q := q))
  have ez : ∀ {x : El q}, x.val = 0 → x = 0 := fun {x} e => El.ext e
  refine ⟨fun ha hd => h ?_, Nat.pos_of_ne_zero fun z => h ?_⟩
  · have e1 := ez ha
    have e2 := ez hd
    unfold det
    rw [e1, e2]
    grind
  · have a0 : m.a.val = 0 := by
      refine Classical.byContradiction fun n => ?_
      have : 1 * q ≤ m.a.val * q := Nat.mul_le_mul_right q (by omega)
      omega
    have b0 : m.b.val = 0 := by
      rw [a0, Nat.zero_mul] at z
      omega
    have e1 := ez a0
    have e2 := ez b0
    unfold det
    rw [e1, e2]
    grind
end BP
namespace K13
open PySem PySem.Spec PyProof.Rows L2 BP Fld
section
variable {P : Program} {w : World} {K : PySem.W.Frag} {mg : Str → Option Value} {base : Heap}
theorem ok_bnum {f : Addr} {fd : FuncData} {k : Nat} (F : Fun K "bend_number" "bend_number" sBendNumber f fd) : FnOk P w K mg base CX0 (k + 1) f fd pBendNumber (spBNum K) := by
  refine F.ok scBendNumber (fun vs H Q E h => ?_) (fun cdv A outer s H vs Q E hr h => ?_)
  · obtain ⟨q, _, a, f, rfl, _⟩ := h
    rfl
  · obtain ⟨q, FF, a, f, rfl, hf, hB, l7, want⟩ := h
    refine ⟨_, (pss_cons (ps_set (i := 2) scBendNumber.nd rfl (.inl rfl) pe_int)
      (pss_cons (ps_for PassesOwn.never rfl (pi_tup (pe_slice sl_tup (pv 1) (po_some pe_int) (po_some (pe_un un_neg pe_int)))) (pg_name (i := 3) scBendNumber.nd rfl (.inl rfl)) (pss_one (ps_set (i := 2) scBendNumber.nd rfl (.inl rfl) (pe_op op_add (pe_op op_mul (pv 2) (pv 0)) (pv 3)))))
      (pss_one (ps_ret (pe_op op_sub (pe_op op_add (pe_op op_mul (pv 2) (pe_op op_sub (pv 0) pe_int)) (pe_ix ix_tup (pv 1) (pe_un un_neg pe_int) (fun _ _ => rfl))) pe_int))))), ?_⟩
    have q1 := gt1 FF.mem
    have q16 := le16 FF.mem
    obtain ⟨g, y, eg⟩ : ∃ g y, f = g ++ [y] := ⟨f.dropLast, f.getLast hB.2, (List.dropLast_concat_getLast hB.2).symm⟩
    have y0 : y.val ≠ 0 := by
      intro z
      have t := top_of_trim hB.1.1 (n := g.length) (by rw [eg, List.length_append, List.length_singleton])
      refine t ?_
      unfold co
      rw [eg, List.getD_eq_getElem?_getD, List.getElem?_append_right (Nat.le_refl _), Nat.sub_self]
      exact El.ext z
    have l3 : 3 ≤ f.length := isB_len hB
    obtain ⟨mids, em⟩ : ∃ mids : List Nat, mids = ((f.map El.val).drop 2).take ((f.map El.val).length - 3) := ⟨_, rfl⟩
    have ec : cutV (vns f) (some 2) (some (-1)) = iv mids := by
      rw [em]
      exact cut_mid f l3
    have last : (f.map El.val).getLastD 0 = y.val := by
      rw [eg, List.map_append, List.getLastD_eq_getLast?]
      show (g.map El.val ++ [y.val]).getLast?.getD 0 = y.val
      rw [List.getLast?_concat]
      rfl
    refine ⟨.ref a, rfl, 2, rfl, 1, rfl, -1, rfl, a, vns f, rfl, hf, ?_, fun p np => ?_⟩
    · rintro ⟨z, _⟩
      rw [List.length_map] at z
      rw [show HT.sIx f.length 0 (some 2) = min 2 f.length from HT.sIx_nat _ _ 2] at z
      omega
    rw [ec]
    have s1 : Same H (upd H p (.tup (iv mids))) := same_new np
    refine ⟨p, rfl, ⟨_, .inl (.inl upd_same)⟩, for_tup (K := K) (a := p) (xs := iv mids) (fun i σ H' => H' = upd H p (.tup (iv mids)) ∧ ∃ y, σ = [some (.int q), some (.ref a), some (.int (hor q 0 (mids.take i) : Nat)), y]) ⟨rfl, none, rfl⟩ (fun i σ H' _ hW => ?_) (fun i x σ H' hi hW => ?_) (fun σ H' hW => ?_)⟩
    · obtain ⟨rfl, _⟩ := hW
      exact .inl (.inl upd_same)
    · obtain ⟨rfl, y4, rfl⟩ := hW
      obtain ⟨d, ed, rfl⟩ := iv_get hi
      have et : mids.take (i + 1) = mids.take i ++ [d] := by
        rw [List.take_add_one, ed]
        rfl
      refine (nl_add (nl_mul (yl_var (i := 2) rfl) (yl_var (i := 0) rfl) (by omega)) (yl_var (i := 3) rfl)) _ ?_
      refine ⟨rfl, some (.int (d : Nat)), ?_⟩
      rw [et, hor_snoc]
      rfl
    · obtain ⟨rfl, y4, rfl⟩ := hW
      have hf2 : SqT K (upd H p (.tup (iv mids))) a (vns f) := BP.Same.tupS s1 hf
      have e0 : hor q 0 (mids.take (iv mids).length) = hor q 0 mids := by
        rw [show (iv mids).length = mids.length from List.length_map .., List.take_of_length_le (Nat.le_refl _)]
      rw [e0]
      have ea : atI (vns f) (-1) = some (vn y) := by
        rw [eg]
        show atI (List.map vn (g ++ [y])) (-1) = _
        rw [List.map_append]
        exact atI_last _ _
      have e : bNum q (f.map El.val) = hor q 0 mids * (q - 1) + y.val - 1 := by
        unfold bNum
        rw [last, ← em]
        omega
      have want2 := want _ s1
      rw [e] at want2
      exact (nl_sub (n := hor q 0 mids * (q - 1) + y.val) (m := 1) (nl_add (nl_mul (n := hor q 0 mids) (m := q - 1) (yl_var (i := 2) rfl) (nl_sub (n := q) (m := 1) (yl_var (i := 0) rfl) yl_c (by omega)) (by omega)) (fun Q2 k2 => ⟨.ref a, rfl, 1, rfl, a, vns f, -1, vn y, rfl, rfl, hf2, ea, k2⟩)) yl_c (by omega)) _ want2
theorem ok_bar {f fT fI : Addr} {fd fdT fdI : FuncData} (F : Fun K "barred_number" "barred_number" sBarredNumber f fd) (TI : BP.Can P w K mg base "times" 1 pTimes (spE2 (fun a b => a * b)) fT fdT) (IV : Inve P w K mg base fI fdI) : FnOk P w K mg base CX0 2 f fd pBarredNumber spBar := by
  refine F.ok scBarredNumber (fun vs H Q E h => ?_) (fun cdv A outer s H vs Q E hr h => ?_)
  · obtain ⟨q, _, a, b, d, rfl, _⟩ := h
    rfl
  · obtain ⟨q, FF, a, b, d, rfl, ha, want⟩ := h
    refine ⟨_, (pss_one (ps_ret (pe_call TI.ok hr (by rfl) TI.g TI.kp TI.b .nil pass0 (pa_cons (pv 0) (pa_cons (pe_call TI.ok hr (by rfl) TI.g TI.kp TI.b .nil pass0 (pa_cons (pv 0) (pa_cons (pv 2) (pa_cons (pv 3) pa_nil)))) (pa_cons (pe_call IV.ok hr (by rfl) IV.g IV.kp IV.b .nil pass0 (pa_cons (pv 0) (pa_cons (pv 1) pa_nil))) pa_nil)))))), ?_⟩
    exact ⟨.int q, rfl, .int q, rfl, vn b, rfl, vn d, rfl, q, FF, b, d, rfl, .int q, rfl, vn a, rfl, q, FF, a, ha, rfl, q, FF, b * d, El.under a, rfl, want⟩
theorem ok_sec {f fB : Addr} {fd fdB : FuncData} (F : Fun K "second_number" "second_number" sSecondNumber f fd) (BN : BP.Can P w K mg base "barred_number" 2 pBarredNumber spBar fB fdB) : FnOk P w K mg base CX0 3 f fd pSecondNumber spSec := by
  refine F.ok scSecondNumber (fun vs H Q E h => ?_) (fun cdv A outer s H vs Q E hr h => ?_)
  · obtain ⟨q, _, a, b, d, e, rfl, _⟩ := h
    rfl
  · obtain ⟨q, FF, a, b, d, e, rfl, hd, want⟩ := h
    have q1 := gt1 FF.mem
    have q16 := le16 FF.mem
    refine ⟨_, (pss_cons (ps_if (pt_cmpR op_eq (pv 1) pe_int (nomark _)) (pss_one (ps_ret (pe_op op_add (pe_op op_mul (pe_op op_sub (pv 3) pe_int) (pv 0)) (pv 4)))) pss_nil)
      (pss_cons (ps_set (i := 5) scSecondNumber.nd rfl (.inl rfl) (pe_call BN.ok hr (by rfl) BN.g BN.kp BN.b .nil pass0 (pa_cons (pv 0) (pa_cons (pv 1) (pa_cons (pv 2) (pa_cons (pv 3) pa_nil))))))
      (pss_one (ps_ret (pe_op op_add (pe_op op_mul (pv 3) (pe_op op_sub (pv 0) pe_int)) (pe_ifExp (pt_cmpR op_gt (pv 4) (pv 5) (nomark _)) (pe_op op_sub (pv 4) pe_int) (pv 4))))))), ?_⟩
    refine ⟨vn a, rfl, rfl, _, rfl, ite2 (fun h => ?_) (fun h => ?_)⟩
    · have h0 : a.val = 0 := by
        have := V.int.inj (of_decide_eq_true h)
        omega
      have hd0 := hd h0
      refine (nl_add (nl_mul (nl_sub (n := d.val) (m := 1) (yl_var (i := 3) rfl) yl_c (by omega)) (yl_var (i := 0) rfl) (by omega)) (yl_var (i := 4) rfl)) _ ?_
      unfold secN at want
      rw [if_pos h0] at want
      exact want
    · have h0 : ¬ a.val = 0 := fun z => h (decide_eq_true (congrArg (fun n : Nat => V.int (n : Int)) z))
      refine ⟨.int q, rfl, vn a, rfl, vn b, rfl, vn d, rfl, q, FF, a, b, d, rfl, ne_zero h0, ?_⟩
      show Ends.nx _ [some (.int q), some (vn a), some (vn b), some (vn d), some (vn e), some (vn (bar a b d))] H
      dsimp only []
      unfold secN at want
      rw [if_neg h0] at want
      refine (nl_add (n := d.val * (q - 1)) (m := if (bar a b d).val < e.val then e.val - 1 else e.val) (nl_mul (yl_var (i := 3) rfl) (nl_sub (n := q) (m := 1) (yl_var (i := 0) rfl) yl_c (by omega)) (by omega)) (fun Q2 k2 => ?_)) _ want
      refine ⟨_, rfl, _, rfl, e.val, (bar a b d).val, rfl, rfl, _, rfl, ite2 (fun g => ?_) (fun g => ?_)⟩
      · have g := of_decide_eq_true g
        have g' : (bar a b d).val < e.val := by omega
        refine (nl_sub (n := e.val) (m := 1) (yl_var (i := 4) rfl) yl_c (by omega)) _ ?_
        rw [if_pos g'] at k2
        exact k2
      · have g' : ¬ (bar a b d).val < e.val := fun z => g (decide_eq_true (by omega))
        rw [if_neg g'] at k2
        exact ⟨_, rfl, k2⟩
theorem ok_snum {f fB : Addr} {fd fdB : FuncData} (F : Fun K "straight_number" "straight_number" sStraightNumber f fd) (SN : BP.Can P w K mg base "second_number" 3 pSecondNumber spSec fB fdB) : FnOk P w K mg base CX0 4 f fd pStraightNumber (spSNum K) := by
  refine F.ok scStraightNumber (fun vs H Q E h => ?_) (fun cdv A outer s H vs Q E hr h => ?_)
  · obtain ⟨q, _, p, m, rfl, _⟩ := h
    rfl
  · obtain ⟨q, FF, p, m, rfl, hp, hd, want⟩ := h
    have q1 := gt1 FF.mem
    have q16 := le16 FF.mem
    obtain ⟨hz, hab⟩ := det_zero hd
    have qq : q ≤ q * q := Nat.le_mul_of_pos_left q (by omega)
    have qb : q * q ≤ 16 * 16 := Nat.mul_le_mul q16 q16
    refine ⟨_, (pss_cons (ps_asg (pv 1) (pg_tup rfl (pgs_cons (pg_name (i := 2) scStraightNumber.nd rfl (.inl rfl)) (pgs_cons (pg_name (i := 3) scStraightNumber.nd rfl (.inl rfl)) (pgs_cons (pg_name (i := 4) scStraightNumber.nd rfl (.inl rfl)) (pgs_cons (pg_name (i := 5) scStraightNumber.nd rfl (.inl rfl)) (pgs_cons (pg_name (i := 6) scStraightNumber.nd rfl (.inl rfl)) (pgs_cons (pg_name (i := 7) scStraightNumber.nd rfl (.inl rfl)) pgs_nil))))))))
      (pss_cons (ps_set (i := 8) scStraightNumber.nd rfl (.inl rfl) (pe_op op_add (pe_op op_mul (pe_op op_sub (pe_op op_add (pe_op op_mul (pv 2) (pv 0)) (pv 3)) pe_int) (pv 0)) (pv 4)))
      (pss_one (ps_ret (pe_op op_add (pe_op op_mul (pe_op op_add (pe_op op_mul (pv 8) (pe_op op_sub (pe_op op_mul (pv 0) (pv 0)) (pv 0))) (pe_call SN.ok hr (by rfl) SN.g SN.kp SN.b .nil pass0 (pa_cons (pv 0) (pa_cons (pv 2) (pa_cons (pv 3) (pa_cons (pv 5) (pa_cons (pv 6) pa_nil))))))) (pv 0)) (pv 7)))))), ?_⟩
    refine ⟨.ref p, rfl, p, _, rfl, hp, rfl, _, [_, _, _, _, _], rfl, _, [_, _, _, _], rfl, _, [_, _, _], rfl, _, [_, _], rfl, _, [_], rfl, _, [], rfl, rfl, ?_⟩
    show Ends.nx _ [some (.int q), some (.ref p), some (vn m.a), some (vn m.b), some (vn m.c), some (vn m.d), some (vn m.e), some (vn m.f), none] H
    dsimp only []
    refine (nl_add (nl_mul (n := m.a.val * q + m.b.val - 1) (m := q) (nl_sub (nl_add (nl_mul (yl_var (i := 2) rfl) (yl_var (i := 0) rfl) (by omega)) (yl_var (i := 3) rfl)) yl_c (by omega)) (yl_var (i := 0) rfl) (by omega)) (yl_var (i := 4) rfl)) _ ?_
    show Ends.nx _ [some (.int q), some (.ref p), some (vn m.a), some (vn m.b), some (vn m.c), some (vn m.d), some (vn m.e), some (vn m.f), some (.int (((m.a.val * q + m.b.val - 1) * q + m.c.val : Nat)))] H
    dsimp only []
    refine (nl_add (nl_mul (nl_add (nl_mul (n := (m.a.val * q + m.b.val - 1) * q + m.c.val) (m := q * q - q) (yl_var (i := 8) rfl) (nl_sub (nl_mul (yl_var (i := 0) rfl) (yl_var (i := 0) rfl) (by omega)) (yl_var (i := 0) rfl) qq) (by omega)) (fun Q2 k2 => ⟨.int q, rfl, vn m.a, rfl, vn m.b, rfl, vn m.d, rfl, vn m.e, rfl, q, FF, m.a, m.b, m.d, m.e, rfl, hz, k2⟩)) (yl_var (i := 0) rfl) (by omega)) (yl_var (i := 7) rfl)) _ want
end
end K13
set_option Elab.async false
set_option linter.all false
set_option maxRecDepth 100000
set_option maxHeartbeats 400000
set_option pp.maxSteps 2000
namespace BP
open PySem PySem.Spec PyProof.Rows L2 Fld
section
variable {q : Nat} [FF : IsF q] {K : PySem.W.Frag} {H : Hp}
theorem stk_at : ∀ {st : List (Option (El q) × Po q)} {ts bs : List V}, Stk K H st ts bs → ∀ {i : Nat} {v : V}, bs[i]? = some v → ∃ (a : Addr) (o : Option (El q)) (g : Po q), v = .ref a ∧ st.drop (st.length - (i + 1)) = (o, g) :: st.drop (st.length - i) ∧ SqT K H a (vns g) ∧ (o, g) ∈ st
  | [], _, _, ⟨_, e⟩, i, v, h => by
    rw [e] at h
    cases h
  | (o, g) :: r, _, _, ⟨ts', bs', a, e1, e2, hg, k⟩, i, v, h => by
    have hl := k.len.2
    rw [e2] at h
    by_cases hi : i < bs'.length
    · rw [List.getElem?_append_left hi] at h
      obtain ⟨a', o', g', h1, h2, h3, h4⟩ := stk_at k h
      refine ⟨a', o', g', h1, ?_, h3, List.mem_cons_of_mem _ h4⟩
      rw [List.length_cons, show r.length + 1 - (i + 1) = (r.length - (i + 1)) + 1 by omega, show r.length + 1 - i = (r.length - i) + 1 by omega, List.drop_succ_cons, List.drop_succ_cons]
      exact h2
    · have hi2 : i = bs'.length := by
        have := (List.getElem?_eq_some_iff.mp h).1
        rw [List.length_append, List.length_singleton] at this
        omega
      subst hi2
      rw [List.getElem?_append_right (Nat.le_refl _), Nat.sub_self] at h
      refine ⟨a, o, g, (Option.some.inj h).symm, ?_, hg, List.mem_cons_self ..⟩
      rw [List.length_cons, hl, Nat.sub_self, show r.length + 1 - r.length = 1 by omega]
      rfl
theorem ov_tv : ∀ o : Option (El q), ov o = .int ((tv o : Nat) - 1 : Int)
  | none => rfl
  | some t => by
    show V.int (t.val : Nat) = V.int (((t.val + 1 : Nat) : Int) - 1)
    rw [show (((t.val + 1 : Nat) : Int) - 1) = (t.val : Int) by omega]
theorem stk_head : ∀ {st : List (Option (El q) × Po q)} {x : V} {ts bs : List V}, Good st → Stk K H st (x :: ts) bs → x = .int ((sN st : Nat) - 1 : Int) ∧ ts = iv (tsN st).reverse
  | [], x, ts, bs, _, ⟨e, _⟩ => by cases e
  | [(o, g)], x, ts, bs, _, ⟨ts', bs', a, e1, e2, hg, k⟩ => by
    obtain ⟨e3, e4⟩ := k
    subst e3
    obtain ⟨rfl, rfl⟩ := List.cons.inj e1
    exact ⟨ov_tv o, rfl⟩
  | (o, g) :: y :: r, x, ts, bs, hG, ⟨ts', bs', a, e1, e2, hg, k⟩ => by
    have hl := k.len.1
    match ts', hl, e1, k with
    | [], hl, _, _ => cases hl
    | x' :: ts2, _, e1, k =>
      obtain ⟨rfl, rfl⟩ := List.cons.inj e1
      obtain ⟨h1, h2⟩ := stk_head hG.2.2 k
      have no := hG.2.1 (fun z => nomatch z)
      have et : tsN ((o, g) :: y :: r) = (tv o - 1) :: tsN (y :: r) := rfl
      have es : sN ((o, g) :: y :: r) = sN (y :: r) := by
        unfold sN
        rw [List.getLast?_cons_cons]
      rw [et, es, h2]
      refine ⟨h1, ?_⟩
      rw [List.reverse_cons]
      show _ = List.map _ _
      rw [List.map_append]
      cases o with
      | none => exact absurd rfl no
      | some t => rfl
end
theorem Cnt_strt_lt {q : Nat} (h : q ∈ fields) : Cnt.strt q < 1073741824 := by
  have a : fields.all (fun q => decide (Cnt.strt q < 1073741824)) = true := by decide +kernel
  exact of_decide_eq_true (List.all_eq_true.mp a q h)
def spStNum (K : PySem.W.Frag) : Sp := fun vs H Q _ => ∃ (q : Nat) (_ : IsF q) (c : Addr) (z : Sta q), vs = [.int q, .ref c] ∧ StepAt K H c z ∧ Fit z ∧ ∀ H', Same H H' → Q (.int (nStep z : Nat)) H'
end BP
namespace K13
open PySem PySem.Spec PyProof.Rows L2 BP Fld
section
variable {P : Program} {w : World} {K : PySem.W.Frag} {mg : Str → Option Value} {base : Heap}
theorem ok_stnum {f fL fM fB fS fT : Addr} {fd fdL fdM fdB fdS fdT : FuncData} {tk : Tok} (F : Fun K "step_number" "step_number" sStepNumber f fd) (LS : BP.Can P w K mg base "look_at_steps" 7 pLookAtSteps (spLookS K) fL fdL) (MB : BP.Can P w K mg base "many_bends" 1 pManyBends spBds fM fdM) (BN : BP.Can P w K mg base "bend_number" 1 pBendNumber (spBNum K) fB fdB)
    (MS : BP.Can P w K mg base "many_straight" 1 pManyStraight spStr fS fdS) (ST : BP.Can P w K mg base "straight_number" 4 pStraightNumber (spSNum K) fT fdT) (gNT : mg "NO_TURN" = some (.int (-1) tk)) (m_len : mg "len" = none) : FnOk P w K mg base CX0 8 f fd pStepNumber (spStNum K) := by
  refine F.ok scStepNumber (fun vs H Q E h => ?_) (fun cdv A outer s H vs Q E hr h => ?_)
  · obtain ⟨q, _, c, z, rfl, _⟩ := h
    rfl
  · obtain ⟨q, FF, c, z, rfl, hc, ft, want⟩ := h
    have q1 := gt1 FF.mem
    have q16 := le16 FF.mem
    have hr1 := hr.mono (show 1 ≤ 7 by decide)
    have hr4 := hr.mono (show 4 ≤ 7 by decide)
    refine ⟨_, (pss_cons (ps_expr (pe_call LS.ok hr (by rfl) LS.g LS.kp LS.b .nil pass0 (pa_cons (pv 0) (pa_cons (pe_lst (pa_cons (pv 1) pa_nil)) pa_nil))))
      (pss_cons (ps_asg (pv 1) (pg_tup rfl (pgs_cons (pg_name (i := 2) scStepNumber.nd rfl (.inl rfl)) (pgs_cons (pg_name (i := 3) scStepNumber.nd rfl (.inl rfl)) (pgs_cons (pg_name (i := 4) scStepNumber.nd rfl (.inl rfl)) (pgs_cons (pg_name (i := 5) scStepNumber.nd rfl (.inl rfl)) pgs_nil))))))
      (pss_cons (ps_set (i := 6) scStepNumber.nd rfl (.inl rfl) (pe_op op_sub (pv 2) (pe_glob (v := .int (-1)) rfl gNT ⟨_, rfl⟩)))
      (pss_cons (ps_for PassesOwn.never rfl (pi_tup (pv 3)) (pg_name (i := 7) scStepNumber.nd rfl (.inl rfl)) (pss_one (ps_set (i := 6) scStepNumber.nd rfl (.inl rfl) (pe_op op_add (pe_op op_mul (pv 6) (pe_call MB.ok hr1 (by rfl) MB.g MB.kp MB.b .nil pass0 (pa_cons (pv 0) (pa_cons (pe_op op_sub (pe_callB call_len_seq (by rfl) m_len PySem.boot_len (pa_cons (pv 7) pa_nil)) pe_int) pa_nil)))) (pe_call BN.ok hr1 (by rfl) BN.g BN.kp BN.b .nil pass0 (pa_cons (pv 0) (pa_cons (pv 7) pa_nil)))))))
      (pss_cons (ps_for PassesOwn.never rfl (pi_tup (pv 4)) (pg_name (i := 8) scStepNumber.nd rfl (.inl rfl)) (pss_one (ps_set (i := 6) scStepNumber.nd rfl (.inl rfl) (pe_op op_add (pe_op op_mul (pv 6) (pv 0)) (pv 8)))))
      (pss_one (ps_ret (pe_op op_add (pe_op op_mul (pv 6) (pe_call MS.ok hr1 (by rfl) MS.g MS.kp MS.b .nil pass0 (pa_cons (pv 0) pa_nil))) (pe_call ST.ok hr4 (by rfl) ST.g ST.kp ST.b .nil pass0 (pa_cons (pv 0) (pa_cons (pv 5) pa_nil))))))))))), ?_⟩
    refine ⟨.int q, rfl, .ref c, rfl, (by show 1 ≤ sizeLine; decide), fun l nl => ?_⟩
    have s0 := same_new (o := .lst [V.ref c]) nl
    have hc0 := hc.kept fun _ _ => BP.Same.tupS s0
    refine ⟨q, FF, l, [c], rfl, .inl (.inl upd_same), one_in hc0 ft, fun H1 s1 => ?_⟩
    have s01 := s0.trans s1
    obtain ⟨start, ts, bs, t, b, l', h1, h2, h3, h4, h5⟩ := hc0.kept fun _ _ => BP.Same.tupS s1
    have nums : start = .int ((sN z.st : Nat) - 1 : Int) ∧ ts = iv (tsN z.st).reverse ∧ bs.length = z.st.length ∧ ∀ {i : Nat} {v : V}, bs[i]? = some v → ∃ (a : Addr) (o : Option (El q)) (g : Po q), v = .ref a ∧ z.st.drop (z.st.length - (i + 1)) = (o, g) :: z.st.drop (z.st.length - i) ∧ SqT K H1 a (vns g) ∧ (o, g) ∈ z.st := by
      rcases h5 with ⟨e1, e2, e3, e4⟩ | ⟨e1, e2⟩
      · rw [e1, e2, e3, e4]
        refine ⟨rfl, rfl, rfl, fun {i v} h => ?_⟩
        cases h
      · obtain ⟨k1, k2⟩ := stk_head ft.1.1 e2
        exact ⟨k1, k2, e2.len.2, fun {i v} h => stk_at e2 h⟩
    obtain ⟨n1, n2, n3, n4⟩ := nums
    subst n1 n2
    refine ⟨.ref c, rfl, c, _, rfl, h1, rfl, _, [_, _, _], rfl, _, [_, _], rfl, _, [_], rfl, _, [], rfl, rfl, ?_⟩
    show Ends.nx _ [some (.int q), some (.ref c), some (.int ((sN z.st : Nat) - 1 : Int)), some (.ref b), some (.ref t), some (.ref l'), none, none, none] H1
    dsimp only []
    refine ⟨_, rfl, _, _, rfl, rfl, ?_⟩
    have e0 : ((sN z.st : Nat) - 1 : Int) - (-1) = (sN z.st : Nat) := by omega
    show Ends.nx _ [some (.int q), some (.ref c), some (.int ((sN z.st : Nat) - 1 : Int)), some (.ref b), some (.ref t), some (.ref l'), some (.int (((sN z.st : Nat) - 1 : Int) - (-1))), none, none] H1
    dsimp only []
    rw [e0]
    refine ⟨.ref b, rfl, b, rfl, ⟨_, h2⟩, for_tup (K := K) (D := { nx := _, rt := _ }) (a := b) (xs := bs) (fun i σ H' => Same H1 H' ∧ ∃ y7, σ = [some (.int q), some (.ref c), some (.int ((sN z.st : Nat) - 1 : Int)), some (.ref b), some (.ref t), some (.ref l'), some (.int (enB q (bsN (z.st.drop (z.st.length - i))) (sN z.st) : Nat)), y7, none]) ⟨fun _ _ e => e, none, ?_⟩ (fun i σ H' _ hW => BP.Same.tupS hW.1 h2) (fun i x σ H' hi hW => ?_) (fun σ H' hW => ?_)⟩
    · rw [Nat.sub_zero, List.drop_length]
      rfl
    · obtain ⟨s2, y7, rfl⟩ := hW
      obtain ⟨a, o, g, rfl, e1, hg, hm⟩ := n4 hi
      have gB := good_all ft.1.1 _ hm
      have g7 : g.length ≤ 7 := ft.2.1 _ hm
      have g3 : 3 ≤ g.length := isB_len gB
      have hg2 := BP.Same.tupS s2 hg
      refine ⟨_, rfl, ?_⟩
      refine ⟨.int q, rfl, .ref a, rfl, a, vns g, rfl, .inr hg2, (vns g).length, 1, rfl, rfl, ?_⟩
      have ed : ((vns g).length : Int) - 1 = ((g.length - 1 : Nat) : Int) := by
        rw [List.length_map]
        omega
      refine ⟨q, g.length - 1, congrArg (fun x => [V.int (q : Nat), V.int x]) ed, FF.mem, by omega, by omega, ?_⟩
      have bb := Cnt.bds_le (by omega : 0 < q) q16 (d := g.length - 1) (by omega)
      refine ⟨_, _, rfl, rfl, cm_small (by omega), .int q, rfl, .ref a, rfl, q, FF, a, g, rfl, hg2, gB, g7, fun H3 s3 => ⟨_, _, rfl, rfl, ?_⟩⟩
      refine ⟨s2.trans s3, some (.ref a), ?_⟩
      have ee : enB q (bsN (z.st.drop (z.st.length - (i + 1)))) (sN z.st) = enB q (bsN (z.st.drop (z.st.length - i))) (sN z.st) * Cnt.bds q (g.length - 1) + bNum q (g.map El.val) := by
        rw [e1]
        show enB q (g.map El.val :: bsN (z.st.drop (z.st.length - i))) (sN z.st) = _
        show enB q (bsN (z.st.drop (z.st.length - i))) (sN z.st) * Cnt.bds q ((g.map El.val).length - 1) + bNum q (g.map El.val) = _
        rw [List.length_map]
      rw [ee, Int.natCast_add, Int.natCast_mul]
      rfl
    obtain ⟨s2, y7, rfl⟩ := hW
    rw [n3, Nat.sub_self, List.drop_zero]
    have h3' := BP.Same.tupS s2 h3
    refine ⟨.ref t, rfl, t, rfl, ⟨_, h3'⟩, for_tup (K := K) (D := { nx := _, rt := _ }) (a := t) (xs := iv (tsN z.st).reverse) (fun i σ H'' => H'' = H' ∧ ∃ y8, σ = [some (.int q), some (.ref c), some (.int ((sN z.st : Nat) - 1 : Int)), some (.ref b), some (.ref t), some (.ref l'), some (.int (hor q (enB q (bsN z.st) (sN z.st)) ((tsN z.st).reverse.take i) : Nat)), y7, y8]) ⟨rfl, none, rfl⟩ (fun i σ H'' _ hW => by rw [hW.1]; exact h3') (fun i x σ H'' hi hW => ?_) (fun σ H'' hW => ?_)⟩
    · obtain ⟨rfl, y8, rfl⟩ := hW
      obtain ⟨d, ed, rfl⟩ := iv_get hi
      have et : (tsN z.st).reverse.take (i + 1) = (tsN z.st).reverse.take i ++ [d] := by
        rw [List.take_add_one, ed]
        rfl
      refine (nl_add (nl_mul (yl_var (i := 6) rfl) (yl_var (i := 0) rfl) (by omega)) (yl_var (i := 8) rfl)) _ ?_
      refine ⟨rfl, some (.int (d : Nat)), ?_⟩
      rw [et, hor_snoc]
      rfl
    · obtain ⟨rfl, y8, rfl⟩ := hW
      have er : hor q (enB q (bsN z.st) (sN z.st)) ((tsN z.st).reverse.take (iv (tsN z.st).reverse).length) = nRk z.st := by
        rw [show (iv (tsN z.st).reverse).length = (tsN z.st).reverse.length from List.length_map .., List.take_of_length_le (Nat.le_refl _), hor_rev]
        rfl
      rw [er]
      have sl := Cnt_strt_lt FF.mem
      refine ⟨_, rfl, .int q, rfl, q, rfl, FF.mem, _, _, rfl, rfl, cm_small (by omega), .int q, rfl, .ref l', rfl, q, FF, l', z.last, rfl, BP.Same.tupS s2 h4, ft.1.2, _, _, rfl, rfl, ?_⟩
      have wt := want _ (s01.trans s2)
      unfold nStep at wt
      rw [Int.natCast_add, Int.natCast_mul] at wt
      exact wt
end
end K13
set_option Elab.async false
set_option linter.all false
set_option maxRecDepth 100000
set_option maxHeartbeats 400000
set_option pp.maxSteps 3000
namespace BP
open PySem PySem.Spec PyProof.Rows L2 Fld
theorem dmS {K : PySem.W.Frag} {n m : Nat} {H : Hp} {p : Addr} : SqT K (upd H p (.tup [V.int ((n : Int) / (m : Int)), V.int ((n : Int) % (m : Int))])) p [V.int (n / m : Nat), V.int (n % m : Nat)] := by
  rw [Int.natCast_ediv, Int.natCast_emod]
  exact .inl (.inl upd_same)
/-- a list that grows: what was there before stays -/
theorem same_put {H H' : Hp} {L : Addr} {o : HO} (s : Same H H') (n : H L = none) : Same H (upd H' L o) := fun b x e => by
  rw [upd_ne (ne_of_none e n)]
  exact s b x e
def spBAt (K : PySem.W.Frag) : Sp := fun vs H Q _ => ∃ (q : Nat) (_ : IsF q) (d n : Nat), vs = [.int q, .int d, .int n] ∧ 2 ≤ d ∧ d ≤ 6 ∧ ∀ (p : Addr) (H' : Hp), Same H H' → SqT K H' p (iv (bAt q d n)) → Q (.ref p) H'
def spSecAt (K : PySem.W.Frag) : Sp := fun vs H Q _ => ∃ (q : Nat) (_ : IsF q) (a b : El q) (k : Nat), vs = [.int q, vn a, vn b, .int k] ∧ k < q * q - q ∧
  ∀ (p : Addr) (H' : Hp), Same H H' → SqT K H' p [.int (secD a.val q k : Nat), .int (secE (bar a b (el (secD a.val q k))).val a.val q k : Nat)] → Q (.ref p) H'
def spStrAt (K : PySem.W.Frag) : Sp := fun vs H Q _ => ∃ (q : Nat) (_ : IsF q) (n : Nat), vs = [.int q, .int n] ∧ n < Cnt.strt q ∧ ∀ (p : Addr) (H' : Hp), Same H H' → SqT K H' p (mv (sAt q n)) → Q (.ref p) H'
end BP
namespace K13
open PySem PySem.Spec PyProof.Rows L2 BP Fld
section
variable {P : Program} {w : World} {K : PySem.W.Frag} {mg : Str → Option Value} {base : Heap}
theorem ok_bat {f : Addr} {fd : FuncData} {k : Nat} (F : Fun K "bend_at" "bend_at" sBendAt f fd) (m_divmod : mg "divmod" = none) (m_range : mg "range" = none) : FnOk P w K mg base CX0 (k + 1) f fd pBendAt (spBAt K) := by
  refine F.ok scBendAt (fun vs H Q E h => ?_) (fun cdv A outer s H vs Q E hr h => ?_)
  · obtain ⟨q, _, d, n, rfl, _⟩ := h
    rfl
  · obtain ⟨q, FF, d, n, rfl, d2, d6, want⟩ := h
    have q1 := gt1 FF.mem
    have q16 := le16 FF.mem
    refine ⟨_, (pss_cons (ps_asg (pe_callB call_divmod (by rfl) m_divmod (by decide +kernel) (pa_cons (pv 2) (pa_cons (pe_op op_sub (pv 0) pe_int) pa_nil))) (pg_tup rfl (pgs_cons (pg_name (i := 3) scBendAt.nd rfl (.inl rfl)) (pgs_cons (pg_name (i := 4) scBendAt.nd rfl (.inl rfl)) pgs_nil))))
      (pss_cons (ps_set (i := 5) scBendAt.nd rfl (.inl rfl) (pe_lst (pa_cons (pe_op op_add (pv 4) pe_int) pa_nil)))
      (pss_cons (ps_for PassesOwn.never rfl (pi_range1 rfl m_range (pa_cons (pe_op op_sub (pv 1) pe_int) pa_nil)) (pg_name (i := 6) scBendAt.nd rfl (.inl rfl)) (pss_cons (ps_asg (pe_callB call_divmod (by rfl) m_divmod (by decide +kernel) (pa_cons (pv 3) (pa_cons (pv 0) pa_nil))) (pg_tup rfl (pgs_cons (pg_name (i := 3) scBendAt.nd rfl (.inl rfl)) (pgs_cons (pg_name (i := 7) scBendAt.nd rfl (.inl rfl)) pgs_nil))))
        (pss_one (ps_expr (pe_bm PySem.F.plainAttrs_list PySem.F.slot_list_append PySem.F.type_list_append mt_append (pv 5) (pa_cons (pv 7) pa_nil))))))
      (pss_one (ps_ret (pe_tup (pa_cons pe_int (pa_cons pe_int (StX.pa_star (pe_revL (pv 5)) pa_nil))))))))), ?_⟩
    refine ⟨_, rfl, ?_⟩
    refine (nl_sub (n := q) (m := 1) (yl_var (i := 0) rfl) yl_c (by omega)) _ ?_
    refine ⟨_, _, rfl, ⟨by omega, by omega⟩, fun p np => ?_⟩
    have hp := dmS (K := K) (n := n) (m := q - 1) (H := H) (p := p)
    have s1 := same_new (o := .tup [V.int ((n : Int) / ((q - 1 : Nat) : Int)), V.int ((n : Int) % ((q - 1 : Nat) : Int))]) np
    generalize upd H p (.tup [V.int ((n : Int) / ((q - 1 : Nat) : Int)), V.int ((n : Int) % ((q - 1 : Nat) : Int))]) = H1 at *
    refine ⟨p, _, rfl, hp, rfl, _, [_], rfl, _, [], rfl, rfl, ?_⟩
    show Ends.nx _ [some (.int q), some (.int d), some (.int n), some (.int (n / (q - 1) : Nat)), some (.int (n % (q - 1) : Nat)), none, none, none] H1
    dsimp only []
    refine (nl_add (n := n % (q - 1)) (m := 1) (yl_var (i := 4) rfl) yl_c) _ ⟨(by show 1 ≤ sizeLine; decide), fun L nL => ?_⟩
    show Ends.nx _ [some (.int q), some (.int d), some (.int n), some (.int (n / (q - 1) : Nat)), some (.int (n % (q - 1) : Nat)), some (.ref L), none, none] _
    dsimp only []
    have hL0 : H L = none := BP.none_of s1 nL
    refine ⟨.int d, rfl, d, 2, rfl, rfl, _, rfl, by omega, by omega, ?_⟩
    rw [show ((d : Int) - 2).toNat = d - 2 by omega]
    refine for_range (n := d - 2) (lo := 0) (fun i σ H' => Same H H' ∧ H' L = some (.lst (iv ((n % (q - 1) + 1) :: deD q i (n / (q - 1))))) ∧ ∃ y6 y7, σ = [some (.int q), some (.int d), some (.int n), some (.int (n / (q - 1) / q ^ i : Nat)), some (.int (n % (q - 1) : Nat)), some (.ref L), y6, y7]) ⟨same_put s1 hL0, upd_same, none, none, ?_⟩ (fun i σ H' hi hW => ?_) (fun σ H' hW => ?_)
    · rw [Nat.pow_zero, Nat.div_one]
    · obtain ⟨s2, hL, y6, y7, rfl⟩ := hW
      refine ⟨_, rfl, _, rfl, ?_⟩
      refine ⟨_, _, rfl, ⟨by omega, by omega⟩, fun p2 np2 => ?_⟩
      have hp2 := dmS (K := K) (n := n / (q - 1) / q ^ i) (m := q) (H := H') (p := p2)
      have s3 := same_new (o := .tup [V.int (((n / (q - 1) / q ^ i : Nat) : Int) / (q : Int)), V.int (((n / (q - 1) / q ^ i : Nat) : Int) % (q : Int))]) np2
      generalize upd H' p2 (.tup [V.int (((n / (q - 1) / q ^ i : Nat) : Int) / (q : Int)), V.int (((n / (q - 1) / q ^ i : Nat) : Int) % (q : Int))]) = H3 at *
      refine ⟨p2, _, rfl, hp2, rfl, _, [_], rfl, _, [], rfl, rfl, ?_⟩
      show Ends.nx _ [some (.int q), some (.int d), some (.int n), some (.int (n / (q - 1) / q ^ i / q : Nat)), some (.int (n % (q - 1) : Nat)), some (.ref L), some (.int (0 + (i : Int))), some (.int (n / (q - 1) / q ^ i % q : Nat))] H3
      dsimp only []
      have hL3 := s3 _ _ hL
      refine ⟨.ref L, rfl, .inl ⟨rfl, _, .inl (.inl hL3)⟩, _, rfl, L, _, _, rfl, rfl, hL3, ?_, ?_⟩
      · rw [List.length_map, List.length_cons, deD_len]
        exact Nat.lt_of_lt_of_le (show i + 1 < 1000 by omega) (by decide)
      · refine ⟨same_put (s2.trans s3) hL0, ?_, some (.int (0 + (i : Int))), some (.int (n / (q - 1) / q ^ i % q : Nat)), ?_⟩
        · rw [upd_same, deD_snoc]
          show some (HO.lst (List.map _ _ ++ [_])) = some (HO.lst (List.map _ _))
          rw [← List.cons_append, List.map_append]
          rfl
        · rw [Nat.div_div_eq_div_mul _ (q ^ i), ← Nat.pow_succ]
    · obtain ⟨s2, hL, y6, y7, rfl⟩ := hW
      refine ⟨_, rfl, L, _, rfl, .inl (.inl hL), fun p3 n3 => ⟨p3, _, rfl, .inr (.inl (.inl upd_same)), ?_, fun p4 n4 => want p4 _ ((s2.trans (same_new n3)).trans (same_new n4)) ?_⟩⟩
      · show (V.int 0 :: V.int 0 :: ((iv ((n % (q - 1) + 1) :: deD q (d - 2) (n / (q - 1)))).reverse ++ [])).length ≤ sizeLine
        rw [List.length_cons, List.length_cons, List.append_nil, List.length_reverse, List.length_map, List.length_cons, deD_len]
        exact Nat.le_trans (show d - 2 + 1 + 1 + 1 ≤ 1000 by omega) (by decide)
      · have e : (V.int 0 :: V.int 0 :: ((iv ((n % (q - 1) + 1) :: deD q (d - 2) (n / (q - 1)))).reverse ++ [])) = iv (bAt q d n) := by
          rw [List.append_nil, ← List.map_reverse, List.reverse_cons]
          rfl
        rw [e]
        exact .inl (.inl upd_same)
theorem ok_secat {f fB : Addr} {fd fdB : FuncData} (F : Fun K "second_at" "second_at" sSecondAt f fd) (BN : BP.Can P w K mg base "barred_number" 2 pBarredNumber spBar fB fdB) (m_divmod : mg "divmod" = none) : FnOk P w K mg base CX0 3 f fd pSecondAt (spSecAt K) := by
  refine F.ok scSecondAt (fun vs H Q E h => ?_) (fun cdv A outer s H vs Q E hr h => ?_)
  · obtain ⟨q, _, a, b, k, rfl, _⟩ := h
    rfl
  · obtain ⟨q, FF, a, b, k, rfl, hk, want⟩ := h
    have q1 := gt1 FF.mem
    have q16 := le16 FF.mem
    refine ⟨_, (pss_cons (ps_if (pt_cmpR op_eq (pv 1) pe_int (nomark _)) (pss_one (ps_ret (pe_tup (pa_cons (pe_op op_add (pe_op op_fdiv (pv 3) (pv 0)) pe_int) (pa_cons (pe_op op_mod (pv 3) (pv 0)) pa_nil))))) pss_nil)
      (pss_cons (ps_asg (pe_callB call_divmod (by rfl) m_divmod (by decide +kernel) (pa_cons (pv 3) (pa_cons (pe_op op_sub (pv 0) pe_int) pa_nil))) (pg_tup rfl (pgs_cons (pg_name (i := 4) scSecondAt.nd rfl (.inl rfl)) (pgs_cons (pg_name (i := 5) scSecondAt.nd rfl (.inl rfl)) pgs_nil))))
      (pss_one (ps_ret (pe_tup (pa_cons (pv 4) (pa_cons (pe_ifExp (pt_cmpR op_ge (pv 5) (pe_call BN.ok hr (by rfl) BN.g BN.kp BN.b .nil pass0 (pa_cons (pv 0) (pa_cons (pv 1) (pa_cons (pv 2) (pa_cons (pv 4) pa_nil))))) (nomark _)) (pe_op op_add (pv 5) pe_int) (pv 5)) pa_nil))))))), ?_⟩
    refine ⟨vn a, rfl, rfl, _, rfl, ite2 (fun h => ?_) (fun h => ?_)⟩
    · have h0 : a.val = 0 := by
        have := V.int.inj (of_decide_eq_true h)
        omega
      refine (nl_add (nl_div (n := k) (m := q) (yl_var (i := 3) rfl) (yl_var (i := 0) rfl) (by omega) (by omega)) (nl_c 1)) _ ?_
      refine (nl_mod (n := k) (m := q) (yl_var (i := 3) rfl) (yl_var (i := 0) rfl) (by omega)) _ ?_
      refine ⟨(by show 2 ≤ sizeLine; decide), fun p np => want p _ (same_new np) ?_⟩
      unfold secD secE
      rw [if_pos h0, if_pos h0]
      exact .inl (.inl upd_same)
    · have h0 : ¬ a.val = 0 := fun z => h (decide_eq_true (congrArg (fun n : Nat => V.int (n : Int)) z))
      have hd := secD_lt a.val q1 hk
      have dv : secD a.val q k = k / (q - 1) := by
        unfold secD
        rw [if_neg h0]
      refine ⟨_, rfl, ?_⟩
      refine (nl_sub (n := q) (m := 1) (yl_var (i := 0) rfl) yl_c (by omega)) _ ?_
      refine ⟨_, _, rfl, ⟨by omega, by omega⟩, fun p np => ?_⟩
      have hp := dmS (K := K) (n := k) (m := q - 1) (H := H) (p := p)
      have s1 := same_new (o := .tup [V.int ((k : Int) / ((q - 1 : Nat) : Int)), V.int ((k : Int) % ((q - 1 : Nat) : Int))]) np
      generalize upd H p (.tup [V.int ((k : Int) / ((q - 1 : Nat) : Int)), V.int ((k : Int) % ((q - 1 : Nat) : Int))]) = H1 at *
      refine ⟨p, _, rfl, hp, rfl, _, [_], rfl, _, [], rfl, rfl, ?_⟩
      show Ends.nx _ [some (.int q), some (vn a), some (vn b), some (.int k), some (.int (k / (q - 1) : Nat)), some (.int (k % (q - 1) : Nat))] H1
      dsimp only []
      have evd : (.int (k / (q - 1) : Nat) : V) = vn (el (secD a.val q k) : El q) := by
        show V.int (k / (q - 1) : Nat) = V.int ((el (secD a.val q k) : El q).val : Nat)
        rw [el_val hd, dv]
      obtain ⟨br, hbr⟩ : ∃ br : Nat, br = (bar a b (el (secD a.val q k)) : El q).val := ⟨_, rfl⟩
      refine ⟨_, rfl, ?_⟩
      have fin : ∀ e : Nat, e = secE br a.val q k → ∀ xs : List V, xs = [V.int (k / (q - 1) : Nat), V.int (e : Nat)] → xs.length ≤ sizeLine ∧ ∀ p', H1 p' = none → Q (.ref p') (upd H1 p' (.tup xs)) := fun e he xs hx => by
        subst hx he
        refine ⟨(by show 2 ≤ sizeLine; decide), fun p' np' => want p' _ (s1.trans (same_new np')) ?_⟩
        rw [dv, ← hbr] at *
        exact .inl (.inl upd_same)
      refine ⟨_, rfl, .int q, rfl, vn a, rfl, vn b, rfl, .int (k / (q - 1) : Nat), rfl, q, FF, a, b, el (secD a.val q k), by rw [evd]; rfl, ne_zero h0, ?_⟩
      refine ⟨_, _, rfl, rfl, _, rfl, ite2 (fun g => ?_) (fun g => ?_)⟩
      · have g1 := of_decide_eq_true g
        rw [← hbr] at g1
        have g2 : br ≤ k % (q - 1) := by omega
        refine (nl_add (n := k % (q - 1)) (m := 1) (yl_var (i := 5) rfl) (nl_c 1)) _ ?_
        refine fin _ ?_ _ rfl
        unfold secE
        rw [if_neg h0, if_pos g2]
      · have g2 : ¬ br ≤ k % (q - 1) := fun z => g (decide_eq_true (by rw [← hbr]; omega))
        refine ⟨_, rfl, ?_⟩
        refine fin _ ?_ _ rfl
        unfold secE
        rw [if_neg h0, if_neg g2]
end
end K13
set_option Elab.async false
set_option linter.all false
set_option maxRecDepth 100000
set_option maxHeartbeats 400000
set_option pp.maxSteps 3000
namespace BP
open PySem PySem.Spec PyProof.Rows L2 Fld
section
variable {q : Nat} [FF : IsF q] {K : PySem.W.Frag} {H H' : Hp}
theorem int_el {x : Nat} (h : x < q) : (.int (x : Nat) : V) = vn (el x : El q) := by
  show V.int (x : Nat) = V.int ((el x : El q).val : Nat)
  rw [el_val h]
theorem vns_pol {l : List Nat} (h : ∀ x ∈ l, x < q) : vns (pol l : Po q) = iv l := by
  unfold pol
  show List.map vn (List.map el l) = List.map (fun n : Nat => V.int (n : Nat)) l
  rw [List.map_map]
  refine List.map_congr_left fun x hx => ?_
  exact (int_el (h x hx)).symm
/-- bends at these addresses -/
def AtAll (K : PySem.W.Frag) (H : Hp) : List Addr → List (List Nat) → Prop
  | [], [] => True
  | a :: as, g :: gs => SqT K H a (iv g) ∧ AtAll K H as gs
  | _, _ => False
theorem AtAll.kept (s : Same H H') : ∀ {as : List Addr} {gs : List (List Nat)}, AtAll K H as gs → AtAll K H' as gs
  | [], [], _ => True.intro
  | _ :: _, _ :: _, ⟨h, k⟩ => ⟨BP.Same.tupS s h, AtAll.kept s k⟩
  | [], _ :: _, h => h.elim
  | _ :: _, [], h => h.elim
theorem AtAll.snoc {a : Addr} {g : List Nat} (hg : SqT K H a (iv g)) : ∀ {as : List Addr} {gs : List (List Nat)}, AtAll K H as gs → AtAll K H (as ++ [a]) (gs ++ [g])
  | [], [], _ => ⟨hg, True.intro⟩
  | _ :: _, _ :: _, ⟨h, k⟩ => ⟨h, AtAll.snoc hg k⟩
  | [], _ :: _, h => h.elim
  | _ :: _, [], h => h.elim
theorem put_tup {L x : Addr} {ys xs : List V} {o : HO} (hL : H L = some (.lst ys)) (h : SqT K H x xs) : SqT K (upd H L o) x xs := by
  rcases h with (h | ⟨u, h⟩) | h
  · exact .inl (.inl (by rw [upd_ne (ne_of h hL (by intro z; cases z))]; exact h))
  · exact .inl (.inr ⟨u, by rw [upd_ne (ne_of h hL (by intro z; cases z))]; exact h⟩)
  · exact .inr h
theorem drop1A {a : Addr} {xs : List V} {Q : VK} (ha : SqT K H a xs) (k : ∀ (r : Addr) (H' : Hp), Same H H' → SqT K H' r (xs.drop 1) → Q (.ref r) H') : rSlA K (.ref a) (some 1) none H Q := by
  have e1 : HT.sIx xs.length 0 (some 1) = min 1 xs.length := HT.sIx_nat _ _ 1
  refine ⟨a, xs, rfl, ha, fun e => ?_, fun _ p np => k p _ (same_new np) ?_⟩
  · refine k a H (fun _ _ z => z) ?_
    obtain ⟨e2, _⟩ := e
    rw [e1] at e2
    have : xs = [] := List.length_eq_zero_iff.mp (by omega)
    rw [this] at ha ⊢
    exact ha
  · have e : cutV xs (some 1) none = xs.drop 1 := by
      unfold cutV
      rw [e1, HT.sIx_none]
      cases xs with
      | nil => rfl
      | cons x r =>
        rw [show min 1 (x :: r).length = 1 by rw [List.length_cons]; omega]
        exact List.take_of_length_le (by simp)
    rw [e]
    exact .inl (.inl upd_same)
theorem AtAll.put {L : Addr} {ys : List V} {o : HO} (hL : H L = some (.lst ys)) : ∀ {as : List Addr} {gs : List (List Nat)}, AtAll K H as gs → AtAll K (upd H L o) as gs
  | [], [], _ => True.intro
  | _ :: _, _ :: _, ⟨h, k⟩ => ⟨put_tup hL h, AtAll.put hL k⟩
  | [], _ :: _, h => h.elim
  | _ :: _, [], h => h.elim
theorem AtAll.len : ∀ {as : List Addr} {gs : List (List Nat)}, AtAll K H as gs → as.length = gs.length
  | [], [], _ => rfl
  | _ :: _, _ :: _, ⟨_, k⟩ => congrArg (· + 1) (AtAll.len k)
  | [], _ :: _, h => h.elim
  | _ :: _, [], h => h.elim
theorem stk_mk (o : Option (El q)) : ∀ {ts : List Nat} {gs : List (List Nat)} {as : List Addr}, gs.length = ts.length + 1 → (∀ t ∈ ts, t < q) → (∀ g ∈ gs, ∀ x ∈ g, x < q) → AtAll K H as gs →
    Stk K H (mkSt ts o (gs.map pol : List (Po q))) (ov o :: (iv ts).reverse) (as.map V.ref).reverse
  | [], [g], [a], _, _, hg, ⟨h, _⟩ => ⟨[], [], a, rfl, rfl, by rw [vns_pol (hg g (List.mem_cons_self ..))]; exact h, rfl, rfl⟩
  | t :: ts, g :: gs, a :: as, hl, ht, hg, ⟨h, k⟩ => by
    have ih := stk_mk o (Nat.succ.inj hl) (fun x hx => ht x (List.mem_cons_of_mem _ hx)) (fun x hx => hg x (List.mem_cons_of_mem _ hx)) k
    refine ⟨ov o :: (iv ts).reverse, (as.map V.ref).reverse, a, ?_, ?_, by rw [vns_pol (hg g (List.mem_cons_self ..))]; exact h, ih⟩
    · show ov o :: (List.map (fun n : Nat => V.int (n : Nat)) (t :: ts)).reverse = (ov o :: (iv ts).reverse) ++ [vn (el t : El q)]
      rw [List.map_cons, List.reverse_cons, ← int_el (ht t (List.mem_cons_self ..))]
      rfl
    · rw [List.map_cons, List.reverse_cons]
  | [], [], _, h, _, _, _ => by cases h
  | [], _ :: _ :: _, _, h, _, _, _ => by cases h
  | _ :: _, [], _, h, _, _, _ => by cases h
  | _, _ :: _, [], _, _, _, h => h.elim
  | [], [_], _ :: _ :: _, _, _, _, h => h.2.elim
theorem deB_all : ∀ {rs : List Nat} (m : Nat), ∀ g ∈ deB q rs m, ∀ x ∈ g, x < q
  | [], _, g, hg => by cases hg
  | d :: r, m, g, hg => by
    rcases List.mem_cons.mp hg with e | e
    · rw [e]
      exact bAt_lt
    · exact deB_all _ g e
theorem ov_so {s : Nat} (h : s ≤ q) : ov (so s : Option (El q)) = .int ((-1 : Int) + (s : Nat)) := by
  rw [ov_tv, tv_so h]
  exact congrArg V.int (by omega)
end
def spStAt (K : PySem.W.Frag) : Sp := fun vs H Q _ => ∃ (q : Nat) (_ : IsF q) (a : Addr) (ds : List Nat) (N : Nat), vs = [.int q, .ref a, .int N] ∧ Dgs K H a ds ∧ N < mP q ds.reverse * Cnt.strt q ∧
  ∀ (p : Addr) (H' : Hp), Same H H' → StepAt K H' p (zOf q ds.reverse (N / Cnt.strt q) (N % Cnt.strt q)) → Q (.ref p) H'
end BP
namespace K13
open PySem PySem.Spec PyProof.Rows L2 BP Fld
section
variable {P : Program} {w : World} {K : PySem.W.Frag} {mg : Str → Option Value} {base : Heap}
theorem ok_strat {f fB : Addr} {fd fdB : FuncData} (F : Fun K "straight_at" "straight_at" sStraightAt f fd) (SA : BP.Can P w K mg base "second_at" 3 pSecondAt (spSecAt K) fB fdB) (m_divmod : mg "divmod" = none) : FnOk P w K mg base CX0 4 f fd pStraightAt (spStrAt K) := by
  refine F.ok scStraightAt (fun vs H Q E h => ?_) (fun cdv A outer s H vs Q E hr h => ?_)
  · obtain ⟨q, _, n, rfl, _⟩ := h
    rfl
  · obtain ⟨q, FF, n, rfl, hn, want⟩ := h
    have q1 := gt1 FF.mem
    have q16 := le16 FF.mem
    have qq : q ≤ q * q := Nat.le_mul_of_pos_left q (by omega)
    have qb : q * q ≤ 16 * 16 := Nat.mul_le_mul q16 q16
    have qp := qq_pos q1
    have ha := nA_lt hn
    have hb : nB q n < q := Nat.mod_lt _ (by omega)
    have hc : nC q n < q := Nat.mod_lt _ (by omega)
    have hf : nF q n < q := Nat.mod_lt _ (by omega)
    have hk : nK q n < q * q - q := Nat.mod_lt _ qp
    have hd := secD_lt (nA q n) q1 hk
    refine ⟨_, (pss_cons (ps_asg (pe_callB call_divmod (by rfl) m_divmod (by decide +kernel) (pa_cons (pv 1) (pa_cons (pv 0) pa_nil))) (pg_tup rfl (pgs_cons (pg_name (i := 2) scStraightAt.nd rfl (.inl rfl)) (pgs_cons (pg_name (i := 3) scStraightAt.nd rfl (.inl rfl)) pgs_nil))))
      (pss_cons (ps_asg (pe_callB call_divmod (by rfl) m_divmod (by decide +kernel) (pa_cons (pv 2) (pa_cons (pe_op op_sub (pe_op op_mul (pv 0) (pv 0)) (pv 0)) pa_nil))) (pg_tup rfl (pgs_cons (pg_name (i := 2) scStraightAt.nd rfl (.inl rfl)) (pgs_cons (pg_name (i := 4) scStraightAt.nd rfl (.inl rfl)) pgs_nil))))
      (pss_cons (ps_asg (pe_callB call_divmod (by rfl) m_divmod (by decide +kernel) (pa_cons (pv 2) (pa_cons (pv 0) pa_nil))) (pg_tup rfl (pgs_cons (pg_name (i := 2) scStraightAt.nd rfl (.inl rfl)) (pgs_cons (pg_name (i := 5) scStraightAt.nd rfl (.inl rfl)) pgs_nil))))
      (pss_cons (ps_asg (pe_callB call_divmod (by rfl) m_divmod (by decide +kernel) (pa_cons (pe_op op_add (pv 2) pe_int) (pa_cons (pv 0) pa_nil))) (pg_tup rfl (pgs_cons (pg_name (i := 6) scStraightAt.nd rfl (.inl rfl)) (pgs_cons (pg_name (i := 7) scStraightAt.nd rfl (.inl rfl)) pgs_nil))))
      (pss_cons (ps_asg (pe_call SA.ok hr (by rfl) SA.g SA.kp SA.b .nil pass0 (pa_cons (pv 0) (pa_cons (pv 6) (pa_cons (pv 7) (pa_cons (pv 4) pa_nil))))) (pg_tup rfl (pgs_cons (pg_name (i := 8) scStraightAt.nd rfl (.inl rfl)) (pgs_cons (pg_name (i := 9) scStraightAt.nd rfl (.inl rfl)) pgs_nil))))
      (pss_one (ps_ret (pe_tup (pa_cons (pv 6) (pa_cons (pv 7) (pa_cons (pv 5) (pa_cons (pv 8) (pa_cons (pv 9) (pa_cons (pv 3) pa_nil)))))))))))))), ?_⟩
    refine ⟨_, rfl, _, rfl, ?_⟩
    refine ⟨_, _, rfl, ⟨by omega, by omega⟩, fun p1 np_p1 => ?_⟩
    have hp1 := dmS (K := K) (n := n) (m := q) (H := H) (p := p1)
    have s1 := same_new (o := .tup [V.int (((n : Nat) : Int) / ((q : Nat) : Int)), V.int (((n : Nat) : Int) % ((q : Nat) : Int))]) np_p1
    generalize upd H p1 (.tup [V.int (((n : Nat) : Int) / ((q : Nat) : Int)), V.int (((n : Nat) : Int) % ((q : Nat) : Int))]) = H1 at *
    refine ⟨p1, _, rfl, hp1, rfl, _, [_], rfl, _, [], rfl, rfl, ?_⟩
    show Ends.nx _ [some (.int q), some (.int n), some (.int (n / q : Nat)), some (.int (nF q n : Nat)), none, none, none, none, none, none] H1
    dsimp only []
    refine ⟨_, rfl, ?_⟩
    refine (nl_sub (nl_mul (n := q) (m := q) (yl_var (i := 0) rfl) (yl_var (i := 0) rfl) (by omega)) (yl_var (i := 0) rfl) qq) _ ?_
    refine ⟨_, _, rfl, ⟨by omega, by omega⟩, fun p2 np_p2 => ?_⟩
    have hp2 := dmS (K := K) (n := n / q) (m := q * q - q) (H := H1) (p := p2)
    have s2 := same_new (o := .tup [V.int (((n / q : Nat) : Int) / ((q * q - q : Nat) : Int)), V.int (((n / q : Nat) : Int) % ((q * q - q : Nat) : Int))]) np_p2
    generalize upd H1 p2 (.tup [V.int (((n / q : Nat) : Int) / ((q * q - q : Nat) : Int)), V.int (((n / q : Nat) : Int) % ((q * q - q : Nat) : Int))]) = H2 at *
    refine ⟨p2, _, rfl, hp2, rfl, _, [_], rfl, _, [], rfl, rfl, ?_⟩
    show Ends.nx _ [some (.int q), some (.int n), some (.int (n / q / (q * q - q) : Nat)), some (.int (nF q n : Nat)), some (.int (nK q n : Nat)), none, none, none, none, none] H2
    dsimp only []
    refine ⟨_, rfl, _, rfl, ?_⟩
    refine ⟨_, _, rfl, ⟨by omega, by omega⟩, fun p3 np_p3 => ?_⟩
    have hp3 := dmS (K := K) (n := n / q / (q * q - q)) (m := q) (H := H2) (p := p3)
    have s3 := same_new (o := .tup [V.int (((n / q / (q * q - q) : Nat) : Int) / ((q : Nat) : Int)), V.int (((n / q / (q * q - q) : Nat) : Int) % ((q : Nat) : Int))]) np_p3
    generalize upd H2 p3 (.tup [V.int (((n / q / (q * q - q) : Nat) : Int) / ((q : Nat) : Int)), V.int (((n / q / (q * q - q) : Nat) : Int) % ((q : Nat) : Int))]) = H3 at *
    refine ⟨p3, _, rfl, hp3, rfl, _, [_], rfl, _, [], rfl, rfl, ?_⟩
    show Ends.nx _ [some (.int q), some (.int n), some (.int (n / q / (q * q - q) / q : Nat)), some (.int (nF q n : Nat)), some (.int (nK q n : Nat)), some (.int (nC q n : Nat)), none, none, none, none] H3
    dsimp only []
    refine (nl_add (n := n / q / (q * q - q) / q) (m := 1) (yl_var (i := 2) rfl) (nl_c 1)) _ ?_
    refine ⟨_, rfl, ?_⟩
    refine ⟨_, _, rfl, ⟨by omega, by omega⟩, fun p4 np_p4 => ?_⟩
    have hp4 := dmS (K := K) (n := n / q / (q * q - q) / q + 1) (m := q) (H := H3) (p := p4)
    have s4 := same_new (o := .tup [V.int (((n / q / (q * q - q) / q + 1 : Nat) : Int) / ((q : Nat) : Int)), V.int (((n / q / (q * q - q) / q + 1 : Nat) : Int) % ((q : Nat) : Int))]) np_p4
    generalize upd H3 p4 (.tup [V.int (((n / q / (q * q - q) / q + 1 : Nat) : Int) / ((q : Nat) : Int)), V.int (((n / q / (q * q - q) / q + 1 : Nat) : Int) % ((q : Nat) : Int))]) = H4 at *
    refine ⟨p4, _, rfl, hp4, rfl, _, [_], rfl, _, [], rfl, rfl, ?_⟩
    show Ends.nx _ [some (.int q), some (.int n), some (.int (n / q / (q * q - q) / q : Nat)), some (.int (nF q n : Nat)), some (.int (nK q n : Nat)), some (.int (nC q n : Nat)), some (.int (nA q n : Nat)), some (.int (nB q n : Nat)), none, none] H4
    dsimp only []
    have s04 := s1.trans (s2.trans (s3.trans s4))
    refine ⟨.int q, rfl, _, rfl, _, rfl, _, rfl, q, FF, el (nA q n), el (nB q n), nK q n, by rw [← int_el ha, ← int_el hb]; rfl, hk, fun p5 H5 s5 hp5 => ?_⟩
    rw [el_val ha] at hp5
    obtain ⟨ee, hee⟩ : ∃ ee : Nat, ee = secE (bar (el (nA q n)) (el (nB q n)) (el (secD (nA q n) q (nK q n))) : El q).val (nA q n) q (nK q n) := ⟨_, rfl⟩
    rw [← hee] at hp5
    have he : ee < q := by rw [hee]; exact secE_lt _ _ q1
    refine ⟨p5, _, rfl, hp5, rfl, _, [_], rfl, _, [], rfl, rfl, ?_⟩
    show Ends.nx _ [some (.int q), some (.int n), some (.int (n / q / (q * q - q) / q : Nat)), some (.int (nF q n : Nat)), some (.int (nK q n : Nat)), some (.int (nC q n : Nat)), some (.int (nA q n : Nat)), some (.int (nB q n : Nat)), some (.int (secD (nA q n) q (nK q n) : Nat)), some (.int (ee : Nat))] H5
    dsimp only []
    refine ⟨_, rfl, _, rfl, _, rfl, _, rfl, _, rfl, _, rfl, (by show 6 ≤ sizeLine; decide), fun p6 np6 => want p6 _ (s04.trans (s5.trans (same_new np6))) ?_⟩
    have em : mv (sAt q n) = [.int (nA q n : Nat), .int (nB q n : Nat), .int (nC q n : Nat), .int (secD (nA q n) q (nK q n) : Nat), .int (ee : Nat), .int (nF q n : Nat)] := by
      rw [int_el ha, int_el hb, int_el hc, int_el hd, int_el he, int_el hf, hee]
      rfl
    rw [em]
    exact .inl (.inl upd_same)
end
end K13
set_option Elab.async false
set_option linter.all false
set_option maxRecDepth 100000
set_option maxHeartbeats 400000
set_option pp.maxSteps 3000
namespace K13
open PySem PySem.Spec PyProof.Rows L2 BP Fld
section
variable {P : Program} {w : World} {K : PySem.W.Frag} {mg : Str → Option Value} {base : Heap}
theorem ok_stat {f fM fS fB fA : Addr} {fd fdM fdS fdB fdA : FuncData} {tk : Tok} (F : Fun K "step_at" "step_at" sStepAt f fd) (MS : BP.Can P w K mg base "many_straight" 1 pManyStraight spStr fM fdM) (SA : BP.Can P w K mg base "straight_at" 4 pStraightAt (spStrAt K) fS fdS) (MB : BP.Can P w K mg base "many_bends" 1 pManyBends spBds fB fdB)
    (BA : BP.Can P w K mg base "bend_at" 1 pBendAt (spBAt K) fA fdA) (gNT : mg "NO_TURN" = some (.int (-1) tk)) (m_divmod : mg "divmod" = none) (m_reversed : mg "reversed" = none) (m_tuple : mg "tuple" = none) : FnOk P w K mg base CX0 5 f fd pStepAt (spStAt K) := by
  refine F.ok scStepAt (fun vs H Q E h => ?_) (fun cdv A outer s H vs Q E hr h => ?_)
  · obtain ⟨q, _, a, ds, N, rfl, _⟩ := h
    rfl
  · obtain ⟨q, FF, a, ds, N, rfl, ⟨hS, hds, hl⟩, hN, want⟩ := h
    have q1 := gt1 FF.mem
    have q16 := le16 FF.mem
    have sl := Cnt_strt_lt FF.mem
    have sp : 0 < Cnt.strt q := Nat.pos_of_ne_zero fun z => by
      rw [z, Nat.mul_zero] at hN
      omega
    have hr1 := hr.mono (show 1 ≤ 4 by decide)
    obtain ⟨rs, ers⟩ : ∃ rs, rs = ds.reverse := ⟨_, rfl⟩
    rw [← ers] at hN want
    have hrs : ∀ d ∈ rs, 2 ≤ d ∧ d ≤ 6 := fun d h => hds d (by rw [ers] at h; exact List.mem_reverse.mp h)
    have lrs : rs.length = ds.length := by rw [ers, List.length_reverse]
    obtain ⟨m, em⟩ : ∃ m, m = N / Cnt.strt q := ⟨_, rfl⟩
    obtain ⟨n, en⟩ : ∃ n, n = N % Cnt.strt q := ⟨_, rfl⟩
    have hm : m < mP q rs := by rw [em]; exact (Nat.div_lt_iff_lt_mul sp).mpr hN
    have hn : n < Cnt.strt q := by rw [en]; exact Nat.mod_lt _ sp
    refine ⟨_, (pss_cons (ps_asg (pe_callB call_divmod (by rfl) m_divmod (by decide +kernel) (pa_cons (pv 2) (pa_cons (pe_call MS.ok hr1 (by rfl) MS.g MS.kp MS.b .nil pass0 (pa_cons (pv 0) pa_nil)) pa_nil))) (pg_tup rfl (pgs_cons (pg_name (i := 3) scStepAt.nd rfl (.inl rfl)) (pgs_cons (pg_name (i := 4) scStepAt.nd rfl (.inl rfl)) pgs_nil))))
      (pss_cons (ps_set (i := 5) scStepAt.nd rfl (.inl rfl) (pe_call SA.ok hr (by rfl) SA.g SA.kp SA.b .nil pass0 (pa_cons (pv 0) (pa_cons (pv 4) pa_nil))))
      (pss_cons (ps_set (i := 6) scStepAt.nd rfl (.inl rfl) (pe_lst pa_nil))
      (pss_cons (ps_for PassesOwn.never rfl (pi_tup (pe_slice sl_tupA (pv 1) (po_some pe_int) po_none)) (pg_name (i := 7) scStepAt.nd rfl (.inl rfl)) (pss_cons (ps_asg (pe_callB call_divmod (by rfl) m_divmod (by decide +kernel) (pa_cons (pv 3) (pa_cons (pv 0) pa_nil))) (pg_tup rfl (pgs_cons (pg_name (i := 3) scStepAt.nd rfl (.inl rfl)) (pgs_cons (pg_name (i := 8) scStepAt.nd rfl (.inl rfl)) pgs_nil))))
        (pss_one (ps_expr (pe_bm PySem.F.plainAttrs_list PySem.F.slot_list_append PySem.F.type_list_append mt_append (pv 6) (pa_cons (pv 8) pa_nil))))))
      (pss_cons (ps_set (i := 9) scStepAt.nd rfl (.inl rfl) (pe_lst pa_nil))
      (pss_cons (ps_for PassesOwn.never rfl (RT.pi_revA (by rfl) m_reversed (pv 1)) (pg_name (i := 10) scStepAt.nd rfl (.inl rfl)) (pss_cons (ps_asg (pe_callB call_divmod (by rfl) m_divmod (by decide +kernel) (pa_cons (pv 3) (pa_cons (pe_call MB.ok hr1 (by rfl) MB.g MB.kp MB.b .nil pass0 (pa_cons (pv 0) (pa_cons (pv 10) pa_nil))) pa_nil))) (pg_tup rfl (pgs_cons (pg_name (i := 3) scStepAt.nd rfl (.inl rfl)) (pgs_cons (pg_name (i := 4) scStepAt.nd rfl (.inl rfl)) pgs_nil))))
        (pss_one (ps_expr (pe_bm PySem.F.plainAttrs_list PySem.F.slot_list_append PySem.F.type_list_append mt_append (pv 9) (pa_cons (pe_call BA.ok hr1 (by rfl) BA.g BA.kp BA.b .nil pass0 (pa_cons (pv 0) (pa_cons (pv 10) (pa_cons (pv 4) pa_nil)))) pa_nil))))))
      (pss_one (ps_ret (pe_tup (pa_cons (pe_op op_add (pe_glob (v := .int (-1)) rfl gNT ⟨_, rfl⟩) (pv 3)) (pa_cons (pe_tupleOf rfl m_tuple (pe_revL (pv 9))) (pa_cons (pe_tupleOf rfl m_tuple (pe_revL (pv 6))) (pa_cons (pv 5) pa_nil))))))))))))), ?_⟩
    refine ⟨_, rfl, .int q, rfl, q, rfl, FF.mem, ?_⟩
    refine ⟨_, _, rfl, ⟨by omega, by omega⟩, fun p1 np_p1 => ?_⟩
    have hp1 := dmS (K := K) (n := N) (m := Cnt.strt q) (H := H) (p := p1)
    have s1 := same_new (o := .tup [V.int (((N : Nat) : Int) / ((Cnt.strt q : Nat) : Int)), V.int (((N : Nat) : Int) % ((Cnt.strt q : Nat) : Int))]) np_p1
    generalize upd H p1 (.tup [V.int (((N : Nat) : Int) / ((Cnt.strt q : Nat) : Int)), V.int (((N : Nat) : Int) % ((Cnt.strt q : Nat) : Int))]) = H1 at *
    refine ⟨p1, _, rfl, hp1, rfl, _, [_], rfl, _, [], rfl, rfl, ?_⟩
    rw [← em, ← en] at want
    show Ends.nx _ [some (.int q), some (.ref a), some (.int N), some (.int (N / Cnt.strt q : Nat)), some (.int (N % Cnt.strt q : Nat)), none, none, none, none, none, none] H1
    dsimp only []
    rw [← em, ← en]
    refine ⟨.int q, rfl, _, rfl, q, FF, n, rfl, hn, fun l H2 s2 hlast => ?_⟩
    show Ends.nx _ [some (.int q), some (.ref a), some (.int N), some (.int (m : Nat)), some (.int (n : Nat)), some (.ref l), none, none, none, none, none] H2
    dsimp only []
    refine ⟨(by show 0 ≤ sizeLine; decide), fun L1 nL1 => ?_⟩
    show Ends.nx _ [some (.int q), some (.ref a), some (.int N), some (.int (m : Nat)), some (.int (n : Nat)), some (.ref l), some (.ref L1), none, none, none, none] _
    dsimp only []
    have s12 := s1.trans s2
    have fL1 : H L1 = none := BP.none_of s12 nL1
    have s3 : Same H2 (upd H2 L1 (.lst ([] : List V))) := same_new nL1
    have hL1 : upd H2 L1 (.lst ([] : List V)) L1 = some (.lst ([] : List V)) := upd_same
    refine ⟨.ref a, rfl, 1, rfl, ?_⟩
    dsimp only [tNoPart]
    refine drop1A (K := K) (BP.Same.tupS (s12.trans s3) hS) fun x H3 s4 hx => ?_
    rw [show (iv ds).drop 1 = iv (ds.drop 1) from (List.map_drop ..).symm] at hx
    refine ⟨x, rfl, ⟨_, hx⟩, for_tup (K := K) (D := { nx := _, rt := _ }) (a := x) (xs := iv (ds.drop 1)) (fun i σ H' => Same H2 H' ∧ SqT K H' x (iv (ds.drop 1)) ∧ H' L1 = some (.lst (iv (deD q i m))) ∧ ∃ y7 y8, σ = [some (.int q), some (.ref a), some (.int N), some (.int (m / q ^ i : Nat)), some (.int (n : Nat)), some (.ref l), some (.ref L1), y7, y8, none, none]) ⟨s3.trans s4, hx, s4 _ _ hL1, none, none, ?_⟩ (fun i σ H' _ hW => hW.2.1) (fun i x' σ H' hi hW => ?_) (fun σ H' hW => ?_)⟩
    · rw [Nat.pow_zero, Nat.div_one]
    · obtain ⟨s5, hx5, hL5, y7, y8, rfl⟩ := hW
      refine ⟨_, rfl, _, rfl, ?_⟩
      refine ⟨_, _, rfl, ⟨by omega, by omega⟩, fun p2 np_p2 => ?_⟩
      have hp2 := dmS (K := K) (n := m / q ^ i) (m := q) (H := H') (p := p2)
      have s6 := same_new (o := .tup [V.int (((m / q ^ i : Nat) : Int) / ((q : Nat) : Int)), V.int (((m / q ^ i : Nat) : Int) % ((q : Nat) : Int))]) np_p2
      generalize upd H' p2 (.tup [V.int (((m / q ^ i : Nat) : Int) / ((q : Nat) : Int)), V.int (((m / q ^ i : Nat) : Int) % ((q : Nat) : Int))]) = H6 at *
      refine ⟨p2, _, rfl, hp2, rfl, _, [_], rfl, _, [], rfl, rfl, ?_⟩
      show Ends.nx _ [some (.int q), some (.ref a), some (.int N), some (.int (m / q ^ i / q : Nat)), some (.int (n : Nat)), some (.ref l), some (.ref L1), some x', some (.int (m / q ^ i % q : Nat)), none, none] H6
      dsimp only []
      have hL6 := s6 _ _ hL5
      have hi2 : i < 12 := by
        have := (List.getElem?_eq_some_iff.mp hi).1
        rw [List.length_map, List.length_drop] at this
        omega
      refine ⟨.ref L1, rfl, .inl ⟨rfl, _, .inl (.inl hL6)⟩, _, rfl, L1, _, _, rfl, rfl, hL6, ?_, ?_⟩
      · rw [List.length_map, deD_len]
        exact Nat.lt_of_lt_of_le (show i < 1000 by omega) (by decide)
      · refine ⟨same_put (s5.trans s6) nL1, put_tup hL6 (BP.Same.tupS s6 hx5), ?_, some x', some (.int (m / q ^ i % q : Nat)), ?_⟩
        · rw [upd_same, deD_snoc]
          show some (HO.lst (List.map _ _ ++ [_])) = some (HO.lst (List.map _ _))
          rw [List.map_append]
          rfl
        · rw [Nat.div_div_eq_div_mul _ (q ^ i), ← Nat.pow_succ]
    obtain ⟨s5, hx5, hL5, y7, y8, rfl⟩ := hW
    have k1 : (iv (ds.drop 1)).length = rs.length - 1 := by rw [List.length_map, List.length_drop, lrs]
    rw [k1] at hL5 ⊢
    obtain ⟨m', em'⟩ : ∃ m', m' = m / q ^ (rs.length - 1) := ⟨_, rfl⟩
    rw [← em']
    refine ⟨(by show 0 ≤ sizeLine; decide), fun L2 nL2 => ?_⟩
    show Ends.nx _ [some (.int q), some (.ref a), some (.int N), some (.int (m' : Nat)), some (.int (n : Nat)), some (.ref l), some (.ref L1), y7, y8, some (.ref L2), none] _
    dsimp only []
    have hS5 : SqT K H' a (iv ds) := BP.Same.tupS (s12.trans s5) hS
    have s6 : Same H' (upd H' L2 (.lst ([] : List V))) := same_new nL2
    refine ⟨.ref a, rfl, a, iv ds, rfl, .inr ⟨BP.Same.tupS s6 hS5, ?_⟩⟩
    refine for_it (walk_revT (K := K) (a := a) (xs := iv ds)) (D := { nx := _, rt := _ }) (fun j σ H'' => Same H' H'' ∧ (∃ as : List Addr, H'' L2 = some (.lst (as.map V.ref)) ∧ AtAll K H'' as (deB q (rs.take j) m')) ∧ ∃ y4 y10, σ = [some (.int q), some (.ref a), some (.int N), some (.int (m' / pB q (rs.take j) : Nat)), y4, some (.ref l), some (.ref L1), y7, y8, some (.ref L2), y10]) ⟨s6, ⟨[], upd_same, True.intro⟩, some (.int (n : Nat)), none, ?_⟩ (fun j σ H'' _ hW => BP.Same.tupS hW.1 hS5) (fun j x' σ H'' H3' hj hW hy => ?_) (fun σ H'' hW => ?_)
    · show _ = [some (.int q), some (.ref a), some (.int N), some (.int (m' / 1 : Nat)), some (.int (n : Nat)), some (.ref l), some (.ref L1), y7, y8, some (.ref L2), none]
      rw [Nat.div_one]
    · obtain ⟨rfl, hy⟩ := hy
      obtain ⟨s7, ⟨as, hL7, hA⟩, y4, y10, rfl⟩ := hW
      rw [List.length_map] at hj hy
      obtain ⟨d, ed, rfl⟩ := iv_get hy
      have ed2 : rs[j]? = some d := by
        rw [ers, List.getElem?_reverse hj]
        exact ed
      obtain ⟨d2, d6⟩ := hrs d (List.mem_of_getElem? ed2)
      have bb := Cnt.bds_le (by omega : 0 < q) q16 d6
      have bp := bds_pos (d := d) (by omega : 2 ≤ q)
      refine ⟨_, rfl, .int q, rfl, .int d, rfl, q, d, rfl, FF.mem, d2, d6, ?_⟩
      refine ⟨_, _, rfl, ⟨by omega, by omega⟩, fun p3 np_p3 => ?_⟩
      have hp3 := dmS (K := K) (n := m' / pB q (rs.take j)) (m := Cnt.bds q d) (H := H3') (p := p3)
      have s8 := same_new (o := .tup [V.int (((m' / pB q (rs.take j) : Nat) : Int) / ((Cnt.bds q d : Nat) : Int)), V.int (((m' / pB q (rs.take j) : Nat) : Int) % ((Cnt.bds q d : Nat) : Int))]) np_p3
      generalize upd H3' p3 (.tup [V.int (((m' / pB q (rs.take j) : Nat) : Int) / ((Cnt.bds q d : Nat) : Int)), V.int (((m' / pB q (rs.take j) : Nat) : Int) % ((Cnt.bds q d : Nat) : Int))]) = H8 at *
      refine ⟨p3, _, rfl, hp3, rfl, _, [_], rfl, _, [], rfl, rfl, ?_⟩
      show Ends.nx _ [some (.int q), some (.ref a), some (.int N), some (.int (m' / pB q (rs.take j) / Cnt.bds q d : Nat)), some (.int (m' / pB q (rs.take j) % Cnt.bds q d : Nat)), some (.ref l), some (.ref L1), y7, y8, some (.ref L2), some (.int (d : Nat))] H8
      dsimp only []
      have hL8 := s8 _ _ hL7
      refine ⟨.ref L2, rfl, .inl ⟨rfl, _, .inl (.inl hL8)⟩, .int q, rfl, _, rfl, _, rfl, q, FF, d, _, rfl, d2, d6, fun p4 H9 s9 hp4 => ?_⟩
      have hL9 := s9 _ _ hL8
      have la := hA.len
      rw [deB_len, List.length_take] at la
      refine ⟨L2, _, _, rfl, rfl, hL9, ?_, ?_⟩
      · rw [List.length_map]
        exact Nat.lt_of_lt_of_le (show as.length < 1000 by omega) (by decide)
      · have et : rs.take (j + 1) = rs.take j ++ [d] := by
          rw [List.take_add_one, ed2]
          rfl
        refine ⟨same_put (s7.trans (s8.trans s9)) nL2, ⟨as ++ [p4], ?_, ?_⟩, some (.int (m' / pB q (rs.take j) % Cnt.bds q d : Nat)), some (.int (d : Nat)), ?_⟩
        · rw [upd_same, List.map_append]
          rfl
        · rw [et, deB_snoc]
          exact AtAll.snoc (put_tup hL9 hp4) (AtAll.put hL9 (hA.kept (s8.trans s9)))
        · rw [et, pB_snoc, Nat.div_div_eq_div_mul]
    obtain ⟨s7, ⟨as, hL7, hA⟩, y4, y10, rfl⟩ := hW
    rw [show (iv ds).length = rs.length by rw [List.length_map, lrs], List.take_length] at *
    have hL1' := s7 _ _ hL5
    have la := hA.len
    rw [deB_len] at la
    have hl7 := BP.Same.tupS (s5.trans s7) hlast
    refine ⟨_, rfl, _, _, rfl, rfl, .ref L2, rfl, L2, _, rfl, .inl (.inl hL7), fun r1 nr1 => .inl ⟨r1, _, rfl, .inl (.inl upd_same), fun b nb => ?_⟩⟩
    have t1 := same_new (o := .lst (as.map V.ref).reverse) nr1
    have t2 := same_new (o := .tup (as.map V.ref).reverse) nb
    refine ⟨.ref L1, rfl, L1, _, rfl, .inl (.inl (t2 _ _ (t1 _ _ hL1'))), fun r2 nr2 => .inl ⟨r2, _, rfl, .inl (.inl upd_same), fun t nt => ?_⟩⟩
    have t3 := same_new (o := .lst (iv (deD q (rs.length - 1) m)).reverse) nr2
    have t4 := same_new (o := .tup (iv (deD q (rs.length - 1) m)).reverse) nt
    refine ⟨.ref l, rfl, (by show 4 ≤ sizeLine; decide), fun c nc => ?_⟩
    have t5 := same_new (o := .tup [V.int (-1 + (m' / pB q rs : Nat)), .ref b, .ref t, .ref l]) nc
    refine want c _ (s12.trans (s5.trans (s7.trans (t1.trans (t2.trans (t3.trans (t4.trans t5))))))) ?_
    have hb : SqT K (upd (upd H'' r1 (.lst (as.map V.ref).reverse)) b (.tup (as.map V.ref).reverse)) b (as.map V.ref).reverse := .inl (.inl upd_same)
    have es : m' / pB q rs = sOf q rs m := by rw [em']; rfl
    refine ⟨_, _, _, t, b, l, .inl (.inl upd_same), BP.Same.tupS (t3.trans (t4.trans t5)) hb, BP.Same.tupS t5 (.inl (.inl upd_same)), BP.Same.tupS (t1.trans (t2.trans (t3.trans (t4.trans t5)))) hl7, ?_⟩
    by_cases h0 : rs = []
    · refine .inl ⟨by rw [h0]; rfl, ?_, ?_, ?_⟩
      · have z : sOf q rs m = 0 := by
          rw [h0] at hm ⊢
          exact sOf_nil hm
        rw [es, z]
        rfl
      · rw [h0]
        rfl
      · rw [h0] at la
        rw [List.length_eq_zero_iff.mp la]
        rfl
    · refine .inr ⟨?_, ?_⟩
      · exact mk_ne (stOf_len h0 m)
      · have k := stk_mk (q := q) (K := K) (so (sOf q rs m)) (ts := tOf q rs m) (gs := bOf q rs m) (as := as) (by
          have := stOf_len (q := q) h0 m
          rw [List.length_map] at this
          exact this) (deD_lt (by omega) _ _) (deB_all _) (by
          unfold bOf
          rw [← em']
          exact hA.kept (t1.trans (t2.trans (t3.trans (t4.trans t5)))))
        have ev : ov (so (sOf q rs m) : Option (El q)) = .int ((-1 : Int) + (m' / pB q rs : Nat)) := by
          rw [ov_so (sOf_lt (by omega) h0 hm), es]
        rw [ev] at k
        exact k
end
end K13
set_option Elab.async false
set_option linter.all false
set_option maxRecDepth 100000
set_option maxHeartbeats 400000
set_option pp.maxSteps 2000
namespace BP
open PySem PySem.Spec PyProof.Rows L2 Fld
def sortS (b : Bool) : Str := if b then "bent" else "straight"
section
variable {q : Nat} [FF : IsF q] {K : PySem.W.Frag} {H H' : Hp}
/-- bends, one behind the other -/
def FsAt (K : PySem.W.Frag) (H : Hp) : List V → List (Po q) → Prop
  | [], [] => True
  | v :: vs, f :: fs => (∃ a : Addr, v = .ref a ∧ SqT K H a (vns f)) ∧ FsAt K H vs fs
  | _, _ => False
theorem FsAt.kept (s : Same H H') : ∀ {vs : List V} {fs : List (Po q)}, FsAt K H vs fs → FsAt K H' vs fs
  | [], [], _ => True.intro
  | _ :: _, _ :: _, ⟨⟨a, e, h⟩, k⟩ => ⟨⟨a, e, BP.Same.tupS s h⟩, FsAt.kept s k⟩
  | [], _ :: _, h => h.elim
  | _ :: _, [], h => h.elim
theorem FsAt.len : ∀ {vs : List V} {fs : List (Po q)}, FsAt K H vs fs → vs.length = fs.length
  | [], [], _ => rfl
  | _ :: _, _ :: _, ⟨_, k⟩ => congrArg (· + 1) (FsAt.len k)
  | [], _ :: _, h => h.elim
  | _ :: _, [], h => h.elim
theorem FsAt.get : ∀ {vs : List V} {fs : List (Po q)}, FsAt K H vs fs → ∀ {i : Nat} {v : V}, vs[i]? = some v → ∃ (a : Addr) (f : Po q), v = .ref a ∧ fs[i]? = some f ∧ SqT K H a (vns f)
  | [], [], _, i, v, h => by cases h
  | _ :: _, f :: _, ⟨⟨a, e, h⟩, k⟩, 0, v, hv => ⟨a, f, by rw [← Option.some.inj hv]; exact e, rfl, h⟩
  | _ :: _, _ :: _, ⟨_, k⟩, i + 1, v, hv => FsAt.get k hv
  | [], _ :: _, h, _, _, _ => h.elim
  | _ :: _, [], h, _, _, _ => h.elim
theorem FsAt.take : ∀ {vs : List V} {fs : List (Po q)} (n : Nat), FsAt K H vs fs → FsAt K H (vs.take n) (fs.take n)
  | _, _, 0, _ => True.intro
  | [], [], _ + 1, _ => True.intro
  | _ :: _, _ :: _, n + 1, ⟨h, k⟩ => ⟨h, FsAt.take n k⟩
  | [], _ :: _, _ + 1, h => h.elim
  | _ :: _, [], _ + 1, h => h.elim
theorem FsAt.snoc {a : Addr} {f : Po q} (h : SqT K H a (vns f)) : ∀ {vs : List V} {fs : List (Po q)}, FsAt K H vs fs → FsAt K H (vs ++ [.ref a]) (fs ++ [f])
  | [], [], _ => ⟨⟨a, rfl, h⟩, True.intro⟩
  | _ :: _, _ :: _, ⟨h1, k⟩ => ⟨h1, FsAt.snoc h k⟩
  | [], _ :: _, h => h.elim
  | _ :: _, [], h => h.elim
theorem stk_fs : ∀ {st : List (Option (El q) × Po q)} {ts bs : List V}, Stk K H st ts bs → FsAt K H bs (st.map (·.2)).reverse
  | [], _, _, ⟨_, e⟩ => by
    rw [e]
    exact True.intro
  | (o, g) :: r, _, _, ⟨ts', bs', a, e1, e2, hg, k⟩ => by
    rw [e2, List.map_cons, List.reverse_cons]
    exact FsAt.snoc hg (stk_fs k)
/-- a place: its sort, start, turns and bends, the first one first -/
def PlAt (K : PySem.W.Frag) (H : Hp) (c : Addr) (b : Bool) (o : Option (El q)) (us : Po q) (fs : List (Po q)) : Prop :=
  ∃ (bs : List V) (p t : Addr), SqT K H c [.str (sortS b), ov o, .ref p, .ref t] ∧ SqT K H p bs ∧ FsAt K H bs fs ∧ SqT K H t (vns us)
theorem PlAt.kept {c : Addr} {b : Bool} {o : Option (El q)} {us : Po q} {fs : List (Po q)} (h : PlAt K H c b o us fs) (s : Same H H') : PlAt K H' c b o us fs := by
  obtain ⟨bs, p, t, h1, h2, h3, h4⟩ := h
  exact ⟨bs, p, t, BP.Same.tupS s h1, BP.Same.tupS s h2, h3.kept s, BP.Same.tupS s h4⟩
structure PlOk (b : Bool) (o : Option (El q)) (us : Po q) (fs : List (Po q)) : Prop where
  fB : ∀ f ∈ fs, IsB f ∧ f.length ≤ 7
  lf : fs.length ≤ 200
  bent : b = true → us.length = fs.length
  str : b = false → us.length = fs.length - 1 ∧ (fs = [] → o = none)
theorem PlOk.lu {b : Bool} {o : Option (El q)} {us : Po q} {fs : List (Po q)} (h : PlOk b o us fs) : us.length ≤ 200 := by
  have := h.lf
  cases b with
  | true =>
    have := h.bent rfl
    omega
  | false =>
    have := (h.str rfl).1
    omega
end
def spIsPl (K : PySem.W.Frag) : Sp := fun vs H Q _ => ∃ (q : Nat) (_ : IsF q) (c : Addr) (b : Bool) (o : Option (El q)) (us : Po q) (fs : List (Po q)), vs = [.int q, .ref c] ∧ PlAt K H c b o us fs ∧ PlOk b o us fs ∧ ∀ H', Same H H' → Q (.bl true) H'
def spLookP (K : PySem.W.Frag) : Sp := fun vs H Q _ => ∃ (q : Nat) (_ : IsF q) (a c : Addr) (b : Bool) (o : Option (El q)) (us : Po q) (fs : List (Po q)), vs = [.int q, .ref a] ∧ SqL K H a [.ref c] ∧ PlAt K H c b o us fs ∧ PlOk b o us fs ∧ ∀ H', Same H H' → Q .non H'
end BP
namespace K13
open PySem PySem.Spec PyProof.Rows L2 BP Fld
section
variable {P : Program} {w : World} {K : PySem.W.Frag} {mg : Str → Option Value} {base : Heap}
theorem ok_ispl {f fI fB fN : Addr} {fd fdI fdB fdN : FuncData} {tk t1 t2 : Tok} (F : Fun K "is_place" "is_place" sIsPlace f fd) (II : BP.Can P w K mg base "is_integer" 1 pIsInteger spI1 fI fdI) (IB : BP.Can P w K mg base "is_bend" 5 pIsBend (spIsBd K) fB fdB)
    (AN : BP.Can P w K mg base "are_numbers" 3 pAreNumbers (spAreN K) fN fdN) (gNT : mg "NO_TURN" = some (.int (-1) tk)) (gST : mg "STRAIGHT" = some (.str "straight" t1)) (gBE : mg "BENT" = some (.str "bent" t2)) (m_len : mg "len" = none) (m_tuple : mg "tuple" = none) (m_isinstance : mg "isinstance" = none) (m_all : mg "all" = none) : FnOk P w K mg base CX0 6 f fd pIsPlace (spIsPl K) := by
  refine F.ok scIsPlace (fun vs H Q E h => ?_) (fun cdv A outer s H vs Q E hr h => ?_)
  · obtain ⟨q, _, c, b, o, us, fs, rfl, _⟩ := h
    rfl
  · obtain ⟨q, FF, c, b, o, us, fs, rfl, ⟨bs, p, t, hc, hb, hF, ht⟩, ok, want⟩ := h
    have hr1 := hr.mono (show 1 ≤ 5 by decide)
    have hr3 := hr.mono (show 3 ≤ 5 by decide)
    have lb := hF.len
    have l2 := ok.lf
    have lu := ok.lu
    obtain ⟨si, hsi, si1, si2⟩ : ∃ i : Int, ov o = .int i ∧ -1 ≤ i ∧ i < (q : Int) := by
      cases o with
      | none => exact ⟨-1, rfl, by omega, by omega⟩
      | some x => exact ⟨(x.val : Nat), rfl, by omega, by have := x.lt; omega⟩
    rw [hsi] at hc
    refine ⟨_, (pss_cons (ps_if (PW.pt (pw_or (pt_not (pt_val (pe_callB call_isi (by rfl) m_isinstance (by decide +kernel) (pa_cons (pv 1) (pa_cons (pe_bltn (v := .ty "tuple") (by rfl) m_tuple (by decide +kernel) rfl) pa_nil))))) (pw_or1 (pt_cmpR op_ne (pe_callB call_len_seq (by rfl) m_len PySem.boot_len (pa_cons (pv 1) pa_nil)) pe_int (nomark _))))) (pss_one (ps_ret pe_bl)) pss_nil)
      (pss_cons (ps_asg (pv 1) (pg_tup rfl (pgs_cons (pg_name (i := 2) scIsPlace.nd rfl (.inl rfl)) (pgs_cons (pg_name (i := 3) scIsPlace.nd rfl (.inl rfl)) (pgs_cons (pg_name (i := 4) scIsPlace.nd rfl (.inl rfl)) (pgs_cons (pg_name (i := 5) scIsPlace.nd rfl (.inl rfl)) pgs_nil))))))
      (pss_cons (ps_if (PW.pt (pw_or (pt_not (pt_val (pe_call II.ok hr1 (by rfl) II.g II.kp II.b .nil pass0 (pa_cons (pv 3) pa_nil)))) (pw_or (pt_not (pt_chain op_le op_lt (pe_glob (v := .int (-1)) rfl gNT ⟨_, rfl⟩) (pv 3) (pv 0))) (pw_or1 (pt_not (pt_val (pe_call AN.ok hr3 (by rfl) AN.g AN.kp AN.b .nil pass0 (pa_cons (pv 0) (pa_cons (pv 5) pa_nil))))))))) (pss_one (ps_ret pe_bl)) pss_nil)
      (pss_cons (ps_if (PW.pt (pw_or (pt_not (pt_val (pe_callB call_isi (by rfl) m_isinstance (by decide +kernel) (pa_cons (pv 4) (pa_cons (pe_bltn (v := .ty "tuple") (by rfl) m_tuple (by decide +kernel) rfl) pa_nil))))) (pw_or1 (pt_not (pt_val (pe_callB (cr_all (by rfl)) (by rfl) m_all (by decide +kernel) (pa_cons (pe_lc (own := [("bend", 6)]) (g := gName 6) (tt := tYes) rfl scIsPlace.nd (pi_tup (pv 4)) (blkOk_by (N := nIsPlace) (sc := defScope sIsPlace) (by decide +kernel)) (fun _ _ _ _ _ => (pg_name (i := 6) scIsPlace.nd rfl (.inl rfl))) (fun _ _ _ _ _ => pts_nil) (fun _ _ _ _ _ => (pe_call IB.ok hr (by rfl) IB.g IB.kp IB.b .nil pass0 (pa_cons (pv 0) (pa_cons (pv 6) pa_nil))))) pa_nil))))))) (pss_one (ps_ret pe_bl)) pss_nil)
      (pss_cons (ps_if (PW.pt (pw_and (pt_cmpR op_eq (pv 2) (pe_glob (v := .str "straight") rfl gST ⟨_, rfl⟩) (nomark _)) (pw_and1 (pt_cmpR op_eq (pe_callB call_len_seq (by rfl) m_len PySem.boot_len (pa_cons (pv 4) pa_nil)) pe_int (nomark _))))) (pss_one (ps_ret (pe_and (pe_cmpR op_eq (pv 3) (pe_glob (v := .int (-1)) rfl gNT ⟨_, rfl⟩) (nomark _)) (pe_one (pe_cmpR op_eq (pe_callB call_len_seq (by rfl) m_len PySem.boot_len (pa_cons (pv 5) pa_nil)) pe_int (nomark _)))))) pss_nil)
      (pss_one (ps_ret (pe_or (pe_and (pe_cmpR op_eq (pv 2) (pe_glob (v := .str "straight") rfl gST ⟨_, rfl⟩) (nomark _)) (pe_one (pe_cmpR op_eq (pe_callB call_len_seq (by rfl) m_len PySem.boot_len (pa_cons (pv 5) pa_nil)) (pe_op op_sub (pe_callB call_len_seq (by rfl) m_len PySem.boot_len (pa_cons (pv 4) pa_nil)) pe_int) (nomark _)))) (pe_one (pe_and (pe_cmpR op_eq (pv 2) (pe_glob (v := .str "bent") rfl gBE ⟨_, rfl⟩) (nomark _)) (pe_one (pe_cmpR op_eq (pe_callB call_len_seq (by rfl) m_len PySem.boot_len (pa_cons (pv 5) pa_nil)) (pe_callB call_len_seq (by rfl) m_len PySem.boot_len (pa_cons (pv 4) pa_nil)) (nomark _))))))))))))), ?_⟩
    refine ⟨.ref c, rfl, .ref c, .ty "tuple", .type "tuple", .type "tuple", true, rfl, .ty _, sqT_ty hc, kit_ty (by decide +kernel), true, rfl, iteF ?_⟩
    refine ⟨.ref c, rfl, c, _, rfl, .inr hc, rfl, _, rfl, iteF ?_⟩
    refine ⟨.ref c, rfl, c, _, rfl, hc, rfl, _, [_, _, _], rfl, _, [_, _], rfl, _, [_], rfl, _, [], rfl, rfl, ?_⟩
    refine ⟨.int si, rfl, si, rfl, true, rfl, iteF ?_⟩
    refine ⟨.int si, rfl, -1, si, rfl, rfl, true, ?_, iteT ⟨.int q, rfl, si, q, rfl, rfl, ?_⟩⟩
    · show V.bl (decide ((-1 : Int) ≤ si)) = _
      rw [decide_eq_true (by omega)]
    refine ⟨true, ?_, iteF ?_⟩
    · show V.bl (decide (si < (q : Int))) = _
      rw [decide_eq_true (by omega)]
    refine ⟨.int q, rfl, .ref t, rfl, q, FF, t, us, rfl, ht, by omega, fun H0 s0 => ⟨true, rfl, iteF ?_⟩⟩
    have hb0 := BP.Same.tupS s0 hb
    have ht0 := BP.Same.tupS s0 ht
    refine ⟨.ref p, rfl, .ref p, .ty "tuple", .type "tuple", .type "tuple", true, rfl, .ty _, sqT_ty hb0, kit_ty (by decide +kernel), true, rfl, iteF ?_⟩
    refine ⟨.ref p, rfl, p, rfl, ⟨_, hb0⟩, fun D nD => ?_⟩
    refine lc_tup (K := K) (a := p) (xs := bs) (fun i H' => Same H0 H' ∧ H' D = some (.lst ((List.replicate i true).map V.bl))) ⟨same_new nD, upd_same⟩ (fun i H' _ hW => BP.Same.tupS hW.1 hb0) (fun i x H' hx hW => ?_) (fun H' hW => ?_)
    · obtain ⟨s1, hD⟩ := hW
      obtain ⟨a, f, rfl, fi, f3⟩ := hF.get hx
      obtain ⟨f1, f2⟩ := ok.fB f (List.mem_of_getElem? fi)
      have hi : i < bs.length := (List.getElem?_eq_some_iff.mp hx).1
      refine ⟨rfl, yes_kept ?_⟩
      refine ⟨.int q, rfl, .ref a, rfl, q, FF, a, f, rfl, BP.Same.tupS (s0.trans s1) f3, f1, f2, fun H3 s3 => ⟨_, s3 _ _ hD, ?_, fun b x e => ?_, ?_⟩⟩
      · rw [List.length_map, List.length_replicate]
        exact small1000 (by omega)
      · rw [upd_ne (ne_of_none e nD)]
        exact s3 _ _ (s1 b x e)
      · rw [upd_same, rep_add]
    obtain ⟨s1, hD⟩ := hW
    refine ⟨D, _, rfl, .inl (.inl hD), true, by rw [all_rep], iteF ?_⟩
    have hb1 := BP.Same.tupS s1 hb0
    have ht1 := BP.Same.tupS s1 ht0
    have fin := want H' (s0.trans s1)
    have lus : (vns us).length = us.length := List.length_map ..
    have ne : (V.str "bent" = V.str "straight") → False := fun z => absurd (V.str.inj z) (by decide +kernel)
    cases b with
    | false =>
      obtain ⟨k1, k2⟩ := ok.str rfl
      by_cases h0 : bs.length = 0
      · have fs0 : fs = [] := List.length_eq_zero_iff.mp (by omega)
        have e1 : si = -1 := by
          rw [k2 fs0] at hsi
          exact (V.int.inj hsi).symm
        refine ⟨_, rfl, rfl, true, rfl, iteT ⟨.ref p, rfl, p, _, rfl, .inr hb1, rfl, true, ?_, iteT ?_⟩⟩
        · show V.bl (decide (V.int ((bs.length : Nat) : Int) = V.int 0)) = _
          rw [h0]
          rfl
        · refine ⟨.int si, rfl, rfl, true, ?_, iteT ⟨.ref t, rfl, t, _, rfl, .inr ht1, rfl, ?_⟩⟩
          · show V.bl (decide (V.int si = V.int (-1))) = _
            rw [e1]
            rfl
          · show Q (V.bl (decide (V.int (((vns us).length : Nat) : Int) = V.int 0))) H'
            rw [lus, k1, fs0]
            exact fin
      · refine ⟨_, rfl, rfl, true, rfl, iteT ⟨.ref p, rfl, p, _, rfl, .inr hb1, rfl, false, ?_, iteF ?_⟩⟩
        · show V.bl (decide (V.int ((bs.length : Nat) : Int) = V.int 0)) = _
          rw [decide_eq_false (fun z => h0 (by have := V.int.inj z; omega))]
        · refine ⟨_, rfl, rfl, true, rfl, iteT ⟨.ref t, rfl, t, _, rfl, .inr ht1, .ref p, rfl, p, _, rfl, .inr hb1, _, 1, rfl, rfl, rfl, true, ?_, iteT fin⟩⟩
          show V.bl (decide (V.int (((vns us).length : Nat) : Int) = V.int (((bs.length : Nat) : Int) - 1))) = _
          rw [lus, k1, lb, show (((fs.length - 1 : Nat)) : Int) = ((fs.length : Nat) : Int) - 1 by omega, decide_eq_true rfl]
    | true =>
      have k1 := ok.bent rfl
      have nf : V.bl (decide (V.str (sortS true) = V.str "straight")) = V.bl false := by
        rw [decide_eq_false (show ¬ V.str (sortS true) = V.str "straight" from ne)]
      refine ⟨_, rfl, rfl, false, nf, iteF ?_⟩
      refine ⟨_, rfl, rfl, false, nf, iteF ⟨false, rfl, iteF ?_⟩⟩
      refine ⟨_, rfl, rfl, true, rfl, iteT ⟨.ref t, rfl, t, _, rfl, .inr ht1, .ref p, rfl, p, _, rfl, .inr hb1, rfl, ?_⟩⟩
      show Q (V.bl (decide (V.int (((vns us).length : Nat) : Int) = V.int ((bs.length : Nat) : Int)))) H'
      rw [lus, k1, lb, decide_eq_true rfl]
      exact fin
theorem ok_lookp {f fI : Addr} {fd fdI : FuncData} (F : Fun K "look_at_places" "look_at_places" sLookAtPlaces f fd) (IP : BP.Can P w K mg base "is_place" 6 pIsPlace (spIsPl K) fI fdI) : FnOk P w K mg base CX0 7 f fd pLookAtPlaces (spLookP K) := by
  refine F.ok scLookAtPlaces (fun vs H Q E h => ?_) (fun cdv A outer s H vs Q E hr h => ?_)
  · obtain ⟨q, _, a, c, b, o, us, fs, rfl, _⟩ := h
    rfl
  · obtain ⟨q, FF, a, c, b, o, us, fs, rfl, ha, hp, ok, want⟩ := h
    refine ⟨_, (pss_one (ps_for PassesOwn.never rfl (pi_list (pv 1)) (pg_name (i := 2) scLookAtPlaces.nd rfl (.inl rfl)) (pss_one (ps_if (pt_not (pt_val (pe_call IP.ok hr (by rfl) IP.g IP.kp IP.b .nil pass0 (pa_cons (pv 0) (pa_cons (pv 2) pa_nil))))) (pss_one ps_dead) pss_nil)))), ?_⟩
    refine ⟨.ref a, rfl, a, rfl, ⟨_, ha⟩, for_list (K := K) (a := a) (xs := [.ref c]) (fun i σ H' => Same H H' ∧ ∃ y2, σ = [some (.int q), some (.ref a), y2])
      ⟨fun _ _ z => z, _, rfl⟩ (fun i σ H' _ hW => hW.1.seq ha) (fun i x σ H' hi hW => ?_) (fun σ H' hW => ?_)⟩
    · obtain ⟨s1, y2, rfl⟩ := hW
      have i0 : i = 0 := by
        have := (List.getElem?_eq_some_iff.mp hi).1
        rw [List.length_singleton] at this
        omega
      subst i0
      obtain rfl := Option.some.inj hi
      exact ⟨.int q, rfl, .ref c, rfl, q, FF, c, b, o, us, fs, rfl, hp.kept s1, ok, fun H3 s3 => ⟨true, rfl, iteF ⟨s1.trans s3, _, rfl⟩⟩⟩
    · exact want H' hW.1
end
end K13
set_option Elab.async false
set_option linter.all false
set_option maxRecDepth 100000
set_option maxHeartbeats 4000000
set_option pp.maxSteps 400
namespace BP
open PySem PySem.Spec PyProof.Rows L2 Fld
section
variable {q : Nat} [F : IsF q] {K : PySem.W.Frag} {H : Hp}
def tpd (f : Po q) : PyData := .tuple (f.map fun (x : El q) => PyData.int (x.val : Nat))
theorem dpAll_snoc : ∀ {xs : List V} {ds : List PyData} {x : V} {d : PyData}, DpAll K H xs ds → Dp K H x d → DpAll K H (xs ++ [x]) (ds ++ [d])
  | _, _, _, _, .nil, h => .cons h .nil
  | _, _, _, _, .cons a b, h => .cons a (dpAll_snoc b h)
end
end BP
namespace BP
open PySem PySem.Spec PyProof.Rows L2 Fld
structure Sm (d : PyData) (w k : Nat) : Prop where
  lay : d.canLay0 = true
  sh : d.showable = true
  short : d.intsShort 13 = true
  dep : d.depth ≤ k
  wt : d.weight ≤ w
structure SmAll (xs : List PyData) (w k : Nat) : Prop where
  lay : PyData.canLayAll0 xs = true
  sh : PyData.showableAll xs = true
  short : PyData.intsShortAll 13 xs = true
  dep : PyData.depthAll xs ≤ k
  wt : PyData.weightAll xs ≤ w
theorem SmAll.nil {w k : Nat} : SmAll [] w k := ⟨by simp [PyData.canLayAll0], by simp [PyData.showableAll], by simp [PyData.intsShortAll], by simp [PyData.depthAll], by simp [PyData.weightAll]⟩
theorem SmAll.cons {d : PyData} {xs : List PyData} {w w' k : Nat} (h : Sm d w k) (g : SmAll xs w' k) : SmAll (d :: xs) (w + 1 + w') k := by
  obtain ⟨h1, h2, h3, h4, h5⟩ := h
  obtain ⟨g1, g2, g3, g4, g5⟩ := g
  refine ⟨by simp [PyData.canLayAll0, h1, g1], by simp [PyData.showableAll, h2, g2], by simp [PyData.intsShortAll, h3, g3], ?_, ?_⟩
  · simp only [PyData.depthAll]
    omega
  · simp only [PyData.weightAll]
    omega
theorem Sm.tup {xs : List PyData} {w k : Nat} (h : SmAll xs w k) : Sm (.tuple xs) w (k + 1) := by
  obtain ⟨h1, h2, h3, h4, h5⟩ := h
  refine ⟨by simp [PyData.canLay0, h1], by simp [PyData.showable, h2], by simp [PyData.intsShort, h3], ?_, ?_⟩
  · simp only [PyData.depth]
    omega
  · simp only [PyData.weight]
    omega
theorem Sm.more {d : PyData} {w k w' k' : Nat} (h : Sm d w k) (hw : w ≤ w') (hk : k ≤ k') : Sm d w' k' := ⟨h.lay, h.sh, h.short, Nat.le_trans h.dep hk, Nat.le_trans h.wt hw⟩
theorem SmAll.more {d : List PyData} {w k w' k' : Nat} (h : SmAll d w k) (hw : w ≤ w') (hk : k ≤ k') : SmAll d w' k' := ⟨h.lay, h.sh, h.short, Nat.le_trans h.dep hk, Nat.le_trans h.wt hw⟩
theorem Sm.int {i : Int} (h : i.natAbs < 32) : Sm (.int i) 6 0 := by
  have l5 : i.natAbs.log2 ≤ 5 := by
    by_cases h0 : i.natAbs = 0
    · rw [h0]
      decide
    · have := (Nat.log2_lt h0 (k := 5)).mpr h
      omega
  refine ⟨by simp [PyData.canLay0], ?_, ?_, by simp [PyData.depth], ?_⟩
  · simp only [PyData.showable]
    exact decide_eq_true (by omega)
  · simp only [PyData.intsShort]
    exact decide_eq_true (PyData.shown_int_le (Nat.lt_of_lt_of_le h (by decide)))
  · simp only [PyData.weight]
    split <;> omega
theorem rRepr_of {K : PySem.W.Frag} {H : Hp} {a : Addr} {d : PyData} {w k : Nat} {Q : VK} (h : Dp K H (.ref a) d) (s : Sm d w k) (hk : k ≤ 40) (hw : w ≤ 2 ^ 20) (q : Q (.str d.shown) H) : rRepr K [.ref a] H Q :=
  ⟨a, d, rfl, h, s.sh, PyData.hasDict_of_canLay d s.lay, Nat.le_trans s.dep hk, PyData.shown_fits (B := 13) (by decide) (Nat.le_refl _) (PyData.leavesShort_of_canLay0 13 d s.lay s.short) (Nat.le_trans s.wt hw), q⟩
section
variable {q : Nat} [F : IsF q] {K : PySem.W.Frag} {H : Hp}
def mvD (m : Mat q) : PyData := tpd [m.a, m.b, m.c, m.d, m.e, m.f]
theorem dp_mv {a : Addr} {m : Mat q} (h : SqT K H a (mv m)) : Dp K H (.ref a) (mvD m) := .tup h (dpAll_po [m.a, m.b, m.c, m.d, m.e, m.f])
theorem dp_po {a : Addr} {f : Po q} (h : SqT K H a (vns f)) : Dp K H (.ref a) (tpd f) := .tup h (dpAll_po f)
theorem el_small (x : El q) : ((x.val : Nat) : Int).natAbs < 32 := by
  have h1 := x.lt
  have h2 := le16 F.mem
  omega
theorem sm_ints : ∀ f : Po q, SmAll (f.map fun (x : El q) => PyData.int (x.val : Nat)) (7 * f.length) 0
  | [] => .nil
  | x :: f => (SmAll.cons (Sm.int (el_small x)) (sm_ints f)).more (by rw [List.length_cons]; omega) (Nat.le_refl _)
theorem sm_po (f : Po q) : Sm (tpd f) (7 * f.length) 1 := Sm.tup (sm_ints f)
theorem sm_bends : ∀ st : List (Option (El q) × Po q), B7 st → SmAll (st.map fun x => tpd x.2) (50 * st.length) 1
  | [], _ => .nil
  | x :: r, h => by
    have h7 := h x (List.mem_cons_self ..)
    refine (SmAll.cons (sm_po x.2) (sm_bends r fun y hy => h y (List.mem_cons_of_mem _ hy))).more ?_ (Nat.le_refl _)
    rw [List.length_cons]
    omega
/-- a turn as a whole number -/
def oi : Option (El q) → Int
  | none => -1
  | some t => (t.val : Nat)
theorem ov_oi : ∀ o : Option (El q), ov o = .int (oi o)
  | none => rfl
  | some _ => rfl
theorem oi_small : ∀ o : Option (El q), (oi o).natAbs < 32
  | none => by
    show ((-1 : Int)).natAbs < 32
    decide
  | some t => el_small t
def tsI (st : List (Option (El q) × Po q)) : List Int := (st.map fun x => oi x.1).reverse
def bsD (st : List (Option (El q) × Po q)) : List PyData := (st.map fun x => tpd x.2).reverse
/-- a step as plain data -/
def stD (z : Sta q) : PyData := .tuple [.int ((tsI z.st).headD (-1)), .tuple (bsD z.st), .tuple ((tsI z.st).tail.map PyData.int), mvD z.last]
theorem stk_data : ∀ {st : List (Option (El q) × Po q)} {ts bs : List V}, Stk K H st ts bs → ts = (tsI st).map V.int ∧ DpAll K H bs (bsD st)
  | [], _, _, ⟨e1, e2⟩ => by
    rw [e1, e2]
    exact ⟨rfl, .nil⟩
  | (o, g) :: r, _, _, ⟨ts', bs', a, e1, e2, hg, k⟩ => by
    obtain ⟨h1, h2⟩ := stk_data k
    have t1 : tsI ((o, g) :: r) = tsI r ++ [oi o] := by
      unfold tsI
      rw [List.map_cons, List.reverse_cons]
    have t2 : bsD ((o, g) :: r) = bsD r ++ [tpd g] := by
      unfold bsD
      rw [List.map_cons, List.reverse_cons]
    rw [t1, t2, e1, e2, h1, ov_oi]
    refine ⟨?_, dpAll_snoc h2 (dp_po hg)⟩
    rw [List.map_append]
    rfl
theorem dp_step {c : Addr} {z : Sta q} (h : StepAt K H c z) : Dp K H (.ref c) (stD z) := by
  obtain ⟨start, ts, bs, t, b, l, h1, h2, h3, h4, h5⟩ := h
  have e : start = .int ((tsI z.st).headD (-1)) ∧ ts = (tsI z.st).tail.map V.int ∧ DpAll K H bs (bsD z.st) := by
    rcases h5 with ⟨e1, e2, e3, e4⟩ | ⟨e1, e2⟩
    · rw [e1, e2, e3, e4]
      exact ⟨rfl, rfl, .nil⟩
    · obtain ⟨g1, g2⟩ := stk_data e2
      cases h : tsI z.st with
      | nil =>
        rw [h] at g1
        cases g1
      | cons x y =>
        rw [h] at g1
        obtain ⟨w1, w2⟩ := List.cons.inj g1
        exact ⟨w1, w2, g2⟩
  obtain ⟨e1, e2, e3⟩ := e
  rw [e1] at h1
  rw [e2] at h3
  exact .tup h1 (.cons (.int _) (.cons (.tup h2 e3) (.cons (.tup h3 (dpAll_ints _)) (.cons (dp_mv h4) .nil))))
theorem sm_is : ∀ l : List Int, (∀ x ∈ l, x.natAbs < 32) → SmAll (l.map PyData.int) (7 * l.length) 0
  | [], _ => .nil
  | x :: r, h => (SmAll.cons (Sm.int (h x (List.mem_cons_self ..))) (sm_is r fun y hy => h y (List.mem_cons_of_mem _ hy))).more (by rw [List.length_cons]; omega) (Nat.le_refl _)
theorem sm_step {z : Sta q} (hz : Fit z) : Sm (stD z) 20000 3 := by
  obtain ⟨_, b7, l2⟩ := hz
  have tm : ∀ x ∈ tsI z.st, x.natAbs < 32 := fun x h => by
    obtain ⟨y, _, rfl⟩ := List.mem_map.mp (List.mem_reverse.mp h)
    exact oi_small _
  have tl : (tsI z.st).length = z.st.length := by
    unfold tsI
    rw [List.length_reverse, List.length_map]
  have h1 : ((tsI z.st).headD (-1)).natAbs < 32 := by
    cases h : tsI z.st with
    | nil => decide
    | cons x y => exact tm x (by rw [h]; exact List.mem_cons_self ..)
  have h2 : SmAll (bsD z.st) (50 * z.st.length) 1 := by
    have e : bsD z.st = z.st.reverse.map fun x => tpd x.2 := by
      unfold bsD
      rw [List.map_reverse]
    rw [e]
    exact (sm_bends z.st.reverse fun x h => b7 x (List.mem_reverse.mp h)).more (by rw [List.length_reverse]; exact Nat.le_refl _) (Nat.le_refl _)
  have h3 := sm_is (tsI z.st).tail fun x h => tm x (List.mem_of_mem_tail h)
  have l3 : (tsI z.st).tail.length ≤ z.st.length := by
    rw [List.length_tail, tl]
    omega
  have h4 := sm_po [z.last.a, z.last.b, z.last.c, z.last.d, z.last.e, z.last.f]
  refine (Sm.tup (SmAll.cons ((Sm.int h1).more (Nat.le_refl _) (show 0 ≤ 2 by decide)) (SmAll.cons (Sm.tup h2) (SmAll.cons ((Sm.tup h3).more (Nat.le_refl _) (show 1 ≤ 2 by decide)) (SmAll.cons (h4.more (Nat.le_refl _) (show 1 ≤ 2 by decide)) (SmAll.nil (w := 0))))))).more ?_ (Nat.le_refl _)
  show 6 + 1 + (50 * z.st.length + 1 + (7 * (tsI z.st).tail.length + 1 + (7 * 6 + 1 + 0))) ≤ 20000
  omega
theorem sm_steps {y z : Sta q} (hy : Fit y) (hz : Fit z) : Sm (.tuple [stD y, stD z]) 50000 4 :=
  (Sm.tup (SmAll.cons (sm_step hy) (SmAll.cons (sm_step hz) (SmAll.nil (w := 0))))).more (by decide) (Nat.le_refl _)
theorem dp_steps {a b T : Addr} {y z : Sta q} (hy : StepAt K H a y) (hz : StepAt K H b z) (hT : SqT K H T [.ref a, .ref b]) : Dp K H (.ref T) (.tuple [stD y, stD z]) := .tup hT (.cons (dp_step hy) (.cons (dp_step hz) .nil))
end
end BP
set_option Elab.async false
set_option linter.all false
set_option maxRecDepth 100000
set_option maxHeartbeats 400000
set_option pp.maxSteps 2000
namespace BP
open PySem PySem.Spec PyProof.Rows L2 Fld
section
variable {q : Nat} [FF : IsF q] {K : PySem.W.Frag} {H H' : Hp}
def plD (b : Bool) (o : Option (El q)) (us : Po q) (fs : List (Po q)) : PyData := .tuple [.str (sortS b), .int (oi o), .tuple (fs.map tpd), tpd us]
theorem fs_dp : ∀ {vs : List V} {fs : List (Po q)}, FsAt K H vs fs → DpAll K H vs (fs.map tpd)
  | [], [], _ => .nil
  | _ :: _, _ :: _, ⟨⟨a, e, h⟩, k⟩ => by
    subst e
    exact .cons (dp_po h) (fs_dp k)
  | [], _ :: _, h => h.elim
  | _ :: _, [], h => h.elim
theorem dp_pl {c : Addr} {b : Bool} {o : Option (El q)} {us : Po q} {fs : List (Po q)} (h : PlAt K H c b o us fs) : Dp K H (.ref c) (plD b o us fs) := by
  obtain ⟨bs, p, t, h1, h2, h3, h4⟩ := h
  rw [ov_oi] at h1
  exact .tup h1 (.cons (.str _) (.cons (.int _) (.cons (.tup h2 (fs_dp h3)) (.cons (dp_po h4) .nil))))
theorem Sm.sort (b : Bool) : Sm (.str (sortS b)) 100 0 := by
  cases b <;> exact ⟨by first | (simp [PyData.canLay0]; done) | (simp [PyData.canLay0]; decide +kernel), by first | (simp [PyData.showable]; done) | (simp [PyData.showable]; decide +kernel), by first | (simp [PyData.intsShort]; done) | (simp [PyData.intsShort]; decide +kernel), by simp [PyData.depth], by first | (simp [PyData.weight]; done) | (simp [PyData.weight]; decide +kernel)⟩
theorem sm_fs : ∀ {fs : List (Po q)}, (∀ f ∈ fs, IsB f ∧ f.length ≤ 7) → SmAll (fs.map tpd) (50 * fs.length) 1
  | [], _ => .nil
  | f :: r, h => by
    have h7 := (h f (List.mem_cons_self ..)).2
    refine (SmAll.cons (sm_po f) (sm_fs (fs := r) fun y hy => h y (List.mem_cons_of_mem _ hy))).more ?_ (Nat.le_refl _)
    rw [List.length_cons]
    omega
theorem sm_pl {b : Bool} {o : Option (El q)} {us : Po q} {fs : List (Po q)} (ok : PlOk b o us fs) : Sm (plD b o us fs) 20000 3 := by
  have l1 := ok.lf
  have l2 := ok.lu
  have i1 := oi_small o
  have h : Sm (plD b o us fs) (100 + 1 + (6 + 1 + (50 * fs.length + 1 + (7 * us.length + 1 + 0)))) 3 := Sm.tup (SmAll.cons ((Sm.sort b).more (Nat.le_refl _) (show 0 ≤ 2 by decide)) (SmAll.cons ((Sm.int i1).more (Nat.le_refl _) (show 0 ≤ 2 by decide)) (SmAll.cons (Sm.tup (sm_fs ok.fB)) (SmAll.cons ((sm_po us).more (Nat.le_refl _) (show 1 ≤ 2 by decide)) SmAll.nil))))
  exact h.more (by omega) (Nat.le_refl _)
theorem sh_pl {b : Bool} {o : Option (El q)} {us : Po q} {fs : List (Po q)} (ok : PlOk b o us fs) : SeqAt.shaped (plD b o us fs) = true := by
  have s := sm_pl ok
  unfold SeqAt.shaped
  rw [s.lay, Bool.true_and]
  exact decide_eq_true (Nat.le_trans s.dep (by decide))
theorem root_ok : PlOk (q := q) false none [] [] := ⟨(fun f h => by cases h), Nat.zero_le _, (fun h => by cases h), fun _ => ⟨rfl, fun _ => rfl⟩⟩
theorem root_no {b : Bool} {o : Option (El q)} {us : Po q} {fs : List (Po q)} (h : b = true ∨ fs ≠ []) : PyData.eqv (plD b o us fs) (plD (q := q) false none [] []) = false := by
  refine Bool.eq_false_iff.mpr fun z => ?_
  simp only [plD, PyData.eqv, PyData.eqvAll, Bool.and_eq_true, List.map_nil] at z
  obtain ⟨z1, _, z3, _⟩ := z
  rcases h with h | h
  · subst h
    revert z1
    decide +kernel
  · obtain ⟨f, r, e⟩ := List.exists_cons_of_ne_nil h
    subst e
    simp [PyData.eqvAll] at z3
theorem root_yes : PyData.eqv (plD (q := q) false none [] []) (plD (q := q) false none [] []) = true := by
  simp [plD, PyData.eqv, PyData.eqvAll, tpd]
theorem dlA {a : Addr} {xs : List V} {Q : VK} (ha : SqT K H a xs) (k : ∀ (r : Addr) (H' : Hp), Same H H' → SqT K H' r xs.dropLast → Q (.ref r) H') : rSlA K (.ref a) none (some (-1)) H Q := by
  have e1 : HT.sIx xs.length xs.length (some (-1)) = xs.length - 1 := by
    show (if (-1 : Int) < 0 then ((-1 : Int) + (xs.length : Int)).toNat else min (-1 : Int).toNat xs.length) = _
    rw [if_pos (by omega)]
    omega
  refine ⟨a, xs, rfl, ha, fun e => ?_, fun _ p np => k p _ (same_new np) ?_⟩
  · refine k a H (fun _ _ z => z) ?_
    obtain ⟨_, e2⟩ := e
    rw [e1] at e2
    have : xs = [] := List.length_eq_zero_iff.mp (by omega)
    rw [this] at ha ⊢
    exact ha
  · have e : cutV xs none (some (-1)) = xs.dropLast := by
      unfold cutV
      rw [e1, HT.sIx_none, List.drop_zero, Nat.sub_zero, List.dropLast_eq_take]
    rw [e]
    exact .inl (.inl upd_same)
theorem FsAt.dl {vs : List V} {fs : List (Po q)} (h : FsAt K H vs fs) : FsAt K H vs.dropLast fs.dropLast := by
  rw [List.dropLast_eq_take, List.dropLast_eq_take, h.len]
  exact FsAt.take _ h
def ahO (b : Bool) (o : Option (El q)) (fs : List (Po q)) : Option (El q) := if b = true ∧ fs = [] then none else o
def ahU (b : Bool) (us : Po q) : Po q := if b = true then us.dropLast else us
def ahF (b : Bool) (fs : List (Po q)) : List (Po q) := if b = true then fs else fs.dropLast
/-- how many places are behind a place -/
def mBh (q : Nat) (b : Bool) (e : Bool) (d : Nat) : Nat := if b = true then q ^ (d - 1) - 1 else if e = true then q + 1 else q
end
def spPAh (K : PySem.W.Frag) : Sp := fun vs H Q _ => ∃ (q : Nat) (_ : IsF q) (c : Addr) (b : Bool) (o : Option (El q)) (us : Po q) (fs : List (Po q)), vs = [.ref c] ∧ PlAt K H c b o us fs ∧ PlOk b o us fs ∧ (b = true ∨ fs ≠ []) ∧
  ∀ (r : Addr) (H' : Hp), Same H H' → PlAt K H' r (!b) (ahO b o fs) (ahU b us) (ahF b fs) → Q (.ref r) H'
def spAhd (K : PySem.W.Frag) : Sp := fun vs H Q _ => ∃ (q : Nat) (_ : IsF q) (c : Addr) (b : Bool) (o : Option (El q)) (us : Po q) (fs : List (Po q)), vs = [.int q, .ref c] ∧ PlAt K H c b o us fs ∧ PlOk b o us fs ∧ (b = true ∨ fs ≠ []) ∧
  ∀ (r : Addr) (H' : Hp), Same H H' → PlAt K H' r (!b) (ahO b o fs) (ahU b us) (ahF b fs) → Q (.ref r) H'
def spPDp (K : PySem.W.Frag) : Sp := fun vs H Q _ => ∃ (q : Nat) (_ : IsF q) (c : Addr) (b : Bool) (o : Option (El q)) (us : Po q) (fs : List (Po q)), vs = [.ref c] ∧ PlAt K H c b o us fs ∧ PlOk b o us fs ∧ Q (.int (2 * fs.length + (if b then 1 else 0) : Nat)) H
def spDpt (K : PySem.W.Frag) : Sp := fun vs H Q _ => ∃ (q : Nat) (_ : IsF q) (c : Addr) (b : Bool) (o : Option (El q)) (us : Po q) (fs : List (Po q)), vs = [.int q, .ref c] ∧ PlAt K H c b o us fs ∧ PlOk b o us fs ∧ ∀ H', Same H H' → Q (.int (2 * fs.length + (if b then 1 else 0) : Nat)) H'
def spMBh (K : PySem.W.Frag) : Sp := fun vs H Q _ => ∃ (q : Nat) (_ : IsF q) (c : Addr) (b : Bool) (o : Option (El q)) (us : Po q) (fs : List (Po q)) (d : Nat), vs = [.int q, .ref c, .int d] ∧ PlAt K H c b o us fs ∧ PlOk b o us fs ∧ 1 ≤ d ∧ d ≤ 10 ∧ ∀ H', Same H H' → Q (.int (mBh q b (fs.isEmpty) d : Nat)) H'
end BP
namespace K13
open PySem PySem.Spec PyProof.Rows L2 BP Fld
section
variable {P : Program} {w : World} {K : PySem.W.Frag} {mg : Str → Option Value} {base : Heap}
theorem ok_pahead {f aR : Addr} {fd : FuncData} {t1 t2 : Tok} (F : Fun K "place_ahead" "place_ahead" sPlaceAhead f fd) (gST : mg "STRAIGHT" = some (.str "straight" t1)) (gBE : mg "BENT" = some (.str "bent" t2)) (gRO : mg "ROOT" = some (.ref aR)) (hR : ∀ (H : Hp) (q : Nat) [IsF q], PlAt (q := q) K H aR false none [] []) (m_len : mg "len" = none) : FnOk P w K mg base CX0 1 f fd pPlaceAhead (spPAh K) := by
  refine F.ok scPlaceAhead (fun vs H Q E h => ?_) (fun cdv A outer s H vs Q E hr h => ?_)
  · obtain ⟨q, _, c, b, o, us, fs, rfl, _⟩ := h
    rfl
  · obtain ⟨q, FF, c, b, o, us, fs, rfl, hP, ok, nr, want⟩ := h
    have hD := dp_pl hP
    obtain ⟨bs, p, t, hc, hb, hF, ht⟩ := hP
    have lb := hF.len
    refine ⟨_, (pss_cons (ps_asg (pv 0) (pg_tup rfl (pgs_cons (pg_name (i := 1) scPlaceAhead.nd rfl (.inl rfl)) (pgs_cons (pg_name (i := 2) scPlaceAhead.nd rfl (.inl rfl)) (pgs_cons (pg_name (i := 3) scPlaceAhead.nd rfl (.inl rfl)) (pgs_cons (pg_name (i := 4) scPlaceAhead.nd rfl (.inl rfl)) pgs_nil))))))
      (pss_cons (ps_if (pt_cmpR (op_eqD hr.units) (pv 0) (pe_glob (v := .ref aR) rfl gRO rfl) (nomark _)) (pss_one (ps_ret pe_non)) pss_nil)
      (pss_cons (ps_if (pt_cmpR op_eq (pv 1) (pe_glob (v := .str "straight") rfl gST ⟨_, rfl⟩) (nomark _)) (pss_one (ps_ret (pe_tup (pa_cons (pe_glob (v := .str "bent") rfl gBE ⟨_, rfl⟩) (pa_cons (pv 2) (pa_cons (pe_slice sl_tupA (pv 3) po_none (po_some (pe_un un_neg pe_int))) (pa_cons (pv 4) pa_nil))))))) pss_nil)
      (pss_cons (ps_if (pt_cmpR op_eq (pe_callB call_len_seq (by rfl) m_len PySem.boot_len (pa_cons (pv 3) pa_nil)) pe_int (nomark _)) (pss_one (ps_ret (pe_glob (v := .ref aR) rfl gRO rfl))) pss_nil)
      (pss_one (ps_ret (pe_tup (pa_cons (pe_glob (v := .str "straight") rfl gST ⟨_, rfl⟩) (pa_cons (pv 2) (pa_cons (pv 3) (pa_cons (pe_slice sl_tupA (pv 4) po_none (po_some (pe_un un_neg pe_int))) pa_nil))))))))))), ?_⟩
    refine ⟨.ref c, rfl, c, _, rfl, hc, rfl, _, [_, _, _], rfl, _, [_, _], rfl, _, [_], rfl, _, [], rfl, rfl, ?_⟩
    refine ⟨_, rfl, plD b o us fs, plD (q := q) false none [] [], hD, dp_pl (hR H q), sh_pl ok, sh_pl root_ok, false, by rw [root_no nr], iteF ?_⟩
    cases b with
    | false =>
      refine ⟨_, rfl, rfl, true, rfl, iteT ?_⟩
      refine ⟨_, rfl, .ref p, rfl, ?_⟩
      dsimp only [tNoPart]
      refine ⟨1, rfl, -1, rfl, ?_⟩
      refine dlA (K := K) hb fun r H1 s1 hr1 => ?_
      refine ⟨.ref t, rfl, (by show 4 ≤ sizeLine; decide), fun r2 n2 => want r2 _ (s1.trans (same_new n2)) ?_⟩
      have s2 := s1.trans (same_new (o := .tup [V.str "bent", ov o, .ref r, .ref t]) n2)
      exact ⟨bs.dropLast, r, t, .inl (.inl upd_same), BP.Same.tupS (same_new n2) hr1, (hF.kept s2).dl, BP.Same.tupS s2 ht⟩
    | true =>
      have k1 := ok.bent rfl
      refine ⟨_, rfl, rfl, false, by rw [decide_eq_false (fun z => absurd (V.str.inj z) (by decide +kernel))], iteF ?_⟩
      refine ⟨.ref p, rfl, p, _, rfl, .inr hb, rfl, _, rfl, ite2 (fun h => ?_) (fun h => ?_)⟩
      · have fs0 : fs = [] := List.length_eq_zero_iff.mp (by
          have := V.int.inj (of_decide_eq_true h)
          omega)
        subst fs0
        have us0 : us = [] := List.length_eq_zero_iff.mp k1
        subst us0
        exact want aR H (fun _ _ e => e) (hR H q)
      · have fs0 : fs ≠ [] := fun z => h (decide_eq_true (by rw [lb, z]; rfl))
        refine ⟨_, rfl, _, rfl, .ref t, rfl, ?_⟩
        dsimp only [tNoPart]
        refine ⟨1, rfl, -1, rfl, ?_⟩
        refine dlA (K := K) ht fun r H1 s1 hr1 => ?_
        refine ⟨(by show 4 ≤ sizeLine; decide), fun r2 n2 => want r2 _ (s1.trans (same_new n2)) ?_⟩
        have s2 := s1.trans (same_new (o := .tup [V.str "straight", ov o, .ref p, .ref r]) n2)
        have eo : ahO true o fs = o := if_neg (fun z => fs0 z.2)
        rw [eo]
        refine ⟨bs, p, r, .inl (.inl upd_same), BP.Same.tupS s2 hb, hF.kept s2, ?_⟩
        have e : vns (ahU true us) = (vns us).dropLast := List.map_dropLast ..
        rw [e]
        exact BP.Same.tupS (same_new n2) hr1
theorem ok_ahead {f fL fA : Addr} {fd fdL fdA : FuncData} (F : Fun K "ahead" "ahead" sAhead f fd) (LP : BP.Can P w K mg base "look_at_places" 7 pLookAtPlaces (spLookP K) fL fdL) (PA : BP.Can P w K mg base "place_ahead" 1 pPlaceAhead (spPAh K) fA fdA) : FnOk P w K mg base CX0 8 f fd pAhead (spAhd K) := by
  refine F.ok scAhead (fun vs H Q E h => ?_) (fun cdv A outer s H vs Q E hr h => ?_)
  · obtain ⟨q, _, c, b, o, us, fs, rfl, _⟩ := h
    rfl
  · obtain ⟨q, FF, c, b, o, us, fs, rfl, hP, ok, nr, want⟩ := h
    have hr1 := hr.mono (show 1 ≤ 7 by decide)
    refine ⟨_, (pss_cons (ps_expr (pe_call LP.ok hr (by rfl) LP.g LP.kp LP.b .nil pass0 (pa_cons (pv 0) (pa_cons (pe_lst (pa_cons (pv 1) pa_nil)) pa_nil))))
      (pss_one (ps_ret (pe_call PA.ok hr1 (by rfl) PA.g PA.kp PA.b .nil pass0 (pa_cons (pv 1) pa_nil))))), ?_⟩
    refine ⟨.int q, rfl, .ref c, rfl, (by show 1 ≤ sizeLine; decide), fun l nl => ?_⟩
    have s0 := same_new (o := .lst [V.ref c]) nl
    refine ⟨q, FF, l, c, b, o, us, fs, rfl, .inl (.inl upd_same), hP.kept s0, ok, fun H1 s1 => ?_⟩
    have s01 := s0.trans s1
    have hP1 := (hP.kept s0).kept s1
    exact ⟨.ref c, rfl, q, FF, c, b, o, us, fs, rfl, hP1, ok, nr, fun r H2 s2 h2 => want r H2 (s01.trans s2) h2⟩
theorem ok_pdepth {f : Addr} {fd : FuncData} {t2 : Tok} (F : Fun K "place_depth" "place_depth" sPlaceDepth f fd) (gBE : mg "BENT" = some (.str "bent" t2)) (m_len : mg "len" = none) : FnOk P w K mg base CX0 1 f fd pPlaceDepth (spPDp K) := by
  refine F.ok scPlaceDepth (fun vs H Q E h => ?_) (fun cdv A outer s H vs Q E hr h => ?_)
  · obtain ⟨q, _, c, b, o, us, fs, rfl, _⟩ := h
    rfl
  · obtain ⟨q, FF, c, b, o, us, fs, rfl, ⟨bs, p, t, hc, hb, hF, ht⟩, ok, want⟩ := h
    have lb := hF.len
    have lf := ok.lf
    refine ⟨_, (pss_cons (ps_asg (pv 0) (pg_tup rfl (pgs_cons (pg_name (i := 1) scPlaceDepth.nd rfl (.inl rfl)) (pgs_cons (pg_name (i := 2) scPlaceDepth.nd rfl (.inl rfl)) (pgs_cons (pg_name (i := 3) scPlaceDepth.nd rfl (.inl rfl)) (pgs_cons (pg_name (i := 2) scPlaceDepth.nd rfl (.inl rfl)) pgs_nil))))))
      (pss_one (ps_ret (pe_op op_add (pe_op op_mul pe_int (pe_callB call_len_seq (by rfl) m_len PySem.boot_len (pa_cons (pv 3) pa_nil))) (pe_ifExp (pt_cmpR op_eq (pv 1) (pe_glob (v := .str "bent") rfl gBE ⟨_, rfl⟩) (nomark _)) pe_int pe_int))))), ?_⟩
    refine ⟨.ref c, rfl, c, _, rfl, hc, rfl, _, [_, _, _], rfl, _, [_, _], rfl, _, [_], rfl, _, [], rfl, rfl, ?_⟩
    have num : ((2 : Int) * ((bs.length : Nat) : Int)) = ((2 * fs.length : Nat) : Int) := by
      rw [lb]
      omega
    refine ⟨.ref p, rfl, p, _, rfl, .inr hb, 2, _, rfl, rfl, .inl ⟨by omega, by omega⟩, _, rfl, rfl, _, rfl, ?_⟩
    cases b with
    | false =>
      rw [decide_eq_false (show ¬ V.str (sortS false) = V.str "bent" from fun z => absurd (V.str.inj z) (by decide +kernel))]
      refine iteF ⟨_, _, rfl, rfl, ?_⟩
      show Q (V.int (2 * ((bs.length : Nat) : Int) + 0)) H
      rw [num]
      exact want
    | true =>
      refine iteT ⟨_, _, rfl, rfl, ?_⟩
      show Q (V.int (2 * ((bs.length : Nat) : Int) + 1)) H
      rw [num]
      exact want
theorem ok_depth {f fL fA : Addr} {fd fdL fdA : FuncData} (F : Fun K "depth" "depth" sDepth f fd) (LP : BP.Can P w K mg base "look_at_places" 7 pLookAtPlaces (spLookP K) fL fdL) (PD : BP.Can P w K mg base "place_depth" 1 pPlaceDepth (spPDp K) fA fdA) : FnOk P w K mg base CX0 8 f fd pDepth (spDpt K) := by
  refine F.ok scDepth (fun vs H Q E h => ?_) (fun cdv A outer s H vs Q E hr h => ?_)
  · obtain ⟨q, _, c, b, o, us, fs, rfl, _⟩ := h
    rfl
  · obtain ⟨q, FF, c, b, o, us, fs, rfl, hP, ok, want⟩ := h
    have hr1 := hr.mono (show 1 ≤ 7 by decide)
    refine ⟨_, (pss_cons (ps_expr (pe_call LP.ok hr (by rfl) LP.g LP.kp LP.b .nil pass0 (pa_cons (pv 0) (pa_cons (pe_lst (pa_cons (pv 1) pa_nil)) pa_nil))))
      (pss_one (ps_ret (pe_call PD.ok hr1 (by rfl) PD.g PD.kp PD.b .nil pass0 (pa_cons (pv 1) pa_nil))))), ?_⟩
    refine ⟨.int q, rfl, .ref c, rfl, (by show 1 ≤ sizeLine; decide), fun l nl => ?_⟩
    have s0 := same_new (o := .lst [V.ref c]) nl
    refine ⟨q, FF, l, c, b, o, us, fs, rfl, .inl (.inl upd_same), hP.kept s0, ok, fun H1 s1 => ?_⟩
    have s01 := s0.trans s1
    have hP1 := (hP.kept s0).kept s1
    exact ⟨.ref c, rfl, q, FF, c, b, o, us, fs, rfl, hP1, ok, want H1 s01⟩
theorem ok_mbh {f fL aR : Addr} {fd fdL : FuncData} {t1 : Tok} (F : Fun K "many_behind" "many_behind" sManyBehind f fd) (LP : BP.Can P w K mg base "look_at_places" 7 pLookAtPlaces (spLookP K) fL fdL) (gST : mg "STRAIGHT" = some (.str "straight" t1)) (gRO : mg "ROOT" = some (.ref aR)) (hR : ∀ (H : Hp) (q : Nat) [IsF q], PlAt (q := q) K H aR false none [] []) (m_range : mg "range" = none) : FnOk P w K mg base CX0 8 f fd pManyBehind (spMBh K) := by
  refine F.ok scManyBehind (fun vs H Q E h => ?_) (fun cdv A outer s H vs Q E hr h => ?_)
  · obtain ⟨q, _, c, b, o, us, fs, d, rfl, _⟩ := h
    rfl
  · obtain ⟨q, FF, c, b, o, us, fs, d, rfl, hP, ok, d1, d10, want⟩ := h
    have q1 := gt1 FF.mem
    have q16 := le16 FF.mem
    refine ⟨_, (pss_cons (ps_expr (pe_call LP.ok hr (by rfl) LP.g LP.kp LP.b .nil pass0 (pa_cons (pv 0) (pa_cons (pe_lst (pa_cons (pv 1) pa_nil)) pa_nil))))
      (pss_cons (ps_if (pt_cmpR (op_eqD hr.units) (pv 1) (pe_glob (v := .ref aR) rfl gRO rfl) (nomark _)) (pss_one (ps_ret (pe_op op_add (pv 0) pe_int))) pss_nil)
      (pss_cons (ps_if (pt_cmpR op_eq (pe_ix ix_tup (pv 1) pe_int (fun _ _ => rfl)) (pe_glob (v := .str "straight") rfl gST ⟨_, rfl⟩) (nomark _)) (pss_one (ps_ret (pv 0))) pss_nil)
      (pss_cons (ps_set (i := 3) scManyBehind.nd rfl (.inl rfl) pe_int)
      (pss_cons (ps_for PassesOwn.never rfl (pi_range1 rfl m_range (pa_cons (pe_op op_sub (pv 2) pe_int) pa_nil)) (pg_name (i := 4) scManyBehind.nd rfl (.inl rfl)) (pss_one (ps_aug (i := 3) scManyBehind.nd rfl (.inl rfl) (pv 0) ip_mul)))
      (pss_one (ps_ret (pe_op op_sub (pv 3) pe_int)))))))), ?_⟩
    refine ⟨.int q, rfl, .ref c, rfl, (by show 1 ≤ sizeLine; decide), fun l nl => ?_⟩
    have s0 := same_new (o := .lst [V.ref c]) nl
    refine ⟨q, FF, l, c, b, o, us, fs, rfl, .inl (.inl upd_same), hP.kept s0, ok, fun H1 s1 => ?_⟩
    have s01 := s0.trans s1
    have hP1 := (hP.kept s0).kept s1
    have wt := want H1 s01
    have hD := dp_pl hP1
    obtain ⟨bs, p, t, hc, hb, hF, ht⟩ := hP1
    by_cases hroot : b = false ∧ fs = []
    · obtain ⟨rfl, rfl⟩ := hroot
      obtain ⟨k1, k2⟩ := ok.str rfl
      have us0 : us = [] := List.length_eq_zero_iff.mp k1
      subst us0
      rw [k2 rfl] at hD
      refine ⟨_, rfl, _, plD (q := q) false none [] [], hD, dp_pl (hR H1 q), sh_pl root_ok, sh_pl root_ok, true, by rw [root_yes], iteT ?_⟩
      exact (nl_add (n := q) (m := 1) (yl_var (i := 0) rfl) (nl_c 1)) _ wt
    · have nr : b = true ∨ fs ≠ [] := by
        cases b with
        | true => exact .inl rfl
        | false => exact .inr fun z => hroot ⟨rfl, z⟩
      refine ⟨_, rfl, _, plD (q := q) false none [] [], hD, dp_pl (hR H1 q), sh_pl ok, sh_pl root_ok, false, by rw [root_no nr], iteF ?_⟩
      cases b with
      | false =>
        have fs0 : fs.isEmpty = false := by
          cases fs with
          | nil => exact absurd rfl (nr.resolve_left (fun z => by cases z))
          | cons _ _ => rfl
        rw [fs0] at wt
        exact ⟨.ref c, rfl, c, _, 0, _, rfl, rfl, hc, rfl, rfl, true, rfl, iteT ⟨_, rfl, wt⟩⟩
      | true =>
        refine ⟨.ref c, rfl, c, _, 0, _, rfl, rfl, hc, rfl, rfl, false, by rw [decide_eq_false (fun z => absurd (V.str.inj z) (by decide +kernel))], iteF ?_⟩
        refine ⟨_, rfl, d, 1, rfl, rfl, _, rfl, by omega, by omega, ?_⟩
        rw [show ((d : Int) - 1).toNat = d - 1 by omega]
        refine for_range (n := d - 1) (lo := 0) (fun i σ H' => H' = H1 ∧ ∃ y, σ = [some (.int q), some (.ref c), some (.int d), some (.int (q ^ i : Nat)), y]) ⟨rfl, none, rfl⟩ (fun i σ H' hi hW => ?_) (fun σ H' hW => ?_)
        · obtain ⟨rfl, y, rfl⟩ := hW
          refine ⟨_, rfl, .int q, rfl, _, q, rfl, rfl, cmr (by omega), rfl, some (.int (0 + (i : Int))), ?_⟩
          rw [Nat.pow_succ, Int.natCast_mul]
          rfl
        · obtain ⟨rfl, y, rfl⟩ := hW
          exact (nl_sub (n := q ^ (d - 1)) (m := 1) (yl_var (i := 3) rfl) (nl_c 1) (Nat.pow_pos (by omega))) _ wt
end
end K13
set_option Elab.async false
set_option linter.all false
set_option maxRecDepth 100000
set_option maxHeartbeats 400000
set_option pp.maxSteps 2000
namespace BP
open PySem PySem.Spec PyProof.Rows L2 Fld
section
variable {q : Nat} [FF : IsF q] {K : PySem.W.Frag} {H H' : Hp}
/-- the straight place of a step's bends -/
def PlS (K : PySem.W.Frag) (H : Hp) (c : Addr) (st : List (Option (El q) × Po q)) : Prop := ∃ (start : V) (ts bs : List V) (p t : Addr), SqT K H c [.str "straight", start, .ref p, .ref t] ∧ SqT K H p bs ∧ SqT K H t ts ∧
  ((st = [] ∧ start = .int (-1) ∧ ts = [] ∧ bs = []) ∨ (st ≠ [] ∧ Stk K H st (start :: ts) bs))
theorem PlS.kept {c : Addr} {st : List (Option (El q) × Po q)} (h : PlS K H c st) (s : Same H H') : PlS K H' c st := by
  obtain ⟨start, ts, bs, p, t, h1, h2, h3, h4⟩ := h
  exact ⟨start, ts, bs, p, t, BP.Same.tupS s h1, BP.Same.tupS s h2, BP.Same.tupS s h3, h4.imp id fun x => ⟨x.1, x.2.kept fun _ _ => BP.Same.tupS s⟩⟩
def oS (st : List (Option (El q) × Po q)) : Option (El q) := (st.getLast?.map (·.1)).getD none
def uS (st : List (Option (El q) × Po q)) : Po q := (st.dropLast.map fun x => x.1.getD 0).reverse
def fS (st : List (Option (El q) × Po q)) : List (Po q) := (st.map (·.2)).reverse
theorem tv_oS (st : List (Option (El q) × Po q)) : tv (oS st) = sN st := by
  unfold oS sN
  cases st.getLast? <;> rfl
theorem vns_uS (st : List (Option (El q) × Po q)) : vns (uS st) = iv (tsN st).reverse := by
  unfold uS tsN
  show List.map vn (List.map _ _).reverse = List.map (fun n : Nat => V.int (n : Nat)) (List.map _ _).reverse
  rw [← List.map_reverse, ← List.map_reverse, List.map_map, List.map_map]
  refine List.map_congr_left fun x _ => ?_
  obtain ⟨o, g⟩ := x
  cases o <;> rfl
theorem pls_pl {c : Addr} {st : List (Option (El q) × Po q)} (g : Good st) (h : PlS K H c st) : PlAt K H c false (oS st) (uS st) (fS st) := by
  obtain ⟨start, ts, bs, p, t, h1, h2, h3, h4⟩ := h
  have e : start = ov (oS st) ∧ ts = vns (uS st) ∧ FsAt K H bs (fS st) := by
    rcases h4 with ⟨e1, e2, e3, e4⟩ | ⟨e1, e2⟩
    · subst e1
      rw [e2, e3, e4]
      exact ⟨rfl, rfl, True.intro⟩
    · obtain ⟨k1, k2⟩ := stk_head g e2
      exact ⟨by rw [k1, ov_tv, tv_oS], by rw [k2, vns_uS], stk_fs e2⟩
  obtain ⟨e1, e2, e3⟩ := e
  rw [e1] at h1
  rw [e2] at h3
  exact ⟨bs, p, t, h1, h2, e3, h3⟩
theorem pls_ok {st : List (Option (El q) × Po q)} (g : Good st) (b7 : B7 st) (l : st.length ≤ 200) : PlOk false (oS st) (uS st) (fS st) := by
  refine ⟨fun f hf => ?_, ?_, (fun h => by cases h), fun _ => ⟨?_, fun e => ?_⟩⟩
  · unfold fS at hf
    rw [List.mem_reverse] at hf
    obtain ⟨x, hx, e⟩ := List.mem_map.mp hf
    subst e
    exact ⟨good_all g x hx, b7 x hx⟩
  · unfold fS
    rw [List.length_reverse, List.length_map]
    exact l
  · unfold uS fS
    rw [List.length_reverse, List.length_map, List.length_dropLast, List.length_reverse, List.length_map]
  · unfold fS at e
    have : st = [] := by
      have l := congrArg List.length e
      rw [List.length_reverse, List.length_map] at l
      exact List.length_eq_zero_iff.mp l
    rw [this]
    rfl
theorem step_pls {c r : Addr} {z : Sta q} {start : V} {ts bs : List V} {t b : Addr} (hb : SqT K H b bs) (ht : SqT K H t ts) (hr : SqT K H r [.str "straight", start, .ref b, .ref t])
    (cs : (z.st = [] ∧ start = .int (-1) ∧ ts = [] ∧ bs = []) ∨ (z.st ≠ [] ∧ Stk K H z.st (start :: ts) bs)) : PlS K H r z.st := ⟨start, ts, bs, b, t, hr, hb, ht, cs⟩
end
def spPSt (K : PySem.W.Frag) : Sp := fun vs H Q _ => ∃ (q : Nat) (_ : IsF q) (c : Addr) (st : List (Option (El q) × Po q)), vs = [.ref c] ∧ PlS K H c st ∧ ∀ (r : Addr) (H' : Hp), Same H H' → StepAt K H' r (⟨st, same⟩ : Sta q) → Q (.ref r) H'
def spSoP (K : PySem.W.Frag) : Sp := fun vs H Q _ => ∃ (q : Nat) (_ : IsF q) (c : Addr) (st : List (Option (El q) × Po q)), vs = [.int q, .ref c] ∧ PlS K H c st ∧ Good st ∧ B7 st ∧ st.length ≤ 200 ∧ ∀ (r : Addr) (H' : Hp), Same H H' → StepAt K H' r (⟨st, same⟩ : Sta q) → Q (.ref r) H'
def spPBS (K : PySem.W.Frag) : Sp := fun vs H Q _ => ∃ (q : Nat) (_ : IsF q) (c : Addr) (z : Sta q), vs = [.int q, .ref c, .str "straight"] ∧ StepAt K H c z ∧ ∀ (r : Addr) (H' : Hp), Same H H' → PlS K H' r z.st → Q (.ref r) H'
def spPOf (K : PySem.W.Frag) : Sp := fun vs H Q _ => ∃ (q : Nat) (_ : IsF q) (c : Addr) (z : Sta q), vs = [.int q, .ref c, .str "straight"] ∧ StepAt K H c z ∧ Fit z ∧ ∀ (r : Addr) (H' : Hp), Same H H' → PlS K H' r z.st → Q (.ref r) H'
end BP
namespace K13
open PySem PySem.Spec PyProof.Rows L2 BP Fld
section
variable {P : Program} {w : World} {K : PySem.W.Frag} {mg : Str → Option Value} {base : Heap}
theorem ok_pstep {f aS : Addr} {fd : FuncData} {t1 : Tok} (F : Fun K "place_step" "place_step" sPlaceStep f fd) (gST : mg "STRAIGHT" = some (.str "straight" t1)) (gSA : mg "SAME" = some (.ref aS)) (hS : ∀ (H : Hp) (q : Nat) [IsF q], SqT K H aS (mv (same : Mat q))) : FnOk P w K mg base CX0 1 f fd pPlaceStep (spPSt K) := by
  refine F.ok scPlaceStep (fun vs H Q E h => ?_) (fun cdv A outer s H vs Q E hr h => ?_)
  · obtain ⟨q, _, c, st, rfl, _⟩ := h
    rfl
  · obtain ⟨q, FF, c, st, rfl, ⟨start, ts, bs, p, t, hc, hb, ht, cs⟩, want⟩ := h
    refine ⟨_, (pss_cons (ps_asg (pv 0) (pg_tup rfl (pgs_cons (pg_name (i := 1) scPlaceStep.nd rfl (.inl rfl)) (pgs_cons (pg_name (i := 2) scPlaceStep.nd rfl (.inl rfl)) (pgs_cons (pg_name (i := 3) scPlaceStep.nd rfl (.inl rfl)) (pgs_cons (pg_name (i := 4) scPlaceStep.nd rfl (.inl rfl)) pgs_nil))))))
      (pss_cons (ps_if (pt_cmpR op_eq (pv 1) (pe_glob (v := .str "straight") rfl gST ⟨_, rfl⟩) (nomark _)) (pss_one (ps_ret (pe_tup (pa_cons (pv 2) (pa_cons (pv 3) (pa_cons (pv 4) (pa_cons (pe_glob (v := .ref aS) rfl gSA rfl) pa_nil))))))) pss_nil)
      (pss_cons ps_dead
      (pss_one ps_dead)))), ?_⟩
    refine ⟨.ref c, rfl, c, _, rfl, hc, rfl, _, [_, _, _], rfl, _, [_, _], rfl, _, [_], rfl, _, [], rfl, rfl, ?_⟩
    refine ⟨_, rfl, rfl, true, rfl, iteT ?_⟩
    refine ⟨_, rfl, _, rfl, _, rfl, (by show 4 ≤ sizeLine; decide), fun r nr => want r _ (same_new nr) ?_⟩
    have s1 := same_new (o := .tup [start, .ref p, .ref t, .ref aS]) nr
    exact ⟨start, ts, bs, t, p, aS, .inl (.inl upd_same), BP.Same.tupS s1 hb, BP.Same.tupS s1 ht, hS _ q, cs.imp id fun x => ⟨x.1, x.2.kept fun _ _ => BP.Same.tupS s1⟩⟩
theorem ok_sop {f fL fA : Addr} {fd fdL fdA : FuncData} (F : Fun K "step_of_place" "step_of_place" sStepOfPlace f fd) (LP : BP.Can P w K mg base "look_at_places" 7 pLookAtPlaces (spLookP K) fL fdL) (PS : BP.Can P w K mg base "place_step" 1 pPlaceStep (spPSt K) fA fdA) : FnOk P w K mg base CX0 8 f fd pStepOfPlace (spSoP K) := by
  refine F.ok scStepOfPlace (fun vs H Q E h => ?_) (fun cdv A outer s H vs Q E hr h => ?_)
  · obtain ⟨q, _, c, st, rfl, _⟩ := h
    rfl
  · obtain ⟨q, FF, c, st, rfl, hP, g, b7, l2, want⟩ := h
    have hr1 := hr.mono (show 1 ≤ 7 by decide)
    refine ⟨_, (pss_cons (ps_expr (pe_call LP.ok hr (by rfl) LP.g LP.kp LP.b .nil pass0 (pa_cons (pv 0) (pa_cons (pe_lst (pa_cons (pv 1) pa_nil)) pa_nil))))
      (pss_one (ps_ret (pe_call PS.ok hr1 (by rfl) PS.g PS.kp PS.b .nil pass0 (pa_cons (pv 1) pa_nil))))), ?_⟩
    refine ⟨.int q, rfl, .ref c, rfl, (by show 1 ≤ sizeLine; decide), fun l nl => ?_⟩
    have s0 := same_new (o := .lst [V.ref c]) nl
    refine ⟨q, FF, l, c, false, oS st, uS st, fS st, rfl, .inl (.inl upd_same), pls_pl g (hP.kept s0), pls_ok g b7 l2, fun H1 s1 => ?_⟩
    exact ⟨.ref c, rfl, q, FF, c, st, rfl, (hP.kept s0).kept s1, fun r H2 s2 h2 => want r H2 ((s0.trans s1).trans s2) h2⟩
theorem ok_pbs {f : Addr} {fd : FuncData} {t1 : Tok} (F : Fun K "place_by_step" "place_by_step" sPlaceByStep f fd) (gST : mg "STRAIGHT" = some (.str "straight" t1)) : FnOk P w K mg base CX0 1 f fd pPlaceByStep (spPBS K) := by
  refine F.ok scPlaceByStep (fun vs H Q E h => ?_) (fun cdv A outer s H vs Q E hr h => ?_)
  · obtain ⟨q, _, c, z, rfl, _⟩ := h
    rfl
  · obtain ⟨q, FF, c, z, rfl, ⟨start, ts, bs, t, b, l, hc, hb, ht, hl, cs⟩, want⟩ := h
    refine ⟨_, (pss_cons (ps_asg (pv 1) (pg_tup rfl (pgs_cons (pg_name (i := 3) scPlaceByStep.nd rfl (.inl rfl)) (pgs_cons (pg_name (i := 4) scPlaceByStep.nd rfl (.inl rfl)) (pgs_cons (pg_name (i := 5) scPlaceByStep.nd rfl (.inl rfl)) (pgs_cons (pg_name (i := 6) scPlaceByStep.nd rfl (.inl rfl)) pgs_nil))))))
      (pss_cons (ps_if (pt_cmpR op_eq (pv 2) (pe_glob (v := .str "straight") rfl gST ⟨_, rfl⟩) (nomark _)) (pss_one (ps_ret (pe_tup (pa_cons (pe_glob (v := .str "straight") rfl gST ⟨_, rfl⟩) (pa_cons (pv 3) (pa_cons (pv 4) (pa_cons (pv 5) pa_nil))))))) pss_nil)
      (pss_cons ps_dead
      (pss_cons ps_dead
      (pss_cons ps_dead
      (pss_one ps_dead)))))), ?_⟩
    refine ⟨.ref c, rfl, c, _, rfl, hc, rfl, _, [_, _, _], rfl, _, [_, _], rfl, _, [_], rfl, _, [], rfl, rfl, ?_⟩
    refine ⟨_, rfl, rfl, true, rfl, iteT ?_⟩
    refine ⟨_, rfl, _, rfl, _, rfl, (by show 4 ≤ sizeLine; decide), fun r nr => want r _ (same_new nr) ?_⟩
    have s1 := same_new (o := .tup [V.str "straight", start, .ref b, .ref t]) nr
    exact ⟨start, ts, bs, b, t, .inl (.inl upd_same), BP.Same.tupS s1 hb, BP.Same.tupS s1 ht, cs.imp id fun x => ⟨x.1, x.2.kept fun _ _ => BP.Same.tupS s1⟩⟩
theorem ok_pof {f fL fB : Addr} {fd fdL fdB : FuncData} {t1 t2 : Tok} (F : Fun K "place_of" "place_of" sPlaceOf f fd) (LS : BP.Can P w K mg base "look_at_steps" 7 pLookAtSteps (spLookS K) fL fdL) (PB : BP.Can P w K mg base "place_by_step" 1 pPlaceByStep (spPBS K) fB fdB) (gST : mg "STRAIGHT" = some (.str "straight" t1)) (gBE : mg "BENT" = some (.str "bent" t2)) : FnOk P w K mg base CX0 8 f fd pPlaceOf (spPOf K) := by
  refine F.ok scPlaceOf (fun vs H Q E h => ?_) (fun cdv A outer s H vs Q E hr h => ?_)
  · obtain ⟨q, _, c, z, rfl, _⟩ := h
    rfl
  · obtain ⟨q, FF, c, z, rfl, hc, ft, want⟩ := h
    have hr1 := hr.mono (show 1 ≤ 7 by decide)
    refine ⟨_, (pss_cons (ps_expr (pe_call LS.ok hr (by rfl) LS.g LS.kp LS.b .nil pass0 (pa_cons (pv 0) (pa_cons (pe_lst (pa_cons (pv 1) pa_nil)) pa_nil))))
      (pss_cons (ps_if (PW.pt (pw_and (pt_cmpR op_ne (pv 2) (pe_glob (v := .str "straight") rfl gST ⟨_, rfl⟩) (nomark _)) (pw_and1 (pt_cmpR op_ne (pv 2) (pe_glob (v := .str "bent") rfl gBE ⟨_, rfl⟩) (nomark _))))) (pss_one ps_dead) pss_nil)
      (pss_one (ps_ret (pe_call PB.ok hr1 (by rfl) PB.g PB.kp PB.b .nil pass0 (pa_cons (pv 0) (pa_cons (pv 1) (pa_cons (pv 2) pa_nil)))))))), ?_⟩
    refine ⟨.int q, rfl, .ref c, rfl, (by show 1 ≤ sizeLine; decide), fun l nl => ?_⟩
    have s0 := same_new (o := .lst [V.ref c]) nl
    have hc0 := hc.kept fun _ _ => BP.Same.tupS s0
    refine ⟨q, FF, l, [c], rfl, .inl (.inl upd_same), one_in hc0 ft, fun H1 s1 => ?_⟩
    refine ⟨_, rfl, rfl, false, rfl, iteF ?_⟩
    exact ⟨.int q, rfl, .ref c, rfl, _, rfl, q, FF, c, z, rfl, hc0.kept fun _ _ => BP.Same.tupS s1, fun r H2 s2 h2 => want r H2 ((s0.trans s1).trans s2) h2⟩
end
end K13
set_option Elab.async false
set_option linter.all false
set_option maxRecDepth 100000
set_option maxHeartbeats 400000
set_option pp.maxSteps 4000
namespace BP
open PySem PySem.Spec PyProof.Rows L2 Fld
abbrev datT (ns : List Nat) : PyData := .tuple (ns.map fun n => PyData.int (n : Nat))
theorem dp_natsT {K : PySem.W.Frag} {H : Hp} {a : Addr} {ns : List Nat} (h : SqT K H a (iv ns)) : Dp K H (.ref a) (datT ns) := .tup h (dpAll_nats ns)
theorem shaped_natsT (ns : List Nat) : SeqAt.shaped (datT ns) = true := by
  unfold SeqAt.shaped datT
  have e : (ns.map fun n => PyData.int (n : Nat)) = (ns.map fun (n : Nat) => (n : Int)).map PyData.int := by
    rw [List.map_map]
    rfl
  rw [e]
  simp only [PyData.canLay0, canLay_ints, PyData.depth, depth_ints]
  decide
theorem eqvT_nil (ns : List Nat) : PyData.eqv (datT ns) (.tuple []) = ns.isEmpty := by
  cases ns with
  | nil => simp [PyData.eqv, PyData.eqvAll]
  | cons n r => simp [PyData.eqv, PyData.eqvAll]
theorem pB_rev (q : Nat) : ∀ ds : List Nat, pB q ds.reverse = pB q ds
  | [] => rfl
  | d :: ds => by
    rw [List.reverse_cons, pB_snoc, pB_rev q ds]
    rfl
theorem mP_rev (q : Nat) (ds : List Nat) : mP q ds.reverse = mP q ds := by
  unfold mP
  rw [pB_rev, List.length_reverse]
  by_cases h : ds = []
  · subst h; rfl
  · rw [if_neg h, if_neg (fun z => h (List.reverse_eq_nil_iff.mp z))]
end BP
namespace K13
open PySem PySem.Spec PyProof.Rows L2 BP Fld
section
variable {P : Program} {w : World} {K : PySem.W.Frag} {mg : Str → Option Value} {base : Heap}
def spGreat : Sp := fun vs H Q _ => ∃ (d c : Addr) (n : Nat), vs = [.ref d, .int n] ∧ Deck H d c ∧ 0 < n ∧ ∀ (x : Nat) (H' : Hp), x < n → But d c H H' → Deck H' d c → Q (.int x) H'
theorem ok_great {f fD : Addr} {fd fdD : FuncData} (F : Fun K "_law_great" "_law_great" sLGreat f fd) (D : BP.Can P w K mg base "_law_draw" 1 pLDraw spDraw fD fdD) (m_int : mg "int" = none) (m_range : mg "range" = none) : FnOk P w K mg base CX0 2 f fd pLGreat spGreat := by
  refine F.ok scLGreat (fun vs H Q E h => ?_) (fun cdv A outer s H vs Q E hr h => ?_)
  · obtain ⟨d, c, n, rfl, _⟩ := h
    rfl
  · obtain ⟨d, c, n, rfl, hk, n0, want⟩ := h
    refine ⟨_, (pss_cons (ps_set (i := 2) scLGreat.nd rfl (.inl rfl) pe_int)
      (pss_cons (ps_for PassesOwn.never rfl (pi_range1 rfl m_range (pa_cons pe_int pa_nil)) (pg_name (i := 3) scLGreat.nd rfl (.inl rfl)) (pss_one (ps_set (i := 2) scLGreat.nd rfl (.inl rfl) (pe_op op_add (pe_op op_mul (pv 2) pe_int) (pe_call D.ok hr (by rfl) D.g D.kp D.b .nil pass0 (pa_cons (pv 0) (pa_cons pe_int pa_nil)))))))
      (pss_one (ps_ret (pe_op op_mod (pe_callTy call_int1 (by rfl) m_int (by decide +kernel) (pa_cons (pv 2) pa_nil)) (pv 1)))))), ?_⟩
    refine ⟨17, rfl, by decide, by decide, ?_⟩
    refine for_range (n := 17) (lo := 0) (fun i σ H' => But d c H H' ∧ Deck H' d c ∧ ∃ (m : Nat) (y : Option V), σ = [some (.ref d), some (.int n), some (.int m), y]) ⟨But.of (fun _ _ e => e), hk, 0, none, rfl⟩ (fun i σ H' hi hW => ?_) (fun σ H' hW => ?_)
    · obtain ⟨hb, hk1, m, y, rfl⟩ := hW
      refine ⟨.int m, rfl, m, 1000003, rfl, rfl, .inr ⟨by decide, by decide⟩, .ref d, rfl, d, c, 1000003, rfl, hk1, by decide, by decide, fun x H1 hx hb1 hk2 => ⟨_, x, rfl, rfl, hb.trans hb1, hk2, m * 1000003 + x, some (.int (0 + (i : Int))), ?_⟩⟩
      rw [Int.natCast_add, Int.natCast_mul]
      rfl
    · obtain ⟨hb, hk1, m, y, rfl⟩ := hW
      refine ⟨.int m, rfl, .inl ⟨m, rfl, .int n, rfl, m, n, rfl, rfl, (by omega), ?_⟩⟩
      obtain ⟨x, e, hx⟩ := modN m n0
      show Q (.int ((m : Int) % (n : Int))) H'
      rw [e]
      exact want x H' hx hb hk1
def spEdge : Sp := spGreat
theorem ok_edge {f fD fG : Addr} {fd fdD fdG : FuncData} (F : Fun K "_law_edge" "_law_edge" sLEdge f fd) (D : BP.Can P w K mg base "_law_draw" 1 pLDraw spDraw fD fdD) (GR : BP.Can P w K mg base "_law_great" 2 pLGreat spGreat fG fdG) : FnOk P w K mg base CX0 3 f fd pLEdge spEdge := by
  refine F.ok scLEdge (fun vs H Q E h => ?_) (fun cdv A outer s H vs Q E hr h => ?_)
  · obtain ⟨d, c, n, rfl, _⟩ := h
    rfl
  · obtain ⟨d, c, n, rfl, hk, n0, want⟩ := h
    have hr1 := hr.mono (show 1 ≤ 2 by decide)
    refine ⟨_, (pss_cons (ps_set (i := 2) scLEdge.nd rfl (.inl rfl) (pe_call D.ok hr1 (by rfl) D.g D.kp D.b .nil pass0 (pa_cons (pv 0) (pa_cons pe_int pa_nil))))
      (pss_cons (ps_if (pt_cmpR op_lt (pv 2) pe_int (nomark _)) (pss_one (ps_ret (pe_op op_mul (pv 2) (pe_op op_sub (pv 1) pe_int)))) pss_nil)
      (pss_one (ps_ret (pe_call GR.ok hr (by rfl) GR.g GR.kp GR.b .nil pass0 (pa_cons (pv 0) (pa_cons (pv 1) pa_nil))))))), ?_⟩
    refine ⟨.ref d, rfl, d, c, 5, rfl, hk, by decide, by decide, fun x H1 hx hb hk1 => ?_⟩
    refine ⟨.int x, rfl, x, 2, rfl, rfl, _, rfl, ite2 (fun h => ?_) (fun h => ?_)⟩
    · have h2 : (x : Int) < 2 := of_decide_eq_true h
      refine ⟨.int x, rfl, .int n, rfl, n, 1, rfl, rfl, x, _, rfl, rfl, .inl ⟨by omega, by omega⟩, ?_⟩
      have e : ((x : Int) * ((n : Int) - 1)) = ((x * (n - 1) : Nat) : Int) := by
        rw [Int.natCast_mul, Int.ofNat_sub (by omega)]
        rfl
      show Q (.int ((x : Int) * ((n : Int) - 1))) H1
      rw [e]
      refine want _ H1 ?_ hb hk1
      have : x = 0 ∨ x = 1 := by omega
      rcases this with rfl | rfl <;> omega
    · exact ⟨.ref d, rfl, .int n, rfl, d, c, n, rfl, hk1, n0, fun y H2 hy hb2 hk2 => want y H2 hy (hb.trans hb2) hk2⟩
def spPow : Sp := fun vs H Q _ => ∃ a e : Nat, vs = [.int a, .int e] ∧ a ≤ 1000 ∧ e ≤ 100 ∧ Q (.int (a ^ e : Nat)) H
theorem ok_power {f : Addr} {fd : FuncData} {k : Nat} (F : Fun K "_law_power" "_law_power" sLPower f fd) (m_range : mg "range" = none) : FnOk P w K mg base CX0 (k + 1) f fd pLPower spPow := by
  refine F.ok scLPower (fun vs H Q E h => ?_) (fun cdv A outer s H vs Q E hr h => ?_)
  · obtain ⟨a, e, rfl, _⟩ := h
    rfl
  · obtain ⟨a, e, rfl, a0, e0, want⟩ := h
    refine ⟨_, (pss_cons (ps_set (i := 2) scLPower.nd rfl (.inl rfl) pe_int)
      (pss_cons (ps_for PassesOwn.never rfl (pi_range1 rfl m_range (pa_cons (pv 1) pa_nil)) (pg_name (i := 3) scLPower.nd rfl (.inl rfl)) (pss_one (ps_set (i := 2) scLPower.nd rfl (.inl rfl) (pe_op op_mul (pv 2) (pv 0)))))
      (pss_one (ps_ret (pv 2))))), ?_⟩
    refine ⟨.int e, rfl, e, rfl, by omega, by omega, ?_⟩
    rw [Int.toNat_natCast]
    refine for_range (n := e) (lo := 0) (fun i σ H' => H' = H ∧ ∃ y, σ = [some (.int a), some (.int e), some (.int (a ^ i : Nat)), y]) ⟨rfl, none, rfl⟩ (fun i σ H' hi hW => ?_) (fun σ H' hW => ?_)
    · obtain ⟨rfl, y, rfl⟩ := hW
      refine ⟨_, rfl, .int a, rfl, _, a, rfl, rfl, cmr (by omega), rfl, some (.int (0 + (i : Int))), ?_⟩
      rw [Nat.pow_succ, Int.natCast_mul]
      rfl
    · obtain ⟨rfl, y, rfl⟩ := hW
      exact ⟨_, rfl, want⟩
def spMPl (K : PySem.W.Frag) : Sp := fun vs H Q _ => ∃ (q : Nat) (a : Addr) (ds : List Nat), vs = [.int q, .ref a] ∧ q ∈ fields ∧ Dgs K H a ds ∧ ∀ H', Same H H' → Q (.int (mP q ds : Nat)) H'
theorem ok_mpl {f fP : Addr} {fd fdP : FuncData} (F : Fun K "_law_many_places" "_law_many_places" sLManyPlaces f fd) (PW : BP.Can P w K mg base "_law_power" 1 pLPower spPow fP fdP) (m_len : mg "len" = none) : FnOk P w K mg base CX0 2 f fd pLManyPlaces (spMPl K) := by
  refine F.ok scLManyPlaces (fun vs H Q E h => ?_) (fun cdv A outer s H vs Q E hr h => ?_)
  · obtain ⟨q, a, ds, rfl, _⟩ := h
    rfl
  · obtain ⟨q, a, ds, rfl, hq, ⟨hS, hd, hl⟩, want⟩ := h
    have q16 := le16 hq
    have q1 := gt1 hq
    refine ⟨_, (pss_cons (ps_if (pt_cmpR (op_eqD hr.units) (pv 1) (pe_tup pa_nil) (nomark _)) (pss_one (ps_ret pe_int)) pss_nil)
      (pss_cons (ps_set (i := 2) scLManyPlaces.nd rfl (.inl rfl) (pe_op op_mul (pe_op op_add (pv 0) pe_int) (pe_call PW.ok hr (by rfl) PW.g PW.kp PW.b .nil pass0 (pa_cons (pv 0) (pa_cons (pe_op op_sub (pe_callB call_len_seq (by rfl) m_len PySem.boot_len (pa_cons (pv 1) pa_nil)) pe_int) pa_nil)))))
      (pss_cons (ps_for PassesOwn.never rfl (pi_tup (pv 1)) (pg_name (i := 3) scLManyPlaces.nd rfl (.inl rfl)) (pss_one (ps_set (i := 2) scLManyPlaces.nd rfl (.inl rfl) (pe_op op_mul (pe_op op_mul (pv 2) (pe_op op_sub (pv 0) pe_int)) (pe_call PW.ok hr (by rfl) PW.g PW.kp PW.b .nil pass0 (pa_cons (pv 0) (pa_cons (pe_op op_sub (pv 3) pe_int) pa_nil)))))))
      (pss_one (ps_ret (pv 2)))))), ?_⟩
    refine ⟨.ref a, rfl, Nat.zero_le _, fun p np => ⟨_, .tuple [], dp_natsT (BP.Same.tupS (same_new (o := .tup ([] : List V)) np) hS), dp_natsT (ns := []) (.inl (.inl upd_same)), shaped_natsT _, shaped_natsT [], _, rfl, ?_⟩⟩
    have s2 := same_new (o := .tup ([] : List V)) np
    have hS2 := BP.Same.tupS s2 hS
    generalize upd H p (.tup ([] : List V)) = H2 at s2 hS2 ⊢
    rw [eqvT_nil]
    refine ite2 (fun he => ?_) (fun he => ?_)
    · have e : ds = [] := by simpa using he
      subst e
      exact want H2 s2
    · have e : ds ≠ [] := by simpa using he
      have l0 : 0 < ds.length := List.length_pos_iff.mpr e
      have ll : (iv ds).length = ds.length := List.length_map ..
      refine ⟨.int q, rfl, q, 1, rfl, rfl, .int q, rfl, .ref a, rfl, a, _, rfl, .inr hS2, _, 1, rfl, rfl, q, ds.length - 1, (by rw [ll, Int.ofNat_sub l0]; rfl), by omega, by omega, _, _, rfl, rfl, .inl ⟨by omega, by omega⟩, ?_⟩
      have e1 : (((q : Int) + 1) * ((q ^ (ds.length - 1) : Nat) : Int)) = (((q + 1) * q ^ (ds.length - 1) * pB q (ds.take 0) : Nat) : Int) := by
        rw [show pB q (ds.take 0) = 1 from rfl, Nat.mul_one, Int.natCast_mul]
        rfl
      show tSeq _ _ _ [some (.int q), some (.ref a), some (.int (((q : Int) + 1) * ((q ^ (ds.length - 1) : Nat) : Int))), none] H2
      rw [e1]
      refine ⟨.ref a, rfl, a, rfl, ⟨_, hS2⟩, for_tup (K := K) (a := a) (xs := iv ds) (fun i σ H' => H' = H2 ∧ ∃ y, σ = [some (.int q), some (.ref a), some (.int ((q + 1) * q ^ (ds.length - 1) * pB q (ds.take i) : Nat)), y]) ⟨rfl, none, rfl⟩ (fun i σ H' _ hW => hW.1 ▸ hS2) (fun i x σ H' hi hW => ?_) (fun σ H' hW => ?_)⟩
      · obtain ⟨rfl, y, rfl⟩ := hW
        obtain ⟨d, ed, rfl⟩ : ∃ d : Nat, ds[i]? = some d ∧ x = .int d := by
          rw [List.getElem?_map] at hi
          cases e : ds[i]? with
          | none =>
            rw [e] at hi
            cases hi
          | some d =>
            rw [e] at hi
            exact ⟨d, rfl, (Option.some.inj hi).symm⟩
        obtain ⟨d2, d6⟩ := hd d (List.mem_of_getElem? ed)
        have e2 : q ^ (d - 2) ≤ 16 ^ 4 := Nat.le_trans (Nat.pow_le_pow_left q16 _) (Nat.pow_le_pow_right (by omega) (by omega))
        have et : ds.take (i + 1) = ds.take i ++ [d] := by
          rw [List.take_add_one, ed]
          rfl
        have e3 : (((q + 1) * q ^ (ds.length - 1) * pB q (ds.take i) : Nat) : Int) * ((q : Int) - 1) * ((q ^ (d - 2) : Nat) : Int) = (((q + 1) * q ^ (ds.length - 1) * pB q (ds.take (i + 1)) : Nat) : Int) := by
          rw [et, pB_snoc]
          show _ = (((q + 1) * q ^ (ds.length - 1) * (pB q (ds.take i) * ((q - 1) * q ^ (d - 2))) : Nat) : Int)
          rw [← Nat.mul_assoc, ← Nat.mul_assoc]
          generalize (q + 1) * q ^ (ds.length - 1) * pB q (ds.take i) = X
          rw [Int.natCast_mul (X * (q - 1)), Int.natCast_mul X, Int.ofNat_sub (by omega)]
          rfl
        refine ⟨_, rfl, .int q, rfl, q, 1, rfl, rfl, _, _, rfl, rfl, .inr ⟨by omega, by omega⟩, .int q, rfl, .int d, rfl, d, 2, rfl, rfl, q, d - 2, (by rw [Int.ofNat_sub d2]; rfl), by omega, by omega, _, _, rfl, rfl, .inr ⟨by omega, by omega⟩, rfl, some (.int d), ?_⟩
        rw [← e3]
        rfl
      · obtain ⟨rfl, y, rfl⟩ := hW
        have e4 : (q + 1) * q ^ (ds.length - 1) * pB q (ds.take (iv ds).length) = mP q ds := by
          rw [ll, List.take_of_length_le (Nat.le_refl _)]
          unfold mP
          rw [if_neg e]
        rw [e4]
        exact ⟨_, rfl, want _ s2⟩
end
end K13
set_option Elab.async false
set_option linter.all false
set_option maxRecDepth 100000
set_option maxHeartbeats 400000
set_option pp.maxSteps 2000
namespace BP
open PySem PySem.Spec PyProof.Rows L2 Fld
section
variable {q : Nat} [FF : IsF q] {K : PySem.W.Frag} {H : Hp}
theorem bend_facts {f : Po q} (hB : IsB f) : ∃ (mids : List Nat) (y : El q), cutV (vns f) (some 2) (some (-1)) = iv mids ∧ mids.length = f.length - 3 ∧ atI (vns f) (-1) = some (vn y) ∧ y.val ≠ 0 ∧
    ∀ R : Nat, hor q R mids * (q - 1) + y.val - 1 = R * Cnt.bds q (f.length - 1) + bNum q (f.map El.val) := by
  obtain ⟨g, y, eg⟩ : ∃ g y, f = g ++ [y] := ⟨f.dropLast, f.getLast hB.2, (List.dropLast_concat_getLast hB.2).symm⟩
  have y0 : y.val ≠ 0 := by
    intro z
    have t := top_of_trim hB.1.1 (n := g.length) (by rw [eg, List.length_append, List.length_singleton])
    refine t ?_
    unfold co
    rw [eg, List.getD_eq_getElem?_getD, List.getElem?_append_right (Nat.le_refl _), Nat.sub_self]
    exact El.ext z
  have l3 : 3 ≤ f.length := isB_len hB
  obtain ⟨mids, em⟩ : ∃ mids : List Nat, mids = ((f.map El.val).drop 2).take ((f.map El.val).length - 3) := ⟨_, rfl⟩
  have lm : mids.length = f.length - 3 := by
    rw [em, List.length_take, List.length_drop, List.length_map]
    omega
  have last : (f.map El.val).getLastD 0 = y.val := by
    rw [eg, List.map_append, List.getLastD_eq_getLast?]
    show (g.map El.val ++ [y.val]).getLast?.getD 0 = y.val
    rw [List.getLast?_concat]
    rfl
  refine ⟨mids, y, ?_, lm, ?_, y0, fun R => ?_⟩
  · rw [em]
    exact cut_mid f l3
  · rw [eg]
    show atI (List.map vn (g ++ [y])) (-1) = _
    rw [List.map_append]
    exact atI_last _ _
  · unfold bNum
    rw [last, ← em, hor_from q R, lm]
    show _ = R * ((q - 1) * q ^ (f.length - 1 - 2)) + _
    rw [show f.length - 1 - 2 = f.length - 3 by omega, Nat.add_mul, Nat.mul_assoc R, Nat.mul_comm (q ^ (f.length - 3)) (q - 1)]
    omega
def spRk (K : PySem.W.Frag) : Sp := fun vs H Q _ => ∃ (q : Nat) (_ : IsF q) (c : Addr) (st : List (Option (El q) × Po q)), vs = [.int q, .ref c] ∧ PlS K H c st ∧ Good st ∧ B7 st ∧ ∀ H', Same H H' → Q (.int (nRk st : Nat)) H'
end
end BP
namespace K13
open PySem PySem.Spec PyProof.Rows L2 BP Fld
section
variable {P : Program} {w : World} {K : PySem.W.Frag} {mg : Str → Option Value} {base : Heap}
theorem ok_rank {f : Addr} {fd : FuncData} {k : Nat} (F : Fun K "_law_rank" "_law_rank" sLRank f fd) : FnOk P w K mg base CX0 (k + 1) f fd pLRank (spRk K) := by
  refine F.ok scLRank (fun vs H Q E h => ?_) (fun cdv A outer s H vs Q E hr h => ?_)
  · obtain ⟨q, _, c, st, rfl, _⟩ := h
    rfl
  · obtain ⟨q, FF, c, st, rfl, hP, gd, b7, want⟩ := h
    have q1 := gt1 FF.mem
    have q16 := le16 FF.mem
    refine ⟨_, (pss_cons (ps_asg (pv 1) (pg_tup rfl (pgs_cons (pg_name (i := 2) scLRank.nd rfl (.inl rfl)) (pgs_cons (pg_name (i := 3) scLRank.nd rfl (.inl rfl)) (pgs_cons (pg_name (i := 4) scLRank.nd rfl (.inl rfl)) (pgs_cons (pg_name (i := 5) scLRank.nd rfl (.inl rfl)) pgs_nil))))))
      (pss_cons (ps_set (i := 6) scLRank.nd rfl (.inl rfl) (pe_op op_add (pv 3) pe_int))
      (pss_cons (ps_for PassesOwn.never rfl (pi_tup (pv 4)) (pg_name (i := 7) scLRank.nd rfl (.inl rfl)) (pss_cons (ps_for PassesOwn.never rfl (pi_tup (pe_slice sl_tup (pv 7) (po_some pe_int) (po_some (pe_un un_neg pe_int)))) (pg_name (i := 8) scLRank.nd rfl (.inl rfl)) (pss_one (ps_set (i := 6) scLRank.nd rfl (.inl rfl) (pe_op op_add (pe_op op_mul (pv 6) (pv 0)) (pv 8)))))
        (pss_one (ps_set (i := 6) scLRank.nd rfl (.inl rfl) (pe_op op_sub (pe_op op_add (pe_op op_mul (pv 6) (pe_op op_sub (pv 0) pe_int)) (pe_ix ix_tup (pv 7) (pe_un un_neg pe_int) (fun _ _ => rfl))) pe_int)))))
      (pss_cons (ps_for PassesOwn.never rfl (pi_tup (pv 5)) (pg_name (i := 9) scLRank.nd rfl (.inl rfl)) (pss_one (ps_set (i := 6) scLRank.nd rfl (.inl rfl) (pe_op op_add (pe_op op_mul (pv 6) (pv 0)) (pv 9)))))
      (pss_one (ps_ret (pv 6))))))), ?_⟩
    obtain ⟨start, ts, bs, p, t, h1, h2, h3, h4⟩ := hP
    have nums : start = .int ((sN st : Nat) - 1 : Int) ∧ ts = iv (tsN st).reverse ∧ bs.length = st.length ∧ ∀ {i : Nat} {v : V}, bs[i]? = some v → ∃ (a : Addr) (o : Option (El q)) (g : Po q), v = .ref a ∧ st.drop (st.length - (i + 1)) = (o, g) :: st.drop (st.length - i) ∧ SqT K H a (vns g) ∧ (o, g) ∈ st := by
      rcases h4 with ⟨e1, e2, e3, e4⟩ | ⟨e1, e2⟩
      · rw [e1, e2, e3, e4]
        refine ⟨rfl, rfl, rfl, fun {i v} h => ?_⟩
        cases h
      · obtain ⟨k1, k2⟩ := stk_head gd e2
        exact ⟨k1, k2, e2.len.2, fun {i v} h => stk_at e2 h⟩
    obtain ⟨n1, n2, n3, n4⟩ := nums
    subst n1 n2
    refine ⟨.ref c, rfl, c, _, rfl, h1, rfl, _, [_, _, _], rfl, _, [_, _], rfl, _, [_], rfl, _, [], rfl, rfl, ?_⟩
    show Ends.nx _ [some (.int q), some (.ref c), some (.str "straight"), some (.int ((sN st : Nat) - 1 : Int)), some (.ref p), some (.ref t), none, none, none, none] H
    dsimp only []
    refine ⟨_, rfl, _, _, rfl, rfl, ?_⟩
    have e0 : ((sN st : Nat) - 1 : Int) + 1 = (sN st : Nat) := by omega
    show Ends.nx _ [some (.int q), some (.ref c), some (.str "straight"), some (.int ((sN st : Nat) - 1 : Int)), some (.ref p), some (.ref t), some (.int (((sN st : Nat) - 1 : Int) + 1)), none, none, none] H
    dsimp only []
    rw [e0]
    refine ⟨.ref p, rfl, p, rfl, ⟨_, h2⟩, for_tup (K := K) (D := { nx := _, rt := _ }) (a := p) (xs := bs) (fun i σ H' => Same H H' ∧ ∃ y7 y8, σ = [some (.int q), some (.ref c), some (.str "straight"), some (.int ((sN st : Nat) - 1 : Int)), some (.ref p), some (.ref t), some (.int (enB q (bsN (st.drop (st.length - i))) (sN st) : Nat)), y7, y8, none]) ⟨fun _ _ e => e, none, none, ?_⟩ (fun i σ H' _ hW => BP.Same.tupS hW.1 h2) (fun i x σ H' hi hW => ?_) (fun σ H' hW => ?_)⟩
    · rw [Nat.sub_zero, List.drop_length]
      rfl
    · obtain ⟨s2, y7, y8, rfl⟩ := hW
      obtain ⟨a, o, g, rfl, e1, hg, hm⟩ := n4 hi
      have gB := good_all gd _ hm
      have hg2 := BP.Same.tupS s2 hg
      have g3 : 3 ≤ g.length := isB_len gB
      obtain ⟨mids, y, ec, lm, ea, y0, val⟩ := bend_facts gB
      have ee : enB q (bsN (st.drop (st.length - (i + 1)))) (sN st) = enB q (bsN (st.drop (st.length - i))) (sN st) * Cnt.bds q (g.length - 1) + bNum q (g.map El.val) := by
        rw [e1]
        show enB q (g.map El.val :: bsN (st.drop (st.length - i))) (sN st) = _
        show enB q (bsN (st.drop (st.length - i))) (sN st) * Cnt.bds q ((g.map El.val).length - 1) + bNum q (g.map El.val) = _
        rw [List.length_map]
      rw [ee, ← val]
      generalize enB q (bsN (st.drop (st.length - i))) (sN st) = R
      refine ⟨.ref a, rfl, 2, rfl, 1, rfl, -1, rfl, a, vns g, rfl, hg2, ?_, fun p2 np => ?_⟩
      · rintro ⟨z, _⟩
        rw [List.length_map] at z
        rw [show HT.sIx g.length 0 (some 2) = min 2 g.length from HT.sIx_nat _ _ 2] at z
        omega
      rw [ec]
      have s3 : Same H' (upd H' p2 (.tup (iv mids))) := same_new np
      have hg3 := BP.Same.tupS s3 hg2
      refine ⟨p2, rfl, ⟨_, .inl (.inl upd_same)⟩, for_tup (K := K) (D := { nx := _, rt := _ }) (a := p2) (xs := iv mids) (fun i σ H'' => H'' = upd H' p2 (.tup (iv mids)) ∧ ∃ y8, σ = [some (.int q), some (.ref c), some (.str "straight"), some (.int ((sN st : Nat) - 1 : Int)), some (.ref p), some (.ref t), some (.int (hor q R (mids.take i) : Nat)), some (.ref a), y8, none]) ⟨rfl, y8, rfl⟩ (fun i σ H'' _ hW => ?_) (fun i x σ H'' hi hW => ?_) (fun σ H'' hW => ?_)⟩
      · rw [hW.1]
        exact .inl (.inl upd_same)
      · obtain ⟨rfl, y9, rfl⟩ := hW
        obtain ⟨d, ed, rfl⟩ := iv_get hi
        have et : mids.take (i + 1) = mids.take i ++ [d] := by
          rw [List.take_add_one, ed]
          rfl
        refine (nl_add (nl_mul (yl_var (i := 6) rfl) (yl_var (i := 0) rfl) (by omega)) (yl_var (i := 8) rfl)) _ ?_
        refine ⟨rfl, some (.int (d : Nat)), ?_⟩
        rw [et, hor_snoc]
        rfl
      · obtain ⟨rfl, y9, rfl⟩ := hW
        rw [show (iv mids).length = mids.length from List.length_map .., List.take_of_length_le (Nat.le_refl _)]
        refine (nl_sub (n := hor q R mids * (q - 1) + y.val) (m := 1) (nl_add (nl_mul (n := hor q R mids) (m := q - 1) (yl_var (i := 6) rfl) (nl_sub (n := q) (m := 1) (yl_var (i := 0) rfl) yl_c (by omega)) (by omega)) (fun Q2 k2 => ⟨.ref a, rfl, 1, rfl, a, vns g, -1, vn y, rfl, rfl, hg3, ea, k2⟩)) yl_c (by omega)) _ ?_
        exact ⟨s2.trans s3, some (.ref a), y9, rfl⟩
    obtain ⟨s2, y7, y8, rfl⟩ := hW
    rw [n3, Nat.sub_self, List.drop_zero]
    have h3' := BP.Same.tupS s2 h3
    refine ⟨.ref t, rfl, t, rfl, ⟨_, h3'⟩, for_tup (K := K) (D := { nx := _, rt := _ }) (a := t) (xs := iv (tsN st).reverse) (fun i σ H'' => H'' = H' ∧ ∃ y9, σ = [some (.int q), some (.ref c), some (.str "straight"), some (.int ((sN st : Nat) - 1 : Int)), some (.ref p), some (.ref t), some (.int (hor q (enB q (bsN st) (sN st)) ((tsN st).reverse.take i) : Nat)), y7, y8, y9]) ⟨rfl, none, rfl⟩ (fun i σ H'' _ hW => by rw [hW.1]; exact h3') (fun i x σ H'' hi hW => ?_) (fun σ H'' hW => ?_)⟩
    · obtain ⟨rfl, y9, rfl⟩ := hW
      obtain ⟨d, ed, rfl⟩ := iv_get hi
      have et : (tsN st).reverse.take (i + 1) = (tsN st).reverse.take i ++ [d] := by
        rw [List.take_add_one, ed]
        rfl
      refine (nl_add (nl_mul (yl_var (i := 6) rfl) (yl_var (i := 0) rfl) (by omega)) (yl_var (i := 9) rfl)) _ ?_
      refine ⟨rfl, some (.int (d : Nat)), ?_⟩
      rw [et, hor_snoc]
      rfl
    · obtain ⟨rfl, y9, rfl⟩ := hW
      have er : hor q (enB q (bsN st) (sN st)) ((tsN st).reverse.take (iv (tsN st).reverse).length) = nRk st := by
        rw [show (iv (tsN st).reverse).length = (tsN st).reverse.length from List.length_map .., List.take_of_length_le (Nat.le_refl _), hor_rev]
        rfl
      rw [er]
      exact ⟨_, rfl, want _ s2⟩
end
end K13
set_option Elab.async false
set_option linter.all false
set_option maxRecDepth 100000
set_option maxHeartbeats 400000
set_option pp.maxSteps 2000
namespace BP
open PySem PySem.Spec PyProof.Rows L2 Fld
section
variable {q : Nat} [FF : IsF q] {K : PySem.W.Frag} {H : Hp}
theorem eqv_fs : ∀ (fs : List (Po q)), PyData.eqv (.tuple (fs.map tpd)) (.tuple []) = fs.isEmpty
  | [] => by simp [PyData.eqv, PyData.eqvAll]
  | _ :: _ => by simp [PyData.eqv, PyData.eqvAll]
/-- a place: bent or not, start, turns, bends -/
abbrev Pl (q : Nat) [IsF q] := Bool × Option (El q) × Po q × List (Po q)
def PA (K : PySem.W.Frag) (H : Hp) (c : Addr) (x : Pl q) : Prop := PlAt K H c x.1 x.2.1 x.2.2.1 x.2.2.2
def PO (x : Pl q) : Prop := PlOk x.1 x.2.1 x.2.2.1 x.2.2.2
def Pl.dep (x : Pl q) : Nat := 2 * x.2.2.2.length + (if x.1 then 1 else 0)
def ahP (x : Pl q) : Pl q := (!x.1, ahO x.1 x.2.1 x.2.2.2, ahU x.1 x.2.2.1, ahF x.1 x.2.2.2)
def itP : Nat → Pl q → Pl q
  | 0, x => x
  | n + 1, x => itP n (ahP x)
theorem itP_succ : ∀ (n : Nat) (x : Pl q), itP (n + 1) x = ahP (itP n x)
  | 0, _ => rfl
  | n + 1, x => itP_succ n (ahP x)
theorem PA.kept {H' : Hp} {c : Addr} {x : Pl q} (h : PA K H c x) (s : Same H H') : PA K H' c x := PlAt.kept h s
theorem dep_pos {x : Pl q} : 0 < Pl.dep x ↔ (x.1 = true ∨ x.2.2.2 ≠ []) := by
  obtain ⟨b, o, us, fs⟩ := x
  unfold Pl.dep
  cases b <;> cases fs <;> simp
theorem dep_ah {x : Pl q} (h : 0 < Pl.dep x) : Pl.dep (ahP x) = Pl.dep x - 1 := by
  have h2 := dep_pos.mp h
  obtain ⟨b, o, us, fs⟩ := x
  unfold Pl.dep ahP ahF
  cases b with
  | true => simp
  | false =>
    have f0 : fs ≠ [] := h2.resolve_left (by simp)
    have := List.length_pos_iff.mpr f0
    simp only [Bool.false_eq_true, if_false, Bool.not_false, if_true, List.length_dropLast]
    omega
theorem ok_ah {x : Pl q} (h : PO x) (d : 0 < Pl.dep x) : PO (ahP x) := by
  have h2 := dep_pos.mp d
  obtain ⟨b, o, us, fs⟩ := x
  cases b with
  | true =>
    have hb : us.length = fs.length := h.bent rfl
    refine ⟨h.fB, h.lf, (fun z => nomatch z), fun _ => ⟨?_, fun z => ?_⟩⟩
    · show us.dropLast.length = fs.length - 1
      rw [List.length_dropLast, hb]
    · show ahO true o fs = none
      exact if_pos ⟨rfl, z⟩
  | false =>
    have f0 : fs ≠ [] := h2.resolve_left (by simp)
    have hs := (h.str rfl).1
    have hs : us.length = fs.length - 1 := hs
    refine ⟨fun f hf => h.fB f (List.dropLast_subset _ hf), ?_, fun _ => ?_, fun z => nomatch z⟩
    · have := h.lf
      show fs.dropLast.length ≤ 200
      rw [List.length_dropLast]
      have : fs.length ≤ 200 := h.lf
      omega
    · show us.length = fs.dropLast.length
      rw [List.length_dropLast, hs]
theorem dep_it : ∀ (n : Nat) {x : Pl q}, n ≤ Pl.dep x → Pl.dep (itP n x) = Pl.dep x - n
  | 0, _, _ => rfl
  | n + 1, x, h => by
    have h1 := dep_ah (x := x) (by omega)
    show Pl.dep (itP n (ahP x)) = _
    rw [dep_it n (by omega), h1]
    omega
theorem ok_it : ∀ (n : Nat) {x : Pl q}, PO x → n ≤ Pl.dep x → PO (itP n x)
  | 0, _, h, _ => h
  | n + 1, x, h, d => by
    have h1 := dep_ah (x := x) (by omega)
    exact ok_it n (ok_ah h (by omega)) (by omega)
theorem fs_kep {H' : Hp} (s : ∀ a xs, SqT K H a xs → SqT K H' a xs) : ∀ {vs : List V} {fs : List (Po q)}, FsAt K H vs fs → FsAt K H' vs fs
  | [], [], _ => True.intro
  | _ :: _, _ :: _, ⟨⟨a, e, h⟩, k⟩ => ⟨⟨a, e, s _ _ h⟩, fs_kep s k⟩
  | [], _ :: _, h => h.elim
  | _ :: _, [], h => h.elim
theorem PA.kep {H' : Hp} {c : Addr} {x : Pl q} (h : PA K H c x) (s : ∀ a xs, SqT K H a xs → SqT K H' a xs) : PA K H' c x := by
  obtain ⟨bs, p, t, h1, h2, h3, h4⟩ := h
  exact ⟨bs, p, t, s _ _ h1, s _ _ h2, fs_kep s h3, s _ _ h4⟩
/-- the chain, from a place to the root -/
def ChAt (K : PySem.W.Frag) (H : Hp) (as : List Addr) (x : Pl q) : Prop := ∀ (j : Nat) (a : Addr), as[j]? = some a → PA K H a (itP j x)
end
def spLCh (K : PySem.W.Frag) : Sp := fun vs H Q _ => ∃ (q : Nat) (_ : IsF q) (c : Addr) (x : Pl q), vs = [.ref c] ∧ PA K H c x ∧ PO x ∧ ∀ (l : Addr) (H' : Hp) (as : List Addr), Same H H' → H l = none → H' l = some (.lst (as.map V.ref)) → as.length = Pl.dep x + 1 → ChAt K H' as x → Q (.ref l) H'
end BP
namespace K13
open PySem PySem.Spec PyProof.Rows L2 BP Fld
section
variable {P : Program} {w : World} {K : PySem.W.Frag} {mg : Str → Option Value} {base : Heap}
theorem ok_ldep {f : Addr} {fd : FuncData} (F : Fun K "_law_depth" "_law_depth" sLDepth f fd) (m_len : mg "len" = none) (m_int : mg "int" = none) : FnOk P w K mg base CX0 1 f fd pLDepth (spPDp K) := by
  refine F.ok scLDepth (fun vs H Q E h => ?_) (fun cdv A outer s H vs Q E hr h => ?_)
  · obtain ⟨q, _, c, b, o, us, fs, rfl, _⟩ := h
    rfl
  · obtain ⟨q, FF, c, b, o, us, fs, rfl, ⟨bs, p, t, hc, hb, hF, ht⟩, ok, want⟩ := h
    have lb := hF.len
    have lf := ok.lf
    refine ⟨_, (pss_one (ps_ret (pe_op op_add (pe_op op_mul pe_int (pe_callB call_len_seq (by rfl) m_len PySem.boot_len (pa_cons (pe_ix ix_tup (pv 0) pe_int (fun _ _ => rfl)) pa_nil))) (pe_callTy call_int1 (by rfl) m_int (by decide +kernel) (pa_cons (pe_cmpR op_eq (pe_ix ix_tup (pv 0) pe_int (fun _ _ => rfl)) pe_str (nomark _)) pa_nil))))), ?_⟩
    have num : ((2 : Int) * ((bs.length : Nat) : Int)) = ((2 * fs.length : Nat) : Int) := by
      rw [lb]
      omega
    refine ⟨.ref c, rfl, c, _, 2, .ref p, rfl, rfl, hc, rfl, p, _, rfl, .inr hb, 2, _, rfl, rfl, .inl ⟨by omega, by omega⟩, .ref c, rfl, c, _, 0, .str (sortS b), rfl, rfl, hc, rfl, ?_⟩
    refine ⟨rfl, .inr ⟨_, rfl, ?_⟩⟩
    cases b with
    | false =>
      rw [decide_eq_false (show ¬ V.str (sortS false) = V.str "bent" from fun z => absurd (V.str.inj z) (by decide +kernel))]
      refine ⟨_, _, rfl, rfl, ?_⟩
      show Q (V.int (2 * ((bs.length : Nat) : Int) + 0)) H
      rw [num]
      exact want
    | true =>
      rw [decide_eq_true (show V.str (sortS true) = V.str "bent" from rfl)]
      refine ⟨_, _, rfl, rfl, ?_⟩
      show Q (V.int (2 * ((bs.length : Nat) : Int) + 1)) H
      rw [num]
      exact want
theorem ok_lah {f : Addr} {fd : FuncData} (F : Fun K "_law_ahead" "_law_ahead" sLAhead f fd) : FnOk P w K mg base CX0 1 f fd pLAhead (spPAh K) := by
  refine F.ok scLAhead (fun vs H Q E h => ?_) (fun cdv A outer s H vs Q E hr h => ?_)
  · obtain ⟨q, _, c, b, o, us, fs, rfl, _⟩ := h
    rfl
  · obtain ⟨q, FF, c, b, o, us, fs, rfl, hP, ok, nr, want⟩ := h
    obtain ⟨bs, p, t, hc, hb, hF, ht⟩ := hP
    have lb := hF.len
    refine ⟨_, (pss_cons (ps_asg (pv 0) (pg_tup rfl (pgs_cons (pg_name (i := 1) scLAhead.nd rfl (.inl rfl)) (pgs_cons (pg_name (i := 2) scLAhead.nd rfl (.inl rfl)) (pgs_cons (pg_name (i := 3) scLAhead.nd rfl (.inl rfl)) (pgs_cons (pg_name (i := 4) scLAhead.nd rfl (.inl rfl)) pgs_nil))))))
      (pss_cons (ps_if (pt_cmpR op_eq (pv 1) pe_str (nomark _)) (pss_one (ps_ret (pe_tup (pa_cons pe_str (pa_cons (pv 2) (pa_cons (pe_slice sl_tupA (pv 3) po_none (po_some (pe_un un_neg pe_int))) (pa_cons (pv 4) pa_nil))))))) pss_nil)
      (pss_one (ps_ret (pe_tup (pa_cons pe_str (pa_cons (pe_ifExp (pt_cmpR (op_eqD hr.units) (pv 3) (pe_tup pa_nil) (nomark _)) (pe_un un_neg pe_int) (pv 2)) (pa_cons (pv 3) (pa_cons (pe_slice sl_tupA (pv 4) po_none (po_some (pe_un un_neg pe_int))) pa_nil))))))))), ?_⟩
    refine ⟨.ref c, rfl, c, _, rfl, hc, rfl, _, [_, _, _], rfl, _, [_, _], rfl, _, [_], rfl, _, [], rfl, rfl, ?_⟩
    cases b with
    | false =>
      refine ⟨_, rfl, rfl, true, rfl, iteT ?_⟩
      refine ⟨_, rfl, .ref p, rfl, ?_⟩
      dsimp only [tNoPart]
      refine ⟨1, rfl, -1, rfl, ?_⟩
      refine dlA (K := K) hb fun r H1 s1 hr1 => ?_
      refine ⟨.ref t, rfl, (by show 4 ≤ sizeLine; decide), fun r2 n2 => want r2 _ (s1.trans (same_new n2)) ?_⟩
      have s2 := s1.trans (same_new (o := .tup [V.str "bent", ov o, .ref r, .ref t]) n2)
      exact ⟨bs.dropLast, r, t, .inl (.inl upd_same), BP.Same.tupS (same_new n2) hr1, (hF.kept s2).dl, BP.Same.tupS s2 ht⟩
    | true =>
      refine ⟨_, rfl, rfl, false, by rw [decide_eq_false (fun z => absurd (V.str.inj z) (by decide +kernel))], iteF ?_⟩
      have hD : ∀ {H2 : Hp}, Same H H2 → Dp K H2 (.ref p) (.tuple (fs.map tpd)) := fun s => .tup (BP.Same.tupS s hb) (fs_dp (hF.kept s))
      have sh : SeqAt.shaped (.tuple (fs.map tpd)) = true := by
        have s := Sm.tup (sm_fs ok.fB)
        have := ok.lf
        unfold SeqAt.shaped
        rw [s.lay, Bool.true_and]
        exact decide_eq_true (Nat.le_trans s.dep (by decide))
      refine ⟨.ref p, rfl, Nat.zero_le _, fun e0 n0 => ⟨_, .tuple [], hD (same_new n0), .tup (.inl (.inl upd_same)) .nil, sh, shaped_natsT [], _, rfl, ?_⟩⟩
      rw [eqv_fs]
      have s0 := same_new (o := .tup ([] : List V)) n0
      have k1 : fs.isEmpty = decide (fs = []) := by cases fs <;> rfl
      generalize upd H e0 (.tup ([] : List V)) = H0 at s0 ⊢
      have ht0 := BP.Same.tupS s0 ht
      have fin : ∀ (r : Addr) (H1 : Hp), Same H0 H1 → SqT K H1 r (vns us).dropLast → ∀ (v : V), v = ov (ahO true o fs) → ∀ r2, H1 r2 = none → Q (.ref r2) (upd H1 r2 (.tup [V.str "straight", v, .ref p, .ref r])) := by
        intro r H1 s1 hr1 v ev r2 n2
        subst ev
        have s2 := (s0.trans s1).trans (same_new (o := .tup [V.str "straight", ov (ahO true o fs), .ref p, .ref r]) n2)
        refine want r2 _ s2 ⟨bs, p, r, .inl (.inl upd_same), BP.Same.tupS s2 hb, hF.kept s2, ?_⟩
        have e : vns (ahU true us) = (vns us).dropLast := List.map_dropLast ..
        rw [e]
        exact BP.Same.tupS (same_new n2) hr1
      refine ite2 (fun he => ?_) (fun he => ?_)
      · have f0 : fs = [] := by simpa using he
        refine ⟨1, rfl, .ref p, rfl, .ref t, rfl, ?_⟩
        dsimp only [tNoPart]
        refine ⟨1, rfl, -1, rfl, ?_⟩
        refine dlA (K := K) ht0 fun r H1 s1 hr1 => ?_
        exact ⟨(by show 4 ≤ sizeLine; decide), fun r2 n2 => fin r H1 s1 hr1 _ (by rw [f0]; rfl) r2 n2⟩
      · have f0 : fs ≠ [] := by simpa using he
        refine ⟨_, rfl, .ref p, rfl, .ref t, rfl, ?_⟩
        dsimp only [tNoPart]
        refine ⟨1, rfl, -1, rfl, ?_⟩
        refine dlA (K := K) ht0 fun r H1 s1 hr1 => ?_
        exact ⟨(by show 4 ≤ sizeLine; decide), fun r2 n2 => fin r H1 s1 hr1 _ (by rw [show ahO true o fs = o from if_neg (fun z => f0 z.2)]) r2 n2⟩
theorem ok_lch {f fD fA : Addr} {fd fdD fdA : FuncData} (F : Fun K "_law_chain" "_law_chain" sLChain f fd) (DP : BP.Can P w K mg base "_law_depth" 1 pLDepth (spPDp K) fD fdD) (AH : BP.Can P w K mg base "_law_ahead" 1 pLAhead (spPAh K) fA fdA) (m_range : mg "range" = none) : FnOk P w K mg base CX0 2 f fd pLChain (spLCh K) := by
  refine F.ok scLChain (fun vs H Q E h => ?_) (fun cdv A outer s H vs Q E hr h => ?_)
  · obtain ⟨q, _, c, x, rfl, _⟩ := h
    rfl
  · obtain ⟨q, FF, c, x, rfl, hP, ok, want⟩ := h
    refine ⟨_, (pss_cons (ps_set (i := 1) scLChain.nd rfl (.inl rfl) (pe_lst (pa_cons (pv 0) pa_nil)))
      (pss_cons (ps_for PassesOwn.never rfl (pi_range1 rfl m_range (pa_cons (pe_call DP.ok hr (by rfl) DP.g DP.kp DP.b .nil pass0 (pa_cons (pv 0) pa_nil)) pa_nil)) (pg_name (i := 2) scLChain.nd rfl (.inl rfl)) (pss_one (ps_expr (pe_bm PySem.F.plainAttrs_list PySem.F.slot_list_append PySem.F.type_list_append mt_append (pv 1) (pa_cons (pe_call AH.ok hr (by rfl) AH.g AH.kp AH.b .nil pass0 (pa_cons (pe_ix ix_list (pv 1) (pe_un un_neg pe_int) (fun _ _ => rfl)) pa_nil)) pa_nil)))))
      (pss_one (ps_ret (pv 1))))), ?_⟩
    refine ⟨.ref c, rfl, (by show 1 ≤ sizeLine; decide), fun l nl => ?_⟩
    show Ends.nx _ [some (.ref c), some (.ref l), none] _
    dsimp only []
    have s0 := same_new (o := .lst [V.ref c]) nl
    have hP0 := PA.kept hP s0
    refine ⟨.ref c, rfl, q, FF, c, _, _, _, _, rfl, hP0, ok, ?_⟩
    rw [show (2 * x.2.2.2.length + (if x.1 = true then 1 else 0)) = Pl.dep x from rfl]
    have hn : Pl.dep x ≤ 401 := by
      have : x.2.2.2.length ≤ 200 := ok.lf
      unfold Pl.dep
      split <;> omega
    obtain ⟨n, en⟩ : ∃ n, n = Pl.dep x := ⟨_, rfl⟩
    rw [← en] at hn ⊢
    refine ⟨_, rfl, by omega, by omega, ?_⟩
    rw [Int.toNat_natCast]
    refine for_range (n := n) (lo := 0) (fun i σ H' => Same H H' ∧ ∃ (as : List Addr) (a : Addr) (y : Option V), H' l = some (.lst ((as ++ [a]).map V.ref)) ∧ as.length = i ∧ ChAt K H' (as ++ [a]) x ∧ σ = [some (.ref c), some (.ref l), y]) ⟨s0, [], c, none, upd_same, rfl, fun j a h => ?_, rfl⟩ (fun i σ H' hi hW => ?_) (fun σ H' hW => ?_)
    · match j, h with
      | 0, h => exact Option.some.inj h ▸ hP0
    · obtain ⟨s1, as, a, y, hl, la, hC, rfl⟩ := hW
      have hPa : PA K H' a (itP i x) := hC i a (by rw [List.getElem?_append_right (by omega), la, Nat.sub_self]; rfl)
      have oki := ok_it i ok (by omega)
      have dpi := dep_it i (x := x) (by omega)
      refine ⟨.ref l, rfl, .inl ⟨rfl, _, .inl (.inl hl)⟩, .ref l, rfl, 1, rfl, l, _, -1, .ref a, rfl, rfl, .inl (.inl hl), ?_, q, FF, a, _, _, _, _, rfl, hPa, oki, dep_pos.mp (by omega), fun r H2 s2 hr => ?_⟩
      · rw [List.map_append]
        exact atI_last _ _
      have hl2 := s2 _ _ hl
      refine ⟨l, _, _, rfl, rfl, hl2, ?_, ?_⟩
      · rw [List.length_map, List.length_append, la]
        exact Nat.lt_of_lt_of_le (show i + 1 < 1000 by omega) (by decide)
      · refine ⟨same_put (s1.trans s2) nl, as ++ [a], r, some (.int (0 + (i : Int))), ?_, ?_, fun j b hj => ?_, rfl⟩
        · rw [upd_same, show ((as ++ [a] ++ [r]).map V.ref) = (as ++ [a]).map V.ref ++ [V.ref r] from List.map_append ..]
        · rw [List.length_append, la]
          rfl
        · refine PA.kep (H := H2) ?_ (fun _ _ => put_tup hl2)
          by_cases hj2 : j < (as ++ [a]).length
          · rw [List.getElem?_append_left hj2] at hj
            exact (hC j b hj).kept s2
          · have ll : (as ++ [a]).length = i + 1 := by rw [List.length_append, la]; rfl
            have hj3 : j = i + 1 := by
              have := (List.getElem?_eq_some_iff.mp hj).1
              rw [List.length_append, List.length_singleton] at this
              omega
            subst hj3
            rw [List.getElem?_append_right (by omega), ll, Nat.sub_self] at hj
            rw [← Option.some.inj hj, itP_succ]
            exact hr
    · obtain ⟨s1, as, a, y, hl, la, hC, rfl⟩ := hW
      refine ⟨_, rfl, want l H' (as ++ [a]) s1 nl hl ?_ hC⟩
      rw [List.length_append, la, en]
      rfl
end
end K13
set_option Elab.async false
set_option linter.all false
set_option maxRecDepth 100000
set_option maxHeartbeats 400000
set_option pp.maxSteps 3000
namespace BP
open PySem PySem.Spec PyProof.Rows L2 Fld
/-- plain data with great numbers -/
structure Sw (d : PyData) (w k : Nat) : Prop where
  lay : d.canLay0 = true
  sh : d.showable = true
  short : d.intsShort 130 = true
  dep : d.depth ≤ k
  wt : d.weight ≤ w
theorem sw_int {i : Int} (h : i.natAbs < 10 ^ 120) : Sw (.int i) 1000 0 := by
  have l5 : i.natAbs.log2 ≤ 420 := by
    by_cases h0 : i.natAbs = 0
    · rw [h0]
      decide
    · have := (Nat.log2_lt h0 (k := 420)).mpr (Nat.lt_of_lt_of_le h (by decide))
      omega
  refine ⟨by simp [PyData.canLay0], ?_, ?_, by simp [PyData.depth], ?_⟩
  · simp only [PyData.showable]
    exact decide_eq_true (by omega)
  · simp only [PyData.intsShort]
    refine decide_eq_true ?_
    have e := PySem.int_text_length_le10 (k := 120) (by decide) h
    show (Str.ofString (toString i)).length ≤ 130
    rw [PySem.ofString_length]
    omega
  · simp only [PyData.weight]
    split <;> omega
theorem sw_two {x y : Nat} (hx : x < 10 ^ 120) (hy : y < 10 ^ 120) : Sw (.tuple [.int (x : Nat), .int (y : Nat)]) 3000 1 := by
  have a := sw_int (i := (x : Int)) (by omega)
  have b := sw_int (i := (y : Int)) (by omega)
  obtain ⟨a1, a2, a3, a4, a5⟩ := a
  obtain ⟨b1, b2, b3, b4, b5⟩ := b
  refine ⟨by simp [PyData.canLay0, PyData.canLayAll0], by simp [PyData.showable, PyData.showableAll] at a2 b2 ⊢; exact ⟨a2, b2⟩, by simp [PyData.intsShort, PyData.intsShortAll] at a3 b3 ⊢; exact ⟨a3, b3⟩, ?_, ?_⟩
  · simp [PyData.depth, PyData.depthAll]
  · simp only [PyData.weight, PyData.weightAll] at a5 b5 ⊢
    omega
theorem rRepr_ofW {K : PySem.W.Frag} {H : Hp} {a : Addr} {d : PyData} {w k : Nat} {Q : VK} (h : Dp K H (.ref a) d) (s : Sw d w k) (hk : k ≤ 40) (hw : w ≤ 5000) (q : Q (.str d.shown) H) : rRepr K [.ref a] H Q := by
  refine ⟨a, d, rfl, h, s.sh, PyData.hasDict_of_canLay d s.lay, Nat.le_trans s.dep hk, ?_, q⟩
  have l := PyData.shown_le 130 (by decide) d (PyData.leavesShort_of_canLay0 130 d s.lay s.short)
  have w1 := s.wt
  exact Nat.le_trans l (Nat.le_trans (show (130 + 2) * d.weight + 130 ≤ 1000000 by omega) (by decide))
theorem rNe_sam {s : Str} {H : Hp} {Q : VK} (k : Q (.bl false) H) : rNe (.str s) (.str s) H Q := by
  refine ⟨rfl, ?_⟩
  rw [decide_eq_true (rfl : V.str s = V.str s)]
  exact k
section
variable {q : Nat} [FF : IsF q]
theorem dgV_iv {st : List (Option (El q) × Po q)} (h : ∀ x ∈ st, 1 ≤ x.2.length) : dgV st = iv ((st.map fun x => x.2.length - 1).reverse) := by
  unfold dgV
  show _ = List.map _ _
  rw [List.map_reverse, List.map_map]
  congr 1
  refine List.map_congr_left fun x hx => ?_
  have := h x hx
  show V.int ((x.2.length : Nat) - 1 : Int) = V.int ((x.2.length - 1 : Nat) : Int)
  rw [Int.ofNat_sub this]
  rfl
theorem sm_nats {ds : List Nat} (h : ∀ d ∈ ds, d < 32) : Sm (datT ds) (7 * ds.length) 1 := by
  have e : datT ds = .tuple ((ds.map fun (n : Nat) => (n : Int)).map PyData.int) := by
    rw [List.map_map]
    rfl
  have s := sm_is (ds.map fun (n : Nat) => (n : Int)) (fun x hx => by
    obtain ⟨d, hd, rfl⟩ := List.mem_map.mp hx
    have := h d hd
    omega)
  rw [List.length_map] at s
  rw [e]
  exact Sm.tup s
end
theorem pB_le {q : Nat} (h0 : 0 < q) (h : q ≤ 16) : ∀ {ds : List Nat}, (∀ d ∈ ds, d ≤ 6) → pB q ds ≤ (2 ^ 20) ^ ds.length
  | [], _ => Nat.le_refl _
  | d :: ds, hd => by
    have a := pB_le h0 h (ds := ds) fun x hx => hd x (List.mem_cons_of_mem _ hx)
    have b := Cnt.bds_le h0 h (hd d (List.mem_cons_self ..))
    rw [List.length_cons, Nat.pow_succ]
    exact Nat.mul_le_mul a b
theorem mP_le {q : Nat} (h0 : 0 < q) (h : q ≤ 16) {ds : List Nat} (hd : ∀ d ∈ ds, d ≤ 6) (hl : ds.length ≤ 12) : mP q ds ≤ 17 * 16 ^ 11 * (2 ^ 20) ^ 12 := by
  unfold mP
  split
  · decide
  · have a := Nat.le_trans (pB_le h0 h hd) (Nat.pow_le_pow_right (show 0 < 2 ^ 20 by decide) hl)
    have b : q ^ (ds.length - 1) ≤ 16 ^ 11 := Nat.le_trans (Nat.pow_le_pow_left h _) (Nat.pow_le_pow_right (by decide) (by omega))
    exact Nat.mul_le_mul (Nat.mul_le_mul (by omega) b) a
def spInB (K : PySem.W.Frag) : Sp := fun vs H Q _ => ∃ (q : Nat) (_ : IsF q) (a : Addr) (ds : List Nat) (m n : Nat), vs = [.int q, .ref a, .int m, .int n, .int (Cnt.strt q : Nat)] ∧ Dgs K H a ds ∧ m < mP q ds.reverse ∧ n < Cnt.strt q ∧ ∀ H', Same H H' → Q (.bl true) H'
end BP
namespace K13
open PySem PySem.Spec PyProof.Rows L2 BP Fld
section
variable {P : Program} {w : World} {K : PySem.W.Frag} {mg : Str → Option Value} {base : Heap}
theorem ok_inb {f fA fO fD fN fSp fZ fR : Addr} {fd fdA fdO fdD fdN fdS fdZ fdR : FuncData} (F : Fun K "_law_in_block" "_law_in_block" sLInBlock f fd) (STA : BP.Can P w K mg base "step_at" 5 pStepAt (spStAt K) fA fdA) (PLO : BP.Can P w K mg base "place_of" 8 pPlaceOf (spPOf K) fO fdO) (DGS : BP.Can P w K mg base "degrees_of" 8 pDegreesOf (spDgs K) fD fdD)
    (STN : BP.Can P w K mg base "step_number" 8 pStepNumber (spStNum K) fN fdN) (SOP : BP.Can P w K mg base "step_of_place" 8 pStepOfPlace (spSoP K) fSp fdS) (NO : BP.Can P w K mg base "nothing" 1 pNothing (spNo K) fZ fdZ) (RK : BP.Can P w K mg base "_law_rank" 1 pLRank (spRk K) fR fdR)
    (kb_step_number : KBinds K fdN pStepNumber ["step", "q"] sw2 sw2) (m_repr : mg "repr" = none) : GFn P w K mg base 9 f fd pLInBlock (spInB K) := by
  refine gok F scLInBlock (fun vs H Q E h => ?_) (fun cdv A outer s H vs Q E hgd hr h => ?_)
  · obtain ⟨q, _, a, ds, m, n, rfl, _⟩ := h
    rfl
  · obtain ⟨q, FF, a, ds, m, n, rfl, hD, hm, hn, want⟩ := h
    have hrSTA := hr.mono (show 5 ≤ 8 by decide)
    have hrPLO := hr.mono (show 8 ≤ 8 by decide)
    have hrDGS := hr.mono (show 8 ≤ 8 by decide)
    have hrSTN := hr.mono (show 8 ≤ 8 by decide)
    have hrSOP := hr.mono (show 8 ≤ 8 by decide)
    have hrNO := hr.mono (show 1 ≤ 8 by decide)
    have hrRK := hr.mono (show 1 ≤ 8 by decide)
    refine ⟨_, (pss_cons (ps_set (i := 5) scLInBlock.nd rfl (.inl rfl) (pe_call STA.ok hrSTA (by rfl) STA.g STA.kp STA.b .nil pass0 (pa_cons (pv 0) (pa_cons (pv 1) (pa_cons (pe_op op_add (pe_op op_mul (pv 2) (pv 4)) (pv 3)) pa_nil)))))
      (pss_cons (ps_set (i := 6) scLInBlock.nd rfl (.inl rfl) (pe_call PLO.ok hrPLO (by rfl) PLO.g PLO.kp PLO.b .nil pass0 (pa_cons (pv 0) (pa_cons (pv 5) (pa_cons pe_str pa_nil)))))
      (pss_cons (ps_if (PW.pt (pw_or (pt_cmpR op_ne (pe_callB (call_repr_data hgd hr.units) (by rfl) m_repr (by decide +kernel) (pa_cons (pe_tup (pa_cons (pv 6) (pa_cons (pe_call DGS.ok hrDGS (by rfl) DGS.g DGS.kp DGS.b .nil pass0 (pa_cons (pv 0) (pa_cons (pv 5) pa_nil))) pa_nil))) pa_nil)) (pe_callB (call_repr_data hgd hr.units) (by rfl) m_repr (by decide +kernel) (pa_cons (pe_tup (pa_cons (pe_op op_catT (pe_tup (pa_cons pe_str pa_nil)) (pe_slice sl_tup (pv 5) po_none (po_some pe_int))) (pa_cons (pv 1) pa_nil))) pa_nil)) (nomark _)) (pw_or1 (pt_cmpR op_ne (pe_call RK.ok hrRK (by rfl) RK.g RK.kp RK.b .nil pass0 (pa_cons (pv 0) (pa_cons (pv 6) pa_nil))) (pv 2) (nomark _))))) (pss_one (ps_ret pe_bl)) pss_nil)
      (pss_cons (ps_set (i := 7) scLInBlock.nd rfl (.inl rfl) (pe_tup (pa_cons (pe_call STN.ok hrSTN (by rfl) STN.g STN.kp STN.b .nil pass0 (pa_cons (pv 0) (pa_cons (pv 5) pa_nil))) (pa_cons (pe_callK0 STN.ok hrSTN (by rfl) STN.g STN.kp kb_step_number pass0 (pk_cons (pe_tup (pa_cons (pe_un un_neg pe_int) (pa_cons (pe_tup pa_nil) (pa_cons (pe_tup pa_nil) (pa_cons (pe_ix ix_tup (pv 5) pe_int (fun _ _ => rfl)) pa_nil))))) (pk_cons (pv 0) pk_nil))) pa_nil))))
      (pss_cons (ps_if (pt_cmpR op_ne (pe_callB (call_repr_data hgd hr.units) (by rfl) m_repr (by decide +kernel) (pa_cons (pv 7) pa_nil)) (pe_callB (call_repr_data hgd hr.units) (by rfl) m_repr (by decide +kernel) (pa_cons (pe_tup (pa_cons (pe_op op_add (pe_op op_mul (pv 2) (pv 4)) (pv 3)) (pa_cons (pv 3) pa_nil))) pa_nil)) (nomark _)) (pss_one (ps_ret pe_bl)) pss_nil)
      (pss_cons (ps_set (i := 8) scLInBlock.nd rfl (.inl rfl) (pe_op op_sub (pe_call STN.ok hrSTN (by rfl) STN.g STN.kp STN.b .nil pass0 (pa_cons (pv 0) (pa_cons (pe_call SOP.ok hrSOP (by rfl) SOP.g SOP.kp SOP.b .nil pass0 (pa_cons (pv 0) (pa_cons (pv 6) pa_nil))) pa_nil))) (pe_op op_mul (pv 2) (pv 4))))
      (pss_one (ps_ret (pe_cmpR op_eq (pv 8) (pe_call STN.ok hrSTN (by rfl) STN.g STN.kp STN.b .nil pass0 (pa_cons (pv 0) (pa_cons (pe_call0 NO.ok hrNO (by rfl) NO.g NO.kp NO.b .nil pass0) pa_nil))) (nomark _)))))))))), ?_⟩
    have sl := Cnt_strt_lt FF.mem
    have sp : 0 < Cnt.strt q := by omega
    refine ⟨.int q, rfl, .ref a, rfl, (nl_add (nl_mul (yl_var (i := 2) rfl) (yl_var (i := 4) rfl) sl) (yl_var (i := 3) rfl)) _ ?_⟩
    have eN : (m * Cnt.strt q + n) / Cnt.strt q = m := by
      rw [Nat.mul_comm, Nat.mul_add_div sp, Nat.div_eq_of_lt hn, Nat.add_zero]
    have eM : (m * Cnt.strt q + n) % Cnt.strt q = n := by
      rw [Nat.mul_comm, Nat.mul_add_mod, Nat.mod_eq_of_lt hn]
    have hN : m * Cnt.strt q + n < mP q ds.reverse * Cnt.strt q := by
      have := Nat.mul_le_mul_right (Cnt.strt q) (show m + 1 ≤ mP q ds.reverse from hm)
      rw [Nat.add_mul, Nat.one_mul] at this
      omega
    refine ⟨q, FF, a, ds, m * Cnt.strt q + n, rfl, hD, hN, fun p H1 s1 hz => ?_⟩
    rw [eN, eM] at hz
    have hd : ∀ d ∈ ds.reverse, 2 ≤ d ∧ d ≤ 6 := fun d h => hD.2.1 d (List.mem_reverse.mp h)
    have hl : ds.reverse.length ≤ 12 := by rw [List.length_reverse]; exact hD.2.2
    have ft := zOf_fit (q := q) hd hl hm hn
    have eS := nStep_of (q := q) hd hm hn
    have eR := nRk_of (q := q) hd hm
    have eL := zOf_len (q := q) ds.reverse m n
    have eG := zOf_degs (q := q) hd n hm
    show Ends.nx _ [some (.int q), some (.ref a), some (.int m), some (.int n), some (.int (Cnt.strt q : Nat)), some (.ref p), none, none, none] H1
    dsimp only []
    refine ⟨.int q, rfl, .ref p, rfl, q, FF, p, _, rfl, hz, ft, fun r H2 s2 hr2 => ?_⟩
    show Ends.nx _ [some (.int q), some (.ref a), some (.int m), some (.int n), some (.int (Cnt.strt q : Nat)), some (.ref p), some (.ref r), none, none] H2
    dsimp only []
    have hz2 := hz.kept fun _ _ => BP.Same.tupS s2
    have big : ∀ x ∈ (zOf q ds.reverse m n).st, 1 ≤ x.2.length := fun x hx => by
      have := isB_len (good_all ft.1.1 x hx)
      omega
    have eD : dgV (zOf q ds.reverse m n).st = iv ds := by rw [dgV_iv big, eG, List.reverse_reverse]
    obtain ⟨st, est⟩ : ∃ st, st = (zOf q ds.reverse m n).st := ⟨_, rfl⟩
    have okP : PlOk false (oS st) (uS st) (fS st) := by
      rw [est]
      exact pls_ok ft.1.1 ft.2.1 (by omega)
    have smD : Sm (.tuple [plD false (oS st) (uS st) (fS st), datT ds]) (20000 + 1 + (1000 + 1 + 0)) 4 := by
      have a := sm_nats (ds := ds) (fun d h => by have := hD.2.1 d h; omega)
      have l12 := hD.2.2
      exact Sm.tup (SmAll.cons (sm_pl okP) (SmAll.cons (a.more (by omega) (by omega)) SmAll.nil))
    refine ⟨.ref r, rfl, .int q, rfl, .ref p, rfl, q, FF, p, _, rfl, hz2, ft, fun e H3 s3 he => ⟨(by show 2 ≤ sizeLine; decide), fun T1 n1 => ?_⟩⟩
    rw [eD] at he
    have s4 := same_new (o := .tup [V.ref r, .ref e]) n1
    have d1 : Dp K (upd H3 T1 (.tup [V.ref r, .ref e])) (.ref T1) (.tuple [plD false (oS st) (uS st) (fS st), datT ds]) := by
      refine .tup (.inl (.inl upd_same)) (.cons (dp_pl ?_) (.cons (dp_natsT (BP.Same.tupS s4 he)) .nil))
      rw [est]
      exact pls_pl ft.1.1 (hr2.kept (s3.trans s4))
    have s24 := s3.trans s4
    generalize upd H3 T1 (.tup [V.ref r, .ref e]) = H4 at d1 s24 ⊢
    dsimp only [tNil]
    refine rRepr_of d1 smD (by decide) (by decide) ?_
    have hz4 := hz2.kept fun _ _ => BP.Same.tupS s24
    obtain ⟨start, ts, bs, t, b, l', h1, h2, h3, h4, h5⟩ := hz4
    refine ⟨(by show 1 ≤ sizeLine; decide), fun X nX => ?_⟩
    have s5 := same_new (o := .tup [V.str "straight"]) nX
    generalize hX5 : upd H4 X (.tup [V.str "straight"]) = H5 at s5 ⊢
    have hX : SqT K H5 X [V.str "straight"] := by rw [← hX5]; exact .inl (.inl upd_same)
    refine ⟨.ref p, rfl, ?_⟩
    dsimp only [tNoPart]
    refine ⟨3, rfl, p, _, rfl, BP.Same.tupS s5 h1, ?_, fun Y nY => ?_⟩
    · rintro ⟨_, z⟩
      have z2 : HT.sIx 4 4 (some 3) = 4 := z
      exact absurd z2 (by decide)
    have ec : cutV [start, V.ref b, V.ref t, V.ref l'] none (some 3) = [start, V.ref b, V.ref t] := rfl
    rw [ec]
    have s6 := same_new (o := .tup [start, V.ref b, V.ref t]) nY
    generalize hY6 : upd H5 Y (.tup [start, V.ref b, V.ref t]) = H6 at s6 ⊢
    have hY : SqT K H6 Y [start, V.ref b, V.ref t] := by rw [← hY6]; exact .inl (.inl upd_same)
    refine ⟨X, Y, _, _, rfl, rfl, BP.Same.tupS s6 hX, hY, (fun z => nomatch z), (by show 4 ≤ sizeLine; decide), (fun z => nomatch z), fun _ Z nZ => ?_⟩
    have s7 := same_new (o := .tup ([V.str "straight"] ++ [start, V.ref b, V.ref t])) nZ
    generalize hZ7 : upd H6 Z (.tup ([V.str "straight"] ++ [start, V.ref b, V.ref t])) = H7 at s7 ⊢
    have hZ : SqT K H7 Z [V.str "straight", start, V.ref b, V.ref t] := by rw [← hZ7]; exact .inl (.inl upd_same)
    refine ⟨.ref a, rfl, (by show 2 ≤ sizeLine; decide), fun T2 n2 => ?_⟩
    have s8 := same_new (o := .tup [V.ref Z, .ref a]) n2
    have s48 := ((s5.trans s6).trans s7).trans s8
    have s08 := ((s1.trans s2).trans s24).trans s48
    have d2 : Dp K (upd H7 T2 (.tup [V.ref Z, .ref a])) (.ref T2) (.tuple [plD false (oS st) (uS st) (fS st), datT ds]) := by
      refine .tup (.inl (.inl upd_same)) (.cons (dp_pl ?_) (.cons (dp_natsT (BP.Same.tupS s08 hD.1)) .nil))
      rw [est]
      refine pls_pl ft.1.1 (PlS.kept (H := H7) ⟨start, ts, bs, b, t, hZ, BP.Same.tupS ((s5.trans s6).trans s7) h2, BP.Same.tupS ((s5.trans s6).trans s7) h3, ?_⟩ s8)
      exact h5.imp id fun x => ⟨x.1, x.2.kept fun _ _ => BP.Same.tupS ((s5.trans s6).trans s7)⟩
    generalize upd H7 T2 (.tup [V.ref Z, .ref a]) = H8 at d2 s8 s48 s08 ⊢
    dsimp only [tNil]
    refine rRepr_of d2 smD (by decide) (by decide) ?_
    refine rNe_sam ⟨false, rfl, iteF ?_⟩
    have hr8 := hr2.kept (s24.trans s48)
    have hz8 := hz2.kept fun _ _ => BP.Same.tupS (s24.trans s48)
    refine ⟨.int q, rfl, .ref r, rfl, q, FF, r, _, rfl, hr8, ft.1.1, ft.2.1, fun H9 s9 => ⟨.int m, rfl, rfl, false, ?_, iteF ?_⟩⟩
    · show V.bl (!decide (V.int (nRk (stOf q ds.reverse m) : Nat) = V.int (m : Nat))) = V.bl false
      rw [eR, decide_eq_true rfl]
      rfl
    show Ends.nx _ [some (.int q), some (.ref a), some (.int m), some (.int n), some (.int (Cnt.strt q : Nat)), some (.ref p), some (.ref r), none, none] H9
    dsimp only []
    have hz9 := hz8.kept fun _ _ => BP.Same.tupS s9
    have s49 := s48.trans s9
    refine ⟨.int q, rfl, .ref p, rfl, q, FF, p, _, rfl, hz9, ft, fun Ha sa => ?_⟩
    refine ⟨1, rfl, (by show 0 ≤ sizeLine; decide), fun E0 nE0 => ⟨(by show 0 ≤ sizeLine; decide), fun E1 nE1 => ?_⟩⟩
    have t0 := same_new (o := .tup ([] : List V)) nE0
    have t1 := same_new (o := .tup ([] : List V)) nE1
    have t01 := (s49.trans sa).trans (t0.trans t1)
    refine ⟨.ref p, rfl, p, _, 3, .ref l', rfl, rfl, BP.Same.tupS t01 h1, rfl, (by show 4 ≤ sizeLine; decide), fun W nW => ?_⟩
    have t2 := same_new (o := .tup [V.int (-1), .ref E0, .ref E1, .ref l']) nW
    have hW0 : StepAt K (upd (upd (upd Ha E0 (.tup ([] : List V))) E1 (.tup ([] : List V))) W (.tup [V.int (-1), .ref E0, .ref E1, .ref l'])) W (⟨[], sAt q n⟩ : Sta q) :=
      ⟨.int (-1), [], [], E1, E0, l', .inl (.inl upd_same), .inl (.inl ((t1.trans t2) _ _ upd_same)), .inl (.inl (t2 _ _ upd_same)), BP.Same.tupS (t01.trans t2) h4, .inl ⟨rfl, rfl, rfl, rfl⟩⟩
    generalize hWb : upd (upd (upd Ha E0 (.tup ([] : List V))) E1 (.tup ([] : List V))) W (.tup [V.int (-1), .ref E0, .ref E1, .ref l']) = Hb at t2 hW0 ⊢
    have fW : Fit (⟨[], sAt q n⟩ : Sta q) := ⟨⟨trivial, sAt_ok hn⟩, (fun x hx => nomatch hx), Nat.zero_le _⟩
    have eW : nStep (⟨[], sAt q n⟩ : Sta q) = n := by
      show 0 * Cnt.strt q + sNum (sAt q n) = n
      rw [sNum_at hn, Nat.zero_mul, Nat.zero_add]
    refine ⟨.int q, rfl, q, FF, W, _, rfl, hW0, fW, fun Hc sc => ?_⟩
    dsimp only [tNil]
    refine ⟨(by show 2 ≤ sizeLine; decide), fun TL nTL => ?_⟩
    rw [eW, eS]
    show tSeq _ _ _ [some (.int q), some (.ref a), some (.int m), some (.int n), some (.int (Cnt.strt q : Nat)), some (.ref p), some (.ref r), some (.ref TL), none] _
    have t3 := same_new (o := .tup [V.int (m * Cnt.strt q + n : Nat), V.int (n : Nat)]) nTL
    generalize hWc : upd Hc TL (.tup [V.int (m * Cnt.strt q + n : Nat), V.int (n : Nat)]) = Hd at t3 ⊢
    have dT : Dp K Hd (.ref TL) (.tuple [.int (m * Cnt.strt q + n : Nat), .int (n : Nat)]) := .tup (by rw [← hWc]; exact .inl (.inl upd_same)) (.cons (.int _) (.cons (.int _) .nil))
    have mb : mP q ds.reverse ≤ 17 * 16 ^ 11 * (2 ^ 20) ^ 12 := mP_le (by have := gt1 FF.mem; omega) (le16 FF.mem) (fun d h => (hd d h).2) hl
    have Nb : m * Cnt.strt q + n < 10 ^ 120 := by
      have := Nat.mul_le_mul mb (Nat.le_of_lt sl)
      exact Nat.lt_of_lt_of_le hN (Nat.le_trans this (by decide +kernel))
    have nb : n < 10 ^ 120 := Nat.lt_of_le_of_lt (Nat.le_add_left _ _) Nb
    have sw := sw_two Nb nb
    refine ⟨.ref TL, rfl, ?_⟩
    dsimp only [tNil]
    refine rRepr_ofW dT sw (by decide) (by decide) ?_
    refine (nl_add (nl_mul (yl_var (i := 2) rfl) (yl_var (i := 4) rfl) sl) (yl_var (i := 3) rfl)) _ ?_
    refine ⟨.int n, rfl, (by show 2 ≤ sizeLine; decide), fun T4 n4 => ?_⟩
    have t4 := same_new (o := .tup [V.int (m * Cnt.strt q + n : Nat), V.int (n : Nat)]) n4
    have dT4 : Dp K (upd Hd T4 (.tup [V.int (m * Cnt.strt q + n : Nat), V.int (n : Nat)])) (.ref T4) (.tuple [.int (m * Cnt.strt q + n : Nat), .int (n : Nat)]) := .tup (.inl (.inl upd_same)) (.cons (.int _) (.cons (.int _) .nil))
    generalize upd Hd T4 (.tup [V.int (m * Cnt.strt q + n : Nat), V.int (n : Nat)]) = He at t4 dT4 ⊢
    dsimp only [tNil]
    refine rRepr_ofW dT4 sw (by decide) (by decide) ?_
    refine rNe_sam ⟨false, rfl, iteF ?_⟩
    have t5 := (((t01.trans t2).trans sc).trans t3).trans t4
    have hrE := hr8.kept (s9.trans (((((sa.trans (t0.trans t1)).trans t2).trans sc).trans t3).trans t4))
    refine ⟨.int q, rfl, .int q, rfl, .ref r, rfl, q, FF, r, _, rfl, hrE, ft.1.1, ft.2.1, ft.2.2, fun r3 Hf sf hr3 => ?_⟩
    have f3 : Fit (⟨(zOf q ds.reverse m n).st, same⟩ : Sta q) := ⟨⟨ft.1.1, det_same⟩, ft.2.1, ft.2.2⟩
    refine ⟨q, FF, r3, _, rfl, hr3, f3, fun Hg sg => ?_⟩
    have e3 : nStep (⟨(zOf q ds.reverse m n).st, same⟩ : Sta q) = m * Cnt.strt q + sNum (same : Mat q) := by
      show nRk (stOf q ds.reverse m) * Cnt.strt q + _ = _
      rw [eR]
    rw [e3]
    refine (nl_mul (yl_var (i := 2) rfl) (yl_var (i := 4) rfl) sl) _ ⟨_, _, rfl, rfl, ?_⟩
    have e4 : ((m * Cnt.strt q + sNum (same : Mat q) : Nat) : Int) - ((m * Cnt.strt q : Nat) : Int) = ((sNum (same : Mat q) : Nat) : Int) := by omega
    show Ends.nx _ [some (.int q), some (.ref a), some (.int m), some (.int n), some (.int (Cnt.strt q : Nat)), some (.ref p), some (.ref r), some (.ref TL), some (.int (((m * Cnt.strt q + sNum (same : Mat q) : Nat) : Int) - ((m * Cnt.strt q : Nat) : Int)))] _
    dsimp only []
    rw [e4]
    refine ⟨_, rfl, .int q, rfl, rfl, fun r4 Hh sh h4' => ?_⟩
    have f4 : Fit (empty : Sta q) := ⟨empty_ok, (fun x hx => nomatch hx), Nat.zero_le _⟩
    have e5 : nStep (empty : Sta q) = sNum (same : Mat q) := by
      show 0 * Cnt.strt q + sNum (same : Mat q) = _
      rw [Nat.zero_mul, Nat.zero_add]
    refine ⟨q, FF, r4, empty, rfl, h4' q, f4, fun Hi si => ?_⟩
    rw [e5]
    refine ⟨rfl, ?_⟩
    rw [decide_eq_true rfl]
    exact want Hi ((((((s1.trans s2).trans s24).trans t5).trans sf).trans sg).trans (sh.trans si))
end
end K13
set_option Elab.async false
set_option linter.all false
set_option maxRecDepth 100000
set_option maxHeartbeats 400000
set_option pp.maxSteps 3000
namespace BP
open PySem PySem.Spec PyProof.Rows L2 Fld
theorem But.sqT {K : PySem.W.Frag} {d c : Addr} {H H' : Hp} (k : Deck H d c) (b : But d c H H') : ∀ (a : Addr) (xs : List V), SqT K H a xs → SqT K H' a xs := by
  intro a xs h
  obtain ⟨_, _, _, kd, kc, _⟩ := k
  rcases h with (h | ⟨o, h⟩) | h
  · exact .inl (.inl (b _ _ (ne_of h kd (by intro z; cases z)) (ne_of h kc (by intro z; cases z)) h))
  · exact .inl (.inr ⟨o, b _ _ (ne_of h kd (by intro z; cases z)) (ne_of h kc (by intro z; cases z)) h⟩)
  · exact .inr h
/-- a loop over zip of a list and a list that is not longer -/
theorem zip_short {K : PySem.W.Frag} {l1 l2 : Addr} {us ws : List V} {tg : TG} {bd : TS} {En : Ends} {σ0 : L2.St} {H0 : Hp} (le : ws.length ≤ us.length) (Inv : Nat → L2.St → Hp → Prop)
    (start : Inv 0 σ0 H0) (seqs : ∀ n τ G, Inv n τ G → SqL K G l1 us ∧ SqL K G l2 ws)
    (turn : ∀ (n : Nat) (u v : V) (T : Addr) (τ : L2.St) (G : Hp), us[n]? = some u → ws[n]? = some v → Inv n τ G → G T = none →
      tg (.ref T) τ (upd G T (.tup [u, v])) fun τ2 G2 => bd { En with nx := Inv (n + 1), ct := Inv (n + 1), bk := En.nx } τ2 G2)
    (fin : ∀ τ G, Inv ws.length τ G → En.nx τ G) :
    ∃ Z : Nat → Nat → L2.St → Hp → Prop, (∃ k, Z 0 k σ0 H0) ∧ ∀ n k τ G, Z n k τ G →
      ((Itz K l1 l2).stop n G ∧ En.nx τ G) ∨
      ((Itz K l1 l2).go n G ∧ ∃ Nx : L2.St → Hp → Prop, (∀ τ' G', Nx τ' G' → ∃ k', k' < k ∧ Z (n + 1) k' τ' G') ∧
        ∀ v G', (Itz K l1 l2).yld n G v G' → tg v τ G' fun τ2 G2 => bd { En with nx := Nx, ct := Nx, bk := En.nx } τ2 G2) := by
  refine ⟨fun n k τ G => k + n = ws.length ∧ Inv n τ G, ⟨_, rfl, start⟩, fun n k τ G hz => ?_⟩
  obtain ⟨hk, iv⟩ := hz
  have sq := seqs n τ G iv
  match k, hk with
  | 0, hk =>
    have en : n = ws.length := by omega
    rw [en] at iv
    exact .inl ⟨⟨us, ws, sq.1, sq.2, .inr (by omega)⟩, fin τ G iv⟩
  | k + 1, hk =>
    have n1 : n < ws.length := by omega
    have n2 : n < us.length := by omega
    refine .inr ⟨⟨us, ws, us[n], ws[n], sq.1, sq.2, List.getElem?_eq_getElem n2, List.getElem?_eq_getElem n1⟩, Inv (n + 1), fun τ' G' g => ⟨k, Nat.lt_succ_self k, by omega, g⟩, ?_⟩
    rintro v G' ⟨T, u, w, rfl, free, rfl, r1, r2⟩
    exact turn n u w T τ G (r1 us sq.1) (r2 ws sq.2) iv free
/-- three keywords: the last one first -/
def lt3 {α : Type} : List α → List α → List α
  | [], x :: y :: z :: _ => [z, x, y]
  | _, _ => []
section
variable {q : Nat} [FF : IsF q] {K : PySem.W.Frag} {H : Hp}
/-- how many places there are with the degrees of this one -/
def plV (x : Pl q) : Nat := Cnt.chs q (x.2.2.2.map fun f => f.length - 1) * (if x.1 then (if x.2.2.2 = [] then q + 1 else q) else 1)
theorem plV_bent {x : Pl q} (h : x.1 = true) : plV x = plV (ahP x) * mBh q false x.2.2.2.isEmpty 0 := by
  obtain ⟨b, o, us, fs⟩ := x
  obtain rfl : b = true := h
  cases fs with
  | nil => simp [plV, mBh, ahP, ahF]
  | cons f r => simp [plV, mBh, ahP, ahF]
theorem plV_str {x : Pl q} {g : List (Po q)} {f : Po q} (h : x.1 = false) (e : x.2.2.2 = g ++ [f]) : plV x = plV (ahP x) * Cnt.bds q (f.length - 1) := by
  obtain ⟨b, o, us, fs⟩ := x
  obtain rfl : b = false := h
  obtain rfl : fs = g ++ [f] := e
  have e1 : (g ++ [f]).dropLast = g := by simp
  show Cnt.chs q ((g ++ [f]).map _) * 1 = Cnt.chs q ((g ++ [f]).dropLast.map _) * (if (g ++ [f]).dropLast = [] then q + 1 else q) * _
  rw [e1, List.map_append]
  show Cnt.chs q (g.map _ ++ [f.length - 1]) * 1 = _
  rw [Nat.mul_one, Cnt.chs_snoc, List.length_map]
  cases g with
  | nil => simp [Nat.mul_assoc]
  | cons a r => simp [Nat.mul_assoc]
theorem fs_last {fs : List (Po q)} {f : Po q} : ∀ {g : List (Po q)} {bs : List V}, fs = g ++ [f] → FsAt K H bs fs → ∃ (bs' : List V) (a : Addr), bs = bs' ++ [.ref a] ∧ SqT K H a (vns f) := by
  intro g
  induction g generalizing fs with
  | nil =>
    intro bs e h
    subst e
    match bs, h with
    | [b], ⟨⟨a, ea, ha⟩, _⟩ => exact ⟨[], a, by rw [ea]; rfl, ha⟩
    | _ :: _ :: _, ⟨_, k⟩ => exact k.elim
  | cons x r ih =>
    intro bs e h
    subst e
    match bs, h with
    | b :: bs1, ⟨_, k⟩ =>
      obtain ⟨bs', a, e1, e2⟩ := ih rfl k
      exact ⟨b :: bs', a, by rw [e1]; rfl, e2⟩
theorem bds_diff {d : Nat} (q1 : 1 < q) (d2 : 2 ≤ d) {l : Nat} (h : l = if 2 < d then q ^ (d - 2) - 1 else 0) : ((q ^ (d - 1) - 1 : Nat) : Int) - (l : Int) = ((Cnt.bds q d : Nat) : Int) := by
  have e1 : q ^ (d - 1) = q ^ (d - 2) * q := by rw [show d - 1 = d - 2 + 1 by omega, Nat.pow_succ]
  have p1 : 0 < q ^ (d - 2) := Nat.pow_pos (by omega)
  have e2 : Cnt.bds q d = (q - 1) * q ^ (d - 2) := rfl
  have e3 : q ^ (d - 2) * q = (q - 1) * q ^ (d - 2) + q ^ (d - 2) := by
    rw [Nat.mul_comm, ← Nat.succ_mul, show (q - 1).succ = q by omega]
  have e4 : l = q ^ (d - 2) - 1 := by
    rw [h]
    split
    · rfl
    · rw [show d - 2 = 0 by omega]
      rfl
  rw [e1, e3, e2, e4]
  omega
end
def spAlC (K : PySem.W.Frag) : Sp := fun vs H Q _ => ∃ (q : Nat) (_ : IsF q) (d c p : Addr) (x : Pl q), vs = [.ref d, .int q, .ref p] ∧ Deck H d c ∧ PA K H p x ∧ PO x ∧ x.1 = false ∧ x.2.2.2.length ≤ 12 ∧ ∀ H', But d c H H' → Deck H' d c → Q (.int (plV x : Nat)) H'
end BP
namespace K13
open PySem PySem.Spec PyProof.Rows L2 BP Fld
section
variable {P : Program} {w : World} {K : PySem.W.Frag} {mg : Str → Option Value} {base : Heap}
theorem ok_alc {f fC fA fM fD : Addr} {fd fdC fdA fdM fdD : FuncData} (F : Fun K "_law_along_chain" "_law_along_chain" sLAlongChain f fd) (CH : BP.Can P w K mg base "_law_chain" 2 pLChain (spLCh K) fC fdC) (AHD : BP.Can P w K mg base "ahead" 8 pAhead (spAhd K) fA fdA)
    (MBH : BP.Can P w K mg base "many_behind" 8 pManyBehind (spMBh K) fM fdM) (D : BP.Can P w K mg base "_law_draw" 1 pLDraw spDraw fD fdD) (kb_many_behind : KBinds K fdM pManyBehind ["place", "degree", "q"] lt3 lt3) (m_repr : mg "repr" = none) (m_zip : mg "zip" = none) (m_len : mg "len" = none) : GFn P w K mg base 9 f fd pLAlongChain (spAlC K) := by
  refine gok F scLAlongChain (fun vs H Q E h => ?_) (fun cdv A outer s H vs Q E hgd hr h => ?_)
  · obtain ⟨q, _, d, c, p, x, rfl, _⟩ := h
    rfl
  · obtain ⟨q, FF, d, c, p, x, rfl, hk, hP, ok, hb, h12, want⟩ := h
    have hrCH := hr.mono (show 2 ≤ 8 by decide)
    have hrAHD := hr.mono (show 8 ≤ 8 by decide)
    have hrMBH := hr.mono (show 8 ≤ 8 by decide)
    have hrD := hr.mono (show 1 ≤ 8 by decide)
    refine ⟨_, (pss_cons (ps_par (i := 3) (j := 4) (by rfl) scLAlongChain.nd rfl rfl (by decide) rfl rfl (pa_cons pe_int (pa_cons (pe_revL (pe_call CH.ok hrCH (by rfl) CH.g CH.kp CH.b .nil pass0 (pa_cons (pv 2) pa_nil))) pa_nil)) (by rfl))
      (pss_cons (ps_for PassesOwn.never rfl (pi_zip (by rfl) m_zip (pa_cons (pv 4) (pa_cons (pe_slice sl_list (pv 4) (po_some pe_int) po_none) pa_nil))) (pg_tup rfl (pgs_cons (pg_name (i := 5) scLAlongChain.nd rfl (.inl rfl)) (pgs_cons (pg_name (i := 6) scLAlongChain.nd rfl (.inl rfl)) pgs_nil))) (pss_cons (ps_if (pt_cmpR op_ne (pe_callB (call_repr_data hgd hr.units) (by rfl) m_repr (by decide +kernel) (pa_cons (pe_call AHD.ok hrAHD (by rfl) AHD.g AHD.kp AHD.b .nil pass0 (pa_cons (pv 1) (pa_cons (pv 6) pa_nil))) pa_nil)) (pe_callB (call_repr_data hgd hr.units) (by rfl) m_repr (by decide +kernel) (pa_cons (pv 5) pa_nil)) (nomark _)) (pss_one (ps_ret (pe_un un_neg pe_int))) pss_nil)
        (pss_one (ps_if (pt_cmpR op_eq (pe_ix ix_tup (pv 6) pe_int (fun _ _ => rfl)) pe_str (nomark _)) (pss_one (ps_set (i := 3) scLAlongChain.nd rfl (.inl rfl) (pe_op op_mul (pv 3) (pe_call MBH.ok hrMBH (by rfl) MBH.g MBH.kp MBH.b .nil pass0 (pa_cons (pv 1) (pa_cons (pv 5) (pa_cons (pe_op op_add pe_int (pe_call D.ok hrD (by rfl) D.g D.kp D.b .nil pass0 (pa_cons (pv 0) (pa_cons pe_int pa_nil)))) pa_nil))))))) (pss_cons (ps_set (i := 7) scLAlongChain.nd rfl (.inl rfl) (pe_op op_sub (pe_callB call_len_seq (by rfl) m_len PySem.boot_len (pa_cons (pe_ix ix_tup (pe_ix ix_tup (pv 6) pe_int (fun _ _ => rfl)) (pe_un un_neg pe_int) (fun _ _ => rfl)) pa_nil)) pe_int))
          (pss_cons (ps_set (i := 8) scLAlongChain.nd rfl (.inl rfl) (pe_ifExp (pt_cmpR op_gt (pv 7) pe_int (nomark _)) (pe_callK0 MBH.ok hrMBH (by rfl) MBH.g MBH.kp kb_many_behind pass0 (pk_cons (pv 5) (pk_cons (pe_op op_sub (pv 7) pe_int) (pk_cons (pv 1) pk_nil)))) pe_int))
          (pss_one (ps_set (i := 3) scLAlongChain.nd rfl (.inl rfl) (pe_op op_mul (pv 3) (pe_op op_sub (pe_call MBH.ok hrMBH (by rfl) MBH.g MBH.kp MBH.b .nil pass0 (pa_cons (pv 1) (pa_cons (pv 5) (pa_cons (pv 7) pa_nil)))) (pv 8)))))))))))
      (pss_one (ps_ret (pv 3))))), ?_⟩
    refine ⟨.ref p, rfl, q, FF, p, x, rfl, hP, ok, fun l H1 as s1 nl hl la hC => ?_⟩
    refine ⟨l, _, rfl, .inl (.inl hl), fun l2 n2 => ?_⟩
    dsimp only [tNil]
    refine ⟨_, _, rfl, ?_⟩
    have s2 := same_new (o := .lst (as.map V.ref).reverse) n2
    show tSeq _ _ _ [some (.ref d), some (.int q), some (.ref p), some (.int 1), some (.ref l2), none, none, none, none] _
    generalize hH2 : upd H1 l2 (.lst (as.map V.ref).reverse) = H2 at s2 ⊢
    have hl2 : H2 l2 = some (.lst (as.map V.ref).reverse) := by rw [← hH2]; exact upd_same
    refine ⟨.ref l2, rfl, .ref l2, rfl, 1, rfl, ?_⟩
    dsimp only [tNoPart]
    obtain ⟨n, en⟩ : ∃ n, n = Pl.dep x := ⟨_, rfl⟩
    rw [← en] at la
    obtain ⟨us, eus⟩ : ∃ us, us = (as.map V.ref).reverse := ⟨_, rfl⟩
    rw [← eus] at hl2
    have lus : us.length = n + 1 := by rw [eus, List.length_reverse, List.length_map, la]
    refine ⟨l2, us, rfl, .inl (.inl hl2), fun l3 n3 => ?_⟩
    have ec : cutV us (some 1) none = us.drop 1 := by
      show (us.drop (min 1 us.length)).take _ = _
      rw [Nat.min_eq_left (by omega), List.take_of_length_le]
      rw [List.length_drop]
      show us.length - 1 ≤ us.length - min 1 us.length
      omega
    rw [ec]
    have s3 := same_new (o := .lst (us.drop 1)) n3
    obtain ⟨ws, ews⟩ : ∃ ws, ws = us.drop 1 := ⟨_, rfl⟩
    rw [← ews] at s3 ⊢
    have lws : ws.length = n := by rw [ews, List.length_drop, lus]; omega
    generalize hH3 : upd H2 l3 (.lst ws) = H3 at s3 ⊢
    have hl3 : H3 l3 = some (.lst ws) := by rw [← hH3]; exact upd_same
    have hl23 := s3 _ _ hl2
    dsimp only [tNil]
    have s13 := (s1.trans s2).trans s3
    have k2 := hk.same s1
    have d2 := k2.new n2
    have d3 := (k2.same s2).new n3
    have gus : ∀ i v, us[i]? = some v → i ≤ n ∧ ∃ a, as[n - i]? = some a ∧ v = .ref a := by
      intro i v h
      have hi : i < n + 1 := by rw [← lus]; exact (List.getElem?_eq_some_iff.mp h).1
      rw [eus, List.getElem?_reverse (by rw [List.length_map, la]; exact hi), List.length_map, la, List.getElem?_map, show n + 1 - 1 - i = n - i by omega] at h
      cases e : as[n - i]? with
      | none =>
        rw [e] at h
        cases h
      | some a =>
        rw [e] at h
        exact ⟨by omega, a, rfl, (Option.some.inj h).symm⟩
    have sml : ∀ {y : Pl q} (oy : PO y), Sm (plD y.1 y.2.1 y.2.2.1 y.2.2.2) 20000 3 := fun oy => sm_pl oy
    refine ⟨l2, l3, us, ws, rfl, .inl (.inl hl23), .inl (.inl hl3), zip_short (K := K) (l1 := l2) (l2 := l3) (En := { nx := _, rt := _ }) (by omega) (fun i τ G => But d c H G ∧ Deck G d c ∧ G l2 = some (.lst us) ∧ G l3 = some (.lst ws) ∧ ChAt K G as x ∧ ∃ y5 y6 y7 y8, τ = [some (.ref d), some (.int q), some (.ref p), some (.int (plV (itP (n - i) x) : Nat)), some (.ref l2), y5, y6, y7, y8])
      ⟨But.of s13, hk.same s13, hl23, hl3, fun j a h => (hC j a h).kept (s2.trans s3), none, none, none, none, ?_⟩ (fun i τ G hI => ⟨.inl (.inl hI.2.2.1), .inl (.inl hI.2.2.2.1)⟩) (fun i u v T τ G hu hv hI nT => ?_) (fun τ G hI => ?_)⟩
    · have e0 : plV (itP (n - 0) x) = 1 := by
        have dz := dep_it (n - 0) (x := x) (by omega)
        rw [← en, Nat.sub_zero, Nat.sub_self] at dz
        rw [Nat.sub_zero]
        generalize itP n x = z at dz
        obtain ⟨b, o, us', fs⟩ := z
        unfold Pl.dep at dz
        cases b with
        | true => simp at dz
        | false =>
          cases fs with
          | nil => rfl
          | cons f r => simp at dz
      rw [e0]
      rfl
    · obtain ⟨b1, kG, g2, g3, gC, y5, y6, y7, y8, rfl⟩ := hI
      obtain ⟨hi, na, ena, rfl⟩ := gus i u hu
      rw [ews, List.getElem?_drop] at hv
      obtain ⟨hi1, fa, efa, rfl⟩ := gus (1 + i) v hv
      have sT := same_new (o := .tup [V.ref na, .ref fa]) nT
      generalize hT1 : upd G T (.tup [V.ref na, .ref fa]) = G1 at sT ⊢
      have hT : SqT K G1 T [V.ref na, .ref fa] := by rw [← hT1]; exact .inl (.inl upd_same)
      obtain ⟨y, ey⟩ : ∃ y, y = itP (n - (1 + i)) x := ⟨_, rfl⟩
      have ez : itP (n - i) x = ahP y := by
        rw [ey, ← itP_succ, show n - (1 + i) + 1 = n - i by omega]
      have oky : PO y := by rw [ey]; exact ok_it _ ok (by omega)
      have dy : Pl.dep y = i + 1 := by rw [ey, dep_it _ (by omega), ← en]; omega
      have okz := ok_ah oky (by omega)
      have hfa : PA K G1 fa y := by rw [ey]; exact (gC _ _ efa).kept sT
      have hna : PA K G1 na (ahP y) := by rw [← ez]; exact (gC _ _ ena).kept sT
      rw [ez]
      refine ⟨T, _, rfl, hT, rfl, _, [_], rfl, _, [], rfl, rfl, ?_⟩
      show tSeq _ _ _ [some (.ref d), some (.int q), some (.ref p), some (.int (plV (ahP y) : Nat)), some (.ref l2), some (.ref na), some (.ref fa), y7, y8] _
      refine ⟨.int q, rfl, .ref fa, rfl, q, FF, fa, _, _, _, _, rfl, hfa, oky, dep_pos.mp (by omega), fun r G2 t2 hr => ?_⟩
      dsimp only [tNil]
      refine rRepr_of (dp_pl hr) (sml okz) (by decide) (by decide) ?_
      refine ⟨.ref na, rfl, ?_⟩
      dsimp only [tNil]
      refine rRepr_of (dp_pl (hna.kept t2)) (sml okz) (by decide) (by decide) ?_
      refine rNe_sam ⟨false, rfl, iteF ?_⟩
      have hfa2 := hfa.kept t2
      have hna2 := hna.kept t2
      have b2 := b1.trans (But.of (sT.trans t2))
      have kG2 := kG.same (sT.trans t2)
      have g22 := t2 _ _ (sT _ _ g2)
      have g32 := t2 _ _ (sT _ _ g3)
      have gC2 : ChAt K G2 as x := fun j a h => (gC j a h).kept (sT.trans t2)
      obtain ⟨bs, pb, pt, hc, hbs, hF, ht⟩ := id hfa2
      have q1 := gt1 FF.mem
      have q16 := le16 FF.mem
      clear hr
      obtain ⟨b, o, us', fs⟩ := y
      cases b with
      | true =>
        refine ⟨.ref fa, rfl, fa, _, 0, .str (sortS true), rfl, rfl, hc, rfl, rfl, true, rfl, iteT ?_⟩
        refine ⟨_, rfl, .int q, rfl, .ref na, rfl, .ref d, rfl, d, c, 5, rfl, kG2, by decide, by decide, fun e G4 he b4 k4 => ⟨2, _, rfl, rfl, ?_⟩⟩
        have hna4 := PA.kep hna2 (But.sqT kG2 b4)
        refine ⟨q, FF, na, _, _, _, _, 2 + e, congrArg (fun z => [V.int (q : Nat), V.ref na, V.int z]) (show (2 : Int) + (e : Nat) = ((2 + e : Nat) : Int) by omega), hna4, okz, by omega, by omega, fun G5 t5 => ⟨_, _, rfl, rfl, ?_, ?_⟩⟩
        · show CMul (plV _ : Nat) ((if fs.isEmpty = true then q + 1 else q : Nat) : Int)
          exact cm_small (by split <;> omega)
        · have n2c := g22
          have e2 := b4 _ _ d2.1 d2.2 g22
          have e3 := b4 _ _ d3.1 d3.2 g32
          refine ⟨(b2.trans b4).trans (But.of t5), k4.same t5, t5 _ _ e2, t5 _ _ e3, fun j a h => (PA.kep (gC2 j a h) (But.sqT kG2 b4)).kept t5, some (.ref na), some (.ref fa), y7, y8, ?_⟩
          rw [show n - (i + 1) = n - (1 + i) by omega, ← ey, plV_bent (x := (true, o, us', fs)) rfl, Int.natCast_mul]
          rfl
      | false =>
        have f0 : fs ≠ [] := (dep_pos.mp (show 0 < Pl.dep ((false, o, us', fs) : Pl q) by omega)).resolve_left (by simp)
        obtain ⟨g, f, efs⟩ : ∃ g f, fs = g ++ [f] := ⟨fs.dropLast, fs.getLast f0, (List.dropLast_concat_getLast f0).symm⟩
        subst efs
        have fB := oky.fB f (List.mem_append_right _ (List.mem_singleton_self f))
        have f3 := isB_len fB.1
        have f7 := fB.2
        obtain ⟨bs', fl, ebs, hfl⟩ := fs_last (g := g) rfl hF
        subst ebs
        refine ⟨.ref fa, rfl, fa, _, 0, .str (sortS false), rfl, rfl, hc, rfl, rfl, false, by rw [decide_eq_false (show ¬ V.str (sortS false) = V.str "bent" from fun z => absurd (V.str.inj z) (by decide +kernel))], iteF ?_⟩
        refine ⟨.ref fa, rfl, fa, _, 2, .ref pb, rfl, rfl, hc, rfl, 1, rfl, pb, _, -1, .ref fl, rfl, rfl, hbs, atI_last _ _, fl, _, rfl, .inr hfl, _, 1, rfl, rfl, ?_⟩
        have ed : ((vns f).length : Int) - 1 = ((f.length - 1 : Nat) : Int) := by
          rw [List.length_map]
          omega
        show tSeq _ _ _ [some (.ref d), some (.int q), some (.ref p), some (.int (plV (ahP ((false, o, us', g ++ [f]) : Pl q)) : Nat)), some (.ref l2), some (.ref na), some (.ref fa), some (.int (((vns f).length : Int) - 1)), y8] _
        rw [ed]
        refine ⟨_, rfl, _, 2, rfl, rfl, _, rfl, ite2 (fun hd => ?_) (fun hd => ?_)⟩
        · have hd2 : 2 < f.length - 1 := by
            have : (2 : Int) < ((f.length - 1 : Nat) : Int) := of_decide_eq_true hd
            omega
          refine ⟨.ref na, rfl, _, rfl, _, 1, rfl, rfl, .int q, rfl, q, FF, na, _, _, _, _, f.length - 1 - 1, congrArg (fun z => [V.int (q : Nat), V.ref na, V.int z]) (show ((f.length - 1 : Nat) : Int) - 1 = ((f.length - 1 - 1 : Nat) : Int) by omega), hna2, okz, by omega, by omega, fun G4 t4 => ?_⟩
          refine ⟨_, rfl, .int q, rfl, .ref na, rfl, .int (f.length - 1 : Nat), rfl, q, FF, na, _, _, _, _, f.length - 1, rfl, (hna2.kept t4), okz, by omega, by omega, fun G6 t6 => ⟨_, rfl, _, _, rfl, rfl, _, _, rfl, rfl, ?_, ?_⟩⟩
          all_goals (have eB := bds_diff (q := q) (d := f.length - 1) (l := (q ^ (f.length - 1 - 1 - 1) - 1)) q1 (by omega) (by rw [if_pos hd2]; rfl))
          · show CMul (plV _ : Nat) (((q ^ (f.length - 1 - 1) - 1 : Nat) : Int) - (((q ^ (f.length - 1 - 1 - 1) - 1) : Nat) : Int))
            rw [eB]
            exact cm_small (Nat.lt_of_le_of_lt (Cnt.bds_le (by omega) (le16 FF.mem) (by omega)) (by decide))
          · refine ⟨b2.trans (But.of (t4.trans t6)), kG2.same (t4.trans t6), (t4.trans t6) _ _ g22, (t4.trans t6) _ _ g32, fun j a h => (gC2 j a h).kept (t4.trans t6), some (.ref na), some (.ref fa), some (.int (f.length - 1 : Nat)), some (.int ((q ^ (f.length - 1 - 1 - 1) - 1) : Nat)), ?_⟩
            rw [show n - (i + 1) = n - (1 + i) by omega, ← ey, plV_str (x := (false, o, us', g ++ [f])) (g := g) (f := f) rfl rfl, Int.natCast_mul, ← eB]
            rfl
        · have hd2 : ¬ 2 < f.length - 1 := fun z => hd (decide_eq_true (by omega))
          refine ⟨_, rfl, .int q, rfl, .ref na, rfl, .int (f.length - 1 : Nat), rfl, q, FF, na, _, _, _, _, f.length - 1, rfl, hna2, okz, by omega, by omega, fun G6 t6 => ⟨_, rfl, _, _, rfl, rfl, _, _, rfl, rfl, ?_, ?_⟩⟩
          all_goals (have eB := bds_diff (q := q) (d := f.length - 1) (l := 0) q1 (by omega) (by rw [if_neg hd2]))
          · show CMul (plV _ : Nat) (((q ^ (f.length - 1 - 1) - 1 : Nat) : Int) - ((0 : Nat) : Int))
            rw [eB]
            exact cm_small (Nat.lt_of_le_of_lt (Cnt.bds_le (by omega) (le16 FF.mem) (by omega)) (by decide))
          · refine ⟨b2.trans (But.of ((show Same G2 G2 from fun _ _ e => e).trans t6)), kG2.same ((show Same G2 G2 from fun _ _ e => e).trans t6), ((show Same G2 G2 from fun _ _ e => e).trans t6) _ _ g22, ((show Same G2 G2 from fun _ _ e => e).trans t6) _ _ g32, fun j a h => (gC2 j a h).kept ((show Same G2 G2 from fun _ _ e => e).trans t6), some (.ref na), some (.ref fa), some (.int (f.length - 1 : Nat)), some (.int (0 : Nat)), ?_⟩
            rw [show n - (i + 1) = n - (1 + i) by omega, ← ey, plV_str (x := (false, o, us', g ++ [f])) (g := g) (f := f) rfl rfl, Int.natCast_mul, ← eB]
            rfl
    · obtain ⟨b1, kG, g2, g3, gC, y5, y6, y7, y8, rfl⟩ := hI
      rw [lws, Nat.sub_self]
      exact ⟨_, rfl, want G b1 kG⟩
end
end K13
set_option Elab.async false
set_option linter.all false
set_option maxRecDepth 100000
set_option maxHeartbeats 400000
set_option pp.maxSteps 3000
namespace BP
open PySem PySem.Spec PyProof.Rows L2 Fld
theorem tSeq_by {t rest : TS} {D : Ends} {σ : L2.St} {H : Hp} (I : L2.St → Hp → Prop) (k : ∀ σ' H', I σ' H' → rest D σ' H') (h : ∀ nx : L2.St → Hp → Prop, (∀ σ' H', I σ' H' → nx σ' H') → t { D with nx := nx } σ H) : tSeq t rest D σ H := h _ k
theorem Deck.off {H : Hp} {d c p : Addr} {o : HO} (h : Deck H d c) (n1 : p ≠ d) (n2 : p ≠ c) : Deck (upd H p o) d c := by
  obtain ⟨cells, m, n, h1, h2, h3⟩ := h
  exact ⟨cells, m, n, by rw [upd_ne n1.symm]; exact h1, by rw [upd_ne n2.symm]; exact h2, h3⟩
theorem seq_of {te : TE} {g : TG} {rest : TS} {D : Ends} {σ : L2.St} {H : Hp} (h : te σ H fun x H1 => g x σ H1 (rest D)) : tSeq (tAsg te g) rest D σ H := h
theorem but_upd {H H' : Hp} {d c D : Addr} {o : HO} (b : But d c H H') (nD : H D = none) : But d c H (upd H' D o) := fun x z e1 e2 e => by
  rw [upd_ne (ne_of_none e nD)]
  exact b x z e1 e2 e
section
variable {d c : Addr} {σ : L2.St} {ta : TA} {j n : Nat} {m : Int} {vs : List Nat} {H : Hp} {Q : VK} {K : PySem.W.Frag}
theorem tlc_degs (ht : ∀ (H : Hp) (Q : List V → Hp → Prop), Q [.int m] H → ta σ H Q) (hm : m.toNat = n) (m1 : -(2 ^ 62) ≤ m) (m2 : m < 2 ^ 62) (hn : n ≤ 1000)
    (hw : ∀ x : V, wipe ((wipe σ vs).set j (some x)) vs = wipe σ vs) (h1 : ∀ x : V, ((wipe σ vs).set j (some x))[1]? = some (some (.ref d)))
    (hk : Deck H d c) (k : ∀ (D : Addr) (H' : Hp) (l : List Nat), But d c H H' → Deck H' d c → H D = none → D ≠ c → l.length = n → (∀ x ∈ l, 2 ≤ x ∧ x ≤ 6) → H' D = some (.lst (iv l)) → Q (.ref D) H') :
    tLc (iRng1 ta) (gName j) tYes (tOp (rI0 fun i j => V.int (i + j)) (tC (V.int 2)) (tCall K13.spDraw [] E0 (tCons (tVar 1) (tCons (tC (V.int 5)) tNil)))) vs σ H Q := by
  refine ht H _ ⟨m, rfl, m1, m2, fun D nD => ?_⟩
  rw [hm]
  obtain ⟨nDd, nDc⟩ := hk.new nD
  refine lc_range (lo := 0) (n := n) (fun i H' => But d c H H' ∧ Deck H' d c ∧ ∃ xs : List Nat, xs.length = i ∧ (∀ x ∈ xs, 2 ≤ x ∧ x ≤ 6) ∧ H' D = some (.lst (iv xs))) ⟨But.of (same_new nD), hk.same (same_new nD), [], rfl, (fun x h => by cases h), upd_same⟩ (fun i H4 hi hW => ?_) (fun H4 hW => ?_)
  · obtain ⟨b4, k4, xs, lx, hs, hD⟩ := hW
    refine ⟨hw _, yes_kept ⟨.ref d, h1 _, d, c, 5, rfl, k4, by decide, by decide, fun v H5 hv b5 k5 => ⟨2, _, rfl, rfl, ?_⟩⟩⟩
    refine ⟨_, b5 _ _ nDd nDc hD, ?_, but_upd (b4.trans b5) nD, k5.off nDd nDc, xs ++ [2 + v], by rw [List.length_append, lx]; rfl, fun x hx => ?_, ?_⟩
    · rw [List.length_map]
      exact Nat.lt_of_lt_of_le (show xs.length < 1000 by omega) (by decide)
    · rcases List.mem_append.mp hx with hx | hx
      · exact hs x hx
      · rw [List.mem_singleton.mp hx]
        omega
    · rw [upd_same]
      show _ = some (HO.lst (List.map _ _))
      rw [List.map_append]
      show _ = some (HO.lst (_ ++ [V.int ((2 + v : Nat) : Int)]))
      rw [Int.natCast_add]
      rfl
  · obtain ⟨b4, k4, xs, lx, hs, hD⟩ := hW
    exact k D H4 xs b4 k4 nD nDc lx hs hD
end
section
variable {q : Nat} [FF : IsF q] {K : PySem.W.Frag} {H : Hp} {σ : L2.St}
theorem nib {X Y : TE} {A4 : Addr} {ds : List Nat} {m n : Nat} (h2 : σ[2]? = some (some (.int (q : Nat)))) (h4 : σ[4]? = some (some (.ref A4))) (h5 : σ[5]? = some (some (.int (Cnt.strt q : Nat)))) (hX : Yl X σ H (.int (m : Nat))) (hY : Yl Y σ H (.int (n : Nat))) (hD : Dgs K H A4 ds)
    (hm : m < mP q ds) (hn : n < Cnt.strt q) {Q : Bool → Hp → Prop} (k : ∀ H', Same H H' → Q false H') : tNot (tB (tCall (spInB K) [] E0 (tCons (tVar 2) (tCons (tVar 4) (tCons X (tCons Y (tCons (tVar 5) tNil))))))) σ H Q := by
  refine ⟨_, h2, _, h4, hX _ (hY _ ⟨_, h5, q, FF, A4, ds, m, n, rfl, hD, by rw [mP_rev]; exact hm, hn, fun H' s => ?_⟩)⟩
  exact ⟨true, rfl, k H' s⟩
theorem seq_no {c : TT} {t rest : TS} {D : Ends} {P : Hp → Prop} (h : ∀ Q : Bool → Hp → Prop, (∀ H', P H' → Q false H') → c σ H Q) (k : ∀ H', P H' → rest D σ H') : tSeq (tIfS c t tNext) rest D σ H := h _ fun H' p => iteF (k H' p)
theorem ifs_no {c : TT} {t : TS} {D : Ends} {P : Hp → Prop} (h : ∀ Q : Bool → Hp → Prop, (∀ H', P H' → Q false H') → c σ H Q) (k : ∀ H', P H' → D.nx σ H') : tIfS c t tNext D σ H := h _ fun H' p => iteF (k H' p)
theorem or_no {A B : TT} (hA : ∀ Q : Bool → Hp → Prop, (∀ H', Same H H' → Q false H') → A σ H Q) (hB : ∀ H1, Same H H1 → ∀ Q : Bool → Hp → Prop, (∀ H', Same H1 H' → Q false H') → B σ H1 Q) :
    ∀ Q : Bool → Hp → Prop, (∀ H', Same H H' → Q false H') → tOr A B σ H Q := fun Q k => hA _ fun H1 s1 => iteF (hB H1 s1 Q fun H' s' => k H' (s1.trans s'))
theorem strt_pos (h : q ∈ fields) : 0 < Cnt.strt q := by
  have a : fields.all (fun q => decide (0 < Cnt.strt q)) = true := by decide +kernel
  exact of_decide_eq_true (List.all_eq_true.mp a q h)
end
def spLaw (K : PySem.W.Frag) : Sp := fun vs H Q _ => ∃ (a : Addr) (ns : List Int), vs = [.ref a] ∧ SqL K H a (ns.map V.int) ∧ ns.length ≤ 63 ∧ ∀ H', Q (.bl true) H'
end BP
namespace K13
open PySem PySem.Spec PyProof.Rows L2 BP Fld
section
variable {P : Program} {w : World} {K : PySem.W.Frag} {mg : Str → Option Value} {base : Heap}
theorem ok_law {f fDK fSF fD fMP fMS fMT fED fPL fST fDP fIB fAL : Addr} {fd fdDK fdSF fdD fdMP fdMS fdMT fdED fdPL fdST fdDP fdIB fdAL : FuncData} (F : Fun K "law" "law" sLaw f fd) (DK : BP.Can P w K mg base "_law_deck" 1 pLDeck (spDeck K) fDK fdDK) (SF : BP.Can P w K mg base "_law_some_field" 3 pLSomeField spSF fSF fdSF) (D : BP.Can P w K mg base "_law_draw" 1 pLDraw spDraw fD fdD)
    (MP : BP.Can P w K mg base "_law_many_places" 2 pLManyPlaces (spMPl K) fMP fdMP) (MS : BP.Can P w K mg base "many_straight" 1 pManyStraight spStr fMS fdMS) (MT : BP.Can P w K mg base "many_steps" 2 pManySteps (spStp K) fMT fdMT) (ED : BP.Can P w K mg base "_law_edge" 3 pLEdge spEdge fED fdED)
    (PLO : BP.Can P w K mg base "place_of" 8 pPlaceOf (spPOf K) fPL fdPL) (STA : BP.Can P w K mg base "step_at" 5 pStepAt (spStAt K) fST fdST) (DPT : BP.Can P w K mg base "depth" 8 pDepth (spDpt K) fDP fdDP)
    (IB : GFn P w K mg base 9 fIB fdIB pLInBlock (spInB K)) (gIB : mg "_law_in_block" = some (.ref fIB)) (kIB : PySem.W.keepIn K (.ref fIB) = true) (bIB : Binds K fdIB pLInBlock [])
    (AL : GFn P w K mg base 9 fAL fdAL pLAlongChain (spAlC K)) (gAL : mg "_law_along_chain" = some (.ref fAL)) (kAL : PySem.W.keepIn K (.ref fAL) = true) (bAL : Binds K fdAL pLAlongChain [])
    (kb_step_at : KBinds K fdST pStepAt ["number", "degrees", "q"] rv3 rv3) (kb_many_steps : KBinds K fdMT pManySteps ["degrees", "q"] sw2 sw2) (m_repr : mg "repr" = none) (m_range : mg "range" = none) (m_tuple : mg "tuple" = none) : GFn P w K mg base 10 f fd pLaw (spLaw K) := by
  refine gok F scLaw (fun vs H Q E h => ?_) (fun cdv A outer s H vs Q E hgd hr h => ?_)
  · obtain ⟨a, ns, rfl, _⟩ := h
    rfl
  · obtain ⟨a, ns, rfl, hS, hl, want⟩ := h
    have hrDK := hr.mono (show 1 ≤ 9 by decide)
    have hrSF := hr.mono (show 3 ≤ 9 by decide)
    have hrD := hr.mono (show 1 ≤ 9 by decide)
    have hrMP := hr.mono (show 2 ≤ 9 by decide)
    have hrMS := hr.mono (show 1 ≤ 9 by decide)
    have hrMT := hr.mono (show 2 ≤ 9 by decide)
    have hrED := hr.mono (show 3 ≤ 9 by decide)
    have hrPLO := hr.mono (show 8 ≤ 9 by decide)
    have hrSTA := hr.mono (show 5 ≤ 9 by decide)
    have hrDPT := hr.mono (show 8 ≤ 9 by decide)
    refine ⟨_, (pss_cons (ps_set (i := 1) scLaw.nd rfl (.inr rfl) (pe_call DK.ok hrDK (by rfl) DK.g DK.kp DK.b .nil pass0 (pa_cons (pv 0) pa_nil)))
      (pss_cons (ps_par (i := 2) (j := 3) (by rfl) scLaw.nd rfl rfl (by decide) rfl rfl (pa_cons (pe_call SF.ok hrSF (by rfl) SF.g SF.kp SF.b .nil pass0 (pa_cons (pv 1) pa_nil)) (pa_cons (pe_call D.ok hrD (by rfl) D.g D.kp D.b .nil pass0 (pa_cons (pv 1) (pa_cons pe_int pa_nil))) pa_nil)) (by rfl))
      (pss_cons (ps_if (pt_cmpR op_eq (pe_call D.ok hrD (by rfl) D.g D.kp D.b .nil pass0 (pa_cons (pv 1) (pa_cons pe_int pa_nil))) pe_int (nomark _)) (pss_one (ps_set (i := 3) scLaw.nd rfl (.inl rfl) (pe_op op_sub pe_int (pe_call D.ok hrD (by rfl) D.g D.kp D.b .nil pass0 (pa_cons (pv 1) (pa_cons pe_int pa_nil)))))) pss_nil)
      (pss_cons (ps_set (i := 4) scLaw.nd rfl (.inl rfl) (pe_tupleOf rfl m_tuple (pe_lc (own := [("_law_turn", 10)]) (g := gName 10) (tt := tYes) rfl scLaw.nd (pi_range1 rfl m_range (pa_cons (pv 3) pa_nil)) (blkOk_by (N := nLaw) (sc := defScope sLaw) (by decide +kernel)) (fun _ _ _ _ _ => (pg_name (i := 10) scLaw.nd rfl (.inl rfl))) (fun _ _ _ _ _ => pts_nil) (fun _ _ _ _ _ => (pe_op op_add pe_int (pe_call D.ok hrD (by rfl) D.g D.kp D.b .nil pass0 (pa_cons (pv 1) (pa_cons pe_int pa_nil))))))))
      (pss_cons (ps_par (i := 5) (j := 6) (by rfl) scLaw.nd rfl rfl (by decide) rfl rfl (pa_cons (pe_op op_mul (pe_op op_mul (pe_op op_mul (pe_op op_sub (pe_op op_mul (pv 2) (pv 2)) pe_int) (pe_op op_sub (pe_op op_mul (pv 2) (pv 2)) (pv 2))) (pv 2)) (pv 2)) (pa_cons (pe_call MP.ok hrMP (by rfl) MP.g MP.kp MP.b .nil pass0 (pa_cons (pv 2) (pa_cons (pv 4) pa_nil))) pa_nil)) (by rfl))
      (pss_cons (ps_if (pt_cmpR op_ne (pe_callB (call_repr_data hgd hr.units) (by rfl) m_repr (by decide +kernel) (pa_cons (pe_tup (pa_cons (pe_call MS.ok hrMS (by rfl) MS.g MS.kp MS.b .nil pass0 (pa_cons (pv 2) pa_nil)) (pa_cons (pe_call MT.ok hrMT (by rfl) MT.g MT.kp MT.b .nil pass0 (pa_cons (pv 2) (pa_cons (pv 4) pa_nil))) pa_nil))) pa_nil)) (pe_callB (call_repr_data hgd hr.units) (by rfl) m_repr (by decide +kernel) (pa_cons (pe_tup (pa_cons (pv 5) (pa_cons (pe_op op_mul (pv 6) (pv 5)) pa_nil))) pa_nil)) (nomark _)) (pss_one (ps_ret pe_bl)) pss_nil)
      (pss_cons (ps_par (i := 7) (j := 8) (by rfl) scLaw.nd rfl rfl (by decide) rfl rfl (pa_cons (pe_call ED.ok hrED (by rfl) ED.g ED.kp ED.b .nil pass0 (pa_cons (pv 1) (pa_cons (pv 6) pa_nil))) (pa_cons (pe_call ED.ok hrED (by rfl) ED.g ED.kp ED.b .nil pass0 (pa_cons (pv 1) (pa_cons (pv 5) pa_nil))) pa_nil)) (by rfl))
      (pss_cons (ps_if (pt_not (pt_val (pe_callG IB hgd hr (by rfl) gIB kIB bIB pass0 (pa_cons (pv 2) (pa_cons (pv 4) (pa_cons (pv 7) (pa_cons (pv 8) (pa_cons (pv 5) pa_nil)))))))) (pss_one (ps_ret pe_bl)) pss_nil)
      (pss_cons (ps_set (i := 9) scLaw.nd rfl (.inl rfl) (pe_call PLO.ok hrPLO (by rfl) PLO.g PLO.kp PLO.b .nil pass0 (pa_cons (pv 2) (pa_cons (pe_callK0 STA.ok hrSTA (by rfl) STA.g STA.kp kb_step_at pass0 (pk_cons (pe_op op_add (pe_op op_mul (pv 7) (pv 5)) (pv 8)) (pk_cons (pv 4) (pk_cons (pv 2) pk_nil)))) (pa_cons pe_str pa_nil)))))
      (pss_cons (ps_if (PW.pt (pw_or (pt_not (pt_val (pe_callG IB hgd hr (by rfl) gIB kIB bIB pass0 (pa_cons (pv 2) (pa_cons (pv 4) (pa_cons (pv 7) (pa_cons pe_int (pa_cons (pv 5) pa_nil)))))))) (pw_or1 (pt_not (pt_val (pe_callG IB hgd hr (by rfl) gIB kIB bIB pass0 (pa_cons (pv 2) (pa_cons (pv 4) (pa_cons (pv 7) (pa_cons (pe_op op_sub (pv 5) pe_int) (pa_cons (pv 5) pa_nil))))))))))) (pss_one (ps_ret pe_bl)) pss_nil)
      (pss_cons (ps_if (PW.pt (pw_and (pt_cmpR op_gt (pv 7) pe_int (nomark _)) (pw_and1 (pt_not (pt_val (pe_callG IB hgd hr (by rfl) gIB kIB bIB pass0 (pa_cons (pv 2) (pa_cons (pv 4) (pa_cons (pe_op op_sub (pv 7) pe_int) (pa_cons (pe_op op_sub (pv 5) pe_int) (pa_cons (pv 5) pa_nil))))))))))) (pss_one (ps_ret pe_bl)) pss_nil)
      (pss_cons (ps_if (PW.pt (pw_and (pt_cmpR op_lt (pe_op op_add (pv 7) pe_int) (pv 6) (nomark _)) (pw_and1 (pt_not (pt_val (pe_callG IB hgd hr (by rfl) gIB kIB bIB pass0 (pa_cons (pv 2) (pa_cons (pv 4) (pa_cons (pe_op op_add (pv 7) pe_int) (pa_cons pe_int (pa_cons (pv 5) pa_nil))))))))))) (pss_one (ps_ret pe_bl)) pss_nil)
      (pss_cons (ps_if (pt_cmpR op_ne (pe_callB SkE.call_repr_int (by rfl) m_repr (by decide +kernel) (pa_cons (pe_call DPT.ok hrDPT (by rfl) DPT.g DPT.kp DPT.b .nil pass0 (pa_cons (pv 2) (pa_cons (pv 9) pa_nil))) pa_nil)) (pe_callB SkE.call_repr_int (by rfl) m_repr (by decide +kernel) (pa_cons (pe_op op_mul pe_int (pv 3)) pa_nil)) (nomark _)) (pss_one (ps_ret pe_bl)) pss_nil)
      (pss_one (ps_ret (pe_cmpR op_eq (pe_op op_mul (pe_callG AL hgd hr (by rfl) gAL kAL bAL pass0 (pa_cons (pv 1) (pa_cons (pv 2) (pa_cons (pv 9) pa_nil)))) (pv 5)) (pe_callK0 MT.ok hrMT (by rfl) MT.g MT.kp kb_many_steps pass0 (pk_cons (pv 4) (pk_cons (pv 2) pk_nil))) (nomark _))))))))))))))))), ?_⟩
    refine ⟨.ref a, rfl, a, ns, rfl, hS, hl, fun d c H1 s1 nd nc hk => ?_⟩
    show tSeq _ _ _ [some (.ref a), some (.ref d), none, none, none, none, none, none, none, none, none] H1
    refine ⟨.ref d, rfl, d, c, rfl, hk, fun q H2 hq b2 k2 => ?_⟩
    refine ⟨.ref d, rfl, d, c, 5, rfl, k2, by decide, by decide, fun mn H3 hmn b3 k3 => ?_⟩
    dsimp only [tNil]
    refine ⟨_, _, rfl, ?_⟩
    haveI FF : IsF q := ⟨hq⟩
    show tSeq _ _ _ [some (.ref a), some (.ref d), some (.int q), some (.int mn), none, none, none, none, none, none, none] H3
    refine tSeq_by (fun σ' H' => Deck H' d c ∧ ∃ mn : Nat, mn ≤ 12 ∧ σ' = [some (.ref a), some (.ref d), some (.int q), some (.int mn), none, none, none, none, none, none, none]) (fun σ' H' hI => ?_) (fun nx hnx => ?_)
    case refine_2 =>
      refine ⟨.ref d, rfl, d, c, 8, rfl, k3, by decide, by decide, fun x H4 hx b4 k4 => ⟨rfl, _, rfl, ite2 (fun _ => ?_) (fun _ => hnx _ _ ⟨k4, mn, by omega, rfl⟩)⟩⟩
      refine ⟨.ref d, rfl, d, c, 3, rfl, k4, by decide, by decide, fun y H5 hy b5 k5 => ⟨12, y, rfl, rfl, hnx _ _ ⟨k5, 12 - y, by omega, ?_⟩⟩⟩
      rw [Int.ofNat_sub (by omega)]
      rfl
    case refine_1 =>
      obtain ⟨kk, mn, hmn, rfl⟩ := hI
      clear k3 b3 b2 k2 hk
      refine seq_of ?_
      refine tlc_degs (n := mn) (m := mn) (d := d) (c := c) (fun H Q k => ⟨_, rfl, k⟩) rfl (by omega) (by omega) (by omega) (fun _ => rfl) (fun _ => rfl) kk fun L H4 ds b4 k4 nL nLc lds hds hL => ?_
      refine .inl ⟨L, _, rfl, .inl (.inl hL), fun A4 nA => ?_⟩
      have s5 := same_new (o := .tup (iv ds)) nA
      generalize hH5 : upd H4 A4 (.tup (iv ds)) = H5 at s5 ⊢
      have hA : SqT K H5 A4 (iv ds) := by rw [← hH5]; exact .inl (.inl upd_same)
      have k5 := k4.same s5
      have hD : Dgs K H5 A4 ds := ⟨hA, hds, by omega⟩
      show tSeq _ _ _ [some (.ref a), some (.ref d), some (.int q), some (.int mn), some (.ref A4), none, none, none, none, none, none] H5
      have q16 := le16 hq
      have cq : ∀ i : Int, CMul i (q : Int) := fun i => cmr (by omega)
      have cq2 : ∀ i : Int, CMul i ((q : Int) * q - q) := by
        intro i
        have h1 : (q : Int) * q ≤ 16 * 16 := Int.mul_le_mul (by omega) (by omega) (by omega) (by omega)
        have h2 : 0 ≤ (q : Int) * q := Int.mul_nonneg (by omega) (by omega)
        exact .inr ⟨by omega, by omega⟩
      have eN : Cnt.chs q ds = mP q ds := by
        have e1 := mP_chs (q := q) ds.reverse
        rw [List.reverse_reverse, mP_rev] at e1
        exact e1.symm
      have mb : mP q ds ≤ 17 * 16 ^ 11 * (2 ^ 20) ^ 12 := mP_le (by have := gt1 hq; omega) q16 (fun x h => (hds x h).2) (by omega)
      have N0 : 0 < mP q ds := by
        unfold mP
        split
        · decide
        · exact Nat.mul_pos (Nat.mul_pos (by omega) (Nat.pow_pos (by have := gt1 hq; omega))) (pB_pos (gt1 hq) _)
      have sl := Cnt_strt_lt hq
      obtain ⟨S, eS⟩ : ∃ S, S = Cnt.strt q := ⟨_, rfl⟩
      obtain ⟨N, eNN⟩ : ∃ N, N = mP q ds := ⟨_, rfl⟩
      refine ⟨.int q, rfl, .int q, rfl, q, q, rfl, rfl, cq _, _, 1, rfl, rfl, .int q, rfl, .int q, rfl, q, q, rfl, rfl, cq _, .int q, rfl, _, q, rfl, rfl, _, _, rfl, rfl, cq2 _, .int q, rfl, _, q, rfl, rfl, cq _, .int q, rfl, _, q, rfl, rfl, cq _, ?_⟩
      refine ⟨.int q, rfl, .ref A4, rfl, q, A4, ds, rfl, hq, hD, fun H6 s6 => ?_⟩
      dsimp only [tNil]
      refine ⟨_, _, rfl, ?_⟩
      show tSeq _ _ _ [some (.ref a), some (.ref d), some (.int q), some (.int mn), some (.ref A4), some (.int (((q : Int) * q - 1) * ((q : Int) * q - q) * q * q)), some (.int (mP q ds : Nat)), none, none, none, none] H6
      rw [strt_int hq, ← eNN, ← eS]
      have hDk : ∀ {A B : Hp}, Dgs K A A4 ds → Same A B → Dgs K B A4 ds := fun h s => ⟨BP.Same.tupS s h.1, h.2⟩
      have hDb : ∀ {A B : Hp}, Dgs K A A4 ds → Deck A d c → But d c A B → Dgs K B A4 ds := fun h k b => ⟨But.sqT k b _ _ h.1, h.2⟩
      have hD6 := hDk hD s6
      have k6 := k5.same s6
      have Sb : S < 10 ^ 120 := Nat.lt_of_lt_of_le (by omega : S < 1073741824) (by decide +kernel)
      have Nb : N * S < 10 ^ 120 := by
        have := Nat.mul_le_mul (eNN ▸ mb) (Nat.le_of_lt (eS ▸ sl))
        exact Nat.lt_of_le_of_lt this (by decide +kernel)
      have sw := sw_two (x := S) (y := N * S) Sb Nb
      refine ⟨.int q, rfl, q, rfl, hq, .int q, rfl, .ref A4, rfl, q, A4, ds, rfl, hq, hD6, fun H7 s7 => ?_⟩
      rw [eN, ← eNN, ← eS, Nat.mul_comm S N]
      refine ⟨(by show 2 ≤ sizeLine; decide), fun T1 n1 => ?_⟩
      have t1 := same_new (o := .tup [V.int (S : Nat), V.int (N * S : Nat)]) n1
      have dT : Dp K (upd H7 T1 (.tup [V.int (S : Nat), V.int (N * S : Nat)])) (.ref T1) (.tuple [.int (S : Nat), .int (N * S : Nat)]) := .tup (.inl (.inl upd_same)) (.cons (.int _) (.cons (.int _) .nil))
      generalize upd H7 T1 (.tup [V.int (S : Nat), V.int (N * S : Nat)]) = H8 at t1 dT ⊢
      dsimp only [tNil]
      refine rRepr_ofW dT sw (by decide) (by decide) ?_
      refine ⟨.int S, rfl, (nl_mul (n := N) (m := S) (yl_var (i := 6) rfl) (yl_var (i := 5) rfl) (by omega)) _ ⟨(by show 2 ≤ sizeLine; decide), fun T2 n2 => ?_⟩⟩
      have t2 := same_new (o := .tup [V.int (S : Nat), V.int (N * S : Nat)]) n2
      have dT2 : Dp K (upd H8 T2 (.tup [V.int (S : Nat), V.int (N * S : Nat)])) (.ref T2) (.tuple [.int (S : Nat), .int (N * S : Nat)]) := .tup (.inl (.inl upd_same)) (.cons (.int _) (.cons (.int _) .nil))
      generalize upd H8 T2 (.tup [V.int (S : Nat), V.int (N * S : Nat)]) = H9 at t2 dT2 ⊢
      dsimp only [tNil]
      refine rRepr_ofW dT2 sw (by decide) (by decide) ?_
      refine rNe_sam ⟨false, rfl, iteF ?_⟩
      have s69 := (s7.trans t1).trans t2
      have hD9 := hDk hD6 s69
      have k9 := k6.same s69
      refine ⟨.ref d, rfl, .int N, rfl, d, c, N, rfl, k9, (by omega), fun m Ha hm ba ka => ?_⟩
      refine ⟨.ref d, rfl, .int S, rfl, d, c, S, rfl, ka, (by rw [eS]; exact strt_pos hq), fun n Hb hn bb kb => ?_⟩
      dsimp only [tNil]
      refine ⟨_, _, rfl, ?_⟩
      show tSeq _ _ _ [some (.ref a), some (.ref d), some (.int q), some (.int mn), some (.ref A4), some (.int S), some (.int N), some (.int m), some (.int n), none, none] Hb
      have hDb' := hDb (hDb hD9 k9 ba) ka bb
      subst eS eNN
      have ft := zOf_fit (q := q) (rs := ds.reverse) (fun x h => hds x (List.mem_reverse.mp h)) (by rw [List.length_reverse]; omega) (m := m) (n := n) (by rw [mP_rev]; exact hm) hn
      refine seq_no (P := fun H' => Same Hb H') (fun Q k => nib (q := q) (ds := ds) (m := m) (n := n) rfl rfl rfl (yl_var (i := 7) rfl) (yl_var (i := 8) rfl) hDb' hm hn k) (fun Hc sc => ?_)
      have sp : 0 < Cnt.strt q := by omega
      have eN2 : (m * Cnt.strt q + n) / Cnt.strt q = m := by
        rw [Nat.mul_comm, Nat.mul_add_div sp, Nat.div_eq_of_lt hn, Nat.add_zero]
      have eM2 : (m * Cnt.strt q + n) % Cnt.strt q = n := by
        rw [Nat.mul_comm, Nat.mul_add_mod, Nat.mod_eq_of_lt hn]
      have hN2 : m * Cnt.strt q + n < mP q ds.reverse * Cnt.strt q := by
        rw [mP_rev]
        have := Nat.mul_le_mul_right (Cnt.strt q) (show m + 1 ≤ mP q ds from hm)
        rw [Nat.add_mul, Nat.one_mul] at this
        omega
      have hDc := hDk hDb' sc
      have kc := kb.same sc
      refine ⟨.int q, rfl, (nl_add (nl_mul (yl_var (i := 7) rfl) (yl_var (i := 5) rfl) sl) (yl_var (i := 8) rfl)) _ ⟨.ref A4, rfl, .int q, rfl, q, FF, A4, ds, m * Cnt.strt q + n, rfl, hDc, hN2, fun p Hd sd hz => ?_⟩⟩
      rw [eN2, eM2] at hz
      have eL := zOf_len (q := q) ds.reverse m n
      have eG := zOf_degs (q := q) (rs := ds.reverse) (fun x h => hds x (List.mem_reverse.mp h)) n (m := m) (by rw [mP_rev]; exact hm)
      refine ⟨q, FF, p, _, rfl, hz, ft, fun r He se hr => ?_⟩
      obtain ⟨st, est⟩ : ∃ st, st = (zOf q ds.reverse m n).st := ⟨_, rfl⟩
      obtain ⟨⟨ft1, _⟩, ft2, ft3⟩ := ft
      rw [← est] at hr eL eG ft1 ft2 ft3
      obtain ⟨G, eGG⟩ : ∃ G : Hp → Prop, G = fun H' => Deck H' d c ∧ Dgs K H' A4 ds ∧ PlS K H' r st := ⟨_, rfl⟩
      have g0 : G He := by rw [eGG]; exact ⟨kc.same (sd.trans se), hDk hDc (sd.trans se), hr⟩
      have gS : ∀ {A B : Hp}, G A → Same A B → G B := by
        rw [eGG]
        intro A B g s
        exact ⟨g.1.same s, hDk g.2.1 s, g.2.2.kept s⟩
      have gD : ∀ {A : Hp}, G A → Dgs K A A4 ds := by
        rw [eGG]
        exact fun g => g.2.1
      show tSeq _ _ _ [some (.ref a), some (.ref d), some (.int q), some (.int mn), some (.ref A4), some (.int (Cnt.strt q : Nat)), some (.int (mP q ds : Nat)), some (.int m), some (.int n), some (.ref r), none] He
      refine seq_no (P := fun H' => Same He H') (or_no (fun Q k => nib (q := q) (ds := ds) (m := m) (n := 0) rfl rfl rfl (yl_var (i := 7) rfl) (nl_c 0) (gD g0) hm sp k) (fun Hf sf Q k => nib (q := q) (ds := ds) (m := m) (n := Cnt.strt q - 1) rfl rfl rfl (yl_var (i := 7) rfl) (nl_sub (n := Cnt.strt q) (m := 1) (yl_var (i := 5) rfl) (nl_c 1) (by omega)) (gD (gS g0 sf)) hm (by omega) k)) (fun Hg sg => ?_)
      have g2 := gS g0 sg
      refine tSeq_by (fun σ' H' => G H' ∧ σ' = [some (.ref a), some (.ref d), some (.int q), some (.int mn), some (.ref A4), some (.int (Cnt.strt q : Nat)), some (.int (mP q ds : Nat)), some (.int m), some (.int n), some (.ref r), none]) (fun σ' Hh hI => ?_) (fun nx hnx => ?_)
      case refine_2 =>
        refine ⟨_, rfl, _, 0, rfl, rfl, _, rfl, ite2 (fun h => ?_) (fun h => iteF (hnx _ _ ⟨g2, rfl⟩))⟩
        have m0 : 0 < m := by
          have : (0 : Int) < (m : Nat) := of_decide_eq_true h
          omega
        refine nib (q := q) (ds := ds) (m := m - 1) (n := Cnt.strt q - 1) rfl rfl rfl (nl_sub (n := m) (m := 1) (yl_var (i := 7) rfl) (nl_c 1) (by omega)) (nl_sub (n := Cnt.strt q) (m := 1) (yl_var (i := 5) rfl) (nl_c 1) (by omega)) (gD g2) (by omega) (by omega) (fun Hh sh => ?_)
        exact iteF (hnx _ _ ⟨gS g2 sh, rfl⟩)
      case refine_1 =>
      obtain ⟨g3, rfl⟩ := hI
      refine tSeq_by (fun σ' H' => G H' ∧ σ' = [some (.ref a), some (.ref d), some (.int q), some (.int mn), some (.ref A4), some (.int (Cnt.strt q : Nat)), some (.int (mP q ds : Nat)), some (.int m), some (.int n), some (.ref r), none]) (fun σ' Hi hI => ?_) (fun nx hnx => ?_)
      case refine_2 =>
        refine ⟨_, rfl, _, 1, rfl, rfl, _, rfl, _, _, rfl, rfl, _, rfl, ite2 (fun h => ?_) (fun h => iteF (hnx _ _ ⟨g3, rfl⟩))⟩
        have m0 : m + 1 < mP q ds := by
          have : ((m : Nat) : Int) + 1 < ((mP q ds : Nat) : Int) := of_decide_eq_true h
          omega
        refine nib (q := q) (ds := ds) (m := m + 1) (n := 0) rfl rfl rfl (nl_add (n := m) (m := 1) (yl_var (i := 7) rfl) (nl_c 1)) (nl_c 0) (gD g3) m0 sp (fun Hh sh => ?_)
        exact iteF (hnx _ _ ⟨gS g3 sh, rfl⟩)
      case refine_1 =>
      obtain ⟨g4, rfl⟩ := hI
      rw [eGG] at g4
      obtain ⟨ki, hDi, hPi⟩ := g4
      have pa := pls_pl ft1 hPi
      have po := pls_ok ft1 ft2 ft3
      have lf : (fS st).length = mn := by
        unfold fS
        rw [List.length_reverse, List.length_map, eL, List.length_reverse, lds]
      refine ⟨.int q, rfl, .ref r, rfl, q, FF, r, _, _, _, _, rfl, pa, po, fun Hj sj => ?_⟩
      dsimp only [tNil]
      have ev : (2 * (fS st).length + if false = true then 1 else 0) = 2 * mn := by
        rw [lf]
        rfl
      rw [ev]
      have lg : ((2 * mn : Nat) : Int).natAbs.log2 < 1920 := by
        have := Nat.log2_le_self ((2 * mn : Nat) : Int).natAbs
        omega
      refine ⟨_, rfl, lg, ?_⟩
      refine (nl_mul (n := 2) (m := mn) (nl_c 2) (yl_var (i := 3) rfl) (by omega)) _ ?_
      dsimp only [tNil]
      refine ⟨_, rfl, lg, rNe_sam ⟨false, rfl, iteF ?_⟩⟩
      have kj := ki.same sj
      have paj : PA K Hj r ((false, oS st, uS st, fS st) : Pl q) := pa.kept sj
      have ep : (fS st).map (fun f => f.length - 1) = ds := by
        unfold fS
        rw [List.map_reverse, List.map_map]
        show (st.map fun x => x.2.length - 1).reverse = ds
        rw [eG, List.reverse_reverse]
      have pv : plV ((false, oS st, uS st, fS st) : Pl q) = mP q ds := by
        show Cnt.chs q ((fS st).map fun f => f.length - 1) * 1 = _
        rw [ep, Nat.mul_one, eN]
      refine ⟨.ref d, rfl, .int q, rfl, .ref r, rfl, q, FF, d, c, r, ((false, oS st, uS st, fS st) : Pl q), rfl, kj, paj, po, rfl, (by show (fS st).length ≤ 12; omega), fun Hk bk kk2 => ?_⟩
      rw [pv]
      refine ⟨_, rfl, _, _, rfl, rfl, cm_small sl, .ref A4, rfl, .int q, rfl, q, A4, ds, rfl, hq, hDb (hDk hDi sj) kj bk, fun Hl sL => ⟨rfl, ?_⟩⟩
      rw [eN]
      have ee : V.int (((mP q ds : Nat) : Int) * ((Cnt.strt q : Nat) : Int)) = V.int ((Cnt.strt q * mP q ds : Nat) : Int) := by
        rw [Int.natCast_mul, Int.mul_comm]
      show Q (.bl (decide (V.int (((mP q ds : Nat) : Int) * ((Cnt.strt q : Nat) : Int)) = V.int ((Cnt.strt q * mP q ds : Nat) : Int)))) _
      rw [decide_eq_true ee]
      exact want _
end
end K13
set_option Elab.async false
set_option linter.all false
set_option maxRecDepth 100000
set_option maxHeartbeats 8000000
set_option pp.maxSteps 400
namespace BP
open PySem PySem.Spec PyProof.Rows L2 Fld
/-- the root, as the top has written it -/
def rootIs (K : PySem.W.Frag) (p : Addr) : Bool := match K.lookup p with
  | some ⟨.type "tuple", none, .seq its _, _⟩ => decide (its.size ≤ sizeLine) && (match its.toList with
    | [.str s _, .int i _, b, t] => decide (s = "straight") && decide (i = -1) && rowIs K b [] && rowIs K t []
    | _ => false)
  | _ => false
theorem root_at {K : PySem.W.Frag} {p : Addr} (h : rootIs K p = true) : ∀ (H : Hp) (q : Nat) [IsF q], PlAt (q := q) K H p false none [] [] := by
  unfold rootIs at h
  split at h
  · rename_i its n sl e
    rw [Bool.and_eq_true, decide_eq_true_eq] at h
    obtain ⟨hz, h⟩ := h
    split at h
    · rename_i s tk0 i tk b t ei
      simp only [Bool.and_eq_true, decide_eq_true_eq] at h
      obtain ⟨⟨⟨e0, e1⟩, h2⟩, h3⟩ := h
      obtain ⟨pb, rfl, hb, _⟩ := row_is h2
      obtain ⟨pt, rfl, ht, _⟩ := row_is h3
      subst e0 e1
      intro H q FF
      refine ⟨[], pb, pt, .inr ⟨_, its, n, e, rfl, rfl, hz, ?_⟩, hb H, trivial, ht H⟩
      rw [ei]
      exact .cons ⟨tk0, rfl⟩ (.cons ⟨tk, rfl⟩ (.cons rfl (.cons rfl .nil)))
    · cases h
  · cases h
theorem same_at {K : PySem.W.Frag} {p : Addr} (h : rowIs K (.ref p) [1, 0, 0, 0, 1, 0] = true) : ∀ (H : Hp) (q : Nat) [IsF q], SqT K H p (mv (same : Mat q)) := by
  obtain ⟨p', e, hp, _⟩ := row_is h
  cases e
  intro H q FF
  have e : mv (Fld.same : Mat q) = [.int 1, .int 0, .int 0, .int 0, .int 1, .int 0] := by
    unfold mv Fld.same
    simp only []
    rw [vn_one, vn_zero]
  rw [e]
  exact hp H
theorem lt3_rel : ∀ {vs : List V} {us : List Value} {zs : List V} {ws : List Value}, Vals vs us → Vals zs ws → Vals (lt3 vs zs) (lt3 us ws)
  | _, _, _, _, .nil, .cons a (.cons b (.cons c _)) => .cons c (.cons a (.cons b .nil))
  | _, _, _, _, .nil, .nil => .nil
  | _, _, _, _, .nil, .cons _ .nil => .nil
  | _, _, _, _, .nil, .cons _ (.cons _ .nil) => .nil
  | _, _, _, _, .cons _ _, .nil => .nil
  | _, _, _, _, .cons _ _, .cons _ .nil => .nil
  | _, _, _, _, .cons _ _, .cons _ (.cons _ .nil) => .nil
  | _, _, _, _, .cons _ _, .cons _ (.cons _ (.cons _ _)) => .nil
section
variable {K : PySem.W.Frag} {x qual : Str} {st : Stmt} {f : Addr} {fd : FuncData}
theorem kb_lt3 {a b c : Str} (F : Fun K x qual st f fd)
    (h : ∀ (kV doc pm : Value) (an : Option Addr) (cdv ct u v w : Value), bindArgs (PySem.W.fnOf x qual (defArgs st) (defBody st) (defScope st) .none kV doc pm an cdv ct) ⟨[], [(b, u), (c, v), (a, w)]⟩ = pure [(a, w), (b, u), (c, v)]) : KBinds K fd [a, b, c] [b, c, a] lt3 lt3 := by
  obtain ⟨oc, od, kV, doc, pm, an, cdv, ct, osl, rfl, _⟩ := F.ex
  refine ⟨fun s us ws _ hl => ?_, lt3_rel⟩
  match us, ws, hl with
  | [], u :: v :: w :: r, _ => exact .of_eq (h kV doc pm an cdv ct u v w)
end
end BP
namespace K13
open PySem PySem.Spec PyProof.Rows L2 BP Fld
/-! What the top has written. -/
theorem all_mk {l : PySem.W.OpenLaw} {w : World} {K : PySem.W.Frag} {h : Heap} {mg : Str → Option Value} {fa : Addr} (X : K.In h) (G : h.Ns mainGlobals mg) (hfa : mg "law" = some (.ref fa))
    {dS dP aM : Addr} {tk : Tok} (aS : PySem.W.nsIn K mainGlobals "SUMS" = some (some (.ref dS))) (aP : PySem.W.nsIn K mainGlobals "PRODUCTS" = some (some (.ref dP))) (tS : tabIs K dS Fld.S = true) (tP : tabIs K dP Fld.M = true)
    (aN : PySem.W.nsIn K mainGlobals "NO_TURN" = some (some (.int (-1) tk))) (aI : PySem.W.nsIn K mainGlobals "NOTHING" = some (some (.ref aM))) (tI : nothIs K aM = true)
    {t1 t2 : Tok} {aR aS0 : Addr} (aST : PySem.W.nsIn K mainGlobals "STRAIGHT" = some (some (.str "straight" t1))) (aBE : PySem.W.nsIn K mainGlobals "BENT" = some (some (.str "bent" t2))) (aRO : PySem.W.nsIn K mainGlobals "ROOT" = some (some (.ref aR))) (tR : rootIs K aR = true) (aSA : PySem.W.nsIn K mainGlobals "SAME" = some (some (.ref aS0))) (tA : rowIs K (.ref aS0) [1, 0, 0, 0, 1, 0] = true)
    {f0 : Addr} {od0 an0 : Option Addr} {sl0 : Array (Option Value)} {oc0 kV0 dc0 pm0 cd0 ct0 : Value}
    {f1 : Addr} {od1 an1 : Option Addr} {sl1 : Array (Option Value)} {oc1 kV1 dc1 pm1 cd1 ct1 : Value}
    {f2 : Addr} {od2 an2 : Option Addr} {sl2 : Array (Option Value)} {oc2 kV2 dc2 pm2 cd2 ct2 : Value}
    {f3 : Addr} {od3 an3 : Option Addr} {sl3 : Array (Option Value)} {oc3 kV3 dc3 pm3 cd3 ct3 : Value}
    {f4 : Addr} {od4 an4 : Option Addr} {sl4 : Array (Option Value)} {oc4 kV4 dc4 pm4 cd4 ct4 : Value}
    {f5 : Addr} {od5 an5 : Option Addr} {sl5 : Array (Option Value)} {oc5 kV5 dc5 pm5 cd5 ct5 : Value}
    {f6 : Addr} {od6 an6 : Option Addr} {sl6 : Array (Option Value)} {oc6 kV6 dc6 pm6 cd6 ct6 : Value}
    {f7 : Addr} {od7 an7 : Option Addr} {sl7 : Array (Option Value)} {oc7 kV7 dc7 pm7 cd7 ct7 : Value}
    {f8 : Addr} {od8 an8 : Option Addr} {sl8 : Array (Option Value)} {oc8 kV8 dc8 pm8 cd8 ct8 : Value}
    {f9 : Addr} {od9 an9 : Option Addr} {sl9 : Array (Option Value)} {oc9 kV9 dc9 pm9 cd9 ct9 : Value}
    {f10 : Addr} {od10 an10 : Option Addr} {sl10 : Array (Option Value)} {oc10 kV10 dc10 pm10 cd10 ct10 : Value}
    {f11 : Addr} {od11 an11 : Option Addr} {sl11 : Array (Option Value)} {oc11 kV11 dc11 pm11 cd11 ct11 : Value}
    {f12 : Addr} {od12 an12 : Option Addr} {sl12 : Array (Option Value)} {oc12 kV12 dc12 pm12 cd12 ct12 : Value}
    {f13 : Addr} {od13 an13 : Option Addr} {sl13 : Array (Option Value)} {oc13 kV13 dc13 pm13 cd13 ct13 : Value}
    {f14 : Addr} {od14 an14 : Option Addr} {sl14 : Array (Option Value)} {oc14 kV14 dc14 pm14 cd14 ct14 : Value}
    {f15 : Addr} {od15 an15 : Option Addr} {sl15 : Array (Option Value)} {oc15 kV15 dc15 pm15 cd15 ct15 : Value}
    {f16 : Addr} {od16 an16 : Option Addr} {sl16 : Array (Option Value)} {oc16 kV16 dc16 pm16 cd16 ct16 : Value}
    {f17 : Addr} {od17 an17 : Option Addr} {sl17 : Array (Option Value)} {oc17 kV17 dc17 pm17 cd17 ct17 : Value}
    {f18 : Addr} {od18 an18 : Option Addr} {sl18 : Array (Option Value)} {oc18 kV18 dc18 pm18 cd18 ct18 : Value}
    {f19 : Addr} {od19 an19 : Option Addr} {sl19 : Array (Option Value)} {oc19 kV19 dc19 pm19 cd19 ct19 : Value}
    {f20 : Addr} {od20 an20 : Option Addr} {sl20 : Array (Option Value)} {oc20 kV20 dc20 pm20 cd20 ct20 : Value}
    {f21 : Addr} {od21 an21 : Option Addr} {sl21 : Array (Option Value)} {oc21 kV21 dc21 pm21 cd21 ct21 : Value}
    {f22 : Addr} {od22 an22 : Option Addr} {sl22 : Array (Option Value)} {oc22 kV22 dc22 pm22 cd22 ct22 : Value}
    {f23 : Addr} {od23 an23 : Option Addr} {sl23 : Array (Option Value)} {oc23 kV23 dc23 pm23 cd23 ct23 : Value}
    {f24 : Addr} {od24 an24 : Option Addr} {sl24 : Array (Option Value)} {oc24 kV24 dc24 pm24 cd24 ct24 : Value}
    {f25 : Addr} {od25 an25 : Option Addr} {sl25 : Array (Option Value)} {oc25 kV25 dc25 pm25 cd25 ct25 : Value}
    {f26 : Addr} {od26 an26 : Option Addr} {sl26 : Array (Option Value)} {oc26 kV26 dc26 pm26 cd26 ct26 : Value}
    {f27 : Addr} {od27 an27 : Option Addr} {sl27 : Array (Option Value)} {oc27 kV27 dc27 pm27 cd27 ct27 : Value}
    {f28 : Addr} {od28 an28 : Option Addr} {sl28 : Array (Option Value)} {oc28 kV28 dc28 pm28 cd28 ct28 : Value}
    {f29 : Addr} {od29 an29 : Option Addr} {sl29 : Array (Option Value)} {oc29 kV29 dc29 pm29 cd29 ct29 : Value}
    {f30 : Addr} {od30 an30 : Option Addr} {sl30 : Array (Option Value)} {oc30 kV30 dc30 pm30 cd30 ct30 : Value}
    {f31 : Addr} {od31 an31 : Option Addr} {sl31 : Array (Option Value)} {oc31 kV31 dc31 pm31 cd31 ct31 : Value}
    {f32 : Addr} {od32 an32 : Option Addr} {sl32 : Array (Option Value)} {oc32 kV32 dc32 pm32 cd32 ct32 : Value}
    {f33 : Addr} {od33 an33 : Option Addr} {sl33 : Array (Option Value)} {oc33 kV33 dc33 pm33 cd33 ct33 : Value}
    {f34 : Addr} {od34 an34 : Option Addr} {sl34 : Array (Option Value)} {oc34 kV34 dc34 pm34 cd34 ct34 : Value}
    {f35 : Addr} {od35 an35 : Option Addr} {sl35 : Array (Option Value)} {oc35 kV35 dc35 pm35 cd35 ct35 : Value}
    {f36 : Addr} {od36 an36 : Option Addr} {sl36 : Array (Option Value)} {oc36 kV36 dc36 pm36 cd36 ct36 : Value}
    {f37 : Addr} {od37 an37 : Option Addr} {sl37 : Array (Option Value)} {oc37 kV37 dc37 pm37 cd37 ct37 : Value}
    {f38 : Addr} {od38 an38 : Option Addr} {sl38 : Array (Option Value)} {oc38 kV38 dc38 pm38 cd38 ct38 : Value}
    {f39 : Addr} {od39 an39 : Option Addr} {sl39 : Array (Option Value)} {oc39 kV39 dc39 pm39 cd39 ct39 : Value}
    {f40 : Addr} {od40 an40 : Option Addr} {sl40 : Array (Option Value)} {oc40 kV40 dc40 pm40 cd40 ct40 : Value}
    {f41 : Addr} {od41 an41 : Option Addr} {sl41 : Array (Option Value)} {oc41 kV41 dc41 pm41 cd41 ct41 : Value}
    {f42 : Addr} {od42 an42 : Option Addr} {sl42 : Array (Option Value)} {oc42 kV42 dc42 pm42 cd42 ct42 : Value}
    {f43 : Addr} {od43 an43 : Option Addr} {sl43 : Array (Option Value)} {oc43 kV43 dc43 pm43 cd43 ct43 : Value}
    {f44 : Addr} {od44 an44 : Option Addr} {sl44 : Array (Option Value)} {oc44 kV44 dc44 pm44 cd44 ct44 : Value}
    {f45 : Addr} {od45 an45 : Option Addr} {sl45 : Array (Option Value)} {oc45 kV45 dc45 pm45 cd45 ct45 : Value}
    {f46 : Addr} {od46 an46 : Option Addr} {sl46 : Array (Option Value)} {oc46 kV46 dc46 pm46 cd46 ct46 : Value}
    {f47 : Addr} {od47 an47 : Option Addr} {sl47 : Array (Option Value)} {oc47 kV47 dc47 pm47 cd47 ct47 : Value}
    {f48 : Addr} {od48 an48 : Option Addr} {sl48 : Array (Option Value)} {oc48 kV48 dc48 pm48 cd48 ct48 : Value}
    {f49 : Addr} {od49 an49 : Option Addr} {sl49 : Array (Option Value)} {oc49 kV49 dc49 pm49 cd49 ct49 : Value}
    {f50 : Addr} {od50 an50 : Option Addr} {sl50 : Array (Option Value)} {oc50 kV50 dc50 pm50 cd50 ct50 : Value}
    {f51 : Addr} {od51 an51 : Option Addr} {sl51 : Array (Option Value)} {oc51 kV51 dc51 pm51 cd51 ct51 : Value}
    {f52 : Addr} {od52 an52 : Option Addr} {sl52 : Array (Option Value)} {oc52 kV52 dc52 pm52 cd52 ct52 : Value}
    {f53 : Addr} {od53 an53 : Option Addr} {sl53 : Array (Option Value)} {oc53 kV53 dc53 pm53 cd53 ct53 : Value}
    (a0 : PySem.W.nsIn K mainGlobals "_law_deck" = some (some (.ref f0))) (l0 : K.lookup f0 = some ⟨oc0, od0, .func (PySem.W.fnOf "_law_deck" "_law_deck" (defArgs sLDeck) (defBody sLDeck) (defScope sLDeck) .none kV0 dc0 pm0 an0 cd0 ct0), sl0⟩) (e0 : PySem.W.codeIn K cd0 "_law_deck" = true) (k0 : PySem.W.keepIn K (.ref f0) = true)
    (a1 : PySem.W.nsIn K mainGlobals "_law_draw" = some (some (.ref f1))) (l1 : K.lookup f1 = some ⟨oc1, od1, .func (PySem.W.fnOf "_law_draw" "_law_draw" (defArgs sLDraw) (defBody sLDraw) (defScope sLDraw) .none kV1 dc1 pm1 an1 cd1 ct1), sl1⟩) (e1 : PySem.W.codeIn K cd1 "_law_draw" = true) (k1 : PySem.W.keepIn K (.ref f1) = true)
    (a2 : PySem.W.nsIn K mainGlobals "_law_pick" = some (some (.ref f2))) (l2 : K.lookup f2 = some ⟨oc2, od2, .func (PySem.W.fnOf "_law_pick" "_law_pick" (defArgs sLPick) (defBody sLPick) (defScope sLPick) .none kV2 dc2 pm2 an2 cd2 ct2), sl2⟩) (e2 : PySem.W.codeIn K cd2 "_law_pick" = true) (k2 : PySem.W.keepIn K (.ref f2) = true)
    (a3 : PySem.W.nsIn K mainGlobals "_law_some_field" = some (some (.ref f3))) (l3 : K.lookup f3 = some ⟨oc3, od3, .func (PySem.W.fnOf "_law_some_field" "_law_some_field" (defArgs sLSomeField) (defBody sLSomeField) (defScope sLSomeField) .none kV3 dc3 pm3 an3 cd3 ct3), sl3⟩) (e3 : PySem.W.codeIn K cd3 "_law_some_field" = true) (k3 : PySem.W.keepIn K (.ref f3) = true)
    (a4 : PySem.W.nsIn K mainGlobals "_law_power" = some (some (.ref f4))) (l4 : K.lookup f4 = some ⟨oc4, od4, .func (PySem.W.fnOf "_law_power" "_law_power" (defArgs sLPower) (defBody sLPower) (defScope sLPower) .none kV4 dc4 pm4 an4 cd4 ct4), sl4⟩) (e4 : PySem.W.codeIn K cd4 "_law_power" = true) (k4 : PySem.W.keepIn K (.ref f4) = true)
    (a5 : PySem.W.nsIn K mainGlobals "_law_many_places" = some (some (.ref f5))) (l5 : K.lookup f5 = some ⟨oc5, od5, .func (PySem.W.fnOf "_law_many_places" "_law_many_places" (defArgs sLManyPlaces) (defBody sLManyPlaces) (defScope sLManyPlaces) .none kV5 dc5 pm5 an5 cd5 ct5), sl5⟩) (e5 : PySem.W.codeIn K cd5 "_law_many_places" = true) (k5 : PySem.W.keepIn K (.ref f5) = true)
    (a6 : PySem.W.nsIn K mainGlobals "many_straight" = some (some (.ref f6))) (l6 : K.lookup f6 = some ⟨oc6, od6, .func (PySem.W.fnOf "many_straight" "many_straight" (defArgs sManyStraight) (defBody sManyStraight) (defScope sManyStraight) .none kV6 dc6 pm6 an6 cd6 ct6), sl6⟩) (e6 : PySem.W.codeIn K cd6 "many_straight" = true) (k6 : PySem.W.keepIn K (.ref f6) = true)
    (a7 : PySem.W.nsIn K mainGlobals "many_bends" = some (some (.ref f7))) (l7 : K.lookup f7 = some ⟨oc7, od7, .func (PySem.W.fnOf "many_bends" "many_bends" (defArgs sManyBends) (defBody sManyBends) (defScope sManyBends) .none kV7 dc7 pm7 an7 cd7 ct7), sl7⟩) (e7 : PySem.W.codeIn K cd7 "many_bends" = true) (k7 : PySem.W.keepIn K (.ref f7) = true)
    (a8 : PySem.W.nsIn K mainGlobals "many_steps" = some (some (.ref f8))) (l8 : K.lookup f8 = some ⟨oc8, od8, .func (PySem.W.fnOf "many_steps" "many_steps" (defArgs sManySteps) (defBody sManySteps) (defScope sManySteps) .none kV8 dc8 pm8 an8 cd8 ct8), sl8⟩) (e8 : PySem.W.codeIn K cd8 "many_steps" = true) (k8 : PySem.W.keepIn K (.ref f8) = true)
    (a9 : PySem.W.nsIn K mainGlobals "_law_great" = some (some (.ref f9))) (l9 : K.lookup f9 = some ⟨oc9, od9, .func (PySem.W.fnOf "_law_great" "_law_great" (defArgs sLGreat) (defBody sLGreat) (defScope sLGreat) .none kV9 dc9 pm9 an9 cd9 ct9), sl9⟩) (e9 : PySem.W.codeIn K cd9 "_law_great" = true) (k9 : PySem.W.keepIn K (.ref f9) = true)
    (a10 : PySem.W.nsIn K mainGlobals "_law_edge" = some (some (.ref f10))) (l10 : K.lookup f10 = some ⟨oc10, od10, .func (PySem.W.fnOf "_law_edge" "_law_edge" (defArgs sLEdge) (defBody sLEdge) (defScope sLEdge) .none kV10 dc10 pm10 an10 cd10 ct10), sl10⟩) (e10 : PySem.W.codeIn K cd10 "_law_edge" = true) (k10 : PySem.W.keepIn K (.ref f10) = true)
    (a11 : PySem.W.nsIn K mainGlobals "is_integer" = some (some (.ref f11))) (l11 : K.lookup f11 = some ⟨oc11, od11, .func (PySem.W.fnOf "is_integer" "is_integer" (defArgs sIsInteger) (defBody sIsInteger) (defScope sIsInteger) .none kV11 dc11 pm11 an11 cd11 ct11), sl11⟩) (e11 : PySem.W.codeIn K cd11 "is_integer" = true) (k11 : PySem.W.keepIn K (.ref f11) = true)
    (a12 : PySem.W.nsIn K mainGlobals "is_number" = some (some (.ref f12))) (l12 : K.lookup f12 = some ⟨oc12, od12, .func (PySem.W.fnOf "is_number" "is_number" (defArgs sIsNumber) (defBody sIsNumber) (defScope sIsNumber) .none kV12 dc12 pm12 an12 cd12 ct12), sl12⟩) (e12 : PySem.W.codeIn K cd12 "is_number" = true) (k12 : PySem.W.keepIn K (.ref f12) = true)
    (a13 : PySem.W.nsIn K mainGlobals "are_numbers" = some (some (.ref f13))) (l13 : K.lookup f13 = some ⟨oc13, od13, .func (PySem.W.fnOf "are_numbers" "are_numbers" (defArgs sAreNumbers) (defBody sAreNumbers) (defScope sAreNumbers) .none kV13 dc13 pm13 an13 cd13 ct13), sl13⟩) (e13 : PySem.W.codeIn K cd13 "are_numbers" = true) (k13 : PySem.W.keepIn K (.ref f13) = true)
    (a14 : PySem.W.nsIn K mainGlobals "is_one_letter" = some (some (.ref f14))) (l14 : K.lookup f14 = some ⟨oc14, od14, .func (PySem.W.fnOf "is_one_letter" "is_one_letter" (defArgs sIsOneLetter) (defBody sIsOneLetter) (defScope sIsOneLetter) .none kV14 dc14 pm14 an14 cd14 ct14), sl14⟩) (e14 : PySem.W.codeIn K cd14 "is_one_letter" = true) (k14 : PySem.W.keepIn K (.ref f14) = true)
    (a15 : PySem.W.nsIn K mainGlobals "is_bend" = some (some (.ref f15))) (l15 : K.lookup f15 = some ⟨oc15, od15, .func (PySem.W.fnOf "is_bend" "is_bend" (defArgs sIsBend) (defBody sIsBend) (defScope sIsBend) .none kV15 dc15 pm15 an15 cd15 ct15), sl15⟩) (e15 : PySem.W.codeIn K cd15 "is_bend" = true) (k15 : PySem.W.keepIn K (.ref f15) = true)
    (a16 : PySem.W.nsIn K mainGlobals "opposite" = some (some (.ref f16))) (l16 : K.lookup f16 = some ⟨oc16, od16, .func (PySem.W.fnOf "opposite" "opposite" (defArgs sOpposite) (defBody sOpposite) (defScope sOpposite) .none kV16 dc16 pm16 an16 cd16 ct16), sl16⟩) (e16 : PySem.W.codeIn K cd16 "opposite" = true) (k16 : PySem.W.keepIn K (.ref f16) = true)
    (a17 : PySem.W.nsIn K mainGlobals "minus" = some (some (.ref f17))) (l17 : K.lookup f17 = some ⟨oc17, od17, .func (PySem.W.fnOf "minus" "minus" (defArgs sMinus) (defBody sMinus) (defScope sMinus) .none kV17 dc17 pm17 an17 cd17 ct17), sl17⟩) (e17 : PySem.W.codeIn K cd17 "minus" = true) (k17 : PySem.W.keepIn K (.ref f17) = true)
    (a18 : PySem.W.nsIn K mainGlobals "times" = some (some (.ref f18))) (l18 : K.lookup f18 = some ⟨oc18, od18, .func (PySem.W.fnOf "times" "times" (defArgs sTimes) (defBody sTimes) (defScope sTimes) .none kV18 dc18 pm18 an18 cd18 ct18), sl18⟩) (e18 : PySem.W.codeIn K cd18 "times" = true) (k18 : PySem.W.keepIn K (.ref f18) = true)
    (a19 : PySem.W.nsIn K mainGlobals "straight_determinant" = some (some (.ref f19))) (l19 : K.lookup f19 = some ⟨oc19, od19, .func (PySem.W.fnOf "straight_determinant" "straight_determinant" (defArgs sStraightDeterminant) (defBody sStraightDeterminant) (defScope sStraightDeterminant) .none kV19 dc19 pm19 an19 cd19 ct19), sl19⟩) (e19 : PySem.W.codeIn K cd19 "straight_determinant" = true) (k19 : PySem.W.keepIn K (.ref f19) = true)
    (a20 : PySem.W.nsIn K mainGlobals "is_straight" = some (some (.ref f20))) (l20 : K.lookup f20 = some ⟨oc20, od20, .func (PySem.W.fnOf "is_straight" "is_straight" (defArgs sIsStraight) (defBody sIsStraight) (defScope sIsStraight) .none kV20 dc20 pm20 an20 cd20 ct20), sl20⟩) (e20 : PySem.W.codeIn K cd20 "is_straight" = true) (k20 : PySem.W.keepIn K (.ref f20) = true)
    (a21 : PySem.W.nsIn K mainGlobals "is_step" = some (some (.ref f21))) (l21 : K.lookup f21 = some ⟨oc21, od21, .func (PySem.W.fnOf "is_step" "is_step" (defArgs sIsStep) (defBody sIsStep) (defScope sIsStep) .none kV21 dc21 pm21 an21 cd21 ct21), sl21⟩) (e21 : PySem.W.codeIn K cd21 "is_step" = true) (k21 : PySem.W.keepIn K (.ref f21) = true)
    (a22 : PySem.W.nsIn K mainGlobals "look_at_steps" = some (some (.ref f22))) (l22 : K.lookup f22 = some ⟨oc22, od22, .func (PySem.W.fnOf "look_at_steps" "look_at_steps" (defArgs sLookAtSteps) (defBody sLookAtSteps) (defScope sLookAtSteps) .none kV22 dc22 pm22 an22 cd22 ct22), sl22⟩) (e22 : PySem.W.codeIn K cd22 "look_at_steps" = true) (k22 : PySem.W.keepIn K (.ref f22) = true)
    (a23 : PySem.W.nsIn K mainGlobals "place_by_step" = some (some (.ref f23))) (l23 : K.lookup f23 = some ⟨oc23, od23, .func (PySem.W.fnOf "place_by_step" "place_by_step" (defArgs sPlaceByStep) (defBody sPlaceByStep) (defScope sPlaceByStep) .none kV23 dc23 pm23 an23 cd23 ct23), sl23⟩) (e23 : PySem.W.codeIn K cd23 "place_by_step" = true) (k23 : PySem.W.keepIn K (.ref f23) = true)
    (a24 : PySem.W.nsIn K mainGlobals "place_of" = some (some (.ref f24))) (l24 : K.lookup f24 = some ⟨oc24, od24, .func (PySem.W.fnOf "place_of" "place_of" (defArgs sPlaceOf) (defBody sPlaceOf) (defScope sPlaceOf) .none kV24 dc24 pm24 an24 cd24 ct24), sl24⟩) (e24 : PySem.W.codeIn K cd24 "place_of" = true) (k24 : PySem.W.keepIn K (.ref f24) = true)
    (a25 : PySem.W.nsIn K mainGlobals "inverse" = some (some (.ref f25))) (l25 : K.lookup f25 = some ⟨oc25, od25, .func (PySem.W.fnOf "inverse" "inverse" (defArgs sInverse) (defBody sInverse) (defScope sInverse) .none kV25 dc25 pm25 an25 cd25 ct25), sl25⟩) (e25 : PySem.W.codeIn K cd25 "inverse" = true) (k25 : PySem.W.keepIn K (.ref f25) = true)
    (a26 : PySem.W.nsIn K mainGlobals "barred_number" = some (some (.ref f26))) (l26 : K.lookup f26 = some ⟨oc26, od26, .func (PySem.W.fnOf "barred_number" "barred_number" (defArgs sBarredNumber) (defBody sBarredNumber) (defScope sBarredNumber) .none kV26 dc26 pm26 an26 cd26 ct26), sl26⟩) (e26 : PySem.W.codeIn K cd26 "barred_number" = true) (k26 : PySem.W.keepIn K (.ref f26) = true)
    (a27 : PySem.W.nsIn K mainGlobals "second_at" = some (some (.ref f27))) (l27 : K.lookup f27 = some ⟨oc27, od27, .func (PySem.W.fnOf "second_at" "second_at" (defArgs sSecondAt) (defBody sSecondAt) (defScope sSecondAt) .none kV27 dc27 pm27 an27 cd27 ct27), sl27⟩) (e27 : PySem.W.codeIn K cd27 "second_at" = true) (k27 : PySem.W.keepIn K (.ref f27) = true)
    (a28 : PySem.W.nsIn K mainGlobals "straight_at" = some (some (.ref f28))) (l28 : K.lookup f28 = some ⟨oc28, od28, .func (PySem.W.fnOf "straight_at" "straight_at" (defArgs sStraightAt) (defBody sStraightAt) (defScope sStraightAt) .none kV28 dc28 pm28 an28 cd28 ct28), sl28⟩) (e28 : PySem.W.codeIn K cd28 "straight_at" = true) (k28 : PySem.W.keepIn K (.ref f28) = true)
    (a29 : PySem.W.nsIn K mainGlobals "bend_at" = some (some (.ref f29))) (l29 : K.lookup f29 = some ⟨oc29, od29, .func (PySem.W.fnOf "bend_at" "bend_at" (defArgs sBendAt) (defBody sBendAt) (defScope sBendAt) .none kV29 dc29 pm29 an29 cd29 ct29), sl29⟩) (e29 : PySem.W.codeIn K cd29 "bend_at" = true) (k29 : PySem.W.keepIn K (.ref f29) = true)
    (a30 : PySem.W.nsIn K mainGlobals "step_at" = some (some (.ref f30))) (l30 : K.lookup f30 = some ⟨oc30, od30, .func (PySem.W.fnOf "step_at" "step_at" (defArgs sStepAt) (defBody sStepAt) (defScope sStepAt) .none kV30 dc30 pm30 an30 cd30 ct30), sl30⟩) (e30 : PySem.W.codeIn K cd30 "step_at" = true) (k30 : PySem.W.keepIn K (.ref f30) = true)
    (a31 : PySem.W.nsIn K mainGlobals "is_place" = some (some (.ref f31))) (l31 : K.lookup f31 = some ⟨oc31, od31, .func (PySem.W.fnOf "is_place" "is_place" (defArgs sIsPlace) (defBody sIsPlace) (defScope sIsPlace) .none kV31 dc31 pm31 an31 cd31 ct31), sl31⟩) (e31 : PySem.W.codeIn K cd31 "is_place" = true) (k31 : PySem.W.keepIn K (.ref f31) = true)
    (a32 : PySem.W.nsIn K mainGlobals "look_at_places" = some (some (.ref f32))) (l32 : K.lookup f32 = some ⟨oc32, od32, .func (PySem.W.fnOf "look_at_places" "look_at_places" (defArgs sLookAtPlaces) (defBody sLookAtPlaces) (defScope sLookAtPlaces) .none kV32 dc32 pm32 an32 cd32 ct32), sl32⟩) (e32 : PySem.W.codeIn K cd32 "look_at_places" = true) (k32 : PySem.W.keepIn K (.ref f32) = true)
    (a33 : PySem.W.nsIn K mainGlobals "place_depth" = some (some (.ref f33))) (l33 : K.lookup f33 = some ⟨oc33, od33, .func (PySem.W.fnOf "place_depth" "place_depth" (defArgs sPlaceDepth) (defBody sPlaceDepth) (defScope sPlaceDepth) .none kV33 dc33 pm33 an33 cd33 ct33), sl33⟩) (e33 : PySem.W.codeIn K cd33 "place_depth" = true) (k33 : PySem.W.keepIn K (.ref f33) = true)
    (a34 : PySem.W.nsIn K mainGlobals "depth" = some (some (.ref f34))) (l34 : K.lookup f34 = some ⟨oc34, od34, .func (PySem.W.fnOf "depth" "depth" (defArgs sDepth) (defBody sDepth) (defScope sDepth) .none kV34 dc34 pm34 an34 cd34 ct34), sl34⟩) (e34 : PySem.W.codeIn K cd34 "depth" = true) (k34 : PySem.W.keepIn K (.ref f34) = true)
    (a35 : PySem.W.nsIn K mainGlobals "bend_degrees" = some (some (.ref f35))) (l35 : K.lookup f35 = some ⟨oc35, od35, .func (PySem.W.fnOf "bend_degrees" "bend_degrees" (defArgs sBendDegrees) (defBody sBendDegrees) (defScope sBendDegrees) .none kV35 dc35 pm35 an35 cd35 ct35), sl35⟩) (e35 : PySem.W.codeIn K cd35 "bend_degrees" = true) (k35 : PySem.W.keepIn K (.ref f35) = true)
    (a36 : PySem.W.nsIn K mainGlobals "degrees_of" = some (some (.ref f36))) (l36 : K.lookup f36 = some ⟨oc36, od36, .func (PySem.W.fnOf "degrees_of" "degrees_of" (defArgs sDegreesOf) (defBody sDegreesOf) (defScope sDegreesOf) .none kV36 dc36 pm36 an36 cd36 ct36), sl36⟩) (e36 : PySem.W.codeIn K cd36 "degrees_of" = true) (k36 : PySem.W.keepIn K (.ref f36) = true)
    (a37 : PySem.W.nsIn K mainGlobals "bend_number" = some (some (.ref f37))) (l37 : K.lookup f37 = some ⟨oc37, od37, .func (PySem.W.fnOf "bend_number" "bend_number" (defArgs sBendNumber) (defBody sBendNumber) (defScope sBendNumber) .none kV37 dc37 pm37 an37 cd37 ct37), sl37⟩) (e37 : PySem.W.codeIn K cd37 "bend_number" = true) (k37 : PySem.W.keepIn K (.ref f37) = true)
    (a38 : PySem.W.nsIn K mainGlobals "second_number" = some (some (.ref f38))) (l38 : K.lookup f38 = some ⟨oc38, od38, .func (PySem.W.fnOf "second_number" "second_number" (defArgs sSecondNumber) (defBody sSecondNumber) (defScope sSecondNumber) .none kV38 dc38 pm38 an38 cd38 ct38), sl38⟩) (e38 : PySem.W.codeIn K cd38 "second_number" = true) (k38 : PySem.W.keepIn K (.ref f38) = true)
    (a39 : PySem.W.nsIn K mainGlobals "straight_number" = some (some (.ref f39))) (l39 : K.lookup f39 = some ⟨oc39, od39, .func (PySem.W.fnOf "straight_number" "straight_number" (defArgs sStraightNumber) (defBody sStraightNumber) (defScope sStraightNumber) .none kV39 dc39 pm39 an39 cd39 ct39), sl39⟩) (e39 : PySem.W.codeIn K cd39 "straight_number" = true) (k39 : PySem.W.keepIn K (.ref f39) = true)
    (a40 : PySem.W.nsIn K mainGlobals "step_number" = some (some (.ref f40))) (l40 : K.lookup f40 = some ⟨oc40, od40, .func (PySem.W.fnOf "step_number" "step_number" (defArgs sStepNumber) (defBody sStepNumber) (defScope sStepNumber) .none kV40 dc40 pm40 an40 cd40 ct40), sl40⟩) (e40 : PySem.W.codeIn K cd40 "step_number" = true) (k40 : PySem.W.keepIn K (.ref f40) = true)
    (a41 : PySem.W.nsIn K mainGlobals "place_step" = some (some (.ref f41))) (l41 : K.lookup f41 = some ⟨oc41, od41, .func (PySem.W.fnOf "place_step" "place_step" (defArgs sPlaceStep) (defBody sPlaceStep) (defScope sPlaceStep) .none kV41 dc41 pm41 an41 cd41 ct41), sl41⟩) (e41 : PySem.W.codeIn K cd41 "place_step" = true) (k41 : PySem.W.keepIn K (.ref f41) = true)
    (a42 : PySem.W.nsIn K mainGlobals "step_of_place" = some (some (.ref f42))) (l42 : K.lookup f42 = some ⟨oc42, od42, .func (PySem.W.fnOf "step_of_place" "step_of_place" (defArgs sStepOfPlace) (defBody sStepOfPlace) (defScope sStepOfPlace) .none kV42 dc42 pm42 an42 cd42 ct42), sl42⟩) (e42 : PySem.W.codeIn K cd42 "step_of_place" = true) (k42 : PySem.W.keepIn K (.ref f42) = true)
    (a43 : PySem.W.nsIn K mainGlobals "nothing" = some (some (.ref f43))) (l43 : K.lookup f43 = some ⟨oc43, od43, .func (PySem.W.fnOf "nothing" "nothing" (defArgs sNothing) (defBody sNothing) (defScope sNothing) .none kV43 dc43 pm43 an43 cd43 ct43), sl43⟩) (e43 : PySem.W.codeIn K cd43 "nothing" = true) (k43 : PySem.W.keepIn K (.ref f43) = true)
    (a44 : PySem.W.nsIn K mainGlobals "_law_rank" = some (some (.ref f44))) (l44 : K.lookup f44 = some ⟨oc44, od44, .func (PySem.W.fnOf "_law_rank" "_law_rank" (defArgs sLRank) (defBody sLRank) (defScope sLRank) .none kV44 dc44 pm44 an44 cd44 ct44), sl44⟩) (e44 : PySem.W.codeIn K cd44 "_law_rank" = true) (k44 : PySem.W.keepIn K (.ref f44) = true)
    (a45 : PySem.W.nsIn K mainGlobals "_law_in_block" = some (some (.ref f45))) (l45 : K.lookup f45 = some ⟨oc45, od45, .func (PySem.W.fnOf "_law_in_block" "_law_in_block" (defArgs sLInBlock) (defBody sLInBlock) (defScope sLInBlock) .none kV45 dc45 pm45 an45 cd45 ct45), sl45⟩) (e45 : PySem.W.codeIn K cd45 "_law_in_block" = true) (k45 : PySem.W.keepIn K (.ref f45) = true)
    (a46 : PySem.W.nsIn K mainGlobals "_law_depth" = some (some (.ref f46))) (l46 : K.lookup f46 = some ⟨oc46, od46, .func (PySem.W.fnOf "_law_depth" "_law_depth" (defArgs sLDepth) (defBody sLDepth) (defScope sLDepth) .none kV46 dc46 pm46 an46 cd46 ct46), sl46⟩) (e46 : PySem.W.codeIn K cd46 "_law_depth" = true) (k46 : PySem.W.keepIn K (.ref f46) = true)
    (a47 : PySem.W.nsIn K mainGlobals "_law_ahead" = some (some (.ref f47))) (l47 : K.lookup f47 = some ⟨oc47, od47, .func (PySem.W.fnOf "_law_ahead" "_law_ahead" (defArgs sLAhead) (defBody sLAhead) (defScope sLAhead) .none kV47 dc47 pm47 an47 cd47 ct47), sl47⟩) (e47 : PySem.W.codeIn K cd47 "_law_ahead" = true) (k47 : PySem.W.keepIn K (.ref f47) = true)
    (a48 : PySem.W.nsIn K mainGlobals "_law_chain" = some (some (.ref f48))) (l48 : K.lookup f48 = some ⟨oc48, od48, .func (PySem.W.fnOf "_law_chain" "_law_chain" (defArgs sLChain) (defBody sLChain) (defScope sLChain) .none kV48 dc48 pm48 an48 cd48 ct48), sl48⟩) (e48 : PySem.W.codeIn K cd48 "_law_chain" = true) (k48 : PySem.W.keepIn K (.ref f48) = true)
    (a49 : PySem.W.nsIn K mainGlobals "place_ahead" = some (some (.ref f49))) (l49 : K.lookup f49 = some ⟨oc49, od49, .func (PySem.W.fnOf "place_ahead" "place_ahead" (defArgs sPlaceAhead) (defBody sPlaceAhead) (defScope sPlaceAhead) .none kV49 dc49 pm49 an49 cd49 ct49), sl49⟩) (e49 : PySem.W.codeIn K cd49 "place_ahead" = true) (k49 : PySem.W.keepIn K (.ref f49) = true)
    (a50 : PySem.W.nsIn K mainGlobals "ahead" = some (some (.ref f50))) (l50 : K.lookup f50 = some ⟨oc50, od50, .func (PySem.W.fnOf "ahead" "ahead" (defArgs sAhead) (defBody sAhead) (defScope sAhead) .none kV50 dc50 pm50 an50 cd50 ct50), sl50⟩) (e50 : PySem.W.codeIn K cd50 "ahead" = true) (k50 : PySem.W.keepIn K (.ref f50) = true)
    (a51 : PySem.W.nsIn K mainGlobals "many_behind" = some (some (.ref f51))) (l51 : K.lookup f51 = some ⟨oc51, od51, .func (PySem.W.fnOf "many_behind" "many_behind" (defArgs sManyBehind) (defBody sManyBehind) (defScope sManyBehind) .none kV51 dc51 pm51 an51 cd51 ct51), sl51⟩) (e51 : PySem.W.codeIn K cd51 "many_behind" = true) (k51 : PySem.W.keepIn K (.ref f51) = true)
    (a52 : PySem.W.nsIn K mainGlobals "_law_along_chain" = some (some (.ref f52))) (l52 : K.lookup f52 = some ⟨oc52, od52, .func (PySem.W.fnOf "_law_along_chain" "_law_along_chain" (defArgs sLAlongChain) (defBody sLAlongChain) (defScope sLAlongChain) .none kV52 dc52 pm52 an52 cd52 ct52), sl52⟩) (e52 : PySem.W.codeIn K cd52 "_law_along_chain" = true) (k52 : PySem.W.keepIn K (.ref f52) = true)
    (a53 : PySem.W.nsIn K mainGlobals "law" = some (some (.ref f53))) (l53 : K.lookup f53 = some ⟨oc53, od53, .func (PySem.W.fnOf "law" "law" (defArgs sLaw) (defBody sLaw) (defScope sLaw) .none kV53 dc53 pm53 an53 cd53 ct53), sl53⟩) (e53 : PySem.W.codeIn K cd53 "law" = true) (k53 : PySem.W.keepIn K (.ref f53) = true)
    (z0 : PySem.W.nsIn K mainGlobals "all" = some none)
    (z1 : PySem.W.nsIn K mainGlobals "bool" = some none)
    (z2 : PySem.W.nsIn K mainGlobals "divmod" = some none)
    (z3 : PySem.W.nsIn K mainGlobals "enumerate" = some none)
    (z4 : PySem.W.nsIn K mainGlobals "int" = some none)
    (z5 : PySem.W.nsIn K mainGlobals "isinstance" = some none)
    (z6 : PySem.W.nsIn K mainGlobals "len" = some none)
    (z7 : PySem.W.nsIn K mainGlobals "list" = some none)
    (z8 : PySem.W.nsIn K mainGlobals "max" = some none)
    (z9 : PySem.W.nsIn K mainGlobals "range" = some none)
    (z10 : PySem.W.nsIn K mainGlobals "repr" = some none)
    (z11 : PySem.W.nsIn K mainGlobals "reversed" = some none)
    (z12 : PySem.W.nsIn K mainGlobals "tuple" = some none)
    (z13 : PySem.W.nsIn K mainGlobals "zip" = some none)
    : ∃ fd : FuncData, (∀ (s : Shared) (v : Value), BindsTo s fd ⟨[v], []⟩ [("_law_script", v)]) ∧ ∀ base : Heap, K.In base → base.Ns mainGlobals mg → GFn l.prog w K mg base 10 fa fd ["_law_script"] (spLaw K) := by
  have e := hfa.symm.trans (PySem.W.mg_of X G a53)
  cases e
  have F0 := fun_mk (st := sLDeck) l0 e0 k0
  have b0 := F0.binds (ps := pLDeck) fun _ _ _ _ _ _ us hl => match us, hl with | [_], _ => rfl
  have g0 := PySem.W.mg_of X G a0
  have F1 := fun_mk (st := sLDraw) l1 e1 k1
  have b1 := F1.binds (ps := pLDraw) fun _ _ _ _ _ _ us hl => match us, hl with | [_, _], _ => rfl
  have g1 := PySem.W.mg_of X G a1
  have F2 := fun_mk (st := sLPick) l2 e2 k2
  have b2 := F2.binds (ps := pLPick) fun _ _ _ _ _ _ us hl => match us, hl with | [_, _], _ => rfl
  have g2 := PySem.W.mg_of X G a2
  have F3 := fun_mk (st := sLSomeField) l3 e3 k3
  have b3 := F3.binds (ps := pLSomeField) fun _ _ _ _ _ _ us hl => match us, hl with | [_], _ => rfl
  have g3 := PySem.W.mg_of X G a3
  have F4 := fun_mk (st := sLPower) l4 e4 k4
  have b4 := F4.binds (ps := pLPower) fun _ _ _ _ _ _ us hl => match us, hl with | [_, _], _ => rfl
  have g4 := PySem.W.mg_of X G a4
  have F5 := fun_mk (st := sLManyPlaces) l5 e5 k5
  have b5 := F5.binds (ps := pLManyPlaces) fun _ _ _ _ _ _ us hl => match us, hl with | [_, _], _ => rfl
  have g5 := PySem.W.mg_of X G a5
  have F6 := fun_mk (st := sManyStraight) l6 e6 k6
  have b6 := F6.binds (ps := pManyStraight) fun _ _ _ _ _ _ us hl => match us, hl with | [_], _ => rfl
  have g6 := PySem.W.mg_of X G a6
  have F7 := fun_mk (st := sManyBends) l7 e7 k7
  have b7 := F7.binds (ps := pManyBends) fun _ _ _ _ _ _ us hl => match us, hl with | [_, _], _ => rfl
  have g7 := PySem.W.mg_of X G a7
  have F8 := fun_mk (st := sManySteps) l8 e8 k8
  have b8 := F8.binds (ps := pManySteps) fun _ _ _ _ _ _ us hl => match us, hl with | [_, _], _ => rfl
  have g8 := PySem.W.mg_of X G a8
  have F9 := fun_mk (st := sLGreat) l9 e9 k9
  have b9 := F9.binds (ps := pLGreat) fun _ _ _ _ _ _ us hl => match us, hl with | [_, _], _ => rfl
  have g9 := PySem.W.mg_of X G a9
  have F10 := fun_mk (st := sLEdge) l10 e10 k10
  have b10 := F10.binds (ps := pLEdge) fun _ _ _ _ _ _ us hl => match us, hl with | [_, _], _ => rfl
  have g10 := PySem.W.mg_of X G a10
  have F11 := fun_mk (st := sIsInteger) l11 e11 k11
  have b11 := F11.binds (ps := pIsInteger) fun _ _ _ _ _ _ us hl => match us, hl with | [_], _ => rfl
  have g11 := PySem.W.mg_of X G a11
  have F12 := fun_mk (st := sIsNumber) l12 e12 k12
  have b12 := F12.binds (ps := pIsNumber) fun _ _ _ _ _ _ us hl => match us, hl with | [_, _], _ => rfl
  have g12 := PySem.W.mg_of X G a12
  have F13 := fun_mk (st := sAreNumbers) l13 e13 k13
  have b13 := F13.binds (ps := pAreNumbers) fun _ _ _ _ _ _ us hl => match us, hl with | [_, _], _ => rfl
  have g13 := PySem.W.mg_of X G a13
  have F14 := fun_mk (st := sIsOneLetter) l14 e14 k14
  have b14 := F14.binds (ps := pIsOneLetter) fun _ _ _ _ _ _ us hl => match us, hl with | [_, _], _ => rfl
  have g14 := PySem.W.mg_of X G a14
  have F15 := fun_mk (st := sIsBend) l15 e15 k15
  have b15 := F15.binds (ps := pIsBend) fun _ _ _ _ _ _ us hl => match us, hl with | [_, _], _ => rfl
  have g15 := PySem.W.mg_of X G a15
  have F16 := fun_mk (st := sOpposite) l16 e16 k16
  have b16 := F16.binds (ps := pOpposite) fun _ _ _ _ _ _ us hl => match us, hl with | [_, _], _ => rfl
  have g16 := PySem.W.mg_of X G a16
  have F17 := fun_mk (st := sMinus) l17 e17 k17
  have b17 := F17.binds (ps := pMinus) fun _ _ _ _ _ _ us hl => match us, hl with | [_, _, _], _ => rfl
  have g17 := PySem.W.mg_of X G a17
  have F18 := fun_mk (st := sTimes) l18 e18 k18
  have b18 := F18.binds (ps := pTimes) fun _ _ _ _ _ _ us hl => match us, hl with | [_, _, _], _ => rfl
  have g18 := PySem.W.mg_of X G a18
  have F19 := fun_mk (st := sStraightDeterminant) l19 e19 k19
  have b19 := F19.binds (ps := pStraightDeterminant) fun _ _ _ _ _ _ us hl => match us, hl with | [_, _], _ => rfl
  have g19 := PySem.W.mg_of X G a19
  have F20 := fun_mk (st := sIsStraight) l20 e20 k20
  have b20 := F20.binds (ps := pIsStraight) fun _ _ _ _ _ _ us hl => match us, hl with | [_, _], _ => rfl
  have g20 := PySem.W.mg_of X G a20
  have F21 := fun_mk (st := sIsStep) l21 e21 k21
  have b21 := F21.binds (ps := pIsStep) fun _ _ _ _ _ _ us hl => match us, hl with | [_, _], _ => rfl
  have g21 := PySem.W.mg_of X G a21
  have F22 := fun_mk (st := sLookAtSteps) l22 e22 k22
  have b22 := F22.binds (ps := pLookAtSteps) fun _ _ _ _ _ _ us hl => match us, hl with | [_, _], _ => rfl
  have g22 := PySem.W.mg_of X G a22
  have F23 := fun_mk (st := sPlaceByStep) l23 e23 k23
  have b23 := F23.binds (ps := pPlaceByStep) fun _ _ _ _ _ _ us hl => match us, hl with | [_, _, _], _ => rfl
  have g23 := PySem.W.mg_of X G a23
  have F24 := fun_mk (st := sPlaceOf) l24 e24 k24
  have b24 := F24.binds (ps := pPlaceOf) fun _ _ _ _ _ _ us hl => match us, hl with | [_, _, _], _ => rfl
  have g24 := PySem.W.mg_of X G a24
  have F25 := fun_mk (st := sInverse) l25 e25 k25
  have b25 := F25.binds (ps := pInverse) fun _ _ _ _ _ _ us hl => match us, hl with | [_, _], _ => rfl
  have g25 := PySem.W.mg_of X G a25
  have F26 := fun_mk (st := sBarredNumber) l26 e26 k26
  have b26 := F26.binds (ps := pBarredNumber) fun _ _ _ _ _ _ us hl => match us, hl with | [_, _, _, _], _ => rfl
  have g26 := PySem.W.mg_of X G a26
  have F27 := fun_mk (st := sSecondAt) l27 e27 k27
  have b27 := F27.binds (ps := pSecondAt) fun _ _ _ _ _ _ us hl => match us, hl with | [_, _, _, _], _ => rfl
  have g27 := PySem.W.mg_of X G a27
  have F28 := fun_mk (st := sStraightAt) l28 e28 k28
  have b28 := F28.binds (ps := pStraightAt) fun _ _ _ _ _ _ us hl => match us, hl with | [_, _], _ => rfl
  have g28 := PySem.W.mg_of X G a28
  have F29 := fun_mk (st := sBendAt) l29 e29 k29
  have b29 := F29.binds (ps := pBendAt) fun _ _ _ _ _ _ us hl => match us, hl with | [_, _, _], _ => rfl
  have g29 := PySem.W.mg_of X G a29
  have F30 := fun_mk (st := sStepAt) l30 e30 k30
  have b30 := F30.binds (ps := pStepAt) fun _ _ _ _ _ _ us hl => match us, hl with | [_, _, _], _ => rfl
  have g30 := PySem.W.mg_of X G a30
  have F31 := fun_mk (st := sIsPlace) l31 e31 k31
  have b31 := F31.binds (ps := pIsPlace) fun _ _ _ _ _ _ us hl => match us, hl with | [_, _], _ => rfl
  have g31 := PySem.W.mg_of X G a31
  have F32 := fun_mk (st := sLookAtPlaces) l32 e32 k32
  have b32 := F32.binds (ps := pLookAtPlaces) fun _ _ _ _ _ _ us hl => match us, hl with | [_, _], _ => rfl
  have g32 := PySem.W.mg_of X G a32
  have F33 := fun_mk (st := sPlaceDepth) l33 e33 k33
  have b33 := F33.binds (ps := pPlaceDepth) fun _ _ _ _ _ _ us hl => match us, hl with | [_], _ => rfl
  have g33 := PySem.W.mg_of X G a33
  have F34 := fun_mk (st := sDepth) l34 e34 k34
  have b34 := F34.binds (ps := pDepth) fun _ _ _ _ _ _ us hl => match us, hl with | [_, _], _ => rfl
  have g34 := PySem.W.mg_of X G a34
  have F35 := fun_mk (st := sBendDegrees) l35 e35 k35
  have b35 := F35.binds (ps := pBendDegrees) fun _ _ _ _ _ _ us hl => match us, hl with | [_], _ => rfl
  have g35 := PySem.W.mg_of X G a35
  have F36 := fun_mk (st := sDegreesOf) l36 e36 k36
  have b36 := F36.binds (ps := pDegreesOf) fun _ _ _ _ _ _ us hl => match us, hl with | [_, _], _ => rfl
  have g36 := PySem.W.mg_of X G a36
  have F37 := fun_mk (st := sBendNumber) l37 e37 k37
  have b37 := F37.binds (ps := pBendNumber) fun _ _ _ _ _ _ us hl => match us, hl with | [_, _], _ => rfl
  have g37 := PySem.W.mg_of X G a37
  have F38 := fun_mk (st := sSecondNumber) l38 e38 k38
  have b38 := F38.binds (ps := pSecondNumber) fun _ _ _ _ _ _ us hl => match us, hl with | [_, _, _, _, _], _ => rfl
  have g38 := PySem.W.mg_of X G a38
  have F39 := fun_mk (st := sStraightNumber) l39 e39 k39
  have b39 := F39.binds (ps := pStraightNumber) fun _ _ _ _ _ _ us hl => match us, hl with | [_, _], _ => rfl
  have g39 := PySem.W.mg_of X G a39
  have F40 := fun_mk (st := sStepNumber) l40 e40 k40
  have b40 := F40.binds (ps := pStepNumber) fun _ _ _ _ _ _ us hl => match us, hl with | [_, _], _ => rfl
  have g40 := PySem.W.mg_of X G a40
  have F41 := fun_mk (st := sPlaceStep) l41 e41 k41
  have b41 := F41.binds (ps := pPlaceStep) fun _ _ _ _ _ _ us hl => match us, hl with | [_], _ => rfl
  have g41 := PySem.W.mg_of X G a41
  have F42 := fun_mk (st := sStepOfPlace) l42 e42 k42
  have b42 := F42.binds (ps := pStepOfPlace) fun _ _ _ _ _ _ us hl => match us, hl with | [_, _], _ => rfl
  have g42 := PySem.W.mg_of X G a42
  have F43 := fun_mk (st := sNothing) l43 e43 k43
  have b43 := F43.binds (ps := pNothing) fun _ _ _ _ _ _ us hl => match us, hl with | [], _ => rfl
  have g43 := PySem.W.mg_of X G a43
  have F44 := fun_mk (st := sLRank) l44 e44 k44
  have b44 := F44.binds (ps := pLRank) fun _ _ _ _ _ _ us hl => match us, hl with | [_, _], _ => rfl
  have g44 := PySem.W.mg_of X G a44
  have F45 := fun_mk (st := sLInBlock) l45 e45 k45
  have b45 := F45.binds (ps := pLInBlock) fun _ _ _ _ _ _ us hl => match us, hl with | [_, _, _, _, _], _ => rfl
  have g45 := PySem.W.mg_of X G a45
  have F46 := fun_mk (st := sLDepth) l46 e46 k46
  have b46 := F46.binds (ps := pLDepth) fun _ _ _ _ _ _ us hl => match us, hl with | [_], _ => rfl
  have g46 := PySem.W.mg_of X G a46
  have F47 := fun_mk (st := sLAhead) l47 e47 k47
  have b47 := F47.binds (ps := pLAhead) fun _ _ _ _ _ _ us hl => match us, hl with | [_], _ => rfl
  have g47 := PySem.W.mg_of X G a47
  have F48 := fun_mk (st := sLChain) l48 e48 k48
  have b48 := F48.binds (ps := pLChain) fun _ _ _ _ _ _ us hl => match us, hl with | [_], _ => rfl
  have g48 := PySem.W.mg_of X G a48
  have F49 := fun_mk (st := sPlaceAhead) l49 e49 k49
  have b49 := F49.binds (ps := pPlaceAhead) fun _ _ _ _ _ _ us hl => match us, hl with | [_], _ => rfl
  have g49 := PySem.W.mg_of X G a49
  have F50 := fun_mk (st := sAhead) l50 e50 k50
  have b50 := F50.binds (ps := pAhead) fun _ _ _ _ _ _ us hl => match us, hl with | [_, _], _ => rfl
  have g50 := PySem.W.mg_of X G a50
  have F51 := fun_mk (st := sManyBehind) l51 e51 k51
  have b51 := F51.binds (ps := pManyBehind) fun _ _ _ _ _ _ us hl => match us, hl with | [_, _, _], _ => rfl
  have g51 := PySem.W.mg_of X G a51
  have F52 := fun_mk (st := sLAlongChain) l52 e52 k52
  have b52 := F52.binds (ps := pLAlongChain) fun _ _ _ _ _ _ us hl => match us, hl with | [_, _, _], _ => rfl
  have g52 := PySem.W.mg_of X G a52
  have F53 := fun_mk (st := sLaw) l53 e53 k53
  have g53 := PySem.W.mg_of X G a53
  have m0 := PySem.W.mg_none_of X G z0
  have m1 := PySem.W.mg_none_of X G z1
  have m2 := PySem.W.mg_none_of X G z2
  have m3 := PySem.W.mg_none_of X G z3
  have m4 := PySem.W.mg_none_of X G z4
  have m5 := PySem.W.mg_none_of X G z5
  have m6 := PySem.W.mg_none_of X G z6
  have m7 := PySem.W.mg_none_of X G z7
  have m8 := PySem.W.mg_none_of X G z8
  have m9 := PySem.W.mg_none_of X G z9
  have m10 := PySem.W.mg_none_of X G z10
  have m11 := PySem.W.mg_none_of X G z11
  have m12 := PySem.W.mg_none_of X G z12
  have m13 := PySem.W.mg_none_of X G z13
  have gS := PySem.W.mg_of X G aS
  have gP := PySem.W.mg_of X G aP
  have gN := PySem.W.mg_of X G aN
  have gI := PySem.W.mg_of X G aI
  have hI := fun (H : Hp) (q : Nat) (F : Fld.IsF q) => @noth_at K aM tI H q F
  have gST := PySem.W.mg_of X G aST
  have gBE := PySem.W.mg_of X G aBE
  have gRO := PySem.W.mg_of X G aRO
  have gSA := PySem.W.mg_of X G aSA
  have hR := fun (H : Hp) (q : Nat) (F : Fld.IsF q) => @root_at K aR tR H q F
  have hSm := fun (H : Hp) (q : Nat) (F : Fld.IsF q) => @same_at K aS0 tA H q F
  have kb0 := kb_sw2 (a := "q") (b := "step") F40 fun _ _ _ _ _ _ _ _ => rfl
  have kb1 := kb_lt3 (a := "q") (b := "place") (c := "degree") F51 fun _ _ _ _ _ _ _ _ _ => rfl
  have kb2 := kb_rv3 (a := "q") (b := "degrees") (c := "number") F30 fun _ _ _ _ _ _ _ _ _ => rfl
  have kb3 := kb_sw2 (a := "q") (b := "degrees") F8 fun _ _ _ _ _ _ _ _ => rfl
  refine ⟨PySem.W.fnOf "law" "law" (defArgs sLaw) (defBody sLaw) (defScope sLaw) .none kV53 dc53 pm53 an53 cd53 ct53, fun s v => .of_eq rfl, fun base _ _ => ?_⟩
  have O0 := ok_deck (P := l.prog) (w := w) (K := K) (mg := mg) (base := base) (k := 0) F0 m4 m7
  have O1 := ok_draw (P := l.prog) (w := w) (K := K) (mg := mg) (base := base) (k := 0) F1 m4 m8
  have O2 := ok_pick (P := l.prog) (w := w) (K := K) (mg := mg) (base := base) F2 ⟨O1, g1, k1, b1⟩ m6
  have O3 := ok_sf (P := l.prog) (w := w) (K := K) (mg := mg) (base := base) F3 ⟨O1, g1, k1, b1⟩ ⟨O2, g2, k2, b2⟩
  have O4 := ok_power (P := l.prog) (w := w) (K := K) (mg := mg) (base := base) (k := 0) F4 m9
  have O5 := ok_mpl (P := l.prog) (w := w) (K := K) (mg := mg) (base := base) F5 ⟨O4, g4, k4, b4⟩ m6
  have O6 := ok_manystr (P := l.prog) (w := w) (K := K) (mg := mg) (base := base) (k := 0) F6 
  have O7 := ok_manybd (P := l.prog) (w := w) (K := K) (mg := mg) (base := base) (k := 0) F7 m9
  have O8 := ok_manyst (P := l.prog) (w := w) (K := K) (mg := mg) (base := base) (k := 0) F8 ⟨O6, g6, k6, b6⟩ ⟨O7, g7, k7, b7⟩ m3
  have O9 := ok_great (P := l.prog) (w := w) (K := K) (mg := mg) (base := base) F9 ⟨O1, g1, k1, b1⟩ m4 m9
  have O10 := ok_edge (P := l.prog) (w := w) (K := K) (mg := mg) (base := base) F10 ⟨O1, g1, k1, b1⟩ ⟨O9, g9, k9, b9⟩
  have O11 := ok_isint (P := l.prog) (w := w) (K := K) (mg := mg) (base := base) (k := 0) F11 m4 m1 m5
  have O12 := ok_isnum (P := l.prog) (w := w) (K := K) (mg := mg) (base := base) F12 ⟨O11, g11, k11, b11⟩
  have O13 := ok_aren (P := l.prog) (w := w) (K := K) (mg := mg) (base := base) F13 ⟨O12, g12, k12, b12⟩ m12 m0 m5
  have O14 := ok_ispo (P := l.prog) (w := w) (K := K) (mg := mg) (base := base) F14 ⟨O13, g13, k13, b13⟩ m6
  have O15 := ok_isbd (P := l.prog) (w := w) (K := K) (mg := mg) (base := base) F15 ⟨O14, g14, k14, b14⟩ m6
  have O16 := ok_opposite (P := l.prog) (w := w) (K := K) (mg := mg) (base := base) (k := 0) F16 gS tS
  have O17 := ok_minus (P := l.prog) (w := w) (K := K) (mg := mg) (base := base) F17 ⟨O16, g16, k16, b16⟩ gS tS
  have O18 := ok_times (P := l.prog) (w := w) (K := K) (mg := mg) (base := base) (k := 0) F18 gP tP
  have O19 := ok_det (P := l.prog) (w := w) (K := K) (mg := mg) (base := base) F19 ⟨O17, g17, k17, b17⟩ ⟨O18, g18, k18, b18⟩
  have O20 := ok_isst (P := l.prog) (w := w) (K := K) (mg := mg) (base := base) F20 ⟨O13, g13, k13, b13⟩ ⟨O19, g19, k19, b19⟩ m6
  have O21 := ok_issp (P := l.prog) (w := w) (K := K) (mg := mg) (base := base) F21 ⟨O11, g11, k11, b11⟩ ⟨O15, g15, k15, b15⟩ ⟨O13, g13, k13, b13⟩ ⟨O20, g20, k20, b20⟩ gN m6 m12 m5 m0 m8
  have O22 := ok_looks (P := l.prog) (w := w) (K := K) (mg := mg) (base := base) F22 ⟨O21, g21, k21, b21⟩
  have O23 := ok_pbs (P := l.prog) (w := w) (K := K) (mg := mg) (base := base) F23 gST
  have O24 := ok_pof (P := l.prog) (w := w) (K := K) (mg := mg) (base := base) F24 ⟨O22, g22, k22, b22⟩ ⟨O23, g23, k23, b23⟩ gST gBE
  have O25 := ok_inverse (P := l.prog) (w := w) (K := K) (mg := mg) (base := base) (k := 0) F25 gP tP
  have O26 := ok_bar (P := l.prog) (w := w) (K := K) (mg := mg) (base := base) F26 ⟨O18, g18, k18, b18⟩ ⟨O25, g25, k25, b25⟩
  have O27 := ok_secat (P := l.prog) (w := w) (K := K) (mg := mg) (base := base) F27 ⟨O26, g26, k26, b26⟩ m2
  have O28 := ok_strat (P := l.prog) (w := w) (K := K) (mg := mg) (base := base) F28 ⟨O27, g27, k27, b27⟩ m2
  have O29 := ok_bat (P := l.prog) (w := w) (K := K) (mg := mg) (base := base) (k := 0) F29 m2 m9
  have O30 := ok_stat (P := l.prog) (w := w) (K := K) (mg := mg) (base := base) F30 ⟨O6, g6, k6, b6⟩ ⟨O28, g28, k28, b28⟩ ⟨O7, g7, k7, b7⟩ ⟨O29, g29, k29, b29⟩ gN m2 m11 m12
  have O31 := ok_ispl (P := l.prog) (w := w) (K := K) (mg := mg) (base := base) F31 ⟨O11, g11, k11, b11⟩ ⟨O15, g15, k15, b15⟩ ⟨O13, g13, k13, b13⟩ gN gST gBE m6 m12 m5 m0
  have O32 := ok_lookp (P := l.prog) (w := w) (K := K) (mg := mg) (base := base) F32 ⟨O31, g31, k31, b31⟩
  have O33 := ok_pdepth (P := l.prog) (w := w) (K := K) (mg := mg) (base := base) F33 gBE m6
  have O34 := ok_depth (P := l.prog) (w := w) (K := K) (mg := mg) (base := base) F34 ⟨O32, g32, k32, b32⟩ ⟨O33, g33, k33, b33⟩
  have O35 := ok_bdg (P := l.prog) (w := w) (K := K) (mg := mg) (base := base) (k := 0) F35 m6 m12
  have O36 := ok_dgs (P := l.prog) (w := w) (K := K) (mg := mg) (base := base) F36 ⟨O22, g22, k22, b22⟩ ⟨FnOk.mono O35 (show 1 ≤ 7 by decide), g35, k35, b35⟩
  have O37 := ok_bnum (P := l.prog) (w := w) (K := K) (mg := mg) (base := base) (k := 0) F37 
  have O38 := ok_sec (P := l.prog) (w := w) (K := K) (mg := mg) (base := base) F38 ⟨O26, g26, k26, b26⟩
  have O39 := ok_snum (P := l.prog) (w := w) (K := K) (mg := mg) (base := base) F39 ⟨O38, g38, k38, b38⟩
  have O40 := ok_stnum (P := l.prog) (w := w) (K := K) (mg := mg) (base := base) F40 ⟨O22, g22, k22, b22⟩ ⟨O7, g7, k7, b7⟩ ⟨O37, g37, k37, b37⟩ ⟨O6, g6, k6, b6⟩ ⟨O39, g39, k39, b39⟩ gN m6
  have O41 := ok_pstep (P := l.prog) (w := w) (K := K) (mg := mg) (base := base) F41 gST gSA hSm
  have O42 := ok_sop (P := l.prog) (w := w) (K := K) (mg := mg) (base := base) F42 ⟨O32, g32, k32, b32⟩ ⟨O41, g41, k41, b41⟩
  have O43 := ok_no (P := l.prog) (w := w) (K := K) (mg := mg) (base := base) (k := 0) F43 gI hI
  have O44 := ok_rank (P := l.prog) (w := w) (K := K) (mg := mg) (base := base) (k := 0) F44 
  have O45 := ok_inb (P := l.prog) (w := w) (K := K) (mg := mg) (base := base) F45 ⟨O30, g30, k30, b30⟩ ⟨O24, g24, k24, b24⟩ ⟨O36, g36, k36, b36⟩ ⟨O40, g40, k40, b40⟩ ⟨O42, g42, k42, b42⟩ ⟨O43, g43, k43, b43⟩ ⟨O44, g44, k44, b44⟩ kb0 m10
  have O46 := ok_ldep (P := l.prog) (w := w) (K := K) (mg := mg) (base := base) F46 m6 m4
  have O47 := ok_lah (P := l.prog) (w := w) (K := K) (mg := mg) (base := base) F47 
  have O48 := ok_lch (P := l.prog) (w := w) (K := K) (mg := mg) (base := base) F48 ⟨O46, g46, k46, b46⟩ ⟨O47, g47, k47, b47⟩ m9
  have O49 := ok_pahead (P := l.prog) (w := w) (K := K) (mg := mg) (base := base) F49 gST gBE gRO hR m6
  have O50 := ok_ahead (P := l.prog) (w := w) (K := K) (mg := mg) (base := base) F50 ⟨O32, g32, k32, b32⟩ ⟨O49, g49, k49, b49⟩
  have O51 := ok_mbh (P := l.prog) (w := w) (K := K) (mg := mg) (base := base) F51 ⟨O32, g32, k32, b32⟩ gST gRO hR m9
  have O52 := ok_alc (P := l.prog) (w := w) (K := K) (mg := mg) (base := base) F52 ⟨O48, g48, k48, b48⟩ ⟨O50, g50, k50, b50⟩ ⟨O51, g51, k51, b51⟩ ⟨O1, g1, k1, b1⟩ kb1 m10 m13 m6
  exact ok_law F53 ⟨O0, g0, k0, b0⟩ ⟨O3, g3, k3, b3⟩ ⟨O1, g1, k1, b1⟩ ⟨O5, g5, k5, b5⟩ ⟨O6, g6, k6, b6⟩ ⟨O8, g8, k8, b8⟩ ⟨O10, g10, k10, b10⟩ ⟨O24, g24, k24, b24⟩ ⟨O30, g30, k30, b30⟩ ⟨O34, g34, k34, b34⟩ O45 g45 k45 b45 O52 g52 k52 b52 kb2 kb3 m10 m9 m12
end K13
set_option Elab.async false
set_option linter.all false
set_option maxRecDepth 100000
set_option maxHeartbeats 2000000
namespace HX
open PySem PySem.Spec PyProof.Rows L2
/-- a law: F gives the written part, the function object, the promise over every base -/
theorem walkGE {l : PySem.W.OpenLaw} {n k : Nat} {q : Program} {loose : List Str} {XP : (Str → Option Value) → Heap → Prop} {YP : World → Heap → Prop} {d : DefRec} {x : Str}
    (hn : l.most = some n) (hn2 : n ≤ sizeLine) (hdf : d.params.defaults = []) (hr : Room k callerA)
    (F : ∀ (w : World) (mg : Str → Option Value) (fa : Addr) (h : Heap), YP w h → h.Ns mainGlobals mg → mg d.name = some (.ref fa) →
      ∃ (K : PySem.W.Frag) (sp : Sp), K.In h ∧ (∀ (H : Hp) (a : Addr) (ns : List Int), ns.length ≤ n → Only H → SqL K H a (ns.map V.int) → sp [.ref a] H (fun v _ => v = .bl true) fun _ _ _ => False) ∧
        ∃ fd : FuncData, (∀ (s : Shared) (u : Value), BindsTo s fd ⟨[u], []⟩ [(x, u)]) ∧ ∀ base : Heap, K.In base → base.Ns mainGlobals mg → BP.GFn l.prog w K mg base k fa fd [x] sp) :
    PySem.W.WalkO q loose XP YP l.row.toRowW d [] (fun f vs => PySem.call f vs) := by
  refine Att.attach_call hn hdf fun w s₀ s₁ mg mb fa o pm cd doc a vs ns G Y ho hd hcd hmg hobj hints hlen hg => ?_
  obtain ⟨K, sp, KX, hsp, fd, hb, hF⟩ := F w mg fa _ Y G.T.g hmg
  exact BP.law_callG KX G.T.g G.T.b G.T.builtins G.T.nolimit hg hobj hints (Nat.le_trans hlen hn2) hr hF hb (fun H o sq => hsp H a ns hlen o sq)
end HX
set_option Elab.async false
set_option linter.all false
set_option maxRecDepth 100000
set_option maxHeartbeats 0
namespace HY
open PySem PySem.Spec PyProof.Rows L2 BP Fld K13 BP
theorem facts {w : World} {K : PySem.W.Frag} {h : Heap} {mg : Str → Option Value} {f : Addr} (X : K.In h) (G : h.Ns mainGlobals mg) (hfa : mg ("law" : Str) = some (.ref f)) (c : He.SaysE fa fn K) (x : ex K = true) :
    ∃ fd : FuncData, (∀ (s : Shared) (v : Value), BindsTo s fd ⟨[v], []⟩ [("_law_script", v)]) ∧ ∀ base : Heap, K.In base → base.Ns mainGlobals mg → GFn PySem.Challenge.rw_bentplane_k32_whole_places_and_steps_cou.prog w K mg base 10 f fd ["_law_script"] (spLaw K) := by
  unfold ex at x
  obtain ⟨x, x7⟩ := He.ba x
  obtain ⟨x, x6⟩ := He.ba x
  obtain ⟨x, x5⟩ := He.ba x
  obtain ⟨x, x4⟩ := He.ba x
  obtain ⟨x, x3⟩ := He.ba x
  obtain ⟨x, x2⟩ := He.ba x
  obtain ⟨x0, x1⟩ := He.ba x
  obtain ⟨tk, aN⟩ := HX.intB_ok x5
  obtain ⟨tk0, aST⟩ := HX.strB_ok x6
  obtain ⟨tk1, aBE⟩ := HX.strB_ok x7
  obtain ⟨oc0, od0, sl0, kV0, dc0, pm0, an0, cd0, ct0, l0, e0⟩ := c.def_ 0 rfl
  obtain ⟨oc1, od1, sl1, kV1, dc1, pm1, an1, cd1, ct1, l1, e1⟩ := c.def_ 1 rfl
  obtain ⟨oc2, od2, sl2, kV2, dc2, pm2, an2, cd2, ct2, l2, e2⟩ := c.def_ 2 rfl
  obtain ⟨oc3, od3, sl3, kV3, dc3, pm3, an3, cd3, ct3, l3, e3⟩ := c.def_ 3 rfl
  obtain ⟨oc4, od4, sl4, kV4, dc4, pm4, an4, cd4, ct4, l4, e4⟩ := c.def_ 4 rfl
  obtain ⟨oc5, od5, sl5, kV5, dc5, pm5, an5, cd5, ct5, l5, e5⟩ := c.def_ 5 rfl
  obtain ⟨oc6, od6, sl6, kV6, dc6, pm6, an6, cd6, ct6, l6, e6⟩ := c.def_ 6 rfl
  obtain ⟨oc7, od7, sl7, kV7, dc7, pm7, an7, cd7, ct7, l7, e7⟩ := c.def_ 7 rfl
  obtain ⟨oc8, od8, sl8, kV8, dc8, pm8, an8, cd8, ct8, l8, e8⟩ := c.def_ 8 rfl
  obtain ⟨oc9, od9, sl9, kV9, dc9, pm9, an9, cd9, ct9, l9, e9⟩ := c.def_ 9 rfl
  obtain ⟨oc10, od10, sl10, kV10, dc10, pm10, an10, cd10, ct10, l10, e10⟩ := c.def_ 10 rfl
  obtain ⟨oc11, od11, sl11, kV11, dc11, pm11, an11, cd11, ct11, l11, e11⟩ := c.def_ 11 rfl
  obtain ⟨oc12, od12, sl12, kV12, dc12, pm12, an12, cd12, ct12, l12, e12⟩ := c.def_ 12 rfl
  obtain ⟨oc13, od13, sl13, kV13, dc13, pm13, an13, cd13, ct13, l13, e13⟩ := c.def_ 13 rfl
  obtain ⟨oc14, od14, sl14, kV14, dc14, pm14, an14, cd14, ct14, l14, e14⟩ := c.def_ 14 rfl
  obtain ⟨oc15, od15, sl15, kV15, dc15, pm15, an15, cd15, ct15, l15, e15⟩ := c.def_ 15 rfl
  obtain ⟨oc16, od16, sl16, kV16, dc16, pm16, an16, cd16, ct16, l16, e16⟩ := c.def_ 16 rfl
  obtain ⟨oc17, od17, sl17, kV17, dc17, pm17, an17, cd17, ct17, l17, e17⟩ := c.def_ 17 rfl
  obtain ⟨oc18, od18, sl18, kV18, dc18, pm18, an18, cd18, ct18, l18, e18⟩ := c.def_ 18 rfl
  obtain ⟨oc19, od19, sl19, kV19, dc19, pm19, an19, cd19, ct19, l19, e19⟩ := c.def_ 19 rfl
  obtain ⟨oc20, od20, sl20, kV20, dc20, pm20, an20, cd20, ct20, l20, e20⟩ := c.def_ 20 rfl
  obtain ⟨oc21, od21, sl21, kV21, dc21, pm21, an21, cd21, ct21, l21, e21⟩ := c.def_ 21 rfl
  obtain ⟨oc22, od22, sl22, kV22, dc22, pm22, an22, cd22, ct22, l22, e22⟩ := c.def_ 22 rfl
  obtain ⟨oc23, od23, sl23, kV23, dc23, pm23, an23, cd23, ct23, l23, e23⟩ := c.def_ 23 rfl
  obtain ⟨oc24, od24, sl24, kV24, dc24, pm24, an24, cd24, ct24, l24, e24⟩ := c.def_ 24 rfl
  obtain ⟨oc25, od25, sl25, kV25, dc25, pm25, an25, cd25, ct25, l25, e25⟩ := c.def_ 25 rfl
  obtain ⟨oc26, od26, sl26, kV26, dc26, pm26, an26, cd26, ct26, l26, e26⟩ := c.def_ 26 rfl
  obtain ⟨oc27, od27, sl27, kV27, dc27, pm27, an27, cd27, ct27, l27, e27⟩ := c.def_ 27 rfl
  obtain ⟨oc28, od28, sl28, kV28, dc28, pm28, an28, cd28, ct28, l28, e28⟩ := c.def_ 28 rfl
  obtain ⟨oc29, od29, sl29, kV29, dc29, pm29, an29, cd29, ct29, l29, e29⟩ := c.def_ 29 rfl
  obtain ⟨oc30, od30, sl30, kV30, dc30, pm30, an30, cd30, ct30, l30, e30⟩ := c.def_ 30 rfl
  obtain ⟨oc31, od31, sl31, kV31, dc31, pm31, an31, cd31, ct31, l31, e31⟩ := c.def_ 31 rfl
  obtain ⟨oc32, od32, sl32, kV32, dc32, pm32, an32, cd32, ct32, l32, e32⟩ := c.def_ 32 rfl
  obtain ⟨oc33, od33, sl33, kV33, dc33, pm33, an33, cd33, ct33, l33, e33⟩ := c.def_ 33 rfl
  obtain ⟨oc34, od34, sl34, kV34, dc34, pm34, an34, cd34, ct34, l34, e34⟩ := c.def_ 34 rfl
  obtain ⟨oc35, od35, sl35, kV35, dc35, pm35, an35, cd35, ct35, l35, e35⟩ := c.def_ 35 rfl
  obtain ⟨oc36, od36, sl36, kV36, dc36, pm36, an36, cd36, ct36, l36, e36⟩ := c.def_ 36 rfl
  obtain ⟨oc37, od37, sl37, kV37, dc37, pm37, an37, cd37, ct37, l37, e37⟩ := c.def_ 37 rfl
  obtain ⟨oc38, od38, sl38, kV38, dc38, pm38, an38, cd38, ct38, l38, e38⟩ := c.def_ 38 rfl
  obtain ⟨oc39, od39, sl39, kV39, dc39, pm39, an39, cd39, ct39, l39, e39⟩ := c.def_ 39 rfl
  obtain ⟨oc40, od40, sl40, kV40, dc40, pm40, an40, cd40, ct40, l40, e40⟩ := c.def_ 40 rfl
  obtain ⟨oc41, od41, sl41, kV41, dc41, pm41, an41, cd41, ct41, l41, e41⟩ := c.def_ 41 rfl
  obtain ⟨oc42, od42, sl42, kV42, dc42, pm42, an42, cd42, ct42, l42, e42⟩ := c.def_ 42 rfl
  obtain ⟨oc43, od43, sl43, kV43, dc43, pm43, an43, cd43, ct43, l43, e43⟩ := c.def_ 43 rfl
  obtain ⟨oc44, od44, sl44, kV44, dc44, pm44, an44, cd44, ct44, l44, e44⟩ := c.def_ 44 rfl
  obtain ⟨oc45, od45, sl45, kV45, dc45, pm45, an45, cd45, ct45, l45, e45⟩ := c.def_ 45 rfl
  obtain ⟨oc46, od46, sl46, kV46, dc46, pm46, an46, cd46, ct46, l46, e46⟩ := c.def_ 46 rfl
  obtain ⟨oc47, od47, sl47, kV47, dc47, pm47, an47, cd47, ct47, l47, e47⟩ := c.def_ 47 rfl
  obtain ⟨oc48, od48, sl48, kV48, dc48, pm48, an48, cd48, ct48, l48, e48⟩ := c.def_ 48 rfl
  obtain ⟨oc49, od49, sl49, kV49, dc49, pm49, an49, cd49, ct49, l49, e49⟩ := c.def_ 49 rfl
  obtain ⟨oc50, od50, sl50, kV50, dc50, pm50, an50, cd50, ct50, l50, e50⟩ := c.def_ 50 rfl
  obtain ⟨oc51, od51, sl51, kV51, dc51, pm51, an51, cd51, ct51, l51, e51⟩ := c.def_ 51 rfl
  obtain ⟨oc52, od52, sl52, kV52, dc52, pm52, an52, cd52, ct52, l52, e52⟩ := c.def_ 52 rfl
  obtain ⟨oc53, od53, sl53, kV53, dc53, pm53, an53, cd53, ct53, l53, e53⟩ := c.def_ 53 rfl
  exact K13.all_mk X G hfa (He.eqO_ok (c.fact 108 rfl)) (He.eqO_ok (c.fact 109 rfl)) x0 x1 aN (He.eqO_ok (c.fact 110 rfl)) x2 aST aBE (He.eqO_ok (c.fact 111 rfl)) x3 (He.eqO_ok (c.fact 112 rfl)) x4 (He.eqO_ok (c.fact 0 rfl)) l0 e0 (He.keep_ok (x := "_law_deck") (c.fact 1 rfl)) (He.eqO_ok (c.fact 2 rfl)) l1 e1 (He.keep_ok (x := "_law_draw") (c.fact 3 rfl)) (He.eqO_ok (c.fact 4 rfl)) l2 e2 (He.keep_ok (x := "_law_pick") (c.fact 5 rfl)) (He.eqO_ok (c.fact 6 rfl)) l3 e3 (He.keep_ok (x := "_law_some_field") (c.fact 7 rfl)) (He.eqO_ok (c.fact 8 rfl)) l4 e4 (He.keep_ok (x := "_law_power") (c.fact 9 rfl)) (He.eqO_ok (c.fact 10 rfl)) l5 e5 (He.keep_ok (x := "_law_many_places") (c.fact 11 rfl)) (He.eqO_ok (c.fact 12 rfl)) l6 e6 (He.keep_ok (x := "many_straight") (c.fact 13 rfl)) (He.eqO_ok (c.fact 14 rfl)) l7 e7 (He.keep_ok (x := "many_bends") (c.fact 15 rfl)) (He.eqO_ok (c.fact 16 rfl)) l8 e8 (He.keep_ok (x := "many_steps") (c.fact 17 rfl)) (He.eqO_ok (c.fact 18 rfl)) l9 e9 (He.keep_ok (x := "_law_great") (c.fact 19 rfl)) (He.eqO_ok (c.fact 20 rfl)) l10 e10 (He.keep_ok (x := "_law_edge") (c.fact 21 rfl)) (He.eqO_ok (c.fact 22 rfl)) l11 e11 (He.keep_ok (x := "is_integer") (c.fact 23 rfl)) (He.eqO_ok (c.fact 24 rfl)) l12 e12 (He.keep_ok (x := "is_number") (c.fact 25 rfl)) (He.eqO_ok (c.fact 26 rfl)) l13 e13 (He.keep_ok (x := "are_numbers") (c.fact 27 rfl)) (He.eqO_ok (c.fact 28 rfl)) l14 e14 (He.keep_ok (x := "is_one_letter") (c.fact 29 rfl)) (He.eqO_ok (c.fact 30 rfl)) l15 e15 (He.keep_ok (x := "is_bend") (c.fact 31 rfl)) (He.eqO_ok (c.fact 32 rfl)) l16 e16 (He.keep_ok (x := "opposite") (c.fact 33 rfl)) (He.eqO_ok (c.fact 34 rfl)) l17 e17 (He.keep_ok (x := "minus") (c.fact 35 rfl)) (He.eqO_ok (c.fact 36 rfl)) l18 e18 (He.keep_ok (x := "times") (c.fact 37 rfl)) (He.eqO_ok (c.fact 38 rfl)) l19 e19 (He.keep_ok (x := "straight_determinant") (c.fact 39 rfl)) (He.eqO_ok (c.fact 40 rfl)) l20 e20 (He.keep_ok (x := "is_straight") (c.fact 41 rfl)) (He.eqO_ok (c.fact 42 rfl)) l21 e21 (He.keep_ok (x := "is_step") (c.fact 43 rfl)) (He.eqO_ok (c.fact 44 rfl)) l22 e22 (He.keep_ok (x := "look_at_steps") (c.fact 45 rfl)) (He.eqO_ok (c.fact 46 rfl)) l23 e23 (He.keep_ok (x := "place_by_step") (c.fact 47 rfl)) (He.eqO_ok (c.fact 48 rfl)) l24 e24 (He.keep_ok (x := "place_of") (c.fact 49 rfl)) (He.eqO_ok (c.fact 50 rfl)) l25 e25 (He.keep_ok (x := "inverse") (c.fact 51 rfl)) (He.eqO_ok (c.fact 52 rfl)) l26 e26 (He.keep_ok (x := "barred_number") (c.fact 53 rfl)) (He.eqO_ok (c.fact 54 rfl)) l27 e27 (He.keep_ok (x := "second_at") (c.fact 55 rfl)) (He.eqO_ok (c.fact 56 rfl)) l28 e28 (He.keep_ok (x := "straight_at") (c.fact 57 rfl)) (He.eqO_ok (c.fact 58 rfl)) l29 e29 (He.keep_ok (x := "bend_at") (c.fact 59 rfl)) (He.eqO_ok (c.fact 60 rfl)) l30 e30 (He.keep_ok (x := "step_at") (c.fact 61 rfl)) (He.eqO_ok (c.fact 62 rfl)) l31 e31 (He.keep_ok (x := "is_place") (c.fact 63 rfl)) (He.eqO_ok (c.fact 64 rfl)) l32 e32 (He.keep_ok (x := "look_at_places") (c.fact 65 rfl)) (He.eqO_ok (c.fact 66 rfl)) l33 e33 (He.keep_ok (x := "place_depth") (c.fact 67 rfl)) (He.eqO_ok (c.fact 68 rfl)) l34 e34 (He.keep_ok (x := "depth") (c.fact 69 rfl)) (He.eqO_ok (c.fact 70 rfl)) l35 e35 (He.keep_ok (x := "bend_degrees") (c.fact 71 rfl)) (He.eqO_ok (c.fact 72 rfl)) l36 e36 (He.keep_ok (x := "degrees_of") (c.fact 73 rfl)) (He.eqO_ok (c.fact 74 rfl)) l37 e37 (He.keep_ok (x := "bend_number") (c.fact 75 rfl)) (He.eqO_ok (c.fact 76 rfl)) l38 e38 (He.keep_ok (x := "second_number") (c.fact 77 rfl)) (He.eqO_ok (c.fact 78 rfl)) l39 e39 (He.keep_ok (x := "straight_number") (c.fact 79 rfl)) (He.eqO_ok (c.fact 80 rfl)) l40 e40 (He.keep_ok (x := "step_number") (c.fact 81 rfl)) (He.eqO_ok (c.fact 82 rfl)) l41 e41 (He.keep_ok (x := "place_step") (c.fact 83 rfl)) (He.eqO_ok (c.fact 84 rfl)) l42 e42 (He.keep_ok (x := "step_of_place") (c.fact 85 rfl)) (He.eqO_ok (c.fact 86 rfl)) l43 e43 (He.keep_ok (x := "nothing") (c.fact 87 rfl)) (He.eqO_ok (c.fact 88 rfl)) l44 e44 (He.keep_ok (x := "_law_rank") (c.fact 89 rfl)) (He.eqO_ok (c.fact 90 rfl)) l45 e45 (He.keep_ok (x := "_law_in_block") (c.fact 91 rfl)) (He.eqO_ok (c.fact 92 rfl)) l46 e46 (He.keep_ok (x := "_law_depth") (c.fact 93 rfl)) (He.eqO_ok (c.fact 94 rfl)) l47 e47 (He.keep_ok (x := "_law_ahead") (c.fact 95 rfl)) (He.eqO_ok (c.fact 96 rfl)) l48 e48 (He.keep_ok (x := "_law_chain") (c.fact 97 rfl)) (He.eqO_ok (c.fact 98 rfl)) l49 e49 (He.keep_ok (x := "place_ahead") (c.fact 99 rfl)) (He.eqO_ok (c.fact 100 rfl)) l50 e50 (He.keep_ok (x := "ahead") (c.fact 101 rfl)) (He.eqO_ok (c.fact 102 rfl)) l51 e51 (He.keep_ok (x := "many_behind") (c.fact 103 rfl)) (He.eqO_ok (c.fact 104 rfl)) l52 e52 (He.keep_ok (x := "_law_along_chain") (c.fact 105 rfl)) (He.eqO_ok (c.fact 106 rfl)) l53 e53 (He.keep_ok (x := "law") (c.fact 107 rfl)) (He.eqO_ok (c.fact 113 rfl)) (He.eqO_ok (c.fact 114 rfl)) (He.eqO_ok (c.fact 115 rfl)) (He.eqO_ok (c.fact 116 rfl)) (He.eqO_ok (c.fact 117 rfl)) (He.eqO_ok (c.fact 118 rfl)) (He.eqO_ok (c.fact 119 rfl)) (He.eqO_ok (c.fact 120 rfl)) (He.eqO_ok (c.fact 121 rfl)) (He.eqO_ok (c.fact 122 rfl)) (He.eqO_ok (c.fact 123 rfl)) (He.eqO_ok (c.fact 124 rfl)) (He.eqO_ok (c.fact 125 rfl)) (He.eqO_ok (c.fact 126 rfl))
end HY
open PySem PySem.W PyProof.Rows
theorem PySem.Challenge.cw_bentplane_k32_whole_places_and_steps_cou_holds : PySem.Challenge.rw_bentplane_k32_whole_places_and_steps_cou.Holds := by
  w_on; o_law
  refine HandSHeadRun.head_any (r := OpenLaw.row PySem.Challenge.rw_bentplane_k32_whole_places_and_steps_cou) (q := HY.qv) (H := HY.hk) (ob := HY.ob) (M := 20000) (loose := HY.loose) (d := HandSHeadRun.topDef (OpenLaw.row PySem.Challenge.rw_bentplane_k32_whole_places_and_steps_cou).prog 77) (kwd := []) HY.ob_eq
    (by kernel_rfl) (fun s => by kernel_rfl) HY.run (by kernel_rfl) (by kernel_rfl) (by kernel_rfl) (by rfl) (by first | assumption | decide +kernel) (by decide +kernel) ⟨rfl, rfl, rfl, rfl, rfl, by decide +kernel⟩ ?hw ?hc
  case hw => w_witness2
  case hc =>
    refine HX.walkGE (l := PySem.Challenge.rw_bentplane_k32_whole_places_and_steps_cou) (n := 63) (k := 10) (x := "_law_script") rfl (by decide) (by kernel_rfl) ⟨rfl, by decide, by decide⟩ ?F
    intro w mg fa h Y G hmg0
    obtain ⟨K, KX, c, x⟩ := Y
    have hmg : mg ("law" : PySem.Str) = some (.ref fa) := by
      have e : (HandSHeadRun.topDef (OpenLaw.row PySem.Challenge.rw_bentplane_k32_whole_places_and_steps_cou).prog 77).name = ("law" : PySem.Str) := by kernel_rfl
      rw [← e]
      exact hmg0
    exact ⟨K, BP.spLaw K, KX, fun H a ns hl _ hS => ⟨a, ns, rfl, hS, hl, fun _ => rfl⟩, HY.facts KX G hmg c x⟩
